/- The reference's writers. -/
import Derived.Test.YtoimmmcmlbaenaaCApa
namespace Go.Proofs.Ytoimmmcmlbaenaa
open Go.RowKit

set_option maxRecDepth 100000 in
set_option maxHeartbeats 1000000 in
theorem unsigned_any (n : Nat) (w : World) (hn : n < 18446744073709551616) :
    Calls Try.prog 38 #[.int .u64 (n : Int)] w
      fun e w' => e = .returned (.string ⟨(uvL n).toArray⟩) ∧ Below w.heap.size w w' := by
  obtain ⟨i0, hi, hz0, hz1, hz2⟩ := info_parts infoU8
  have hten := uvL_ten n hn
  have ho := own_empty w w.heap.size 5 (Nat.le_refl _)
  have hb := (Below.refl w.heap.size w).alloc (Nat.le_refl _) (.cells #[] 5)
  have HO := hid (And.intro ho hb)
  clear ho hb
  go_enter Try.func38, Try.ntmps38
  go_wp2_with fail
  go_loopw [0, 3] (fun g t wr => ∃ (m : Nat) (d : List UInt8), g = .int .u64 (m : Int) ∧ m < 18446744073709551616 ∧ d ++ uvL m = uvL n ∧ OwnB wr w.heap.size t d ∧ Below w.heap.size w wr) (fun g _ _ => (intOf g).toNat)
  case atStart => exact ⟨n, [], rfl, hn, rfl, HO.out.1, HO.out.2⟩
  case round =>
    obtain ⟨m, d, rfl, hm, hd, ho, hb⟩ := hrel
    have hdl : d.length + (uvL m).length ≤ 10 := by have h := congrArg List.length hd; rw [List.length_append] at h; omega
    have KO := hid (And.intro ho (And.intro hb (And.intro hd hb.size)))
    clear ho hb hd
    by_cases hlt : m < 128
    · have hcs := last_byte m hlt
      have hlen : d.length + 1 ≤ 140737488355328 := by omega
      go_wp2_with (at_builtin; refine wpList_append_own _ rfl _ _ 52 rfl w.heap.size 5 i0 (.int .u8 0) 1 1 Try.underlying52 hi hz0 hz1 hz2 rfl (by decide) _ _ _ rfl (World.ownsRow.alloc KO.out.1 _) ⟨wr.heap.size, 0, none⟩ 1 1 _ rfl rfl (cell_one_new _ _ _) (fun x hx => by simp at hx; subst hx; rfl) (by unfold maxLen; omega) (by omega) (alloc_le KO.out.2.2.2 _) ?_; intro v' w3 hown' hgrow3 hnil3; have hb2 : Below w.heap.size w w3 := Below.grown (KO.out.2.1.alloc KO.out.2.2.2 _) hgrow3 (alloc_le KO.out.2.2.2 _) (own_base KO.out.1); (try simp only [IntKind.wrap_u8] at hown'); (try simp only [IntKind.wrap_u8] at hcs); rw [hcs] at hown'; have hown2 := OwnB_snoc hown'; have hcv := OwnB_string hown2; have KB := hid hb2; clear hown' hgrow3 hnil3 hown2 hb2 hcs)
      go_ret
      refine ⟨?_, KB.out⟩
      have e1 : uvL n = d ++ [UInt8.ofNat m] := by rw [← KO.out.2.2.1, uvL_less m hlt]
      rw [e1]
      rfl
    · have hcs : (m : Int) % 128 + 128 = ((UInt8.ofNat (m % 128 + 128)).toNat : Int) := by
        rw [UInt8.toNat_ofNat_of_lt' (by show m % 128 + 128 < 256; omega)]; omega
      have HS := hid hcs
      clear hcs
      have hlen : d.length + 1 ≤ 140737488355328 := by omega
      go_wp2_with (at_builtin; refine wpList_append_own _ rfl _ _ 52 rfl w.heap.size 5 i0 (.int .u8 0) 1 1 Try.underlying52 hi hz0 hz1 hz2 rfl (by decide) _ _ _ rfl (World.ownsRow.alloc KO.out.1 _) ⟨wr.heap.size, 0, none⟩ 1 1 _ rfl rfl (cell_one_new _ _ _) (fun x hx => by simp at hx; subst hx; rfl) (by unfold maxLen; omega) (by omega) (alloc_le KO.out.2.2.2 _) ?_; intro v' w3 hown' hgrow3 hnil3; have hb2 : Below w.heap.size w w3 := Below.grown (KO.out.2.1.alloc KO.out.2.2.2 _) hgrow3 (alloc_le KO.out.2.2.2 _) (own_base KO.out.1))
      rw [HS.out] at hown'
      refine ⟨⟨m / 128, d ++ [UInt8.ofNat (m % 128 + 128)], by go_num, by omega, ?_, OwnB_snoc hown', hb2⟩, by simp [intOf]; omega⟩
      rw [← KO.out.2.2.1, uvL_more m hlt, List.append_assoc]; rfl

set_option maxRecDepth 100000 in
set_option maxHeartbeats 1000000 in
theorem refuint_neg (a : Int) (w : World) (h : a < 0) :
    Calls Try.prog 13 #[.int .i64 a] w
      fun e w' => e = .returned (.tuple #[.string ⟨#[]⟩, .int .i64 2]) ∧ Below w.heap.size w w' := by
  go_enter Try.func13, Try.ntmps13
  go_wp2_with fail
  go_ret2
  exact ⟨rfl, Below.refl _ _⟩
set_option maxRecDepth 100000 in
set_option maxHeartbeats 1000000 in
theorem refuint_nat (n : Nat) (w : World) (h : n < 9223372036854775808) :
    Calls Try.prog 13 #[.int .i64 (n : Int)] w
      fun e w' => e = .returned (.tuple #[.string ⟨(uvL n).toArray⟩, .int .i64 0]) ∧ Below w.heap.size w w' := by
  have q : IntKind.u64.wrap (n : Int) = (n : Int) := by rw [IntKind.wrap_u64]; omega
  have HM := hid (unsigned_any n w (by omega))
  go_enter Try.func13, Try.ntmps13
  go_wp2_with fail
  refine HM.out.mono ?_
  rintro e w3 ⟨rfl, hb⟩
  have KB := hid hb
  clear hb
  go_wp2_with fail
  go_ret2
  exact ⟨rfl, KB.out⟩
set_option maxRecDepth 100000 in
set_option maxHeartbeats 1000000 in
theorem refint_any (a : Int) (w : World) (h0 : -9223372036854775808 ≤ a) (h1 : a ≤ 9223372036854775807) :
    Calls Try.prog 15 #[.int .i64 a] w
      fun e w' => e = .returned (.string ⟨(uvL (zig a)).toArray⟩) ∧ Below w.heap.size w w' := by
  have HM := hid (unsigned_any (zig a) w (zig_lt a h0 h1))
  by_cases hn : a < 0
  · have q0 : IntKind.i64.wrap (a + 1) = a + 1 := by rw [IntKind.wrap_i64]; omega
    have q0' : IntKind.i64.wrap (-(a + 1)) = -(a + 1) := by rw [IntKind.wrap_i64]; omega
    have q1 : IntKind.u64.wrap (-(a + 1)) = -(a + 1) := by rw [IntKind.wrap_u64]; omega
    have q2 : IntKind.u64.wrap (2 * -(a + 1)) = 2 * -(a + 1) := by rw [IntKind.wrap_u64]; omega
    have q3 : IntKind.u64.wrap (2 * -(a + 1) + 1) = 2 * -(a + 1) + 1 := by rw [IntKind.wrap_u64]; omega
    have hz : ((zig a : Nat) : Int) = 2 * -(a + 1) + 1 := by unfold zig; rw [if_pos hn]; omega
    have HZ := hid hz
    clear hz
    go_enter Try.func15, Try.ntmps15
    go_wp2_with fail
    simp only [← HZ.out]
    refine HM.out.mono ?_
    rintro e w3 ⟨rfl, hb⟩
    have KB := hid hb
    clear hb
    go_wp2_with fail
    go_ret
    exact ⟨rfl, KB.out⟩
  · have q1 : IntKind.u64.wrap a = a := by rw [IntKind.wrap_u64]; omega
    have q2 : IntKind.u64.wrap (2 * a) = 2 * a := by rw [IntKind.wrap_u64]; omega
    have hz : ((zig a : Nat) : Int) = 2 * a := by unfold zig; rw [if_neg hn]; omega
    have HZ := hid hz
    clear hz
    go_enter Try.func15, Try.ntmps15
    go_wp2_with fail
    simp only [← HZ.out]
    refine HM.out.mono ?_
    rintro e w3 ⟨rfl, hb⟩
    have KB := hid hb
    clear hb
    go_wp2_with fail
    go_ret
    exact ⟨rfl, KB.out⟩
set_option maxRecDepth 100000 in
set_option maxHeartbeats 1000000 in
theorem reftext_any (s : ByteArray) (w : World) (hs : s.size ≤ 35184372088832) :
    Calls Try.prog 17 #[.string s] w
      fun e w' => e = .returned (.string (ba (encU s))) ∧ Below w.heap.size w w' := by
  have q : IntKind.u64.wrap (s.size : Int) = (s.size : Int) := by rw [IntKind.wrap_u64]; omega
  have hten := uvL_ten s.size (by omega)
  obtain ⟨U, hU⟩ : ∃ U, U = ba (uvL s.size) := ⟨_, rfl⟩
  have hu : Calls Try.prog 38 #[.int .u64 (s.size : Int)] w fun e w' => e = .returned (.string U) ∧ Below w.heap.size w w' := by rw [hU]; exact unsigned_any s.size w (by omega)
  have zU : U.size ≤ 10 := by rw [hU, ba_size]; exact hten
  have hno : (9223372036854775807 < U.size + s.size) = False := by simp; omega
  have he : U ++ s = ba (encU s) := by rw [hU]; conv => lhs; rw [← ba_eta s, ba_append]
                                       rfl
  have HM := hid (And.intro hu he)
  clear hu he hten hU
  go_enter Try.func17, Try.ntmps17
  go_wp2_with fail
  refine HM.out.1.mono ?_
  rintro e w3 ⟨rfl, hb⟩
  have KB := hid hb
  clear hb
  go_wp2_with fail
  go_ret
  exact ⟨by rw [← HM.out.2]; rfl, KB.out⟩
set_option maxRecDepth 100000 in
set_option maxHeartbeats 1000000 in
theorem reftexts_any (v : Value) (ps : List ByteArray) (w : World) (hv : StrS w v ps) (hb : ps.length + sizes ps ≤ 1048576) :
    Calls Try.prog 19 #[v] w
      fun e w' => e = .returned (.string (ba (encT ps))) ∧ Below w.heap.size w w' := by
  obtain ⟨base, cap, rfl, hps⟩ := hv
  have HPS := hid hps
  clear hps
  have q : IntKind.u64.wrap (ps.length : Int) = (ps.length : Int) := by rw [IntKind.wrap_u64]; omega
  have HM := hid (unsigned_any ps.length w (by omega))
  go_enter Try.func19, Try.ntmps19
  go_wp2_with fail
  refine HM.out.mono ?_
  rintro e w1 ⟨rfl, hb1⟩
  have K1 := hid hb1
  clear hb1
  go_wp2_with fail
  go_loopw [3, 4] (fun t i wr => ∃ (k : Nat) (S : ByteArray), k ≤ ps.length ∧ i = .int .i64 k ∧ t = .string S ∧ S = ba (uvL ps.length ++ encUs (ps.take k)) ∧ Below w.heap.size w wr) (fun _ i _ => ps.length - (intOf i).toNat)
  case atStart => exact ⟨0, _, by omega, rfl, rfl, by simp [encUs, ba], K1.out⟩
  case round =>
    obtain ⟨k, S, hk, rfl, rfl, hS, hbw⟩ := hrel
    by_cases hlt : k < ps.length
    · obtain ⟨b, o, rfl, hc⟩ := HPS.out k hlt
      have hc2 := (hbw.cell (p := ⟨b, o + k, none⟩) (block_lt_any hc)).trans hc
      have hnext := encUs_take ps k hlt
      have hle := encUs_le ps k
      have hel := encUs_bound ps (by omega)
      have hm : (ps.getD k ByteArray.empty).size ≤ sizes ps := by
        have : ps.getD k ByteArray.empty = ps[k] := by simp [List.getD, hlt]
        rw [this]; exact mem_sizes (List.getElem_mem hlt)
      generalize ps.getD k ByteArray.empty = p at hc hc2 hnext hm
      have hSz : S.size ≤ 10 + (10 * ps.length + sizes ps) := by rw [hS, ba_size, List.length_append]; have := uvL_ten ps.length (by omega); omega
      obtain ⟨T, hT⟩ : ∃ T, T = ba (encU p) := ⟨_, rfl⟩
      have hu : ∀ w, Calls Try.prog 17 #[.string p] w fun e w' => e = .returned (.string T) ∧ Below w.heap.size w w' := fun w => by rw [hT]; exact reftext_any p w (by omega)
      have zT : T.size ≤ 10 + p.size := by rw [hT, ba_size]; exact encU_len p (by omega)
      have hno : (9223372036854775807 < S.size + T.size) = False := by simp; omega
      have hcat : S ++ T = ba (uvL ps.length ++ encUs (ps.take (k + 1))) := by rw [hS, hT, ba_append, hnext, List.append_assoc]
      have KC := hid (And.intro hu (And.intro hbw hcat))
      clear hu hnext hle hel hm hSz hS hT hbw hc hcat
      go_wp2_with fail
      refine (KC.out.1 wr).mono ?_
      rintro e w4 ⟨rfl, hb4⟩
      have K4 := hid (KC.out.2.1.trans (hb4.mono KC.out.2.1.size))
      clear hb4 hc2
      go_wp2_with fail
      go_roundw
      case rel => exact ⟨k + 1, _, by omega, by go_num, rfl, KC.out.2.2, K4.out⟩
      case measure => simp [intOf]; omega
    · obtain rfl : k = ps.length := by omega
      rw [List.take_length] at hS
      have KC := hid (And.intro hbw hS)
      clear hbw hS
      go_wp2_with fail
      go_ret
      exact ⟨by rw [KC.out.2]; rfl, KC.out.1⟩
end Go.Proofs.Ytoimmmcmlbaenaa
