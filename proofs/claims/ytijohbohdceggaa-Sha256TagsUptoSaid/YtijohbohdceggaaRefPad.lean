/- The reference's padded. -/
import Derived.Test.YtijohbohdceggaaOwnE
namespace Go.Proofs.Ytijohbohdceggaa
open Go.RowKit

/-- A message with its padding. -/
def zpad (n : Nat) : Nat := (119 - n % 64) % 64
def padL (m : List UInt8) : List UInt8 := m ++ [128] ++ List.replicate (zpad m.length) 0 ++ be8 (8 * m.length)
theorem zpad_full (n : Nat) : (n + 1 + zpad n) % 64 = 56 := by unfold zpad; omega
theorem zpad_less (n z : Nat) (h : z < zpad n) : (n + 1 + z) % 64 ≠ 56 := by unfold zpad at h; omega
theorem zpad_lt (n : Nat) : zpad n < 64 := by unfold zpad; omega
theorem pad_step (m : List UInt8) (z : Nat) : m ++ [128] ++ List.replicate (z + 1) (0 : UInt8) = (m ++ [128] ++ List.replicate z 0) ++ [0] := by
  rw [List.append_assoc (m ++ [128]), List.replicate_succ']
theorem str_add (a b : List UInt8) : (⟨a.toArray⟩ : ByteArray) ++ ⟨b.toArray⟩ = ⟨(a ++ b).toArray⟩ := by
  apply ByteArray.ext; rw [ByteArray.data_append]; simp

/-- The length of a slice. -/
def lenV : Value → Nat
  | .slice _ n _ => n
  | _ => 0

set_option maxRecDepth 100000 in
set_option maxHeartbeats 1000000 in
theorem padded_any (s : ByteArray) (w : World) (hs : s.size < 70368744177664) :
    Calls Try.prog 28 #[.string s] w
      fun e w' => e = .returned (.string ⟨(padL s.data.toList).toArray⟩) ∧ Below w.heap.size w w' := by
  obtain ⟨i0, hi, hz0, hz1, hz2⟩ := info_parts infoU8
  have hcv := Lib.run_convert_string_bytes (P := Try.prog) w 9 34 5 s Try.underlying9 Try.underlying34 Try.underlying5
  have hE0 := OwnE_conv w w.heap.size s (Nat.le_refl _) (by unfold maxLen; omega)
  have hb0 : Below w.heap.size w (Lib.bytesWorld w 5 s) := ⟨rfl, rfl, rfl, by rw [Lib.bytesWorld_size]; omega, fun k hk => Lib.bytesWorld_at_old _ _ _ _ hk⟩
  generalize Lib.bytesWorld w 5 s = w0 at hcv hE0 hb0
  have hlen : s.data.toList.length = s.size := by rw [Array.length_toList]; rfl
  have KE := hid (And.intro hE0 (And.intro hb0 hlen))
  clear hE0 hb0 hlen
  go_enter Try.func28, Try.ntmps28
  go_wp2_with (at_builtin; refine wpList_append_E rfl _ _ rfl rfl (OwnE_alloc KE.out.1 _) (by simp; exact Nat.le_succ_of_le KE.out.2.1.size) i0 hi hz0 hz1 hz2 ⟨w0.heap.size, 0, none⟩ 1 128 rfl (cell_one_new _ _ _) (by rw [KE.out.2.2]; omega) ?_; intro v1 w1 hE1 hb1)
  have hb1 : Below w.heap.size w w1 := (KE.out.2.1.alloc KE.out.2.1.size _).trans hb1
  go_loopw [3] (fun t wr => ∃ z : Nat, z ≤ zpad s.data.toList.length ∧ OwnE wr w.heap.size t (s.data.toList ++ [128] ++ List.replicate z 0) ∧ Below w.heap.size w wr) (fun t _ => s.size + 1 + zpad s.data.toList.length - lenV t)
  case atStart => exact ⟨0, by omega, by simpa using hE1, hb1⟩
  case round =>
    obtain ⟨z, hz, hE, hbw⟩ := hrel
    have hN : s.data.toList.length = s.size := KE.out.2.2
    have hLl : (s.data.toList ++ [128] ++ List.replicate z 0).length = s.size + 1 + z := by simp only [List.length_append, List.length_singleton, List.length_replicate, hN]
    obtain ⟨g, cap, hv, hbg, hgl⟩ := OwnE_len hE
    rw [hLl] at hv
    subst hv
    have hzl := zpad_lt s.size
    by_cases hlt : z < zpad s.size
    · have hc : (((s.size : Int) + 1 + (z : Int)) % 64 != 56) = true := by
        rw [bne_iff_ne]
        have := zpad_less s.size z hlt
        omega
      have KO := hid (And.intro hE (And.intro hbw (And.intro hN hLl)))
      clear hE hbw hN hLl hE1 hb1 hcv
      go_wp2_with (at_builtin; refine wpList_append_E rfl _ _ rfl rfl (OwnE_alloc KO.out.1 _) (by simp; exact Nat.le_succ_of_le KO.out.2.1.size) i0 hi hz0 hz1 hz2 ⟨wr.heap.size, 0, none⟩ 1 0 rfl (cell_one_new _ _ _) (by rw [KO.out.2.2.2]; omega) ?_; intro v2 w2 hE2 hb2)
      have hb2 : Below w.heap.size w w2 := (KO.out.2.1.alloc KO.out.2.1.size _).trans hb2
      obtain ⟨g2, cap2, hv2, _, _⟩ := OwnE_len hE2
      have hl2 : lenV v2 = s.size + 1 + z + 1 := by rw [hv2, List.length_append, KO.out.2.2.2]; rfl
      refine ⟨⟨z + 1, by rw [KO.out.2.2.1]; exact hlt, ?_, hb2⟩, ?_⟩
      · rw [pad_step]; exact hE2
      · show _ - lenV v2 < _ - (s.size + 1 + z)
        rw [hl2, KO.out.2.2.1]; omega
    · rw [hN] at hz
      obtain rfl : z = zpad s.size := by omega
      have hc : (((s.size : Int) + 1 + (zpad s.size : Int)) % 64 != 56) = false := by
        have := zpad_full s.size
        rw [bne_eq_false_iff_eq]
        omega
      have cv : ∀ x : Later wr, (convert 34 9 (.slice (some ⟨g, 0, none⟩) (s.size + 1 + zpad s.size) cap)).run Try.prog x.now = .ok (.string ⟨(s.data.toList ++ [128] ++ List.replicate (zpad s.size) 0).toArray⟩) x.now := by
        intro x
        have hE' : OwnE x.now w.heap.size (.slice (some ⟨g, 0, none⟩) (s.size + 1 + zpad s.size) cap) (s.data.toList ++ [128] ++ List.replicate (zpad s.size) 0) := by
          obtain ⟨g', cap', cur, fr, hv, hb, hg, h5⟩ := hE
          exact ⟨g', cap', cur, fr, hv, hb, (x.since.block g' (Array.getElem?_eq_some_iff.1 hg).1).trans hg, h5⟩
        exact OwnE_string _ _ _ _ hE'
      have call : ∀ x : Later wr, Calls Try.prog 32 #[.int .i64 (8 * (s.size : Int))] x.now fun e w'' => e = .returned (.string ⟨(be8 (8 * s.size)).toArray⟩) ∧ ∃ y : Later wr, w'' = y.now := fun x =>
        Calls.later_of (by
          have := length_any (8 * s.size) x.now (by omega)
          rwa [show ((8 * s.size : Nat) : Int) = 8 * (s.size : Int) by omega] at this)
      have hpad : padL s.data.toList = s.data.toList ++ [128] ++ List.replicate (zpad s.size) 0 ++ be8 (8 * s.size) := by unfold padL; rw [hN]
      have CALL := hid call
      have KO := hid (And.intro hbw hpad)
      have hno : (9223372036854775807 < (s.data.toList ++ [128] ++ List.replicate (zpad s.size) 0).length + (be8 (8 * s.size)).length) = False := by
        rw [hLl, be8_length]; simp; omega
      generalize s.data.toList ++ [128] ++ List.replicate (zpad s.size) 0 = L at cv hpad KO hno
      clear call hpad hE hbw hN hLl hE1 hb1 hcv hz
      go_wp2_with fail
      refine wp_region_later (by kernel_rfl) (by kernel_rfl) ?_
      repeat (go_big_quiet_step ((go_at_call 32; with_reducible exact CALL.out _)))
      refine wpQuiet_nil ?_
      intro _ hw'
      obtain ⟨x, hx⟩ := hw'
      subst hx
      have KX := hid (KO.out.1.trans (x.since.mono KO.out.1.size))
      go_wp2_with fail
      go_ret
      exact ⟨by rw [KO.out.2, ← str_add]; rfl, KX.out⟩
end Go.Proofs.Ytijohbohdceggaa
