/- The reference's Parse. -/
import Derived.Test.YtijohbohdceggaaRefHex
namespace Go.Proofs.Ytijohbohdceggaa
open Go.RowKit

theorem digv_some {c v : UInt8} (h : hexv c = some v) : digv c = (v.toNat : Int) := by unfold digv; rw [h]
theorem digv_none {c : UInt8} (h : hexv c = none) : digv c = -1 := by unfold digv; rw [h]
theorem hexv_lt {c v : UInt8} (h : hexv c = some v) : v.toNat < 16 := by
  unfold hexv at h
  split at h
  · injection h with h; subst h
    rename_i hh
    rw [UInt8.toNat_sub_of_le _ _ (by rw [UInt8.le_iff_toNat_le]; simpa using hh.1)]
    show c.toNat - 48 < 16; omega
  · split at h
    · injection h with h; subst h
      rename_i hh
      rw [UInt8.toNat_sub_of_le _ _ (by rw [UInt8.le_iff_toNat_le]; have := hh.1; simp; omega)]
      show c.toNat - 87 < 16; omega
    · cases h
theorem pair_num (a b : UInt8) (ha : a.toNat < 16) (hb : b.toNat < 16) : (a <<< 4 ||| b).toNat = 16 * a.toNat + b.toNat := by
  have key : ∀ m n : Fin 16, (UInt8.ofNat m.val <<< 4 ||| UInt8.ofNat n.val).toNat = 16 * m.val + n.val := by decide +kernel
  have := key ⟨a.toNat, ha⟩ ⟨b.toNat, hb⟩
  simpa using this
theorem Rk_take (l : List UInt8) (k : Nat) (h : k < 32) : (Rk l 64).take (k + 1) = (Rk l 64).take k ++ [nib l (2 * k) <<< 4 ||| nib l (2 * k + 1)] := by
  have hl : k < (Rk l 64).length := by rw [Rk_length]; exact h
  have hg := Rk_get l 64 k h
  rw [if_pos (show 2 * k + 1 < 64 by omega), getD_lt _ _ hl] at hg
  rw [List.take_succ_eq_append_getElem hl, hg]

set_option maxRecDepth 100000 in
set_option maxHeartbeats 1000000 in
theorem refparse_any (s : ByteArray) (w : World) (hs : s.size ≤ maxLen) :
    Calls Try.prog 17 #[.string s] w
      fun e w' => e = .returned (parseV s.data.toList) ∧ Below w.heap.size w w' := by
  unfold maxLen at hs
  obtain ⟨i0, hi, hz0, hz1, hz2⟩ := info_parts infoU8
  by_cases h64 : s.size = 64
  · have hl : s.data.toList.length = 64 := by rw [Array.length_toList]; exact h64
    have h64' : ((s.size : Int) != 64) = false := by rw [h64]; rfl
    have H64 := hid h64
    have hs1 : (64 : Int) ≤ s.size := by omega
    have hs2 : (s.size : Int) ≤ 64 := by omega
    clear h64
    go_enter Try.func17, Try.ntmps17
    go_wp2_with fail
    have hown := own_empty w w.heap.size 5 (Nat.le_refl _)
    have hb : Below w.heap.size w (w.alloc (.cells #[] 5)) := (Below.refl _ _).alloc (Nat.le_refl _) _
    generalize w.alloc (.cells #[] 5) = w1 at hown hb
    go_loopw [4, 5] (fun t i wr => ∃ k : Nat, k ≤ 32 ∧ i = .int .i64 ((2 * k : Nat) : Int) ∧ (∀ i, i < 2 * k → (hexv (s.data.toList.getD i 0)).isSome = true) ∧ wr.ownsRow w.heap.size 5 1 t k (byteCells ((Rk s.data.toList 64).take k)) ∧ Below w.heap.size w wr) (fun _ i _ => 64 - (intOf i).toNat)
    case atStart => exact ⟨0, by omega, rfl, fun i hi => by omega, hown, hb⟩
    case round =>
      obtain ⟨k, hk, rfl, hall, ho, hbw⟩ := hrel
      by_cases hlt : k < 32
      · have ix : ∀ w, (Instr.index 9 (.string s) (.int .i64 ((2 * k : Nat) : Int))).run Try.prog w = .ok (.int .u8 ((s.data.toList.getD (2 * k) 0).toNat : Int)) w := fun w => run_index_str s (2 * k) (by have := H64.out; omega) w
        have iy : ∀ w, (Instr.index 9 (.string s) (.int .i64 ((2 * k + 1 : Nat) : Int))).run Try.prog w = .ok (.int .u8 ((s.data.toList.getD (2 * k + 1) 0).toNat : Int)) w := fun w => run_index_str s (2 * k + 1) (by have := H64.out; omega) w
        rw [show ((2 * k + 1 : Nat) : Int) = 2 * (k : Int) + 1 by omega] at iy
        rw [show ((2 * k : Nat) : Int) = 2 * (k : Int) by omega] at ix ⊢
        have hlen : s.data.toList.length = 64 := hl
        have bad : ∀ i, i < 64 → hexv (s.data.toList.getD i 0) = none → parseV s.data.toList = .tuple #[.string ⟨#[]⟩, .int .i64 3] := by
          intro i hi hn
          refine parseV_none ?_
          unfold parseL
          rw [if_neg]
          rintro ⟨_, h2⟩
          rw [List.all_eq_true] at h2
          have := h2 (s.data.toList.getD i 0) (by rw [getD_lt _ _ (show i < s.data.toList.length by rw [hl]; exact hi)]; exact List.getElem_mem _)
          rw [hn] at this
          cases this
        have hn0 : (hexv (s.data.toList.getD (2 * k) 0)).getD 0 = nib s.data.toList (2 * k) := rfl
        have hn1 : (hexv (s.data.toList.getD (2 * k + 1) 0)).getD 0 = nib s.data.toList (2 * k + 1) := rfl
        have htk := Rk_take s.data.toList k hlt
        have hb0 := bad (2 * k) (by omega)
        have hb1 := bad (2 * k + 1) (by omega)
        have hallc : ∀ v v', hexv (s.data.toList.getD (2 * k) 0) = some v → hexv (s.data.toList.getD (2 * k + 1) 0) = some v' → ∀ i, i < 2 * (k + 1) → (hexv (s.data.toList.getD i 0)).isSome = true := by
          intro v v' h h' i hi
          by_cases e : i = 2 * k
          · subst e; rw [h]; rfl
          · by_cases e' : i = 2 * k + 1
            · subst e'; rw [h']; rfl
            · exact hall i (by omega)
        generalize s.data.toList.getD (2 * k) 0 = c0 at ix hn0 hb0 hallc
        generalize s.data.toList.getD (2 * k + 1) 0 = c1 at iy hn1 hb1 hallc
        cases hv0 : hexv c0 with
        | none =>
          have d0 := digv_none hv0
          have KC := hid (And.intro (hb0 hv0) hbw)
          clear hb0 hb1 hallc hn0 hn1 htk hall ho hown hb bad hbw
          go_wp2_with fail
          go_quiet ((go_at_call 34; refine Calls.quiet_of_same (refdigit_any _ _)))
          go_wp2_with fail
          go_ret2
          exact ⟨by rw [KC.out.1]; rfl, below_drawn KC.out.2 _⟩
        | some v0 => 
          have d0 := digv_some hv0
          have hp0 : (0 : Int) ≤ digv c0 := by omega
          cases hv1 : hexv c1 with
          | none =>
            have d1 := digv_none hv1
            have KC := hid (And.intro (hb1 hv1) hbw)
            clear hb0 hb1 hallc hn0 hn1 htk hall ho hown hb bad hbw
            go_wp2_with fail
            go_quiet ((go_at_call 34; refine Calls.quiet_of_same (refdigit_any _ _)))
            go_wp2_with fail
            go_ret2
            exact ⟨by rw [KC.out.1]; rfl, below_drawn KC.out.2 _⟩
          | some v1 =>
            have d1 := digv_some hv1
            have hx := hexv_lt hv0
            have hy := hexv_lt hv1
            have hpn := pair_num v0 v1 hx hy
            rw [hv0] at hn0
            rw [hv1] at hn1
            have e0 : v0 = nib s.data.toList (2 * k) := hn0
            have e1 : v1 = nib s.data.toList (2 * k + 1) := hn1
            rw [← e0, ← e1] at htk
            have hcell : byteCells ((Rk s.data.toList 64).take (k + 1)) = byteCells ((Rk s.data.toList 64).take k) ++ [.int .u8 (16 * (v0.toNat : Int) + (v1.toNat : Int))] := by
              rw [htk]; simp [byteCells, hpn]
            have KC := hid (And.intro (hallc v0 v1 hv0 hv1) (And.intro hcell hbw))
            have KO := hid ho
            clear hb0 hb1 hallc hn0 hn1 htk hall ho hown hb bad hbw e0 e1 hcell hpn
            rw [d0] at hp0
            go_wp2_with fail
            go_quiet ((go_at_call 34; refine Calls.quiet_of_same (refdigit_any _ _)))
            go_wp2_with (at_builtin; refine wpList_append_own _ rfl _ _ 34 rfl w.heap.size 5 i0 (.int .u8 0) 1 1 Try.underlying34 hi hz0 hz1 hz2 rfl (by decide) _ _ _ rfl (World.ownsRow.alloc KO.out _) ⟨wr.heap.size, 0, none⟩ 1 1 [.int .u8 (16 * (v0.toNat : Int) + (v1.toNat : Int))] rfl rfl (cell_one_new _ _ _) (fun x hx => by simp at hx; subst hx; rfl) (by unfold maxLen; omega) (by omega) (by simp; exact Nat.le_succ_of_le KC.out.2.2.size) ?_; intro v' w3 hown' hgrow3 hnil3)
            have hb2 : Below w.heap.size w w3 := Below.grown ((below_drawn KC.out.2.2 _).alloc KC.out.2.2.size _) hgrow3 (by simp; exact Nat.le_succ_of_le KC.out.2.2.size) (own_base KO.out)
            refine ⟨⟨k + 1, by omega, by go_num, KC.out.1, by rw [KC.out.2.1]; exact hown', hb2⟩, by simp [intOf]; omega⟩
      · obtain rfl : k = 32 := by omega
        have hp : parseV s.data.toList = .tuple #[.string ⟨(Rk s.data.toList 64).toArray⟩, .int .i64 0] := by
          refine parseV_some ?_
          unfold parseL
          rw [if_pos]
          refine ⟨hl, List.all_eq_true.2 fun c hc => ?_⟩
          obtain ⟨i, hi, rfl⟩ := List.getElem_of_mem hc
          have := hall i (by omega)
          rwa [getD_lt _ _ hi] at this
        rw [List.take_of_length_le (by rw [Rk_length]; omega)] at ho
        have hcv := own_string (P := Try.prog) wr 34 9 5 w.heap.size u4 _ _ Try.underlying34 Try.underlying5 Try.underlying9 ho
        have KC := hid (And.intro hp hbw)
        clear hp hall ho hown hb hbw
        go_wp2_with fail
        go_ret2
        exact ⟨by rw [KC.out.1]; rfl, KC.out.2⟩
  · have hp : parseV s.data.toList = .tuple #[.string ⟨#[]⟩, .int .i64 3] := by
      refine parseV_none ?_
      unfold parseL
      rw [if_neg]
      rintro ⟨h2, _⟩
      rw [Array.length_toList] at h2
      exact h64 h2
    have hq : ((s.size : Int) != 64) = true := by rw [bne_iff_ne]; omega
    have KC := hid hp
    clear hp h64
    go_enter Try.func17, Try.ntmps17
    go_wp2_with fail
    go_ret2
    exact ⟨by rw [KC.out]; rfl, Below.refl _ _⟩
end Go.Proofs.Ytijohbohdceggaa
