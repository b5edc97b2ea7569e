/- syntax: the reference's Variable. -/
import Derived.Test.YtjedcijddlilaaaGreatDoorSyC
import Derived.Test.YtjedcijddlilaaaGreatDoorLxR2
namespace Go.Proofs.YtjedcijddlilaaaGreatDoor
open Go.RowKit Go.Shelf
attribute [local go_sem] Oper.semAt_some

set_option maxRecDepth 100000 in
theorem rvariable_any (s : ByteArray) (w : World) (hs : s.size ≤ 9223372036854775807) :
    Calls Tryz.prog 17 #[.string s] w fun e w' => e = .returned (.bool (varB s)) ∧ Below w.heap.size w w' := by
  have HW := hid (fun w => ristype_any s w hs)
  rw [typeB_is] at HW
  unfold varB varN
  generalize isWk s.data.toList 2 = R at HW ⊢
  have i0 : s.size = 2 → ∀ w, (Instr.index 9 (.string s) (.int .i64 0)).run Tryz.prog w = .ok (.int .u8 ((s.data.toList.getD 0 0).toNat : Int)) w := fun h => run_index_str s 0 (by omega)
  have i1 : s.size = 2 → ∀ w, (Instr.index 9 (.string s) (.int .i64 1)).run Tryz.prog w = .ok (.int .u8 ((s.data.toList.getD 1 0).toNat : Int)) w := fun h => run_index_str s 1 (by omega)
  have e0 : (s.data.toList.getD 0 0).toNat < 256 := UInt8.toNat_lt _
  have e1 : (s.data.toList.getD 1 0).toNat < 256 := UInt8.toNat_lt _
  generalize (s.data.toList.getD 0 0).toNat = c at i0 e0 ⊢
  generalize (s.data.toList.getD 1 0).toNat = d at i1 e1 ⊢
  cases R with
  | true =>
    rw [Bool.or_true]
    clear i0 i1 e0 e1
    go_enter Tryz.func17, Tryz.ntmps17
    go_wp2_with fail
    refine (HW.out _).mono ?_
    rintro e w3 ⟨rfl, h3⟩
    have H3 := hid h3
    clear h3
    go_wp2_with fail
    go_ret
    exact ⟨rfl, H3.out⟩
  | false =>
    rw [Bool.or_false]
    by_cases h2 : s.size = 2
    · have i0 := i0 h2
      have i1 := i1 h2
      have hd2 : decide (s.size = 2) = true := by simp [h2]
      rw [hd2]
      have hsz : (s.size : Int) = 2 := by omega
      clear hd2 h2 hs
      by_cases h3 : c = 35
      · subst h3
        by_cases h4 : 48 ≤ d
        · by_cases h5 : d ≤ 55
          · have hr : (true && (decide (35 = 35) && (decide (48 ≤ d) && decide (d ≤ 55)))) = true := by simp [h4, h5]
            rw [hr]
            clear hr
            go_enter Tryz.func17, Tryz.ntmps17
            go_wp2_with fail
            refine (HW.out _).mono ?_
            rintro e w3 ⟨rfl, h3⟩
            have H3 := hid h3
            clear h3
            go_wp2_with fail
            go_ret
            exact ⟨by simp; omega, H3.out⟩
          · have hr : (true && (decide (35 = 35) && (decide (48 ≤ d) && decide (d ≤ 55)))) = false := by simp [h5]
            rw [hr]
            clear hr
            go_enter Tryz.func17, Tryz.ntmps17
            go_wp2_with fail
            refine (HW.out _).mono ?_
            rintro e w3 ⟨rfl, h3⟩
            have H3 := hid h3
            clear h3
            go_wp2_with fail
            go_ret
            exact ⟨by simp; omega, H3.out⟩
        · have hr : (true && (decide (35 = 35) && (decide (48 ≤ d) && decide (d ≤ 55)))) = false := by simp [h4]
          rw [hr]
          clear hr
          go_enter Tryz.func17, Tryz.ntmps17
          go_wp2_with fail
          refine (HW.out _).mono ?_
          rintro e w3 ⟨rfl, h3⟩
          have H3 := hid h3
          clear h3
          go_wp2_with fail
          go_ret
          exact ⟨rfl, H3.out⟩
      · have hr : (true && (decide (c = 35) && (decide (48 ≤ d) && decide (d ≤ 55)))) = false := by simp [h3]
        rw [hr]
        clear hr
        have hne : ((c : Int) == 35) = false := by rw [beq_eq_false_iff_ne]; omega
        go_enter Tryz.func17, Tryz.ntmps17
        go_wp2_with fail
        refine (HW.out _).mono ?_
        rintro e w3 ⟨rfl, h3⟩
        have H3 := hid h3
        clear h3
        go_wp2_with fail
        go_ret
        exact ⟨rfl, H3.out⟩
    · have hd2 : decide (s.size = 2) = false := by simp [h2]
      rw [hd2, Bool.false_and]
      have hne : ((s.size : Int) == 2) = false := by rw [beq_eq_false_iff_ne]; omega
      clear i0 i1 hd2
      go_enter Tryz.func17, Tryz.ntmps17
      go_wp2_with fail
      refine (HW.out _).mono ?_
      rintro e w3 ⟨rfl, h3⟩
      have H3 := hid h3
      clear h3
      go_wp2_with fail
      go_ret
      exact ⟨rfl, H3.out⟩
end Go.Proofs.YtjedcijddlilaaaGreatDoor
