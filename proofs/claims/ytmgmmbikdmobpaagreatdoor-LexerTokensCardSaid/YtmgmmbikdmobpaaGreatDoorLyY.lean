/- lexer: the reference's token at a symbol. -/
import Derived.Test.YtmgmmbikdmobpaaGreatDoorLyW
import Derived.Test.YtmgmmbikdmobpaaGreatDoorLxY
import Derived.Test.YtmgmmbikdmobpaaGreatDoorQuietTail
import Derived.Deep.QuietTactic
import Derived.BigQuiet
namespace Go.Proofs.YtmgmmbikdmobpaaGreatDoor
open Go.RowKit

theorem rsymbols_any (w : World) :
    Calls Tryz.prog 37 #[] w fun e w' => e = .returned (.slice (some ⟨w.heap.size, 0, none⟩) 25 25) ∧ w' = w.alloc (.cells (symL.map fun l => Value.string ⟨l.toArray⟩).toArray 9) := by
  go_enter Tryz.func37, Tryz.ntmps37
  go_wp2_with fail
  go_ret
  exact ⟨rfl, rfl⟩
def SymW (g : Nat) (W : World) : Prop := ∀ k, k < 25 → W.cell? ⟨g, k, none⟩ = some (.string ⟨(symL.getD k []).toArray⟩)
theorem symw_new (w : World) : SymW w.heap.size (w.alloc (.cells (symL.map fun l => Value.string ⟨l.toArray⟩).toArray 9)) := by
  intro k hk
  have hn := heap_alloc_new w (.cells (symL.map fun l => Value.string ⟨l.toArray⟩).toArray 9)
  rw [cell_of_row _ w.heap.size k _ _ _ hn]
  have hl : k < symL.length := hk
  simp [List.getD_eq_getElem?_getD, hl]
/-- What the comparison with a symbol finds. -/
theorem pre_yes {s Y : ByteArray} (h : Lib.hasPrefix s.data.toList Y.data.toList = true) : Y.size ≤ s.size ∧ ((s.extract 0 Y.size).toList == Y.toList) = true := by
  unfold Lib.hasPrefix at h
  rw [List.isPrefixOf_iff_prefix] at h
  have h1 := h.length_le
  rw [size_list, size_list] at h1
  refine ⟨h1, ?_⟩
  rw [beq_iff_eq, ByteArray.toList_eq, ByteArray.toList_eq, upto_bytes, mk_list]
  have := List.prefix_iff_eq_take.1 h
  rw [size_list] at this
  exact this.symm
theorem pre_no {s Y : ByteArray} (h : Lib.hasPrefix s.data.toList Y.data.toList = false) (_hl : Y.size ≤ s.size) : ((s.extract 0 Y.size).toList == Y.toList) = false := by
  rw [beq_eq_false_iff_ne, ByteArray.toList_eq, ByteArray.toList_eq, upto_bytes, mk_list]
  intro e
  have h2 : Lib.hasPrefix s.data.toList Y.data.toList = true := by
    unfold Lib.hasPrefix
    rw [List.isPrefixOf_iff_prefix, ← e]
    exact List.take_prefix _ _
  rw [h2] at h; cases h

set_option maxRecDepth 100000 in
set_option maxHeartbeats 8000000 in
theorem rtokY_any (s : ByteArray) (w : World) (h0 : 0 < s.size) (hl : isLt (fst s.data.toList) = false) (hdg : isDg (fst s.data.toList) = false) (hq : fst s.data.toList ≠ 34) :
    Calls Tryz.prog 16 #[.string s] w fun e w' => TkRet (symT s.data.toList) e ∧ Below w.heap.size w w' := by
  have hix := index0 s h0
  have hc := fst_lt s.data.toList
  have hd := rdigit_is (fst s.data.toList)
  have hsm := rsmall_is (fst s.data.toList)
  have hcp := rcap_is (fst s.data.toList)
  have hq1 : isSm (fst s.data.toList) = false := by unfold isLt at hl; cases h : isSm (fst s.data.toList) with | false => rfl | true => rw [h] at hl; cases hl
  have hq2 : isCp (fst s.data.toList) = false := by unfold isLt at hl; rw [hq1] at hl; simpa using hl
  rw [hdg] at hd
  rw [hq1] at hsm
  rw [hq2] at hcp
  have HD := hid (fun w => hd w hc)
  have HSm := hid (fun w => hsm w hc)
  have HCp := hid (fun w => hcp w hc)
  clear hd hsm hcp hl hdg hq1 hq2
  generalize fst s.data.toList = c at *
  have b34b : ((c : Int) == 34) = false := by rw [beq_eq_false_iff_ne]; omega
  have HK := hid (fun w => rsymbols_any w)
  have R0 := hid (res_start w)
  clear hq
  go_enter Tryz.func16, Tryz.ntmps16
  go_wp2_with fail
  generalize w.alloc (.cells #[.int .i64 0, .string ⟨#[]⟩, .int .i64 0] 32) = W at R0 ⊢
  refine (HD.out W).mono ?_
  rintro e W ⟨rfl, rfl⟩
  go_wp2_with fail
  refine (HSm.out W).mono ?_
  rintro e W ⟨rfl, rfl⟩
  go_wp2_with fail
  refine (HCp.out W).mono ?_
  rintro e W ⟨rfl, rfl⟩
  go_wp2_with fail
  refine (HK.out W).mono ?_
  rintro e W1 ⟨rfl, hW1⟩
  have R1 : Kpt (Res w W1 ∧ SymW W.heap.size W1) := hid ⟨by rw [hW1]; exact R0.out.later ((Below.refl W.heap.size W).alloc (Nat.le_refl _) _), by rw [hW1]; exact symw_new W⟩
  clear hW1
  have HG := hid R0.out.2.2
  generalize W.heap.size = g at R1 HG ⊢
  clear R0
  go_wp2_with fail
  go_loopw [8] (fun i wr => ∃ k : Nat, k ≤ 25 ∧ i = .int .i64 (k : Int) ∧ symT s.data.toList = symF (symL.drop k) s.data.toList ∧ Res w wr ∧ SymW g wr) (fun i _ => 25 - (intOf i).toNat)
  case atStart => exact ⟨0, by omega, rfl, rfl, R1.out.1, R1.out.2⟩
  case round =>
    obtain ⟨k, hk, rfl, hsy, hres, hsw⟩ := hrel
    clear R1
    have R2 := hid (And.intro hres hsw)
    clear hres hsw
    by_cases hlt : k < 25
    · have hcell := R2.out.2 k hlt
      rw [symF_drop k hlt] at hsy
      have hyl : (ByteArray.mk (symL.getD k []).toArray).data.toList = symL.getD k [] := mk_list _
      have hys : ((symL.getD k []).length : Nat) = (ByteArray.mk (symL.getD k []).toArray).size := by rw [← size_list, hyl]
      rw [← hyl] at hsy
      rw [hyl] at hsy
      cases q : Lib.hasPrefix s.data.toList (symL.getD k []) with
      | true =>
        rw [q, if_pos rfl] at hsy
        have hp := pre_yes (s := s) (Y := ⟨(symL.getD k []).toArray⟩) (by rw [hyl]; exact q)
        rw [hys] at hsy
        have HS := hid hsy
        generalize symL.getD k [] = y at hcell hp HS
        generalize hY : ByteArray.mk y.toArray = Y at hcell hp HS
        have HY := hid hY
        clear hsy q hyl hys hY
        obtain ⟨hp1, hp2⟩ := hp
        go_wp2_with fail
        go_quiet (fail)
        go_wp2_with fail
        have R3 : Kpt (Res w (wr.drewN nq)) := hid (R2.out.1.later (below_drawn (Below.refl _ _) nq))
        have hcell2 : (wr.drewN nq).cell? ⟨g, k, none⟩ = some (.string Y) := hcell
        clear hcell hp1 hp2 R2
        generalize wr.drewN nq = wd at R3 hcell2 ⊢
        have hne1 : g ≠ w.heap.size := by have := HG.out; omega
        have hne2 : w.heap.size ≠ g := by have := HG.out; omega
        have f0 := frozen_of_row wd w.heap.size 0 _ _ R3.out.1
        have f1 := frozen_of_row wd w.heap.size 1 _ _ R3.out.1
        have f2 := frozen_of_row wd w.heap.size 2 _ _ R3.out.1
        have c0 := cell_of_row wd w.heap.size 0 _ _ _ R3.out.1
        have c1 := cell_of_row wd w.heap.size 1 _ _ _ R3.out.1
        have c2 := cell_of_row wd w.heap.size 2 _ _ _ R3.out.1
        have g6 := tk_end R3.out.1 6 Y
        have KX := hid (And.intro (tk_below R3.out.2.1 6 Y) g6)
        clear g6
        go_region
        go_wp2_with fail
        exact bodyPost_ret (v := .tuple #[.agg #[.int .i64 6, .string Y, .int .i64 0], .int .i64 (Y.size : Int), .int .i64 0]) (by simp [results, Tryz.results16, go_sem, KX.out.2.1, KX.out.2.2.1, KX.out.2.2.2]) rfl ⟨by rw [HS.out, ← HY.out]; rfl, KX.out.1.drew⟩
      | false =>
        rw [q, if_neg (by decide)] at hsy
        have hp := fun h2 => pre_no (s := s) (Y := ⟨(symL.getD k []).toArray⟩) (by rw [hyl]; exact q) h2
        have HS := hid hsy
        generalize symL.getD k [] = y at hcell hp
        generalize ByteArray.mk y.toArray = Y at hcell hp
        clear hsy q hyl hys
        by_cases hp1 : Y.size ≤ s.size
        · have hp2 := hp hp1
          clear hp
          go_wp2_with fail
          go_quiet (fail)
          go_wp2_with fail
          go_roundw
          case rel => exact ⟨k + 1, by omega, by go_num, HS.out, R2.out.1.later (below_drawn (Below.refl _ _) _), R2.out.2⟩
          case measure => simp [intOf]; omega
        · clear hp
          go_wp2_with fail
          go_quiet (fail)
          go_wp2_with fail
          go_roundw
          case rel => exact ⟨k + 1, by omega, by go_num, HS.out, R2.out.1.later (below_drawn (Below.refl _ _) _), R2.out.2⟩
          case measure => simp [intOf]; omega
    · obtain rfl : k = 25 := by omega
      have HS := hid hsy
      clear hsy
      have R4 := hid R2.out.1
      have f0 := frozen_of_row wr w.heap.size 0 _ _ R4.out.1
      have f1 := frozen_of_row wr w.heap.size 1 _ _ R4.out.1
      have f2 := frozen_of_row wr w.heap.size 2 _ _ R4.out.1
      have c0 := cell_of_row wr w.heap.size 0 _ _ _ R4.out.1
      have c1 := cell_of_row wr w.heap.size 1 _ _ _ R4.out.1
      have c2 := cell_of_row wr w.heap.size 2 _ _ _ R4.out.1
      have g := tk_end R4.out.1 0 ⟨#[]⟩
      have KX := hid (And.intro (tk_below R4.out.2.1 0 ⟨#[]⟩) g)
      clear g
      go_wp2_with fail
      exact bodyPost_ret (v := .tuple #[.agg #[.int .i64 0, .string ⟨#[]⟩, .int .i64 0], .int .i64 0, .int .i64 3]) (by simp [results, Tryz.results16, go_sem, KX.out.2.1, KX.out.2.2.1, KX.out.2.2.2]) rfl ⟨by rw [HS.out]; rfl, KX.out.1⟩
end Go.Proofs.YtmgmmbikdmobpaaGreatDoor
