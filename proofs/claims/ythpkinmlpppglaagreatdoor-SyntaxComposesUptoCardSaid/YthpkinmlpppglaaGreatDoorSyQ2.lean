/- syntax: EqualTypes, whole. -/
import Derived.Test.YthpkinmlpppglaaGreatDoorSyQ
namespace Go.Proofs.YthpkinmlpppglaaGreatDoor
open Go.RowKit Go.Shelf

set_option maxRecDepth 100000 in
set_option maxHeartbeats 4000000 in
theorem eq_step (w0 : World) (s : Nat) (hs : s + 1 ≤ 1099511627776) (ih : EqT w0 s) : EqT w0 (s + 1) := by
  intro x y hx W hW
  have hF := eq_fields w0 s ih
  have hsz : x.t.size = 1 + x.t.A.size + x.t.F.size := rfl
  have HA := hid (fun W hW => eqf_types w0 s ih (by omega) x.t.A y.t.A (by omega) x.aa y.aa x.ca y.ca (rowAt_zero x.ha) (rowAt_zero y.ha) W hW)
  have HF := hid (fun W hW => eqf_fields w0 s hF (by omega) x.t.F y.t.F (by omega) x.af y.af x.cf y.cf (rowAt_zero x.hf) (rowAt_zero y.hf) W hW)
  clear hF ih hsz hx
  obtain ⟨wa, hwa⟩ : ∃ wa, W.alloc (.cells #[.int .i64 x.t.k, .string x.t.m, .string x.t.n, .slice x.aa x.t.A.len x.ca, .slice x.af x.t.F.len x.cf] 25) = wa := ⟨_, rfl⟩
  have hba : Below W.heap.size W wa := by rw [← hwa]; exact (Below.refl _ W).alloc (Nat.le_refl _) _
  have hsa : W.heap.size + 1 = wa.heap.size := by rw [← hwa]; simp
  obtain ⟨wb, hwb⟩ : ∃ wb, wa.alloc (.cells #[.int .i64 y.t.k, .string y.t.m, .string y.t.n, .slice y.aa y.t.A.len y.ca, .slice y.af y.t.F.len y.cf] 25) = wb := ⟨_, rfl⟩
  have hbb : Below wa.heap.size wa wb := by rw [← hwb]; exact (Below.refl _ wa).alloc (Nat.le_refl _) _
  have e0 : wb.heap[W.heap.size]? = some (.cells #[.int .i64 x.t.k, .string x.t.m, .string x.t.n, .slice x.aa x.t.A.len x.ca, .slice x.af x.t.F.len x.cf] 25 (0, 0)) := (hbb.block _ (by omega)).trans (by rw [← hwa]; exact World.alloc_heap_new _ _)
  have f0 : wb.heap[wa.heap.size]? = some (.cells #[.int .i64 y.t.k, .string y.t.m, .string y.t.n, .slice y.aa y.t.A.len y.ca, .slice y.af y.t.F.len y.cf] 25 (0, 0)) := by rw [← hwb]; exact World.alloc_heap_new _ _
  have hlb : W.heap.size < wb.heap.size ∧ wa.heap.size < wb.heap.size := ⟨(Array.getElem?_eq_some_iff.1 e0).1, (Array.getElem?_eq_some_iff.1 f0).1⟩
  have hwrb : Below W.heap.size W wb := hba.trans (hbb.mono hba.size)
  have HB := hid (And.intro (hW.trans (hwrb.mono hW.size)) (And.intro hwrb hlb))
  have g0 := cell_of_row wb _ 0 _ _ _ e0
  have k0 := cell_of_row wb _ 0 _ _ _ f0
  have g1 := cell_of_row wb _ 1 _ _ _ e0
  have k1 := cell_of_row wb _ 1 _ _ _ f0
  have g2 := cell_of_row wb _ 2 _ _ _ e0
  have k2 := cell_of_row wb _ 2 _ _ _ f0
  have g3 := cell_of_row wb _ 3 _ _ _ e0
  have k3 := cell_of_row wb _ 3 _ _ _ f0
  have g4 := cell_of_row wb _ 4 _ _ _ e0
  have k4 := cell_of_row wb _ 4 _ _ _ f0
  have HC := hid (And.intro e0 f0)
  clear e0 f0 hba hsa hbb hwrb hlb hW
  show Calls Tryz.prog 27 #[.agg #[.int .i64 x.t.k, .string x.t.m, .string x.t.n, .slice x.aa x.t.A.len x.ca, .slice x.af x.t.F.len x.cf], .agg #[.int .i64 y.t.k, .string y.t.m, .string y.t.n, .slice y.aa y.t.A.len y.ca, .slice y.af y.t.F.len y.cf]] W _
  by_cases hk : x.t.k = y.t.k
  · by_cases hm : x.t.m = y.t.m
    · by_cases hn : x.t.n = y.t.n
      · have hkk : (x.t.k == y.t.k) = true := by rw [hk]; simp
        have hmm : (x.t.m.toList == y.t.m.toList) = true := by rw [hm]; simp
        have hnn : (x.t.n.toList == y.t.n.toList) = true := by rw [hn]; simp
        have hres : x.t.eq y.t = (x.t.A.eq false y.t.A && x.t.F.eq true y.t.F) := by simp [Ty.eq, hk, hm, hn]
        rw [hres]
        clear hres hk hm hn
        go_enter Tryz.func27, Tryz.ntmps27
        go_wp2_with fail
        refine (HA.out _ HB.out.1).mono ?_
        rintro e w3 ⟨rfl, hb3⟩
        have h30 := (hb3.block _ HB.out.2.2.1).trans HC.out.1
        have h31 := (hb3.block _ HB.out.2.2.2).trans HC.out.2
        have q0 := cell_of_row w3 _ 4 _ _ _ h30
        have q1 := cell_of_row w3 _ 4 _ _ _ h31
        have HD := hid hb3
        clear hb3 h30 h31
        cases hAe : x.t.A.eq false y.t.A with
        | true =>
          go_wp2_with fail
          refine (HF.out _ (HB.out.1.trans (HD.out.mono HB.out.1.size))).mono ?_
          rintro e w4 ⟨rfl, hb4⟩
          go_wp2_with fail
          go_ret
          exact ⟨by rw [hAe, Bool.true_and]; rfl, (HB.out.2.1.trans (HD.out.mono HB.out.2.1.size)).trans (hb4.mono (Nat.le_trans HB.out.2.1.size HD.out.size))⟩
        | false =>
          go_wp2_with fail
          go_ret
          exact ⟨by rw [hAe, Bool.false_and]; rfl, HB.out.2.1.trans (HD.out.mono HB.out.2.1.size)⟩
      · have hnn := toList_ne hn
        have hkk : (x.t.k == y.t.k) = true := by rw [hk]; simp
        have hmm : (x.t.m.toList == y.t.m.toList) = true := by rw [hm]; simp
        have hres : x.t.eq y.t = false := by simp [Ty.eq, hn]
        rw [hres]
        clear hres hk hm hn
        go_enter Tryz.func27, Tryz.ntmps27
        go_wp2_with fail
        go_ret
        exact ⟨rfl, HB.out.2.1⟩
    · have hmm := toList_ne hm
      have hkk : (x.t.k == y.t.k) = true := by rw [hk]; simp
      have hres : x.t.eq y.t = false := by simp [Ty.eq, hm]
      rw [hres]
      clear hres hk hm
      go_enter Tryz.func27, Tryz.ntmps27
      go_wp2_with fail
      go_ret
      exact ⟨rfl, HB.out.2.1⟩
  · have hkk : (x.t.k == y.t.k) = false := by rw [beq_eq_false_iff_ne]; exact hk
    have hres : x.t.eq y.t = false := by simp [Ty.eq, hk]
    rw [hres]
    clear hres hk
    go_enter Tryz.func27, Tryz.ntmps27
    go_wp2_with fail
    go_ret
    exact ⟨rfl, HB.out.2.1⟩

theorem eq_all (w0 : World) : ∀ s, s ≤ 1099511627776 → EqT w0 s := by
  intro s
  induction s with
  | zero => intro _ x y hx; simp only [Ty.size] at hx; omega
  | succ s ih => intro hs; exact eq_step w0 s hs (ih (by omega))

/-- EqualTypes. -/
theorem eq_any {t u : Ty} {v v' : Value} {w : World} (hv : TyV w v t) (hv' : TyV w v' u) (ht : t.size ≤ 1099511627776) :
    Calls Tryz.prog 27 #[v, v'] w fun e w' => e = .returned (.bool (t.eq u)) ∧ Below w.heap.size w w' := by
  obtain ⟨x, rfl, rfl⟩ := tyI_of hv
  obtain ⟨y, rfl, rfl⟩ := tyI_of hv'
  exact eq_all w _ ht x y (Nat.le_refl _) w (Below.refl _ _)
end Go.Proofs.YthpkinmlpppglaaGreatDoor
