/- syntax: what SyntaxEquals does. -/
import Derived.Test.YthpkinmlpppglaaGreatDoorRqM
import Derived.Test.YthpkinmlpppglaaGreatDoorRzM
import Derived.Test.YthpkinmlpppglaaGreatDoorSyA3
import Derived.Test.YthpkinmlpppglaaGreatDoorOa
namespace Go.Proofs.YthpkinmlpppglaaGreatDoor
open Go.RowKit Go.Shelf

attribute [local go_sem] Oper.semAt_some
/-- The boxes of the law. -/
structure Bx6 (W : World) (t u : TyI W) (p q : XpI W) (m n : MdI W) (w : World) : Prop where
  below : Below W.heap.size W w
  row0 : w.heap[W.heap.size]? = some (.cells #[.int .i64 t.t.k, .string t.t.m, .string t.t.n, .slice t.aa t.t.A.len t.ca, .slice t.af t.t.F.len t.cf] 25 (0, 0))
  row1 : w.heap[W.heap.size + 1]? = some (.cells #[.int .i64 u.t.k, .string u.t.m, .string u.t.n, .slice u.aa u.t.A.len u.ca, .slice u.af u.t.F.len u.cf] 25 (0, 0))
  row2 : w.heap[W.heap.size + 1 + 1]? = some (.cells #[.int .i64 p.e.k, .string p.e.m, .string p.e.n, .string p.e.tx, .int .i64 p.e.num, .slice p.aT p.e.T.len p.cT, .slice p.aL p.e.L.length p.cL, .slice p.aK p.e.K.len p.cK] 29 (0, 0))
  row3 : w.heap[W.heap.size + 1 + 1 + 1]? = some (.cells #[.int .i64 q.e.k, .string q.e.m, .string q.e.n, .string q.e.tx, .int .i64 q.e.num, .slice q.aT q.e.T.len q.cT, .slice q.aL q.e.L.length q.cL, .slice q.aK q.e.K.len q.cK] 29 (0, 0))
  row4 : w.heap[W.heap.size + 1 + 1 + 1 + 1]? = some (.cells #[.string m.m.p, .slice m.aI m.m.I.length m.cI, .slice m.aD m.m.D.length m.cD] 33 (0, 0))
  row5 : w.heap[W.heap.size + 1 + 1 + 1 + 1 + 1]? = some (.cells #[.string n.m.p, .slice n.aI n.m.I.length n.cI, .slice n.aD n.m.D.length n.cD] 33 (0, 0))
theorem Bx6.later {W : World} {t u : TyI W} {p q : XpI W} {m n : MdI W} {w w' : World} (h : Bx6 W t u p q m n w) (hb : Below w.heap.size w w') : Bx6 W t u p q m n w' :=
  ⟨h.below.trans (hb.mono h.below.size), (hb.block _ (Array.getElem?_eq_some_iff.1 h.row0).1).trans h.row0, (hb.block _ (Array.getElem?_eq_some_iff.1 h.row1).1).trans h.row1, (hb.block _ (Array.getElem?_eq_some_iff.1 h.row2).1).trans h.row2, (hb.block _ (Array.getElem?_eq_some_iff.1 h.row3).1).trans h.row3, (hb.block _ (Array.getElem?_eq_some_iff.1 h.row4).1).trans h.row4, (hb.block _ (Array.getElem?_eq_some_iff.1 h.row5).1).trans h.row5⟩
set_option maxRecDepth 100000 in
set_option maxHeartbeats 8000000 in
theorem equals_law (W : World) (t u : TyI W) (p q : XpI W) (m n : MdI W) (hE : Env W) (h1 : t.t.size ≤ 1048576) (h2 : u.t.size ≤ 1048576) (h3 : p.e.bk ≤ 1048576) (h4 : q.e.bk ≤ 1048576) (h5 : m.m.bk ≤ 1048576) (h6 : n.m.bk ≤ 1048576) :
    Calls Tryz.prog 5 #[.agg #[.int .i64 t.t.k, .string t.t.m, .string t.t.n, .slice t.aa t.t.A.len t.ca, .slice t.af t.t.F.len t.cf], .agg #[.int .i64 u.t.k, .string u.t.m, .string u.t.n, .slice u.aa u.t.A.len u.ca, .slice u.af u.t.F.len u.cf], .agg #[.int .i64 p.e.k, .string p.e.m, .string p.e.n, .string p.e.tx, .int .i64 p.e.num, .slice p.aT p.e.T.len p.cT, .slice p.aL p.e.L.length p.cL, .slice p.aK p.e.K.len p.cK], .agg #[.int .i64 q.e.k, .string q.e.m, .string q.e.n, .string q.e.tx, .int .i64 q.e.num, .slice q.aT q.e.T.len q.cT, .slice q.aL q.e.L.length q.cL, .slice q.aK q.e.K.len q.cK], .agg #[.string m.m.p, .slice m.aI m.m.I.length m.cI, .slice m.aD m.m.D.length m.cD], .agg #[.string n.m.p, .slice n.aI n.m.I.length n.cI, .slice n.aD n.m.D.length n.cD]] W fun e W' => e = .returned (.bool true) ∧ Below W.heap.size W W' := by
  have HS := hid (six_rows (w := W) (.cells #[.int .i64 t.t.k, .string t.t.m, .string t.t.n, .slice t.aa t.t.A.len t.ca, .slice t.af t.t.F.len t.cf] 25) (.cells #[.int .i64 u.t.k, .string u.t.m, .string u.t.n, .slice u.aa u.t.A.len u.ca, .slice u.af u.t.F.len u.cf] 25) (.cells #[.int .i64 p.e.k, .string p.e.m, .string p.e.n, .string p.e.tx, .int .i64 p.e.num, .slice p.aT p.e.T.len p.cT, .slice p.aL p.e.L.length p.cL, .slice p.aK p.e.K.len p.cK] 29) (.cells #[.int .i64 q.e.k, .string q.e.m, .string q.e.n, .string q.e.tx, .int .i64 q.e.num, .slice q.aT q.e.T.len q.cT, .slice q.aL q.e.L.length q.cL, .slice q.aK q.e.K.len q.cK] 29) (.cells #[.string m.m.p, .slice m.aI m.m.I.length m.cI, .slice m.aD m.m.D.length m.cD] 33) (.cells #[.string n.m.p, .slice n.aI n.m.I.length n.cI, .slice n.aD n.m.D.length n.cD] 33))
  obtain ⟨wa, hwa⟩ : ∃ wa, ((((((W.alloc (.cells #[.int .i64 t.t.k, .string t.t.m, .string t.t.n, .slice t.aa t.t.A.len t.ca, .slice t.af t.t.F.len t.cf] 25)).alloc (.cells #[.int .i64 u.t.k, .string u.t.m, .string u.t.n, .slice u.aa u.t.A.len u.ca, .slice u.af u.t.F.len u.cf] 25)).alloc (.cells #[.int .i64 p.e.k, .string p.e.m, .string p.e.n, .string p.e.tx, .int .i64 p.e.num, .slice p.aT p.e.T.len p.cT, .slice p.aL p.e.L.length p.cL, .slice p.aK p.e.K.len p.cK] 29)).alloc (.cells #[.int .i64 q.e.k, .string q.e.m, .string q.e.n, .string q.e.tx, .int .i64 q.e.num, .slice q.aT q.e.T.len q.cT, .slice q.aL q.e.L.length q.cL, .slice q.aK q.e.K.len q.cK] 29)).alloc (.cells #[.string m.m.p, .slice m.aI m.m.I.length m.cI, .slice m.aD m.m.D.length m.cD] 33)).alloc (.cells #[.string n.m.p, .slice n.aI n.m.I.length n.cI, .slice n.aD n.m.D.length n.cD] 33)) = wa := ⟨_, rfl⟩
  rw [hwa] at HS
  have HA : Kpt (Bx6 W t u p q m n wa) := hid ⟨HS.out.1, HS.out.2.1, HS.out.2.2.1, HS.out.2.2.2.1, HS.out.2.2.2.2.1, HS.out.2.2.2.2.2.1, HS.out.2.2.2.2.2.2⟩
  have HAW := hid (awakeS_any wa (hE.below HA.out.below))
  have hes := p.e.size_bk
  have hfs := q.e.size_bk
  have hms := m.m.size_bk
  have hns := n.m.size_bk
  have HTE : Kpt (∀ W' : World, Below W.heap.size W W' → Calls Tryz.prog 27 #[.agg #[.int .i64 t.t.k, .string t.t.m, .string t.t.n, .slice t.aa t.t.A.len t.ca, .slice t.af t.t.F.len t.cf], .agg #[.int .i64 u.t.k, .string u.t.m, .string u.t.n, .slice u.aa u.t.A.len u.ca, .slice u.af u.t.F.len u.cf]] W' fun e W'' => e = .returned (.bool (t.t.eq u.t)) ∧ Below W'.heap.size W' W'') := hid (fun W' hW' => eq_all W _ (by omega) t u (Nat.le_refl _) W' hW')
  have HTR : Kpt (∀ W' : World, Below W.heap.size W W' → Calls Tryz.prog 28 #[.agg #[.int .i64 t.t.k, .string t.t.m, .string t.t.n, .slice t.aa t.t.A.len t.ca, .slice t.af t.t.F.len t.cf], .agg #[.int .i64 u.t.k, .string u.t.m, .string u.t.n, .slice u.aa u.t.A.len u.ca, .slice u.af u.t.F.len u.cf]] W' fun e W'' => e = .returned (.bool (t.t.eq u.t)) ∧ Below W'.heap.size W' W'') := hid (fun W' hW' => req_all W _ (by omega) t u (Nat.le_refl _) W' hW')
  have HXE : Kpt (∀ W' : World, Below W.heap.size W W' → Calls Tryz.prog 29 #[.agg #[.int .i64 p.e.k, .string p.e.m, .string p.e.n, .string p.e.tx, .int .i64 p.e.num, .slice p.aT p.e.T.len p.cT, .slice p.aL p.e.L.length p.cL, .slice p.aK p.e.K.len p.cK], .agg #[.int .i64 q.e.k, .string q.e.m, .string q.e.n, .string q.e.tx, .int .i64 q.e.num, .slice q.aT q.e.T.len q.cT, .slice q.aL q.e.L.length q.cL, .slice q.aK q.e.K.len q.cK]] W' fun e W'' => e = .returned (.bool (p.e.eq q.e)) ∧ Below W'.heap.size W' W'') := hid (fun W' hW' => xp_all W _ (by omega) p q (Nat.le_refl _) W' hW')
  have HXR : Kpt (∀ W' : World, Below W.heap.size W W' → Calls Tryz.prog 30 #[.agg #[.int .i64 p.e.k, .string p.e.m, .string p.e.n, .string p.e.tx, .int .i64 p.e.num, .slice p.aT p.e.T.len p.cT, .slice p.aL p.e.L.length p.cL, .slice p.aK p.e.K.len p.cK], .agg #[.int .i64 q.e.k, .string q.e.m, .string q.e.n, .string q.e.tx, .int .i64 q.e.num, .slice q.aT q.e.T.len q.cT, .slice q.aL q.e.L.length q.cL, .slice q.aK q.e.K.len q.cK]] W' fun e W'' => e = .returned (.bool (p.e.eq q.e)) ∧ Below W'.heap.size W' W'') := hid (fun W' hW' => rxq_all W _ (by omega) p q (Nat.le_refl _) W' hW')
  have HME : Kpt (∀ W' : World, Below W.heap.size W W' → Calls Tryz.prog 31 #[.agg #[.string m.m.p, .slice m.aI m.m.I.length m.cI, .slice m.aD m.m.D.length m.cD], .agg #[.string n.m.p, .slice n.aI n.m.I.length n.cI, .slice n.aD n.m.D.length n.cD]] W' fun e W'' => e = .returned (.bool (m.m.eq n.m)) ∧ Below W'.heap.size W' W'') := hid (fun W' hW' => md_all W m n (by omega) W' hW')
  have HMR : Kpt (∀ W' : World, Below W.heap.size W W' → Calls Tryz.prog 32 #[.agg #[.string m.m.p, .slice m.aI m.m.I.length m.cI, .slice m.aD m.m.D.length m.cD], .agg #[.string n.m.p, .slice n.aI n.m.I.length n.cI, .slice n.aD n.m.D.length n.cD]] W' fun e W'' => e = .returned (.bool (m.m.eq n.m)) ∧ Below W'.heap.size W' W'') := hid (fun W' hW' => rm_all W m n (by omega) W' hW')
  have HES : Kpt (∀ W' : World, Below W.heap.size W W' → Calls Tryz.prog 13 #[.agg #[.int .i64 p.e.k, .string p.e.m, .string p.e.n, .string p.e.tx, .int .i64 p.e.num, .slice p.aT p.e.T.len p.cT, .slice p.aL p.e.L.length p.cL, .slice p.aK p.e.K.len p.cK]] W' fun e W'' => e = .returned (.int .i64 (p.e.size : Int)) ∧ Below W'.heap.size W' W'') := hid (fun W' hW' => rxz_all W _ (by omega) p (Nat.le_refl _) W' hW')
  have HFS : Kpt (∀ W' : World, Below W.heap.size W W' → Calls Tryz.prog 13 #[.agg #[.int .i64 q.e.k, .string q.e.m, .string q.e.n, .string q.e.tx, .int .i64 q.e.num, .slice q.aT q.e.T.len q.cT, .slice q.aL q.e.L.length q.cL, .slice q.aK q.e.K.len q.cK]] W' fun e W'' => e = .returned (.int .i64 (q.e.size : Int)) ∧ Below W'.heap.size W' W'') := hid (fun W' hW' => rxz_all W _ (by omega) q (Nat.le_refl _) W' hW')
  have HMS : Kpt (∀ W' : World, Below W.heap.size W W' → Calls Tryz.prog 14 #[.agg #[.string m.m.p, .slice m.aI m.m.I.length m.cI, .slice m.aD m.m.D.length m.cD]] W' fun e W'' => e = .returned (.int .i64 (m.m.size : Int)) ∧ Below W'.heap.size W' W'') := hid (fun W' hW' => rms_any W m (by omega) W' hW')
  have HNS : Kpt (∀ W' : World, Below W.heap.size W W' → Calls Tryz.prog 14 #[.agg #[.string n.m.p, .slice n.aI n.m.I.length n.cI, .slice n.aD n.m.D.length n.cD]] W' fun e W'' => e = .returned (.int .i64 (n.m.size : Int)) ∧ Below W'.heap.size W' W'') := hid (fun W' hW' => rms_any W n (by omega) W' hW')
  have hee : p.e.size ≤ 1048576 ∧ q.e.size ≤ 1048576 ∧ m.m.size ≤ 1048576 ∧ n.m.size ≤ 1048576 := by omega
  generalize t.t.eq u.t = R1 at HTE HTR
  generalize p.e.eq q.e = R2 at HXE HXR
  generalize m.m.eq n.m = R3 at HME HMR
  generalize p.e.size = es at *
  generalize q.e.size = fs at *
  generalize m.m.size = ms at *
  generalize n.m.size = ns at *
  obtain ⟨k1, k2, k3, k4⟩ := hee
  clear HS hE hes hfs hms hns h3 h4 h5 h6
  go_enter Tryz.func5, Tryz.ntmps5
  go_wp2_with fail
  refine HAW.out.mono ?_
  rintro e w2 ⟨rfl, hb⟩
  have HB := hid (HA.out.later hb)
  clear hb hwa HA HAW
  have c00 := cell_of_row w2 _ 0 _ _ _ HB.out.row0
  have c01 := cell_of_row w2 _ 1 _ _ _ HB.out.row0
  have c02 := cell_of_row w2 _ 2 _ _ _ HB.out.row0
  have c03 := cell_of_row w2 _ 3 _ _ _ HB.out.row0
  have c04 := cell_of_row w2 _ 4 _ _ _ HB.out.row0
  have c10 := cell_of_row w2 _ 0 _ _ _ HB.out.row1
  have c11 := cell_of_row w2 _ 1 _ _ _ HB.out.row1
  have c12 := cell_of_row w2 _ 2 _ _ _ HB.out.row1
  have c13 := cell_of_row w2 _ 3 _ _ _ HB.out.row1
  have c14 := cell_of_row w2 _ 4 _ _ _ HB.out.row1
  have c20 := cell_of_row w2 _ 0 _ _ _ HB.out.row2
  have c21 := cell_of_row w2 _ 1 _ _ _ HB.out.row2
  have c22 := cell_of_row w2 _ 2 _ _ _ HB.out.row2
  have c23 := cell_of_row w2 _ 3 _ _ _ HB.out.row2
  have c24 := cell_of_row w2 _ 4 _ _ _ HB.out.row2
  have c25 := cell_of_row w2 _ 5 _ _ _ HB.out.row2
  have c26 := cell_of_row w2 _ 6 _ _ _ HB.out.row2
  have c27 := cell_of_row w2 _ 7 _ _ _ HB.out.row2
  have c30 := cell_of_row w2 _ 0 _ _ _ HB.out.row3
  have c31 := cell_of_row w2 _ 1 _ _ _ HB.out.row3
  have c32 := cell_of_row w2 _ 2 _ _ _ HB.out.row3
  have c33 := cell_of_row w2 _ 3 _ _ _ HB.out.row3
  have c34 := cell_of_row w2 _ 4 _ _ _ HB.out.row3
  have c35 := cell_of_row w2 _ 5 _ _ _ HB.out.row3
  have c36 := cell_of_row w2 _ 6 _ _ _ HB.out.row3
  have c37 := cell_of_row w2 _ 7 _ _ _ HB.out.row3
  have c40 := cell_of_row w2 _ 0 _ _ _ HB.out.row4
  have c41 := cell_of_row w2 _ 1 _ _ _ HB.out.row4
  have c42 := cell_of_row w2 _ 2 _ _ _ HB.out.row4
  have c50 := cell_of_row w2 _ 0 _ _ _ HB.out.row5
  have c51 := cell_of_row w2 _ 1 _ _ _ HB.out.row5
  have c52 := cell_of_row w2 _ 2 _ _ _ HB.out.row5
  obtain ⟨w3, hw3⟩ : ∃ w3, w2.drew.alloc (.cells #[.int .i64 t.t.k, .string t.t.m, .string t.t.n, .slice t.aa t.t.A.len t.ca, .slice t.af t.t.F.len t.cf, .int .i64 u.t.k, .string u.t.m, .string u.t.n, .slice u.aa u.t.A.len u.ca, .slice u.af u.t.F.len u.cf] 25) = w3 := ⟨_, rfl⟩
  have hb3 : Below w2.heap.size w2 w3 := by rw [← hw3]; exact ((Below.refl _ w2).drew).alloc (Nat.le_refl _) _
  have e3 : w3.heap[w2.heap.size]? = some (.cells #[.int .i64 t.t.k, .string t.t.m, .string t.t.n, .slice t.aa t.t.A.len t.ca, .slice t.af t.t.F.len t.cf, .int .i64 u.t.k, .string u.t.m, .string u.t.n, .slice u.aa u.t.A.len u.ca, .slice u.af u.t.F.len u.cf] 25 (0, 0)) := by rw [← hw3]; exact World.alloc_heap_new w2.drew _
  have H3 := hid (HB.out.later hb3)
  have hrow : ∀ i y j u', [t, u][i]? = some y → y.cells.toList[j]? = some u' → w3.cell? ⟨w2.heap.size, i * 5 + j, none⟩ = some u' := by
    intro i y j u' hy hu
    have hj : j < 5 := (List.getElem?_eq_some_iff.1 hu).1
    have hj5 : j = 0 ∨ j = 1 ∨ j = 2 ∨ j = 3 ∨ j = 4 := by omega
    match i, hy with
    | 0, hy => cases hy; rcases hj5 with rfl | rfl | rfl | rfl | rfl <;> (cases hu; exact cell_of_row w3 _ _ _ _ _ e3)
    | 1, hy => cases hy; rcases hj5 with rfl | rfl | rfl | rfl | rfl <;> (cases hu; exact cell_of_row w3 _ _ _ _ _ e3)
  have hfew := fewT_any W [t, u] w2.heap.size 2 2000 w3 H3.out.below hrow (by show t.t.size + (u.t.size + 0) ≤ _; omega) (by show 2 ≤ _; omega)
  have hsm : (([t, u].map (·.t)).map Ty.size).sum = t.t.size + (u.t.size + 0) := rfl
  rw [hsm] at hfew
  have HF := hid (show Calls Tryz.prog 12 #[.int .i64 2000, .slice (some ⟨w2.heap.size, 0, none⟩) 2 2] w3 _ from hfew)
  obtain ⟨FW, hFW⟩ : ∃ FW, decide (((t.t.size + (u.t.size + 0) : Nat) : Int) ≤ 2000) = FW := ⟨_, rfl⟩
  rw [hFW] at HF
  have HB3 := hid hb3
  clear hsm hfew hrow e3 hb3 hFW h1 h2
  go_wp2_with fail
  refine wp_region_noPanic ?_
  refine region_G (S := fun w' => Below w2.heap.size w2 w') (z := 2) (by kernel_rfl) ?_
  change wpAnyG _ _ _ _ _ _ 21 _ _ _
  refine G_take (i := 0) (v := .agg #[.int .i64 t.t.k, .string t.t.m, .string t.t.n, .slice t.aa t.t.A.len t.ca, .slice t.af t.t.F.len t.cf]) rfl (by kernel_rfl) (by kernel_rfl) (by kernel_rfl) (by kernel_rfl) (by decide) (by kernel_rfl) (fun _ _ _ h => h) (.inl ⟨by simp [Region.wanted], fun w' hS => ?y0⟩) (Below.refl _ _).drew ?_
  case y0 =>
    have a0 := old_cell hS c00
    have a1 := old_cell hS c01
    have a2 := old_cell hS c02
    have a3 := old_cell hS c03
    have a4 := old_cell hS c04
    simp [execOp, go_sem, a0, a1, a2, a3, a4]
  refine G_take (i := 1) (v := .agg #[.int .i64 u.t.k, .string u.t.m, .string u.t.n, .slice u.aa u.t.A.len u.ca, .slice u.af u.t.F.len u.cf]) rfl (by kernel_rfl) (by kernel_rfl) (by kernel_rfl) (by kernel_rfl) (by decide) (by kernel_rfl) (fun _ _ _ h => h) (.inl ⟨by simp [Region.wanted], fun w' hS => ?y1⟩) (Below.refl _ _).drew ?_
  case y1 =>
    have a0 := old_cell hS c10
    have a1 := old_cell hS c11
    have a2 := old_cell hS c12
    have a3 := old_cell hS c13
    have a4 := old_cell hS c14
    simp [execOp, go_sem, a0, a1, a2, a3, a4]
  simp only [Act.put, List.setIfInBounds_toArray, List.set_cons_succ, List.set_cons_zero]
  refine G_one (i := 2) (by kernel_rfl) rfl ?_
  go_wp2_with fail
  refine ⟨HB3.out, ?_⟩
  refine G_one (i := 3) (by kernel_rfl) rfl ?_
  go_wp2_with fail
  refine HF.out.mono ?_
  rintro e w4 ⟨rfl, hb4⟩
  have HV := hid (H3.out.later hb4)
  have HB4 := hid (HB3.out.trans (hb4.mono HB3.out.size))
  clear hb4 hw3 c00 c01 c02 c03 c04 c10 c11 c12 c13 c14 c20 c21 c22 c23 c24 c25 c26 c27 c30 c31 c32 c33 c34 c35 c36 c37 c40 c41 c42 c50 c51 c52
  cases FW with
  | false =>
    go_wp2_with fail
    refine ⟨HB4.out, ?_⟩
    refine G_one (i := 4) (by kernel_rfl) rfl ?_
    go_wp2_with fail
    refine ⟨HB4.out, ?_⟩
    refine G_one (i := 5) (by kernel_rfl) rfl ?_
    go_wp2_with fail
    refine ⟨HB4.out, ?_⟩
    refine G_later _ 6 (by kernel_rfl) (by kernel_rfl) (drop_get _ 6) (by kernel_rfl) ?_
    simp only [List.drop_succ_cons, List.drop_zero]
    repeat (go_big_quiet_step ((first | (go_at_call 13; first | (with_reducible exact HESL.out _) | (with_reducible exact HFSL.out _)) | (go_at_call 14; first | (with_reducible exact HMSL.out _) | (with_reducible exact HNSL.out _)))))
    refine wpQuiet_nil ?_
    intro _ hw'
    obtain ⟨X, hX⟩ := hw'
    subst hX
    refine NoPanic.normal ?_
    go_wp2_with fail
    go_ret
    exact ⟨rfl, (HV.out.later X.since).below⟩
  | true =>
    have c00 := (show ∀ X : Later w4, X.now.cell? ⟨W.heap.size, 0, none⟩ = some (.int .i64 t.t.k) from fun X => cell_of_row X.now _ 0 _ _ _ (HV.out.later X.since).row0)
    have c01 := (show ∀ X : Later w4, X.now.cell? ⟨W.heap.size, 1, none⟩ = some (.string t.t.m) from fun X => cell_of_row X.now _ 1 _ _ _ (HV.out.later X.since).row0)
    have c02 := (show ∀ X : Later w4, X.now.cell? ⟨W.heap.size, 2, none⟩ = some (.string t.t.n) from fun X => cell_of_row X.now _ 2 _ _ _ (HV.out.later X.since).row0)
    have c03 := (show ∀ X : Later w4, X.now.cell? ⟨W.heap.size, 3, none⟩ = some (.slice t.aa t.t.A.len t.ca) from fun X => cell_of_row X.now _ 3 _ _ _ (HV.out.later X.since).row0)
    have c04 := (show ∀ X : Later w4, X.now.cell? ⟨W.heap.size, 4, none⟩ = some (.slice t.af t.t.F.len t.cf) from fun X => cell_of_row X.now _ 4 _ _ _ (HV.out.later X.since).row0)
    have c10 := (show ∀ X : Later w4, X.now.cell? ⟨W.heap.size + 1, 0, none⟩ = some (.int .i64 u.t.k) from fun X => cell_of_row X.now _ 0 _ _ _ (HV.out.later X.since).row1)
    have c11 := (show ∀ X : Later w4, X.now.cell? ⟨W.heap.size + 1, 1, none⟩ = some (.string u.t.m) from fun X => cell_of_row X.now _ 1 _ _ _ (HV.out.later X.since).row1)
    have c12 := (show ∀ X : Later w4, X.now.cell? ⟨W.heap.size + 1, 2, none⟩ = some (.string u.t.n) from fun X => cell_of_row X.now _ 2 _ _ _ (HV.out.later X.since).row1)
    have c13 := (show ∀ X : Later w4, X.now.cell? ⟨W.heap.size + 1, 3, none⟩ = some (.slice u.aa u.t.A.len u.ca) from fun X => cell_of_row X.now _ 3 _ _ _ (HV.out.later X.since).row1)
    have c14 := (show ∀ X : Later w4, X.now.cell? ⟨W.heap.size + 1, 4, none⟩ = some (.slice u.af u.t.F.len u.cf) from fun X => cell_of_row X.now _ 4 _ _ _ (HV.out.later X.since).row1)
    have c20 := (show ∀ X : Later w4, X.now.cell? ⟨W.heap.size + 1 + 1, 0, none⟩ = some (.int .i64 p.e.k) from fun X => cell_of_row X.now _ 0 _ _ _ (HV.out.later X.since).row2)
    have c21 := (show ∀ X : Later w4, X.now.cell? ⟨W.heap.size + 1 + 1, 1, none⟩ = some (.string p.e.m) from fun X => cell_of_row X.now _ 1 _ _ _ (HV.out.later X.since).row2)
    have c22 := (show ∀ X : Later w4, X.now.cell? ⟨W.heap.size + 1 + 1, 2, none⟩ = some (.string p.e.n) from fun X => cell_of_row X.now _ 2 _ _ _ (HV.out.later X.since).row2)
    have c23 := (show ∀ X : Later w4, X.now.cell? ⟨W.heap.size + 1 + 1, 3, none⟩ = some (.string p.e.tx) from fun X => cell_of_row X.now _ 3 _ _ _ (HV.out.later X.since).row2)
    have c24 := (show ∀ X : Later w4, X.now.cell? ⟨W.heap.size + 1 + 1, 4, none⟩ = some (.int .i64 p.e.num) from fun X => cell_of_row X.now _ 4 _ _ _ (HV.out.later X.since).row2)
    have c25 := (show ∀ X : Later w4, X.now.cell? ⟨W.heap.size + 1 + 1, 5, none⟩ = some (.slice p.aT p.e.T.len p.cT) from fun X => cell_of_row X.now _ 5 _ _ _ (HV.out.later X.since).row2)
    have c26 := (show ∀ X : Later w4, X.now.cell? ⟨W.heap.size + 1 + 1, 6, none⟩ = some (.slice p.aL p.e.L.length p.cL) from fun X => cell_of_row X.now _ 6 _ _ _ (HV.out.later X.since).row2)
    have c27 := (show ∀ X : Later w4, X.now.cell? ⟨W.heap.size + 1 + 1, 7, none⟩ = some (.slice p.aK p.e.K.len p.cK) from fun X => cell_of_row X.now _ 7 _ _ _ (HV.out.later X.since).row2)
    have c30 := (show ∀ X : Later w4, X.now.cell? ⟨W.heap.size + 1 + 1 + 1, 0, none⟩ = some (.int .i64 q.e.k) from fun X => cell_of_row X.now _ 0 _ _ _ (HV.out.later X.since).row3)
    have c31 := (show ∀ X : Later w4, X.now.cell? ⟨W.heap.size + 1 + 1 + 1, 1, none⟩ = some (.string q.e.m) from fun X => cell_of_row X.now _ 1 _ _ _ (HV.out.later X.since).row3)
    have c32 := (show ∀ X : Later w4, X.now.cell? ⟨W.heap.size + 1 + 1 + 1, 2, none⟩ = some (.string q.e.n) from fun X => cell_of_row X.now _ 2 _ _ _ (HV.out.later X.since).row3)
    have c33 := (show ∀ X : Later w4, X.now.cell? ⟨W.heap.size + 1 + 1 + 1, 3, none⟩ = some (.string q.e.tx) from fun X => cell_of_row X.now _ 3 _ _ _ (HV.out.later X.since).row3)
    have c34 := (show ∀ X : Later w4, X.now.cell? ⟨W.heap.size + 1 + 1 + 1, 4, none⟩ = some (.int .i64 q.e.num) from fun X => cell_of_row X.now _ 4 _ _ _ (HV.out.later X.since).row3)
    have c35 := (show ∀ X : Later w4, X.now.cell? ⟨W.heap.size + 1 + 1 + 1, 5, none⟩ = some (.slice q.aT q.e.T.len q.cT) from fun X => cell_of_row X.now _ 5 _ _ _ (HV.out.later X.since).row3)
    have c36 := (show ∀ X : Later w4, X.now.cell? ⟨W.heap.size + 1 + 1 + 1, 6, none⟩ = some (.slice q.aL q.e.L.length q.cL) from fun X => cell_of_row X.now _ 6 _ _ _ (HV.out.later X.since).row3)
    have c37 := (show ∀ X : Later w4, X.now.cell? ⟨W.heap.size + 1 + 1 + 1, 7, none⟩ = some (.slice q.aK q.e.K.len q.cK) from fun X => cell_of_row X.now _ 7 _ _ _ (HV.out.later X.since).row3)
    have c40 := (show ∀ X : Later w4, X.now.cell? ⟨W.heap.size + 1 + 1 + 1 + 1, 0, none⟩ = some (.string m.m.p) from fun X => cell_of_row X.now _ 0 _ _ _ (HV.out.later X.since).row4)
    have c41 := (show ∀ X : Later w4, X.now.cell? ⟨W.heap.size + 1 + 1 + 1 + 1, 1, none⟩ = some (.slice m.aI m.m.I.length m.cI) from fun X => cell_of_row X.now _ 1 _ _ _ (HV.out.later X.since).row4)
    have c42 := (show ∀ X : Later w4, X.now.cell? ⟨W.heap.size + 1 + 1 + 1 + 1, 2, none⟩ = some (.slice m.aD m.m.D.length m.cD) from fun X => cell_of_row X.now _ 2 _ _ _ (HV.out.later X.since).row4)
    have c50 := (show ∀ X : Later w4, X.now.cell? ⟨W.heap.size + 1 + 1 + 1 + 1 + 1, 0, none⟩ = some (.string n.m.p) from fun X => cell_of_row X.now _ 0 _ _ _ (HV.out.later X.since).row5)
    have c51 := (show ∀ X : Later w4, X.now.cell? ⟨W.heap.size + 1 + 1 + 1 + 1 + 1, 1, none⟩ = some (.slice n.aI n.m.I.length n.cI) from fun X => cell_of_row X.now _ 1 _ _ _ (HV.out.later X.since).row5)
    have c52 := (show ∀ X : Later w4, X.now.cell? ⟨W.heap.size + 1 + 1 + 1 + 1 + 1, 2, none⟩ = some (.slice n.aD n.m.D.length n.cD) from fun X => cell_of_row X.now _ 2 _ _ _ (HV.out.later X.since).row5)
    have HESL := hid (fun X : Later w4 => Calls.later_of (HES.out X.now ((HV.out.later X.since).below)))
    have HFSL := hid (fun X : Later w4 => Calls.later_of (HFS.out X.now ((HV.out.later X.since).below)))
    have HMSL := hid (fun X : Later w4 => Calls.later_of (HMS.out X.now ((HV.out.later X.since).below)))
    have HNSL := hid (fun X : Later w4 => Calls.later_of (HNS.out X.now ((HV.out.later X.since).below)))
    go_wp2_with fail
    refine ⟨HB4.out, ?_⟩
    refine G_one (i := 4) (by kernel_rfl) rfl ?_
    go_wp2_with fail
    refine ⟨HB4.out, ?_⟩
    refine G_one (i := 5) (by kernel_rfl) rfl ?_
    go_wp2_with fail
    refine ⟨HB4.out, ?_⟩
    refine G_later _ 6 (by kernel_rfl) (by kernel_rfl) (drop_get _ 6) (by kernel_rfl) ?_
    simp only [List.drop_succ_cons, List.drop_zero]
    by_cases g1 : 2000 < es + fs
    · have g1i : (2000 : Int) < (es : Int) + (fs : Int) := by omega
      repeat (go_big_quiet_step ((first | (go_at_call 13; first | (with_reducible exact HESL.out _) | (with_reducible exact HFSL.out _)) | (go_at_call 14; first | (with_reducible exact HMSL.out _) | (with_reducible exact HNSL.out _)))))
      refine wpQuiet_nil ?_
      intro _ hw'
      obtain ⟨X, hX⟩ := hw'
      subst hX
      refine NoPanic.normal ?_
      go_wp2_with fail
      go_ret
      exact ⟨rfl, (HV.out.later X.since).below⟩
    · have g1i : ¬ (2000 : Int) < (es : Int) + (fs : Int) := by omega
      by_cases g2 : 2000 < ms + ns
      · have g2i : (2000 : Int) < (ms : Int) + (ns : Int) := by omega
        repeat (go_big_quiet_step ((first | (go_at_call 13; first | (with_reducible exact HESL.out _) | (with_reducible exact HFSL.out _)) | (go_at_call 14; first | (with_reducible exact HMSL.out _) | (with_reducible exact HNSL.out _)))))
        refine wpQuiet_nil ?_
        intro _ hw'
        obtain ⟨X, hX⟩ := hw'
        subst hX
        refine NoPanic.normal ?_
        go_wp2_with fail
        go_ret
        exact ⟨rfl, (HV.out.later X.since).below⟩
      · have g2i : ¬ (2000 : Int) < (ms : Int) + (ns : Int) := by omega
        repeat (go_big_quiet_step ((first | (go_at_call 13; first | (with_reducible exact HESL.out _) | (with_reducible exact HFSL.out _)) | (go_at_call 14; first | (with_reducible exact HMSL.out _) | (with_reducible exact HNSL.out _)))))
        refine wpQuiet_nil ?_
        intro _ hw'
        obtain ⟨X, hX⟩ := hw'
        subst hX
        refine NoPanic.normal ?_
        have HW := hid (HV.out.later X.since)
        clear c00 c01 c02 c03 c04 c10 c11 c12 c13 c14 c20 c21 c22 c23 c24 c25 c26 c27 c30 c31 c32 c33 c34 c35 c36 c37 c40 c41 c42 c50 c51 c52 HESL HFSL HMSL HNSL
        generalize X.now = V at HW ⊢
        clear HV
        have HV := HW
        clear HW
        have c00 := (show ∀ X : Later V, X.now.cell? ⟨W.heap.size, 0, none⟩ = some (.int .i64 t.t.k) from fun X => cell_of_row X.now _ 0 _ _ _ (HV.out.later X.since).row0)
        have c01 := (show ∀ X : Later V, X.now.cell? ⟨W.heap.size, 1, none⟩ = some (.string t.t.m) from fun X => cell_of_row X.now _ 1 _ _ _ (HV.out.later X.since).row0)
        have c02 := (show ∀ X : Later V, X.now.cell? ⟨W.heap.size, 2, none⟩ = some (.string t.t.n) from fun X => cell_of_row X.now _ 2 _ _ _ (HV.out.later X.since).row0)
        have c03 := (show ∀ X : Later V, X.now.cell? ⟨W.heap.size, 3, none⟩ = some (.slice t.aa t.t.A.len t.ca) from fun X => cell_of_row X.now _ 3 _ _ _ (HV.out.later X.since).row0)
        have c04 := (show ∀ X : Later V, X.now.cell? ⟨W.heap.size, 4, none⟩ = some (.slice t.af t.t.F.len t.cf) from fun X => cell_of_row X.now _ 4 _ _ _ (HV.out.later X.since).row0)
        have c10 := (show ∀ X : Later V, X.now.cell? ⟨W.heap.size + 1, 0, none⟩ = some (.int .i64 u.t.k) from fun X => cell_of_row X.now _ 0 _ _ _ (HV.out.later X.since).row1)
        have c11 := (show ∀ X : Later V, X.now.cell? ⟨W.heap.size + 1, 1, none⟩ = some (.string u.t.m) from fun X => cell_of_row X.now _ 1 _ _ _ (HV.out.later X.since).row1)
        have c12 := (show ∀ X : Later V, X.now.cell? ⟨W.heap.size + 1, 2, none⟩ = some (.string u.t.n) from fun X => cell_of_row X.now _ 2 _ _ _ (HV.out.later X.since).row1)
        have c13 := (show ∀ X : Later V, X.now.cell? ⟨W.heap.size + 1, 3, none⟩ = some (.slice u.aa u.t.A.len u.ca) from fun X => cell_of_row X.now _ 3 _ _ _ (HV.out.later X.since).row1)
        have c14 := (show ∀ X : Later V, X.now.cell? ⟨W.heap.size + 1, 4, none⟩ = some (.slice u.af u.t.F.len u.cf) from fun X => cell_of_row X.now _ 4 _ _ _ (HV.out.later X.since).row1)
        have c20 := (show ∀ X : Later V, X.now.cell? ⟨W.heap.size + 1 + 1, 0, none⟩ = some (.int .i64 p.e.k) from fun X => cell_of_row X.now _ 0 _ _ _ (HV.out.later X.since).row2)
        have c21 := (show ∀ X : Later V, X.now.cell? ⟨W.heap.size + 1 + 1, 1, none⟩ = some (.string p.e.m) from fun X => cell_of_row X.now _ 1 _ _ _ (HV.out.later X.since).row2)
        have c22 := (show ∀ X : Later V, X.now.cell? ⟨W.heap.size + 1 + 1, 2, none⟩ = some (.string p.e.n) from fun X => cell_of_row X.now _ 2 _ _ _ (HV.out.later X.since).row2)
        have c23 := (show ∀ X : Later V, X.now.cell? ⟨W.heap.size + 1 + 1, 3, none⟩ = some (.string p.e.tx) from fun X => cell_of_row X.now _ 3 _ _ _ (HV.out.later X.since).row2)
        have c24 := (show ∀ X : Later V, X.now.cell? ⟨W.heap.size + 1 + 1, 4, none⟩ = some (.int .i64 p.e.num) from fun X => cell_of_row X.now _ 4 _ _ _ (HV.out.later X.since).row2)
        have c25 := (show ∀ X : Later V, X.now.cell? ⟨W.heap.size + 1 + 1, 5, none⟩ = some (.slice p.aT p.e.T.len p.cT) from fun X => cell_of_row X.now _ 5 _ _ _ (HV.out.later X.since).row2)
        have c26 := (show ∀ X : Later V, X.now.cell? ⟨W.heap.size + 1 + 1, 6, none⟩ = some (.slice p.aL p.e.L.length p.cL) from fun X => cell_of_row X.now _ 6 _ _ _ (HV.out.later X.since).row2)
        have c27 := (show ∀ X : Later V, X.now.cell? ⟨W.heap.size + 1 + 1, 7, none⟩ = some (.slice p.aK p.e.K.len p.cK) from fun X => cell_of_row X.now _ 7 _ _ _ (HV.out.later X.since).row2)
        have c30 := (show ∀ X : Later V, X.now.cell? ⟨W.heap.size + 1 + 1 + 1, 0, none⟩ = some (.int .i64 q.e.k) from fun X => cell_of_row X.now _ 0 _ _ _ (HV.out.later X.since).row3)
        have c31 := (show ∀ X : Later V, X.now.cell? ⟨W.heap.size + 1 + 1 + 1, 1, none⟩ = some (.string q.e.m) from fun X => cell_of_row X.now _ 1 _ _ _ (HV.out.later X.since).row3)
        have c32 := (show ∀ X : Later V, X.now.cell? ⟨W.heap.size + 1 + 1 + 1, 2, none⟩ = some (.string q.e.n) from fun X => cell_of_row X.now _ 2 _ _ _ (HV.out.later X.since).row3)
        have c33 := (show ∀ X : Later V, X.now.cell? ⟨W.heap.size + 1 + 1 + 1, 3, none⟩ = some (.string q.e.tx) from fun X => cell_of_row X.now _ 3 _ _ _ (HV.out.later X.since).row3)
        have c34 := (show ∀ X : Later V, X.now.cell? ⟨W.heap.size + 1 + 1 + 1, 4, none⟩ = some (.int .i64 q.e.num) from fun X => cell_of_row X.now _ 4 _ _ _ (HV.out.later X.since).row3)
        have c35 := (show ∀ X : Later V, X.now.cell? ⟨W.heap.size + 1 + 1 + 1, 5, none⟩ = some (.slice q.aT q.e.T.len q.cT) from fun X => cell_of_row X.now _ 5 _ _ _ (HV.out.later X.since).row3)
        have c36 := (show ∀ X : Later V, X.now.cell? ⟨W.heap.size + 1 + 1 + 1, 6, none⟩ = some (.slice q.aL q.e.L.length q.cL) from fun X => cell_of_row X.now _ 6 _ _ _ (HV.out.later X.since).row3)
        have c37 := (show ∀ X : Later V, X.now.cell? ⟨W.heap.size + 1 + 1 + 1, 7, none⟩ = some (.slice q.aK q.e.K.len q.cK) from fun X => cell_of_row X.now _ 7 _ _ _ (HV.out.later X.since).row3)
        have c40 := (show ∀ X : Later V, X.now.cell? ⟨W.heap.size + 1 + 1 + 1 + 1, 0, none⟩ = some (.string m.m.p) from fun X => cell_of_row X.now _ 0 _ _ _ (HV.out.later X.since).row4)
        have c41 := (show ∀ X : Later V, X.now.cell? ⟨W.heap.size + 1 + 1 + 1 + 1, 1, none⟩ = some (.slice m.aI m.m.I.length m.cI) from fun X => cell_of_row X.now _ 1 _ _ _ (HV.out.later X.since).row4)
        have c42 := (show ∀ X : Later V, X.now.cell? ⟨W.heap.size + 1 + 1 + 1 + 1, 2, none⟩ = some (.slice m.aD m.m.D.length m.cD) from fun X => cell_of_row X.now _ 2 _ _ _ (HV.out.later X.since).row4)
        have c50 := (show ∀ X : Later V, X.now.cell? ⟨W.heap.size + 1 + 1 + 1 + 1 + 1, 0, none⟩ = some (.string n.m.p) from fun X => cell_of_row X.now _ 0 _ _ _ (HV.out.later X.since).row5)
        have c51 := (show ∀ X : Later V, X.now.cell? ⟨W.heap.size + 1 + 1 + 1 + 1 + 1, 1, none⟩ = some (.slice n.aI n.m.I.length n.cI) from fun X => cell_of_row X.now _ 1 _ _ _ (HV.out.later X.since).row5)
        have c52 := (show ∀ X : Later V, X.now.cell? ⟨W.heap.size + 1 + 1 + 1 + 1 + 1, 2, none⟩ = some (.slice n.aD n.m.D.length n.cD) from fun X => cell_of_row X.now _ 2 _ _ _ (HV.out.later X.since).row5)
        have HTEL := hid (fun X : Later V => Calls.later_of (HTE.out X.now ((HV.out.later X.since).below)))
        have HTRL := hid (fun X : Later V => Calls.later_of (HTR.out X.now ((HV.out.later X.since).below)))
        have HXEL := hid (fun X : Later V => Calls.later_of (HXE.out X.now ((HV.out.later X.since).below)))
        have HXRL := hid (fun X : Later V => Calls.later_of (HXR.out X.now ((HV.out.later X.since).below)))
        have HMEL := hid (fun X : Later V => Calls.later_of (HME.out X.now ((HV.out.later X.since).below)))
        have HMRL := hid (fun X : Later V => Calls.later_of (HMR.out X.now ((HV.out.later X.since).below)))
        go_wp2_with fail
        refine wp_region_later (by kernel_rfl) (by kernel_rfl) ?_
        cases R1 <;> cases R2 <;> cases R3 <;> (
          repeat (go_big_quiet_step ((first | (go_at_call 27; with_reducible exact HTEL.out _) | (go_at_call 28; with_reducible exact HTRL.out _) | (go_at_call 29; with_reducible exact HXEL.out _) | (go_at_call 30; with_reducible exact HXRL.out _) | (go_at_call 31; with_reducible exact HMEL.out _) | (go_at_call 32; with_reducible exact HMRL.out _))))
          refine wpQuiet_nil ?_
          intro _ hw'
          obtain ⟨X2, hX⟩ := hw'
          subst hX
          go_wp2_with fail
          go_ret
          exact ⟨by first | rfl | simp, (HV.out.later X2.since).below⟩)

end Go.Proofs.YthpkinmlpppglaaGreatDoor
