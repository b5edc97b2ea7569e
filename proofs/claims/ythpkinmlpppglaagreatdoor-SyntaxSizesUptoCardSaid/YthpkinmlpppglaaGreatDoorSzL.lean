/- syntax, the reference: TypeDepth. | syntax: what SyntaxSizes does. -/
import Derived.Test.YthpkinmlpppglaaGreatDoorSyRq
import Derived.Test.YthpkinmlpppglaaGreatDoorSyD
import Derived.Test.YthpkinmlpppglaaGreatDoorXm
import Derived.Test.YthpkinmlpppglaaGreatDoorSyA3
import Derived.Test.YthpkinmlpppglaaGreatDoorOa
namespace Go.Proofs.YthpkinmlpppglaaGreatDoor
open Go.RowKit Go.Shelf
attribute [local go_sem] Oper.semAt_some
def dmax (l : List Ty) (i : Nat) : Nat := maxL ((l.take i).map Ty.depth)
theorem dmax_succ {l : List Ty} {i : Nat} {y : Ty} (h : l[i]? = some y) : dmax l (i + 1) = max (dmax l i) y.depth := by
  unfold dmax
  rw [List.take_add_one, h, List.map_append, maxL_append]
  simp [maxL]
theorem dmax_le (t : Ty) (i : Nat) : dmax t.parts i ≤ t.size := by
  unfold dmax
  refine maxL_le fun a ha => ?_
  obtain ⟨u, hu, rfl⟩ := List.mem_map.1 ha
  have h1 := Ty.part_size (List.mem_of_mem_take hu)
  have h2 := u.depth_size
  omega
def RdT (w0 : World) (s : Nat) : Prop := ∀ x : TyI w0, x.t.size ≤ s → ∀ W, Below w0.heap.size w0 W → Calls Tryz.prog 18 #[.agg #[.int .i64 x.t.k, .string x.t.m, .string x.t.n, .slice x.aa x.t.A.len x.ca, .slice x.af x.t.F.len x.cf]] W
  fun e W' => e = .returned (.int .i64 (x.t.depth : Int)) ∧ Below W.heap.size W W'
set_option maxRecDepth 100000 in
set_option maxHeartbeats 4000000 in
theorem rd_step (w0 : World) (s : Nat) (hs : s + 1 ≤ 1099511627776) (ih : RdT w0 s) : RdT w0 (s + 1) := by
  intro x hx W hW
  have HI := hid ih
  clear ih
  obtain ⟨wa, hwa⟩ : ∃ wa, W.alloc (.cells #[.int .i64 x.t.k, .string x.t.m, .string x.t.n, .slice x.aa x.t.A.len x.ca, .slice x.af x.t.F.len x.cf] 25) = wa := ⟨_, rfl⟩
  have hba : Below W.heap.size W wa := by rw [← hwa]; exact (Below.refl _ W).alloc (Nat.le_refl _) _
  have hea : wa.heap[W.heap.size]? = some (.cells #[.int .i64 x.t.k, .string x.t.m, .string x.t.n, .slice x.aa x.t.A.len x.ca, .slice x.af x.t.F.len x.cf] 25 (0, 0)) := by rw [← hwa]; exact World.alloc_heap_new _ _
  have k0 := cell_of_row wa _ 0 _ _ _ hea
  have k1 := cell_of_row wa _ 1 _ _ _ hea
  have k2 := cell_of_row wa _ 2 _ _ _ hea
  have k3 := cell_of_row wa _ 3 _ _ _ hea
  have k4 := cell_of_row wa _ 4 _ _ _ hea
  have HP := hid (rparts_any w0 x wa (hW.trans (hba.mono hW.size)) (by omega))
  have HB := hid (And.intro hba hW)
  clear hba hea hW
  go_enter Tryz.func18, Tryz.ntmps18
  go_wp2_with fail
  refine HP.out.mono ?_
  rintro e w1 ⟨v, rs, rfl, hrs, hrow, hb1⟩
  obtain ⟨p, c, rfl⟩ := own_slice hrow
  clear k0 k1 k2 k3 k4 hwa
  have hln : rs.length = x.t.parts.length := by rw [← hrs, List.length_map]
  have hpz : dmax x.t.parts x.t.parts.length + 1 = x.t.depth := by unfold dmax; rw [List.take_length, Ty.depth_parts]; omega
  have hpl : x.t.parts.length < x.t.size := by
    have h : ∀ l : List Ty, l.length ≤ (l.map Ty.size).sum := fun l => by
      induction l with
      | nil => exact Nat.le_refl _
      | cons a l ih => simp only [List.length_cons, List.map_cons, List.sum_cons, Ty.size]; omega
    rw [Ty.size_parts]
    have := h x.t.parts
    omega
  obtain ⟨L, hL⟩ : ∃ L, rs.length = L := ⟨_, rfl⟩
  rw [hL] at hrow ⊢
  have hLs : L < x.t.size := by omega
  have H1 := hid (And.intro hrs (And.intro hrow (And.intro hb1 (And.intro hL (And.intro (hln.symm.trans hL) hpz)))))
  clear hrs hrow hb1 hln hpz hpl hL
  go_wp2_with fail
  go_loopw [3, 5] (fun q a wr => ∃ (i : Nat), a = .int .i64 (i : Int) ∧ i ≤ L ∧ q = .int .i64 (dmax x.t.parts i : Int) ∧ Below w1.heap.size w1 wr) (fun _ a _ => L - (intOf a).toNat)
  case atStart => exact ⟨0, rfl, Nat.zero_le _, rfl, Below.refl _ _⟩
  case round =>
    obtain ⟨i, rfl, hi, rfl, hB⟩ := hrel
    have HN := hid hB
    by_cases hlt : i < L
    · obtain ⟨g, cap, hv, _, _⟩ := H1.out.2.1.form (by omega)
      cases hv
      obtain ⟨y, hy⟩ : ∃ y, rs[i]? = some y := ⟨_, List.getElem?_eq_getElem (by rw [H1.out.2.2.2.1]; exact hlt)⟩
      have hc : ∀ j u, y.cells.toList[j]? = some u → j < 5 → wr.cell? ⟨g, i * 5 + j, none⟩ = some u := fun j u hu hj => by
        refine old_cell hB ?_
        rw [H1.out.2.1.cellAt (i * 5 + j) (by omega)]
        exact flat_at (fun y : TyI w0 => y.cells.toList) 5 (fun _ => rfl) rs i j y u hy hu
      have d0 := hc 0 _ rfl (by omega)
      have d1 := hc 1 _ rfl (by omega)
      have d2 := hc 2 _ rfl (by omega)
      have d3 := hc 3 _ rfl (by omega)
      have d4 := hc 4 _ rfl (by omega)
      have hyp : x.t.parts[i]? = some y.t := by rw [← H1.out.1, List.getElem?_map, hy]; rfl
      have hys : y.t.size < x.t.size := Ty.part_size (List.mem_of_getElem? hyp)
      have hps := dmax_succ hyp
      have hpl := dmax_le x.t i
      have hyd := y.t.depth_size
      have hcall := HI.out y (by omega) wr (HB.out.2.trans ((HB.out.1.trans ((H1.out.2.2.1.trans (HN.out.mono H1.out.2.2.1.size)).mono HB.out.1.size)).mono HB.out.2.size))
      have HC := hid (And.intro hps hcall)
      have hb1 : dmax x.t.parts i ≤ 1099511627776 ∧ y.t.depth ≤ 1099511627776 := by omega
      clear hc hy hyp hcall hps hpl hB hyd
      generalize dmax x.t.parts i = S at HC hb1 ⊢
      obtain ⟨sz, hsz⟩ : ∃ sz, y.t.depth = sz := ⟨_, rfl⟩
      rw [hsz] at HC hb1
      clear hsz
      obtain ⟨hb1, hb2⟩ := hb1
      simp only [Nat.add_zero] at d0
      go_wp2_with fail
      refine HC.out.2.mono ?_
      rintro e w4 ⟨rfl, hb4⟩
      have H4 := hid hb4
      clear hb4
      go_wp2_with fail
      go_roundw
      case rel => exact ⟨i + 1, by go_num, by omega, by rw [HC.out.1]; go_num, HN.out.trans (H4.out.mono HN.out.size)⟩
      case measure => simp [intOf]; omega
    · obtain rfl : i = L := by omega
      clear hB
      have hz : dmax x.t.parts i + 1 = x.t.depth := by rw [← H1.out.2.2.2.2.1]; exact H1.out.2.2.2.2.2
      have hdl := x.t.depth_size
      have hz2 : dmax x.t.parts i ≤ 1099511627776 := by omega
      clear hdl
      have HZ := hid hz
      clear hz
      generalize dmax x.t.parts i = S at HZ hz2 ⊢
      go_wp2_with fail
      go_ret
      exact ⟨by rw [← HZ.out]; rfl, HB.out.1.trans ((H1.out.2.2.1.trans (HN.out.mono H1.out.2.2.1.size)).mono HB.out.1.size)⟩
theorem rd_all (w0 : World) : ∀ s : Nat, s ≤ 1099511627776 → RdT w0 s := by
  intro s
  induction s with
  | zero => intro _ x hx; exact absurd hx (by unfold Ty.size; omega)
  | succ s ih => intro hs; exact rd_step w0 s hs (ih (by omega))
end Go.Proofs.YthpkinmlpppglaaGreatDoor

namespace Go.Proofs.YthpkinmlpppglaaGreatDoor
open Go.RowKit Go.Shelf

attribute [local go_sem] Oper.semAt_some
/-- The boxes of the law. -/
structure Bx3 (W : World) (t : TyI W) (p : XpI W) (m : MdI W) (w : World) : Prop where
  below : Below W.heap.size W w
  row0 : w.heap[W.heap.size]? = some (.cells #[.int .i64 t.t.k, .string t.t.m, .string t.t.n, .slice t.aa t.t.A.len t.ca, .slice t.af t.t.F.len t.cf] 25 (0, 0))
  row1 : w.heap[W.heap.size + 1]? = some (.cells #[.int .i64 p.e.k, .string p.e.m, .string p.e.n, .string p.e.tx, .int .i64 p.e.num, .slice p.aT p.e.T.len p.cT, .slice p.aL p.e.L.length p.cL, .slice p.aK p.e.K.len p.cK] 29 (0, 0))
  row2 : w.heap[W.heap.size + 1 + 1]? = some (.cells #[.string m.m.p, .slice m.aI m.m.I.length m.cI, .slice m.aD m.m.D.length m.cD] 33 (0, 0))
theorem Bx3.later {W : World} {t : TyI W} {p : XpI W} {m : MdI W} {w w' : World} (h : Bx3 W t p m w) (hb : Below w.heap.size w w') : Bx3 W t p m w' :=
  ⟨h.below.trans (hb.mono h.below.size), (hb.block _ (Array.getElem?_eq_some_iff.1 h.row0).1).trans h.row0, (hb.block _ (Array.getElem?_eq_some_iff.1 h.row1).1).trans h.row1, (hb.block _ (Array.getElem?_eq_some_iff.1 h.row2).1).trans h.row2⟩
theorem three_rows {w : World} (a b c : Obj) : Below w.heap.size w (((w.alloc a).alloc b).alloc c) ∧ (((w.alloc a).alloc b).alloc c).heap[w.heap.size]? = some a ∧ (((w.alloc a).alloc b).alloc c).heap[w.heap.size + 1]? = some b ∧ (((w.alloc a).alloc b).alloc c).heap[w.heap.size + 1 + 1]? = some c := by
  refine ⟨(((Below.refl _ w).alloc (Nat.le_refl _) _).alloc (by simp) _).alloc (by simp; omega) _, ?_, ?_, ?_⟩
  · exact (Below.heap_alloc _ _ _ (by simp; omega)).trans ((Below.heap_alloc _ _ _ (by simp)).trans (World.alloc_heap_new w _))
  · have h := World.alloc_heap_new (w.alloc a) b
    rw [World.size_alloc] at h
    exact (Below.heap_alloc _ _ _ (by simp)).trans h
  · have h := World.alloc_heap_new ((w.alloc a).alloc b) c
    simpa only [World.size_alloc] using h
set_option maxRecDepth 100000 in
set_option maxHeartbeats 8000000 in
theorem sizes_law (W : World) (t : TyI W) (p : XpI W) (m : MdI W) (hE : Env W) (h1 : t.t.size ≤ 1048576) (h2 : p.e.bk ≤ 1048576) (h3 : m.m.bk ≤ 1048576) :
    Calls Tryz.prog 3 #[.agg #[.int .i64 t.t.k, .string t.t.m, .string t.t.n, .slice t.aa t.t.A.len t.ca, .slice t.af t.t.F.len t.cf], .agg #[.int .i64 p.e.k, .string p.e.m, .string p.e.n, .string p.e.tx, .int .i64 p.e.num, .slice p.aT p.e.T.len p.cT, .slice p.aL p.e.L.length p.cL, .slice p.aK p.e.K.len p.cK], .agg #[.string m.m.p, .slice m.aI m.m.I.length m.cI, .slice m.aD m.m.D.length m.cD]] W fun e W' => e = .returned (.bool true) ∧ Below W.heap.size W W' := by
  have HS := hid (three_rows (w := W) (.cells #[.int .i64 t.t.k, .string t.t.m, .string t.t.n, .slice t.aa t.t.A.len t.ca, .slice t.af t.t.F.len t.cf] 25) (.cells #[.int .i64 p.e.k, .string p.e.m, .string p.e.n, .string p.e.tx, .int .i64 p.e.num, .slice p.aT p.e.T.len p.cT, .slice p.aL p.e.L.length p.cL, .slice p.aK p.e.K.len p.cK] 29) (.cells #[.string m.m.p, .slice m.aI m.m.I.length m.cI, .slice m.aD m.m.D.length m.cD] 33))
  obtain ⟨wa, hwa⟩ : ∃ wa, (((W.alloc (.cells #[.int .i64 t.t.k, .string t.t.m, .string t.t.n, .slice t.aa t.t.A.len t.ca, .slice t.af t.t.F.len t.cf] 25)).alloc (.cells #[.int .i64 p.e.k, .string p.e.m, .string p.e.n, .string p.e.tx, .int .i64 p.e.num, .slice p.aT p.e.T.len p.cT, .slice p.aL p.e.L.length p.cL, .slice p.aK p.e.K.len p.cK] 29)).alloc (.cells #[.string m.m.p, .slice m.aI m.m.I.length m.cI, .slice m.aD m.m.D.length m.cD] 33)) = wa := ⟨_, rfl⟩
  rw [hwa] at HS
  have HA : Kpt (Bx3 W t p m wa) := hid ⟨HS.out.1, HS.out.2.1, HS.out.2.2.1, HS.out.2.2.2⟩
  have HAW := hid (awakeS_any wa (hE.below HA.out.below))
  have hes := p.e.size_bk
  have hms := m.m.size_bk
  have hds := t.t.depth_size
  have HTS : Kpt (∀ W' : World, Below W.heap.size W W' → Calls Tryz.prog 15 #[.agg #[.int .i64 t.t.k, .string t.t.m, .string t.t.n, .slice t.aa t.t.A.len t.ca, .slice t.af t.t.F.len t.cf]] W' fun e W'' => e = .returned (.int .i64 (t.t.size : Int)) ∧ Below W'.heap.size W' W'') := hid (fun W' hW' => typeSize_any (TyV_below t.tyV hW') (by omega))
  have HTSR : Kpt (∀ W' : World, Below W.heap.size W W' → Calls Tryz.prog 16 #[.agg #[.int .i64 t.t.k, .string t.t.m, .string t.t.n, .slice t.aa t.t.A.len t.ca, .slice t.af t.t.F.len t.cf]] W' fun e W'' => e = .returned (.int .i64 (t.t.size : Int)) ∧ Below W'.heap.size W' W'') := hid (fun W' hW' => rs_all W _ (by omega) t (Nat.le_refl _) W' hW')
  have HTD : Kpt (∀ W' : World, Below W.heap.size W W' → Calls Tryz.prog 17 #[.agg #[.int .i64 t.t.k, .string t.t.m, .string t.t.n, .slice t.aa t.t.A.len t.ca, .slice t.af t.t.F.len t.cf]] W' fun e W'' => e = .returned (.int .i64 (t.t.depth : Int)) ∧ Below W'.heap.size W' W'') := hid (fun W' hW' => typeDepth_any (TyV_below t.tyV hW') (by omega))
  have HTDR : Kpt (∀ W' : World, Below W.heap.size W W' → Calls Tryz.prog 18 #[.agg #[.int .i64 t.t.k, .string t.t.m, .string t.t.n, .slice t.aa t.t.A.len t.ca, .slice t.af t.t.F.len t.cf]] W' fun e W'' => e = .returned (.int .i64 (t.t.depth : Int)) ∧ Below W'.heap.size W' W'') := hid (fun W' hW' => rd_all W _ (by omega) t (Nat.le_refl _) W' hW')
  have HXS : Kpt (∀ W' : World, Below W.heap.size W W' → Calls Tryz.prog 19 #[.agg #[.int .i64 p.e.k, .string p.e.m, .string p.e.n, .string p.e.tx, .int .i64 p.e.num, .slice p.aT p.e.T.len p.cT, .slice p.aL p.e.L.length p.cL, .slice p.aK p.e.K.len p.cK]] W' fun e W'' => e = .returned (.int .i64 (p.e.size : Int)) ∧ Below W'.heap.size W' W'') := hid (fun W' hW' => ExprSize_any p (by omega) W' hW')
  have HXSR : Kpt (∀ W' : World, Below W.heap.size W W' → Calls Tryz.prog 13 #[.agg #[.int .i64 p.e.k, .string p.e.m, .string p.e.n, .string p.e.tx, .int .i64 p.e.num, .slice p.aT p.e.T.len p.cT, .slice p.aL p.e.L.length p.cL, .slice p.aK p.e.K.len p.cK]] W' fun e W'' => e = .returned (.int .i64 (p.e.size : Int)) ∧ Below W'.heap.size W' W'') := hid (fun W' hW' => rxz_all W _ (by omega) p (Nat.le_refl _) W' hW')
  have HMS : Kpt (∀ W' : World, Below W.heap.size W W' → Calls Tryz.prog 20 #[.agg #[.string m.m.p, .slice m.aI m.m.I.length m.cI, .slice m.aD m.m.D.length m.cD]] W' fun e W'' => e = .returned (.int .i64 (m.m.size : Int)) ∧ Below W'.heap.size W' W'') := hid (fun W' hW' => ModuleSize_any m (by omega) W' hW')
  have HMSR : Kpt (∀ W' : World, Below W.heap.size W W' → Calls Tryz.prog 14 #[.agg #[.string m.m.p, .slice m.aI m.m.I.length m.cI, .slice m.aD m.m.D.length m.cD]] W' fun e W'' => e = .returned (.int .i64 (m.m.size : Int)) ∧ Below W'.heap.size W' W'') := hid (fun W' hW' => rms_any W m (by omega) W' hW')
  have hee : p.e.size ≤ 1048576 ∧ m.m.size ≤ 1048576 ∧ t.t.depth ≤ 1048576 := by omega
  generalize p.e.size = es at *
  generalize m.m.size = ms at *
  generalize t.t.depth = td at *
  obtain ⟨k1, k2, k3⟩ := hee
  clear HS hE hes hms hds h2 h3
  go_enter Tryz.func3, Tryz.ntmps3
  go_wp2_with fail
  refine HAW.out.mono ?_
  rintro e w2 ⟨rfl, hb⟩
  have HB := hid (HA.out.later hb)
  clear hb hwa HA HAW
  have c00 := cell_of_row w2 _ 0 _ _ _ HB.out.row0
  have c01 := cell_of_row w2 _ 1 _ _ _ HB.out.row0
  have c02 := cell_of_row w2 _ 2 _ _ _ HB.out.row0
  have c03 := cell_of_row w2 _ 3 _ _ _ HB.out.row0
  have c04 := cell_of_row w2 _ 4 _ _ _ HB.out.row0
  obtain ⟨w3, hw3⟩ : ∃ w3, w2.alloc (.cells #[.int .i64 t.t.k, .string t.t.m, .string t.t.n, .slice t.aa t.t.A.len t.ca, .slice t.af t.t.F.len t.cf] 25) = w3 := ⟨_, rfl⟩
  have hb3 : Below w2.heap.size w2 w3 := by rw [← hw3]; exact (Below.refl _ w2).alloc (Nat.le_refl _) _
  have e3 : w3.heap[w2.heap.size]? = some (.cells #[.int .i64 t.t.k, .string t.t.m, .string t.t.n, .slice t.aa t.t.A.len t.ca, .slice t.af t.t.F.len t.cf] 25 (0, 0)) := by rw [← hw3]; exact World.alloc_heap_new w2 _
  have H3 := hid (HB.out.later hb3)
  have hrow : ∀ i y j u', [t][i]? = some y → y.cells.toList[j]? = some u' → w3.cell? ⟨w2.heap.size, i * 5 + j, none⟩ = some u' := by
    intro i y j u' hy hu
    have hj : j < 5 := (List.getElem?_eq_some_iff.1 hu).1
    have hj5 : j = 0 ∨ j = 1 ∨ j = 2 ∨ j = 3 ∨ j = 4 := by omega
    match i, hy with
    | 0, hy => cases hy; rcases hj5 with rfl | rfl | rfl | rfl | rfl <;> (cases hu; exact cell_of_row w3 _ _ _ _ _ e3)
  have hfew := fewT_any W [t] w2.heap.size 1 6000 w3 H3.out.below hrow (by show t.t.size + 0 ≤ _; omega) (by show 1 ≤ _; omega)
  have hsm : (([t].map (·.t)).map Ty.size).sum = t.t.size + 0 := rfl
  rw [hsm] at hfew
  have HF := hid (show Calls Tryz.prog 12 #[.int .i64 6000, .slice (some ⟨w2.heap.size, 0, none⟩) 1 1] w3 _ from hfew)
  obtain ⟨FW, hFW⟩ : ∃ FW, decide (((t.t.size + 0 : Nat) : Int) ≤ 6000) = FW := ⟨_, rfl⟩
  rw [hFW] at HF
  have hts := h1
  generalize t.t.size = ts at *
  clear hsm hfew hrow e3 hb3 hFW h1
  go_wp2_with fail
  refine HF.out.mono ?_
  rintro e w4 ⟨rfl, hb4⟩
  have HV := hid (H3.out.later hb4)
  clear hb4 hw3 c00 c01 c02 c03 c04
  cases FW with
  | false =>
    go_wp2_with fail
    go_ret
    exact ⟨rfl, HV.out.below⟩
  | true =>
    have c10 := cell_of_row w4 _ 0 _ _ _ HV.out.row1
    have c11 := cell_of_row w4 _ 1 _ _ _ HV.out.row1
    have c12 := cell_of_row w4 _ 2 _ _ _ HV.out.row1
    have c13 := cell_of_row w4 _ 3 _ _ _ HV.out.row1
    have c14 := cell_of_row w4 _ 4 _ _ _ HV.out.row1
    have c15 := cell_of_row w4 _ 5 _ _ _ HV.out.row1
    have c16 := cell_of_row w4 _ 6 _ _ _ HV.out.row1
    have c17 := cell_of_row w4 _ 7 _ _ _ HV.out.row1
    go_wp2_with fail
    refine (HXSR.out w4 HV.out.below).mono ?_
    rintro e w5 ⟨rfl, hb5⟩
    have HV5 := hid (HV.out.later hb5)
    clear hb5 c10 c11 c12 c13 c14 c15 c16 c17
    by_cases g1 : 6000 < es
    · have g1i : (6000 : Int) < (es : Int) := by omega
      go_wp2_with fail
      go_ret
      exact ⟨rfl, HV5.out.below⟩
    · have g1i : ¬ (6000 : Int) < (es : Int) := by omega
      have c20 := cell_of_row w5 _ 0 _ _ _ HV5.out.row2
      have c21 := cell_of_row w5 _ 1 _ _ _ HV5.out.row2
      have c22 := cell_of_row w5 _ 2 _ _ _ HV5.out.row2

      go_wp2_with fail
      refine (HMSR.out w5 HV5.out.below).mono ?_
      rintro e w6 ⟨rfl, hb6⟩
      have HV6 := hid (HV5.out.later hb6)
      clear hb6 c20 c21 c22
      by_cases g2 : 6000 < ms
      · have g2i : (6000 : Int) < (ms : Int) := by omega
        go_wp2_with fail
        go_ret
        exact ⟨rfl, HV6.out.below⟩
      · have g2i : ¬ (6000 : Int) < (ms : Int) := by omega
        clear HV HV5
        have HV := HV6
        clear HV6
        have c00 := (show ∀ X : Later w6, X.now.cell? ⟨W.heap.size, 0, none⟩ = some (.int .i64 t.t.k) from fun X => cell_of_row X.now _ 0 _ _ _ (HV.out.later X.since).row0)
        have c01 := (show ∀ X : Later w6, X.now.cell? ⟨W.heap.size, 1, none⟩ = some (.string t.t.m) from fun X => cell_of_row X.now _ 1 _ _ _ (HV.out.later X.since).row0)
        have c02 := (show ∀ X : Later w6, X.now.cell? ⟨W.heap.size, 2, none⟩ = some (.string t.t.n) from fun X => cell_of_row X.now _ 2 _ _ _ (HV.out.later X.since).row0)
        have c03 := (show ∀ X : Later w6, X.now.cell? ⟨W.heap.size, 3, none⟩ = some (.slice t.aa t.t.A.len t.ca) from fun X => cell_of_row X.now _ 3 _ _ _ (HV.out.later X.since).row0)
        have c04 := (show ∀ X : Later w6, X.now.cell? ⟨W.heap.size, 4, none⟩ = some (.slice t.af t.t.F.len t.cf) from fun X => cell_of_row X.now _ 4 _ _ _ (HV.out.later X.since).row0)
        have c10 := (show ∀ X : Later w6, X.now.cell? ⟨W.heap.size + 1, 0, none⟩ = some (.int .i64 p.e.k) from fun X => cell_of_row X.now _ 0 _ _ _ (HV.out.later X.since).row1)
        have c11 := (show ∀ X : Later w6, X.now.cell? ⟨W.heap.size + 1, 1, none⟩ = some (.string p.e.m) from fun X => cell_of_row X.now _ 1 _ _ _ (HV.out.later X.since).row1)
        have c12 := (show ∀ X : Later w6, X.now.cell? ⟨W.heap.size + 1, 2, none⟩ = some (.string p.e.n) from fun X => cell_of_row X.now _ 2 _ _ _ (HV.out.later X.since).row1)
        have c13 := (show ∀ X : Later w6, X.now.cell? ⟨W.heap.size + 1, 3, none⟩ = some (.string p.e.tx) from fun X => cell_of_row X.now _ 3 _ _ _ (HV.out.later X.since).row1)
        have c14 := (show ∀ X : Later w6, X.now.cell? ⟨W.heap.size + 1, 4, none⟩ = some (.int .i64 p.e.num) from fun X => cell_of_row X.now _ 4 _ _ _ (HV.out.later X.since).row1)
        have c15 := (show ∀ X : Later w6, X.now.cell? ⟨W.heap.size + 1, 5, none⟩ = some (.slice p.aT p.e.T.len p.cT) from fun X => cell_of_row X.now _ 5 _ _ _ (HV.out.later X.since).row1)
        have c16 := (show ∀ X : Later w6, X.now.cell? ⟨W.heap.size + 1, 6, none⟩ = some (.slice p.aL p.e.L.length p.cL) from fun X => cell_of_row X.now _ 6 _ _ _ (HV.out.later X.since).row1)
        have c17 := (show ∀ X : Later w6, X.now.cell? ⟨W.heap.size + 1, 7, none⟩ = some (.slice p.aK p.e.K.len p.cK) from fun X => cell_of_row X.now _ 7 _ _ _ (HV.out.later X.since).row1)
        have c20 := (show ∀ X : Later w6, X.now.cell? ⟨W.heap.size + 1 + 1, 0, none⟩ = some (.string m.m.p) from fun X => cell_of_row X.now _ 0 _ _ _ (HV.out.later X.since).row2)
        have c21 := (show ∀ X : Later w6, X.now.cell? ⟨W.heap.size + 1 + 1, 1, none⟩ = some (.slice m.aI m.m.I.length m.cI) from fun X => cell_of_row X.now _ 1 _ _ _ (HV.out.later X.since).row2)
        have c22 := (show ∀ X : Later w6, X.now.cell? ⟨W.heap.size + 1 + 1, 2, none⟩ = some (.slice m.aD m.m.D.length m.cD) from fun X => cell_of_row X.now _ 2 _ _ _ (HV.out.later X.since).row2)
        have HTSL := hid (fun X : Later w6 => Calls.later_of (HTS.out X.now ((HV.out.later X.since).below)))
        have HTSRL := hid (fun X : Later w6 => Calls.later_of (HTSR.out X.now ((HV.out.later X.since).below)))
        have HTDL := hid (fun X : Later w6 => Calls.later_of (HTD.out X.now ((HV.out.later X.since).below)))
        have HTDRL := hid (fun X : Later w6 => Calls.later_of (HTDR.out X.now ((HV.out.later X.since).below)))
        have HXSL := hid (fun X : Later w6 => Calls.later_of (HXS.out X.now ((HV.out.later X.since).below)))
        have HXSRL := hid (fun X : Later w6 => Calls.later_of (HXSR.out X.now ((HV.out.later X.since).below)))
        have HMSL := hid (fun X : Later w6 => Calls.later_of (HMS.out X.now ((HV.out.later X.since).below)))
        have HMSRL := hid (fun X : Later w6 => Calls.later_of (HMSR.out X.now ((HV.out.later X.since).below)))

        go_wp2_with fail
        refine wp_region_later (by kernel_rfl) (by kernel_rfl) ?_
        repeat (go_big_quiet_step (first | (go_at_call 15; with_reducible exact HTSL.out _) | (go_at_call 16; with_reducible exact HTSRL.out _) | (go_at_call 17; with_reducible exact HTDL.out _) | (go_at_call 18; with_reducible exact HTDRL.out _) | (go_at_call 19; with_reducible exact HXSL.out _) | (go_at_call 13; with_reducible exact HXSRL.out _) | (go_at_call 20; with_reducible exact HMSL.out _) | (go_at_call 14; with_reducible exact HMSRL.out _)))
        refine wpQuiet_nil ?_
        intro _ hw'
        obtain ⟨X2, hX⟩ := hw'
        subst hX
        go_wp2_with fail
        go_ret
        exact ⟨by first | rfl | simp, (HV.out.later X2.since).below⟩

end Go.Proofs.YthpkinmlpppglaaGreatDoor
