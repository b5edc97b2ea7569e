/- syntax: strings within a bulk are short; an argument that is a type, with its bulk. | syntax: the check of an expression's node. | syntax: the depth of an expression. | syntax: CheckExpr returns the error of the form of an expression. | syntax: what has its form has parts that have theirs, and are smaller. | syntax: the parts of a type that has its form have theirs, and are smaller; so are the kids of an expression. -/
import Derived.Test.YtnkhebgjhipepaaGreatDoorSyC
import Derived.Test.YtnkhebgjhipepaaGreatDoorXv
import Derived.Test.YtnkhebgjhipepaaGreatDoorOa
import Derived.Test.YtnkhebgjhipepaaGreatDoorXz
import Derived.Test.YtnkhebgjhipepaaGreatDoorKe
import Derived.OwnWalkIn
import Derived.Sort.BigQuietIn
import Derived.Test.YtnkhebgjhipepaaGreatDoorSyD
import Derived.Test.YtnkhebgjhipepaaGreatDoorRzM
import Derived.Test.YtnkhebgjhipepaaGreatDoorXm
import Derived.Test.YtnkhebgjhipepaaGreatDoorSyA3
namespace Go.Proofs.YtnkhebgjhipepaaGreatDoor
open Go.ChangeShapes Go.WideShapes Go.ChangeAt Go.RowKit

/-- A type's strings are of at most N bytes. -/
def Ty.Up (N : Nat) (t : Ty) : Prop := t.m.size ≤ N ∧ t.n.size ≤ N ∧ ∀ s ∈ namesT t, s.size ≤ N
theorem Ty.Up.mono {N M : Nat} {t : Ty} (h : t.Up N) (hm : N ≤ M) : t.Up M := ⟨Nat.le_trans h.1 hm, Nat.le_trans h.2.1 hm, fun s hs => Nat.le_trans (h.2.2 s hs) hm⟩
theorem Tr.fds_bk (T : Tr) : ∀ q ∈ T.fds, q.1.size ≤ (T.enc true).bk := by
  induction T with
  | nil => intro q hq; cases hq
  | node fn op k m n A F nx ha hf hn =>
    intro q hq
    simp only [Tr.fds, List.mem_cons] at hq
    simp only [Tr.enc, Dt.bk]
    rcases hq with rfl | hq
    · show fn.size ≤ _; omega
    · have := hn q hq; omega
theorem names_bk {k : Int} {m n : ByteArray} {A F : Tr} : ∀ s ∈ namesT ⟨k, m, n, A, F⟩, s.size ≤ (F.enc true).bk := by
  intro s hs
  obtain ⟨q, hq, rfl⟩ := List.mem_map.1 hs
  exact F.fds_bk q hq
theorem Tr.up_nodes (T : Tr) : ∀ fl, ∀ p ∈ T.nodes, p.Up (T.enc fl).bk := by
  induction T with
  | nil => intro fl p hp; cases hp
  | node fn op k m n A F nx ha hf hn =>
    intro fl p hp
    simp only [Tr.nodes, List.mem_cons, List.mem_append] at hp
    have hb : m.size + n.size + (A.enc false).bk + (F.enc true).bk + (nx.enc fl).bk ≤ ((Tr.node fn op k m n A F nx).enc fl).bk := by
      cases fl <;> simp only [Tr.enc, Dt.bk] <;> omega
    rcases hp with rfl | ((h | h) | h)
    · exact ⟨by show m.size ≤ _; omega, by show n.size ≤ _; omega, fun s hs => by have := names_bk s hs; omega⟩
    · exact (ha false p h).mono (by omega)
    · exact (hf true p h).mono (by omega)
    · exact (hn fl p h).mono (by omega)
/-- A type's bulk. -/
def Ty.db (t : Ty) : Nat := (t.on .nil).bk
theorem Ty.on_db (t : Ty) (nx : Dt) : (t.on nx).bk = t.db + nx.bk := by simp only [Ty.db, Ty.on, Dt.bk]; omega
theorem Ty.db_eq (t : Ty) : t.db = t.m.size + t.n.size + (t.A.enc false).bk + (t.F.enc true).bk + 5 := by simp only [Ty.db, Ty.on, Dt.bk]; omega
theorem Ty.up_nodes (t : Ty) : ∀ p ∈ t.nodes, p.Up t.db := by
  intro p hp
  simp only [Ty.nodes, List.mem_cons, List.mem_append] at hp
  have hb := t.db_eq
  rcases hp with rfl | (h | h)
  · exact ⟨by omega, by omega, fun s hs => by have := names_bk s hs; omega⟩
  · exact (t.A.up_nodes false p h).mono (by omega)
  · exact (t.F.up_nodes true p h).mono (by omega)
theorem Ty.sh_nodes (t : Ty) (h : t.db ≤ 1099511627776) : ∀ p ∈ t.nodes, p.Sh := fun p hp => (t.up_nodes p hp).mono (by omega)
theorem Ty.size_db (t : Ty) : t.size ≤ t.db := by have h := t.on_bk .nil; simp only [Ty.db]; omega
theorem Tr.el_db (T : Tr) : ∀ fl, ∀ t ∈ T.els, t.db ≤ (T.enc fl).bk := by
  induction T with
  | nil => intro fl t ht; cases ht
  | node fn op k m n A F nx ha hf hn =>
    intro fl t ht
    simp only [Tr.els, List.mem_cons] at ht
    rcases ht with rfl | ht
    · rw [Ty.db_eq]; cases fl <;> simp only [Tr.enc, Dt.bk] <;> omega
    · have := hn fl t ht; cases fl <;> simp only [Tr.enc, Dt.bk] <;> omega
theorem Ty.part_db {t p : Ty} (h : p ∈ t.parts) : p.db < t.db := by
  have hb := t.db_eq
  rcases List.mem_append.1 h with h | h
  · have := t.A.el_db false p h; omega
  · have := t.F.el_db true p h; omega
theorem Lb.bk_mem : ∀ (L : List Lb) (l : Lb), l ∈ L → l.nm.size + l.vr.size + l.t.db ≤ (encLb L).bk := by
  intro L
  induction L with
  | nil => intro l hl; cases hl
  | cons x r ih =>
    intro l hl
    simp only [encLb, Dt.bk, Ty.on_db]
    rcases List.mem_cons.1 hl with rfl | hl
    · omega
    · have := ih l hl; omega
theorem Xp.ty_db {e : Xp} {t : Ty} (h : t ∈ e.tys) : t.db ≤ e.bk := by
  have hb := e.bk_eq
  rcases List.mem_append.1 h with h | h
  · have := e.T.el_db false t h; omega
  · split at h
    · obtain ⟨l, hl, rfl⟩ := List.mem_map.1 h
      have := Lb.bk_mem _ l hl; omega
    · cases h

section
variable {H : Type} {enc : TypeId × Value → H} {W : World} {base : Nat} {v : Value} {d : DataW H} {p : List MemPlace}
set_option maxRecDepth 100000 in
theorem open_tybA (hval : Value.okWide Tryz.prog W .any base 25 v) (h : DataW.Trod enc Tryz.prog W 0 (fun _ => true) true 25 v d p) : ∃ x : TyI W, v = x.v ∧ x.t.Can ∧ x.t.db ≤ Rows.uptoBulk d := by
  obtain ⟨cs, D, rfl, hr, hc, hb⟩ := open_argD Tryz.underlying25 (by kernel_rfl) hval h
  rw [flTy] at hc
  obtain ⟨t, nx, rfl, hcan, hn⟩ := conf_ty hc
  obtain rfl := conf_nil rfl hn
  obtain ⟨x, r, hx, hv, hr0⟩ := tyI_reads hr
  have hr1 : r = [] := hr0
  subst hr1 hx
  refine ⟨x, ?_, hcan, hb⟩
  show Value.agg cs = .agg x.cells
  rw [← Array.toArray_toList (xs := cs), hv]; rfl
end
end Go.Proofs.YtnkhebgjhipepaaGreatDoor

namespace Go.Proofs.YtnkhebgjhipepaaGreatDoor
open Go.RowKit Go.Shelf

/-- A region that draws its order, whose callees make memory and turn nothing that was there, inside a fence. -/
theorem wpIn_region_later {F : Fence} {n : Nat} {P : Program} {id : Nat} {Q : Exit → Act → World → Prop} {a : Act} {w : World} {l : List Oper} (hro : F.round = none) (hm : P.follows .mixedOrders = true) (hB : Region.lexB .any l.toArray = true)
    (h : wpQuietIn F n P l.toArray (fun w' => ∃ x : Later w, w' = x.now) (fun a' => ∀ w', (∃ x : Later w, w' = x.now) → Q .normal a' w') l a) : (Code.region id l.toArray true).wpIn F n P Q a w :=
  wpIn_region_quiet (C := fun w' => ∃ x : Later w, w' = x.now) hro hm hB ⟨⟨_, (Below.refl _ _).drew⟩, rfl⟩ (by simpa using h)

def namesL (L : List Lb) : List ByteArray := L.map (·.nm)
/-- The error of a node's form. -/
def chkE (e : Xp) : Int :=
  if (decide ((e.T.len : Int) ≠ xTC e.k e.T.len) || decide ((e.K.len : Int) ≠ kidC e.k e.L e.n e.K.len) || !(restE e).eq Xp0 || !e.L.all fun l => (restL e.k l).eq Lb0) = true then 1 else
  if (decide (32 < e.L.length) || decide (8 < e.T.len) || decide (65536 < e.tx.size)) = true then 7 else
  if (!exN e || !allN (namesL e.L)) = true then 4 else
  if ordN (namesL e.L) ≠ 0 then ordN (namesL e.L) else
  if e.k = 15 ∧ e.n = e.tx then 5 else fst0 (e.tys.map chkT)
/-- Where the check's memory lies. -/
structure CkE {w0 : World} (W : World) (x : XpI w0) (V : World) : Prop where
  row : V.heap[W.heap.size]? = some (.cells x.cells 29 (0, 0))
  box : Boxed V (W.heap.size + 1) 40 (.int .i64 0)
  below : Below W.heap.size W V
theorem CkE.later {w0 : World} {W V V' : World} {x : XpI w0} (h : CkE W x V) (hb : Below V.heap.size V V') : CkE W x V' :=
  ⟨(hb.block _ (Array.getElem?_eq_some_iff.1 h.row).1).trans h.row, (hb.block _ h.box.lt).trans h.box, h.below.trans (hb.mono h.below.size)⟩
theorem CkE.set {w0 : World} {W V : World} {x : XpI w0} (h : CkE W x V) (r : Int) : (V.setCell ⟨W.heap.size + 1, 0, none⟩ (.int .i64 r)).cell? ⟨W.heap.size + 1, 0, none⟩ = some (.int .i64 r) ∧ Below W.heap.size W (V.setCell ⟨W.heap.size + 1, 0, none⟩ (.int .i64 r)) :=
  ⟨(h.box.set (.int .i64 r)).cell, h.below.trans (below_set _ _ (by omega))⟩
theorem wide_fn (f : FuncId) : Fence.wide.fn f = True := rfl
attribute [local go_sem] Oper.semAt_some wide_fn
set_option maxRecDepth 100000 in
set_option maxHeartbeats 16000000 in
theorem checkexprnode_any {w0 : World} (x : XpI w0) (W : World) (hW : Below w0.heap.size w0 W) (hbig : x.e.bk ≤ 1099511627776) (hE : Env W) :
    Calls Tryz.prog 70 #[.agg #[.int .i64 x.e.k, .string x.e.m, .string x.e.n, .string x.e.tx, .int .i64 x.e.num, .slice x.aT x.e.T.len x.cT, .slice x.aL x.e.L.length x.cL, .slice x.aK x.e.K.len x.cK]] W fun e W' => e = .returned (.int .i64 (chkE x.e)) ∧ Below W.heap.size W W' := by
  obtain ⟨i0, hi, hz0, hz1, hz2⟩ := info_parts infoStr2
  obtain ⟨wa, hwa⟩ : ∃ wa, W.alloc (.cells #[.int .i64 x.e.k, .string x.e.m, .string x.e.n, .string x.e.tx, .int .i64 x.e.num, .slice x.aT x.e.T.len x.cT, .slice x.aL x.e.L.length x.cL, .slice x.aK x.e.K.len x.cK] 29) = wa := ⟨_, rfl⟩
  obtain ⟨wc, hwc⟩ : ∃ wc, wa.alloc (.cells #[.int .i64 0] 40) = wc := ⟨_, rfl⟩
  have hbk := x.e.bk_eq
  have hlL : x.e.L.length ≤ 1099511627776 := by have := Lb.len_bk x.e.L; omega
  have hlT : x.e.T.len ≤ 1099511627776 := by have := Tr.len_le x.e.T; have := x.e.T.size_enc false; omega
  have hlK : x.e.K.len ≤ 1099511627776 := by have := Ex.len_bk x.e.K; omega
  have hlX : x.e.tx.size ≤ 1099511627776 := by omega
  have hba : Below W.heap.size W wa := by rw [← hwa]; exact (Below.refl _ W).alloc (Nat.le_refl _) _
  have hsa : wa.heap.size = W.heap.size + 1 := by rw [← hwa]; simp
  have hsc : wc.heap.size = W.heap.size + 1 + 1 := by rw [← hwc]; simp [hsa]
  have hea : wa.heap[W.heap.size]? = some (.cells #[.int .i64 x.e.k, .string x.e.m, .string x.e.n, .string x.e.tx, .int .i64 x.e.num, .slice x.aT x.e.T.len x.cT, .slice x.aL x.e.L.length x.cL, .slice x.aK x.e.K.len x.cK] 29 (0, 0)) := by rw [← hwa]; exact World.alloc_heap_new _ _
  have hbc : Below wa.heap.size wa wc := by rw [← hwc]; exact (Below.refl _ wa).alloc (Nat.le_refl _) _
  have hec := (hbc.block _ (by omega)).trans hea
  have h2c : Boxed wc (W.heap.size + 1) 40 (.int .i64 0) := by rw [← hwc, ← hsa]; exact Boxed.new _ _ _
  have HC : Kpt (CkE W x wc) := hid ⟨hec, h2c, hba.trans (hbc.mono hba.size)⟩
  have HW := hid (And.intro hW (And.intro hbig hE))
  have k6 := cell_of_row wc _ 6 _ _ _ hec
  clear hba hea hbc hec h2c hW hE hbk hbig
  refine (callsIn_wide (n := 9)).1 ?_
  refine callsIn_of_wp_marks Tryz.func70 rfl trivial ?_ rfl
  simp only [Tryz.ntmps70, List.size_toArray, List.length_cons, List.length_nil, Nat.reduceAdd, Nat.reduceSub, Array.replicate_succ, Array.replicate_zero, List.push_toArray, List.append_toArray, List.nil_append, List.cons_append]
  gi_wp2_with (gi_at_make; refine wpListIn_make_own _ rfl _ _ 49 rfl (W.heap.size + 1 + 1) 9 i0 (.string ByteArray.empty) 1 Tryz.underlying49 hi hz0 hz1 _ _ _ x.e.L.length rfl rfl (by omega) ?b2 ?b3 ?b4 ?_)
  case b2 => rw [hz2]; omega
  case b3 => unfold maxLen; omega
  case b4 => omega
  intro w1 hown hgr
  have hb1 : Below wc.heap.size wc w1 := ⟨hgr.os, hgr.tape, hgr.output, hgr.size, fun i hi => hgr.block i hi (by simp)⟩
  have k66 := old_cell hb1 k6
  have H1 := hid (And.intro hown hb1)
  clear hgr hown hb1 hwa hwc k6
  gi_wp2_with fail
  clear k66
  gi_loopw [3, 16] (fun q a wr => ∃ (i : Nat) (p : Option Addr) (c : Nat), a = .int .i64 (i : Int) ∧ i ≤ x.e.L.length ∧ q = .slice p i c ∧ wr.ownsRow (W.heap.size + 1 + 1) 9 1 (.slice p i c) i (((namesL x.e.L).take i).map Value.string) ∧ Below (W.heap.size + 1 + 1) wc wr) (fun _ a _ => x.e.L.length - (intOf a).toNat)
  case atStart => exact ⟨0, _, _, rfl, Nat.zero_le _, rfl, H1.out.1, by rw [← hsc]; exact H1.out.2⟩
  case round =>
    clear H1
    obtain ⟨i, p, c, rfl, hi9, rfl, hrow, hB⟩ := hrel
    have HN := hid (And.intro hrow hB)
    have hwrs := hB.size
    clear hrow hB
    by_cases hlt : i < x.e.L.length
    · obtain ⟨bf, of, lx, y, haf, hlx, hyt, d0, d1, d2, d3, d4, d5, d6, d7⟩ := lies_lb x.e.L x.aL i 0 (by rw [Nat.zero_mul]; exact rowD_zero (m := 1) x.hL) hlt
      simp only [Nat.zero_add] at d0 d1 d2 d3 d4 d5 d6 d7
      have hWr := HW.out.1.trans ((HC.out.below.trans (HN.out.2.mono (by omega))).mono HW.out.1.size)
      have d0 := old_cell hWr d0
      have d1 := old_cell hWr d1
      have d2 := old_cell hWr d2
      have d3 := old_cell hWr d3
      have d4 := old_cell hWr d4
      have d5 := old_cell hWr d5
      have d6 := old_cell hWr d6
      have d7 := old_cell hWr d7
      have hsn : (namesL x.e.L).take (i + 1) = (namesL x.e.L).take i ++ [lx.nm] := by
        unfold namesL
        exact take_snoc (by rw [List.getElem?_map, hlx]; rfl)
      obtain ⟨wb, hwb⟩ : ∃ wb, wr.alloc (.cells #[.string lx.nm, .string lx.vr, .int .i64 y.t.k, .string y.t.m, .string y.t.n, .slice y.aa y.t.A.len y.ca, .slice y.af y.t.F.len y.cf, .bool lx.op] 102) = wb := ⟨_, rfl⟩
      have hbb : Below wr.heap.size wr wb := by rw [← hwb]; exact (Below.refl _ wr).alloc (Nat.le_refl _) _
      have heb : wb.heap[wr.heap.size]? = some (.cells #[.string lx.nm, .string lx.vr, .int .i64 y.t.k, .string y.t.m, .string y.t.n, .slice y.aa y.t.A.len y.ca, .slice y.af y.t.F.len y.cf, .bool lx.op] 102 (0, 0)) := by rw [← hwb]; exact World.alloc_heap_new _ _
      have e0 := cell_of_row wb _ 0 _ _ _ heb
      have hBb : Below (W.heap.size + 1 + 1) wc wb := HN.out.2.trans (hbb.mono (by omega))
      have hob := own_belowS HN.out.1 hbb
      have hsb := hBb.size
      have HS := hid (And.intro hsn (And.intro hob hBb))
      clear hsn hyt hlx hWr heb hbb hob hBb
      rw [haf]
      gi_wp2_with (gi_at_builtin; refine wpListIn_append_own _ rfl _ _ 49 rfl (W.heap.size + 1 + 1) 9 i0 _ 1 16 Tryz.underlying49 hi hz0 hz1 hz2 rfl (by decide) _ _ _ rfl (HS.out.2.1.alloc _) ⟨wb.heap.size, 0, none⟩ 1 1 [.string lx.nm] rfl rfl (cell_one_new _ _ _) (by simp [Value.oneCell']) (by unfold maxLen; omega) (by omega) (alloc_le (by omega) _) ?_; intro v' w3 hown3 hgrow3 _; obtain ⟨g', cap', rfl⟩ := ownsRow_succ hown3; have hgrow4 : World.grownBy _ w3 (Value.ownBlock (.slice p i c)) := hgrow3; have K3 := hid (And.intro hown3 hgrow4); clear hown3 hgrow3 hgrow4)
      go_roundw
      case rel => exact ⟨i + 1, _, _, by go_num, by omega, rfl, by rw [HS.out.1, List.map_append]; exact K3.out.1, Below.grown (HS.out.2.2.alloc (by omega) _) K3.out.2 (alloc_le (by omega) _) (own_base HS.out.2.1)⟩
      case measure => simp [intOf]; omega
    · obtain rfl : i = x.e.L.length := by omega
      have hnl : (namesL x.e.L).length = x.e.L.length := by unfold namesL; rw [List.length_map]
      have hrow : wr.ownsRow (W.heap.size + 1 + 1) 9 1 (.slice p x.e.L.length c) x.e.L.length ((namesL x.e.L).map Value.string) := by
        have h := HN.out.1
        rwa [List.take_of_length_le (by omega)] at h
      have hRS := rowS_own hnl hrow
      have HK : Kpt (CkE W x wr) := hid (HC.out.later (by rw [hsc]; exact HN.out.2))
      have hold : ∀ X : Later wr, Below w0.heap.size w0 X.now := fun X => HW.out.1.trans ((HK.out.later X.since).below.mono HW.out.1.size)
      have l0 : ∀ X : Later wr, X.now.cell? ⟨W.heap.size, 0, none⟩ = some (.int .i64 x.e.k) := fun X => cell_of_row X.now _ 0 _ _ _ (HK.out.later X.since).row
      have l1 : ∀ X : Later wr, X.now.cell? ⟨W.heap.size, 1, none⟩ = some (.string x.e.m) := fun X => cell_of_row X.now _ 1 _ _ _ (HK.out.later X.since).row
      have l2 : ∀ X : Later wr, X.now.cell? ⟨W.heap.size, 2, none⟩ = some (.string x.e.n) := fun X => cell_of_row X.now _ 2 _ _ _ (HK.out.later X.since).row
      have l3 : ∀ X : Later wr, X.now.cell? ⟨W.heap.size, 3, none⟩ = some (.string x.e.tx) := fun X => cell_of_row X.now _ 3 _ _ _ (HK.out.later X.since).row
      have l4 : ∀ X : Later wr, X.now.cell? ⟨W.heap.size, 4, none⟩ = some (.int .i64 x.e.num) := fun X => cell_of_row X.now _ 4 _ _ _ (HK.out.later X.since).row
      have l5 : ∀ X : Later wr, X.now.cell? ⟨W.heap.size, 5, none⟩ = some (.slice x.aT x.e.T.len x.cT) := fun X => cell_of_row X.now _ 5 _ _ _ (HK.out.later X.since).row
      have l6 : ∀ X : Later wr, X.now.cell? ⟨W.heap.size, 6, none⟩ = some (.slice x.aL x.e.L.length x.cL) := fun X => cell_of_row X.now _ 6 _ _ _ (HK.out.later X.since).row
      have l7 : ∀ X : Later wr, X.now.cell? ⟨W.heap.size, 7, none⟩ = some (.slice x.aK x.e.K.len x.cK) := fun X => cell_of_row X.now _ 7 _ _ _ (HK.out.later X.since).row
      have hta : ∀ X : Later wr, Calls Tryz.prog 123 #[.agg #[.int .i64 x.e.k, .string x.e.m, .string x.e.n, .string x.e.tx, .int .i64 x.e.num, .slice x.aT x.e.T.len x.cT, .slice x.aL x.e.L.length x.cL, .slice x.aK x.e.K.len x.cK]] X.now fun e w'' => e = .returned (.int .i64 (xTC x.e.k x.e.T.len)) ∧ ∃ y : Later wr, w'' = y.now := fun X =>
        Calls.later_of (tcount_any _ _ _ _ _ _ _ _ _ _ _ _ _ _ X.now)
      have hka : ∀ X : Later wr, Calls Tryz.prog 124 #[.agg #[.int .i64 x.e.k, .string x.e.m, .string x.e.n, .string x.e.tx, .int .i64 x.e.num, .slice x.aT x.e.T.len x.cT, .slice x.aL x.e.L.length x.cL, .slice x.aK x.e.K.len x.cK]] X.now fun e w'' => e = .returned (.int .i64 (kidC x.e.k x.e.L x.e.n x.e.K.len)) ∧ ∃ y : Later wr, w'' = y.now := fun X =>
        Calls.later_of (kidcount_any x hlL X.now (hold X))
      have hep : ∀ X : Later wr, Calls Tryz.prog 125 #[.agg #[.int .i64 x.e.k, .string x.e.m, .string x.e.n, .string x.e.tx, .int .i64 x.e.num, .slice x.aT x.e.T.len x.cT, .slice x.aL x.e.L.length x.cL, .slice x.aK x.e.K.len x.cK]] X.now fun e w'' => e = .returned (.bool ((restE x.e).eq Xp0)) ∧ ∃ y : Later wr, w'' = y.now := fun X =>
        Calls.later_of (exprparts_any x HW.out.2.1 X.now (hold X))
      have hlp : ∀ X : Later wr, Calls Tryz.prog 126 #[.agg #[.int .i64 x.e.k, .string x.e.m, .string x.e.n, .string x.e.tx, .int .i64 x.e.num, .slice x.aT x.e.T.len x.cT, .slice x.aL x.e.L.length x.cL, .slice x.aK x.e.K.len x.cK]] X.now fun e w'' => e = .returned (.bool (x.e.L.all fun l => (restL x.e.k l).eq Lb0)) ∧ ∃ y : Later wr, w'' = y.now := fun X =>
        Calls.later_of (labelparts_any x hlL (fun l hl => by have := Lb.bk_mem _ l hl; have := l.t.size_db; have := x.e.bk_eq; have := HW.out.2.1; omega) X.now (hold X))
      have hres : chkE x.e = if (decide ((x.e.T.len : Int) ≠ xTC x.e.k x.e.T.len) || decide ((x.e.K.len : Int) ≠ kidC x.e.k x.e.L x.e.n x.e.K.len) || !(restE x.e).eq Xp0 || !x.e.L.all fun l => (restL x.e.k l).eq Lb0) = true then 1 else
          if (decide (32 < x.e.L.length) || decide (8 < x.e.T.len) || decide (65536 < x.e.tx.size)) = true then 7 else
          if (!exN x.e || !allN (namesL x.e.L)) = true then 4 else if ordN (namesL x.e.L) ≠ 0 then ordN (namesL x.e.L) else if x.e.k = 15 ∧ x.e.n = x.e.tx then 5 else fst0 (x.e.tys.map chkT) := rfl
      have HTA := hid hta
      have HKA := hid hka
      have HEP := hid hep
      have HLP := hid hlp
      have HRS := hid (And.intro hRS hnl)
      have HRES := hid hres
      clear hta hka hep hlp hRS hnl hres hrow HN hold HC hi hz0 hz1 hz2 hsc hwrs
      generalize xTC x.e.k x.e.T.len = ta at HTA HRES
      generalize kidC x.e.k x.e.L x.e.n x.e.K.len = ka at HKA HRES
      generalize (restE x.e).eq Xp0 = ep at HEP HRES
      generalize (x.e.L.all fun l => (restL x.e.k l).eq Lb0) = lp at HLP HRES
      by_cases hne : (x.e.T.len : Int) = ta
      · by_cases hnk : (x.e.K.len : Int) = ka
        · cases ep with
          | false =>
            have HQ := hid (show chkE x.e = 1 by rw [HRES.out, if_pos (by simp)])
            clear HRES
            gi_wp2_with fail
            refine wpIn_region_later rfl (by kernel_rfl) (by kernel_rfl) ?_
            repeat (gi_big_quiet_step (first | (gi_at_call 123; with_reducible exact callsIn_wide.2 (HTA.out _)) | (gi_at_call 124; with_reducible exact callsIn_wide.2 (HKA.out _)) | (gi_at_call 125; with_reducible exact callsIn_wide.2 (HEP.out _)) | (gi_at_call 126; with_reducible exact callsIn_wide.2 (HLP.out _))))
            refine wpQuietIn_nil ?_
            intro _ hw'
            obtain ⟨X, hX⟩ := hw'
            subst hX
            have H := hid (HK.out.later X.since)
            have g0 := H.out.box.cell
            have g1 := H.out.box.frozen
            have HSET := hid (H.out.set 1)
            have m0 := HSET.out.1
            gi_wp2_with fail
            refine ⟨_, by simp [results, Tryz.results70, go_sem, m0]; rfl, by rw [HQ.out], HSET.out.2⟩
          | true =>
            cases lp with
            | false =>
              have HQ := hid (show chkE x.e = 1 by rw [HRES.out, if_pos (by simp)])
              clear HRES
              gi_wp2_with fail
              refine wpIn_region_later rfl (by kernel_rfl) (by kernel_rfl) ?_
              repeat (gi_big_quiet_step (first | (gi_at_call 123; with_reducible exact callsIn_wide.2 (HTA.out _)) | (gi_at_call 124; with_reducible exact callsIn_wide.2 (HKA.out _)) | (gi_at_call 125; with_reducible exact callsIn_wide.2 (HEP.out _)) | (gi_at_call 126; with_reducible exact callsIn_wide.2 (HLP.out _))))
              refine wpQuietIn_nil ?_
              intro _ hw'
              obtain ⟨X, hX⟩ := hw'
              subst hX
              have H := hid (HK.out.later X.since)
              have g0 := H.out.box.cell
              have g1 := H.out.box.frozen
              have HSET := hid (H.out.set 1)
              have m0 := HSET.out.1
              gi_wp2_with fail
              refine ⟨_, by simp [results, Tryz.results70, go_sem, m0]; rfl, by rw [HQ.out], HSET.out.2⟩
            | true =>
              have hres : chkE x.e = if (decide (32 < x.e.L.length) || decide (8 < x.e.T.len) || decide (65536 < x.e.tx.size)) = true then 7 else
                  if (!exN x.e || !allN (namesL x.e.L)) = true then 4 else if ordN (namesL x.e.L) ≠ 0 then ordN (namesL x.e.L) else if x.e.k = 15 ∧ x.e.n = x.e.tx then 5 else fst0 (x.e.tys.map chkT) := by rw [HRES.out, if_neg (by simp [hne, hnk])]
              clear HRES
              gi_wp2_with fail
              refine wpIn_region_later rfl (by kernel_rfl) (by kernel_rfl) ?_
              repeat (gi_big_quiet_step (first | (gi_at_call 123; with_reducible exact callsIn_wide.2 (HTA.out _)) | (gi_at_call 124; with_reducible exact callsIn_wide.2 (HKA.out _)) | (gi_at_call 125; with_reducible exact callsIn_wide.2 (HEP.out _)) | (gi_at_call 126; with_reducible exact callsIn_wide.2 (HLP.out _))))
              refine wpQuietIn_nil ?_
              intro _ hw'
              obtain ⟨X, hX⟩ := hw'
              subst hX
              have H := hid (HK.out.later X.since)
              have c0 := l0 X
              have c1 := l1 X
              have c2 := l2 X
              have c3 := l3 X
              have c4 := l4 X
              have c5 := l5 X
              have c6 := l6 X
              have c7 := l7 X
              clear l0 l1 l2 l3 l4 l5 l6 l7 HTA HKA HEP HLP
              by_cases h32 : x.e.L.length ≤ 32
              · by_cases h8 : x.e.T.len ≤ 8
                · by_cases htx : x.e.tx.size ≤ 65536
                  · have hres : chkE x.e = if (!exN x.e || !allN (namesL x.e.L)) = true then 4 else if ordN (namesL x.e.L) ≠ 0 then ordN (namesL x.e.L) else if x.e.k = 15 ∧ x.e.n = x.e.tx then 5 else fst0 (x.e.tys.map chkT) := by rw [hres, if_neg (by simp; omega)]
                    have hbk := x.e.bk_eq
                    have hbig := HW.out.2.1
                    have hE := HW.out.2.2.below H.out.below
                    have hold := HW.out.1.trans (H.out.below.mono HW.out.1.size)
                    have HEN := hid (exnames_any x hlL ⟨by omega, by omega, by omega, fun l hl => by have := Lb.bk_mem _ l hl; omega⟩ X.now hold hE)
                    have HRES := hid hres
                    clear hbk hbig hE hold hres
                    generalize exN x.e = en at HEN HRES
                    cases en with
                    | false =>
                      have HQ := hid (show chkE x.e = 4 by rw [HRES.out, if_pos (by simp)])
                      clear HRES
                      gi_wp2_with fail
                      first | refine ⟨trivial, callsIn_wide.2 (HEN.out.mono ?_)⟩ | refine callsIn_wide.2 (HEN.out.mono ?_)
                      rintro e w5 ⟨rfl, hb5⟩
                      have H5 := hid (H.out.later hb5)
                      clear hb5
                      have g0 := H5.out.box.cell
                      have g1 := H5.out.box.frozen
                      have HSET := hid (H5.out.set 4)
                      have m0 := HSET.out.1
                      gi_wp2_with fail
                      try (refine ⟨trivial, ?_⟩; gi_wp2_with fail)
                      refine ⟨_, by simp [results, Tryz.results70, go_sem, m0]; rfl, by rw [HQ.out], HSET.out.2⟩
                    | true =>
                      gi_wp2_with fail
                      first | refine ⟨trivial, callsIn_wide.2 (HEN.out.mono ?_)⟩ | refine callsIn_wide.2 (HEN.out.mono ?_)
                      rintro e w5 ⟨rfl, hb5⟩
                      have H5 := hid (H.out.later hb5)
                      have hb5' := X.since.trans (hb5.mono X.since.size)
                      have han := allnames_any wr (namesL x.e.L) p c w5 HRS.out.1 hb5' (by rw [HRS.out.2]; exact hlL) (fun s hs => by obtain ⟨l, hl, rfl⟩ := List.mem_map.1 hs; have := Lb.bk_mem _ l hl; have := x.e.bk_eq; have := HW.out.2.1; omega)
                      have hor := order_any wr (namesL x.e.L) p c w5 HRS.out.1 hb5' (by rw [HRS.out.2]; exact hlL)
                      rw [HRS.out.2] at han hor
                      have HAN := hid han
                      have HOR := hid hor
                      clear hb5' han hor
                      have c0 := old_cell hb5 c0
                      have c1 := old_cell hb5 c1
                      have c2 := old_cell hb5 c2
                      have c3 := old_cell hb5 c3
                      have c4 := old_cell hb5 c4
                      have c5 := old_cell hb5 c5
                      have c6 := old_cell hb5 c6
                      have c7 := old_cell hb5 c7
                      clear hb5
                      generalize allN (namesL x.e.L) = an at HAN HRES
                      cases an with
                      | false =>
                        have HQ := hid (show chkE x.e = 4 by rw [HRES.out, if_pos (by simp)])
                        clear HRES
                        gi_wp2_with fail
                        first | refine ⟨trivial, callsIn_wide.2 (HAN.out.mono ?_)⟩ | refine callsIn_wide.2 (HAN.out.mono ?_)
                        rintro e w6 ⟨rfl, rfl⟩
                        have g0 := H5.out.box.cell
                        have g1 := H5.out.box.frozen
                        have HSET := hid (H5.out.set 4)
                        have m0 := HSET.out.1
                        gi_wp2_with fail
                        refine ⟨_, by simp [results, Tryz.results70, go_sem, m0]; rfl, by rw [HQ.out], HSET.out.2⟩
                      | true =>
                        have hres : chkE x.e = if ordN (namesL x.e.L) ≠ 0 then ordN (namesL x.e.L) else if x.e.k = 15 ∧ x.e.n = x.e.tx then 5 else fst0 (x.e.tys.map chkT) := by rw [HRES.out, if_neg (by simp)]
                        clear HRES
                        gi_wp2_with fail
                        first | refine ⟨trivial, callsIn_wide.2 (HAN.out.mono ?_)⟩ | refine callsIn_wide.2 (HAN.out.mono ?_)
                        rintro e w6 ⟨rfl, rfl⟩
                        have HRES := hid hres
                        clear hres
                        gi_wp2_with fail
                        first | refine ⟨trivial, callsIn_wide.2 (HOR.out.mono ?_)⟩ | refine callsIn_wide.2 (HOR.out.mono ?_)
                        rintro e w7 ⟨rfl, hb7⟩
                        have H7 := hid (H5.out.later hb7)
                        have c0 := old_cell hb7 c0
                        have c1 := old_cell hb7 c1
                        have c2 := old_cell hb7 c2
                        have c3 := old_cell hb7 c3
                        have c4 := old_cell hb7 c4
                        have c5 := old_cell hb7 c5
                        have c6 := old_cell hb7 c6
                        have c7 := old_cell hb7 c7
                        clear hb7 HOR HAN
                        generalize ordN (namesL x.e.L) = od at HRES
                        by_cases hod : od = 0
                        · subst hod
                          by_cases hft : x.e.k = 15 ∧ x.e.n = x.e.tx
                          · have HQ := hid (show chkE x.e = 5 by rw [HRES.out, if_neg (by simp), if_pos hft])
                            obtain ⟨hk15, hnt⟩ := hft
                            rw [hk15] at c0
                            rw [hnt] at c2
                            clear HRES hk15 hnt
                            have g0 := H7.out.box.cell
                            have g1 := H7.out.box.frozen
                            have HSET := hid (H7.out.set 5)
                            have m0 := HSET.out.1
                            gi_wp2_with fail
                            refine ⟨_, by simp [results, Tryz.results70, go_sem, m0]; rfl, by rw [HQ.out], HSET.out.2⟩
                          · have HQ := hid (show chkE x.e = fst0 (x.e.tys.map chkT) by rw [HRES.out, if_neg (by simp), if_neg hft])
                            clear HRES
                            have HTy : Kpt (∀ w, Calls Tryz.prog 102 #[.agg #[.int .i64 x.e.k, .string x.e.m, .string x.e.n, .string x.e.tx, .int .i64 x.e.num, .slice x.aT x.e.T.len x.cT, .slice x.aL x.e.L.length x.cL, .slice x.aK x.e.K.len x.cK]] w _) := hid (exprTypes_any x)
                            by_cases hk15 : x.e.k = 15
                            · have hnt : x.e.n ≠ x.e.tx := fun h => hft ⟨hk15, h⟩
                              have hnt2 := toList_ne hnt
                              rw [hk15] at c0 HTy
                              clear hk15 hft
                              gi_wp2_with fail
                              first | refine ⟨trivial, callsIn_wide.2 ((HTy.out _).mono ?_)⟩ | refine callsIn_wide.2 ((HTy.out _).mono ?_)
                              rintro e W9 ⟨rfl, hW9'⟩
                              have HW9 := hid hW9'
                              clear hW9'
                              gi_wp2_with fail
                              have hW9 := HW9.out
                              have hb9 : Below w7.heap.size w7 W9 := by rw [hW9]; exact (Below.refl _ w7).alloc (Nat.le_refl _) _
                              have hx9 : W9.heap[w7.heap.size]? = some (.cells x.cells 29 (0, 0)) := by rw [hW9]; exact World.alloc_heap_new _ _
                              have hs9 : W9.heap.size = w7.heap.size + 1 := by rw [hW9]; simp
                              have H9 := hid (H7.out.later hb9)
                              have hlt7 := H7.out.box.lt
                              have hw0 := HW.out.1.size
                              have h9 : Below w0.heap.size w0 W9 := HW.out.1.trans (H9.out.below.mono HW.out.1.size)
                              clear HW9 hW9 c0 c1 c2 c3 c4 c5 c6 c7 hb9
                              refine range_box 7 25 TyI.cells (gf := 160) (lb := #[.pointer (some ⟨w7.heap.size, 0, none⟩)]) rfl (enters_of Tryz.func160 (by kernel_rfl) rfl)
                                (types_seq w0 x HW.out.2.1 w7.heap.size W9 hx9 (KeepX.of_below h9) (fun i => i = W.heap.size + 1) (fun i hi => ⟨by omega, by omega⟩))
                                (fun i hi => by omega) (Below.refl _ _) (fun _ => rfl)
                                (fun pre V => fst0 (pre.map fun y => chkT y.t) = 0 ∧ Boxed V (W.heap.size + 1) 40 (.int .i64 0) ∧ Below W.heap.size W V)
                                (fun c pre V => c = .ret ∧ fst0 (pre.map fun y => chkT y.t) ≠ 0 ∧ Boxed V (W.heap.size + 1) 40 (.int .i64 (fst0 (pre.map fun y => chkT y.t))) ∧ Below W.heap.size W V)
                                ?hI ?hIx ⟨rfl, H9.out.box, H9.out.below⟩ ?assign ?body ?done ?stop
                              case hI =>
                                intro s A B hs hb
                                exact ⟨hs.1, (hb.block _ (by omega)).trans hs.2.1, hs.2.2.trans (hb.mono (by omega))⟩
                              case hIx =>
                                intro c s A B hs hb
                                exact ⟨hs.1, hs.2.1, (hb.block _ (by omega)).trans hs.2.2.1, hs.2.2.2.trans (hb.mono (by omega))⟩
                              case assign =>
                                intro m l' y W'
                                dsimp only [TyI.v, TyI.cells]
                                gi_wp2_with fail
                                exact ⟨trivial, by simp⟩
                              case body =>
                                rintro m l' Bx pre y V7 hl hlB hwB hBW hbx ⟨r, hr⟩ ⟨h1, h2, h3⟩ hv
                                rw [List.map_append] at hv
                                have hyn : y.t ∈ x.e.tys := hv.subset (by simp)
                                have hydb := Xp.ty_db hyn
                                have hysz := y.t.size_db
                                have hbg := HW.out.2.1
                                have hcall := checktype_any y.t y.v V7 (TyV_below y.tyV (HW.out.1.trans (h3.mono hw0))) (by omega) (y.t.sh_nodes (by omega)) (HW.out.2.2.below h3)
                                have e0 := cell_of_row V7 Bx 0 _ _ _ hbx
                                have e1 := cell_of_row V7 Bx 1 _ _ _ hbx
                                have e2 := cell_of_row V7 Bx 2 _ _ _ hbx
                                have e3 := cell_of_row V7 Bx 3 _ _ _ hbx
                                have e4 := cell_of_row V7 Bx 4 _ _ _ hbx
                                have hfs : fst0 ((pre ++ [y]).map fun y => chkT y.t) = chkT y.t := by
                                  rw [List.map_append, fst0_append, if_pos h1]; simp only [List.map_cons, List.map_nil, fst0]; split <;> simp_all
                                have HZ := hid (And.intro h2 (And.intro h3 (And.intro (show Calls Tryz.prog 23 #[.agg #[.int .i64 y.t.k, .string y.t.m, .string y.t.n, .slice y.aa y.t.A.len y.ca, .slice y.af y.t.F.len y.cf]] V7 _ from hcall) hfs)))
                                clear h1 h2 h3 hv hcall hbx hfs hyn hydb hysz hbg
                                dsimp only [TyI.v, TyI.cells] at e0 e1 e2 e3 e4 ⊢
                                generalize chkT y.t = er at HZ
                                by_cases her : er = 0
                                · subst her
                                  gi_wp2_with fail
                                  first | refine ⟨trivial, fun h => (by cases h), CallsIn.inRound l' (callsIn_wide.2 (HZ.out.2.2.1.mono ?_))⟩ | refine ⟨fun h => (by cases h), CallsIn.inRound l' (callsIn_wide.2 (HZ.out.2.2.1.mono ?_))⟩ | refine CallsIn.inRound l' (callsIn_wide.2 (HZ.out.2.2.1.mono ?_))
                                  rintro e w8 ⟨rfl, hb8⟩
                                  have H8 := hid hb8
                                  clear hb8
                                  gi_wp2_with fail
                                  exact ⟨KeepX.of_below H8.out, HZ.out.2.2.2, (H8.out.block _ HZ.out.1.lt).trans HZ.out.1, HZ.out.2.1.trans (H8.out.mono HZ.out.2.1.size)⟩
                                · have her2 : (er != 0) = true := by simp [her]
                                  gi_wp2_with fail
                                  first | refine ⟨trivial, fun h => (by cases h), CallsIn.inRound l' (callsIn_wide.2 (HZ.out.2.2.1.mono ?_))⟩ | refine ⟨fun h => (by cases h), CallsIn.inRound l' (callsIn_wide.2 (HZ.out.2.2.1.mono ?_))⟩ | refine CallsIn.inRound l' (callsIn_wide.2 (HZ.out.2.2.1.mono ?_))
                                  rintro e w8 ⟨rfl, hb8⟩
                                  have f8 : Boxed w8 _ _ _ := (hb8.block _ HZ.out.1.lt).trans HZ.out.1
                                  have g0 := f8.cell
                                  have g1 := f8.frozen
                                  have H8 := hid (And.intro hb8 f8)
                                  clear hb8 f8
                                  gi_wp2_with fail
                                  have hks := KeepX.set w8 (W.heap.size + 1) (.int .i64 er)
                                  have hse := H8.out.2.set (.int .i64 er)
                                  have hbS : Below W.heap.size w8 (w8.setCell ⟨W.heap.size + 1, 0, none⟩ (.int .i64 er)) := below_set _ _ (by omega)
                                  generalize w8.setCell ⟨W.heap.size + 1, 0, none⟩ (.int .i64 er) = w10 at hks hse hbS ⊢
                                  refine ⟨⟨Nat.le_trans H8.out.1.size hks.1, fun i hi hx => ?_⟩, rfl, by rw [HZ.out.2.2.2]; exact her, by rw [HZ.out.2.2.2]; exact hse, HZ.out.2.1.trans ((H8.out.1.mono HZ.out.2.1.size).trans hbS)⟩
                                  have hx' : ¬ i < W9.heap.size := hx
                                  rw [hks.2 i (Nat.lt_of_lt_of_le hi H8.out.1.size) (by omega), H8.out.1.block i hi]
                              case done =>
                                rintro D ys V9 hD hS ⟨h1, h2, h3⟩ hK
                                have f9 := h2
                                have g0 := f9.cell
                                have g1 := f9.frozen
                                have hDb : D ≠ W.heap.size + 1 := by omega
                                have HG := hid (And.intro hS (And.intro h1 (And.intro f9 (And.intro h3 hK))))
                                clear hS h1 h2 h3 f9 hK
                                gi_wp2_with fail
                                have hK1 : (V9.setCell ⟨W.heap.size + 1, 0, none⟩ (.int .i64 0)).heap[D]? = some (.deferred (some [])) := ((KeepX.set V9 _ _).2 D (Array.getElem?_eq_some_iff.1 HG.out.2.2.2.2).1 hDb).trans HG.out.2.2.2.2
                                have hf : Boxed (V9.setCell ⟨W.heap.size + 1, 0, none⟩ (.int .i64 0)) (W.heap.size + 1) 40 (.int .i64 0) := HG.out.2.2.1.set _
                                have hB9 : Below W.heap.size V9 ((V9.setCell ⟨W.heap.size + 1, 0, none⟩ (.int .i64 0)).putObj D (.deferred none)) := (below_set V9 _ (by omega)).trans (below_put (by omega) hK1)
                                refine ⟨by simp, .inl ⟨_, _, rfl, run_takeDeferred hK1, ?_⟩⟩
                                have m0 : ((V9.setCell ⟨W.heap.size + 1, 0, none⟩ (.int .i64 0)).putObj D (.deferred none)).cell? ⟨W.heap.size + 1, 0, none⟩ = some (.int .i64 0) := Boxed.cell (t := 40) ((World.putObj_heap_other (fun e => hDb e.symm)).trans hf)
                                generalize (V9.setCell ⟨W.heap.size + 1, 0, none⟩ (.int .i64 0)).putObj D (.deferred none) = W10 at m0 hB9 ⊢
                                have hr : chkE x.e = 0 := by
                                  rw [HQ.out, ← HG.out.1, List.map_map]; exact HG.out.2.1
                                exact ⟨.int .i64 0, by simp [results, Tryz.results70, go_sem, m0], by rw [hr], HG.out.2.2.2.1.trans hB9⟩
                              case stop =>
                                rintro D c pre V9 hD hv ⟨rfl, h0, h1, h2⟩ hK
                                have c0 := h1.cell
                                have HG := hid (And.intro h0 (And.intro h1 (And.intro h2 (And.intro hK hv))))
                                clear h0 h1 h2 hK hv
                                gi_wp2_with fail
                                have hDb : D ≠ W.heap.size + 1 := by omega
                                have hB9 : Below W.heap.size V9 (V9.putObj D (.deferred none)) := below_put (by omega) HG.out.2.2.2.1
                                have m0 : (V9.putObj D (.deferred none)).cell? ⟨W.heap.size + 1, 0, none⟩ = some (.int .i64 (fst0 (pre.map fun y => chkT y.t))) := Boxed.cell (t := 40) ((World.putObj_heap_other (fun e => hDb e.symm)).trans HG.out.2.1)
                                refine ⟨by simp, .inl ⟨_, _, rfl, run_takeDeferred HG.out.2.2.2.1, ?_⟩⟩
                                generalize V9.putObj D (.deferred none) = W10 at m0 hB9 ⊢
                                have hr : chkE x.e = fst0 (pre.map fun y => chkT y.t) := by
                                  rw [HQ.out]
                                  have hp : (pre.map fun y => chkT y.t) <+: x.e.tys.map chkT := by
                                    have h := HG.out.2.2.2.2.map chkT
                                    rwa [List.map_map] at h
                                  exact fst0_prefix hp HG.out.1
                                exact ⟨.int .i64 (fst0 (pre.map fun y => chkT y.t)), by simp [results, Tryz.results70, go_sem, m0], by rw [hr], HG.out.2.2.1.trans hB9⟩
                            · clear hft
                              gi_wp2_with fail
                              first | refine ⟨trivial, callsIn_wide.2 ((HTy.out _).mono ?_)⟩ | refine callsIn_wide.2 ((HTy.out _).mono ?_)
                              rintro e W9 ⟨rfl, hW9'⟩
                              have HW9 := hid hW9'
                              clear hW9'
                              gi_wp2_with fail
                              have hW9 := HW9.out
                              have hb9 : Below w7.heap.size w7 W9 := by rw [hW9]; exact (Below.refl _ w7).alloc (Nat.le_refl _) _
                              have hx9 : W9.heap[w7.heap.size]? = some (.cells x.cells 29 (0, 0)) := by rw [hW9]; exact World.alloc_heap_new _ _
                              have hs9 : W9.heap.size = w7.heap.size + 1 := by rw [hW9]; simp
                              have H9 := hid (H7.out.later hb9)
                              have hlt7 := H7.out.box.lt
                              have hw0 := HW.out.1.size
                              have h9 : Below w0.heap.size w0 W9 := HW.out.1.trans (H9.out.below.mono HW.out.1.size)
                              clear HW9 hW9 c0 c1 c2 c3 c4 c5 c6 c7 hb9
                              refine range_box 7 25 TyI.cells (gf := 160) (lb := #[.pointer (some ⟨w7.heap.size, 0, none⟩)]) rfl (enters_of Tryz.func160 (by kernel_rfl) rfl)
                                (types_seq w0 x HW.out.2.1 w7.heap.size W9 hx9 (KeepX.of_below h9) (fun i => i = W.heap.size + 1) (fun i hi => ⟨by omega, by omega⟩))
                                (fun i hi => by omega) (Below.refl _ _) (fun _ => rfl)
                                (fun pre V => fst0 (pre.map fun y => chkT y.t) = 0 ∧ Boxed V (W.heap.size + 1) 40 (.int .i64 0) ∧ Below W.heap.size W V)
                                (fun c pre V => c = .ret ∧ fst0 (pre.map fun y => chkT y.t) ≠ 0 ∧ Boxed V (W.heap.size + 1) 40 (.int .i64 (fst0 (pre.map fun y => chkT y.t))) ∧ Below W.heap.size W V)
                                ?hI ?hIx ⟨rfl, H9.out.box, H9.out.below⟩ ?assign ?body ?done ?stop
                              case hI =>
                                intro s A B hs hb
                                exact ⟨hs.1, (hb.block _ (by omega)).trans hs.2.1, hs.2.2.trans (hb.mono (by omega))⟩
                              case hIx =>
                                intro c s A B hs hb
                                exact ⟨hs.1, hs.2.1, (hb.block _ (by omega)).trans hs.2.2.1, hs.2.2.2.trans (hb.mono (by omega))⟩
                              case assign =>
                                intro m l' y W'
                                dsimp only [TyI.v, TyI.cells]
                                gi_wp2_with fail
                                exact ⟨trivial, by simp⟩
                              case body =>
                                rintro m l' Bx pre y V7 hl hlB hwB hBW hbx ⟨r, hr⟩ ⟨h1, h2, h3⟩ hv
                                rw [List.map_append] at hv
                                have hyn : y.t ∈ x.e.tys := hv.subset (by simp)
                                have hydb := Xp.ty_db hyn
                                have hysz := y.t.size_db
                                have hbg := HW.out.2.1
                                have hcall := checktype_any y.t y.v V7 (TyV_below y.tyV (HW.out.1.trans (h3.mono hw0))) (by omega) (y.t.sh_nodes (by omega)) (HW.out.2.2.below h3)
                                have e0 := cell_of_row V7 Bx 0 _ _ _ hbx
                                have e1 := cell_of_row V7 Bx 1 _ _ _ hbx
                                have e2 := cell_of_row V7 Bx 2 _ _ _ hbx
                                have e3 := cell_of_row V7 Bx 3 _ _ _ hbx
                                have e4 := cell_of_row V7 Bx 4 _ _ _ hbx
                                have hfs : fst0 ((pre ++ [y]).map fun y => chkT y.t) = chkT y.t := by
                                  rw [List.map_append, fst0_append, if_pos h1]; simp only [List.map_cons, List.map_nil, fst0]; split <;> simp_all
                                have HZ := hid (And.intro h2 (And.intro h3 (And.intro (show Calls Tryz.prog 23 #[.agg #[.int .i64 y.t.k, .string y.t.m, .string y.t.n, .slice y.aa y.t.A.len y.ca, .slice y.af y.t.F.len y.cf]] V7 _ from hcall) hfs)))
                                clear h1 h2 h3 hv hcall hbx hfs hyn hydb hysz hbg
                                dsimp only [TyI.v, TyI.cells] at e0 e1 e2 e3 e4 ⊢
                                generalize chkT y.t = er at HZ
                                by_cases her : er = 0
                                · subst her
                                  gi_wp2_with fail
                                  first | refine ⟨trivial, fun h => (by cases h), CallsIn.inRound l' (callsIn_wide.2 (HZ.out.2.2.1.mono ?_))⟩ | refine ⟨fun h => (by cases h), CallsIn.inRound l' (callsIn_wide.2 (HZ.out.2.2.1.mono ?_))⟩ | refine CallsIn.inRound l' (callsIn_wide.2 (HZ.out.2.2.1.mono ?_))
                                  rintro e w8 ⟨rfl, hb8⟩
                                  have H8 := hid hb8
                                  clear hb8
                                  gi_wp2_with fail
                                  exact ⟨KeepX.of_below H8.out, HZ.out.2.2.2, (H8.out.block _ HZ.out.1.lt).trans HZ.out.1, HZ.out.2.1.trans (H8.out.mono HZ.out.2.1.size)⟩
                                · have her2 : (er != 0) = true := by simp [her]
                                  gi_wp2_with fail
                                  first | refine ⟨trivial, fun h => (by cases h), CallsIn.inRound l' (callsIn_wide.2 (HZ.out.2.2.1.mono ?_))⟩ | refine ⟨fun h => (by cases h), CallsIn.inRound l' (callsIn_wide.2 (HZ.out.2.2.1.mono ?_))⟩ | refine CallsIn.inRound l' (callsIn_wide.2 (HZ.out.2.2.1.mono ?_))
                                  rintro e w8 ⟨rfl, hb8⟩
                                  have f8 : Boxed w8 _ _ _ := (hb8.block _ HZ.out.1.lt).trans HZ.out.1
                                  have g0 := f8.cell
                                  have g1 := f8.frozen
                                  have H8 := hid (And.intro hb8 f8)
                                  clear hb8 f8
                                  gi_wp2_with fail
                                  have hks := KeepX.set w8 (W.heap.size + 1) (.int .i64 er)
                                  have hse := H8.out.2.set (.int .i64 er)
                                  have hbS : Below W.heap.size w8 (w8.setCell ⟨W.heap.size + 1, 0, none⟩ (.int .i64 er)) := below_set _ _ (by omega)
                                  generalize w8.setCell ⟨W.heap.size + 1, 0, none⟩ (.int .i64 er) = w10 at hks hse hbS ⊢
                                  refine ⟨⟨Nat.le_trans H8.out.1.size hks.1, fun i hi hx => ?_⟩, rfl, by rw [HZ.out.2.2.2]; exact her, by rw [HZ.out.2.2.2]; exact hse, HZ.out.2.1.trans ((H8.out.1.mono HZ.out.2.1.size).trans hbS)⟩
                                  have hx' : ¬ i < W9.heap.size := hx
                                  rw [hks.2 i (Nat.lt_of_lt_of_le hi H8.out.1.size) (by omega), H8.out.1.block i hi]
                              case done =>
                                rintro D ys V9 hD hS ⟨h1, h2, h3⟩ hK
                                have f9 := h2
                                have g0 := f9.cell
                                have g1 := f9.frozen
                                have hDb : D ≠ W.heap.size + 1 := by omega
                                have HG := hid (And.intro hS (And.intro h1 (And.intro f9 (And.intro h3 hK))))
                                clear hS h1 h2 h3 f9 hK
                                gi_wp2_with fail
                                have hK1 : (V9.setCell ⟨W.heap.size + 1, 0, none⟩ (.int .i64 0)).heap[D]? = some (.deferred (some [])) := ((KeepX.set V9 _ _).2 D (Array.getElem?_eq_some_iff.1 HG.out.2.2.2.2).1 hDb).trans HG.out.2.2.2.2
                                have hf : Boxed (V9.setCell ⟨W.heap.size + 1, 0, none⟩ (.int .i64 0)) (W.heap.size + 1) 40 (.int .i64 0) := HG.out.2.2.1.set _
                                have hB9 : Below W.heap.size V9 ((V9.setCell ⟨W.heap.size + 1, 0, none⟩ (.int .i64 0)).putObj D (.deferred none)) := (below_set V9 _ (by omega)).trans (below_put (by omega) hK1)
                                refine ⟨by simp, .inl ⟨_, _, rfl, run_takeDeferred hK1, ?_⟩⟩
                                have m0 : ((V9.setCell ⟨W.heap.size + 1, 0, none⟩ (.int .i64 0)).putObj D (.deferred none)).cell? ⟨W.heap.size + 1, 0, none⟩ = some (.int .i64 0) := Boxed.cell (t := 40) ((World.putObj_heap_other (fun e => hDb e.symm)).trans hf)
                                generalize (V9.setCell ⟨W.heap.size + 1, 0, none⟩ (.int .i64 0)).putObj D (.deferred none) = W10 at m0 hB9 ⊢
                                have hr : chkE x.e = 0 := by
                                  rw [HQ.out, ← HG.out.1, List.map_map]; exact HG.out.2.1
                                exact ⟨.int .i64 0, by simp [results, Tryz.results70, go_sem, m0], by rw [hr], HG.out.2.2.2.1.trans hB9⟩
                              case stop =>
                                rintro D c pre V9 hD hv ⟨rfl, h0, h1, h2⟩ hK
                                have c0 := h1.cell
                                have HG := hid (And.intro h0 (And.intro h1 (And.intro h2 (And.intro hK hv))))
                                clear h0 h1 h2 hK hv
                                gi_wp2_with fail
                                have hDb : D ≠ W.heap.size + 1 := by omega
                                have hB9 : Below W.heap.size V9 (V9.putObj D (.deferred none)) := below_put (by omega) HG.out.2.2.2.1
                                have m0 : (V9.putObj D (.deferred none)).cell? ⟨W.heap.size + 1, 0, none⟩ = some (.int .i64 (fst0 (pre.map fun y => chkT y.t))) := Boxed.cell (t := 40) ((World.putObj_heap_other (fun e => hDb e.symm)).trans HG.out.2.1)
                                refine ⟨by simp, .inl ⟨_, _, rfl, run_takeDeferred HG.out.2.2.2.1, ?_⟩⟩
                                generalize V9.putObj D (.deferred none) = W10 at m0 hB9 ⊢
                                have hr : chkE x.e = fst0 (pre.map fun y => chkT y.t) := by
                                  rw [HQ.out]
                                  have hp : (pre.map fun y => chkT y.t) <+: x.e.tys.map chkT := by
                                    have h := HG.out.2.2.2.2.map chkT
                                    rwa [List.map_map] at h
                                  exact fst0_prefix hp HG.out.1
                                exact ⟨.int .i64 (fst0 (pre.map fun y => chkT y.t)), by simp [results, Tryz.results70, go_sem, m0], by rw [hr], HG.out.2.2.1.trans hB9⟩
                        · have HQ := hid (show chkE x.e = od by rw [HRES.out, if_pos hod])
                          have hod2 : (od != 0) = true := by simp [hod]
                          clear HRES
                          have g0 := H7.out.box.cell
                          have g1 := H7.out.box.frozen
                          have HSET := hid (H7.out.set od)
                          have m0 := HSET.out.1
                          gi_wp2_with fail
                          refine ⟨_, by simp [results, Tryz.results70, go_sem, m0]; rfl, by rw [HQ.out], HSET.out.2⟩
                  · have HQ := hid (show chkE x.e = 7 by rw [hres, if_pos (by simp; omega)])
                    clear hres
                    have g0 := H.out.box.cell
                    have g1 := H.out.box.frozen
                    have HSET := hid (H.out.set 7)
                    have m0 := HSET.out.1
                    gi_wp2_with fail
                    refine ⟨_, by simp [results, Tryz.results70, go_sem, m0]; rfl, by rw [HQ.out], HSET.out.2⟩
                · have HQ := hid (show chkE x.e = 7 by rw [hres, if_pos (by simp; omega)])
                  clear hres
                  have g0 := H.out.box.cell
                  have g1 := H.out.box.frozen
                  have HSET := hid (H.out.set 7)
                  have m0 := HSET.out.1
                  gi_wp2_with fail
                  refine ⟨_, by simp [results, Tryz.results70, go_sem, m0]; rfl, by rw [HQ.out], HSET.out.2⟩
              · have HQ := hid (show chkE x.e = 7 by rw [hres, if_pos (by simp; omega)])
                clear hres
                have g0 := H.out.box.cell
                have g1 := H.out.box.frozen
                have HSET := hid (H.out.set 7)
                have m0 := HSET.out.1
                gi_wp2_with fail
                refine ⟨_, by simp [results, Tryz.results70, go_sem, m0]; rfl, by rw [HQ.out], HSET.out.2⟩
        · have hnk2 : ((x.e.K.len : Int) != ka) = true := by simp [hnk]
          have HQ := hid (show chkE x.e = 1 by rw [HRES.out, if_pos (by simp [hnk])])
          clear HRES
          gi_wp2_with fail
          refine wpIn_region_later rfl (by kernel_rfl) (by kernel_rfl) ?_
          repeat (gi_big_quiet_step (first | (gi_at_call 123; with_reducible exact callsIn_wide.2 (HTA.out _)) | (gi_at_call 124; with_reducible exact callsIn_wide.2 (HKA.out _)) | (gi_at_call 125; with_reducible exact callsIn_wide.2 (HEP.out _)) | (gi_at_call 126; with_reducible exact callsIn_wide.2 (HLP.out _))))
          refine wpQuietIn_nil ?_
          intro _ hw'
          obtain ⟨X, hX⟩ := hw'
          subst hX
          have H := hid (HK.out.later X.since)
          have g0 := H.out.box.cell
          have g1 := H.out.box.frozen
          have HSET := hid (H.out.set 1)
          have m0 := HSET.out.1
          gi_wp2_with fail
          refine ⟨_, by simp [results, Tryz.results70, go_sem, m0]; rfl, by rw [HQ.out], HSET.out.2⟩
      · have hne2 : ((x.e.T.len : Int) != ta) = true := by simp [hne]
        have HQ := hid (show chkE x.e = 1 by rw [HRES.out, if_pos (by simp [hne])])
        clear HRES
        gi_wp2_with fail
        refine wpIn_region_later rfl (by kernel_rfl) (by kernel_rfl) ?_
        repeat (gi_big_quiet_step (first | (gi_at_call 123; with_reducible exact callsIn_wide.2 (HTA.out _)) | (gi_at_call 124; with_reducible exact callsIn_wide.2 (HKA.out _)) | (gi_at_call 125; with_reducible exact callsIn_wide.2 (HEP.out _)) | (gi_at_call 126; with_reducible exact callsIn_wide.2 (HLP.out _))))
        refine wpQuietIn_nil ?_
        intro _ hw'
        obtain ⟨X, hX⟩ := hw'
        subst hX
        have H := hid (HK.out.later X.since)
        have g0 := H.out.box.cell
        have g1 := H.out.box.frozen
        have HSET := hid (H.out.set 1)
        have m0 := HSET.out.1
        gi_wp2_with fail
        refine ⟨_, by simp [results, Tryz.results70, go_sem, m0]; rfl, by rw [HQ.out], HSET.out.2⟩
end Go.Proofs.YtnkhebgjhipepaaGreatDoor

namespace Go.Proofs.YtnkhebgjhipepaaGreatDoor
open Go.RowKit Go.Shelf
attribute [local go_sem] Oper.semAt_some

def Ex.depth : Ex → Nat
  | .nil => 0
  | .node _ _ _ _ _ _ _ K nx => max (1 + K.depth) nx.depth
def Xp.depth (e : Xp) : Nat := 1 + e.K.depth
theorem Ex.depth_els (K : Ex) : K.depth = maxL (K.els.map Xp.depth) := by
  induction K with
  | nil => rfl
  | node k m n tx num T L K nx hk hn => simp only [Ex.depth, Ex.els, List.map_cons, maxL, List.foldr_cons, Xp.depth] at *; rw [hn]
theorem Xp.depth_kids (e : Xp) : e.depth = 1 + maxL (e.kids.map Xp.depth) := by
  simp only [Xp.depth, Xp.kids, Ex.depth_els]
theorem Ex.depth_bk (K : Ex) : K.depth ≤ K.enc.bk := by
  induction K with
  | nil => exact Nat.zero_le _
  | node k m n tx num T L K nx hk hn => simp only [Ex.depth, Ex.enc, Dt.bk] at *; omega
theorem Xp.depth_bk (e : Xp) : e.depth ≤ e.bk := by
  have := e.K.depth_bk
  have := e.bk_eq
  unfold Xp.depth
  omega
/-- depth on expressions of at most s steps. -/
def DepX (w0 : World) (s : Nat) : Prop := ∀ x : XpI w0, x.e.bk ≤ s → ∀ W, KeepX (fun _ => False) w0 W → Calls Tryz.prog 67 #[.agg #[.int .i64 x.e.k, .string x.e.m, .string x.e.n, .string x.e.tx, .int .i64 x.e.num, .slice x.aT x.e.T.len x.cT, .slice x.aL x.e.L.length x.cL, .slice x.aK x.e.K.len x.cK], .func (.func 68) #[] #[]] W
  fun e W' => e = .returned (.int .i64 (x.e.depth : Int)) ∧ Below W.heap.size W W'
set_option maxRecDepth 100000 in
set_option maxHeartbeats 8000000 in
theorem xdepth_step (w0 : World) (s : Nat) (hs : s + 1 ≤ 1099511627776) (ih : DepX w0 s) : DepX w0 (s + 1) := by
  intro x hx W hold
  have HI := hid ih
  have HT := hid (exprKids_any x)
  clear ih
  have HT' : Kpt (∀ w, Calls Tryz.prog 68 #[.agg #[.int .i64 x.e.k, .string x.e.m, .string x.e.n, .string x.e.tx, .int .i64 x.e.num, .slice x.aT x.e.T.len x.cT, .slice x.aL x.e.L.length x.cL, .slice x.aK x.e.K.len x.cK]] w
        fun e w' => e = .returned (.func (.func 178) #[] #[.pointer (some ⟨w.heap.size + 1, 0, none⟩)]) ∧ w' = (w.alloc (.cells x.cells 29)).alloc (.cells #[.slice x.aK x.e.K.len x.cK] 27)) := hid HT.out
  clear HT
  refine (callsIn_wide (n := 9)).1 ?_
  refine callsIn_of_wp_marks Tryz.func67 rfl trivial ?_ rfl
  simp only [Tryz.ntmps67, List.size_toArray, List.length_cons, List.length_nil, Nat.reduceAdd, Nat.reduceSub, Array.replicate_succ, Array.replicate_zero, List.push_toArray, List.append_toArray, List.nil_append, List.cons_append]
  gi_wp2_with fail
  refine ⟨trivial, callsIn_wide.2 ((HT'.out _).mono ?_)⟩
  rintro e W6 ⟨rfl, hW6⟩
  simp only [World.size_alloc] at hW6 ⊢
  gi_wp2_with fail
  have hxc : x.cells = #[.int .i64 x.e.k, .string x.e.m, .string x.e.n, .string x.e.tx, .int .i64 x.e.num, .slice x.aT x.e.T.len x.cT, .slice x.aL x.e.L.length x.cL, .slice x.aK x.e.K.len x.cK] := rfl
  rw [← hxc] at hW6
  have b0 : Boxed W6 (W.heap.size + 1) 91 (.func (.func 68) #[] #[]) := by
    rw [hW6]; have h := (((Boxed.new (W.alloc (.cells x.cells 29)) 91 (.func (.func 68) #[] #[])).alloc (.cells #[.int .i64 0] 3)).alloc (.cells x.cells 29)).alloc (.cells #[.slice x.aK x.e.K.len x.cK] 27)
    simpa only [World.size_alloc] using h
  have b1 : Boxed W6 (W.heap.size + 1 + 1) 3 (.int .i64 0) := by
    rw [hW6]; have h := ((Boxed.new ((W.alloc (.cells x.cells 29)).alloc (.cells #[.func (.func 68) #[] #[]] 91)) 3 (.int .i64 0)).alloc (.cells x.cells 29)).alloc (.cells #[.slice x.aK x.e.K.len x.cK] 27)
    simpa only [World.size_alloc] using h
  have b2 : W6.heap[W.heap.size + 1 + 1 + 1 + 1]? = some (.cells #[.slice x.aK x.e.K.len x.cK] 27 (0, 0)) := by
    rw [hW6]
    have h := World.alloc_heap_new ((((W.alloc (.cells x.cells 29)).alloc (.cells #[.func (.func 68) #[] #[]] 91)).alloc (.cells #[.int .i64 0] 3)).alloc (.cells x.cells 29)) (.cells #[.slice x.aK x.e.K.len x.cK] 27)
    simpa only [World.size_alloc] using h
  have hsz : W6.heap.size = W.heap.size + 5 := by rw [hW6]; simp
  have hB : Below W.heap.size W W6 := by
    rw [hW6]; exact (((((Below.refl _ W).alloc (Nat.le_refl _) _).alloc (by simp) _).alloc (by simp; omega) _).alloc (by simp; omega) _).alloc (by simp; omega) _
  clear hW6 hxc
  have hW0 := hold.1
  have hlenK := Ex.len_bk x.e.K
  have hxbk := x.e.bk_eq
  refine range_box 6 29 XpI.cells (gf := 178) (lb := #[.pointer (some ⟨W.heap.size + 1 + 1 + 1 + 1, 0, none⟩)]) rfl (enters_of Tryz.func178 (by kernel_rfl) rfl)
    (encs := fun y : XpI w0 => #[y.v]) (X := fun i => i = W.heap.size + 1 + 1) (S := fun ys => ys.map (·.e) = x.e.kids) (V := fun ys => ys.map (·.e) <+: x.e.kids) (w0 := W6) ?seq (fun i hi => by omega) (Below.refl _ _) (fun _ => rfl)
    (fun pre W' => Boxed W' (W.heap.size + 1 + 1) 3 (.int .i64 (maxL (pre.map (·.e.depth)) : Int)) ∧ Boxed W' (W.heap.size + 1) 91 (.func (.func 68) #[] #[]) ∧ Below W.heap.size W W')
    (fun _ _ _ => False) ?hI (fun c s A B h _ => h) ⟨b1, b0, hB⟩ ?assign ?body ?done ?stop
  case seq =>
    intro m l' J' Jx' W' hb hJ' hJx' hY' h0'
    exact kids1_in w0 x (by omega) (W.heap.size + 1 + 1 + 1 + 1) (fun i => i = W.heap.size + 1 + 1) (fun i hi => by omega) _ (fun _ h => h) l' m J' Jx' W' ((hb.block _ (by omega)).trans b2) ((hold.trans (KeepX.of_below hB)).trans (KeepX.of_below hb)) hJ' hY' h0'
  case hI =>
    intro s' A B hs hb
    exact ⟨(hb.block _ (by omega)).trans hs.1, (hb.block _ (by omega)).trans hs.2.1, hs.2.2.trans (hb.mono (by omega))⟩
  case assign =>
    intro m l' y W'
    dsimp only [XpI.v, XpI.cells]
    gi_wp2_with fail
    exact ⟨trivial, by simp⟩
  case body =>
    rintro m l' Bx pre y W7 hl hlB hwB hBW hbx ⟨r, hr⟩ ⟨h1, h2, h3⟩ hv
    rw [List.map_append] at hv
    have hyx : y.e.bk < x.e.bk := Xp.kid_bk (hv.subset (by simp))
    have hcall := HI.out y (by omega) W7.drew (hold.trans (KeepX.of_below h3.drew))
    have e0 := cell_of_row W7 Bx 0 _ _ _ hbx
    have e1 := cell_of_row W7 Bx 1 _ _ _ hbx
    have e2 := cell_of_row W7 Bx 2 _ _ _ hbx
    have e3 := cell_of_row W7 Bx 3 _ _ _ hbx
    have e4 := cell_of_row W7 Bx 4 _ _ _ hbx
    have e5 := cell_of_row W7 Bx 5 _ _ _ hbx
    have e6 := cell_of_row W7 Bx 6 _ _ _ hbx
    have e7 := cell_of_row W7 Bx 7 _ _ _ hbx
    have q5 := h1.cell
    have q6 := h2.cell
    have hd1 : maxL (pre.map (·.e.depth)) ≤ 1099511627776 := maxL_le fun a ha => by
      obtain ⟨z, hz, rfl⟩ := List.mem_map.1 ha
      have h9 : z.e ∈ x.e.kids := hv.subset (by simp; exact .inl ⟨z, hz, rfl⟩)
      have h8 := Xp.kid_bk h9
      have h7 := z.e.depth_bk
      omega
    have hd2 := y.e.depth_bk
    have HZ := hid (And.intro h1 (And.intro h2 (And.intro h3 hcall)))
    have HD := hid (And.intro hd1 hd2)
    clear h1 h2 h3 hv hcall hbx hd1 hd2
    dsimp only [XpI.v, XpI.cells] at e0 e1 e2 e3 e4 e5 e6 e7 ⊢
    gi_wp2_with fail
    have h1b : W.heap.size + 1 + 1 < W7.heap.size := by omega
    have HFIN : Kpt (∀ (w8 : World) (d : Int), Below W7.drew.heap.size W7.drew w8 → Boxed w8 (W.heap.size + 1 + 1) 3 (.int .i64 (maxL (pre.map (·.e.depth)) : Int)) → d = (maxL ((pre ++ [y]).map (·.e.depth)) : Int) →
        KeepX (fun i => i = W.heap.size + 1 + 1) W7 (w8.setCell ⟨W.heap.size + 1 + 1, 0, none⟩ (.int .i64 d)) ∧ Boxed (w8.setCell ⟨W.heap.size + 1 + 1, 0, none⟩ (.int .i64 d)) (W.heap.size + 1 + 1) 3 (.int .i64 (maxL ((pre ++ [y]).map (·.e.depth)) : Int)) ∧
        Boxed (w8.setCell ⟨W.heap.size + 1 + 1, 0, none⟩ (.int .i64 d)) (W.heap.size + 1) 91 (.func (.func 68) #[] #[]) ∧ Below W.heap.size W (w8.setCell ⟨W.heap.size + 1 + 1, 0, none⟩ (.int .i64 d))) := hid fun w8 d hb8 f8 hd => by
      have hsz7 : W7.drew.heap.size = W7.heap.size := rfl
      have hs8 := hb8.size
      have hk := KeepX.set w8 (W.heap.size + 1 + 1) (.int .i64 d)
      refine ⟨⟨by have := hk.1; omega, fun i hi hx => (hk.2 i (by omega) hx).trans (hb8.block i (by omega))⟩, by rw [hd]; exact f8.set _, Boxed.other (show Boxed w8 _ _ _ from (hb8.block _ (by omega)).trans HZ.out.2.1) (by omega) _, ?_⟩
      have h78 : Below W7.heap.size W7 w8 := ⟨hb8.os, hb8.tape, hb8.output, hb8.size, hb8.block⟩
      exact (HZ.out.2.2.1.trans (h78.mono HZ.out.2.2.1.size)).trans (below_set w8 _ (by omega))
    have HC := hid (show Calls Tryz.prog 67 #[.agg #[.int .i64 y.e.k, .string y.e.m, .string y.e.n, .string y.e.tx, .int .i64 y.e.num, .slice y.aT y.e.T.len y.cT, .slice y.aL y.e.L.length y.cL, .slice y.aK y.e.K.len y.cK], .func (.func 68) #[] #[]] W7.drew _ from HZ.out.2.2.2)
    refine wpIn_region_any (by kernel_rfl) ?_
    change wpAnyIn _ _ _ _ _ _ _ _ _ (World.drew _)
    refine wpAnyIn_ready (rs := [0, 1, 2]) (by kernel_rfl) (by simp) ?_
    refine AllReadyIn.cons rfl (fun K hK => ?_) ?_
    · go_simp
      refine hK _ _ ?_
      clear hK K
      refine wpAnyIn_ready (rs := [1, 2]) (by kernel_rfl) (by simp) ?_
      refine AllReadyIn.cons rfl (fun K hK => ?_) ?_
      · go_simp
        refine hK _ _ ?_
        clear hK K
        refine wpAnyIn_ready (rs := [2]) (by kernel_rfl) (by simp) ?_
        refine AllReadyIn.cons rfl (fun K hK => ?_) ?_
        · go_simp
          refine hK _ _ ?_
          clear hK K
          refine wpAnyIn_ready (rs := [3]) (by kernel_rfl) (by simp) ?_
          refine AllReadyIn.cons rfl (fun K hK => ?_) ?_
          · go_simp
            refine ⟨trivial, fun h => (by cases h), CallsIn.inRound l' (callsIn_wide.2 (HC.out.mono ?_))⟩
            rintro e w8 ⟨rfl, hb8⟩
            have e55 := (hb8.cell h1b).trans q5
            have f55 : Boxed w8 (W.heap.size + 1 + 1) _ _ := (hb8.block _ h1b).trans HZ.out.1
            have g55 := f55.frozen
            have H8 := hid (And.intro hb8 f55)
            clear hb8 f55
            refine hK _ _ ?_
            clear hK K
            refine wpAnyIn_ready (rs := [4]) (by kernel_rfl) (by simp) ?_
            refine AllReadyIn.cons rfl (fun K hK => ?_) ?_
            · go_simp
              refine hK _ _ ?_
              clear hK K
              refine wpAnyIn_ready (rs := [5]) (by kernel_rfl) (by simp) ?_
              refine AllReadyIn.cons rfl (fun K hK => ?_) ?_
              · go_simp
                refine hK _ _ ?_
                clear hK K
                refine wpAnyIn_done (by kernel_rfl) ?_ _
                gi_wp2_with fail
                all_goals exact HFIN.out w8 _ H8.out.1 H8.out.2 (by rw [List.map_append]; simp only [List.map_cons, List.map_nil, maxL_snoc]; omega)
              exact AllReadyIn.nil
            exact AllReadyIn.nil
          exact AllReadyIn.nil
        exact AllReadyIn.nil
      refine AllReadyIn.cons rfl (fun K hK => ?_) ?_
      · go_simp
        refine hK _ _ ?_
        clear hK K
        refine wpAnyIn_ready (rs := [1]) (by kernel_rfl) (by simp) ?_
        refine AllReadyIn.cons rfl (fun K hK => ?_) ?_
        · go_simp
          refine hK _ _ ?_
          clear hK K
          refine wpAnyIn_ready (rs := [3]) (by kernel_rfl) (by simp) ?_
          refine AllReadyIn.cons rfl (fun K hK => ?_) ?_
          · go_simp
            refine ⟨trivial, fun h => (by cases h), CallsIn.inRound l' (callsIn_wide.2 (HC.out.mono ?_))⟩
            rintro e w8 ⟨rfl, hb8⟩
            have e55 := (hb8.cell h1b).trans q5
            have f55 : Boxed w8 (W.heap.size + 1 + 1) _ _ := (hb8.block _ h1b).trans HZ.out.1
            have g55 := f55.frozen
            have H8 := hid (And.intro hb8 f55)
            clear hb8 f55
            refine hK _ _ ?_
            clear hK K
            refine wpAnyIn_ready (rs := [4]) (by kernel_rfl) (by simp) ?_
            refine AllReadyIn.cons rfl (fun K hK => ?_) ?_
            · go_simp
              refine hK _ _ ?_
              clear hK K
              refine wpAnyIn_ready (rs := [5]) (by kernel_rfl) (by simp) ?_
              refine AllReadyIn.cons rfl (fun K hK => ?_) ?_
              · go_simp
                refine hK _ _ ?_
                clear hK K
                refine wpAnyIn_done (by kernel_rfl) ?_ _
                gi_wp2_with fail
                all_goals exact HFIN.out w8 _ H8.out.1 H8.out.2 (by rw [List.map_append]; simp only [List.map_cons, List.map_nil, maxL_snoc]; omega)
              exact AllReadyIn.nil
            exact AllReadyIn.nil
          exact AllReadyIn.nil
        exact AllReadyIn.nil
      exact AllReadyIn.nil
    refine AllReadyIn.cons rfl (fun K hK => ?_) ?_
    · go_simp
      refine hK _ _ ?_
      clear hK K
      refine wpAnyIn_ready (rs := [0, 2]) (by kernel_rfl) (by simp) ?_
      refine AllReadyIn.cons rfl (fun K hK => ?_) ?_
      · go_simp
        refine hK _ _ ?_
        clear hK K
        refine wpAnyIn_ready (rs := [2]) (by kernel_rfl) (by simp) ?_
        refine AllReadyIn.cons rfl (fun K hK => ?_) ?_
        · go_simp
          refine hK _ _ ?_
          clear hK K
          refine wpAnyIn_ready (rs := [3]) (by kernel_rfl) (by simp) ?_
          refine AllReadyIn.cons rfl (fun K hK => ?_) ?_
          · go_simp
            refine ⟨trivial, fun h => (by cases h), CallsIn.inRound l' (callsIn_wide.2 (HC.out.mono ?_))⟩
            rintro e w8 ⟨rfl, hb8⟩
            have e55 := (hb8.cell h1b).trans q5
            have f55 : Boxed w8 (W.heap.size + 1 + 1) _ _ := (hb8.block _ h1b).trans HZ.out.1
            have g55 := f55.frozen
            have H8 := hid (And.intro hb8 f55)
            clear hb8 f55
            refine hK _ _ ?_
            clear hK K
            refine wpAnyIn_ready (rs := [4]) (by kernel_rfl) (by simp) ?_
            refine AllReadyIn.cons rfl (fun K hK => ?_) ?_
            · go_simp
              refine hK _ _ ?_
              clear hK K
              refine wpAnyIn_ready (rs := [5]) (by kernel_rfl) (by simp) ?_
              refine AllReadyIn.cons rfl (fun K hK => ?_) ?_
              · go_simp
                refine hK _ _ ?_
                clear hK K
                refine wpAnyIn_done (by kernel_rfl) ?_ _
                gi_wp2_with fail
                all_goals exact HFIN.out w8 _ H8.out.1 H8.out.2 (by rw [List.map_append]; simp only [List.map_cons, List.map_nil, maxL_snoc]; omega)
              exact AllReadyIn.nil
            exact AllReadyIn.nil
          exact AllReadyIn.nil
        exact AllReadyIn.nil
      refine AllReadyIn.cons rfl (fun K hK => ?_) ?_
      · go_simp
        refine hK _ _ ?_
        clear hK K
        refine wpAnyIn_ready (rs := [0, 3]) (by kernel_rfl) (by simp) ?_
        refine AllReadyIn.cons rfl (fun K hK => ?_) ?_
        · go_simp
          refine hK _ _ ?_
          clear hK K
          refine wpAnyIn_ready (rs := [3]) (by kernel_rfl) (by simp) ?_
          refine AllReadyIn.cons rfl (fun K hK => ?_) ?_
          · go_simp
            refine ⟨trivial, fun h => (by cases h), CallsIn.inRound l' (callsIn_wide.2 (HC.out.mono ?_))⟩
            rintro e w8 ⟨rfl, hb8⟩
            have e55 := (hb8.cell h1b).trans q5
            have f55 : Boxed w8 (W.heap.size + 1 + 1) _ _ := (hb8.block _ h1b).trans HZ.out.1
            have g55 := f55.frozen
            have H8 := hid (And.intro hb8 f55)
            clear hb8 f55
            refine hK _ _ ?_
            clear hK K
            refine wpAnyIn_ready (rs := [4]) (by kernel_rfl) (by simp) ?_
            refine AllReadyIn.cons rfl (fun K hK => ?_) ?_
            · go_simp
              refine hK _ _ ?_
              clear hK K
              refine wpAnyIn_ready (rs := [5]) (by kernel_rfl) (by simp) ?_
              refine AllReadyIn.cons rfl (fun K hK => ?_) ?_
              · go_simp
                refine hK _ _ ?_
                clear hK K
                refine wpAnyIn_done (by kernel_rfl) ?_ _
                gi_wp2_with fail
                all_goals exact HFIN.out w8 _ H8.out.1 H8.out.2 (by rw [List.map_append]; simp only [List.map_cons, List.map_nil, maxL_snoc]; omega)
              exact AllReadyIn.nil
            exact AllReadyIn.nil
          exact AllReadyIn.nil
        refine AllReadyIn.cons rfl (fun K hK => ?_) ?_
        · go_simp
          refine ⟨trivial, fun h => (by cases h), CallsIn.inRound l' (callsIn_wide.2 (HC.out.mono ?_))⟩
          rintro e w8 ⟨rfl, hb8⟩
          have e55 := (hb8.cell h1b).trans q5
          have f55 : Boxed w8 (W.heap.size + 1 + 1) _ _ := (hb8.block _ h1b).trans HZ.out.1
          have g55 := f55.frozen
          have H8 := hid (And.intro hb8 f55)
          clear hb8 f55
          refine hK _ _ ?_
          clear hK K
          refine wpAnyIn_ready (rs := [0]) (by kernel_rfl) (by simp) ?_
          refine AllReadyIn.cons rfl (fun K hK => ?_) ?_
          · go_simp
            refine hK _ _ ?_
            clear hK K
            refine wpAnyIn_ready (rs := [4]) (by kernel_rfl) (by simp) ?_
            refine AllReadyIn.cons rfl (fun K hK => ?_) ?_
            · go_simp
              refine hK _ _ ?_
              clear hK K
              refine wpAnyIn_ready (rs := [5]) (by kernel_rfl) (by simp) ?_
              refine AllReadyIn.cons rfl (fun K hK => ?_) ?_
              · go_simp
                refine hK _ _ ?_
                clear hK K
                refine wpAnyIn_done (by kernel_rfl) ?_ _
                gi_wp2_with fail
                all_goals exact HFIN.out w8 _ H8.out.1 H8.out.2 (by rw [List.map_append]; simp only [List.map_cons, List.map_nil, maxL_snoc]; omega)
              exact AllReadyIn.nil
            exact AllReadyIn.nil
          exact AllReadyIn.nil
        exact AllReadyIn.nil
      exact AllReadyIn.nil
    refine AllReadyIn.cons rfl (fun K hK => ?_) ?_
    · go_simp
      refine hK _ _ ?_
      clear hK K
      refine wpAnyIn_ready (rs := [0, 1]) (by kernel_rfl) (by simp) ?_
      refine AllReadyIn.cons rfl (fun K hK => ?_) ?_
      · go_simp
        refine hK _ _ ?_
        clear hK K
        refine wpAnyIn_ready (rs := [1]) (by kernel_rfl) (by simp) ?_
        refine AllReadyIn.cons rfl (fun K hK => ?_) ?_
        · go_simp
          refine hK _ _ ?_
          clear hK K
          refine wpAnyIn_ready (rs := [3]) (by kernel_rfl) (by simp) ?_
          refine AllReadyIn.cons rfl (fun K hK => ?_) ?_
          · go_simp
            refine ⟨trivial, fun h => (by cases h), CallsIn.inRound l' (callsIn_wide.2 (HC.out.mono ?_))⟩
            rintro e w8 ⟨rfl, hb8⟩
            have e55 := (hb8.cell h1b).trans q5
            have f55 : Boxed w8 (W.heap.size + 1 + 1) _ _ := (hb8.block _ h1b).trans HZ.out.1
            have g55 := f55.frozen
            have H8 := hid (And.intro hb8 f55)
            clear hb8 f55
            refine hK _ _ ?_
            clear hK K
            refine wpAnyIn_ready (rs := [4]) (by kernel_rfl) (by simp) ?_
            refine AllReadyIn.cons rfl (fun K hK => ?_) ?_
            · go_simp
              refine hK _ _ ?_
              clear hK K
              refine wpAnyIn_ready (rs := [5]) (by kernel_rfl) (by simp) ?_
              refine AllReadyIn.cons rfl (fun K hK => ?_) ?_
              · go_simp
                refine hK _ _ ?_
                clear hK K
                refine wpAnyIn_done (by kernel_rfl) ?_ _
                gi_wp2_with fail
                all_goals exact HFIN.out w8 _ H8.out.1 H8.out.2 (by rw [List.map_append]; simp only [List.map_cons, List.map_nil, maxL_snoc]; omega)
              exact AllReadyIn.nil
            exact AllReadyIn.nil
          exact AllReadyIn.nil
        exact AllReadyIn.nil
      refine AllReadyIn.cons rfl (fun K hK => ?_) ?_
      · go_simp
        refine hK _ _ ?_
        clear hK K
        refine wpAnyIn_ready (rs := [0, 3]) (by kernel_rfl) (by simp) ?_
        refine AllReadyIn.cons rfl (fun K hK => ?_) ?_
        · go_simp
          refine hK _ _ ?_
          clear hK K
          refine wpAnyIn_ready (rs := [3]) (by kernel_rfl) (by simp) ?_
          refine AllReadyIn.cons rfl (fun K hK => ?_) ?_
          · go_simp
            refine ⟨trivial, fun h => (by cases h), CallsIn.inRound l' (callsIn_wide.2 (HC.out.mono ?_))⟩
            rintro e w8 ⟨rfl, hb8⟩
            have e55 := (hb8.cell h1b).trans q5
            have f55 : Boxed w8 (W.heap.size + 1 + 1) _ _ := (hb8.block _ h1b).trans HZ.out.1
            have g55 := f55.frozen
            have H8 := hid (And.intro hb8 f55)
            clear hb8 f55
            refine hK _ _ ?_
            clear hK K
            refine wpAnyIn_ready (rs := [4]) (by kernel_rfl) (by simp) ?_
            refine AllReadyIn.cons rfl (fun K hK => ?_) ?_
            · go_simp
              refine hK _ _ ?_
              clear hK K
              refine wpAnyIn_ready (rs := [5]) (by kernel_rfl) (by simp) ?_
              refine AllReadyIn.cons rfl (fun K hK => ?_) ?_
              · go_simp
                refine hK _ _ ?_
                clear hK K
                refine wpAnyIn_done (by kernel_rfl) ?_ _
                gi_wp2_with fail
                all_goals exact HFIN.out w8 _ H8.out.1 H8.out.2 (by rw [List.map_append]; simp only [List.map_cons, List.map_nil, maxL_snoc]; omega)
              exact AllReadyIn.nil
            exact AllReadyIn.nil
          exact AllReadyIn.nil
        refine AllReadyIn.cons rfl (fun K hK => ?_) ?_
        · go_simp
          refine ⟨trivial, fun h => (by cases h), CallsIn.inRound l' (callsIn_wide.2 (HC.out.mono ?_))⟩
          rintro e w8 ⟨rfl, hb8⟩
          have e55 := (hb8.cell h1b).trans q5
          have f55 : Boxed w8 (W.heap.size + 1 + 1) _ _ := (hb8.block _ h1b).trans HZ.out.1
          have g55 := f55.frozen
          have H8 := hid (And.intro hb8 f55)
          clear hb8 f55
          refine hK _ _ ?_
          clear hK K
          refine wpAnyIn_ready (rs := [0]) (by kernel_rfl) (by simp) ?_
          refine AllReadyIn.cons rfl (fun K hK => ?_) ?_
          · go_simp
            refine hK _ _ ?_
            clear hK K
            refine wpAnyIn_ready (rs := [4]) (by kernel_rfl) (by simp) ?_
            refine AllReadyIn.cons rfl (fun K hK => ?_) ?_
            · go_simp
              refine hK _ _ ?_
              clear hK K
              refine wpAnyIn_ready (rs := [5]) (by kernel_rfl) (by simp) ?_
              refine AllReadyIn.cons rfl (fun K hK => ?_) ?_
              · go_simp
                refine hK _ _ ?_
                clear hK K
                refine wpAnyIn_done (by kernel_rfl) ?_ _
                gi_wp2_with fail
                all_goals exact HFIN.out w8 _ H8.out.1 H8.out.2 (by rw [List.map_append]; simp only [List.map_cons, List.map_nil, maxL_snoc]; omega)
              exact AllReadyIn.nil
            exact AllReadyIn.nil
          exact AllReadyIn.nil
        exact AllReadyIn.nil
      exact AllReadyIn.nil
    exact AllReadyIn.nil
  case done =>
    rintro D ys W9 hD hS ⟨h1, h2, h3⟩ hK
    have c0 := h1.cell
    have hdm : maxL (ys.map (·.e.depth)) + 1 = x.e.depth := by
      rw [Xp.depth_kids, ← hS, List.map_map]; simp only [Function.comp_def]; omega
    have hdl := x.e.depth_bk
    have HB := hid (And.intro h3 (And.intro hK hdm))
    have hlt : maxL (ys.map (·.e.depth)) ≤ 1099511627776 := by omega
    clear h1 h2 h3 hK hS hdm
    gi_wp2_with fail
    refine ⟨by simp, .inl ⟨_, _, rfl, run_takeDeferred HB.out.2.1, ?_⟩⟩
    refine ⟨_, results_tmp rfl _ _ _, ?_, HB.out.1.trans (below_put (by omega) HB.out.2.1)⟩
    rw [← HB.out.2.2]
    simp
    omega
  case stop =>
    rintro D c pre W hD hv h _
    exact h.elim
theorem xdepth_all (w0 : World) : ∀ s : Nat, s ≤ 1099511627776 → DepX w0 s := by
  intro s
  induction s with
  | zero => intro _ x hx; exact absurd hx (by rw [Xp.bk_eq]; omega)
  | succ s ih => intro hs; exact xdepth_step w0 s hs (ih (by omega))
end Go.Proofs.YtnkhebgjhipepaaGreatDoor

namespace Go.Proofs.YtnkhebgjhipepaaGreatDoor
open Go.RowKit Go.Shelf
attribute [local go_sem] Oper.semAt_some

def chkX (e : Xp) : Int := if 4096 < e.size ∨ 32 < e.depth then 7 else fst0 (e.nodes.map chkE)
set_option maxRecDepth 100000 in
set_option maxHeartbeats 8000000 in
theorem checkexpr_any {w0 : World} (x : XpI w0) (w : World) (hW : Below w0.heap.size w0 w) (hbig : x.e.bk ≤ 1099511627776) (hE : Env w) :
    Calls Tryz.prog 25 #[.agg #[.int .i64 x.e.k, .string x.e.m, .string x.e.n, .string x.e.tx, .int .i64 x.e.num, .slice x.aT x.e.T.len x.cT, .slice x.aL x.e.L.length x.cL, .slice x.aK x.e.K.len x.cK]] w fun e w' => e = .returned (.int .i64 (chkX x.e)) ∧ Below w.heap.size w w' := by
  obtain ⟨wa, hwa⟩ : ∃ wa, w.alloc (.cells #[.int .i64 x.e.k, .string x.e.m, .string x.e.n, .string x.e.tx, .int .i64 x.e.num, .slice x.aT x.e.T.len x.cT, .slice x.aL x.e.L.length x.cL, .slice x.aK x.e.K.len x.cK] 29) = wa := ⟨_, rfl⟩
  obtain ⟨wc, hwc⟩ : ∃ wc, wa.alloc (.cells #[.int .i64 0] 40) = wc := ⟨_, rfl⟩
  have hba : Below w.heap.size w wa := by rw [← hwa]; exact (Below.refl _ w).alloc (Nat.le_refl _) _
  have hsa : wa.heap.size = w.heap.size + 1 := by rw [← hwa]; simp
  have hsc : wc.heap.size = w.heap.size + 2 := by rw [← hwc]; simp [hsa]
  have hea : wa.heap[w.heap.size]? = some (.cells #[.int .i64 x.e.k, .string x.e.m, .string x.e.n, .string x.e.tx, .int .i64 x.e.num, .slice x.aT x.e.T.len x.cT, .slice x.aL x.e.L.length x.cL, .slice x.aK x.e.K.len x.cK] 29 (0, 0)) := by rw [← hwa]; exact World.alloc_heap_new _ _
  have hbc : Below (w.heap.size + 1) wa wc := by rw [← hwc, ← hsa]; exact (Below.refl _ wa).alloc (Nat.le_refl _) _
  have hec := (hbc.block _ (Nat.lt_succ_self _)).trans hea
  have h2c : Boxed wc (w.heap.size + 1) 40 (.int .i64 0) := by rw [← hwc, ← hsa]; exact Boxed.new _ _ _
  have hBc : Below w.heap.size w wc := hba.trans (hbc.mono (Nat.le_succ _))
  have hcall := exprSize_any x 4096 wc (hW.trans (hBc.mono hW.size)) hbig (by omega)
  have k0 := cell_of_row wc _ 0 _ _ _ hec
  have k1 := cell_of_row wc _ 1 _ _ _ hec
  have k2 := cell_of_row wc _ 2 _ _ _ hec
  have k3 := cell_of_row wc _ 3 _ _ _ hec
  have k4 := cell_of_row wc _ 4 _ _ _ hec
  have k5 := cell_of_row wc _ 5 _ _ _ hec
  have k6 := cell_of_row wc _ 6 _ _ _ hec
  have k7 := cell_of_row wc _ 7 _ _ _ hec
  have HN := hid (fun w => exprNodes_any x w)
  have HN' : Kpt (∀ w, Calls Tryz.prog 69 #[.agg #[.int .i64 x.e.k, .string x.e.m, .string x.e.n, .string x.e.tx, .int .i64 x.e.num, .slice x.aT x.e.T.len x.cT, .slice x.aL x.e.L.length x.cL, .slice x.aK x.e.K.len x.cK]] w _) := hid HN.out
  have HS := hid (show Calls Tryz.prog 57 #[.agg #[.int .i64 x.e.k, .string x.e.m, .string x.e.n, .string x.e.tx, .int .i64 x.e.num, .slice x.aT x.e.T.len x.cT, .slice x.aL x.e.L.length x.cL, .slice x.aK x.e.K.len x.cK], .int .i64 4096] wc _ from hcall)
  have HB := hid (And.intro hec (And.intro h2c (And.intro hBc (And.intro hW (And.intro hE hsc)))))
  clear hba hea hbc hec h2c hBc hcall HN hW hE
  have HX := hid (show chkX x.e = if 4096 < x.e.size ∨ 32 < x.e.depth then 7 else fst0 (x.e.nodes.map chkE) from rfl)
  show Calls Tryz.prog 25 #[.agg #[.int .i64 x.e.k, .string x.e.m, .string x.e.n, .string x.e.tx, .int .i64 x.e.num, .slice x.aT x.e.T.len x.cT, .slice x.aL x.e.L.length x.cL, .slice x.aK x.e.K.len x.cK]] w _
  refine (callsIn_wide (n := 9)).1 ?_
  refine callsIn_of_wp_marks Tryz.func25 rfl trivial ?_ rfl
  simp only [Tryz.ntmps25, List.size_toArray, List.length_cons, List.length_nil, Nat.reduceAdd, Nat.reduceSub, Array.replicate_succ, Array.replicate_zero, List.push_toArray, List.append_toArray, List.nil_append, List.cons_append]
  gi_wp2_with fail
  refine ⟨trivial, callsIn_wide.2 (HS.out.mono ?_)⟩
  rintro e w2 ⟨⟨r0, rfl, hr1, hnr⟩, hb2⟩
  by_cases h4 : x.e.size ≤ 4096
  · obtain rfl : r0 = (x.e.size : Int) := by obtain ⟨_, hn1, hn2⟩ := hnr; omega
    clear hnr hr1
    have hd := xdepth_all w0 x.e.bk hbig x (Nat.le_refl _) w2 (KeepX.of_below (HB.out.2.2.2.1.trans ((HB.out.2.2.1.trans (hb2.mono HB.out.2.2.1.size)).mono HB.out.2.2.2.1.size)))
    have k0 := old_cell hb2 k0
    have k1 := old_cell hb2 k1
    have k2 := old_cell hb2 k2
    have k3 := old_cell hb2 k3
    have k4 := old_cell hb2 k4
    have k5 := old_cell hb2 k5
    have k6 := old_cell hb2 k6
    have k7 := old_cell hb2 k7
    have H2 := hid hb2
    have HD := hid (show Calls Tryz.prog 67 #[.agg #[.int .i64 x.e.k, .string x.e.m, .string x.e.n, .string x.e.tx, .int .i64 x.e.num, .slice x.aT x.e.T.len x.cT, .slice x.aL x.e.L.length x.cL, .slice x.aK x.e.K.len x.cK], .func (.func 68) #[] #[]] w2 _ from hd)
    clear hb2 hd
    by_cases h5 : x.e.depth ≤ 32
    · gi_wp2_with fail
      refine ⟨trivial, callsIn_wide.2 (HD.out.mono ?_)⟩
      rintro e w3 ⟨rfl, hb3⟩
      have k0 := old_cell hb3 k0
      have k1 := old_cell hb3 k1
      have k2 := old_cell hb3 k2
      have k3 := old_cell hb3 k3
      have k4 := old_cell hb3 k4
      have k5 := old_cell hb3 k5
      have k6 := old_cell hb3 k6
      have k7 := old_cell hb3 k7
      have H3 := hid hb3
      clear hb3
      gi_wp2_with fail
      refine ⟨trivial, callsIn_wide.2 ((HN'.out _).mono ?_)⟩
      rintro e W6 ⟨rfl, hW6'⟩
      have HW6 := hid hW6'
      clear hW6'
      gi_wp2_with fail
      have hW6 := HW6.out
      clear HW6
      have hs6 : w3.heap.size + 3 = W6.heap.size := by rw [hW6]; simp
      have hB6 : Below w3.heap.size w3 W6 := by
        rw [hW6]; exact (((Below.refl _ w3).alloc (Nat.le_refl _) _).alloc (by simp) _).alloc (by simp; omega) _
      have b2 : W6.heap[w3.heap.size + 1]? = some (.cells x.cells 29 (0, 0)) := by
        rw [hW6]
        refine (Below.heap_alloc _ _ _ (by simp)).trans ?_
        have h := World.alloc_heap_new (w3.alloc (.cells x.cells 29)) (.cells x.cells 29)
        simpa only [World.size_alloc] using h
      have b3 : Boxed W6 (w3.heap.size + 2) 91 (.func (.func 68) #[] #[]) := by
        rw [hW6]; have h := Boxed.new ((w3.alloc (.cells x.cells 29)).alloc (.cells x.cells 29)) 91 (.func (.func 68) #[] #[])
        simpa only [World.size_alloc] using h
      have hs3 : wc.heap.size ≤ w3.heap.size := Nat.le_trans H2.out.size H3.out.size
      have hB3 : Below w.heap.size w w3 := HB.out.2.2.1.trans ((H2.out.trans (H3.out.mono H2.out.size)).mono HB.out.2.2.1.size)
      have hB : Below w.heap.size w W6 := hB3.trans (hB6.mono hB3.size)
      have hsc := HB.out.2.2.2.2.2
      have b1 : Boxed W6 (w.heap.size + 1) 40 (.int .i64 0) := (hB6.block _ (by omega)).trans ((H3.out.block _ (by have := H2.out.size; omega)).trans ((H2.out.block _ (by omega)).trans HB.out.2.1))
      clear hW6 k0 k1 k2 k3 k4 k5 k6 k7
      have hw0 := HB.out.2.2.2.1.size
      refine range_box 3 29 XpI.cells (gf := 179) (lb := #[.pointer (some ⟨w3.heap.size + 1, 0, none⟩), .pointer (some ⟨w3.heap.size + 2, 0, none⟩)]) rfl (enters_of Tryz.func179 (by kernel_rfl) rfl)
        (xnodes_seq w0 x hbig (w3.heap.size + 1) (w3.heap.size + 2) W6 b2 b3 (KeepX.of_below (HB.out.2.2.2.1.trans (hB.mono HB.out.2.2.2.1.size))) (fun i => i = w.heap.size + 1) (fun i hi => by omega))
        (fun i hi => by omega) (Below.refl _ _) (fun _ => rfl)
        (fun pre W => fst0 (pre.map fun y => chkE y.e) = 0 ∧ Boxed W (w.heap.size + 1) 40 (.int .i64 0) ∧ Below w.heap.size w W)
        (fun c pre W => c = .ret ∧ fst0 (pre.map fun y => chkE y.e) ≠ 0 ∧ Boxed W (w.heap.size + 1) 40 (.int .i64 (fst0 (pre.map fun y => chkE y.e))) ∧ Below w.heap.size w W)
        ?hI ?hIx ⟨rfl, b1, hB⟩ ?assign ?body ?done ?stop
      case hI =>
        intro s A B hs hb
        exact ⟨hs.1, (hb.block _ (by omega)).trans hs.2.1, hs.2.2.trans (hb.mono (by omega))⟩
      case hIx =>
        intro c s A B hs hb
        exact ⟨hs.1, hs.2.1, (hb.block _ (by omega)).trans hs.2.2.1, hs.2.2.2.trans (hb.mono (by omega))⟩
      case assign =>
        intro m l' y W'
        dsimp only [XpI.v, XpI.cells]
        gi_wp2_with fail
        exact ⟨trivial, by simp⟩
      case body =>
        rintro m l' Bx pre y W7 hl hlB hwB hBW hbx ⟨r, hr⟩ ⟨h1, h2, h3⟩ hv
        rw [List.map_append] at hv
        have hyn : y.e ∈ x.e.nodes := hv.subset (by simp)
        have hcall := checkexprnode_any y W7 (HB.out.2.2.2.1.trans (h3.mono hw0)) (Nat.le_trans (Xp.node_bk hyn) hbig) (HB.out.2.2.2.2.1.below h3)
        have e0 := cell_of_row W7 Bx 0 _ _ _ hbx
        have e1 := cell_of_row W7 Bx 1 _ _ _ hbx
        have e2 := cell_of_row W7 Bx 2 _ _ _ hbx
        have e3 := cell_of_row W7 Bx 3 _ _ _ hbx
        have e4 := cell_of_row W7 Bx 4 _ _ _ hbx
        have e5 := cell_of_row W7 Bx 5 _ _ _ hbx
        have e6 := cell_of_row W7 Bx 6 _ _ _ hbx
        have e7 := cell_of_row W7 Bx 7 _ _ _ hbx
        have hfs : fst0 ((pre ++ [y]).map fun y => chkE y.e) = chkE y.e := by
          rw [List.map_append, fst0_append, if_pos h1]; simp only [List.map_cons, List.map_nil, fst0]; split <;> simp_all
        have HZ := hid (And.intro h2 (And.intro h3 (And.intro hcall hfs)))
        clear h1 h2 h3 hv hcall hbx hfs hyn
        dsimp only [XpI.v, XpI.cells] at e0 e1 e2 e3 e4 e5 e6 e7 ⊢
        generalize chkE y.e = er at HZ
        by_cases her : er = 0
        · subst her
          gi_wp2_with fail
          refine ⟨trivial, fun h => (by cases h), CallsIn.inRound l' (callsIn_wide.2 (HZ.out.2.2.1.mono ?_))⟩
          rintro e w8 ⟨rfl, hb8⟩
          have H8 := hid hb8
          clear hb8
          gi_wp2_with fail
          exact ⟨KeepX.of_below H8.out, HZ.out.2.2.2, (H8.out.block _ HZ.out.1.lt).trans HZ.out.1, HZ.out.2.1.trans (H8.out.mono HZ.out.2.1.size)⟩
        · have her2 : (er != 0) = true := by simp [her]
          gi_wp2_with fail
          refine ⟨trivial, fun h => (by cases h), CallsIn.inRound l' (callsIn_wide.2 (HZ.out.2.2.1.mono ?_))⟩
          rintro e w8 ⟨rfl, hb8⟩
          have f8 : Boxed w8 _ _ _ := (hb8.block _ HZ.out.1.lt).trans HZ.out.1
          have g0 := f8.cell
          have g1 := f8.frozen
          have H8 := hid (And.intro hb8 f8)
          clear hb8 f8
          gi_wp2_with fail
          have hks := KeepX.set w8 (w.heap.size + 1) (.int .i64 er)
          have hse := H8.out.2.set (.int .i64 er)
          have hbS : Below w.heap.size w8 (w8.setCell ⟨w.heap.size + 1, 0, none⟩ (.int .i64 er)) := below_set _ _ (by omega)
          generalize w8.setCell ⟨w.heap.size + 1, 0, none⟩ (.int .i64 er) = w10 at hks hse hbS ⊢
          refine ⟨⟨Nat.le_trans H8.out.1.size hks.1, fun i hi hx => ?_⟩, rfl, by rw [HZ.out.2.2.2]; exact her, by rw [HZ.out.2.2.2]; exact hse, HZ.out.2.1.trans ((H8.out.1.mono HZ.out.2.1.size).trans hbS)⟩
          have hx' : ¬ i < W6.heap.size := hx
          rw [hks.2 i (Nat.lt_of_lt_of_le hi H8.out.1.size) (by omega), H8.out.1.block i hi]
      case done =>
        rintro D ys W9 hD hS ⟨h1, h2, h3⟩ hK
        have f9 := h2
        have g0 := f9.cell
        have g1 := f9.frozen
        have hDb : D ≠ w.heap.size + 1 := by omega
        have HG := hid (And.intro hS (And.intro h1 (And.intro f9 (And.intro h3 hK))))
        clear hS h1 h2 h3 f9 hK
        gi_wp2_with fail
        have hK1 : (W9.setCell ⟨w.heap.size + 1, 0, none⟩ (.int .i64 0)).heap[D]? = some (.deferred (some [])) := ((KeepX.set W9 _ _).2 D (Array.getElem?_eq_some_iff.1 HG.out.2.2.2.2).1 hDb).trans HG.out.2.2.2.2
        have hf : Boxed (W9.setCell ⟨w.heap.size + 1, 0, none⟩ (.int .i64 0)) (w.heap.size + 1) 40 (.int .i64 0) := HG.out.2.2.1.set _
        have hB9 : Below w.heap.size W9 ((W9.setCell ⟨w.heap.size + 1, 0, none⟩ (.int .i64 0)).putObj D (.deferred none)) := (below_set W9 _ (by omega)).trans (below_put (by omega) hK1)
        refine ⟨by simp, .inl ⟨_, _, rfl, run_takeDeferred hK1, ?_⟩⟩
        have m0 : ((W9.setCell ⟨w.heap.size + 1, 0, none⟩ (.int .i64 0)).putObj D (.deferred none)).cell? ⟨w.heap.size + 1, 0, none⟩ = some (.int .i64 0) := Boxed.cell (t := 40) ((World.putObj_heap_other (fun e => hDb e.symm)).trans hf)
        generalize (W9.setCell ⟨w.heap.size + 1, 0, none⟩ (.int .i64 0)).putObj D (.deferred none) = W10 at m0 hB9 ⊢
        have hr : chkX x.e = 0 := by
          rw [HX.out, if_neg (by omega), ← HG.out.1, List.map_map]; exact HG.out.2.1
        exact ⟨.int .i64 0, by simp [results, Tryz.results25, go_sem, m0], by rw [hr], HG.out.2.2.2.1.trans hB9⟩
      case stop =>
        rintro D c pre W9 hD hv ⟨rfl, h0, h1, h2⟩ hK
        have c0 := h1.cell
        have HG := hid (And.intro h0 (And.intro h1 (And.intro h2 (And.intro hK hv))))
        clear h0 h1 h2 hK hv
        gi_wp2_with fail
        have hDb : D ≠ w.heap.size + 1 := by omega
        have hB9 : Below w.heap.size W9 (W9.putObj D (.deferred none)) := below_put (by omega) HG.out.2.2.2.1
        have m0 : (W9.putObj D (.deferred none)).cell? ⟨w.heap.size + 1, 0, none⟩ = some (.int .i64 (fst0 (pre.map fun y => chkE y.e))) := Boxed.cell (t := 40) ((World.putObj_heap_other (fun e => hDb e.symm)).trans HG.out.2.1)
        refine ⟨by simp, .inl ⟨_, _, rfl, run_takeDeferred HG.out.2.2.2.1, ?_⟩⟩
        generalize W9.putObj D (.deferred none) = W10 at m0 hB9 ⊢
        have hr : chkX x.e = fst0 (pre.map fun y => chkE y.e) := by
          rw [HX.out, if_neg (by omega)]
          have hp : (pre.map fun y => chkE y.e) <+: x.e.nodes.map chkE := by
            have h := HG.out.2.2.2.2.map chkE
            rwa [List.map_map] at h
          exact fst0_prefix hp HG.out.1
        exact ⟨.int .i64 (fst0 (pre.map fun y => chkE y.e)), by simp [results, Tryz.results25, go_sem, m0], by rw [hr], HG.out.2.2.1.trans hB9⟩
    · gi_wp2_with fail
      refine ⟨trivial, callsIn_wide.2 (HD.out.mono ?_)⟩
      rintro e w3 ⟨rfl, hb3⟩
      have f3 : Boxed w3 _ _ _ := (hb3.block _ (by have := H2.out.size; have := HB.out.2.2.2.2.2; omega)).trans ((H2.out.block _ (by have := HB.out.2.2.2.2.2; omega)).trans HB.out.2.1)
      have g0 := f3.cell
      have g1 := f3.frozen
      have H3 := hid (And.intro hb3 f3)
      clear hb3 f3
      have hset := (H3.out.2.set (.int .i64 7))
      have m0 := hset.cell
      have hbS : Below w.heap.size w3 (World.setCell w3 ⟨w.heap.size + 1, 0, none⟩ (.int .i64 7)) := below_set _ _ (by omega)
      gi_wp2_with fail
      refine ⟨_, by simp [results, Tryz.results25, go_sem, m0]; rfl, by rw [HX.out, if_pos (.inr (by omega))], HB.out.2.2.1.trans (((H2.out.trans (H3.out.1.mono H2.out.size)).mono HB.out.2.2.1.size).trans hbS)⟩
  · have hr4 : 4096 < r0 := by obtain ⟨_, hn1, hn2⟩ := hnr; omega
    clear hnr hr1
    have f2 : Boxed w2 _ _ _ := (hb2.block _ (by have := HB.out.2.2.2.2.2; omega)).trans HB.out.2.1
    have g0 := f2.cell
    have g1 := f2.frozen
    have H2 := hid (And.intro hb2 f2)
    clear hb2 f2
    have hset := (H2.out.2.set (.int .i64 7))
    have m0 := hset.cell
    have hbS : Below w.heap.size w2 (World.setCell w2 ⟨w.heap.size + 1, 0, none⟩ (.int .i64 7)) := below_set _ _ (by omega)
    gi_wp2_with fail
    refine ⟨trivial, ?_⟩
    gi_wp2_with fail
    refine ⟨_, by simp [results, Tryz.results25, go_sem, m0]; rfl, by rw [HX.out, if_pos (.inl (by omega))], HB.out.2.2.1.trans ((H2.out.1.mono HB.out.2.2.1.size).trans hbS)⟩
end Go.Proofs.YtnkhebgjhipepaaGreatDoor

namespace Go.Proofs.YtnkhebgjhipepaaGreatDoor
open Go.RowKit

theorem fst0_zero {l : List Int} : fst0 l = 0 ↔ ∀ e ∈ l, e = 0 := by
  induction l with
  | nil => simp [fst0]
  | cons a l ih =>
    simp only [fst0, List.mem_cons, forall_eq_or_imp]
    by_cases h : a = 0
    · rw [if_pos h]; exact ⟨fun h2 => ⟨h, ih.1 h2⟩, fun h2 => ih.2 h2.2⟩
    · rw [if_neg h]; exact ⟨fun h2 => absurd h2 h, fun h2 => h2.1⟩
theorem le_maxL {n : Nat} : ∀ {l : List Nat}, n ∈ l → n ≤ maxL l := by
  intro l
  induction l with
  | nil => intro h; cases h
  | cons a l ih =>
    intro h
    simp only [maxL, List.foldr_cons] at *
    rcases List.mem_cons.1 h with rfl | h
    · omega
    · have := ih h; omega
theorem chkT_zero {t : Ty} : chkT t = 0 ↔ (t.size ≤ 4096 ∧ t.depth ≤ 32) ∧ ∀ p ∈ t.nodes, chkN p = 0 := by
  unfold chkT
  by_cases h : 4096 < t.size ∨ 32 < t.depth
  · rw [if_pos h]
    exact ⟨fun h2 => by omega, fun h2 => by have := h2.1; omega⟩
  · rw [if_neg h, fst0_zero]
    constructor
    · intro h2; exact ⟨by omega, fun p hp => h2 _ (List.mem_map.2 ⟨p, hp, rfl⟩)⟩
    · rintro ⟨_, h2⟩ e he
      obtain ⟨p, hp, rfl⟩ := List.mem_map.1 he
      exact h2 p hp
theorem Ty.part_depth {t p : Ty} (h : p ∈ t.parts) : p.depth < t.depth := by
  rw [t.depth_parts]
  have := le_maxL (List.mem_map.2 ⟨p, h, rfl⟩ : p.depth ∈ t.parts.map Ty.depth)
  omega
theorem Ty.part_nodes {t p q : Ty} (h : p ∈ t.parts) (hq : q ∈ p.nodes) : q ∈ t.nodes := by
  rw [t.nodes_parts]
  exact List.mem_cons_of_mem _ (List.mem_flatMap.2 ⟨p, h, hq⟩)
theorem chkT_part {t p : Ty} (h : chkT t = 0) (hp : p ∈ t.parts) : chkT p = 0 ∧ p.depth < t.depth := by
  obtain ⟨⟨h1, h2⟩, h3⟩ := chkT_zero.1 h
  have h4 := Ty.part_size hp
  have h5 := Ty.part_depth hp
  exact ⟨chkT_zero.2 ⟨⟨by omega, by omega⟩, fun q hq => h3 q (Ty.part_nodes hp hq)⟩, h5⟩
theorem chkX_zero {t : Xp} : chkX t = 0 ↔ (t.size ≤ 4096 ∧ t.depth ≤ 32) ∧ ∀ p ∈ t.nodes, chkE p = 0 := by
  unfold chkX
  by_cases h : 4096 < t.size ∨ 32 < t.depth
  · rw [if_pos h]
    exact ⟨fun h2 => by omega, fun h2 => by have := h2.1; omega⟩
  · rw [if_neg h, fst0_zero]
    constructor
    · intro h2; exact ⟨by omega, fun p hp => h2 _ (List.mem_map.2 ⟨p, hp, rfl⟩)⟩
    · rintro ⟨_, h2⟩ e he
      obtain ⟨p, hp, rfl⟩ := List.mem_map.1 he
      exact h2 p hp
theorem Xp.kid_depth {t p : Xp} (h : p ∈ t.kids) : p.depth < t.depth := by
  rw [t.depth_kids]
  have := le_maxL (List.mem_map.2 ⟨p, h, rfl⟩ : p.depth ∈ t.kids.map Xp.depth)
  omega
theorem Xp.kid_nodes {t p q : Xp} (h : p ∈ t.kids) (hq : q ∈ p.nodes) : q ∈ t.nodes := by
  rw [t.nodes_kids]
  exact List.mem_cons_of_mem _ (List.mem_flatMap.2 ⟨p, h, hq⟩)
theorem Ex.el_size {K : Ex} {p : Xp} (h : p ∈ K.els) : p.size ≤ K.size := by
  induction K with
  | nil => cases h
  | node k m n tx num T L K nx hk hn =>
    simp only [Ex.els, List.mem_cons] at h
    rcases h with rfl | h
    · simp only [Ex.size, Xp.size]; omega
    · have := hn h; simp only [Ex.size]; omega
theorem Xp.kid_size {t p : Xp} (h : p ∈ t.kids) : p.size < t.size := by
  have h1 := Ex.el_size h
  have h2 : t.size = 1 + t.T.size + (if t.k = 8 then (t.L.map (·.t.size)).sum else 0) + t.K.size := rfl
  omega
theorem chkX_kid {t p : Xp} (h : chkX t = 0) (hp : p ∈ t.kids) : chkX p = 0 ∧ p.size < t.size := by
  obtain ⟨⟨h1, h2⟩, h3⟩ := chkX_zero.1 h
  have h4 := Xp.kid_size hp
  have h5 := Xp.kid_depth hp
  exact ⟨chkX_zero.2 ⟨⟨by omega, by omega⟩, fun q hq => h3 q (Xp.kid_nodes hp hq)⟩, h4⟩
end Go.Proofs.YtnkhebgjhipepaaGreatDoor

namespace Go.Proofs.YtnkhebgjhipepaaGreatDoor
open Go.RowKit Go.Shelf

/-- Where the law's arguments lie. -/
structure Bx2 (W : World) (t : TyI W) (p : XpI W) (V : World) : Prop where
  row0 : V.heap[W.heap.size]? = some (.cells #[.int .i64 t.t.k, .string t.t.m, .string t.t.n, .slice t.aa t.t.A.len t.ca, .slice t.af t.t.F.len t.cf] 25 (0, 0))
  row1 : V.heap[W.heap.size + 1]? = some (.cells #[.int .i64 p.e.k, .string p.e.m, .string p.e.n, .string p.e.tx, .int .i64 p.e.num, .slice p.aT p.e.T.len p.cT, .slice p.aL p.e.L.length p.cL, .slice p.aK p.e.K.len p.cK] 29 (0, 0))
  below : Below W.heap.size W V
theorem Bx2.later {W V V' : World} {t : TyI W} {p : XpI W} (h : Bx2 W t p V) (hb : Below V.heap.size V V') : Bx2 W t p V' :=
  ⟨(hb.block _ (Array.getElem?_eq_some_iff.1 h.row0).1).trans h.row0, (hb.block _ (Array.getElem?_eq_some_iff.1 h.row1).1).trans h.row1, h.below.trans (hb.mono h.below.size)⟩
set_option maxRecDepth 100000 in
set_option maxHeartbeats 16000000 in
theorem parts_law (W : World) (t : TyI W) (p : XpI W) (hE : Env W) (h1 : t.t.db ≤ 1048576) (h2 : p.e.bk ≤ 1048576) :
    Calls Tryz.prog 10 #[.agg #[.int .i64 t.t.k, .string t.t.m, .string t.t.n, .slice t.aa t.t.A.len t.ca, .slice t.af t.t.F.len t.cf], .agg #[.int .i64 p.e.k, .string p.e.m, .string p.e.n, .string p.e.tx, .int .i64 p.e.num, .slice p.aT p.e.T.len p.cT, .slice p.aL p.e.L.length p.cL, .slice p.aK p.e.K.len p.cK]] W fun e W' => e = .returned (.bool true) ∧ Below W.heap.size W W' := by
  obtain ⟨wa, hwa⟩ : ∃ wa, (W.alloc (.cells #[.int .i64 t.t.k, .string t.t.m, .string t.t.n, .slice t.aa t.t.A.len t.ca, .slice t.af t.t.F.len t.cf] 25)).alloc (.cells #[.int .i64 p.e.k, .string p.e.m, .string p.e.n, .string p.e.tx, .int .i64 p.e.num, .slice p.aT p.e.T.len p.cT, .slice p.aL p.e.L.length p.cL, .slice p.aK p.e.K.len p.cK] 29) = wa := ⟨_, rfl⟩
  have HA : Kpt (Bx2 W t p wa) := hid ⟨by rw [← hwa]; exact (Below.heap_alloc _ _ _ (by simp)).trans (World.alloc_heap_new _ _), by rw [← hwa]; have h := World.alloc_heap_new (W.alloc (.cells #[.int .i64 t.t.k, .string t.t.m, .string t.t.n, .slice t.aa t.t.A.len t.ca, .slice t.af t.t.F.len t.cf] 25)) (.cells #[.int .i64 p.e.k, .string p.e.m, .string p.e.n, .string p.e.tx, .int .i64 p.e.num, .slice p.aT p.e.T.len p.cT, .slice p.aL p.e.L.length p.cL, .slice p.aK p.e.K.len p.cK] 29); simpa only [World.size_alloc] using h,
    by rw [← hwa]; exact ((Below.refl _ W).alloc (Nat.le_refl _) _).alloc (by simp) _⟩
  have HAW := hid (awakeS_any wa (hE.below HA.out.below))
  have hes := p.e.size_bk
  have hsd := t.t.size_db
  have HCT : Kpt (∀ (y : TyI W), y.t.db ≤ 1048576 → ∀ W' : World, Below W.heap.size W W' → Calls Tryz.prog 23 #[.agg #[.int .i64 y.t.k, .string y.t.m, .string y.t.n, .slice y.aa y.t.A.len y.ca, .slice y.af y.t.F.len y.cf]] W' fun e W'' => e = .returned (.int .i64 (chkT y.t)) ∧ Below W'.heap.size W' W'') := hid (fun y hy W' hW' => checktype_any y.t y.v W' (TyV_below y.tyV hW') (by have := y.t.size_db; omega) (y.t.sh_nodes (by omega)) (hE.below hW'))
  have HTS : Kpt (∀ (y : TyI W), y.t.size ≤ 1048576 → ∀ W' : World, Below W.heap.size W W' → Calls Tryz.prog 15 #[.agg #[.int .i64 y.t.k, .string y.t.m, .string y.t.n, .slice y.aa y.t.A.len y.ca, .slice y.af y.t.F.len y.cf]] W' fun e W'' => e = .returned (.int .i64 (y.t.size : Int)) ∧ Below W'.heap.size W' W'') := hid (fun y hy W' hW' => typeSize_any (TyV_below y.tyV hW') (by omega))
  have HTD : Kpt (∀ (y : TyI W), y.t.size ≤ 1048576 → ∀ W' : World, Below W.heap.size W W' → Calls Tryz.prog 17 #[.agg #[.int .i64 y.t.k, .string y.t.m, .string y.t.n, .slice y.aa y.t.A.len y.ca, .slice y.af y.t.F.len y.cf]] W' fun e W'' => e = .returned (.int .i64 (y.t.depth : Int)) ∧ Below W'.heap.size W' W'') := hid (fun y hy W' hW' => typeDepth_any (TyV_below y.tyV hW') (by omega))
  have HRP : Kpt (∀ W' : World, Below W.heap.size W W' → Calls Tryz.prog 50 #[.agg #[.int .i64 t.t.k, .string t.t.m, .string t.t.n, .slice t.aa t.t.A.len t.ca, .slice t.af t.t.F.len t.cf]] W' _) := hid (fun W' hW' => rparts_any W t W' hW' (by omega))
  have HXS : Kpt (∀ (y : XpI W), y.e.bk ≤ 1048576 → ∀ W' : World, Below W.heap.size W W' → Calls Tryz.prog 19 #[.agg #[.int .i64 y.e.k, .string y.e.m, .string y.e.n, .string y.e.tx, .int .i64 y.e.num, .slice y.aT y.e.T.len y.cT, .slice y.aL y.e.L.length y.cL, .slice y.aK y.e.K.len y.cK]] W' fun e W'' => e = .returned (.int .i64 (y.e.size : Int)) ∧ Below W'.heap.size W' W'') := hid (fun y hy W' hW' => ExprSize_any y (by omega) W' hW')
  have HXR : Kpt (∀ W' : World, Below W.heap.size W W' → Calls Tryz.prog 13 #[.agg #[.int .i64 p.e.k, .string p.e.m, .string p.e.n, .string p.e.tx, .int .i64 p.e.num, .slice p.aT p.e.T.len p.cT, .slice p.aL p.e.L.length p.cL, .slice p.aK p.e.K.len p.cK]] W' fun e W'' => e = .returned (.int .i64 (p.e.size : Int)) ∧ Below W'.heap.size W' W'') := hid (fun W' hW' => rxz_all W _ (by omega) p (Nat.le_refl _) W' hW')
  have HCX : Kpt (∀ (y : XpI W), y.e.bk ≤ 1048576 → ∀ W' : World, Below W.heap.size W W' → Calls Tryz.prog 25 #[.agg #[.int .i64 y.e.k, .string y.e.m, .string y.e.n, .string y.e.tx, .int .i64 y.e.num, .slice y.aT y.e.T.len y.cT, .slice y.aL y.e.L.length y.cL, .slice y.aK y.e.K.len y.cK]] W' fun e W'' => e = .returned (.int .i64 (chkX y.e)) ∧ Below W'.heap.size W' W'') := hid (fun y hy W' hW' => checkexpr_any y W' hW' (by omega) (hE.below hW'))
  have hkl : p.e.K.len ≤ 1048576 := by have := Ex.len_bk p.e.K; have := p.e.bk_eq; omega
  have hes' : p.e.size ≤ 1048576 := by omega
  have hts' : t.t.size ≤ 1048576 := by omega
  have HH := hid (And.intro h1 h2)
  clear hE hes hsd h1 h2
  go_enter Tryz.func10, Tryz.ntmps10
  go_wp2_with fail
  refine HAW.out.mono ?_
  rintro e w2 ⟨rfl, hb⟩
  have HB := hid (HA.out.later hb)
  clear hb hwa HA HAW
  have c00 := cell_of_row w2 _ 0 _ _ _ HB.out.row0
  have c01 := cell_of_row w2 _ 1 _ _ _ HB.out.row0
  have c02 := cell_of_row w2 _ 2 _ _ _ HB.out.row0
  have c03 := cell_of_row w2 _ 3 _ _ _ HB.out.row0
  have c04 := cell_of_row w2 _ 4 _ _ _ HB.out.row0
  obtain ⟨w3, hw3⟩ : ∃ w3, w2.alloc (.cells #[.int .i64 t.t.k, .string t.t.m, .string t.t.n, .slice t.aa t.t.A.len t.ca, .slice t.af t.t.F.len t.cf] 25) = w3 := ⟨_, rfl⟩
  have hb3 : Below w2.heap.size w2 w3 := by rw [← hw3]; exact (Below.refl _ w2).alloc (Nat.le_refl _) _
  have e3 : w3.heap[w2.heap.size]? = some (.cells #[.int .i64 t.t.k, .string t.t.m, .string t.t.n, .slice t.aa t.t.A.len t.ca, .slice t.af t.t.F.len t.cf] 25 (0, 0)) := by rw [← hw3]; exact World.alloc_heap_new w2 _
  have H3 := hid (HB.out.later hb3)
  have hrow : ∀ i y j u', [t][i]? = some y → y.cells.toList[j]? = some u' → w3.cell? ⟨w2.heap.size, i * 5 + j, none⟩ = some u' := by
    intro i y j u' hy hu
    have hj : j < 5 := (List.getElem?_eq_some_iff.1 hu).1
    have hj5 : j = 0 ∨ j = 1 ∨ j = 2 ∨ j = 3 ∨ j = 4 := by omega
    match i, hy with
    | 0, hy => cases hy; rcases hj5 with rfl | rfl | rfl | rfl | rfl <;> (cases hu; exact cell_of_row w3 _ _ _ _ _ e3)
  have hfew := fewT_any W [t] w2.heap.size 1 2000 w3 H3.out.below hrow (by show t.t.size + 0 ≤ _; omega) (by show 1 ≤ _; omega)
  have hsm : (([t].map (·.t)).map Ty.size).sum = t.t.size + 0 := rfl
  rw [hsm] at hfew
  have HF := hid (show Calls Tryz.prog 12 #[.int .i64 2000, .slice (some ⟨w2.heap.size, 0, none⟩) 1 1] w3 _ from hfew)
  obtain ⟨FW, hFW⟩ : ∃ FW, decide (((t.t.size + 0 : Nat) : Int) ≤ 2000) = FW := ⟨_, rfl⟩
  rw [hFW] at HF
  clear hsm hfew hrow e3 hb3 hFW
  go_wp2_with fail
  refine HF.out.mono ?_
  rintro e w4 ⟨rfl, hb4⟩
  have HV := hid (H3.out.later hb4)
  clear hb4 hw3 c00 c01 c02 c03 c04
  cases FW with
  | false =>
    go_wp2_with fail
    go_ret
    exact ⟨rfl, HV.out.below⟩
  | true =>
    have c10 := cell_of_row w4 _ 0 _ _ _ HV.out.row1
    have c11 := cell_of_row w4 _ 1 _ _ _ HV.out.row1
    have c12 := cell_of_row w4 _ 2 _ _ _ HV.out.row1
    have c13 := cell_of_row w4 _ 3 _ _ _ HV.out.row1
    have c14 := cell_of_row w4 _ 4 _ _ _ HV.out.row1
    have c15 := cell_of_row w4 _ 5 _ _ _ HV.out.row1
    have c16 := cell_of_row w4 _ 6 _ _ _ HV.out.row1
    have c17 := cell_of_row w4 _ 7 _ _ _ HV.out.row1
    go_wp2_with fail
    refine (HXR.out w4 HV.out.below).mono ?_
    rintro e w5 ⟨rfl, hb5⟩
    have H5 := hid (HV.out.later hb5)
    clear hb5 c10 c11 c12 c13 c14 c15 c16 c17
    by_cases hx2 : (2000 : Int) < (p.e.size : Int)
    · go_wp2_with fail
      go_ret
      exact ⟨rfl, H5.out.below⟩
    · have hx3 : (p.e.size : Int) ≤ 2000 := by omega
      have c00 := cell_of_row w5 _ 0 _ _ _ H5.out.row0
      have c01 := cell_of_row w5 _ 1 _ _ _ H5.out.row0
      have c02 := cell_of_row w5 _ 2 _ _ _ H5.out.row0
      have c03 := cell_of_row w5 _ 3 _ _ _ H5.out.row0
      have c04 := cell_of_row w5 _ 4 _ _ _ H5.out.row0
      have HC0 := hid (HCT.out t HH.out.1 w5 H5.out.below)
      go_wp2_with fail
      refine HC0.out.mono ?_
      rintro e w6 ⟨rfl, hb6⟩
      have H6 := hid (H5.out.later hb6)
      clear HC0 hb6 c00 c01 c02 c03 c04
      by_cases hct : chkT t.t = 0
      · rw [hct]
        have c00 := cell_of_row w6 _ 0 _ _ _ H6.out.row0
        have c01 := cell_of_row w6 _ 1 _ _ _ H6.out.row0
        have c02 := cell_of_row w6 _ 2 _ _ _ H6.out.row0
        have c03 := cell_of_row w6 _ 3 _ _ _ H6.out.row0
        have c04 := cell_of_row w6 _ 4 _ _ _ H6.out.row0
        have HP0 := hid (HRP.out w6 H6.out.below)
        go_wp2_with fail
        refine HP0.out.mono ?_
        rintro e w7 ⟨v, rs, rfl, hrs, hrow, hb7⟩
        obtain ⟨pa, pc, rfl⟩ := own_slice hrow
        have H7 := hid (H6.out.later hb7)
        clear HP0 hb7 c00 c01 c02 c03 c04
        have hln : rs.length = t.t.parts.length := by rw [← hrs, List.length_map]
        have hpz : psum t.t.parts t.t.parts.length = t.t.size := by unfold psum; rw [List.take_length, ← Ty.size_parts]
        obtain ⟨N, hN⟩ : ∃ N, rs.length = N := ⟨_, rfl⟩
        rw [hN] at hrow ⊢
        have hNs : N ≤ 1048576 := by
          have h : ∀ l : List Ty, l.length ≤ (l.map Ty.size).sum := fun l => by
            induction l with
            | nil => exact Nat.le_refl _
            | cons a l ih => simp only [List.length_cons, List.map_cons, List.sum_cons, Ty.size]; omega
          have h2 := h t.t.parts
          have h3 := t.t.size_parts
          omega
        have HR := hid (And.intro hrs (And.intro hrow (And.intro hN (And.intro (hln.symm.trans hN) hpz))))
        clear hrs hrow hN hln hpz
        go_wp2_with fail
        go_loopw [5, 27] (fun q a wr => ∃ i : Nat, a = .int .i64 (i : Int) ∧ i ≤ N ∧ q = .int .i64 (psum t.t.parts i : Int) ∧ Below w7.heap.size w7 wr) (fun _ a _ => N - (intOf a).toNat)
        case atStart => exact ⟨0, rfl, Nat.zero_le _, rfl, Below.refl _ _⟩
        case round =>
          obtain ⟨i, rfl, hi9, rfl, hB⟩ := hrel
          have JR := hid (H7.out.later hB)
          by_cases hlt : i < N
          · obtain ⟨g, cap, hv, _, _⟩ := HR.out.2.1.form (by omega)
            cases hv
            obtain ⟨y, hy⟩ : ∃ y, rs[i]? = some y := ⟨_, List.getElem?_eq_getElem (by rw [HR.out.2.2.1]; exact hlt)⟩
            have hc : ∀ j u, y.cells.toList[j]? = some u → j < 5 → wr.cell? ⟨g, i * 5 + j, none⟩ = some u := fun j u hu hj => by
              refine old_cell hB ?_
              rw [HR.out.2.1.cellAt (i * 5 + j) (by omega)]
              exact flat_at (fun y : TyI W => y.cells.toList) 5 (fun _ => rfl) rs i j y u hy hu
            have d0 := hc 0 _ rfl (by omega)
            have d1 := hc 1 _ rfl (by omega)
            have d2 := hc 2 _ rfl (by omega)
            have d3 := hc 3 _ rfl (by omega)
            have d4 := hc 4 _ rfl (by omega)
            have hyp : t.t.parts[i]? = some y.t := by rw [← HR.out.1, List.getElem?_map, hy]; rfl
            have hym : y.t ∈ t.t.parts := List.mem_of_getElem? hyp
            obtain ⟨hcy, hdy⟩ := chkT_part hct hym
            have hydb := Ty.part_db hym
            have hysz := Ty.part_size hym
            have hps := psum_succ hyp
            have hpl := psum_le t.t.parts (i + 1)
            rw [HR.out.2.2.2.2] at hpl
            have hth := HH.out.1
            obtain ⟨wb, hwb⟩ : ∃ wb, wr.alloc (.cells #[.int .i64 y.t.k, .string y.t.m, .string y.t.n, .slice y.aa y.t.A.len y.ca, .slice y.af y.t.F.len y.cf] 25) = wb := ⟨_, rfl⟩
            have hbb : Below wr.heap.size wr wb := by rw [← hwb]; exact (Below.refl _ wr).alloc (Nat.le_refl _) _
            have heb : wb.heap[wr.heap.size]? = some (.cells #[.int .i64 y.t.k, .string y.t.m, .string y.t.n, .slice y.aa y.t.A.len y.ca, .slice y.af y.t.F.len y.cf] 25 (0, 0)) := by rw [← hwb]; exact World.alloc_heap_new _ _
            have hslt : wr.heap.size < wb.heap.size := by rw [← hwb]; simp
            have JB := hid (JR.out.later hbb)
            have HS1 := hid (HTS.out y (by omega) wb JB.out.below)
            have HBB := hid (hB.trans (hbb.mono hB.size))
            have a0 := cell_of_row wb _ 0 _ _ _ heb
            have a1 := cell_of_row wb _ 1 _ _ _ heb
            have a2 := cell_of_row wb _ 2 _ _ _ heb
            have a3 := cell_of_row wb _ 3 _ _ _ heb
            have a4 := cell_of_row wb _ 4 _ _ _ heb
            have HPS := hid (And.intro hps hpl)
            have hb1 : psum t.t.parts i + y.t.size ≤ 1099511627776 := by omega
            have HE2 := hid (And.intro hcy (And.intro hdy (And.intro hydb hysz)))
            simp only [Nat.add_zero] at d0
            clear hc hy hyp hym hcy hdy hydb hysz hps hpl hB hbb hth
            generalize psum t.t.parts i = S at HPS hb1 ⊢
            go_wp2_with fail
            refine HS1.out.mono ?_
            rintro e w8 ⟨rfl, hb8⟩
            have J8 := hid (JB.out.later hb8)
            have HB8 := hid (HBB.out.trans (hb8.mono HBB.out.size))
            have heb8 := (hb8.block _ hslt).trans heb
            have hsl8 : wr.heap.size < w8.heap.size := Nat.lt_of_lt_of_le hslt hb8.size
            clear hb8 heb HS1 d0 d1 d2 d3 d4 a0 a1 a2 a3 a4 hwb
            have e0 : ∀ Z : Later w8, Z.now.cell? ⟨wr.heap.size, 0, none⟩ = some (.int .i64 y.t.k) := fun Z => cell_of_row Z.now _ 0 _ _ _ ((Z.since.block _ hsl8).trans heb8)
            have e1 : ∀ Z : Later w8, Z.now.cell? ⟨wr.heap.size, 1, none⟩ = some (.string y.t.m) := fun Z => cell_of_row Z.now _ 1 _ _ _ ((Z.since.block _ hsl8).trans heb8)
            have e2 : ∀ Z : Later w8, Z.now.cell? ⟨wr.heap.size, 2, none⟩ = some (.string y.t.n) := fun Z => cell_of_row Z.now _ 2 _ _ _ ((Z.since.block _ hsl8).trans heb8)
            have e3 : ∀ Z : Later w8, Z.now.cell? ⟨wr.heap.size, 3, none⟩ = some (.slice y.aa y.t.A.len y.ca) := fun Z => cell_of_row Z.now _ 3 _ _ _ ((Z.since.block _ hsl8).trans heb8)
            have e4 : ∀ Z : Later w8, Z.now.cell? ⟨wr.heap.size, 4, none⟩ = some (.slice y.af y.t.F.len y.cf) := fun Z => cell_of_row Z.now _ 4 _ _ _ ((Z.since.block _ hsl8).trans heb8)
            have f0 : ∀ Z : Later w8, Z.now.cell? ⟨W.heap.size, 0, none⟩ = some (.int .i64 t.t.k) := fun Z => cell_of_row Z.now _ 0 _ _ _ (J8.out.later Z.since).row0
            have f1 : ∀ Z : Later w8, Z.now.cell? ⟨W.heap.size, 1, none⟩ = some (.string t.t.m) := fun Z => cell_of_row Z.now _ 1 _ _ _ (J8.out.later Z.since).row0
            have f2 : ∀ Z : Later w8, Z.now.cell? ⟨W.heap.size, 2, none⟩ = some (.string t.t.n) := fun Z => cell_of_row Z.now _ 2 _ _ _ (J8.out.later Z.since).row0
            have f3 : ∀ Z : Later w8, Z.now.cell? ⟨W.heap.size, 3, none⟩ = some (.slice t.aa t.t.A.len t.ca) := fun Z => cell_of_row Z.now _ 3 _ _ _ (J8.out.later Z.since).row0
            have f4 : ∀ Z : Later w8, Z.now.cell? ⟨W.heap.size, 4, none⟩ = some (.slice t.af t.t.F.len t.cf) := fun Z => cell_of_row Z.now _ 4 _ _ _ (J8.out.later Z.since).row0
            have HA1 : Kpt (∀ Z : Later w8, Calls Tryz.prog 23 #[.agg #[.int .i64 y.t.k, .string y.t.m, .string y.t.n, .slice y.aa y.t.A.len y.ca, .slice y.af y.t.F.len y.cf]] Z.now fun e w'' => e = .returned (.int .i64 0) ∧ ∃ Y : Later w8, w'' = Y.now) := hid fun Z => by rw [← HE2.out.1]; exact Calls.later_of (HCT.out y (by have := HE2.out.2.2.1; have := HH.out.1; omega) Z.now (J8.out.later Z.since).below)
            have HA2 : Kpt (∀ Z : Later w8, Calls Tryz.prog 17 #[.agg #[.int .i64 y.t.k, .string y.t.m, .string y.t.n, .slice y.aa y.t.A.len y.ca, .slice y.af y.t.F.len y.cf]] Z.now fun e w'' => e = .returned (.int .i64 (y.t.depth : Int)) ∧ ∃ Y : Later w8, w'' = Y.now) := hid fun Z => Calls.later_of (HTD.out y (by have := HE2.out.2.2.2; omega) Z.now (J8.out.later Z.since).below)
            have HA3 : Kpt (∀ Z : Later w8, Calls Tryz.prog 17 #[.agg #[.int .i64 t.t.k, .string t.t.m, .string t.t.n, .slice t.aa t.t.A.len t.ca, .slice t.af t.t.F.len t.cf]] Z.now fun e w'' => e = .returned (.int .i64 (t.t.depth : Int)) ∧ ∃ Y : Later w8, w'' = Y.now) := hid fun Z => Calls.later_of (HTD.out t hts' Z.now (J8.out.later Z.since).below)
            have hdd := HE2.out.2.1
            clear heb8
            go_wp2_with fail
            refine wp_region_later (by kernel_rfl) (by kernel_rfl) ?_
            repeat (go_big_quiet_step (first | (go_at_call 23; with_reducible exact HA1.out _) | (go_at_call 17; first | with_reducible exact HA2.out _ | with_reducible exact HA3.out _)))
            refine wpQuiet_nil ?_
            intro _ hw'
            obtain ⟨Z, hZ⟩ := hw'
            subst hZ
            have HBZ := hid (HB8.out.trans (Z.since.mono HB8.out.size))
            clear e0 e1 e2 e3 e4 f0 f1 f2 f3 f4
            go_wp2_with fail
            go_roundw
            case rel => exact ⟨i + 1, by go_num, by omega, by rw [HPS.out.1]; go_num, HBZ.out⟩
            case measure => simp [intOf]; omega
          · obtain rfl : i = N := by omega
            have hpz : psum t.t.parts i = t.t.size := by have h := HR.out.2.2.2.2; rw [HR.out.2.2.2.1] at h; exact h
            rw [hpz]
            clear hpz hB
            have c00 := cell_of_row wr _ 0 _ _ _ JR.out.row0
            have c01 := cell_of_row wr _ 1 _ _ _ JR.out.row0
            have c02 := cell_of_row wr _ 2 _ _ _ JR.out.row0
            have c03 := cell_of_row wr _ 3 _ _ _ JR.out.row0
            have c04 := cell_of_row wr _ 4 _ _ _ JR.out.row0
            have HS2 := hid (HTS.out t hts' wr JR.out.below)
            go_wp2_with fail
            refine HS2.out.mono ?_
            rintro e w8 ⟨rfl, hb8⟩
            have J8 := hid (JR.out.later hb8)
            clear HS2 hb8 c00 c01 c02 c03 c04
            have c10 := cell_of_row w8 _ 0 _ _ _ J8.out.row1
            have c11 := cell_of_row w8 _ 1 _ _ _ J8.out.row1
            have c12 := cell_of_row w8 _ 2 _ _ _ J8.out.row1
            have c13 := cell_of_row w8 _ 3 _ _ _ J8.out.row1
            have c14 := cell_of_row w8 _ 4 _ _ _ J8.out.row1
            have c15 := cell_of_row w8 _ 5 _ _ _ J8.out.row1
            have c16 := cell_of_row w8 _ 6 _ _ _ J8.out.row1
            have c17 := cell_of_row w8 _ 7 _ _ _ J8.out.row1
            have HC1 := hid (HCX.out p HH.out.2 w8 J8.out.below)
            go_wp2_with fail
            refine HC1.out.mono ?_
            rintro e v1 ⟨rfl, hbv⟩
            have J1 := hid (J8.out.later hbv)
            clear HC1 hbv c10 c11 c12 c13 c14 c15 c16 c17
            by_cases hcx : chkX p.e = 0
            · have c17 := cell_of_row v1 _ 7 _ _ _ J1.out.row1
              rw [hcx]
              go_wp2_with fail
              go_loopw [56] (fun a wr => ∃ i : Nat, a = .int .i64 (i : Int) ∧ i ≤ p.e.K.len ∧ Bx2 W t p wr) (fun a _ => p.e.K.len - (intOf a).toNat)
              case atStart => exact ⟨0, rfl, Nat.zero_le _, J1.out⟩
              case round =>
                obtain ⟨i, rfl, hi9, hJ⟩ := hrel
                have JR := hid hJ
                clear hJ
                by_cases hlt : i < p.e.K.len
                · obtain ⟨bk, ok, y, hak, hy0, d0, d1, d2, d3, d4, d5, d6, d7⟩ := lies_xp0 p.hK hlt
                  have hbw := JR.out.below
                  replace d0 := old_cell hbw d0
                  replace d1 := old_cell hbw d1
                  replace d2 := old_cell hbw d2
                  replace d3 := old_cell hbw d3
                  replace d4 := old_cell hbw d4
                  replace d5 := old_cell hbw d5
                  replace d6 := old_cell hbw d6
                  replace d7 := old_cell hbw d7
                  have hym : y.e ∈ p.e.kids := List.mem_of_getElem? hy0
                  obtain ⟨hcy, hsy⟩ := chkX_kid hcx hym
                  have hyb := Xp.kid_bk hym
                  have hpb := HH.out.2
                  obtain ⟨wb, hwb⟩ : ∃ wb, wr.alloc (.cells #[.int .i64 y.e.k, .string y.e.m, .string y.e.n, .string y.e.tx, .int .i64 y.e.num, .slice y.aT y.e.T.len y.cT, .slice y.aL y.e.L.length y.cL, .slice y.aK y.e.K.len y.cK] 29) = wb := ⟨_, rfl⟩
                  have hbb : Below wr.heap.size wr wb := by rw [← hwb]; exact (Below.refl _ wr).alloc (Nat.le_refl _) _
                  have heb : wb.heap[wr.heap.size]? = some (.cells #[.int .i64 y.e.k, .string y.e.m, .string y.e.n, .string y.e.tx, .int .i64 y.e.num, .slice y.aT y.e.T.len y.cT, .slice y.aL y.e.L.length y.cL, .slice y.aK y.e.K.len y.cK] 29 (0, 0)) := by rw [← hwb]; exact World.alloc_heap_new _ _
                  have hslt : wr.heap.size < wb.heap.size := by rw [← hwb]; simp
                  have JB := hid (JR.out.later hbb)
                  have e0 : ∀ Z : Later wb, Z.now.cell? ⟨wr.heap.size, 0, none⟩ = some (.int .i64 y.e.k) := fun Z => cell_of_row Z.now _ 0 _ _ _ ((Z.since.block _ hslt).trans heb)
                  have e1 : ∀ Z : Later wb, Z.now.cell? ⟨wr.heap.size, 1, none⟩ = some (.string y.e.m) := fun Z => cell_of_row Z.now _ 1 _ _ _ ((Z.since.block _ hslt).trans heb)
                  have e2 : ∀ Z : Later wb, Z.now.cell? ⟨wr.heap.size, 2, none⟩ = some (.string y.e.n) := fun Z => cell_of_row Z.now _ 2 _ _ _ ((Z.since.block _ hslt).trans heb)
                  have e3 : ∀ Z : Later wb, Z.now.cell? ⟨wr.heap.size, 3, none⟩ = some (.string y.e.tx) := fun Z => cell_of_row Z.now _ 3 _ _ _ ((Z.since.block _ hslt).trans heb)
                  have e4 : ∀ Z : Later wb, Z.now.cell? ⟨wr.heap.size, 4, none⟩ = some (.int .i64 y.e.num) := fun Z => cell_of_row Z.now _ 4 _ _ _ ((Z.since.block _ hslt).trans heb)
                  have e5 : ∀ Z : Later wb, Z.now.cell? ⟨wr.heap.size, 5, none⟩ = some (.slice y.aT y.e.T.len y.cT) := fun Z => cell_of_row Z.now _ 5 _ _ _ ((Z.since.block _ hslt).trans heb)
                  have e6 : ∀ Z : Later wb, Z.now.cell? ⟨wr.heap.size, 6, none⟩ = some (.slice y.aL y.e.L.length y.cL) := fun Z => cell_of_row Z.now _ 6 _ _ _ ((Z.since.block _ hslt).trans heb)
                  have e7 : ∀ Z : Later wb, Z.now.cell? ⟨wr.heap.size, 7, none⟩ = some (.slice y.aK y.e.K.len y.cK) := fun Z => cell_of_row Z.now _ 7 _ _ _ ((Z.since.block _ hslt).trans heb)
                  have f0 : ∀ Z : Later wb, Z.now.cell? ⟨W.heap.size + 1, 0, none⟩ = some (.int .i64 p.e.k) := fun Z => cell_of_row Z.now _ 0 _ _ _ (JB.out.later Z.since).row1
                  have f1 : ∀ Z : Later wb, Z.now.cell? ⟨W.heap.size + 1, 1, none⟩ = some (.string p.e.m) := fun Z => cell_of_row Z.now _ 1 _ _ _ (JB.out.later Z.since).row1
                  have f2 : ∀ Z : Later wb, Z.now.cell? ⟨W.heap.size + 1, 2, none⟩ = some (.string p.e.n) := fun Z => cell_of_row Z.now _ 2 _ _ _ (JB.out.later Z.since).row1
                  have f3 : ∀ Z : Later wb, Z.now.cell? ⟨W.heap.size + 1, 3, none⟩ = some (.string p.e.tx) := fun Z => cell_of_row Z.now _ 3 _ _ _ (JB.out.later Z.since).row1
                  have f4 : ∀ Z : Later wb, Z.now.cell? ⟨W.heap.size + 1, 4, none⟩ = some (.int .i64 p.e.num) := fun Z => cell_of_row Z.now _ 4 _ _ _ (JB.out.later Z.since).row1
                  have f5 : ∀ Z : Later wb, Z.now.cell? ⟨W.heap.size + 1, 5, none⟩ = some (.slice p.aT p.e.T.len p.cT) := fun Z => cell_of_row Z.now _ 5 _ _ _ (JB.out.later Z.since).row1
                  have f6 : ∀ Z : Later wb, Z.now.cell? ⟨W.heap.size + 1, 6, none⟩ = some (.slice p.aL p.e.L.length p.cL) := fun Z => cell_of_row Z.now _ 6 _ _ _ (JB.out.later Z.since).row1
                  have f7 : ∀ Z : Later wb, Z.now.cell? ⟨W.heap.size + 1, 7, none⟩ = some (.slice p.aK p.e.K.len p.cK) := fun Z => cell_of_row Z.now _ 7 _ _ _ (JB.out.later Z.since).row1
                  have HA1 : Kpt (∀ Z : Later wb, Calls Tryz.prog 25 #[.agg #[.int .i64 y.e.k, .string y.e.m, .string y.e.n, .string y.e.tx, .int .i64 y.e.num, .slice y.aT y.e.T.len y.cT, .slice y.aL y.e.L.length y.cL, .slice y.aK y.e.K.len y.cK]] Z.now fun e w'' => e = .returned (.int .i64 0) ∧ ∃ Y : Later wb, w'' = Y.now) := hid fun Z => by rw [← hcy]; exact Calls.later_of (HCX.out y (by omega) Z.now (JB.out.later Z.since).below)
                  have HA2 : Kpt (∀ Z : Later wb, Calls Tryz.prog 19 #[.agg #[.int .i64 y.e.k, .string y.e.m, .string y.e.n, .string y.e.tx, .int .i64 y.e.num, .slice y.aT y.e.T.len y.cT, .slice y.aL y.e.L.length y.cL, .slice y.aK y.e.K.len y.cK]] Z.now fun e w'' => e = .returned (.int .i64 (y.e.size : Int)) ∧ ∃ Y : Later wb, w'' = Y.now) := hid fun Z => Calls.later_of (HXS.out y (by omega) Z.now (JB.out.later Z.since).below)
                  have HA3 : Kpt (∀ Z : Later wb, Calls Tryz.prog 19 #[.agg #[.int .i64 p.e.k, .string p.e.m, .string p.e.n, .string p.e.tx, .int .i64 p.e.num, .slice p.aT p.e.T.len p.cT, .slice p.aL p.e.L.length p.cL, .slice p.aK p.e.K.len p.cK]] Z.now fun e w'' => e = .returned (.int .i64 (p.e.size : Int)) ∧ ∃ Y : Later wb, w'' = Y.now) := hid fun Z => Calls.later_of (HXS.out p HH.out.2 Z.now (JB.out.later Z.since).below)
                  rw [hak]
                  clear hy0 hym hcy hyb hpb hbw hbb heb hak
                  go_wp2_with fail
                  refine wp_region_later (by kernel_rfl) (by kernel_rfl) ?_
                  repeat (go_big_quiet_step (first | (go_at_call 25; with_reducible exact HA1.out _) | (go_at_call 19; first | with_reducible exact HA2.out _ | with_reducible exact HA3.out _)))
                  refine wpQuiet_nil ?_
                  intro _ hw'
                  obtain ⟨Z, hZ⟩ := hw'
                  subst hZ
                  have JZ := hid (JB.out.later Z.since)
                  clear e0 e1 e2 e3 e4 e5 e6 e7 f0 f1 f2 f3 f4 f5 f6 f7 d0 d1 d2 d3 d4 d5 d6 d7 hwb
                  go_wp2_with fail
                  go_roundw
                  case rel => exact ⟨i + 1, by go_num, by omega, JZ.out⟩
                  case measure => simp [intOf]; omega
                · go_wp2_with fail
                  go_ret
                  exact ⟨rfl, JR.out.below⟩
            · have hcx2 : (chkX p.e == 0) = false := by simp [hcx]
              go_wp2_with fail
              go_ret
              exact ⟨rfl, J1.out.below⟩
      · have hct2 : (chkT t.t == 0) = false := by simp [hct]
        have c10 := cell_of_row w6 _ 0 _ _ _ H6.out.row1
        have c11 := cell_of_row w6 _ 1 _ _ _ H6.out.row1
        have c12 := cell_of_row w6 _ 2 _ _ _ H6.out.row1
        have c13 := cell_of_row w6 _ 3 _ _ _ H6.out.row1
        have c14 := cell_of_row w6 _ 4 _ _ _ H6.out.row1
        have c15 := cell_of_row w6 _ 5 _ _ _ H6.out.row1
        have c16 := cell_of_row w6 _ 6 _ _ _ H6.out.row1
        have c17 := cell_of_row w6 _ 7 _ _ _ H6.out.row1
        have HC1 := hid (HCX.out p HH.out.2 w6 H6.out.below)
        go_wp2_with fail
        refine HC1.out.mono ?_
        rintro e v1 ⟨rfl, hbv⟩
        have J1 := hid (H6.out.later hbv)
        clear HC1 hbv c10 c11 c12 c13 c14 c15 c16 c17
        by_cases hcx : chkX p.e = 0
        · have c17 := cell_of_row v1 _ 7 _ _ _ J1.out.row1
          rw [hcx]
          go_wp2_with fail
          go_loopw [56] (fun a wr => ∃ i : Nat, a = .int .i64 (i : Int) ∧ i ≤ p.e.K.len ∧ Bx2 W t p wr) (fun a _ => p.e.K.len - (intOf a).toNat)
          case atStart => exact ⟨0, rfl, Nat.zero_le _, J1.out⟩
          case round =>
            obtain ⟨i, rfl, hi9, hJ⟩ := hrel
            have JR := hid hJ
            clear hJ
            by_cases hlt : i < p.e.K.len
            · obtain ⟨bk, ok, y, hak, hy0, d0, d1, d2, d3, d4, d5, d6, d7⟩ := lies_xp0 p.hK hlt
              have hbw := JR.out.below
              replace d0 := old_cell hbw d0
              replace d1 := old_cell hbw d1
              replace d2 := old_cell hbw d2
              replace d3 := old_cell hbw d3
              replace d4 := old_cell hbw d4
              replace d5 := old_cell hbw d5
              replace d6 := old_cell hbw d6
              replace d7 := old_cell hbw d7
              have hym : y.e ∈ p.e.kids := List.mem_of_getElem? hy0
              obtain ⟨hcy, hsy⟩ := chkX_kid hcx hym
              have hyb := Xp.kid_bk hym
              have hpb := HH.out.2
              obtain ⟨wb, hwb⟩ : ∃ wb, wr.alloc (.cells #[.int .i64 y.e.k, .string y.e.m, .string y.e.n, .string y.e.tx, .int .i64 y.e.num, .slice y.aT y.e.T.len y.cT, .slice y.aL y.e.L.length y.cL, .slice y.aK y.e.K.len y.cK] 29) = wb := ⟨_, rfl⟩
              have hbb : Below wr.heap.size wr wb := by rw [← hwb]; exact (Below.refl _ wr).alloc (Nat.le_refl _) _
              have heb : wb.heap[wr.heap.size]? = some (.cells #[.int .i64 y.e.k, .string y.e.m, .string y.e.n, .string y.e.tx, .int .i64 y.e.num, .slice y.aT y.e.T.len y.cT, .slice y.aL y.e.L.length y.cL, .slice y.aK y.e.K.len y.cK] 29 (0, 0)) := by rw [← hwb]; exact World.alloc_heap_new _ _
              have hslt : wr.heap.size < wb.heap.size := by rw [← hwb]; simp
              have JB := hid (JR.out.later hbb)
              have e0 : ∀ Z : Later wb, Z.now.cell? ⟨wr.heap.size, 0, none⟩ = some (.int .i64 y.e.k) := fun Z => cell_of_row Z.now _ 0 _ _ _ ((Z.since.block _ hslt).trans heb)
              have e1 : ∀ Z : Later wb, Z.now.cell? ⟨wr.heap.size, 1, none⟩ = some (.string y.e.m) := fun Z => cell_of_row Z.now _ 1 _ _ _ ((Z.since.block _ hslt).trans heb)
              have e2 : ∀ Z : Later wb, Z.now.cell? ⟨wr.heap.size, 2, none⟩ = some (.string y.e.n) := fun Z => cell_of_row Z.now _ 2 _ _ _ ((Z.since.block _ hslt).trans heb)
              have e3 : ∀ Z : Later wb, Z.now.cell? ⟨wr.heap.size, 3, none⟩ = some (.string y.e.tx) := fun Z => cell_of_row Z.now _ 3 _ _ _ ((Z.since.block _ hslt).trans heb)
              have e4 : ∀ Z : Later wb, Z.now.cell? ⟨wr.heap.size, 4, none⟩ = some (.int .i64 y.e.num) := fun Z => cell_of_row Z.now _ 4 _ _ _ ((Z.since.block _ hslt).trans heb)
              have e5 : ∀ Z : Later wb, Z.now.cell? ⟨wr.heap.size, 5, none⟩ = some (.slice y.aT y.e.T.len y.cT) := fun Z => cell_of_row Z.now _ 5 _ _ _ ((Z.since.block _ hslt).trans heb)
              have e6 : ∀ Z : Later wb, Z.now.cell? ⟨wr.heap.size, 6, none⟩ = some (.slice y.aL y.e.L.length y.cL) := fun Z => cell_of_row Z.now _ 6 _ _ _ ((Z.since.block _ hslt).trans heb)
              have e7 : ∀ Z : Later wb, Z.now.cell? ⟨wr.heap.size, 7, none⟩ = some (.slice y.aK y.e.K.len y.cK) := fun Z => cell_of_row Z.now _ 7 _ _ _ ((Z.since.block _ hslt).trans heb)
              have f0 : ∀ Z : Later wb, Z.now.cell? ⟨W.heap.size + 1, 0, none⟩ = some (.int .i64 p.e.k) := fun Z => cell_of_row Z.now _ 0 _ _ _ (JB.out.later Z.since).row1
              have f1 : ∀ Z : Later wb, Z.now.cell? ⟨W.heap.size + 1, 1, none⟩ = some (.string p.e.m) := fun Z => cell_of_row Z.now _ 1 _ _ _ (JB.out.later Z.since).row1
              have f2 : ∀ Z : Later wb, Z.now.cell? ⟨W.heap.size + 1, 2, none⟩ = some (.string p.e.n) := fun Z => cell_of_row Z.now _ 2 _ _ _ (JB.out.later Z.since).row1
              have f3 : ∀ Z : Later wb, Z.now.cell? ⟨W.heap.size + 1, 3, none⟩ = some (.string p.e.tx) := fun Z => cell_of_row Z.now _ 3 _ _ _ (JB.out.later Z.since).row1
              have f4 : ∀ Z : Later wb, Z.now.cell? ⟨W.heap.size + 1, 4, none⟩ = some (.int .i64 p.e.num) := fun Z => cell_of_row Z.now _ 4 _ _ _ (JB.out.later Z.since).row1
              have f5 : ∀ Z : Later wb, Z.now.cell? ⟨W.heap.size + 1, 5, none⟩ = some (.slice p.aT p.e.T.len p.cT) := fun Z => cell_of_row Z.now _ 5 _ _ _ (JB.out.later Z.since).row1
              have f6 : ∀ Z : Later wb, Z.now.cell? ⟨W.heap.size + 1, 6, none⟩ = some (.slice p.aL p.e.L.length p.cL) := fun Z => cell_of_row Z.now _ 6 _ _ _ (JB.out.later Z.since).row1
              have f7 : ∀ Z : Later wb, Z.now.cell? ⟨W.heap.size + 1, 7, none⟩ = some (.slice p.aK p.e.K.len p.cK) := fun Z => cell_of_row Z.now _ 7 _ _ _ (JB.out.later Z.since).row1
              have HA1 : Kpt (∀ Z : Later wb, Calls Tryz.prog 25 #[.agg #[.int .i64 y.e.k, .string y.e.m, .string y.e.n, .string y.e.tx, .int .i64 y.e.num, .slice y.aT y.e.T.len y.cT, .slice y.aL y.e.L.length y.cL, .slice y.aK y.e.K.len y.cK]] Z.now fun e w'' => e = .returned (.int .i64 0) ∧ ∃ Y : Later wb, w'' = Y.now) := hid fun Z => by rw [← hcy]; exact Calls.later_of (HCX.out y (by omega) Z.now (JB.out.later Z.since).below)
              have HA2 : Kpt (∀ Z : Later wb, Calls Tryz.prog 19 #[.agg #[.int .i64 y.e.k, .string y.e.m, .string y.e.n, .string y.e.tx, .int .i64 y.e.num, .slice y.aT y.e.T.len y.cT, .slice y.aL y.e.L.length y.cL, .slice y.aK y.e.K.len y.cK]] Z.now fun e w'' => e = .returned (.int .i64 (y.e.size : Int)) ∧ ∃ Y : Later wb, w'' = Y.now) := hid fun Z => Calls.later_of (HXS.out y (by omega) Z.now (JB.out.later Z.since).below)
              have HA3 : Kpt (∀ Z : Later wb, Calls Tryz.prog 19 #[.agg #[.int .i64 p.e.k, .string p.e.m, .string p.e.n, .string p.e.tx, .int .i64 p.e.num, .slice p.aT p.e.T.len p.cT, .slice p.aL p.e.L.length p.cL, .slice p.aK p.e.K.len p.cK]] Z.now fun e w'' => e = .returned (.int .i64 (p.e.size : Int)) ∧ ∃ Y : Later wb, w'' = Y.now) := hid fun Z => Calls.later_of (HXS.out p HH.out.2 Z.now (JB.out.later Z.since).below)
              rw [hak]
              clear hy0 hym hcy hyb hpb hbw hbb heb hak
              go_wp2_with fail
              refine wp_region_later (by kernel_rfl) (by kernel_rfl) ?_
              repeat (go_big_quiet_step (first | (go_at_call 25; with_reducible exact HA1.out _) | (go_at_call 19; first | with_reducible exact HA2.out _ | with_reducible exact HA3.out _)))
              refine wpQuiet_nil ?_
              intro _ hw'
              obtain ⟨Z, hZ⟩ := hw'
              subst hZ
              have JZ := hid (JB.out.later Z.since)
              clear e0 e1 e2 e3 e4 e5 e6 e7 f0 f1 f2 f3 f4 f5 f6 f7 d0 d1 d2 d3 d4 d5 d6 d7 hwb
              go_wp2_with fail
              go_roundw
              case rel => exact ⟨i + 1, by go_num, by omega, JZ.out⟩
              case measure => simp [intOf]; omega
            · go_wp2_with fail
              go_ret
              exact ⟨rfl, JR.out.below⟩
        · have hcx2 : (chkX p.e == 0) = false := by simp [hcx]
          go_wp2_with fail
          go_ret
          exact ⟨rfl, J1.out.below⟩
end Go.Proofs.YtnkhebgjhipepaaGreatDoor
