/- syntax: what SyntaxEquality does. -/
import Derived.Test.YtnkhebgjhipepaaGreatDoorMk
import Derived.Test.YtnkhebgjhipepaaGreatDoorRzM
import Derived.Test.YtnkhebgjhipepaaGreatDoorSyA4
import Derived.Test.YtnkhebgjhipepaaGreatDoorOa
namespace Go.Proofs.YtnkhebgjhipepaaGreatDoor
open Go.RowKit Go.Shelf

attribute [local go_sem] Oper.semAt_some
theorem Lb.eq_comm (x y : Lb) : x.eq y = y.eq x := by
 simp only [Lb.eq]
 rw [dec_comm x.nm, dec_comm x.vr, Bool.beq_comm, Ty.eq_comm]
theorem Ex.eq_comm (T : Ex) : ∀ U : Ex, T.eq U = U.eq T := by
 induction T with
 | nil => intro U; cases U <;> rfl
 | node k m n tx num T L K nx hk hn =>
  intro U
  cases U with
  | nil => rfl
  | node k' m' n' tx' num' T' L' K' nx' =>
   simp only [Ex.eq]
   rw [dec_comm k, dec_comm m, dec_comm n, dec_comm tx, dec_comm num, Tr.eq_comm T, allEq_comm Lb.eq_comm L, hk, hn]
theorem Xp.eq_comm (e f : Xp) : e.eq f = f.eq e := by
 simp only [Xp.eq]
 rw [dec_comm e.k, dec_comm e.m, dec_comm e.n, dec_comm e.tx, dec_comm e.num, Tr.eq_comm e.T, allEq_comm Lb.eq_comm e.L, Ex.eq_comm e.K]
theorem Pm.eq_comm (x y : Pm) : x.eq y = y.eq x := by
 simp only [Pm.eq]
 rw [dec_comm x.nm, dec_comm x.vr, Ty.eq_comm]
theorem Im.eq_comm (x y : Im) : x.eq y = y.eq x := by
 simp only [Im.eq]
 rw [dec_comm x.p, dec_comm x.a]
theorem Dc.eq_comm (x y : Dc) : x.eq y = y.eq x := by
 simp only [Dc.eq]
 rw [dec_comm x.k, dec_comm x.nm, Bool.beq_comm (a := x.ex), Bool.beq_comm (a := x.dp), dec_comm x.note, dec_comm x.m, dec_comm x.tg, allEq_comm Pm.eq_comm x.P, Ty.eq_comm x.lo, Ty.eq_comm x.up, Ty.eq_comm x.t, Xp.eq_comm x.e]
theorem Md.eq_comm (x y : Md) : x.eq y = y.eq x := by
 simp only [Md.eq]
 rw [dec_comm x.p, allEq_comm Im.eq_comm x.I, allEq_comm Dc.eq_comm x.D]
def chkM (m : Md) : Int × Int := if chkH m ≠ 0 then (-1, chkH m) else decF 0 [] m.D
theorem checkmodule_any {w0 : World} (x : MdI w0) (hbig : x.m.bk ≤ 1099511627776) (W : World) (hW : Below w0.heap.size w0 W) (hE : Env W) :
 Calls Tryz.prog 21 #[.agg #[.string x.m.p, .slice x.aI x.m.I.length x.cI, .slice x.aD x.m.D.length x.cD]] W fun e W' => e = .returned (.tuple #[.int .i64 (chkM x.m).1, .int .i64 (chkM x.m).2]) ∧ Below W.heap.size W W' :=
 checkmodule_of x (chkH x.m) hbig W hW hE (fun w hb => checkhead_any x hbig w (hW.trans (hb.mono hW.size)) (hE.below hb))
/-- The boxes of the law. -/
structure By6 (W : World) (t u : TyI W) (p q : XpI W) (m n : MdI W) (w : World) : Prop where
 below : Below W.heap.size W w
 row0 : w.heap[W.heap.size]? = some (.cells #[.int .i64 t.t.k, .string t.t.m, .string t.t.n, .slice t.aa t.t.A.len t.ca, .slice t.af t.t.F.len t.cf] 25 (0, 0))
 row1 : w.heap[W.heap.size + 1]? = some (.cells #[.int .i64 u.t.k, .string u.t.m, .string u.t.n, .slice u.aa u.t.A.len u.ca, .slice u.af u.t.F.len u.cf] 25 (0, 0))
 row2 : w.heap[W.heap.size + 1 + 1]? = some (.cells #[.int .i64 p.e.k, .string p.e.m, .string p.e.n, .string p.e.tx, .int .i64 p.e.num, .slice p.aT p.e.T.len p.cT, .slice p.aL p.e.L.length p.cL, .slice p.aK p.e.K.len p.cK] 29 (0, 0))
 row3 : w.heap[W.heap.size + 1 + 1 + 1]? = some (.cells #[.int .i64 q.e.k, .string q.e.m, .string q.e.n, .string q.e.tx, .int .i64 q.e.num, .slice q.aT q.e.T.len q.cT, .slice q.aL q.e.L.length q.cL, .slice q.aK q.e.K.len q.cK] 29 (0, 0))
 row4 : w.heap[W.heap.size + 1 + 1 + 1 + 1]? = some (.cells #[.string m.m.p, .slice m.aI m.m.I.length m.cI, .slice m.aD m.m.D.length m.cD] 33 (0, 0))
 row5 : w.heap[W.heap.size + 1 + 1 + 1 + 1 + 1]? = some (.cells #[.string n.m.p, .slice n.aI n.m.I.length n.cI, .slice n.aD n.m.D.length n.cD] 33 (0, 0))
theorem By6.later {W : World} {t u : TyI W} {p q : XpI W} {m n : MdI W} {w w' : World} (h : By6 W t u p q m n w) (hb : Below w.heap.size w w') : By6 W t u p q m n w' :=
 ⟨h.below.trans (hb.mono h.below.size), (hb.block _ (Array.getElem?_eq_some_iff.1 h.row0).1).trans h.row0, (hb.block _ (Array.getElem?_eq_some_iff.1 h.row1).1).trans h.row1, (hb.block _ (Array.getElem?_eq_some_iff.1 h.row2).1).trans h.row2, (hb.block _ (Array.getElem?_eq_some_iff.1 h.row3).1).trans h.row3, (hb.block _ (Array.getElem?_eq_some_iff.1 h.row4).1).trans h.row4, (hb.block _ (Array.getElem?_eq_some_iff.1 h.row5).1).trans h.row5⟩
theorem By6.cells0 {W : World} {t u : TyI W} {p q : XpI W} {m n : MdI W} {w : World} (h : By6 W t u p q m n w) : w.cell? ⟨W.heap.size, 0, none⟩ = some (.int .i64 t.t.k) ∧ w.cell? ⟨W.heap.size, 1, none⟩ = some (.string t.t.m) ∧ w.cell? ⟨W.heap.size, 2, none⟩ = some (.string t.t.n) ∧ w.cell? ⟨W.heap.size, 3, none⟩ = some (.slice t.aa t.t.A.len t.ca) ∧ w.cell? ⟨W.heap.size, 4, none⟩ = some (.slice t.af t.t.F.len t.cf) := ⟨cell_of_row w _ 0 _ _ _ h.row0, cell_of_row w _ 1 _ _ _ h.row0, cell_of_row w _ 2 _ _ _ h.row0, cell_of_row w _ 3 _ _ _ h.row0, cell_of_row w _ 4 _ _ _ h.row0⟩
theorem By6.cells1 {W : World} {t u : TyI W} {p q : XpI W} {m n : MdI W} {w : World} (h : By6 W t u p q m n w) : w.cell? ⟨W.heap.size + 1, 0, none⟩ = some (.int .i64 u.t.k) ∧ w.cell? ⟨W.heap.size + 1, 1, none⟩ = some (.string u.t.m) ∧ w.cell? ⟨W.heap.size + 1, 2, none⟩ = some (.string u.t.n) ∧ w.cell? ⟨W.heap.size + 1, 3, none⟩ = some (.slice u.aa u.t.A.len u.ca) ∧ w.cell? ⟨W.heap.size + 1, 4, none⟩ = some (.slice u.af u.t.F.len u.cf) := ⟨cell_of_row w _ 0 _ _ _ h.row1, cell_of_row w _ 1 _ _ _ h.row1, cell_of_row w _ 2 _ _ _ h.row1, cell_of_row w _ 3 _ _ _ h.row1, cell_of_row w _ 4 _ _ _ h.row1⟩
theorem By6.cells2 {W : World} {t u : TyI W} {p q : XpI W} {m n : MdI W} {w : World} (h : By6 W t u p q m n w) : w.cell? ⟨W.heap.size + 1 + 1, 0, none⟩ = some (.int .i64 p.e.k) ∧ w.cell? ⟨W.heap.size + 1 + 1, 1, none⟩ = some (.string p.e.m) ∧ w.cell? ⟨W.heap.size + 1 + 1, 2, none⟩ = some (.string p.e.n) ∧ w.cell? ⟨W.heap.size + 1 + 1, 3, none⟩ = some (.string p.e.tx) ∧ w.cell? ⟨W.heap.size + 1 + 1, 4, none⟩ = some (.int .i64 p.e.num) ∧ w.cell? ⟨W.heap.size + 1 + 1, 5, none⟩ = some (.slice p.aT p.e.T.len p.cT) ∧ w.cell? ⟨W.heap.size + 1 + 1, 6, none⟩ = some (.slice p.aL p.e.L.length p.cL) ∧ w.cell? ⟨W.heap.size + 1 + 1, 7, none⟩ = some (.slice p.aK p.e.K.len p.cK) := ⟨cell_of_row w _ 0 _ _ _ h.row2, cell_of_row w _ 1 _ _ _ h.row2, cell_of_row w _ 2 _ _ _ h.row2, cell_of_row w _ 3 _ _ _ h.row2, cell_of_row w _ 4 _ _ _ h.row2, cell_of_row w _ 5 _ _ _ h.row2, cell_of_row w _ 6 _ _ _ h.row2, cell_of_row w _ 7 _ _ _ h.row2⟩
theorem By6.cells3 {W : World} {t u : TyI W} {p q : XpI W} {m n : MdI W} {w : World} (h : By6 W t u p q m n w) : w.cell? ⟨W.heap.size + 1 + 1 + 1, 0, none⟩ = some (.int .i64 q.e.k) ∧ w.cell? ⟨W.heap.size + 1 + 1 + 1, 1, none⟩ = some (.string q.e.m) ∧ w.cell? ⟨W.heap.size + 1 + 1 + 1, 2, none⟩ = some (.string q.e.n) ∧ w.cell? ⟨W.heap.size + 1 + 1 + 1, 3, none⟩ = some (.string q.e.tx) ∧ w.cell? ⟨W.heap.size + 1 + 1 + 1, 4, none⟩ = some (.int .i64 q.e.num) ∧ w.cell? ⟨W.heap.size + 1 + 1 + 1, 5, none⟩ = some (.slice q.aT q.e.T.len q.cT) ∧ w.cell? ⟨W.heap.size + 1 + 1 + 1, 6, none⟩ = some (.slice q.aL q.e.L.length q.cL) ∧ w.cell? ⟨W.heap.size + 1 + 1 + 1, 7, none⟩ = some (.slice q.aK q.e.K.len q.cK) := ⟨cell_of_row w _ 0 _ _ _ h.row3, cell_of_row w _ 1 _ _ _ h.row3, cell_of_row w _ 2 _ _ _ h.row3, cell_of_row w _ 3 _ _ _ h.row3, cell_of_row w _ 4 _ _ _ h.row3, cell_of_row w _ 5 _ _ _ h.row3, cell_of_row w _ 6 _ _ _ h.row3, cell_of_row w _ 7 _ _ _ h.row3⟩
theorem By6.cells4 {W : World} {t u : TyI W} {p q : XpI W} {m n : MdI W} {w : World} (h : By6 W t u p q m n w) : w.cell? ⟨W.heap.size + 1 + 1 + 1 + 1, 0, none⟩ = some (.string m.m.p) ∧ w.cell? ⟨W.heap.size + 1 + 1 + 1 + 1, 1, none⟩ = some (.slice m.aI m.m.I.length m.cI) ∧ w.cell? ⟨W.heap.size + 1 + 1 + 1 + 1, 2, none⟩ = some (.slice m.aD m.m.D.length m.cD) := ⟨cell_of_row w _ 0 _ _ _ h.row4, cell_of_row w _ 1 _ _ _ h.row4, cell_of_row w _ 2 _ _ _ h.row4⟩
theorem By6.cells5 {W : World} {t u : TyI W} {p q : XpI W} {m n : MdI W} {w : World} (h : By6 W t u p q m n w) : w.cell? ⟨W.heap.size + 1 + 1 + 1 + 1 + 1, 0, none⟩ = some (.string n.m.p) ∧ w.cell? ⟨W.heap.size + 1 + 1 + 1 + 1 + 1, 1, none⟩ = some (.slice n.aI n.m.I.length n.cI) ∧ w.cell? ⟨W.heap.size + 1 + 1 + 1 + 1 + 1, 2, none⟩ = some (.slice n.aD n.m.D.length n.cD) := ⟨cell_of_row w _ 0 _ _ _ h.row5, cell_of_row w _ 1 _ _ _ h.row5, cell_of_row w _ 2 _ _ _ h.row5⟩
theorem By6.all {W : World} {t u : TyI W} {p q : XpI W} {m n : MdI W} {w : World} (h : By6 W t u p q m n w) : (∀ X : Later w, X.now.cell? ⟨W.heap.size, 0, none⟩ = some (.int .i64 t.t.k)) ∧ (∀ X : Later w, X.now.cell? ⟨W.heap.size, 1, none⟩ = some (.string t.t.m)) ∧ (∀ X : Later w, X.now.cell? ⟨W.heap.size, 2, none⟩ = some (.string t.t.n)) ∧ (∀ X : Later w, X.now.cell? ⟨W.heap.size, 3, none⟩ = some (.slice t.aa t.t.A.len t.ca)) ∧ (∀ X : Later w, X.now.cell? ⟨W.heap.size, 4, none⟩ = some (.slice t.af t.t.F.len t.cf)) ∧ (∀ X : Later w, X.now.cell? ⟨W.heap.size + 1, 0, none⟩ = some (.int .i64 u.t.k)) ∧ (∀ X : Later w, X.now.cell? ⟨W.heap.size + 1, 1, none⟩ = some (.string u.t.m)) ∧ (∀ X : Later w, X.now.cell? ⟨W.heap.size + 1, 2, none⟩ = some (.string u.t.n)) ∧ (∀ X : Later w, X.now.cell? ⟨W.heap.size + 1, 3, none⟩ = some (.slice u.aa u.t.A.len u.ca)) ∧ (∀ X : Later w, X.now.cell? ⟨W.heap.size + 1, 4, none⟩ = some (.slice u.af u.t.F.len u.cf)) ∧ (∀ X : Later w, X.now.cell? ⟨W.heap.size + 1 + 1, 0, none⟩ = some (.int .i64 p.e.k)) ∧ (∀ X : Later w, X.now.cell? ⟨W.heap.size + 1 + 1, 1, none⟩ = some (.string p.e.m)) ∧ (∀ X : Later w, X.now.cell? ⟨W.heap.size + 1 + 1, 2, none⟩ = some (.string p.e.n)) ∧ (∀ X : Later w, X.now.cell? ⟨W.heap.size + 1 + 1, 3, none⟩ = some (.string p.e.tx)) ∧ (∀ X : Later w, X.now.cell? ⟨W.heap.size + 1 + 1, 4, none⟩ = some (.int .i64 p.e.num)) ∧ (∀ X : Later w, X.now.cell? ⟨W.heap.size + 1 + 1, 5, none⟩ = some (.slice p.aT p.e.T.len p.cT)) ∧ (∀ X : Later w, X.now.cell? ⟨W.heap.size + 1 + 1, 6, none⟩ = some (.slice p.aL p.e.L.length p.cL)) ∧ (∀ X : Later w, X.now.cell? ⟨W.heap.size + 1 + 1, 7, none⟩ = some (.slice p.aK p.e.K.len p.cK)) ∧ (∀ X : Later w, X.now.cell? ⟨W.heap.size + 1 + 1 + 1, 0, none⟩ = some (.int .i64 q.e.k)) ∧ (∀ X : Later w, X.now.cell? ⟨W.heap.size + 1 + 1 + 1, 1, none⟩ = some (.string q.e.m)) ∧ (∀ X : Later w, X.now.cell? ⟨W.heap.size + 1 + 1 + 1, 2, none⟩ = some (.string q.e.n)) ∧ (∀ X : Later w, X.now.cell? ⟨W.heap.size + 1 + 1 + 1, 3, none⟩ = some (.string q.e.tx)) ∧ (∀ X : Later w, X.now.cell? ⟨W.heap.size + 1 + 1 + 1, 4, none⟩ = some (.int .i64 q.e.num)) ∧ (∀ X : Later w, X.now.cell? ⟨W.heap.size + 1 + 1 + 1, 5, none⟩ = some (.slice q.aT q.e.T.len q.cT)) ∧ (∀ X : Later w, X.now.cell? ⟨W.heap.size + 1 + 1 + 1, 6, none⟩ = some (.slice q.aL q.e.L.length q.cL)) ∧ (∀ X : Later w, X.now.cell? ⟨W.heap.size + 1 + 1 + 1, 7, none⟩ = some (.slice q.aK q.e.K.len q.cK)) ∧ (∀ X : Later w, X.now.cell? ⟨W.heap.size + 1 + 1 + 1 + 1, 0, none⟩ = some (.string m.m.p)) ∧ (∀ X : Later w, X.now.cell? ⟨W.heap.size + 1 + 1 + 1 + 1, 1, none⟩ = some (.slice m.aI m.m.I.length m.cI)) ∧ (∀ X : Later w, X.now.cell? ⟨W.heap.size + 1 + 1 + 1 + 1, 2, none⟩ = some (.slice m.aD m.m.D.length m.cD)) ∧ (∀ X : Later w, X.now.cell? ⟨W.heap.size + 1 + 1 + 1 + 1 + 1, 0, none⟩ = some (.string n.m.p)) ∧ (∀ X : Later w, X.now.cell? ⟨W.heap.size + 1 + 1 + 1 + 1 + 1, 1, none⟩ = some (.slice n.aI n.m.I.length n.cI)) ∧ (∀ X : Later w, X.now.cell? ⟨W.heap.size + 1 + 1 + 1 + 1 + 1, 2, none⟩ = some (.slice n.aD n.m.D.length n.cD)) :=
 ⟨fun X => cell_of_row X.now _ 0 _ _ _ (h.later X.since).row0, fun X => cell_of_row X.now _ 1 _ _ _ (h.later X.since).row0, fun X => cell_of_row X.now _ 2 _ _ _ (h.later X.since).row0, fun X => cell_of_row X.now _ 3 _ _ _ (h.later X.since).row0, fun X => cell_of_row X.now _ 4 _ _ _ (h.later X.since).row0, fun X => cell_of_row X.now _ 0 _ _ _ (h.later X.since).row1, fun X => cell_of_row X.now _ 1 _ _ _ (h.later X.since).row1, fun X => cell_of_row X.now _ 2 _ _ _ (h.later X.since).row1, fun X => cell_of_row X.now _ 3 _ _ _ (h.later X.since).row1, fun X => cell_of_row X.now _ 4 _ _ _ (h.later X.since).row1, fun X => cell_of_row X.now _ 0 _ _ _ (h.later X.since).row2, fun X => cell_of_row X.now _ 1 _ _ _ (h.later X.since).row2, fun X => cell_of_row X.now _ 2 _ _ _ (h.later X.since).row2, fun X => cell_of_row X.now _ 3 _ _ _ (h.later X.since).row2, fun X => cell_of_row X.now _ 4 _ _ _ (h.later X.since).row2, fun X => cell_of_row X.now _ 5 _ _ _ (h.later X.since).row2, fun X => cell_of_row X.now _ 6 _ _ _ (h.later X.since).row2, fun X => cell_of_row X.now _ 7 _ _ _ (h.later X.since).row2, fun X => cell_of_row X.now _ 0 _ _ _ (h.later X.since).row3, fun X => cell_of_row X.now _ 1 _ _ _ (h.later X.since).row3, fun X => cell_of_row X.now _ 2 _ _ _ (h.later X.since).row3, fun X => cell_of_row X.now _ 3 _ _ _ (h.later X.since).row3, fun X => cell_of_row X.now _ 4 _ _ _ (h.later X.since).row3, fun X => cell_of_row X.now _ 5 _ _ _ (h.later X.since).row3, fun X => cell_of_row X.now _ 6 _ _ _ (h.later X.since).row3, fun X => cell_of_row X.now _ 7 _ _ _ (h.later X.since).row3, fun X => cell_of_row X.now _ 0 _ _ _ (h.later X.since).row4, fun X => cell_of_row X.now _ 1 _ _ _ (h.later X.since).row4, fun X => cell_of_row X.now _ 2 _ _ _ (h.later X.since).row4, fun X => cell_of_row X.now _ 0 _ _ _ (h.later X.since).row5, fun X => cell_of_row X.now _ 1 _ _ _ (h.later X.since).row5, fun X => cell_of_row X.now _ 2 _ _ _ (h.later X.since).row5⟩
set_option maxRecDepth 100000 in
set_option maxHeartbeats 8000000 in
theorem equality_law (W : World) (t u : TyI W) (p q : XpI W) (m n : MdI W) (hE : Env W) (d1 : t.t.db ≤ 1048576) (d2 : u.t.db ≤ 1048576) (h3 : p.e.bk ≤ 1048576) (h4 : q.e.bk ≤ 1048576) (h5 : m.m.bk ≤ 1048576) (h6 : n.m.bk ≤ 1048576) (ct : t.t.Can) (cu : u.t.Can) (cp : p.e.Can) (cq : q.e.Can) (cm : m.m.Can) (cn : n.m.Can) :
 Calls Tryz.prog 7 #[.agg #[.int .i64 t.t.k, .string t.t.m, .string t.t.n, .slice t.aa t.t.A.len t.ca, .slice t.af t.t.F.len t.cf], .agg #[.int .i64 u.t.k, .string u.t.m, .string u.t.n, .slice u.aa u.t.A.len u.ca, .slice u.af u.t.F.len u.cf], .agg #[.int .i64 p.e.k, .string p.e.m, .string p.e.n, .string p.e.tx, .int .i64 p.e.num, .slice p.aT p.e.T.len p.cT, .slice p.aL p.e.L.length p.cL, .slice p.aK p.e.K.len p.cK], .agg #[.int .i64 q.e.k, .string q.e.m, .string q.e.n, .string q.e.tx, .int .i64 q.e.num, .slice q.aT q.e.T.len q.cT, .slice q.aL q.e.L.length q.cL, .slice q.aK q.e.K.len q.cK], .agg #[.string m.m.p, .slice m.aI m.m.I.length m.cI, .slice m.aD m.m.D.length m.cD], .agg #[.string n.m.p, .slice n.aI n.m.I.length n.cI, .slice n.aD n.m.D.length n.cD]] W fun e W' => e = .returned (.bool true) ∧ Below W.heap.size W W' := by
 have HS := hid (six_rows (w := W) (.cells #[.int .i64 t.t.k, .string t.t.m, .string t.t.n, .slice t.aa t.t.A.len t.ca, .slice t.af t.t.F.len t.cf] 25) (.cells #[.int .i64 u.t.k, .string u.t.m, .string u.t.n, .slice u.aa u.t.A.len u.ca, .slice u.af u.t.F.len u.cf] 25) (.cells #[.int .i64 p.e.k, .string p.e.m, .string p.e.n, .string p.e.tx, .int .i64 p.e.num, .slice p.aT p.e.T.len p.cT, .slice p.aL p.e.L.length p.cL, .slice p.aK p.e.K.len p.cK] 29) (.cells #[.int .i64 q.e.k, .string q.e.m, .string q.e.n, .string q.e.tx, .int .i64 q.e.num, .slice q.aT q.e.T.len q.cT, .slice q.aL q.e.L.length q.cL, .slice q.aK q.e.K.len q.cK] 29) (.cells #[.string m.m.p, .slice m.aI m.m.I.length m.cI, .slice m.aD m.m.D.length m.cD] 33) (.cells #[.string n.m.p, .slice n.aI n.m.I.length n.cI, .slice n.aD n.m.D.length n.cD] 33))
 obtain ⟨wa, hwa⟩ : ∃ wa, ((((((W.alloc (.cells #[.int .i64 t.t.k, .string t.t.m, .string t.t.n, .slice t.aa t.t.A.len t.ca, .slice t.af t.t.F.len t.cf] 25)).alloc (.cells #[.int .i64 u.t.k, .string u.t.m, .string u.t.n, .slice u.aa u.t.A.len u.ca, .slice u.af u.t.F.len u.cf] 25)).alloc (.cells #[.int .i64 p.e.k, .string p.e.m, .string p.e.n, .string p.e.tx, .int .i64 p.e.num, .slice p.aT p.e.T.len p.cT, .slice p.aL p.e.L.length p.cL, .slice p.aK p.e.K.len p.cK] 29)).alloc (.cells #[.int .i64 q.e.k, .string q.e.m, .string q.e.n, .string q.e.tx, .int .i64 q.e.num, .slice q.aT q.e.T.len q.cT, .slice q.aL q.e.L.length q.cL, .slice q.aK q.e.K.len q.cK] 29)).alloc (.cells #[.string m.m.p, .slice m.aI m.m.I.length m.cI, .slice m.aD m.m.D.length m.cD] 33)).alloc (.cells #[.string n.m.p, .slice n.aI n.m.I.length n.cI, .slice n.aD n.m.D.length n.cD] 33)) = wa := ⟨_, rfl⟩
 rw [hwa] at HS
 have HA : Kpt (By6 W t u p q m n wa) := hid ⟨HS.out.1, HS.out.2.1, HS.out.2.2.1, HS.out.2.2.2.1, HS.out.2.2.2.2.1, HS.out.2.2.2.2.2.1, HS.out.2.2.2.2.2.2⟩
 have HAW := hid (awakeS_any wa (hE.below HA.out.below))
 have hes := p.e.size_bk
 have hfs := q.e.size_bk
 have hms := m.m.size_bk
 have hns := n.m.size_bk
 have h1 : t.t.size ≤ 1048576 := by have := t.t.size_db; omega
 have h2 : u.t.size ≤ 1048576 := by have := u.t.size_db; omega
 have HTT : Kpt (∀ W' : World, Below W.heap.size W W' → Calls Tryz.prog 27 #[.agg #[.int .i64 t.t.k, .string t.t.m, .string t.t.n, .slice t.aa t.t.A.len t.ca, .slice t.af t.t.F.len t.cf], .agg #[.int .i64 t.t.k, .string t.t.m, .string t.t.n, .slice t.aa t.t.A.len t.ca, .slice t.af t.t.F.len t.cf]] W' fun e W'' => e = .returned (.bool true) ∧ Below W'.heap.size W' W'') := hid (fun W' hW' => by rw [← t.t.eq_refl]; exact eq_all W _ (by omega) t t (Nat.le_refl _) W' hW')
 have HTE : Kpt (∀ W' : World, Below W.heap.size W W' → Calls Tryz.prog 27 #[.agg #[.int .i64 t.t.k, .string t.t.m, .string t.t.n, .slice t.aa t.t.A.len t.ca, .slice t.af t.t.F.len t.cf], .agg #[.int .i64 u.t.k, .string u.t.m, .string u.t.n, .slice u.aa u.t.A.len u.ca, .slice u.af u.t.F.len u.cf]] W' fun e W'' => e = .returned (.bool (t.t.eq u.t)) ∧ Below W'.heap.size W' W'') := hid (fun W' hW' => eq_all W _ (by omega) t u (Nat.le_refl _) W' hW')
 have HUE : Kpt (∀ W' : World, Below W.heap.size W W' → Calls Tryz.prog 27 #[.agg #[.int .i64 u.t.k, .string u.t.m, .string u.t.n, .slice u.aa u.t.A.len u.ca, .slice u.af u.t.F.len u.cf], .agg #[.int .i64 t.t.k, .string t.t.m, .string t.t.n, .slice t.aa t.t.A.len t.ca, .slice t.af t.t.F.len t.cf]] W' fun e W'' => e = .returned (.bool (t.t.eq u.t)) ∧ Below W'.heap.size W' W'') := hid (fun W' hW' => by rw [Ty.eq_comm]; exact eq_all W _ (by omega) u t (Nat.le_refl _) W' hW')
 have HXX : Kpt (∀ W' : World, Below W.heap.size W W' → Calls Tryz.prog 29 #[.agg #[.int .i64 p.e.k, .string p.e.m, .string p.e.n, .string p.e.tx, .int .i64 p.e.num, .slice p.aT p.e.T.len p.cT, .slice p.aL p.e.L.length p.cL, .slice p.aK p.e.K.len p.cK], .agg #[.int .i64 p.e.k, .string p.e.m, .string p.e.n, .string p.e.tx, .int .i64 p.e.num, .slice p.aT p.e.T.len p.cT, .slice p.aL p.e.L.length p.cL, .slice p.aK p.e.K.len p.cK]] W' fun e W'' => e = .returned (.bool true) ∧ Below W'.heap.size W' W'') := hid (fun W' hW' => by rw [← p.e.eq_refl]; exact xp_all W _ (Nat.le_refl 1099511627776) p p (by omega) W' hW')
 have HXE : Kpt (∀ W' : World, Below W.heap.size W W' → Calls Tryz.prog 29 #[.agg #[.int .i64 p.e.k, .string p.e.m, .string p.e.n, .string p.e.tx, .int .i64 p.e.num, .slice p.aT p.e.T.len p.cT, .slice p.aL p.e.L.length p.cL, .slice p.aK p.e.K.len p.cK], .agg #[.int .i64 q.e.k, .string q.e.m, .string q.e.n, .string q.e.tx, .int .i64 q.e.num, .slice q.aT q.e.T.len q.cT, .slice q.aL q.e.L.length q.cL, .slice q.aK q.e.K.len q.cK]] W' fun e W'' => e = .returned (.bool (p.e.eq q.e)) ∧ Below W'.heap.size W' W'') := hid (fun W' hW' => xp_all W _ (Nat.le_refl 1099511627776) p q (by omega) W' hW')
 have HQE : Kpt (∀ W' : World, Below W.heap.size W W' → Calls Tryz.prog 29 #[.agg #[.int .i64 q.e.k, .string q.e.m, .string q.e.n, .string q.e.tx, .int .i64 q.e.num, .slice q.aT q.e.T.len q.cT, .slice q.aL q.e.L.length q.cL, .slice q.aK q.e.K.len q.cK], .agg #[.int .i64 p.e.k, .string p.e.m, .string p.e.n, .string p.e.tx, .int .i64 p.e.num, .slice p.aT p.e.T.len p.cT, .slice p.aL p.e.L.length p.cL, .slice p.aK p.e.K.len p.cK]] W' fun e W'' => e = .returned (.bool (p.e.eq q.e)) ∧ Below W'.heap.size W' W'') := hid (fun W' hW' => by rw [Xp.eq_comm]; exact xp_all W _ (Nat.le_refl 1099511627776) q p (by omega) W' hW')
 have HMM : Kpt (∀ W' : World, Below W.heap.size W W' → Calls Tryz.prog 31 #[.agg #[.string m.m.p, .slice m.aI m.m.I.length m.cI, .slice m.aD m.m.D.length m.cD], .agg #[.string m.m.p, .slice m.aI m.m.I.length m.cI, .slice m.aD m.m.D.length m.cD]] W' fun e W'' => e = .returned (.bool true) ∧ Below W'.heap.size W' W'') := hid (fun W' hW' => by rw [← m.m.eq_refl]; exact md_all W m m (by omega) W' hW')
 have HME : Kpt (∀ W' : World, Below W.heap.size W W' → Calls Tryz.prog 31 #[.agg #[.string m.m.p, .slice m.aI m.m.I.length m.cI, .slice m.aD m.m.D.length m.cD], .agg #[.string n.m.p, .slice n.aI n.m.I.length n.cI, .slice n.aD n.m.D.length n.cD]] W' fun e W'' => e = .returned (.bool (m.m.eq n.m)) ∧ Below W'.heap.size W' W'') := hid (fun W' hW' => md_all W m n (by omega) W' hW')
 have HNE : Kpt (∀ W' : World, Below W.heap.size W W' → Calls Tryz.prog 31 #[.agg #[.string n.m.p, .slice n.aI n.m.I.length n.cI, .slice n.aD n.m.D.length n.cD], .agg #[.string m.m.p, .slice m.aI m.m.I.length m.cI, .slice m.aD m.m.D.length m.cD]] W' fun e W'' => e = .returned (.bool (m.m.eq n.m)) ∧ Below W'.heap.size W' W'') := hid (fun W' hW' => by rw [Md.eq_comm]; exact md_all W n m (by omega) W' hW')
 have HST : Kpt (∀ W' : World, Below W.heap.size W W' → Calls Tryz.prog 15 #[.agg #[.int .i64 t.t.k, .string t.t.m, .string t.t.n, .slice t.aa t.t.A.len t.ca, .slice t.af t.t.F.len t.cf]] W' fun e W'' => e = .returned (.int .i64 (t.t.size : Int)) ∧ Below W'.heap.size W' W'') := hid (fun W' hW' => typeSize_any (TyV_below t.tyV hW') (by omega))
 have HCT : Kpt (∀ W' : World, Below W.heap.size W W' → Calls Tryz.prog 23 #[.agg #[.int .i64 t.t.k, .string t.t.m, .string t.t.n, .slice t.aa t.t.A.len t.ca, .slice t.af t.t.F.len t.cf]] W' fun e W'' => e = .returned (.int .i64 (chkT t.t)) ∧ Below W'.heap.size W' W'') := hid (fun W' hW' => checktype_any t.t t.v W' (TyV_below t.tyV hW') (by omega) (t.t.sh_nodes (by omega)) (hE.below hW'))
 have HSU : Kpt (∀ W' : World, Below W.heap.size W W' → Calls Tryz.prog 15 #[.agg #[.int .i64 u.t.k, .string u.t.m, .string u.t.n, .slice u.aa u.t.A.len u.ca, .slice u.af u.t.F.len u.cf]] W' fun e W'' => e = .returned (.int .i64 (u.t.size : Int)) ∧ Below W'.heap.size W' W'') := hid (fun W' hW' => typeSize_any (TyV_below u.tyV hW') (by omega))
 have HCU : Kpt (∀ W' : World, Below W.heap.size W W' → Calls Tryz.prog 23 #[.agg #[.int .i64 u.t.k, .string u.t.m, .string u.t.n, .slice u.aa u.t.A.len u.ca, .slice u.af u.t.F.len u.cf]] W' fun e W'' => e = .returned (.int .i64 (chkT u.t)) ∧ Below W'.heap.size W' W'') := hid (fun W' hW' => checktype_any u.t u.v W' (TyV_below u.tyV hW') (by omega) (u.t.sh_nodes (by omega)) (hE.below hW'))
 have HSP : Kpt (∀ W' : World, Below W.heap.size W W' → Calls Tryz.prog 19 #[.agg #[.int .i64 p.e.k, .string p.e.m, .string p.e.n, .string p.e.tx, .int .i64 p.e.num, .slice p.aT p.e.T.len p.cT, .slice p.aL p.e.L.length p.cL, .slice p.aK p.e.K.len p.cK]] W' fun e W'' => e = .returned (.int .i64 (p.e.size : Int)) ∧ Below W'.heap.size W' W'') := hid (fun W' hW' => ExprSize_any p (by omega) W' hW')
 have HCP : Kpt (∀ W' : World, Below W.heap.size W W' → Calls Tryz.prog 25 #[.agg #[.int .i64 p.e.k, .string p.e.m, .string p.e.n, .string p.e.tx, .int .i64 p.e.num, .slice p.aT p.e.T.len p.cT, .slice p.aL p.e.L.length p.cL, .slice p.aK p.e.K.len p.cK]] W' fun e W'' => e = .returned (.int .i64 (chkX p.e)) ∧ Below W'.heap.size W' W'') := hid (fun W' hW' => checkexpr_any p W' hW' (by omega) (hE.below hW'))
 have HSQ : Kpt (∀ W' : World, Below W.heap.size W W' → Calls Tryz.prog 19 #[.agg #[.int .i64 q.e.k, .string q.e.m, .string q.e.n, .string q.e.tx, .int .i64 q.e.num, .slice q.aT q.e.T.len q.cT, .slice q.aL q.e.L.length q.cL, .slice q.aK q.e.K.len q.cK]] W' fun e W'' => e = .returned (.int .i64 (q.e.size : Int)) ∧ Below W'.heap.size W' W'') := hid (fun W' hW' => ExprSize_any q (by omega) W' hW')
 have HCQ : Kpt (∀ W' : World, Below W.heap.size W W' → Calls Tryz.prog 25 #[.agg #[.int .i64 q.e.k, .string q.e.m, .string q.e.n, .string q.e.tx, .int .i64 q.e.num, .slice q.aT q.e.T.len q.cT, .slice q.aL q.e.L.length q.cL, .slice q.aK q.e.K.len q.cK]] W' fun e W'' => e = .returned (.int .i64 (chkX q.e)) ∧ Below W'.heap.size W' W'') := hid (fun W' hW' => checkexpr_any q W' hW' (by omega) (hE.below hW'))
 have HSM : Kpt (∀ W' : World, Below W.heap.size W W' → Calls Tryz.prog 20 #[.agg #[.string m.m.p, .slice m.aI m.m.I.length m.cI, .slice m.aD m.m.D.length m.cD]] W' fun e W'' => e = .returned (.int .i64 (m.m.size : Int)) ∧ Below W'.heap.size W' W'') := hid (fun W' hW' => ModuleSize_any m (by omega) W' hW')
 have HCM : Kpt (∀ W' : World, Below W.heap.size W W' → Calls Tryz.prog 21 #[.agg #[.string m.m.p, .slice m.aI m.m.I.length m.cI, .slice m.aD m.m.D.length m.cD]] W' fun e W'' => e = .returned (.tuple #[.int .i64 (chkM m.m).1, .int .i64 (chkM m.m).2]) ∧ Below W'.heap.size W' W'') := hid (fun W' hW' => checkmodule_any m (by omega) W' hW' (hE.below hW'))
 have HSN : Kpt (∀ W' : World, Below W.heap.size W W' → Calls Tryz.prog 20 #[.agg #[.string n.m.p, .slice n.aI n.m.I.length n.cI, .slice n.aD n.m.D.length n.cD]] W' fun e W'' => e = .returned (.int .i64 (n.m.size : Int)) ∧ Below W'.heap.size W' W'') := hid (fun W' hW' => ModuleSize_any n (by omega) W' hW')
 have HCN : Kpt (∀ W' : World, Below W.heap.size W W' → Calls Tryz.prog 21 #[.agg #[.string n.m.p, .slice n.aI n.m.I.length n.cI, .slice n.aD n.m.D.length n.cD]] W' fun e W'' => e = .returned (.tuple #[.int .i64 (chkM n.m).1, .int .i64 (chkM n.m).2]) ∧ Below W'.heap.size W' W'') := hid (fun W' hW' => checkmodule_any n (by omega) W' hW' (hE.below hW'))
 have HES : Kpt (∀ W' : World, Below W.heap.size W W' → Calls Tryz.prog 13 #[.agg #[.int .i64 p.e.k, .string p.e.m, .string p.e.n, .string p.e.tx, .int .i64 p.e.num, .slice p.aT p.e.T.len p.cT, .slice p.aL p.e.L.length p.cL, .slice p.aK p.e.K.len p.cK]] W' fun e W'' => e = .returned (.int .i64 (p.e.size : Int)) ∧ Below W'.heap.size W' W'') := hid (fun W' hW' => rxz_all W _ (by omega) p (Nat.le_refl _) W' hW')
 have HFS : Kpt (∀ W' : World, Below W.heap.size W W' → Calls Tryz.prog 13 #[.agg #[.int .i64 q.e.k, .string q.e.m, .string q.e.n, .string q.e.tx, .int .i64 q.e.num, .slice q.aT q.e.T.len q.cT, .slice q.aL q.e.L.length q.cL, .slice q.aK q.e.K.len q.cK]] W' fun e W'' => e = .returned (.int .i64 (q.e.size : Int)) ∧ Below W'.heap.size W' W'') := hid (fun W' hW' => rxz_all W _ (by omega) q (Nat.le_refl _) W' hW')
 have HMS : Kpt (∀ W' : World, Below W.heap.size W W' → Calls Tryz.prog 14 #[.agg #[.string m.m.p, .slice m.aI m.m.I.length m.cI, .slice m.aD m.m.D.length m.cD]] W' fun e W'' => e = .returned (.int .i64 (m.m.size : Int)) ∧ Below W'.heap.size W' W'') := hid (fun W' hW' => rms_any W m (by omega) W' hW')
 have HNS : Kpt (∀ W' : World, Below W.heap.size W W' → Calls Tryz.prog 14 #[.agg #[.string n.m.p, .slice n.aI n.m.I.length n.cI, .slice n.aD n.m.D.length n.cD]] W' fun e W'' => e = .returned (.int .i64 (n.m.size : Int)) ∧ Below W'.heap.size W' W'') := hid (fun W' hW' => rms_any W n (by omega) W' hW')
 have hee : p.e.size ≤ 1048576 ∧ q.e.size ≤ 1048576 ∧ m.m.size ≤ 1048576 ∧ n.m.size ≤ 1048576 := by omega
 have q1 : t.t.eq u.t = true → (u.t.size : Int) = t.t.size ∧ chkT u.t = chkT t.t := fun h => by rw [Ty.eq_can ct cu h]; exact ⟨rfl, rfl⟩
 have q2 : p.e.eq q.e = true → q.e.size = p.e.size ∧ chkX q.e = chkX p.e := fun h => by rw [Xp.eq_can cp cq h]; exact ⟨rfl, rfl⟩
 have q3 : m.m.eq n.m = true → n.m.size = m.m.size ∧ chkM n.m = chkM m.m := fun h => by rw [Md.eq_can cm cn h]; exact ⟨rfl, rfl⟩
 generalize chkT t.t = K1 at HCT q1
 generalize chkT u.t = K2 at HCU q1
 generalize chkX p.e = X1 at HCP q2
 generalize chkX q.e = X2 at HCQ q2
 generalize chkM m.m = Y1 at HCM q3
 generalize chkM n.m = Y2 at HCN q3
 generalize t.t.eq u.t = R1 at HTE HUE q1
 generalize p.e.eq q.e = R2 at HXE HQE q2
 generalize m.m.eq n.m = R3 at HME HNE q3
 have HQ1 := hid q1
 have HQ2 := hid q2
 have HQ3 := hid q3
 clear q1 q2 q3 ct cu cp cq cm cn d1 d2
 generalize p.e.size = es at *
 generalize q.e.size = fs at *
 generalize m.m.size = ms at *
 generalize n.m.size = ns at *
 obtain ⟨k1, k2, k3, k4⟩ := hee
 clear HS hE hes hfs hms hns h3 h4 h5 h6
 go_enter Tryz.func7, Tryz.ntmps7
 go_wp2_with fail
 refine HAW.out.mono ?_
 rintro e w2 ⟨rfl, hb⟩
 have HB := hid (HA.out.later hb)
 clear hb hwa HA HAW
 obtain ⟨c00, c01, c02, c03, c04⟩ := HB.out.cells0
 obtain ⟨c10, c11, c12, c13, c14⟩ := HB.out.cells1
 obtain ⟨w3, hw3⟩ : ∃ w3, w2.drew.alloc (.cells #[.int .i64 t.t.k, .string t.t.m, .string t.t.n, .slice t.aa t.t.A.len t.ca, .slice t.af t.t.F.len t.cf, .int .i64 u.t.k, .string u.t.m, .string u.t.n, .slice u.aa u.t.A.len u.ca, .slice u.af u.t.F.len u.cf] 25) = w3 := ⟨_, rfl⟩
 have hb3 : Below w2.heap.size w2 w3 := by rw [← hw3]; exact ((Below.refl _ w2).drew).alloc (Nat.le_refl _) _
 have e3 : w3.heap[w2.heap.size]? = some (.cells #[.int .i64 t.t.k, .string t.t.m, .string t.t.n, .slice t.aa t.t.A.len t.ca, .slice t.af t.t.F.len t.cf, .int .i64 u.t.k, .string u.t.m, .string u.t.n, .slice u.aa u.t.A.len u.ca, .slice u.af u.t.F.len u.cf] 25 (0, 0)) := by rw [← hw3]; exact World.alloc_heap_new w2.drew _
 have H3 := hid (HB.out.later hb3)
 have hrow : ∀ i y j u', [t, u][i]? = some y → y.cells.toList[j]? = some u' → w3.cell? ⟨w2.heap.size, i * 5 + j, none⟩ = some u' := by
  intro i y j u' hy hu
  have hj : j < 5 := (List.getElem?_eq_some_iff.1 hu).1
  have hj5 : j = 0 ∨ j = 1 ∨ j = 2 ∨ j = 3 ∨ j = 4 := by omega
  match i, hy with
  | 0, hy => cases hy; rcases hj5 with rfl | rfl | rfl | rfl | rfl <;> (cases hu; exact cell_of_row w3 _ _ _ _ _ e3)
  | 1, hy => cases hy; rcases hj5 with rfl | rfl | rfl | rfl | rfl <;> (cases hu; exact cell_of_row w3 _ _ _ _ _ e3)
 have hfew := fewT_any W [t, u] w2.heap.size 2 2000 w3 H3.out.below hrow (by show t.t.size + (u.t.size + 0) ≤ _; omega) (by show 2 ≤ _; omega)
 have hsm : (([t, u].map (·.t)).map Ty.size).sum = t.t.size + (u.t.size + 0) := rfl
 rw [hsm] at hfew
 have HF := hid (show Calls Tryz.prog 12 #[.int .i64 2000, .slice (some ⟨w2.heap.size, 0, none⟩) 2 2] w3 _ from hfew)
 obtain ⟨FW, hFW⟩ : ∃ FW, decide (((t.t.size + (u.t.size + 0) : Nat) : Int) ≤ 2000) = FW := ⟨_, rfl⟩
 rw [hFW] at HF
 have HB3 := hid hb3
 clear hsm hfew hrow e3 hb3 hFW h1 h2
 go_wp2_with fail
 refine wp_region_noPanic ?_
 refine region_G (S := fun w' => Below w2.heap.size w2 w') (z := 2) (by kernel_rfl) ?_
 change wpAnyG _ _ _ _ _ _ 21 _ _ _
 refine G_take (i := 0) (v := .agg #[.int .i64 t.t.k, .string t.t.m, .string t.t.n, .slice t.aa t.t.A.len t.ca, .slice t.af t.t.F.len t.cf]) rfl (by kernel_rfl) (by kernel_rfl) (by kernel_rfl) (by kernel_rfl) (by decide) (by kernel_rfl) (fun _ _ _ h => h) (.inl ⟨by simp [Region.wanted], fun w' hS => ?y0⟩) (Below.refl _ _).drew ?_
 case y0 =>
  have a0 := old_cell hS c00
  have a1 := old_cell hS c01
  have a2 := old_cell hS c02
  have a3 := old_cell hS c03
  have a4 := old_cell hS c04
  simp [execOp, go_sem, a0, a1, a2, a3, a4]
 refine G_take (i := 1) (v := .agg #[.int .i64 u.t.k, .string u.t.m, .string u.t.n, .slice u.aa u.t.A.len u.ca, .slice u.af u.t.F.len u.cf]) rfl (by kernel_rfl) (by kernel_rfl) (by kernel_rfl) (by kernel_rfl) (by decide) (by kernel_rfl) (fun _ _ _ h => h) (.inl ⟨by simp [Region.wanted], fun w' hS => ?y1⟩) (Below.refl _ _).drew ?_
 case y1 =>
  have a0 := old_cell hS c10
  have a1 := old_cell hS c11
  have a2 := old_cell hS c12
  have a3 := old_cell hS c13
  have a4 := old_cell hS c14
  simp [execOp, go_sem, a0, a1, a2, a3, a4]
 simp only [Act.put, List.setIfInBounds_toArray, List.set_cons_succ, List.set_cons_zero]
 refine G_one (i := 2) (by kernel_rfl) rfl ?_
 go_wp2_with fail
 refine ⟨HB3.out, ?_⟩
 refine G_one (i := 3) (by kernel_rfl) rfl ?_
 go_wp2_with fail
 refine HF.out.mono ?_
 rintro e w4 ⟨rfl, hb4⟩
 have HV := hid (H3.out.later hb4)
 have HB4 := hid (HB3.out.trans (hb4.mono HB3.out.size))
 clear hb4 hw3 c00 c01 c02 c03 c04 c10 c11 c12 c13 c14
 cases FW with
 | false =>
  go_wp2_with fail
  refine ⟨HB4.out, ?_⟩
  refine G_one (i := 4) (by kernel_rfl) rfl ?_
  go_wp2_with fail
  refine ⟨HB4.out, ?_⟩
  refine G_one (i := 5) (by kernel_rfl) rfl ?_
  go_wp2_with fail
  refine ⟨HB4.out, ?_⟩
  refine G_later _ 6 (by kernel_rfl) (by kernel_rfl) (drop_get _ 6) (by kernel_rfl) ?_
  simp only [List.drop_succ_cons, List.drop_zero]
  repeat (go_big_quiet_step ((first | (go_at_call 13; first | (with_reducible exact HESL.out _) | (with_reducible exact HFSL.out _)) | (go_at_call 14; first | (with_reducible exact HMSL.out _) | (with_reducible exact HNSL.out _)))))
  refine wpQuiet_nil ?_
  intro _ hw'
  obtain ⟨X, hX⟩ := hw'
  subst hX
  refine NoPanic.normal ?_
  go_wp2_with fail
  go_ret
  exact ⟨rfl, (HV.out.later X.since).below⟩
 | true =>
  obtain ⟨c00, c01, c02, c03, c04, c10, c11, c12, c13, c14, c20, c21, c22, c23, c24, c25, c26, c27, c30, c31, c32, c33, c34, c35, c36, c37, c40, c41, c42, c50, c51, c52⟩ := HV.out.all
  have HESL := hid (fun X : Later w4 => Calls.later_of (HES.out X.now ((HV.out.later X.since).below)))
  have HFSL := hid (fun X : Later w4 => Calls.later_of (HFS.out X.now ((HV.out.later X.since).below)))
  have HMSL := hid (fun X : Later w4 => Calls.later_of (HMS.out X.now ((HV.out.later X.since).below)))
  have HNSL := hid (fun X : Later w4 => Calls.later_of (HNS.out X.now ((HV.out.later X.since).below)))
  go_wp2_with fail
  refine ⟨HB4.out, ?_⟩
  refine G_one (i := 4) (by kernel_rfl) rfl ?_
  go_wp2_with fail
  refine ⟨HB4.out, ?_⟩
  refine G_one (i := 5) (by kernel_rfl) rfl ?_
  go_wp2_with fail
  refine ⟨HB4.out, ?_⟩
  refine G_later _ 6 (by kernel_rfl) (by kernel_rfl) (drop_get _ 6) (by kernel_rfl) ?_
  simp only [List.drop_succ_cons, List.drop_zero]
  by_cases g1 : 2000 < es + fs
  · have g1i : (2000 : Int) < (es : Int) + (fs : Int) := by omega
    repeat (go_big_quiet_step ((first | (go_at_call 13; first | (with_reducible exact HESL.out _) | (with_reducible exact HFSL.out _)) | (go_at_call 14; first | (with_reducible exact HMSL.out _) | (with_reducible exact HNSL.out _)))))
    refine wpQuiet_nil ?_
    intro _ hw'
    obtain ⟨X, hX⟩ := hw'
    subst hX
    refine NoPanic.normal ?_
    go_wp2_with fail
    go_ret
    exact ⟨rfl, (HV.out.later X.since).below⟩
  · have g1i : ¬ (2000 : Int) < (es : Int) + (fs : Int) := by omega
    by_cases g2 : 2000 < ms + ns
    · have g2i : (2000 : Int) < (ms : Int) + (ns : Int) := by omega
      repeat (go_big_quiet_step ((first | (go_at_call 13; first | (with_reducible exact HESL.out _) | (with_reducible exact HFSL.out _)) | (go_at_call 14; first | (with_reducible exact HMSL.out _) | (with_reducible exact HNSL.out _)))))
      refine wpQuiet_nil ?_
      intro _ hw'
      obtain ⟨X, hX⟩ := hw'
      subst hX
      refine NoPanic.normal ?_
      go_wp2_with fail
      go_ret
      exact ⟨rfl, (HV.out.later X.since).below⟩
    · have g2i : ¬ (2000 : Int) < (ms : Int) + (ns : Int) := by omega
      repeat (go_big_quiet_step ((first | (go_at_call 13; first | (with_reducible exact HESL.out _) | (with_reducible exact HFSL.out _)) | (go_at_call 14; first | (with_reducible exact HMSL.out _) | (with_reducible exact HNSL.out _)))))
      refine wpQuiet_nil ?_
      intro _ hw'
      obtain ⟨X, hX⟩ := hw'
      subst hX
      refine NoPanic.normal ?_
      have HW := hid (HV.out.later X.since)
      clear c00 c01 c02 c03 c04 c10 c11 c12 c13 c14 c20 c21 c22 c23 c24 c25 c26 c27 c30 c31 c32 c33 c34 c35 c36 c37 c40 c41 c42 c50 c51 c52 HESL HFSL HMSL HNSL
      generalize X.now = V at HW ⊢
      clear HV
      have HV := HW
      clear HW
      obtain ⟨c00, c01, c02, c03, c04⟩ := HV.out.cells0
      go_wp2_with fail
      refine (HTT.out V HV.out.below).mono ?_
      rintro e V1 ⟨rfl, hb⟩
      have H1 := hid (HV.out.later hb)
      clear hb c00 c01 c02 c03 c04
      obtain ⟨c20, c21, c22, c23, c24, c25, c26, c27⟩ := H1.out.cells2
      go_wp2_with fail
      refine (HXX.out V1 H1.out.below).mono ?_
      rintro e V2 ⟨rfl, hb⟩
      have H2 := hid (H1.out.later hb)
      clear hb c20 c21 c22 c23 c24 c25 c26 c27
      obtain ⟨c40, c41, c42⟩ := H2.out.cells4
      go_wp2_with fail
      refine (HMM.out V2 H2.out.below).mono ?_
      rintro e V3 ⟨rfl, hb⟩
      have H3 := hid (H2.out.later hb)
      clear hb c40 c41 c42
      obtain ⟨c00, c01, c02, c03, c04, c10, c11, c12, c13, c14, c20, c21, c22, c23, c24, c25, c26, c27, c30, c31, c32, c33, c34, c35, c36, c37, c40, c41, c42, c50, c51, c52⟩ := H3.out.all
      have HTEL := hid (fun X : Later V3 => Calls.later_of (HTE.out X.now ((H3.out.later X.since).below)))
      have HXEL := hid (fun X : Later V3 => Calls.later_of (HXE.out X.now ((H3.out.later X.since).below)))
      have HMEL := hid (fun X : Later V3 => Calls.later_of (HME.out X.now ((H3.out.later X.since).below)))
      go_wp2_with fail
      refine wp_region_later (by kernel_rfl) (by kernel_rfl) ?_
      repeat (go_big_quiet_step ((first | (go_at_call 27; with_reducible exact HTEL.out _) | (go_at_call 29; with_reducible exact HXEL.out _) | (go_at_call 31; with_reducible exact HMEL.out _))))
      refine wpQuiet_nil ?_
      intro _ hw'
      obtain ⟨X4, hX⟩ := hw'
      subst hX
      have H4 := hid (H3.out.later X4.since)
      clear HTEL HXEL HMEL c00 c01 c02 c03 c04 c10 c11 c12 c13 c14 c20 c21 c22 c23 c24 c25 c26 c27 c30 c31 c32 c33 c34 c35 c36 c37 c40 c41 c42 c50 c51 c52
      generalize X4.now = V4 at H4 ⊢
      obtain ⟨i1, x1⟩ := Y1
      obtain ⟨i2, x2⟩ := Y2
      have TAIL : True := trivial
      cases R1 with
      | true =>
       obtain ⟨z1, z2⟩ := HQ1.out rfl
       rw [z1] at HSU
       subst z2
       clear z1
       cases R2 with
       | true =>
        obtain ⟨z1, z2⟩ := HQ2.out rfl
        rw [z1] at HSQ
        subst z2
        clear z1
        cases R3 with
        | true =>
         obtain ⟨z1, z2⟩ := HQ3.out rfl
         rw [z1] at HSN
         obtain ⟨rfl, rfl⟩ := Prod.mk.inj z2
         clear z1 z2
         obtain ⟨c00, c01, c02, c03, c04⟩ := H4.out.cells0
         obtain ⟨c10, c11, c12, c13, c14⟩ := H4.out.cells1
         go_wp2_with fail
         refine (HUE.out V4 H4.out.below).mono ?_
         rintro e V5 ⟨rfl, hb⟩
         have H5 := hid (H4.out.later hb)
         clear hb c00 c01 c02 c03 c04 c10 c11 c12 c13 c14
         obtain ⟨c20, c21, c22, c23, c24, c25, c26, c27⟩ := H5.out.cells2
         obtain ⟨c30, c31, c32, c33, c34, c35, c36, c37⟩ := H5.out.cells3
         go_wp2_with fail
         refine (HQE.out V5 H5.out.below).mono ?_
         rintro e V6 ⟨rfl, hb⟩
         have H6 := hid (H5.out.later hb)
         clear hb c20 c21 c22 c23 c24 c25 c26 c27 c30 c31 c32 c33 c34 c35 c36 c37
         obtain ⟨c40, c41, c42⟩ := H6.out.cells4
         obtain ⟨c50, c51, c52⟩ := H6.out.cells5
         go_wp2_with fail
         refine (HNE.out V6 H6.out.below).mono ?_
         rintro e V7 ⟨rfl, hb⟩
         have H7 := hid (H6.out.later hb)
         clear hb c40 c41 c42 c50 c51 c52
         obtain ⟨c40, c41, c42⟩ := H7.out.cells4
         go_wp2_with fail
         refine (HCM.out V7 H7.out.below).mono ?_
         rintro e V8 ⟨rfl, hb⟩
         have H8 := hid (H7.out.later hb)
         clear hb c40 c41 c42
         obtain ⟨c50, c51, c52⟩ := H8.out.cells5
         go_wp2_with fail
         refine (HCN.out V8 H8.out.below).mono ?_
         rintro e V9 ⟨rfl, hb⟩
         have H9 := hid (H8.out.later hb)
         clear hb c50 c51 c52
         obtain ⟨c00, c01, c02, c03, c04, c10, c11, c12, c13, c14, c20, c21, c22, c23, c24, c25, c26, c27, c30, c31, c32, c33, c34, c35, c36, c37, c40, c41, c42, c50, c51, c52⟩ := H9.out.all
         have HSTL := hid (fun X : Later V9 => Calls.later_of (HST.out X.now ((H9.out.later X.since).below)))
         have HSUL := hid (fun X : Later V9 => Calls.later_of (HSU.out X.now ((H9.out.later X.since).below)))
         have HCTL := hid (fun X : Later V9 => Calls.later_of (HCT.out X.now ((H9.out.later X.since).below)))
         have HCUL := hid (fun X : Later V9 => Calls.later_of (HCU.out X.now ((H9.out.later X.since).below)))
         have HSPL := hid (fun X : Later V9 => Calls.later_of (HSP.out X.now ((H9.out.later X.since).below)))
         have HSQL := hid (fun X : Later V9 => Calls.later_of (HSQ.out X.now ((H9.out.later X.since).below)))
         have HCPL := hid (fun X : Later V9 => Calls.later_of (HCP.out X.now ((H9.out.later X.since).below)))
         have HCQL := hid (fun X : Later V9 => Calls.later_of (HCQ.out X.now ((H9.out.later X.since).below)))
         have HSML := hid (fun X : Later V9 => Calls.later_of (HSM.out X.now ((H9.out.later X.since).below)))
         have HSNL := hid (fun X : Later V9 => Calls.later_of (HSN.out X.now ((H9.out.later X.since).below)))
         go_wp2_with fail
         refine wp_region_later (by kernel_rfl) (by kernel_rfl) ?_
         repeat (go_big_quiet_step ((first | (go_at_call 15; first | with_reducible exact HSTL.out _ | with_reducible exact HSUL.out _) | (go_at_call 23; first | with_reducible exact HCTL.out _ | with_reducible exact HCUL.out _) | (go_at_call 19; first | with_reducible exact HSPL.out _ | with_reducible exact HSQL.out _) | (go_at_call 25; first | with_reducible exact HCPL.out _ | with_reducible exact HCQL.out _) | (go_at_call 20; first | with_reducible exact HSML.out _ | with_reducible exact HSNL.out _))))
         refine wpQuiet_nil ?_
         intro _ hw'
         obtain ⟨X5, hX⟩ := hw'
         subst hX
         clear c00 c01 c02 c03 c04 c10 c11 c12 c13 c14 c20 c21 c22 c23 c24 c25 c26 c27 c30 c31 c32 c33 c34 c35 c36 c37 c40 c41 c42 c50 c51 c52
         go_wp2_with fail
         go_ret
         exact ⟨by first | rfl | simp, (H9.out.later X5.since).below⟩
        | false =>
         obtain ⟨c00, c01, c02, c03, c04⟩ := H4.out.cells0
         obtain ⟨c10, c11, c12, c13, c14⟩ := H4.out.cells1
         go_wp2_with fail
         refine (HUE.out V4 H4.out.below).mono ?_
         rintro e V5 ⟨rfl, hb⟩
         have H5 := hid (H4.out.later hb)
         clear hb c00 c01 c02 c03 c04 c10 c11 c12 c13 c14
         obtain ⟨c20, c21, c22, c23, c24, c25, c26, c27⟩ := H5.out.cells2
         obtain ⟨c30, c31, c32, c33, c34, c35, c36, c37⟩ := H5.out.cells3
         go_wp2_with fail
         refine (HQE.out V5 H5.out.below).mono ?_
         rintro e V6 ⟨rfl, hb⟩
         have H6 := hid (H5.out.later hb)
         clear hb c20 c21 c22 c23 c24 c25 c26 c27 c30 c31 c32 c33 c34 c35 c36 c37
         obtain ⟨c40, c41, c42⟩ := H6.out.cells4
         obtain ⟨c50, c51, c52⟩ := H6.out.cells5
         go_wp2_with fail
         refine (HNE.out V6 H6.out.below).mono ?_
         rintro e V7 ⟨rfl, hb⟩
         have H7 := hid (H6.out.later hb)
         clear hb c40 c41 c42 c50 c51 c52
         obtain ⟨c40, c41, c42⟩ := H7.out.cells4
         go_wp2_with fail
         refine (HCM.out V7 H7.out.below).mono ?_
         rintro e V8 ⟨rfl, hb⟩
         have H8 := hid (H7.out.later hb)
         clear hb c40 c41 c42
         obtain ⟨c50, c51, c52⟩ := H8.out.cells5
         go_wp2_with fail
         refine (HCN.out V8 H8.out.below).mono ?_
         rintro e V9 ⟨rfl, hb⟩
         have H9 := hid (H8.out.later hb)
         clear hb c50 c51 c52
         obtain ⟨c00, c01, c02, c03, c04, c10, c11, c12, c13, c14, c20, c21, c22, c23, c24, c25, c26, c27, c30, c31, c32, c33, c34, c35, c36, c37, c40, c41, c42, c50, c51, c52⟩ := H9.out.all
         have HSTL := hid (fun X : Later V9 => Calls.later_of (HST.out X.now ((H9.out.later X.since).below)))
         have HSUL := hid (fun X : Later V9 => Calls.later_of (HSU.out X.now ((H9.out.later X.since).below)))
         have HCTL := hid (fun X : Later V9 => Calls.later_of (HCT.out X.now ((H9.out.later X.since).below)))
         have HCUL := hid (fun X : Later V9 => Calls.later_of (HCU.out X.now ((H9.out.later X.since).below)))
         have HSPL := hid (fun X : Later V9 => Calls.later_of (HSP.out X.now ((H9.out.later X.since).below)))
         have HSQL := hid (fun X : Later V9 => Calls.later_of (HSQ.out X.now ((H9.out.later X.since).below)))
         have HCPL := hid (fun X : Later V9 => Calls.later_of (HCP.out X.now ((H9.out.later X.since).below)))
         have HCQL := hid (fun X : Later V9 => Calls.later_of (HCQ.out X.now ((H9.out.later X.since).below)))
         have HSML := hid (fun X : Later V9 => Calls.later_of (HSM.out X.now ((H9.out.later X.since).below)))
         have HSNL := hid (fun X : Later V9 => Calls.later_of (HSN.out X.now ((H9.out.later X.since).below)))
         go_wp2_with fail
         refine wp_region_later (by kernel_rfl) (by kernel_rfl) ?_
         repeat (go_big_quiet_step ((first | (go_at_call 15; first | with_reducible exact HSTL.out _ | with_reducible exact HSUL.out _) | (go_at_call 23; first | with_reducible exact HCTL.out _ | with_reducible exact HCUL.out _) | (go_at_call 19; first | with_reducible exact HSPL.out _ | with_reducible exact HSQL.out _) | (go_at_call 25; first | with_reducible exact HCPL.out _ | with_reducible exact HCQL.out _) | (go_at_call 20; first | with_reducible exact HSML.out _ | with_reducible exact HSNL.out _))))
         refine wpQuiet_nil ?_
         intro _ hw'
         obtain ⟨X5, hX⟩ := hw'
         subst hX
         clear c00 c01 c02 c03 c04 c10 c11 c12 c13 c14 c20 c21 c22 c23 c24 c25 c26 c27 c30 c31 c32 c33 c34 c35 c36 c37 c40 c41 c42 c50 c51 c52
         go_wp2_with fail
         go_ret
         exact ⟨by first | rfl | simp, (H9.out.later X5.since).below⟩
       | false =>
        cases R3 with
        | true =>
         obtain ⟨z1, z2⟩ := HQ3.out rfl
         rw [z1] at HSN
         obtain ⟨rfl, rfl⟩ := Prod.mk.inj z2
         clear z1 z2
         obtain ⟨c00, c01, c02, c03, c04⟩ := H4.out.cells0
         obtain ⟨c10, c11, c12, c13, c14⟩ := H4.out.cells1
         go_wp2_with fail
         refine (HUE.out V4 H4.out.below).mono ?_
         rintro e V5 ⟨rfl, hb⟩
         have H5 := hid (H4.out.later hb)
         clear hb c00 c01 c02 c03 c04 c10 c11 c12 c13 c14
         obtain ⟨c20, c21, c22, c23, c24, c25, c26, c27⟩ := H5.out.cells2
         obtain ⟨c30, c31, c32, c33, c34, c35, c36, c37⟩ := H5.out.cells3
         go_wp2_with fail
         refine (HQE.out V5 H5.out.below).mono ?_
         rintro e V6 ⟨rfl, hb⟩
         have H6 := hid (H5.out.later hb)
         clear hb c20 c21 c22 c23 c24 c25 c26 c27 c30 c31 c32 c33 c34 c35 c36 c37
         obtain ⟨c40, c41, c42⟩ := H6.out.cells4
         obtain ⟨c50, c51, c52⟩ := H6.out.cells5
         go_wp2_with fail
         refine (HNE.out V6 H6.out.below).mono ?_
         rintro e V7 ⟨rfl, hb⟩
         have H7 := hid (H6.out.later hb)
         clear hb c40 c41 c42 c50 c51 c52
         obtain ⟨c40, c41, c42⟩ := H7.out.cells4
         go_wp2_with fail
         refine (HCM.out V7 H7.out.below).mono ?_
         rintro e V8 ⟨rfl, hb⟩
         have H8 := hid (H7.out.later hb)
         clear hb c40 c41 c42
         obtain ⟨c50, c51, c52⟩ := H8.out.cells5
         go_wp2_with fail
         refine (HCN.out V8 H8.out.below).mono ?_
         rintro e V9 ⟨rfl, hb⟩
         have H9 := hid (H8.out.later hb)
         clear hb c50 c51 c52
         obtain ⟨c00, c01, c02, c03, c04, c10, c11, c12, c13, c14, c20, c21, c22, c23, c24, c25, c26, c27, c30, c31, c32, c33, c34, c35, c36, c37, c40, c41, c42, c50, c51, c52⟩ := H9.out.all
         have HSTL := hid (fun X : Later V9 => Calls.later_of (HST.out X.now ((H9.out.later X.since).below)))
         have HSUL := hid (fun X : Later V9 => Calls.later_of (HSU.out X.now ((H9.out.later X.since).below)))
         have HCTL := hid (fun X : Later V9 => Calls.later_of (HCT.out X.now ((H9.out.later X.since).below)))
         have HCUL := hid (fun X : Later V9 => Calls.later_of (HCU.out X.now ((H9.out.later X.since).below)))
         have HSPL := hid (fun X : Later V9 => Calls.later_of (HSP.out X.now ((H9.out.later X.since).below)))
         have HSQL := hid (fun X : Later V9 => Calls.later_of (HSQ.out X.now ((H9.out.later X.since).below)))
         have HCPL := hid (fun X : Later V9 => Calls.later_of (HCP.out X.now ((H9.out.later X.since).below)))
         have HCQL := hid (fun X : Later V9 => Calls.later_of (HCQ.out X.now ((H9.out.later X.since).below)))
         have HSML := hid (fun X : Later V9 => Calls.later_of (HSM.out X.now ((H9.out.later X.since).below)))
         have HSNL := hid (fun X : Later V9 => Calls.later_of (HSN.out X.now ((H9.out.later X.since).below)))
         go_wp2_with fail
         refine wp_region_later (by kernel_rfl) (by kernel_rfl) ?_
         repeat (go_big_quiet_step ((first | (go_at_call 15; first | with_reducible exact HSTL.out _ | with_reducible exact HSUL.out _) | (go_at_call 23; first | with_reducible exact HCTL.out _ | with_reducible exact HCUL.out _) | (go_at_call 19; first | with_reducible exact HSPL.out _ | with_reducible exact HSQL.out _) | (go_at_call 25; first | with_reducible exact HCPL.out _ | with_reducible exact HCQL.out _) | (go_at_call 20; first | with_reducible exact HSML.out _ | with_reducible exact HSNL.out _))))
         refine wpQuiet_nil ?_
         intro _ hw'
         obtain ⟨X5, hX⟩ := hw'
         subst hX
         clear c00 c01 c02 c03 c04 c10 c11 c12 c13 c14 c20 c21 c22 c23 c24 c25 c26 c27 c30 c31 c32 c33 c34 c35 c36 c37 c40 c41 c42 c50 c51 c52
         go_wp2_with fail
         go_ret
         exact ⟨by first | rfl | simp, (H9.out.later X5.since).below⟩
        | false =>
         obtain ⟨c00, c01, c02, c03, c04⟩ := H4.out.cells0
         obtain ⟨c10, c11, c12, c13, c14⟩ := H4.out.cells1
         go_wp2_with fail
         refine (HUE.out V4 H4.out.below).mono ?_
         rintro e V5 ⟨rfl, hb⟩
         have H5 := hid (H4.out.later hb)
         clear hb c00 c01 c02 c03 c04 c10 c11 c12 c13 c14
         obtain ⟨c20, c21, c22, c23, c24, c25, c26, c27⟩ := H5.out.cells2
         obtain ⟨c30, c31, c32, c33, c34, c35, c36, c37⟩ := H5.out.cells3
         go_wp2_with fail
         refine (HQE.out V5 H5.out.below).mono ?_
         rintro e V6 ⟨rfl, hb⟩
         have H6 := hid (H5.out.later hb)
         clear hb c20 c21 c22 c23 c24 c25 c26 c27 c30 c31 c32 c33 c34 c35 c36 c37
         obtain ⟨c40, c41, c42⟩ := H6.out.cells4
         obtain ⟨c50, c51, c52⟩ := H6.out.cells5
         go_wp2_with fail
         refine (HNE.out V6 H6.out.below).mono ?_
         rintro e V7 ⟨rfl, hb⟩
         have H7 := hid (H6.out.later hb)
         clear hb c40 c41 c42 c50 c51 c52
         obtain ⟨c40, c41, c42⟩ := H7.out.cells4
         go_wp2_with fail
         refine (HCM.out V7 H7.out.below).mono ?_
         rintro e V8 ⟨rfl, hb⟩
         have H8 := hid (H7.out.later hb)
         clear hb c40 c41 c42
         obtain ⟨c50, c51, c52⟩ := H8.out.cells5
         go_wp2_with fail
         refine (HCN.out V8 H8.out.below).mono ?_
         rintro e V9 ⟨rfl, hb⟩
         have H9 := hid (H8.out.later hb)
         clear hb c50 c51 c52
         obtain ⟨c00, c01, c02, c03, c04, c10, c11, c12, c13, c14, c20, c21, c22, c23, c24, c25, c26, c27, c30, c31, c32, c33, c34, c35, c36, c37, c40, c41, c42, c50, c51, c52⟩ := H9.out.all
         have HSTL := hid (fun X : Later V9 => Calls.later_of (HST.out X.now ((H9.out.later X.since).below)))
         have HSUL := hid (fun X : Later V9 => Calls.later_of (HSU.out X.now ((H9.out.later X.since).below)))
         have HCTL := hid (fun X : Later V9 => Calls.later_of (HCT.out X.now ((H9.out.later X.since).below)))
         have HCUL := hid (fun X : Later V9 => Calls.later_of (HCU.out X.now ((H9.out.later X.since).below)))
         have HSPL := hid (fun X : Later V9 => Calls.later_of (HSP.out X.now ((H9.out.later X.since).below)))
         have HSQL := hid (fun X : Later V9 => Calls.later_of (HSQ.out X.now ((H9.out.later X.since).below)))
         have HCPL := hid (fun X : Later V9 => Calls.later_of (HCP.out X.now ((H9.out.later X.since).below)))
         have HCQL := hid (fun X : Later V9 => Calls.later_of (HCQ.out X.now ((H9.out.later X.since).below)))
         have HSML := hid (fun X : Later V9 => Calls.later_of (HSM.out X.now ((H9.out.later X.since).below)))
         have HSNL := hid (fun X : Later V9 => Calls.later_of (HSN.out X.now ((H9.out.later X.since).below)))
         go_wp2_with fail
         refine wp_region_later (by kernel_rfl) (by kernel_rfl) ?_
         repeat (go_big_quiet_step ((first | (go_at_call 15; first | with_reducible exact HSTL.out _ | with_reducible exact HSUL.out _) | (go_at_call 23; first | with_reducible exact HCTL.out _ | with_reducible exact HCUL.out _) | (go_at_call 19; first | with_reducible exact HSPL.out _ | with_reducible exact HSQL.out _) | (go_at_call 25; first | with_reducible exact HCPL.out _ | with_reducible exact HCQL.out _) | (go_at_call 20; first | with_reducible exact HSML.out _ | with_reducible exact HSNL.out _))))
         refine wpQuiet_nil ?_
         intro _ hw'
         obtain ⟨X5, hX⟩ := hw'
         subst hX
         clear c00 c01 c02 c03 c04 c10 c11 c12 c13 c14 c20 c21 c22 c23 c24 c25 c26 c27 c30 c31 c32 c33 c34 c35 c36 c37 c40 c41 c42 c50 c51 c52
         go_wp2_with fail
         go_ret
         exact ⟨by first | rfl | simp, (H9.out.later X5.since).below⟩
      | false =>
       cases R2 with
       | true =>
        obtain ⟨z1, z2⟩ := HQ2.out rfl
        rw [z1] at HSQ
        subst z2
        clear z1
        cases R3 with
        | true =>
         obtain ⟨z1, z2⟩ := HQ3.out rfl
         rw [z1] at HSN
         obtain ⟨rfl, rfl⟩ := Prod.mk.inj z2
         clear z1 z2
         obtain ⟨c00, c01, c02, c03, c04⟩ := H4.out.cells0
         obtain ⟨c10, c11, c12, c13, c14⟩ := H4.out.cells1
         go_wp2_with fail
         refine (HUE.out V4 H4.out.below).mono ?_
         rintro e V5 ⟨rfl, hb⟩
         have H5 := hid (H4.out.later hb)
         clear hb c00 c01 c02 c03 c04 c10 c11 c12 c13 c14
         obtain ⟨c20, c21, c22, c23, c24, c25, c26, c27⟩ := H5.out.cells2
         obtain ⟨c30, c31, c32, c33, c34, c35, c36, c37⟩ := H5.out.cells3
         go_wp2_with fail
         refine (HQE.out V5 H5.out.below).mono ?_
         rintro e V6 ⟨rfl, hb⟩
         have H6 := hid (H5.out.later hb)
         clear hb c20 c21 c22 c23 c24 c25 c26 c27 c30 c31 c32 c33 c34 c35 c36 c37
         obtain ⟨c40, c41, c42⟩ := H6.out.cells4
         obtain ⟨c50, c51, c52⟩ := H6.out.cells5
         go_wp2_with fail
         refine (HNE.out V6 H6.out.below).mono ?_
         rintro e V7 ⟨rfl, hb⟩
         have H7 := hid (H6.out.later hb)
         clear hb c40 c41 c42 c50 c51 c52
         obtain ⟨c40, c41, c42⟩ := H7.out.cells4
         go_wp2_with fail
         refine (HCM.out V7 H7.out.below).mono ?_
         rintro e V8 ⟨rfl, hb⟩
         have H8 := hid (H7.out.later hb)
         clear hb c40 c41 c42
         obtain ⟨c50, c51, c52⟩ := H8.out.cells5
         go_wp2_with fail
         refine (HCN.out V8 H8.out.below).mono ?_
         rintro e V9 ⟨rfl, hb⟩
         have H9 := hid (H8.out.later hb)
         clear hb c50 c51 c52
         obtain ⟨c00, c01, c02, c03, c04, c10, c11, c12, c13, c14, c20, c21, c22, c23, c24, c25, c26, c27, c30, c31, c32, c33, c34, c35, c36, c37, c40, c41, c42, c50, c51, c52⟩ := H9.out.all
         have HSTL := hid (fun X : Later V9 => Calls.later_of (HST.out X.now ((H9.out.later X.since).below)))
         have HSUL := hid (fun X : Later V9 => Calls.later_of (HSU.out X.now ((H9.out.later X.since).below)))
         have HCTL := hid (fun X : Later V9 => Calls.later_of (HCT.out X.now ((H9.out.later X.since).below)))
         have HCUL := hid (fun X : Later V9 => Calls.later_of (HCU.out X.now ((H9.out.later X.since).below)))
         have HSPL := hid (fun X : Later V9 => Calls.later_of (HSP.out X.now ((H9.out.later X.since).below)))
         have HSQL := hid (fun X : Later V9 => Calls.later_of (HSQ.out X.now ((H9.out.later X.since).below)))
         have HCPL := hid (fun X : Later V9 => Calls.later_of (HCP.out X.now ((H9.out.later X.since).below)))
         have HCQL := hid (fun X : Later V9 => Calls.later_of (HCQ.out X.now ((H9.out.later X.since).below)))
         have HSML := hid (fun X : Later V9 => Calls.later_of (HSM.out X.now ((H9.out.later X.since).below)))
         have HSNL := hid (fun X : Later V9 => Calls.later_of (HSN.out X.now ((H9.out.later X.since).below)))
         go_wp2_with fail
         refine wp_region_later (by kernel_rfl) (by kernel_rfl) ?_
         repeat (go_big_quiet_step ((first | (go_at_call 15; first | with_reducible exact HSTL.out _ | with_reducible exact HSUL.out _) | (go_at_call 23; first | with_reducible exact HCTL.out _ | with_reducible exact HCUL.out _) | (go_at_call 19; first | with_reducible exact HSPL.out _ | with_reducible exact HSQL.out _) | (go_at_call 25; first | with_reducible exact HCPL.out _ | with_reducible exact HCQL.out _) | (go_at_call 20; first | with_reducible exact HSML.out _ | with_reducible exact HSNL.out _))))
         refine wpQuiet_nil ?_
         intro _ hw'
         obtain ⟨X5, hX⟩ := hw'
         subst hX
         clear c00 c01 c02 c03 c04 c10 c11 c12 c13 c14 c20 c21 c22 c23 c24 c25 c26 c27 c30 c31 c32 c33 c34 c35 c36 c37 c40 c41 c42 c50 c51 c52
         go_wp2_with fail
         go_ret
         exact ⟨by first | rfl | simp, (H9.out.later X5.since).below⟩
        | false =>
         obtain ⟨c00, c01, c02, c03, c04⟩ := H4.out.cells0
         obtain ⟨c10, c11, c12, c13, c14⟩ := H4.out.cells1
         go_wp2_with fail
         refine (HUE.out V4 H4.out.below).mono ?_
         rintro e V5 ⟨rfl, hb⟩
         have H5 := hid (H4.out.later hb)
         clear hb c00 c01 c02 c03 c04 c10 c11 c12 c13 c14
         obtain ⟨c20, c21, c22, c23, c24, c25, c26, c27⟩ := H5.out.cells2
         obtain ⟨c30, c31, c32, c33, c34, c35, c36, c37⟩ := H5.out.cells3
         go_wp2_with fail
         refine (HQE.out V5 H5.out.below).mono ?_
         rintro e V6 ⟨rfl, hb⟩
         have H6 := hid (H5.out.later hb)
         clear hb c20 c21 c22 c23 c24 c25 c26 c27 c30 c31 c32 c33 c34 c35 c36 c37
         obtain ⟨c40, c41, c42⟩ := H6.out.cells4
         obtain ⟨c50, c51, c52⟩ := H6.out.cells5
         go_wp2_with fail
         refine (HNE.out V6 H6.out.below).mono ?_
         rintro e V7 ⟨rfl, hb⟩
         have H7 := hid (H6.out.later hb)
         clear hb c40 c41 c42 c50 c51 c52
         obtain ⟨c40, c41, c42⟩ := H7.out.cells4
         go_wp2_with fail
         refine (HCM.out V7 H7.out.below).mono ?_
         rintro e V8 ⟨rfl, hb⟩
         have H8 := hid (H7.out.later hb)
         clear hb c40 c41 c42
         obtain ⟨c50, c51, c52⟩ := H8.out.cells5
         go_wp2_with fail
         refine (HCN.out V8 H8.out.below).mono ?_
         rintro e V9 ⟨rfl, hb⟩
         have H9 := hid (H8.out.later hb)
         clear hb c50 c51 c52
         obtain ⟨c00, c01, c02, c03, c04, c10, c11, c12, c13, c14, c20, c21, c22, c23, c24, c25, c26, c27, c30, c31, c32, c33, c34, c35, c36, c37, c40, c41, c42, c50, c51, c52⟩ := H9.out.all
         have HSTL := hid (fun X : Later V9 => Calls.later_of (HST.out X.now ((H9.out.later X.since).below)))
         have HSUL := hid (fun X : Later V9 => Calls.later_of (HSU.out X.now ((H9.out.later X.since).below)))
         have HCTL := hid (fun X : Later V9 => Calls.later_of (HCT.out X.now ((H9.out.later X.since).below)))
         have HCUL := hid (fun X : Later V9 => Calls.later_of (HCU.out X.now ((H9.out.later X.since).below)))
         have HSPL := hid (fun X : Later V9 => Calls.later_of (HSP.out X.now ((H9.out.later X.since).below)))
         have HSQL := hid (fun X : Later V9 => Calls.later_of (HSQ.out X.now ((H9.out.later X.since).below)))
         have HCPL := hid (fun X : Later V9 => Calls.later_of (HCP.out X.now ((H9.out.later X.since).below)))
         have HCQL := hid (fun X : Later V9 => Calls.later_of (HCQ.out X.now ((H9.out.later X.since).below)))
         have HSML := hid (fun X : Later V9 => Calls.later_of (HSM.out X.now ((H9.out.later X.since).below)))
         have HSNL := hid (fun X : Later V9 => Calls.later_of (HSN.out X.now ((H9.out.later X.since).below)))
         go_wp2_with fail
         refine wp_region_later (by kernel_rfl) (by kernel_rfl) ?_
         repeat (go_big_quiet_step ((first | (go_at_call 15; first | with_reducible exact HSTL.out _ | with_reducible exact HSUL.out _) | (go_at_call 23; first | with_reducible exact HCTL.out _ | with_reducible exact HCUL.out _) | (go_at_call 19; first | with_reducible exact HSPL.out _ | with_reducible exact HSQL.out _) | (go_at_call 25; first | with_reducible exact HCPL.out _ | with_reducible exact HCQL.out _) | (go_at_call 20; first | with_reducible exact HSML.out _ | with_reducible exact HSNL.out _))))
         refine wpQuiet_nil ?_
         intro _ hw'
         obtain ⟨X5, hX⟩ := hw'
         subst hX
         clear c00 c01 c02 c03 c04 c10 c11 c12 c13 c14 c20 c21 c22 c23 c24 c25 c26 c27 c30 c31 c32 c33 c34 c35 c36 c37 c40 c41 c42 c50 c51 c52
         go_wp2_with fail
         go_ret
         exact ⟨by first | rfl | simp, (H9.out.later X5.since).below⟩
       | false =>
        cases R3 with
        | true =>
         obtain ⟨z1, z2⟩ := HQ3.out rfl
         rw [z1] at HSN
         obtain ⟨rfl, rfl⟩ := Prod.mk.inj z2
         clear z1 z2
         obtain ⟨c00, c01, c02, c03, c04⟩ := H4.out.cells0
         obtain ⟨c10, c11, c12, c13, c14⟩ := H4.out.cells1
         go_wp2_with fail
         refine (HUE.out V4 H4.out.below).mono ?_
         rintro e V5 ⟨rfl, hb⟩
         have H5 := hid (H4.out.later hb)
         clear hb c00 c01 c02 c03 c04 c10 c11 c12 c13 c14
         obtain ⟨c20, c21, c22, c23, c24, c25, c26, c27⟩ := H5.out.cells2
         obtain ⟨c30, c31, c32, c33, c34, c35, c36, c37⟩ := H5.out.cells3
         go_wp2_with fail
         refine (HQE.out V5 H5.out.below).mono ?_
         rintro e V6 ⟨rfl, hb⟩
         have H6 := hid (H5.out.later hb)
         clear hb c20 c21 c22 c23 c24 c25 c26 c27 c30 c31 c32 c33 c34 c35 c36 c37
         obtain ⟨c40, c41, c42⟩ := H6.out.cells4
         obtain ⟨c50, c51, c52⟩ := H6.out.cells5
         go_wp2_with fail
         refine (HNE.out V6 H6.out.below).mono ?_
         rintro e V7 ⟨rfl, hb⟩
         have H7 := hid (H6.out.later hb)
         clear hb c40 c41 c42 c50 c51 c52
         obtain ⟨c40, c41, c42⟩ := H7.out.cells4
         go_wp2_with fail
         refine (HCM.out V7 H7.out.below).mono ?_
         rintro e V8 ⟨rfl, hb⟩
         have H8 := hid (H7.out.later hb)
         clear hb c40 c41 c42
         obtain ⟨c50, c51, c52⟩ := H8.out.cells5
         go_wp2_with fail
         refine (HCN.out V8 H8.out.below).mono ?_
         rintro e V9 ⟨rfl, hb⟩
         have H9 := hid (H8.out.later hb)
         clear hb c50 c51 c52
         obtain ⟨c00, c01, c02, c03, c04, c10, c11, c12, c13, c14, c20, c21, c22, c23, c24, c25, c26, c27, c30, c31, c32, c33, c34, c35, c36, c37, c40, c41, c42, c50, c51, c52⟩ := H9.out.all
         have HSTL := hid (fun X : Later V9 => Calls.later_of (HST.out X.now ((H9.out.later X.since).below)))
         have HSUL := hid (fun X : Later V9 => Calls.later_of (HSU.out X.now ((H9.out.later X.since).below)))
         have HCTL := hid (fun X : Later V9 => Calls.later_of (HCT.out X.now ((H9.out.later X.since).below)))
         have HCUL := hid (fun X : Later V9 => Calls.later_of (HCU.out X.now ((H9.out.later X.since).below)))
         have HSPL := hid (fun X : Later V9 => Calls.later_of (HSP.out X.now ((H9.out.later X.since).below)))
         have HSQL := hid (fun X : Later V9 => Calls.later_of (HSQ.out X.now ((H9.out.later X.since).below)))
         have HCPL := hid (fun X : Later V9 => Calls.later_of (HCP.out X.now ((H9.out.later X.since).below)))
         have HCQL := hid (fun X : Later V9 => Calls.later_of (HCQ.out X.now ((H9.out.later X.since).below)))
         have HSML := hid (fun X : Later V9 => Calls.later_of (HSM.out X.now ((H9.out.later X.since).below)))
         have HSNL := hid (fun X : Later V9 => Calls.later_of (HSN.out X.now ((H9.out.later X.since).below)))
         go_wp2_with fail
         refine wp_region_later (by kernel_rfl) (by kernel_rfl) ?_
         repeat (go_big_quiet_step ((first | (go_at_call 15; first | with_reducible exact HSTL.out _ | with_reducible exact HSUL.out _) | (go_at_call 23; first | with_reducible exact HCTL.out _ | with_reducible exact HCUL.out _) | (go_at_call 19; first | with_reducible exact HSPL.out _ | with_reducible exact HSQL.out _) | (go_at_call 25; first | with_reducible exact HCPL.out _ | with_reducible exact HCQL.out _) | (go_at_call 20; first | with_reducible exact HSML.out _ | with_reducible exact HSNL.out _))))
         refine wpQuiet_nil ?_
         intro _ hw'
         obtain ⟨X5, hX⟩ := hw'
         subst hX
         clear c00 c01 c02 c03 c04 c10 c11 c12 c13 c14 c20 c21 c22 c23 c24 c25 c26 c27 c30 c31 c32 c33 c34 c35 c36 c37 c40 c41 c42 c50 c51 c52
         go_wp2_with fail
         go_ret
         exact ⟨by first | rfl | simp, (H9.out.later X5.since).below⟩
        | false =>
         obtain ⟨c00, c01, c02, c03, c04⟩ := H4.out.cells0
         obtain ⟨c10, c11, c12, c13, c14⟩ := H4.out.cells1
         go_wp2_with fail
         refine (HUE.out V4 H4.out.below).mono ?_
         rintro e V5 ⟨rfl, hb⟩
         have H5 := hid (H4.out.later hb)
         clear hb c00 c01 c02 c03 c04 c10 c11 c12 c13 c14
         obtain ⟨c20, c21, c22, c23, c24, c25, c26, c27⟩ := H5.out.cells2
         obtain ⟨c30, c31, c32, c33, c34, c35, c36, c37⟩ := H5.out.cells3
         go_wp2_with fail
         refine (HQE.out V5 H5.out.below).mono ?_
         rintro e V6 ⟨rfl, hb⟩
         have H6 := hid (H5.out.later hb)
         clear hb c20 c21 c22 c23 c24 c25 c26 c27 c30 c31 c32 c33 c34 c35 c36 c37
         obtain ⟨c40, c41, c42⟩ := H6.out.cells4
         obtain ⟨c50, c51, c52⟩ := H6.out.cells5
         go_wp2_with fail
         refine (HNE.out V6 H6.out.below).mono ?_
         rintro e V7 ⟨rfl, hb⟩
         have H7 := hid (H6.out.later hb)
         clear hb c40 c41 c42 c50 c51 c52
         obtain ⟨c40, c41, c42⟩ := H7.out.cells4
         go_wp2_with fail
         refine (HCM.out V7 H7.out.below).mono ?_
         rintro e V8 ⟨rfl, hb⟩
         have H8 := hid (H7.out.later hb)
         clear hb c40 c41 c42
         obtain ⟨c50, c51, c52⟩ := H8.out.cells5
         go_wp2_with fail
         refine (HCN.out V8 H8.out.below).mono ?_
         rintro e V9 ⟨rfl, hb⟩
         have H9 := hid (H8.out.later hb)
         clear hb c50 c51 c52
         obtain ⟨c00, c01, c02, c03, c04, c10, c11, c12, c13, c14, c20, c21, c22, c23, c24, c25, c26, c27, c30, c31, c32, c33, c34, c35, c36, c37, c40, c41, c42, c50, c51, c52⟩ := H9.out.all
         have HSTL := hid (fun X : Later V9 => Calls.later_of (HST.out X.now ((H9.out.later X.since).below)))
         have HSUL := hid (fun X : Later V9 => Calls.later_of (HSU.out X.now ((H9.out.later X.since).below)))
         have HCTL := hid (fun X : Later V9 => Calls.later_of (HCT.out X.now ((H9.out.later X.since).below)))
         have HCUL := hid (fun X : Later V9 => Calls.later_of (HCU.out X.now ((H9.out.later X.since).below)))
         have HSPL := hid (fun X : Later V9 => Calls.later_of (HSP.out X.now ((H9.out.later X.since).below)))
         have HSQL := hid (fun X : Later V9 => Calls.later_of (HSQ.out X.now ((H9.out.later X.since).below)))
         have HCPL := hid (fun X : Later V9 => Calls.later_of (HCP.out X.now ((H9.out.later X.since).below)))
         have HCQL := hid (fun X : Later V9 => Calls.later_of (HCQ.out X.now ((H9.out.later X.since).below)))
         have HSML := hid (fun X : Later V9 => Calls.later_of (HSM.out X.now ((H9.out.later X.since).below)))
         have HSNL := hid (fun X : Later V9 => Calls.later_of (HSN.out X.now ((H9.out.later X.since).below)))
         go_wp2_with fail
         refine wp_region_later (by kernel_rfl) (by kernel_rfl) ?_
         repeat (go_big_quiet_step ((first | (go_at_call 15; first | with_reducible exact HSTL.out _ | with_reducible exact HSUL.out _) | (go_at_call 23; first | with_reducible exact HCTL.out _ | with_reducible exact HCUL.out _) | (go_at_call 19; first | with_reducible exact HSPL.out _ | with_reducible exact HSQL.out _) | (go_at_call 25; first | with_reducible exact HCPL.out _ | with_reducible exact HCQL.out _) | (go_at_call 20; first | with_reducible exact HSML.out _ | with_reducible exact HSNL.out _))))
         refine wpQuiet_nil ?_
         intro _ hw'
         obtain ⟨X5, hX⟩ := hw'
         subst hX
         clear c00 c01 c02 c03 c04 c10 c11 c12 c13 c14 c20 c21 c22 c23 c24 c25 c26 c27 c30 c31 c32 c33 c34 c35 c36 c37 c40 c41 c42 c50 c51 c52
         go_wp2_with fail
         go_ret
         exact ⟨by first | rfl | simp, (H9.out.later X5.since).below⟩
end Go.Proofs.YtnkhebgjhipepaaGreatDoor
