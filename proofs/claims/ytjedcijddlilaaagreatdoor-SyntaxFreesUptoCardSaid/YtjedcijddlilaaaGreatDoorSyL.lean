/- syntax: what SyntaxComposes does; its regions as flows of data. | syntax: what the last region of SyntaxComposes leaves in its slots. -/
import Derived.Test.YtjedcijddlilaaaGreatDoorSyOp
import Derived.Test.YtjedcijddlilaaaGreatDoorSyA3
import Derived.Test.YtjedcijddlilaaaGreatDoorFlow
namespace Go.Proofs.YtjedcijddlilaaaGreatDoor
open Go.RowKit Go.Shelf
attribute [local go_sem] Oper.semAt_some

/-- The three boxes of the law. -/
structure Bx (W : World) (x1 x2 x3 : TyI W) (w : World) : Prop where
  below : Below W.heap.size W w
  row1 : w.heap[W.heap.size]? = some (.cells #[.int .i64 x1.t.k, .string x1.t.m, .string x1.t.n, .slice x1.aa x1.t.A.len x1.ca, .slice x1.af x1.t.F.len x1.cf] 25 (0, 0))
  row2 : w.heap[W.heap.size + 1]? = some (.cells #[.int .i64 x2.t.k, .string x2.t.m, .string x2.t.n, .slice x2.aa x2.t.A.len x2.ca, .slice x2.af x2.t.F.len x2.cf] 25 (0, 0))
  row3 : w.heap[W.heap.size + 1 + 1]? = some (.cells #[.int .i64 x3.t.k, .string x3.t.m, .string x3.t.n, .slice x3.aa x3.t.A.len x3.ca, .slice x3.af x3.t.F.len x3.cf] 25 (0, 0))
theorem Bx.later {W : World} {x1 x2 x3 : TyI W} {w w' : World} (h : Bx W x1 x2 x3 w) (hb : Below w.heap.size w w') : Bx W x1 x2 x3 w' :=
  ⟨h.below.trans (hb.mono h.below.size), (hb.block _ (Array.getElem?_eq_some_iff.1 h.row1).1).trans h.row1, (hb.block _ (Array.getElem?_eq_some_iff.1 h.row2).1).trans h.row2, (hb.block _ (Array.getElem?_eq_some_iff.1 h.row3).1).trans h.row3⟩
def OneS (s : ByteArray) (v : Value) (w : World) : Prop := ∃ g, v = .slice (some ⟨g, 0, none⟩) 1 1 ∧ w.heap[g]? = some (.cells #[.string s] 9 (0, 0))
def OneX {W : World} (x : TyI W) (v : Value) (w : World) : Prop := ∃ g, v = .slice (some ⟨g, 0, none⟩) 1 1 ∧ w.heap[g]? = some (.cells x.cells 25 (0, 0))
def IsT (t : Ty) (v : Value) (w : World) : Prop := ∃ r : TyC, v = r.v ∧ r.t = t ∧ TyV w r.v r.t
def ZeroB (b0 : Nat) (v : Value) (w : World) : Prop := ∃ b, v = .pointer (some ⟨b, 0, none⟩) ∧ b0 ≤ b ∧ w.heap[b]? = some (.cells #[.int .i64 0, .string ⟨#[]⟩, .string ⟨#[]⟩, .slice none 0 0, .slice none 0 0] 25 (0, 0))
theorem heap_later {w w' : World} {g : Nat} {o : Obj} (hb : Below w.heap.size w w') (h : w.heap[g]? = some o) : w'.heap[g]? = some o := (hb.block _ (Array.getElem?_eq_some_iff.1 h).1).trans h
theorem OneS.later {s : ByteArray} {v : Value} {w w' : World} (h : OneS s v w) (hb : Below w.heap.size w w') : OneS s v w' := by obtain ⟨g, h1, h2⟩ := h; exact ⟨g, h1, heap_later hb h2⟩
theorem OneX.later {W : World} {x : TyI W} {v : Value} {w w' : World} (h : OneX x v w) (hb : Below w.heap.size w w') : OneX x v w' := by obtain ⟨g, h1, h2⟩ := h; exact ⟨g, h1, heap_later hb h2⟩
theorem IsT.later {t : Ty} {v : Value} {w w' : World} (h : IsT t v w) (hb : Below w.heap.size w w') : IsT t v w' := by obtain ⟨r, h1, h2, h3⟩ := h; exact ⟨r, h1, h2, TyV_below h3 hb⟩
theorem ZeroB.later {b : Nat} {v : Value} {w w' : World} (h : ZeroB b v w) (hb : Below w.heap.size w w') : ZeroB b v w' := by obtain ⟨g, h1, h2, h3⟩ := h; exact ⟨g, h1, h2, heap_later hb h3⟩
def Fact5 {W : World} (x1 x2 x3 : TyI W) (sx sy : ByteArray) : Nat → Value → World → Prop
  | 0, v, _ => v = .agg #[.int .i64 x1.t.k, .string x1.t.m, .string x1.t.n, .slice x1.aa x1.t.A.len x1.ca, .slice x1.af x1.t.F.len x1.cf]
  | 1, v, _ => v = .string sx
  | 2, v, w => OneS sx v w
  | 3, v, _ => v = .agg #[.int .i64 x2.t.k, .string x2.t.m, .string x2.t.n, .slice x2.aa x2.t.A.len x2.ca, .slice x2.af x2.t.F.len x2.cf]
  | 4, v, w => OneX x2 v w
  | 5, v, w => IsT (x1.t.sub (findTy [sx] (oneT x2.t))) v w
  | 6, v, _ => v = .string sy
  | 7, v, w => OneS sy v w
  | 8, v, _ => v = .agg #[.int .i64 x3.t.k, .string x3.t.m, .string x3.t.n, .slice x3.aa x3.t.A.len x3.ca, .slice x3.af x3.t.F.len x3.cf]
  | 9, v, w => OneX x3 v w
  | 11, v, w => ZeroB (W.heap.size + 3) v w
  | _, _, _ => True
theorem Fact5.later {W : World} {x1 x2 x3 : TyI W} {sx sy : ByteArray} {w w' : World} (hb : Below w.heap.size w w') : ∀ j v, Fact5 x1 x2 x3 sx sy j v w → Fact5 x1 x2 x3 sx sy j v w' := by
  intro j v h
  match j, h with
  | 0, h => exact h
  | 1, h => exact h
  | 2, h => exact OneS.later h hb
  | 3, h => exact h
  | 4, h => exact OneX.later h hb
  | 5, h => exact IsT.later h hb
  | 6, h => exact h
  | 7, h => exact OneS.later h hb
  | 8, h => exact h
  | 9, h => exact OneX.later h hb
  | 10, _ => trivial
  | 11, h => exact ZeroB.later h hb
  | _ + 12, _ => trivial
theorem row_one {W : World} {x : TyI W} {v : Value} {w : World} (hW : Below W.heap.size W w) (h : OneX x v w) : ∃ g, v = .slice (some ⟨g, 0, none⟩) (oneT x.t).len 1 ∧ Lies w (oneT x.t) false g 0 := by
  obtain ⟨g, h1, h2⟩ := h
  have hA := SlW_below (⟨_, _, rfl, x.ha⟩ : SlW W (.slice x.aa x.t.A.len x.ca) x.t.A false) hW
  have hF := SlW_below (⟨_, _, rfl, x.hf⟩ : SlW W (.slice x.af x.t.F.len x.cf) x.t.F true) hW
  obtain ⟨a1, c1, ha1, hA⟩ := hA
  obtain ⟨a2, c2, ha2, hF⟩ := hF
  cases ha1
  cases ha2
  exact ⟨g, h1, fun h => (by cases h), ⟨cell_of_row w _ 0 _ _ _ h2, x.hk⟩, cell_of_row w _ 1 _ _ _ h2, cell_of_row w _ 2 _ _ _ h2, ⟨_, _, cell_of_row w _ 3 _ _ _ h2, hA⟩, ⟨_, _, cell_of_row w _ 4 _ _ _ h2, hF⟩, trivial⟩

/-- The call's result (operation kc, slot sc) and the box (operation ka, slot sa) lie apart. -/
structure RelB (kc ka sc sa : Nat) (t : Ty) (listed : Array Bool) (a : Act) (w : World) : Prop where
  box : listed.getD ka false = true → ∃ b, a.tmps.getD sa undef = .pointer (some ⟨b, 0, none⟩) ∧ b < w.heap.size
  res : listed.getD kc false = true → ∃ r : TyC, a.tmps.getD sc undef = r.v ∧ r.t = t ∧ r.Ok w (fun i => i < w.heap.size)
  both : listed.getD ka false = true → listed.getD kc false = true → ∃ (r : TyC) (b : Nat), a.tmps.getD sa undef = .pointer (some ⟨b, 0, none⟩) ∧ a.tmps.getD sc undef = r.v ∧ r.t = t ∧ r.Ok w (fun i => i ≠ b)
theorem ok_keep {r : TyC} {w w' : World} {P Q : Nat → Prop} (h : r.Ok w P) (hb : Below w.heap.size w w') (hPQ : ∀ i, P i → Q i) : r.Ok w' Q := h.keep (X := fun _ => False) (KeepX.of_below hb) fun i hi => ⟨fun h => h, hPQ i hi⟩
theorem RelB.step {kc ka sc sa i : Nat} {t : Ty} {listed : Array Bool} {a a' : Act} {w w' : World} (h : RelB kc ka sc sa t listed a w) (h1 : i ≠ kc) (h2 : i ≠ ka) (h3 : a'.tmps.getD sc undef = a.tmps.getD sc undef) (h4 : a'.tmps.getD sa undef = a.tmps.getD sa undef) (hb : Below w.heap.size w w') :
    RelB kc ka sc sa t (listed.setIfInBounds i true) a' w' := by
  refine ⟨fun hl => ?_, fun hl => ?_, fun hl hl2 => ?_⟩
  · rw [getD_set_ne false h2] at hl
    obtain ⟨b, h5, h6⟩ := h.box hl
    exact ⟨b, h4.trans h5, Nat.lt_of_lt_of_le h6 hb.size⟩
  · rw [getD_set_ne false h1] at hl
    obtain ⟨r, h5, h6, h7⟩ := h.res hl
    exact ⟨r, h3.trans h5, h6, ok_keep h7 hb fun i hi => Nat.lt_of_lt_of_le hi hb.size⟩
  · rw [getD_set_ne false h2] at hl
    rw [getD_set_ne false h1] at hl2
    obtain ⟨r, b, h5, h6, h7, h8⟩ := h.both hl hl2
    exact ⟨r, b, h4.trans h5, h3.trans h6, h7, ok_keep h8 hb fun i hi => hi⟩
theorem RelB.call {kc ka sc sa : Nat} {t : Ty} {listed : Array Bool} {a a' : Act} {w w' : World} (h : RelB kc ka sc sa t listed a w) (hk : kc ≠ ka) (h4 : a'.tmps.getD sa undef = a.tmps.getD sa undef) (hb : Below w.heap.size w w') {r : TyC} (h3 : a'.tmps.getD sc undef = r.v) (ht : r.t = t) (hok : r.Ok w' (fun i => w.heap.size ≤ i ∧ i < w'.heap.size)) :
    RelB kc ka sc sa t (listed.setIfInBounds kc true) a' w' := by
  refine ⟨fun hl => ?_, fun _ => ⟨r, h3, ht, ok_keep hok (Below.refl _ _) fun i hi => hi.2⟩, fun hl _ => ?_⟩
  · rw [getD_set_ne false hk] at hl
    obtain ⟨b, h5, h6⟩ := h.box hl
    exact ⟨b, h4.trans h5, Nat.lt_of_lt_of_le h6 hb.size⟩
  · rw [getD_set_ne false hk] at hl
    obtain ⟨b, h5, h6⟩ := h.box hl
    exact ⟨r, b, h4.trans h5, h3, ht, ok_keep hok (Below.refl _ _) fun i hi e => by have := hi.1; omega⟩
theorem RelB.alloc {kc ka sc sa : Nat} {t : Ty} {listed : Array Bool} {a a' : Act} {w w' : World} (h : RelB kc ka sc sa t listed a w) (hk : ka ≠ kc) (h3 : a'.tmps.getD sc undef = a.tmps.getD sc undef) (hb : Below w.heap.size w w') (h4 : a'.tmps.getD sa undef = .pointer (some ⟨w.heap.size, 0, none⟩)) (hlt : w.heap.size < w'.heap.size) :
    RelB kc ka sc sa t (listed.setIfInBounds ka true) a' w' := by
  refine ⟨fun _ => ⟨_, h4, hlt⟩, fun hl => ?_, fun _ hl => ?_⟩
  · rw [getD_set_ne false hk] at hl
    obtain ⟨r, h5, h6, h7⟩ := h.res hl
    exact ⟨r, h3.trans h5, h6, ok_keep h7 hb fun i hi => Nat.lt_of_lt_of_le hi hb.size⟩
  · rw [getD_set_ne false hk] at hl
    obtain ⟨r, h5, h6, h7⟩ := h.res hl
    exact ⟨r, _, h4, h3.trans h5, h6, ok_keep h7 hb fun i hi e => by omega⟩
theorem relB_start (kc ka sc sa n : Nat) (t : Ty) (a : Act) (w : World) : RelB kc ka sc sa t (Array.replicate n false) a w :=
  ⟨fun h => (by rw [getD_replicate_false] at h; cases h), fun h => (by rw [getD_replicate_false] at h; cases h), fun h => (by rw [getD_replicate_false] at h; cases h)⟩

structure Bx6 (W : World) (x1 x2 x3 : TyI W) (V6 : World) (w : World) : Prop where
  below : Below W.heap.size W w
  row1 : w.heap[W.heap.size]? = some (.cells #[.int .i64 x1.t.k, .string x1.t.m, .string x1.t.n, .slice x1.aa x1.t.A.len x1.ca, .slice x1.af x1.t.F.len x1.cf] 25 (0, 0))
  row2 : w.heap[W.heap.size + 1]? = some (.cells #[.int .i64 x2.t.k, .string x2.t.m, .string x2.t.n, .slice x2.aa x2.t.A.len x2.ca, .slice x2.af x2.t.F.len x2.cf] 25 (0, 0))
  row3 : w.heap[W.heap.size + 1 + 1]? = some (.cells #[.int .i64 x3.t.k, .string x3.t.m, .string x3.t.n, .slice x3.aa x3.t.A.len x3.ca, .slice x3.af x3.t.F.len x3.cf] 25 (0, 0))
  b6 : Below V6.heap.size V6 w
theorem Bx6.later {W : World} {x1 x2 x3 : TyI W} {V6 w w' : World} (h : Bx6 W x1 x2 x3 V6 w) (hb : Below w.heap.size w w') : Bx6 W x1 x2 x3 V6 w' :=
  ⟨h.below.trans (hb.mono h.below.size), heap_later hb h.row1, heap_later hb h.row2, heap_later hb h.row3, h.b6.trans (hb.mono h.b6.size)⟩
def TwoS (s t : ByteArray) (v : Value) (w : World) : Prop := ∃ g, v = .slice (some ⟨g, 0, none⟩) 2 2 ∧ w.heap[g]? = some (.cells #[.string s, .string t] 9 (0, 0))
theorem TwoS.later {s t : ByteArray} {v : Value} {w w' : World} (h : TwoS s t v w) (hb : Below w.heap.size w w') : TwoS s t v w' := by obtain ⟨g, h1, h2⟩ := h; exact ⟨g, h1, heap_later hb h2⟩
theorem rowS_two {W : World} {b : Nat} {s t : ByteArray} {ty : TypeId} (h : W.heap[b]? = some (.cells #[.string s, .string t] ty (0, 0))) : RowS W [s, t] (some ⟨b, 0, none⟩) :=
  .inr ⟨b, 0, rfl, fun i u hu => by
    match i, hu with
    | 0, hu => cases hu; exact cell_of_row W b 0 _ _ _ h
    | 1, hu => cases hu; exact cell_of_row W b 1 _ _ _ h
    | i + 2, hu => simp at hu⟩
def TwoX {W : World} (t : Ty) (x3 : TyI W) (v : Value) (w : World) : Prop := ∃ (g : Nat) (r : TyC), v = .slice (some ⟨g, 0, none⟩) 2 2 ∧ r.t = t ∧ TyV w r.v r.t ∧ w.heap[g]? = some (.cells #[.int .i64 r.t.k, .string r.t.m, .string r.t.n, .slice r.aa r.t.A.len r.ca, .slice r.af r.t.F.len r.cf, .int .i64 x3.t.k, .string x3.t.m, .string x3.t.n, .slice x3.aa x3.t.A.len x3.ca, .slice x3.af x3.t.F.len x3.cf] 25 (0, 0))
theorem TwoX.later {W : World} {t : Ty} {x : TyI W} {v : Value} {w w' : World} (h : TwoX t x v w) (hb : Below w.heap.size w w') : TwoX t x v w' := by
  obtain ⟨g, r, h1, h2, h3, h4⟩ := h; exact ⟨g, r, h1, h2, TyV_below h3 hb, heap_later hb h4⟩
theorem row_two {W : World} {t : Ty} {x : TyI W} {v : Value} {w : World} (hW : Below W.heap.size W w) (h : TwoX t x v w) : ∃ g, v = .slice (some ⟨g, 0, none⟩) (twoT t x.t).len 2 ∧ Lies w (twoT t x.t) false g 0 := by
  obtain ⟨g, r, h1, h2, h3, h4⟩ := h
  have hA := SlW_below (⟨_, _, rfl, x.ha⟩ : SlW W (.slice x.aa x.t.A.len x.ca) x.t.A false) hW
  have hF := SlW_below (⟨_, _, rfl, x.hf⟩ : SlW W (.slice x.af x.t.F.len x.cf) x.t.F true) hW
  obtain ⟨a1, c1, ha1, hA⟩ := hA
  obtain ⟨a2, c2, ha2, hF⟩ := hF
  cases ha1
  cases ha2
  obtain ⟨va, vf, hv, hk, ⟨a3, c3, ha3, hA3⟩, ⟨a4, c4, ha4, hF4⟩⟩ := h3
  simp only [TyC.v, TyC.cells, Value.agg.injEq, Array.mk.injEq, List.cons.injEq, and_true, true_and] at hv
  obtain ⟨rfl, rfl⟩ := hv
  cases ha3
  cases ha4
  subst h2
  exact ⟨g, h1, (fun h => (by cases h)), ⟨cell_of_row w _ 0 _ _ _ h4, hk⟩, cell_of_row w _ 1 _ _ _ h4, cell_of_row w _ 2 _ _ _ h4, ⟨_, _, cell_of_row w _ 3 _ _ _ h4, hA3⟩, ⟨_, _, cell_of_row w _ 4 _ _ _ h4, hF4⟩,
    (fun h => (by cases h)), ⟨cell_of_row w _ 5 _ _ _ h4, x.hk⟩, cell_of_row w _ 6 _ _ _ h4, cell_of_row w _ 7 _ _ _ h4, ⟨_, _, cell_of_row w _ 8 _ _ _ h4, hA⟩, ⟨_, _, cell_of_row w _ 9 _ _ _ h4, hF⟩, trivial⟩
def Fact6 {W : World} (x1 x2 x3 : TyI W) (sx sy : ByteArray) (B6 : Nat) : Nat → Value → World → Prop
  | 0, v, _ => v = .agg #[.int .i64 x1.t.k, .string x1.t.m, .string x1.t.n, .slice x1.aa x1.t.A.len x1.ca, .slice x1.af x1.t.F.len x1.cf]
  | 1, v, _ => v = .string sx
  | 2, v, _ => v = .string sy
  | 3, v, w => TwoS sx sy v w
  | 4, v, _ => v = .agg #[.int .i64 x2.t.k, .string x2.t.m, .string x2.t.n, .slice x2.aa x2.t.A.len x2.ca, .slice x2.af x2.t.F.len x2.cf]
  | 5, v, _ => v = .string sy
  | 6, v, w => OneS sy v w
  | 7, v, _ => v = .agg #[.int .i64 x3.t.k, .string x3.t.m, .string x3.t.n, .slice x3.aa x3.t.A.len x3.ca, .slice x3.af x3.t.F.len x3.cf]
  | 8, v, w => OneX x3 v w
  | 9, v, w => IsT (x2.t.sub (findTy [sy] (oneT x3.t))) v w
  | 10, v, _ => v = .agg #[.int .i64 x3.t.k, .string x3.t.m, .string x3.t.n, .slice x3.aa x3.t.A.len x3.ca, .slice x3.af x3.t.F.len x3.cf]
  | 11, v, w => TwoX (x2.t.sub (findTy [sy] (oneT x3.t))) x3 v w
  | 13, v, w => ZeroB B6 v w
  | _, _, _ => True
theorem Fact6.later {W : World} {x1 x2 x3 : TyI W} {sx sy : ByteArray} {B6 : Nat} {w w' : World} (hb : Below w.heap.size w w') : ∀ j v, Fact6 x1 x2 x3 sx sy B6 j v w → Fact6 x1 x2 x3 sx sy B6 j v w' := by
  intro j v h
  match j, h with
  | 0, h => exact h
  | 1, h => exact h
  | 2, h => exact h
  | 3, h => exact TwoS.later h hb
  | 4, h => exact h
  | 5, h => exact h
  | 6, h => exact OneS.later h hb
  | 7, h => exact h
  | 8, h => exact OneX.later h hb
  | 9, h => exact IsT.later h hb
  | 10, h => exact h
  | 11, h => exact TwoX.later h hb
  | 12, _ => trivial
  | 13, h => exact ZeroB.later h hb
  | _ + 14, _ => trivial
/-- What is before the first drawn region. -/
def Fx5 (W : World) (sx sy : ByteArray) (a : Act) : Prop := ∃ u0 u1 u2 u8 u9 u10 u11 u12 u13 u14 u15 u16 u17 u18 u19 u20 u21 u22 u23 u24 u25 u26 u27 u28 u29 u30 u31 u32 u33 u34 u35 u36 u37 u38 u39 u40 u41 u42 u43 u44 u45 u46 u47 u48 u49 u50 u51 u52 u53 u54 u55 u56 u57 u58 u59 u60 u61 u62 u63 u64 u65 u66 u67 : Value, a = { tmps := #[u0, u1, u2, .string sx, .string sy, .pointer (some ⟨W.heap.size, 0, none⟩), .pointer (some ⟨W.heap.size + 1, 0, none⟩), .pointer (some ⟨W.heap.size + 1 + 1, 0, none⟩), u8, u9, u10, u11, u12, u13, u14, u15, u16, u17, u18, u19, u20, u21, u22, u23, u24, u25, u26, u27, u28, u29, u30, u31, u32, u33, u34, u35, u36, u37, u38, u39, u40, u41, u42, u43, u44, u45, u46, u47, u48, u49, u50, u51, u52, u53, u54, u55, u56, u57, u58, u59, u60, u61, u62, u63, u64, u65, u66, u67], defers := [] }
def Fx6 (W : World) (sx sy : ByteArray) (ba : Nat) (a : Act) : Prop := ∃ u0 u1 u2 u8 u9 u10 u12 u13 u14 u15 u16 u17 u18 u19 u20 u21 u22 u23 u24 u25 u26 u27 u28 u29 u30 u31 u32 u33 u34 u35 u36 u37 u38 u39 u40 u41 u42 u43 u44 u45 u46 u47 u48 u49 u50 u51 u52 u53 u54 u55 u56 u57 u58 u59 u60 u61 u62 u63 u64 u65 u66 u67 : Value, a = { tmps := #[u0, u1, u2, .string sx, .string sy, .pointer (some ⟨W.heap.size, 0, none⟩), .pointer (some ⟨W.heap.size + 1, 0, none⟩), .pointer (some ⟨W.heap.size + 1 + 1, 0, none⟩), u8, u9, u10, .pointer (some ⟨ba, 0, none⟩), u12, u13, u14, u15, u16, u17, u18, u19, u20, u21, u22, u23, u24, u25, u26, u27, u28, u29, u30, u31, u32, u33, u34, u35, u36, u37, u38, u39, u40, u41, u42, u43, u44, u45, u46, u47, u48, u49, u50, u51, u52, u53, u54, u55, u56, u57, u58, u59, u60, u61, u62, u63, u64, u65, u66, u67], defers := [] }
end Go.Proofs.YtjedcijddlilaaaGreatDoor

namespace Go.Proofs.YtjedcijddlilaaaGreatDoor
open Go.RowKit Go.Shelf

/-- The free variables, as strings. -/
def FL (t : Ty) : List ByteArray := (freeL t).map fun l => ⟨l.toArray⟩
theorem FL_len (t : Ty) : (FL t).length = (freeL t).length := List.length_map _
theorem dedup_len (l : List (List UInt8)) : (dedup l).length ≤ l.length := by
  induction l with
  | nil => exact Nat.le_refl _
  | cons y l ih =>
    unfold dedup
    split
    · simp; omega
    · simp; omega
theorem freeL_len (t : Ty) : (freeL t).length ≤ t.size := by
  unfold freeL
  rw [List.length_mergeSort]
  refine Nat.le_trans (dedup_len _) ?_
  unfold varsL
  rw [List.length_map, ← Ty.nodes_len]
  exact List.length_filter_le _ _
theorem idx_mem {s : ByteArray} : ∀ {ns : List ByteArray}, s ∈ ns → idxN ns s < ns.length := by
  intro ns
  induction ns with
  | nil => intro h; cases h
  | cons x ns ih =>
    intro h
    unfold idxN
    by_cases hx : s = x
    · rw [if_pos hx]; simp
    · rw [if_neg hx]
      have := ih (by rcases List.mem_cons.1 h with h | h; exact absurd h hx; exact h)
      simp; omega
theorem not_free {t : Ty} {s : ByteArray} (h : ¬ idxN (FL t) s < (FL t).length) : ¬ s.data.toList ∈ freeL t := fun hm => h (idx_mem (List.mem_map.2 ⟨_, hm, by simp⟩))
def FreeS (t : Ty) (v : Value) (w : World) : Prop := ∃ p c, v = .slice p (freeL t).length c ∧ RowS w (FL t) p
theorem FreeS.later {t : Ty} {v : Value} {w w' : World} (h : FreeS t v w) (hb : Below w.heap.size w w') : FreeS t v w' := by obtain ⟨p, c, h1, h2⟩ := h; exact ⟨p, c, h1, h2.below hb⟩
def Fact9 {W : World} (x1 x2 : TyI W) (sx : ByteArray) (cv : Bool) : Nat → Value → World → Prop
  | 0, v, _ => v = .agg #[.int .i64 x1.t.k, .string x1.t.m, .string x1.t.n, .slice x1.aa x1.t.A.len x1.ca, .slice x1.af x1.t.F.len x1.cf]
  | 1, v, w => FreeS x1.t v w
  | 2, v, _ => v = .string sx
  | 3, v, _ => v = .bool cv
  | 4, v, _ => v = .bool cv
  | 5, v, _ => cv = false → v = .agg #[.int .i64 x1.t.k, .string x1.t.m, .string x1.t.n, .slice x1.aa x1.t.A.len x1.ca, .slice x1.af x1.t.F.len x1.cf]
  | 6, v, _ => cv = false → v = .string sx
  | 7, v, w => cv = false → OneS sx v w
  | 8, v, _ => cv = false → v = .agg #[.int .i64 x2.t.k, .string x2.t.m, .string x2.t.n, .slice x2.aa x2.t.A.len x2.ca, .slice x2.af x2.t.F.len x2.cf]
  | 9, v, w => cv = false → OneX x2 v w
  | 10, v, w => cv = false → IsT (x1.t.sub (findTy [sx] (oneT x2.t))) v w
  | 11, v, _ => cv = false → v = .agg #[.int .i64 x1.t.k, .string x1.t.m, .string x1.t.n, .slice x1.aa x1.t.A.len x1.ca, .slice x1.af x1.t.F.len x1.cf]
  | 12, v, _ => cv = false → v = .bool true
  | 13, v, _ => v = .bool true
  | _, _, _ => True
theorem Fact9.later {W : World} {x1 x2 : TyI W} {sx : ByteArray} {cv : Bool} {w w' : World} (hb : Below w.heap.size w w') : ∀ j v, Fact9 x1 x2 sx cv j v w → Fact9 x1 x2 sx cv j v w' := by
  intro j v h
  match j, h with
  | 0, h => exact h
  | 1, h => exact FreeS.later h hb
  | 2, h => exact h
  | 3, h => exact h
  | 4, h => exact h
  | 5, h => exact h
  | 6, h => exact h
  | 7, h => exact fun e => OneS.later (h e) hb
  | 8, h => exact h
  | 9, h => exact fun e => OneX.later (h e) hb
  | 10, h => exact fun e => IsT.later (h e) hb
  | 11, h => exact h
  | 12, h => exact h
  | 13, h => exact h
  | _ + 14, _ => trivial
end Go.Proofs.YtjedcijddlilaaaGreatDoor
