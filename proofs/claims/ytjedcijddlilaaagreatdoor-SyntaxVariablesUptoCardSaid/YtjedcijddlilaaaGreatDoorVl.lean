/- syntax: arguments that are lists of strings and of types. | syntax: what SyntaxVariables does. -/
import Derived.Test.YtjedcijddlilaaaGreatDoorSyOp
import Derived.SliceStrings
import Derived.Test.YtjedcijddlilaaaGreatDoorRfV
import Derived.Test.YtjedcijddlilaaaGreatDoorRf
import Derived.Test.YtjedcijddlilaaaGreatDoorRqV
import Derived.Test.YtjedcijddlilaaaGreatDoorRg
import Derived.Test.YtjedcijddlilaaaGreatDoorRs
import Derived.Test.YtjedcijddlilaaaGreatDoorMn
import Derived.Test.YtjedcijddlilaaaGreatDoorSyL
namespace Go.Proofs.YtjedcijddlilaaaGreatDoor
open Go.ChangeShapes Go.WideShapes Go.ChangeAt Go.RowKit

theorem bulk_strsA {H : Type} (l : List ByteArray) : Rows.uptoBulkAll (strs (H := H) l) = l.length + (l.map (·.size)).sum := by
  induction l with
  | nil => rfl
  | cons s l ih =>
    have e : strs (H := H) (s :: l) = .lit (.string s.data.toList) :: strs l := rfl
    rw [e, Rows.uptoBulkAll, ih, Rows.uptoBulk, List.map_cons, List.sum_cons, List.length_cons]
    have : s.data.toList.length = s.size := by rw [Array.length_toList]; rfl
    omega
theorem size_sum {l : List ByteArray} {s : ByteArray} (h : s ∈ l) : s.size ≤ (l.map (·.size)).sum := by
  induction l with
  | nil => cases h
  | cons x l ih =>
    rw [List.map_cons, List.sum_cons]
    rcases List.mem_cons.1 h with rfl | h
    · omega
    · have := ih h; omega
section
variable {H : Type} {enc : TypeId × Value → H} {W : World} {base : Nat} {v : Value} {d : DataW H} {p : List MemPlace}
set_option maxRecDepth 100000 in
theorem open_strsA (hval : Value.okWide Tryz.prog W .any base 44 v) (h : DataW.Trod enc Tryz.prog W 0 (fun _ => true) true 44 v d p) :
    ∃ (ns : List ByteArray) (an : Option Addr) (cn : Nat), v = .slice an ns.length cn ∧ RowS W ns an ∧ ns.length ≤ Rows.uptoBulk d ∧ ∀ s ∈ ns, s.size ≤ Rows.uptoBulk d := by
  obtain ⟨c, len, cap, rfl⟩ := okWide_slice Tryz.underlying44 hval
  obtain ⟨fuel, hf⟩ := h
  rcases open_strings Tryz.underlying44 Tryz.underlying9 cells_str hf with ⟨hcs, hx⟩ | ⟨a, len', cap', ss, hcs, _, hl, hm, hz, hx, hcell, hsz⟩
  · have hv : Value.slice c len cap = .slice none 0 0 := by
      have : [Value.slice c len cap] = [.slice none 0 0] := hcs
      injection this
    exact ⟨[], none, 0, hv, .inl rfl, Nat.zero_le _, fun s hs => by cases hs⟩
  · have hv : Value.slice c len cap = .slice (some a) len' cap' := by
      have : [Value.slice c len cap] = [.slice (some a) len' cap'] := hcs
      injection this
    injection hx with hx _
    subst hx
    rw [if_pos rfl] at hz
    have hlt : (ss.take len').length = len' := by rw [List.length_take, Nat.min_eq_left (by omega)]
    have hbk := bulk_strsA (H := H) (ss.take len')
    refine ⟨ss.take len', some a, cap', by rw [hv, hlt], ?_, ?_, fun s hs => ?_⟩
    · by_cases h0 : 0 < len'
      · have hsp : a.spot = none := by
          have h9 := hcell 0 (by omega)
          rw [Addr.add_zero'] at h9
          cases hs : a.spot with
          | none => rfl
          | some s => simp [World.cell?, hs] at h9; split at h9 <;> simp at h9
        obtain ⟨b, o, sp⟩ := a
        have hs2 : sp = none := hsp
        subst hs2
        refine .inr ⟨b, o, rfl, fun i s hs => ?_⟩
        have hi : i < len' := by have := (List.getElem?_eq_some_iff.1 hs).1; omega
        have h9 := hcell i (by omega)
        rw [Addr.add_lit] at h9
        rw [h9]
        rw [List.getElem?_take, if_pos hi] at hs
        simp only [List.getD, hs, Option.getD_some]
      · exact .inl (List.eq_nil_of_length_eq_zero (by omega))
    · rw [Rows.uptoBulk]
      omega
    · have := size_sum hs
      rw [Rows.uptoBulk]
      omega
set_option maxRecDepth 100000 in
theorem open_tysA (hval : Value.okWide Tryz.prog W .any base 22 v) (h : DataW.Trod enc Tryz.prog W 0 (fun _ => true) true 22 v d p) :
    ∃ (ts : Tr) (ta : Option Addr) (ct : Nat), v = .slice ta ts.len ct ∧ (ts = .nil ∨ ∃ b o, ta = some ⟨b, o, none⟩ ∧ Lies W ts false b o) ∧ ts.bk ≤ Rows.uptoBulk d := by
  obtain ⟨c, len, cap, rfl⟩ := okWide_slice Tryz.underlying22 hval
  obtain ⟨fuel, hf⟩ := h
  obtain ⟨T, ⟨a, c', h1, h2⟩, h3⟩ := open_typesB (fun m _ => open_tyB m) hf
  exact ⟨T, a, c', h1, h2, h3⟩
set_option maxRecDepth 100000 in
theorem open_tyO (hval : Value.okWide Tryz.prog W .any base 25 v) (h : DataW.Trod enc Tryz.prog W 0 (fun _ => true) true 25 v d p) : ∃ x : TyI W, v = x.v ∧ x.t.bk ≤ Rows.uptoBulk d := by
  obtain ⟨t, h1, h2⟩ := open_tyArg hval h
  obtain ⟨x, rfl, rfl⟩ := tyI_of h1
  exact ⟨x, rfl, h2⟩
end
end Go.Proofs.YtjedcijddlilaaaGreatDoor

namespace Go.Proofs.YtjedcijddlilaaaGreatDoor
open Go.RowKit Go.Shelf
attribute [local go_sem] Oper.semAt_some

theorem rowS_of_own {w : World} {base : Nat} {v : Value} {L : List ByteArray} (h : w.ownsRow base 9 1 v L.length (L.map Value.string)) : ∃ p c, v = .slice p L.length c ∧ RowS w L p := by
  obtain ⟨p, c, rfl⟩ := own_slice h
  refine ⟨p, c, rfl, ?_⟩
  by_cases h0 : 0 < L.length
  · obtain ⟨g, cap, hv, _⟩ := h.form h0
    cases hv
    refine .inr ⟨g, 0, rfl, fun i s hs => ?_⟩
    have h9 := h.cells (g := g) rfl i (.string s) (by rw [List.getElem?_map, hs]; rfl)
    rw [addA] at h9
    exact h9
  · exact .inl (List.eq_nil_of_length_eq_zero (by omega))
theorem usR_of_own {w : World} {base : Nat} {v : Value} {M : List Us} (h : w.ownsRow base 57 2 v M.length (M.flatMap Us.cl)) : ∃ p c, v = .slice p M.length c ∧ UsR w M p := by
  obtain ⟨p, c, rfl⟩ := own_slice h
  refine ⟨p, c, rfl, fun i u hu => ?_⟩
  obtain ⟨g, cap, hv, _⟩ := h.form (by have := (List.getElem?_eq_some_iff.1 hu).1; omega)
  cases hv
  have k0 := h.cells (g := g) rfl (i * 2) (.string u.m) (flat_at Us.cl 2 (fun _ => rfl) M i 0 u _ hu rfl)
  have k1 := h.cells (g := g) rfl (i * 2 + 1) (.string u.n) (flat_at Us.cl 2 (fun _ => rfl) M i 1 u _ hu rfl)
  rw [addA, Nat.zero_add] at k0 k1
  exact ⟨g, rfl, k0, k1⟩
theorem UsR.below {w w' : World} {M : List Us} {p : Option Addr} (h : UsR w M p) (hb : Below w.heap.size w w') : UsR w' M p := fun i u hu => by
  obtain ⟨g, h1, h2, h3⟩ := h i u hu
  exact ⟨g, h1, old_cell hb h2, old_cell hb h3⟩
theorem Frees.FL {t : Ty} {M : List ByteArray} (h : Frees t M) : M = FL t := by
  unfold Go.Proofs.YtjedcijddlilaaaGreatDoor.FL
  rw [← h.list, List.map_map]
  refine (List.map_id M).symm.trans (List.map_congr_left fun b _ => ?_)
  simp
theorem FL_cells (t : Ty) : (freeL t).map Go.Proofs.encStr = (FL t).map Value.string := by
  unfold FL
  rw [List.map_map]
  rfl
/-- append of a slice that may be nil. -/
theorem wpList_append_maybe {P : Program} {w : World} {ops : Array Oper} {rest : List Oper} {o : Oper} {a : Act} {Q : Exit → Act → World → Prop} (hgd : o.guard = none) (s x : Operand) (t : TypeId)
    (ho : o.op = .call { callee := .builtin .append, args := #[s, x], argTypes := #[t, t] })
    (base : Nat) (e : TypeId) (i : TypeInfo) (z : Value) (size bytes : Nat) (ht : P.underlying t = some (.slice e)) (hi : P.info? e = some i) (hz : i.zero = some z)
    (hsize : i.size = size) (hby : i.bytes = bytes) (hzs : z.cells.size = size) (hsz : 0 < size)
    (v : Value) (n : Nat) (xs : List Value) (hs : a.eval s = v) (hown : w.ownsRow base e size v n xs)
    (ta : Option Addr) (m c : Nat) (news : List Value) (hx : a.eval x = .slice ta m c) (hl : news.length = m * size) (hnews : ∀ j u, news[j]? = some u → ∃ ad, ta = some ad ∧ w.cell? (ad.add j) = some u) (h1 : ∀ u ∈ news, u.oneCell' = true)
    (h63 : n + m ≤ maxLen) (hbytes : (n + m) * bytes ≤ 140737488355328) (hbase : base ≤ w.heap.size)
    (h : ∀ v' w', w'.ownsRow base e size v' (n + m) (xs ++ news) → w.grownBy w' v.ownBlock → wpList P ops Q rest (a.put o.dst v') w') : wpList P ops Q (o :: rest) a w := by
  cases ta with
  | none =>
    have h0 : news = [] := by
      cases news with
      | nil => rfl
      | cons u l =>
        obtain ⟨ad, h9, _⟩ := hnews 0 u rfl
        cases h9
    have hm : m = 0 := by
      rw [h0, List.length_nil] at hl
      rcases Nat.eq_zero_or_pos m with h9 | h9
      · exact h9
      · have := Nat.mul_pos h9 hsz; omega
    subst h0 hm
    refine wpList_append_own_none' hgd s x t ho base e i size ht hi v n c xs hs hown hx (h v w ?_ ⟨rfl, rfl, rfl, Nat.le_refl _, fun _ _ _ => rfl⟩)
    rw [List.append_nil]
    exact hown
  | some ad =>
    exact wpList_append_own w hgd s x t ho base e i z size bytes ht hi hz hsize hby hzs hsz v n xs hs hown ad m c news hx hl (fun j u hu => by obtain ⟨ad', h9, h8⟩ := hnews j u hu; cases h9; exact h8) h1 h63 hbytes hbase fun v' w' h2 h3 _ => h v' w' h2 h3
/-- The references of a type, as a list in the memory. -/
def MenS (t : Ty) (v : Value) (w : World) : Prop := ∃ (M : List Us) (p : Option Addr) (c : Nat), Ments t M ∧ v = .slice p M.length c ∧ UsR w M p
theorem MenS.later {t : Ty} {v : Value} {w w' : World} (h : MenS t v w) (hb : Below w.heap.size w w') : MenS t v w' := by
  obtain ⟨M, p, c, h1, h2, h3⟩ := h
  exact ⟨M, p, c, h1, h2, h3.below hb⟩
theorem Tr.mod_bk (T : Tr) : ∀ p ∈ T.nodes, p.m.size ≤ T.bk := by
  induction T with
  | nil => intro p h; cases h
  | node fn op k m n A F nx ha hf hn =>
    intro p h
    simp only [Tr.nodes, List.mem_cons, List.mem_append] at h
    simp only [Tr.bk]
    rcases h with rfl | ((h | h) | h)
    · show m.size ≤ _; omega
    · have := ha p h; omega
    · have := hf p h; omega
    · have := hn p h; omega
theorem Ty.mod_bk (t : Ty) : ∀ p ∈ t.nodes, p.m.size ≤ t.bk := by
  intro p h
  unfold Ty.nodes at h
  unfold Ty.bk
  rcases List.mem_cons.1 h with rfl | h
  · omega
  · rcases List.mem_append.1 h with h | h
    · have := t.A.mod_bk p h; omega
    · have := t.F.mod_bk p h; omega
/-- The box of the law. -/
structure By1 (W : World) (x : TyI W) (w : World) : Prop where
  below : Below W.heap.size W w
  row : w.heap[W.heap.size]? = some (.cells #[.int .i64 x.t.k, .string x.t.m, .string x.t.n, .slice x.aa x.t.A.len x.ca, .slice x.af x.t.F.len x.cf] 25 (0, 0))
theorem By1.later {W : World} {x : TyI W} {w w' : World} (h : By1 W x w) (hb : Below w.heap.size w w') : By1 W x w' :=
  ⟨h.below.trans (hb.mono h.below.size), (hb.block _ (Array.getElem?_eq_some_iff.1 h.row).1).trans h.row⟩
theorem By1.cells {W : World} {x : TyI W} {w : World} (h : By1 W x w) : w.cell? ⟨W.heap.size, 0, none⟩ = some (.int .i64 x.t.k) ∧ w.cell? ⟨W.heap.size, 1, none⟩ = some (.string x.t.m) ∧ w.cell? ⟨W.heap.size, 2, none⟩ = some (.string x.t.n) ∧ w.cell? ⟨W.heap.size, 3, none⟩ = some (.slice x.aa x.t.A.len x.ca) ∧ w.cell? ⟨W.heap.size, 4, none⟩ = some (.slice x.af x.t.F.len x.cf) :=
  ⟨cell_of_row w _ 0 _ _ _ h.row, cell_of_row w _ 1 _ _ _ h.row, cell_of_row w _ 2 _ _ _ h.row, cell_of_row w _ 3 _ _ _ h.row, cell_of_row w _ 4 _ _ _ h.row⟩
def FactW {W : World} (x : TyI W) (f : ByteArray → Option Ty) (an : Option Addr) (N cn : Nat) (ta : Option Addr) (T ct : Nat) : Nat → Value → World → Prop
  | 0, v, _ => v = .agg #[.int .i64 x.t.k, .string x.t.m, .string x.t.n, .slice x.aa x.t.A.len x.ca, .slice x.af x.t.F.len x.cf]
  | 4, v, _ => v = .agg #[.int .i64 x.t.k, .string x.t.m, .string x.t.n, .slice x.aa x.t.A.len x.ca, .slice x.af x.t.F.len x.cf]
  | 10, v, _ => v = .agg #[.int .i64 x.t.k, .string x.t.m, .string x.t.n, .slice x.aa x.t.A.len x.ca, .slice x.af x.t.F.len x.cf]
  | 12, v, _ => v = .agg #[.int .i64 x.t.k, .string x.t.m, .string x.t.n, .slice x.aa x.t.A.len x.ca, .slice x.af x.t.F.len x.cf]
  | 17, v, _ => v = .agg #[.int .i64 x.t.k, .string x.t.m, .string x.t.n, .slice x.aa x.t.A.len x.ca, .slice x.af x.t.F.len x.cf]
  | 19, v, _ => v = .agg #[.int .i64 x.t.k, .string x.t.m, .string x.t.n, .slice x.aa x.t.A.len x.ca, .slice x.af x.t.F.len x.cf]
  | 1, v, _ => v = .slice an N cn
  | 5, v, _ => v = .slice an N cn
  | 2, v, _ => v = .slice ta T ct
  | 6, v, _ => v = .slice ta T ct
  | 3, v, w => IsT (x.t.sub f) v w
  | 7, v, w => IsT (x.t.sub f) v w
  | 11, v, w => FreeS x.t v w
  | 13, v, w => FreeS x.t v w
  | 18, v, w => MenS x.t v w
  | 20, v, w => MenS x.t v w
  | 8, v, _ => v = .bool true
  | 9, v, _ => v = .bool true
  | 14, v, _ => v = .bool true
  | 15, v, _ => v = .bool true
  | 16, v, _ => v = .bool true
  | 21, v, _ => v = .bool true
  | 22, v, _ => v = .bool true
  | _, _, _ => True
theorem FactW.later {W : World} {x : TyI W} {f : ByteArray → Option Ty} {an : Option Addr} {N cn : Nat} {ta : Option Addr} {T ct : Nat} {w w' : World} (hb : Below w.heap.size w w') : ∀ j v, FactW x f an N cn ta T ct j v w → FactW x f an N cn ta T ct j v w' := by
  intro j v h
  by_cases hj : j < 23
  · rcases (by omega : j = 0 ∨ j = 1 ∨ j = 2 ∨ j = 3 ∨ j = 4 ∨ j = 5 ∨ j = 6 ∨ j = 7 ∨ j = 8 ∨ j = 9 ∨ j = 10 ∨ j = 11 ∨ j = 12 ∨ j = 13 ∨ j = 14 ∨ j = 15 ∨ j = 16 ∨ j = 17 ∨ j = 18 ∨ j = 19 ∨ j = 20 ∨ j = 21 ∨ j = 22) with rfl | rfl | rfl | rfl | rfl | rfl | rfl | rfl | rfl | rfl | rfl | rfl | rfl | rfl | rfl | rfl | rfl | rfl | rfl | rfl | rfl | rfl | rfl <;> first | exact h | exact IsT.later h hb | exact FreeS.later h hb | exact MenS.later h hb
  · obtain ⟨k, rfl⟩ : ∃ k, j = k + 23 := ⟨j - 23, by omega⟩
    exact True.intro
def FxW (v0 v1 v2 v3 v4 v5 v6 v7 v8 v9 v10 v11 v12 v13 v14 v15 v16 v17 v18 v19 v20 v21 v22 v23 v24 v25 v26 v27 v28 v29 v30 v31 v32 v33 v34 v35 v36 v37 v38 : Value) (a : Act) : Prop := ∃ u39 u40 u41 u42 u43 u44 u45 u46 u47 u48 u49 u50 u51 u52 u53 u54 u55 u56 u57 u58 u59 u60 u61, a = { tmps := #[v0, v1, v2, v3, v4, v5, v6, v7, v8, v9, v10, v11, v12, v13, v14, v15, v16, v17, v18, v19, v20, v21, v22, v23, v24, v25, v26, v27, v28, v29, v30, v31, v32, v33, v34, v35, v36, v37, v38, u39, u40, u41, u42, u43, u44, u45, u46, u47, u48, u49, u50, u51, u52, u53, u54, u55, u56, u57, u58, u59, u60, u61], defers := [] }
set_option maxRecDepth 100000 in
set_option maxHeartbeats 32000000 in
theorem variables_law (W : World) (x : TyI W) (ns : List ByteArray) (an : Option Addr) (cn : Nat) (ts : Tr) (ta : Option Addr) (ct : Nat) (hE : Env W) (hN : RowS W ns an) (hT : ts = .nil ∨ ∃ b o, ta = some ⟨b, o, none⟩ ∧ Lies W ts false b o)
    (hbx : x.t.bk ≤ 1048576) (hbt : ts.bk ≤ 1048576) (hbn : ns.length ≤ 1048576) (hbs : ∀ s ∈ ns, s.size ≤ 1048576) :
    Calls Tryz.prog 4 #[.agg #[.int .i64 x.t.k, .string x.t.m, .string x.t.n, .slice x.aa x.t.A.len x.ca, .slice x.af x.t.F.len x.cf], .slice an ns.length cn, .slice ta ts.len ct] W fun e W' => e = .returned (.bool true) ∧ Below W.heap.size W W' := by
  obtain ⟨i0, hi, hz0, hz1, hz2⟩ := info_parts infoTy
  have hxs : x.t.size ≤ 1048576 := Nat.le_trans x.t.size_bk hbx
  have htz : ts.size ≤ 1048576 := Nat.le_trans ts.size_bk hbt
  have htl : ts.len ≤ 1048576 := Nat.le_trans ts.len_le htz
  obtain ⟨f, hf⟩ : ∃ f, findTy ns ts = f := ⟨_, rfl⟩
  have HSub : Kpt (∀ w, Below W.heap.size W w → Calls Tryz.prog 19 #[.agg #[.int .i64 x.t.k, .string x.t.m, .string x.t.n, .slice x.aa x.t.A.len x.ca, .slice x.af x.t.F.len x.cf], .slice an ns.length cn, .slice ta ts.len ct] w fun e w' => ∃ r : TyC, e = .returned r.v ∧ r.t = x.t.sub f ∧ r.Ok w' (fun i => w.heap.size ≤ i ∧ i < w'.heap.size) ∧ Below w.heap.size w w') := hid fun w hw => by
    rw [← hf]
    exact subst_any ns an cn ts ta ct (TyV_below x.tyV hw) (by omega) (rowS_below hN hw) (row_below hT hw) (by omega) (by omega)
  have HRsub : Kpt (∀ w, Below W.heap.size W w → Calls Tryz.prog 20 #[.agg #[.int .i64 x.t.k, .string x.t.m, .string x.t.n, .slice x.aa x.t.A.len x.ca, .slice x.af x.t.F.len x.cf], .slice an ns.length cn, .slice ta ts.len ct] w fun e w' => ∃ r : TyC, e = .returned r.v ∧ r.t = x.t.sub f ∧ r.Ok w' (fun i => i < W.heap.size ∨ (w.heap.size ≤ i ∧ i < w'.heap.size)) ∧ Below w.heap.size w w') := hid fun w hw => by
    rw [← hf]
    exact rsub_all W ns ts an ta cn ct hN hT (by omega) (by omega) 1048576 (by omega) x hxs w hw
  have HFree : Kpt (∀ w, Below W.heap.size W w → Calls Tryz.prog 22 #[.agg #[.int .i64 x.t.k, .string x.t.m, .string x.t.n, .slice x.aa x.t.A.len x.ca, .slice x.af x.t.F.len x.cf]] w fun e w' => ∃ fv, e = .returned fv ∧ FreeS x.t fv w' ∧ Below w.heap.size w w') := hid fun w hw =>
    (free_any (TyV_below x.tyV hw) (by omega) (fun p hp => by have := x.t.name_bk p hp; unfold maxLen; omega)).mono fun e w' ⟨fv, h1, h2, h3⟩ => by
      rw [FL_cells, ← FL_len] at h2
      obtain ⟨p, c, h4, h5⟩ := rowS_of_own h2
      rw [FL_len] at h4
      exact ⟨fv, h1, ⟨p, c, h4, h5⟩, h3⟩
  have HRfree : Kpt (∀ w, Below W.heap.size W w → Calls Tryz.prog 23 #[.agg #[.int .i64 x.t.k, .string x.t.m, .string x.t.n, .slice x.aa x.t.A.len x.ca, .slice x.af x.t.F.len x.cf]] w fun e w' => ∃ fv, e = .returned fv ∧ FreeS x.t fv w' ∧ Below w.heap.size w w') := hid fun w hw =>
    (rf_all W 1048576 (by omega) x hxs w hw).mono fun e w' ⟨M, g, c, h1, h2, h3, h4⟩ => by
      obtain ⟨p, c', h5, h6⟩ := rowS_of_own h3
      have h7 := h1.FL
      rw [h7, FL_len] at h5
      rw [h7] at h6
      refine ⟨_, h2, ⟨p, c', ?_, h6⟩, h4⟩
      rw [h7, FL_len]
      exact h5
  have HMen : Kpt (∀ w, Below W.heap.size W w → Calls Tryz.prog 25 #[.agg #[.int .i64 x.t.k, .string x.t.m, .string x.t.n, .slice x.aa x.t.A.len x.ca, .slice x.af x.t.F.len x.cf]] w fun e w' => ∃ fv, e = .returned fv ∧ MenS x.t fv w' ∧ Below w.heap.size w w') := hid fun w hw =>
    (mentions_any (TyV_below x.tyV hw) (by omega) (fun p hp => by have h1 := x.t.name_bk p hp; have h2 := x.t.mod_bk p hp; unfold maxLen; omega)).mono fun e w' ⟨fv, M, h1, h2, h3, h4⟩ => by
      obtain ⟨p, c, h5, h6⟩ := usR_of_own h3
      exact ⟨fv, h2, ⟨M, p, c, h1, h5, h6⟩, h4⟩
  have HRmen : Kpt (∀ w, Below W.heap.size W w → Calls Tryz.prog 26 #[.agg #[.int .i64 x.t.k, .string x.t.m, .string x.t.n, .slice x.aa x.t.A.len x.ca, .slice x.af x.t.F.len x.cf]] w fun e w' => ∃ fv, e = .returned fv ∧ MenS x.t fv w' ∧ Below w.heap.size w w') := hid fun w hw =>
    (rg_all W 1048576 (by omega) x hxs w hw).mono fun e w' ⟨M, g, c, h1, h2, h3, h4⟩ => by
      obtain ⟨p, c', h5, h6⟩ := usR_of_own h3
      exact ⟨_, h2, ⟨M, p, c', h1, h5, h6⟩, h4⟩
  have HFL : Kpt ((FL x.t).length ≤ 1099511627776) := hid (by rw [FL_len]; have := freeL_len x.t; omega)
  have HXS : Kpt (x.t.size ≤ 1099511627776) := hid (by omega)
  have HSZ : Kpt ((x.t.sub f).size ≤ 1099511627776) := hid (by
    have h1 := Ty.sub_size (M := 1048576) (f := f) (by omega) (fun v u hv => by
      rw [← hf] at hv
      unfold findTy at hv
      split at hv
      · exact Nat.le_trans (Tr.el_size (List.mem_of_getElem? hv)) htz
      · cases hv) x.t
    have h2 : x.t.size * 1048576 ≤ 1048576 * 1048576 := Nat.mul_le_mul_right _ hxs
    omega)
  obtain ⟨wa, hwa⟩ : ∃ wa, W.alloc (.cells #[.int .i64 x.t.k, .string x.t.m, .string x.t.n, .slice x.aa x.t.A.len x.ca, .slice x.af x.t.F.len x.cf] 25) = wa := ⟨_, rfl⟩
  have hA0 : By1 W x wa := ⟨by rw [← hwa]; exact (Below.refl _ W).alloc (Nat.le_refl _) _, by rw [← hwa]; exact World.alloc_heap_new _ _⟩
  have HA := hid hA0
  have HAW := hid (awakeS_any wa (hE.below hA0.below))
  have HNT := hid (And.intro hN (And.intro hT hbs))
  obtain ⟨N, hNl⟩ : ∃ N, ns.length = N := ⟨_, rfl⟩
  obtain ⟨T, hTl⟩ : ∃ T, ts.len = T := ⟨_, rfl⟩
  have HL := hid (And.intro hNl (And.intro hTl htz))
  rw [hNl] at HSub HRsub hbn ⊢
  rw [hTl] at HSub HRsub htl ⊢
  clear hA0 hN hT hbs hNl hTl hE hf htz
  go_enter Tryz.func4, Tryz.ntmps4
  go_wp2_with fail
  refine HAW.out.mono ?_
  rintro e w1 ⟨rfl, hb1⟩
  have h1 := HA.out.later hb1
  have HB1 := hid h1
  obtain ⟨c0, c1, c2, c3, c4⟩ := h1.cells
  clear hb1 h1 hwa
  obtain ⟨w2, hw2⟩ : ∃ w2, w1.alloc (.cells #[.int .i64 x.t.k, .string x.t.m, .string x.t.n, .slice x.aa x.t.A.len x.ca, .slice x.af x.t.F.len x.cf] 25) = w2 := ⟨_, rfl⟩
  have hb2 : Below w1.heap.size w1 w2 := by rw [← hw2]; exact (Below.refl _ w1).alloc (Nat.le_refl _) _
  have hown2 : w2.ownsRow w1.heap.size 25 5 (.slice (some ⟨w1.heap.size, 0, none⟩) 1 1) 1 x.cells.toList := by
    rw [← hw2]
    exact ⟨rfl, .inr ⟨w1.heap.size, 1, _, rfl, Nat.le_refl _, World.alloc_heap_new w1 _, Nat.le_refl _, by decide, rfl, rfl⟩⟩
  have HB2 := hid (HB1.out.later hb2)
  -- the types behind it
  obtain ⟨es, hes, hec⟩ : ∃ es : List (TyI W), es.map (·.t) = ts.els ∧ ∀ j u, (es.flatMap fun y => y.cells.toList)[j]? = some u → ∃ a, ta = some a ∧ W.cell? (a.add j) = some u := by
    rcases HNT.out.2.1 with h | ⟨b, o, h, hL⟩
    · subst h
      exact ⟨[], rfl, fun j u hu => by simp at hu⟩
    · obtain ⟨rs, h1, h2⟩ := lies_row ts b o hL
      exact ⟨rs, h1, fun j u hu => ⟨_, h, h2 j u hu⟩⟩
  have hel : es.length = T := by rw [← HL.out.2.1, ← Tr.els_len, ← hes, List.length_map]
  have hfl : (es.flatMap fun y => y.cells.toList).length = T * 5 := by rw [len_cells, hel]
  have hsumE : (((x :: es).map (·.t)).map Ty.size).sum = x.t.size + ts.size := by
    rw [List.map_cons, List.map_cons, List.sum_cons, hes, ← Tr.size_els]
  have hnews : ∀ j u, (es.flatMap fun y => y.cells.toList)[j]? = some u → ∃ ad, ta = some ad ∧ w2.cell? (ad.add j) = some u := fun j u hu => by
    obtain ⟨ad, h1, h2⟩ := hec j u hu
    exact ⟨ad, h1, old_cell HB2.out.below h2⟩
  have hone := one_cells es
  have hs2 := HB2.out.below.size
  have hw12 : w1.heap.size ≤ w2.heap.size := hb2.size
  have hmx : 1 + T ≤ maxLen := by unfold maxLen; omega
  have HES := hid (And.intro hel (And.intro hsumE hb2))
  have HTZ := hid (And.intro HL.out.2.2 hxs)
  clear hes hec hel hsumE hb2 hbx hbt
  go_wp2_with (at_builtin; go_loud (refine wpList_append_maybe rfl _ _ 22 rfl w1.heap.size 25 i0 _ 5 88 Tryz.underlying22 hi hz0 hz1 hz2 rfl (by decide) _ 1 x.cells.toList rfl hown2 ta T ct (es.flatMap fun y => y.cells.toList) rfl hfl hnews hone hmx (by omega) hw12 ?_); intro v' w3 hown3 hgrow3)
  rw [Nat.add_comm 1 T] at hown3
  obtain ⟨gn, cn', rfl⟩ := ownsRow_succ hown3
  have hb3 : Below w1.heap.size w2 w3 := (Below.refl _ w2).grown hgrow3 hw12 (fun k e => by cases e; exact Nat.le_refl _)
  have HB3 := hid (HB1.out.later (HES.out.2.2.trans hb3))
  have HFew := hid (fewT_any W (x :: es) gn cn' 300 w3 HB3.out.below (fun i y j u hy hu => by
    have hj : j < 5 := (List.getElem?_eq_some_iff.1 hu).1
    have h9 := hown3.cells (g := gn) rfl (i * 5 + j) u (flat_at (fun y : TyI W => y.cells.toList) 5 (fun _ => rfl) (x :: es) i j y u hy hu)
    rw [addA, Nat.zero_add] at h9
    exact h9) (by rw [HES.out.2.1]; have := HTZ.out; omega) (by rw [List.length_cons, HES.out.1]; omega))
  rw [HES.out.2.1, List.length_cons, HES.out.1] at HFew
  clear hown3 hgrow3 hb3 hown2 hfl hnews hone hmx hw12 hs2 c0 c1 c2 c3 c4 hw2
  refine HFew.out.mono ?_
  rintro e w4 ⟨rfl, hb4⟩
  have HB4 := hid (HB3.out.later hb4)
  clear hb4
  by_cases hS : x.t.size + ts.size ≤ 300
  · have hd : decide (((x.t.size + ts.size : Nat) : Int) ≤ 300) = true := by rw [decide_eq_true_eq]; omega
    rw [hd]
    clear hd
    by_cases hN10 : N ≤ 10
    · have hgN : ¬ (10 : Int) < (N : Int) := by omega
      by_cases hT10 : T ≤ 10
      · have hgT : ¬ (10 : Int) < (T : Int) := by omega
        go_wp2_with fail
        clear hgN hgT
        go_loopw [29] (fun a wr => ∃ (i : Nat), a = .int .i64 (i : Int) ∧ i ≤ N ∧ Kpt (By1 W x wr)) (fun a _ => N - (intOf a).toNat)
        case atStart => exact ⟨0, rfl, Nat.zero_le _, ⟨HB4.out⟩⟩
        case round =>
          obtain ⟨i, rfl, hi9, hB⟩ := hrel
          by_cases hlt : i < N
          · obtain ⟨b, o, han, hc⟩ : ∃ b o, an = some ⟨b, o, none⟩ ∧ ∀ (i : Nat) (s : ByteArray), ns[i]? = some s → W.cell? ⟨b, o + i, none⟩ = some (.string s) := by
              rcases HNT.out.1 with h | h
              · exfalso
                have h9 := HL.out.1
                rw [h] at h9
                simp at h9
                omega
              · exact h
            obtain ⟨s, hs⟩ : ∃ s, ns[i]? = some s := ⟨_, List.getElem?_eq_getElem (by rw [HL.out.1]; exact hlt)⟩
            have d0 := old_cell hB.out.below (hc i s hs)
            have hsz := HNT.out.2.2 s (List.mem_of_getElem? hs)
            have HV := hid (fun w => variable_any s w (by omega))
            have HRV := hid (fun w => rvariable_any s w (by omega))
            generalize varB s = vb at HV HRV
            rw [han]
            clear hc hs hsz
            cases vb with
            | true =>
              go_wp2_with (first
                | (go_at_call 16; refine (HV.out _).mono ?_; rintro e w' ⟨rfl, rfl⟩)
                | (go_at_call 17; refine (HRV.out _).mono ?_; rintro e w5 ⟨rfl, hb5⟩))
              go_roundw
              case rel => exact ⟨i + 1, by go_num, by omega, ⟨hB.out.later hb5⟩⟩
              case measure => simp [intOf]; omega
            | false =>
              go_wp2_with (first
                | (go_at_call 16; refine (HV.out _).mono ?_; rintro e w' ⟨rfl, rfl⟩)
                | (go_at_call 17; refine (HRV.out _).mono ?_; rintro e w5 ⟨rfl, hb5⟩))
              go_roundw
              case rel => exact ⟨i + 1, by go_num, by omega, ⟨hB.out.later hb5⟩⟩
              case measure => simp [intOf]; omega
          · obtain rfl : N = i := by omega
            go_wp2_with fail
            refine wp_region_any (by kernel_rfl) ?_
            change wpAny _ _ _ _ 24 _ _ (World.drew _)
            have hG0 : By1 W x wr.drew := hB.out.later (Below.refl _ wr).drew
            clear hB
            generalize wr.drew = V0 at hG0 ⊢
            refine wpAny_flow (n := 23) (Fact := FactW x f an N cn ta T ct) (Fx := FxW _ _ _ _ _ _ _ _ _ _ _ _ _ _ _ _ _ _ _ _ _ _ _ _ _ _ _ _ _ _ _ _ _ _ _ _ _ _ _) (G := By1 W x) (Rel := fun _ _ _ => True) (by kernel_rfl) ?back ?last ?step ?tail 24 _ _ _ ⟨rfl, rfl, ⟨_, _, _, _, _, _, _, _, _, _, _, _, _, _, _, _, _, _, _, _, _, _, _, rfl⟩, hG0, trivial, fun j hj hl => absurd hl (by rw [getD_replicate_false]; decide)⟩ (by decide)
            case back => exact flow_back_of (by kernel_rfl)
            case last => exact flow_last_of (by kernel_rfl)
            case step =>
              rintro j hj listed a w hls hun hR ⟨u39, u40, u41, u42, u43, u44, u45, u46, u47, u48, u49, u50, u51, u52, u53, u54, u55, u56, u57, u58, u59, u60, u61, rfl⟩ hG hw
              rcases (by omega : j = 0 ∨ j = 1 ∨ j = 2 ∨ j = 3 ∨ j = 4 ∨ j = 5 ∨ j = 6 ∨ j = 7 ∨ j = 8 ∨ j = 9 ∨ j = 10 ∨ j = 11 ∨ j = 12 ∨ j = 13 ∨ j = 14 ∨ j = 15 ∨ j = 16 ∨ j = 17 ∨ j = 18 ∨ j = 19 ∨ j = 20 ∨ j = 21 ∨ j = 22) with rfl | rfl | rfl | rfl | rfl | rfl | rfl | rfl | rfl | rfl | rfl | rfl | rfl | rfl | rfl | rfl | rfl | rfl | rfl | rfl | rfl | rfl | rfl
              · skip
                obtain ⟨c0, c1, c2, c3, c4⟩ := hG.cells
                refine wpOp_of_list (i := 0) rfl ?_
                go_wp2_with fail
                exact ⟨⟨_, _, _, _, _, _, _, _, _, _, _, _, _, _, _, _, _, _, _, _, _, _, _, rfl⟩, hG, by first | rfl | (show _ = _; simp), (fun j hj hne => by rcases (by omega : j = 0 ∨ j = 1 ∨ j = 2 ∨ j = 3 ∨ j = 4 ∨ j = 5 ∨ j = 6 ∨ j = 7 ∨ j = 8 ∨ j = 9 ∨ j = 10 ∨ j = 11 ∨ j = 12 ∨ j = 13 ∨ j = 14 ∨ j = 15 ∨ j = 16 ∨ j = 17 ∨ j = 18 ∨ j = 19 ∨ j = 20 ∨ j = 21 ∨ j = 22) with rfl | rfl | rfl | rfl | rfl | rfl | rfl | rfl | rfl | rfl | rfl | rfl | rfl | rfl | rfl | rfl | rfl | rfl | rfl | rfl | rfl | rfl | rfl <;> first | exact absurd rfl hne | rfl), fun j v h => h⟩
              · skip
                refine wpOp_of_list (i := 1) rfl ?_
                go_wp2_with fail
                exact ⟨⟨_, _, _, _, _, _, _, _, _, _, _, _, _, _, _, _, _, _, _, _, _, _, _, rfl⟩, hG, by first | rfl | (show _ = _; simp), (fun j hj hne => by rcases (by omega : j = 0 ∨ j = 1 ∨ j = 2 ∨ j = 3 ∨ j = 4 ∨ j = 5 ∨ j = 6 ∨ j = 7 ∨ j = 8 ∨ j = 9 ∨ j = 10 ∨ j = 11 ∨ j = 12 ∨ j = 13 ∨ j = 14 ∨ j = 15 ∨ j = 16 ∨ j = 17 ∨ j = 18 ∨ j = 19 ∨ j = 20 ∨ j = 21 ∨ j = 22) with rfl | rfl | rfl | rfl | rfl | rfl | rfl | rfl | rfl | rfl | rfl | rfl | rfl | rfl | rfl | rfl | rfl | rfl | rfl | rfl | rfl | rfl | rfl <;> first | exact absurd rfl hne | rfl), fun j v h => h⟩
              · skip
                refine wpOp_of_list (i := 2) rfl ?_
                go_wp2_with fail
                exact ⟨⟨_, _, _, _, _, _, _, _, _, _, _, _, _, _, _, _, _, _, _, _, _, _, _, rfl⟩, hG, by first | rfl | (show _ = _; simp), (fun j hj hne => by rcases (by omega : j = 0 ∨ j = 1 ∨ j = 2 ∨ j = 3 ∨ j = 4 ∨ j = 5 ∨ j = 6 ∨ j = 7 ∨ j = 8 ∨ j = 9 ∨ j = 10 ∨ j = 11 ∨ j = 12 ∨ j = 13 ∨ j = 14 ∨ j = 15 ∨ j = 16 ∨ j = 17 ∨ j = 18 ∨ j = 19 ∨ j = 20 ∨ j = 21 ∨ j = 22) with rfl | rfl | rfl | rfl | rfl | rfl | rfl | rfl | rfl | rfl | rfl | rfl | rfl | rfl | rfl | rfl | rfl | rfl | rfl | rfl | rfl | rfl | rfl <;> first | exact absurd rfl hne | rfl), fun j v h => h⟩
              · skip
                obtain rfl : u39 = .agg #[.int .i64 x.t.k, .string x.t.m, .string x.t.n, .slice x.aa x.t.A.len x.ca, .slice x.af x.t.F.len x.cf] := hw 0 (by kernel_rfl)
                obtain rfl : u40 = .slice an N cn := hw 1 (by kernel_rfl)
                obtain rfl : u41 = .slice ta T ct := hw 2 (by kernel_rfl)
                have HC := hid (HSub.out w hG.below)
                clear hw
                refine wpOp_of_list (i := 3) rfl ?_
                go_wp2_with fail
                refine HC.out.mono ?_
                rintro e w1 ⟨r, rfl, hrt, hok, hb⟩
                have HH := hid (And.intro hb (And.intro hrt hok.tyV))
                have hb := HH.out.1
                clear hb
                go_wp2_with fail
                exact ⟨⟨_, _, _, _, _, _, _, _, _, _, _, _, _, _, _, _, _, _, _, _, _, _, _, rfl⟩, hG.later HH.out.1, ⟨r, rfl, HH.out.2.1, HH.out.2.2⟩, (fun j hj hne => by rcases (by omega : j = 0 ∨ j = 1 ∨ j = 2 ∨ j = 3 ∨ j = 4 ∨ j = 5 ∨ j = 6 ∨ j = 7 ∨ j = 8 ∨ j = 9 ∨ j = 10 ∨ j = 11 ∨ j = 12 ∨ j = 13 ∨ j = 14 ∨ j = 15 ∨ j = 16 ∨ j = 17 ∨ j = 18 ∨ j = 19 ∨ j = 20 ∨ j = 21 ∨ j = 22) with rfl | rfl | rfl | rfl | rfl | rfl | rfl | rfl | rfl | rfl | rfl | rfl | rfl | rfl | rfl | rfl | rfl | rfl | rfl | rfl | rfl | rfl | rfl <;> first | exact absurd rfl hne | rfl), FactW.later HH.out.1, trivial⟩
              · skip
                obtain ⟨c0, c1, c2, c3, c4⟩ := hG.cells
                refine wpOp_of_list (i := 4) rfl ?_
                go_wp2_with fail
                exact ⟨⟨_, _, _, _, _, _, _, _, _, _, _, _, _, _, _, _, _, _, _, _, _, _, _, rfl⟩, hG, by first | rfl | (show _ = _; simp), (fun j hj hne => by rcases (by omega : j = 0 ∨ j = 1 ∨ j = 2 ∨ j = 3 ∨ j = 4 ∨ j = 5 ∨ j = 6 ∨ j = 7 ∨ j = 8 ∨ j = 9 ∨ j = 10 ∨ j = 11 ∨ j = 12 ∨ j = 13 ∨ j = 14 ∨ j = 15 ∨ j = 16 ∨ j = 17 ∨ j = 18 ∨ j = 19 ∨ j = 20 ∨ j = 21 ∨ j = 22) with rfl | rfl | rfl | rfl | rfl | rfl | rfl | rfl | rfl | rfl | rfl | rfl | rfl | rfl | rfl | rfl | rfl | rfl | rfl | rfl | rfl | rfl | rfl <;> first | exact absurd rfl hne | rfl), fun j v h => h⟩
              · skip
                refine wpOp_of_list (i := 5) rfl ?_
                go_wp2_with fail
                exact ⟨⟨_, _, _, _, _, _, _, _, _, _, _, _, _, _, _, _, _, _, _, _, _, _, _, rfl⟩, hG, by first | rfl | (show _ = _; simp), (fun j hj hne => by rcases (by omega : j = 0 ∨ j = 1 ∨ j = 2 ∨ j = 3 ∨ j = 4 ∨ j = 5 ∨ j = 6 ∨ j = 7 ∨ j = 8 ∨ j = 9 ∨ j = 10 ∨ j = 11 ∨ j = 12 ∨ j = 13 ∨ j = 14 ∨ j = 15 ∨ j = 16 ∨ j = 17 ∨ j = 18 ∨ j = 19 ∨ j = 20 ∨ j = 21 ∨ j = 22) with rfl | rfl | rfl | rfl | rfl | rfl | rfl | rfl | rfl | rfl | rfl | rfl | rfl | rfl | rfl | rfl | rfl | rfl | rfl | rfl | rfl | rfl | rfl <;> first | exact absurd rfl hne | rfl), fun j v h => h⟩
              · skip
                refine wpOp_of_list (i := 6) rfl ?_
                go_wp2_with fail
                exact ⟨⟨_, _, _, _, _, _, _, _, _, _, _, _, _, _, _, _, _, _, _, _, _, _, _, rfl⟩, hG, by first | rfl | (show _ = _; simp), (fun j hj hne => by rcases (by omega : j = 0 ∨ j = 1 ∨ j = 2 ∨ j = 3 ∨ j = 4 ∨ j = 5 ∨ j = 6 ∨ j = 7 ∨ j = 8 ∨ j = 9 ∨ j = 10 ∨ j = 11 ∨ j = 12 ∨ j = 13 ∨ j = 14 ∨ j = 15 ∨ j = 16 ∨ j = 17 ∨ j = 18 ∨ j = 19 ∨ j = 20 ∨ j = 21 ∨ j = 22) with rfl | rfl | rfl | rfl | rfl | rfl | rfl | rfl | rfl | rfl | rfl | rfl | rfl | rfl | rfl | rfl | rfl | rfl | rfl | rfl | rfl | rfl | rfl <;> first | exact absurd rfl hne | rfl), fun j v h => h⟩
              · skip
                obtain rfl : u43 = .agg #[.int .i64 x.t.k, .string x.t.m, .string x.t.n, .slice x.aa x.t.A.len x.ca, .slice x.af x.t.F.len x.cf] := hw 4 (by kernel_rfl)
                obtain rfl : u44 = .slice an N cn := hw 5 (by kernel_rfl)
                obtain rfl : u45 = .slice ta T ct := hw 6 (by kernel_rfl)
                have HC := hid (HRsub.out w hG.below)
                clear hw
                refine wpOp_of_list (i := 7) rfl ?_
                go_wp2_with fail
                refine HC.out.mono ?_
                rintro e w1 ⟨r, rfl, hrt, hok, hb⟩
                have HH := hid (And.intro hb (And.intro hrt hok.tyV))
                have hb := HH.out.1
                clear hb
                go_wp2_with fail
                exact ⟨⟨_, _, _, _, _, _, _, _, _, _, _, _, _, _, _, _, _, _, _, _, _, _, _, rfl⟩, hG.later HH.out.1, ⟨r, rfl, HH.out.2.1, HH.out.2.2⟩, (fun j hj hne => by rcases (by omega : j = 0 ∨ j = 1 ∨ j = 2 ∨ j = 3 ∨ j = 4 ∨ j = 5 ∨ j = 6 ∨ j = 7 ∨ j = 8 ∨ j = 9 ∨ j = 10 ∨ j = 11 ∨ j = 12 ∨ j = 13 ∨ j = 14 ∨ j = 15 ∨ j = 16 ∨ j = 17 ∨ j = 18 ∨ j = 19 ∨ j = 20 ∨ j = 21 ∨ j = 22) with rfl | rfl | rfl | rfl | rfl | rfl | rfl | rfl | rfl | rfl | rfl | rfl | rfl | rfl | rfl | rfl | rfl | rfl | rfl | rfl | rfl | rfl | rfl <;> first | exact absurd rfl hne | rfl), FactW.later HH.out.1, trivial⟩
              · skip
                obtain ⟨r1, hr1, ht1, hv1⟩ := (show IsT (x.t.sub f) u42 w from hw 3 (by kernel_rfl))
                obtain ⟨r2, hr2, ht2, hv2⟩ := (show IsT (x.t.sub f) u46 w from hw 7 (by kernel_rfl))
                obtain ⟨y1, hy1, hz1⟩ := tyI_of hv1
                obtain ⟨y2, hy2, hz2⟩ := tyI_of hv2
                rw [← hz1] at hr1
                rw [← hz2] at hr2
                subst hr1 hr2
                have he : y1.t.eq y2.t = true := by rw [hy1, hy2, ht1, ht2]; exact Ty.eq_refl _
                have hsz : y1.t.size ≤ 1099511627776 := by rw [hy1, ht1]; exact HSZ.out
                have hq := req_all w 1099511627776 (Nat.le_refl _) y1 y2 hsz w (Below.refl _ _)
                rw [he] at hq
                clear hy1 hy2 hz1 hz2 he hsz hv1 hv2 ht1 ht2
                dsimp only [TyI.v, TyI.cells]
                have HC := hid (hq)
                clear hw
                refine wpOp_of_list (i := 8) rfl ?_
                go_wp2_with fail
                refine HC.out.mono ?_
                rintro e w1 ⟨rfl, hb⟩
                have HH := hid (And.intro hb True.intro)
                have hb := HH.out.1
                clear hb
                go_wp2_with fail
                exact ⟨⟨_, _, _, _, _, _, _, _, _, _, _, _, _, _, _, _, _, _, _, _, _, _, _, rfl⟩, hG.later HH.out.1, rfl, (fun j hj hne => by rcases (by omega : j = 0 ∨ j = 1 ∨ j = 2 ∨ j = 3 ∨ j = 4 ∨ j = 5 ∨ j = 6 ∨ j = 7 ∨ j = 8 ∨ j = 9 ∨ j = 10 ∨ j = 11 ∨ j = 12 ∨ j = 13 ∨ j = 14 ∨ j = 15 ∨ j = 16 ∨ j = 17 ∨ j = 18 ∨ j = 19 ∨ j = 20 ∨ j = 21 ∨ j = 22) with rfl | rfl | rfl | rfl | rfl | rfl | rfl | rfl | rfl | rfl | rfl | rfl | rfl | rfl | rfl | rfl | rfl | rfl | rfl | rfl | rfl | rfl | rfl <;> first | exact absurd rfl hne | rfl), FactW.later HH.out.1, trivial⟩
              · skip
                obtain rfl : u47 = .bool true := hw 8 (by kernel_rfl)
                refine wpOp_of_list (i := 9) rfl ?_
                go_wp2_with fail
                exact ⟨⟨_, _, _, _, _, _, _, _, _, _, _, _, _, _, _, _, _, _, _, _, _, _, _, rfl⟩, hG, by first | rfl | (show _ = _; simp), (fun j hj hne => by rcases (by omega : j = 0 ∨ j = 1 ∨ j = 2 ∨ j = 3 ∨ j = 4 ∨ j = 5 ∨ j = 6 ∨ j = 7 ∨ j = 8 ∨ j = 9 ∨ j = 10 ∨ j = 11 ∨ j = 12 ∨ j = 13 ∨ j = 14 ∨ j = 15 ∨ j = 16 ∨ j = 17 ∨ j = 18 ∨ j = 19 ∨ j = 20 ∨ j = 21 ∨ j = 22) with rfl | rfl | rfl | rfl | rfl | rfl | rfl | rfl | rfl | rfl | rfl | rfl | rfl | rfl | rfl | rfl | rfl | rfl | rfl | rfl | rfl | rfl | rfl <;> first | exact absurd rfl hne | rfl), fun j v h => h⟩
              · skip
                obtain rfl : u48 = .bool true := hw 9 (by kernel_rfl)
                obtain ⟨c0, c1, c2, c3, c4⟩ := hG.cells
                refine wpOp_of_list (i := 10) rfl ?_
                go_wp2_with fail
                exact ⟨⟨_, _, _, _, _, _, _, _, _, _, _, _, _, _, _, _, _, _, _, _, _, _, _, rfl⟩, hG, by first | rfl | (show _ = _; simp), (fun j hj hne => by rcases (by omega : j = 0 ∨ j = 1 ∨ j = 2 ∨ j = 3 ∨ j = 4 ∨ j = 5 ∨ j = 6 ∨ j = 7 ∨ j = 8 ∨ j = 9 ∨ j = 10 ∨ j = 11 ∨ j = 12 ∨ j = 13 ∨ j = 14 ∨ j = 15 ∨ j = 16 ∨ j = 17 ∨ j = 18 ∨ j = 19 ∨ j = 20 ∨ j = 21 ∨ j = 22) with rfl | rfl | rfl | rfl | rfl | rfl | rfl | rfl | rfl | rfl | rfl | rfl | rfl | rfl | rfl | rfl | rfl | rfl | rfl | rfl | rfl | rfl | rfl <;> first | exact absurd rfl hne | rfl), fun j v h => h⟩
              · skip
                obtain rfl : u48 = .bool true := hw 9 (by kernel_rfl)
                obtain rfl : u49 = .agg #[.int .i64 x.t.k, .string x.t.m, .string x.t.n, .slice x.aa x.t.A.len x.ca, .slice x.af x.t.F.len x.cf] := hw 10 (by kernel_rfl)
                have HC := hid (HFree.out w hG.below)
                clear hw
                refine wpOp_of_list (i := 11) rfl ?_
                go_wp2_with fail
                refine HC.out.mono ?_
                rintro e w1 ⟨fv, rfl, hS, hb⟩
                have HH := hid (And.intro hb hS)
                have hb := HH.out.1
                clear hb
                go_wp2_with fail
                exact ⟨⟨_, _, _, _, _, _, _, _, _, _, _, _, _, _, _, _, _, _, _, _, _, _, _, rfl⟩, hG.later HH.out.1, HH.out.2, (fun j hj hne => by rcases (by omega : j = 0 ∨ j = 1 ∨ j = 2 ∨ j = 3 ∨ j = 4 ∨ j = 5 ∨ j = 6 ∨ j = 7 ∨ j = 8 ∨ j = 9 ∨ j = 10 ∨ j = 11 ∨ j = 12 ∨ j = 13 ∨ j = 14 ∨ j = 15 ∨ j = 16 ∨ j = 17 ∨ j = 18 ∨ j = 19 ∨ j = 20 ∨ j = 21 ∨ j = 22) with rfl | rfl | rfl | rfl | rfl | rfl | rfl | rfl | rfl | rfl | rfl | rfl | rfl | rfl | rfl | rfl | rfl | rfl | rfl | rfl | rfl | rfl | rfl <;> first | exact absurd rfl hne | rfl), FactW.later HH.out.1, trivial⟩
              · skip
                obtain rfl : u48 = .bool true := hw 9 (by kernel_rfl)
                obtain ⟨c0, c1, c2, c3, c4⟩ := hG.cells
                refine wpOp_of_list (i := 12) rfl ?_
                go_wp2_with fail
                exact ⟨⟨_, _, _, _, _, _, _, _, _, _, _, _, _, _, _, _, _, _, _, _, _, _, _, rfl⟩, hG, by first | rfl | (show _ = _; simp), (fun j hj hne => by rcases (by omega : j = 0 ∨ j = 1 ∨ j = 2 ∨ j = 3 ∨ j = 4 ∨ j = 5 ∨ j = 6 ∨ j = 7 ∨ j = 8 ∨ j = 9 ∨ j = 10 ∨ j = 11 ∨ j = 12 ∨ j = 13 ∨ j = 14 ∨ j = 15 ∨ j = 16 ∨ j = 17 ∨ j = 18 ∨ j = 19 ∨ j = 20 ∨ j = 21 ∨ j = 22) with rfl | rfl | rfl | rfl | rfl | rfl | rfl | rfl | rfl | rfl | rfl | rfl | rfl | rfl | rfl | rfl | rfl | rfl | rfl | rfl | rfl | rfl | rfl <;> first | exact absurd rfl hne | rfl), fun j v h => h⟩
              · skip
                obtain rfl : u48 = .bool true := hw 9 (by kernel_rfl)
                obtain rfl : u51 = .agg #[.int .i64 x.t.k, .string x.t.m, .string x.t.n, .slice x.aa x.t.A.len x.ca, .slice x.af x.t.F.len x.cf] := hw 12 (by kernel_rfl)
                have HC := hid (HRfree.out w hG.below)
                clear hw
                refine wpOp_of_list (i := 13) rfl ?_
                go_wp2_with fail
                refine HC.out.mono ?_
                rintro e w1 ⟨fv, rfl, hS, hb⟩
                have HH := hid (And.intro hb hS)
                have hb := HH.out.1
                clear hb
                go_wp2_with fail
                exact ⟨⟨_, _, _, _, _, _, _, _, _, _, _, _, _, _, _, _, _, _, _, _, _, _, _, rfl⟩, hG.later HH.out.1, HH.out.2, (fun j hj hne => by rcases (by omega : j = 0 ∨ j = 1 ∨ j = 2 ∨ j = 3 ∨ j = 4 ∨ j = 5 ∨ j = 6 ∨ j = 7 ∨ j = 8 ∨ j = 9 ∨ j = 10 ∨ j = 11 ∨ j = 12 ∨ j = 13 ∨ j = 14 ∨ j = 15 ∨ j = 16 ∨ j = 17 ∨ j = 18 ∨ j = 19 ∨ j = 20 ∨ j = 21 ∨ j = 22) with rfl | rfl | rfl | rfl | rfl | rfl | rfl | rfl | rfl | rfl | rfl | rfl | rfl | rfl | rfl | rfl | rfl | rfl | rfl | rfl | rfl | rfl | rfl <;> first | exact absurd rfl hne | rfl), FactW.later HH.out.1, trivial⟩
              · skip
                obtain rfl : u48 = .bool true := hw 9 (by kernel_rfl)
                obtain ⟨p1, c1, hr1, hs1⟩ := (show FreeS x.t u50 w from hw 11 (by kernel_rfl))
                obtain ⟨p2, c2, hr2, hs2⟩ := (show FreeS x.t u52 w from hw 13 (by kernel_rfl))
                subst hr1 hr2
                have hq := sequal_any w (FL x.t) (FL x.t) p1 p2 c1 c2 w hs1 hs2 (Below.refl _ _) HFL.out
                rw [decide_eq_true rfl, FL_len] at hq
                clear hs1 hs2
                have HC := hid (hq)
                clear hw
                refine wpOp_of_list (i := 14) rfl ?_
                go_wp2_with fail
                refine HC.out.mono ?_
                rintro e w1 ⟨rfl, hb⟩
                have HH := hid (And.intro hb True.intro)
                have hb := HH.out.1
                clear hb
                go_wp2_with fail
                exact ⟨⟨_, _, _, _, _, _, _, _, _, _, _, _, _, _, _, _, _, _, _, _, _, _, _, rfl⟩, hG.later HH.out.1, rfl, (fun j hj hne => by rcases (by omega : j = 0 ∨ j = 1 ∨ j = 2 ∨ j = 3 ∨ j = 4 ∨ j = 5 ∨ j = 6 ∨ j = 7 ∨ j = 8 ∨ j = 9 ∨ j = 10 ∨ j = 11 ∨ j = 12 ∨ j = 13 ∨ j = 14 ∨ j = 15 ∨ j = 16 ∨ j = 17 ∨ j = 18 ∨ j = 19 ∨ j = 20 ∨ j = 21 ∨ j = 22) with rfl | rfl | rfl | rfl | rfl | rfl | rfl | rfl | rfl | rfl | rfl | rfl | rfl | rfl | rfl | rfl | rfl | rfl | rfl | rfl | rfl | rfl | rfl <;> first | exact absurd rfl hne | rfl), FactW.later HH.out.1, trivial⟩
              · skip
                obtain rfl : u48 = .bool true := hw 9 (by kernel_rfl)
                obtain rfl : u53 = .bool true := hw 14 (by kernel_rfl)
                refine wpOp_of_list (i := 15) rfl ?_
                go_wp2_with fail
                exact ⟨⟨_, _, _, _, _, _, _, _, _, _, _, _, _, _, _, _, _, _, _, _, _, _, _, rfl⟩, hG, by first | rfl | (show _ = _; simp), (fun j hj hne => by rcases (by omega : j = 0 ∨ j = 1 ∨ j = 2 ∨ j = 3 ∨ j = 4 ∨ j = 5 ∨ j = 6 ∨ j = 7 ∨ j = 8 ∨ j = 9 ∨ j = 10 ∨ j = 11 ∨ j = 12 ∨ j = 13 ∨ j = 14 ∨ j = 15 ∨ j = 16 ∨ j = 17 ∨ j = 18 ∨ j = 19 ∨ j = 20 ∨ j = 21 ∨ j = 22) with rfl | rfl | rfl | rfl | rfl | rfl | rfl | rfl | rfl | rfl | rfl | rfl | rfl | rfl | rfl | rfl | rfl | rfl | rfl | rfl | rfl | rfl | rfl <;> first | exact absurd rfl hne | rfl), fun j v h => h⟩
              · skip
                obtain rfl : u54 = .bool true := hw 15 (by kernel_rfl)
                refine wpOp_of_list (i := 16) rfl ?_
                go_wp2_with fail
                exact ⟨⟨_, _, _, _, _, _, _, _, _, _, _, _, _, _, _, _, _, _, _, _, _, _, _, rfl⟩, hG, by first | rfl | (show _ = _; simp), (fun j hj hne => by rcases (by omega : j = 0 ∨ j = 1 ∨ j = 2 ∨ j = 3 ∨ j = 4 ∨ j = 5 ∨ j = 6 ∨ j = 7 ∨ j = 8 ∨ j = 9 ∨ j = 10 ∨ j = 11 ∨ j = 12 ∨ j = 13 ∨ j = 14 ∨ j = 15 ∨ j = 16 ∨ j = 17 ∨ j = 18 ∨ j = 19 ∨ j = 20 ∨ j = 21 ∨ j = 22) with rfl | rfl | rfl | rfl | rfl | rfl | rfl | rfl | rfl | rfl | rfl | rfl | rfl | rfl | rfl | rfl | rfl | rfl | rfl | rfl | rfl | rfl | rfl <;> first | exact absurd rfl hne | rfl), fun j v h => h⟩
              · skip
                obtain rfl : u55 = .bool true := hw 16 (by kernel_rfl)
                obtain ⟨c0, c1, c2, c3, c4⟩ := hG.cells
                refine wpOp_of_list (i := 17) rfl ?_
                go_wp2_with fail
                exact ⟨⟨_, _, _, _, _, _, _, _, _, _, _, _, _, _, _, _, _, _, _, _, _, _, _, rfl⟩, hG, by first | rfl | (show _ = _; simp), (fun j hj hne => by rcases (by omega : j = 0 ∨ j = 1 ∨ j = 2 ∨ j = 3 ∨ j = 4 ∨ j = 5 ∨ j = 6 ∨ j = 7 ∨ j = 8 ∨ j = 9 ∨ j = 10 ∨ j = 11 ∨ j = 12 ∨ j = 13 ∨ j = 14 ∨ j = 15 ∨ j = 16 ∨ j = 17 ∨ j = 18 ∨ j = 19 ∨ j = 20 ∨ j = 21 ∨ j = 22) with rfl | rfl | rfl | rfl | rfl | rfl | rfl | rfl | rfl | rfl | rfl | rfl | rfl | rfl | rfl | rfl | rfl | rfl | rfl | rfl | rfl | rfl | rfl <;> first | exact absurd rfl hne | rfl), fun j v h => h⟩
              · skip
                obtain rfl : u55 = .bool true := hw 16 (by kernel_rfl)
                obtain rfl : u56 = .agg #[.int .i64 x.t.k, .string x.t.m, .string x.t.n, .slice x.aa x.t.A.len x.ca, .slice x.af x.t.F.len x.cf] := hw 17 (by kernel_rfl)
                have HC := hid (HMen.out w hG.below)
                clear hw
                refine wpOp_of_list (i := 18) rfl ?_
                go_wp2_with fail
                refine HC.out.mono ?_
                rintro e w1 ⟨fv, rfl, hS, hb⟩
                have HH := hid (And.intro hb hS)
                have hb := HH.out.1
                clear hb
                go_wp2_with fail
                exact ⟨⟨_, _, _, _, _, _, _, _, _, _, _, _, _, _, _, _, _, _, _, _, _, _, _, rfl⟩, hG.later HH.out.1, HH.out.2, (fun j hj hne => by rcases (by omega : j = 0 ∨ j = 1 ∨ j = 2 ∨ j = 3 ∨ j = 4 ∨ j = 5 ∨ j = 6 ∨ j = 7 ∨ j = 8 ∨ j = 9 ∨ j = 10 ∨ j = 11 ∨ j = 12 ∨ j = 13 ∨ j = 14 ∨ j = 15 ∨ j = 16 ∨ j = 17 ∨ j = 18 ∨ j = 19 ∨ j = 20 ∨ j = 21 ∨ j = 22) with rfl | rfl | rfl | rfl | rfl | rfl | rfl | rfl | rfl | rfl | rfl | rfl | rfl | rfl | rfl | rfl | rfl | rfl | rfl | rfl | rfl | rfl | rfl <;> first | exact absurd rfl hne | rfl), FactW.later HH.out.1, trivial⟩
              · skip
                obtain rfl : u55 = .bool true := hw 16 (by kernel_rfl)
                obtain ⟨c0, c1, c2, c3, c4⟩ := hG.cells
                refine wpOp_of_list (i := 19) rfl ?_
                go_wp2_with fail
                exact ⟨⟨_, _, _, _, _, _, _, _, _, _, _, _, _, _, _, _, _, _, _, _, _, _, _, rfl⟩, hG, by first | rfl | (show _ = _; simp), (fun j hj hne => by rcases (by omega : j = 0 ∨ j = 1 ∨ j = 2 ∨ j = 3 ∨ j = 4 ∨ j = 5 ∨ j = 6 ∨ j = 7 ∨ j = 8 ∨ j = 9 ∨ j = 10 ∨ j = 11 ∨ j = 12 ∨ j = 13 ∨ j = 14 ∨ j = 15 ∨ j = 16 ∨ j = 17 ∨ j = 18 ∨ j = 19 ∨ j = 20 ∨ j = 21 ∨ j = 22) with rfl | rfl | rfl | rfl | rfl | rfl | rfl | rfl | rfl | rfl | rfl | rfl | rfl | rfl | rfl | rfl | rfl | rfl | rfl | rfl | rfl | rfl | rfl <;> first | exact absurd rfl hne | rfl), fun j v h => h⟩
              · skip
                obtain rfl : u55 = .bool true := hw 16 (by kernel_rfl)
                obtain rfl : u58 = .agg #[.int .i64 x.t.k, .string x.t.m, .string x.t.n, .slice x.aa x.t.A.len x.ca, .slice x.af x.t.F.len x.cf] := hw 19 (by kernel_rfl)
                have HC := hid (HRmen.out w hG.below)
                clear hw
                refine wpOp_of_list (i := 20) rfl ?_
                go_wp2_with fail
                refine HC.out.mono ?_
                rintro e w1 ⟨fv, rfl, hS, hb⟩
                have HH := hid (And.intro hb hS)
                have hb := HH.out.1
                clear hb
                go_wp2_with fail
                exact ⟨⟨_, _, _, _, _, _, _, _, _, _, _, _, _, _, _, _, _, _, _, _, _, _, _, rfl⟩, hG.later HH.out.1, HH.out.2, (fun j hj hne => by rcases (by omega : j = 0 ∨ j = 1 ∨ j = 2 ∨ j = 3 ∨ j = 4 ∨ j = 5 ∨ j = 6 ∨ j = 7 ∨ j = 8 ∨ j = 9 ∨ j = 10 ∨ j = 11 ∨ j = 12 ∨ j = 13 ∨ j = 14 ∨ j = 15 ∨ j = 16 ∨ j = 17 ∨ j = 18 ∨ j = 19 ∨ j = 20 ∨ j = 21 ∨ j = 22) with rfl | rfl | rfl | rfl | rfl | rfl | rfl | rfl | rfl | rfl | rfl | rfl | rfl | rfl | rfl | rfl | rfl | rfl | rfl | rfl | rfl | rfl | rfl <;> first | exact absurd rfl hne | rfl), FactW.later HH.out.1, trivial⟩
              · skip
                obtain rfl : u55 = .bool true := hw 16 (by kernel_rfl)
                obtain ⟨M1, p1, c1, hm1, hr1, hs1⟩ := (show MenS x.t u57 w from hw 18 (by kernel_rfl))
                obtain ⟨M2, p2, c2, hm2, hr2, hs2⟩ := (show MenS x.t u59 w from hw 20 (by kernel_rfl))
                obtain rfl := hm1.uniq hm2
                subst hr1 hr2
                have hML : M1.length ≤ 1099511627776 := Nat.le_trans hm1.len HXS.out
                have hq := rsame_any M1 M1 p1 p2 c1 c2 w hs1 hs2 hML hML
                rw [sameU_self] at hq
                generalize M1.length = ML at hq
                clear hs1 hs2 hm1 hm2 hML
                have HC := hid (hq)
                clear hw
                refine wpOp_of_list (i := 21) rfl ?_
                go_wp2_with fail
                refine HC.out.mono ?_
                rintro e w1 ⟨rfl, hb⟩
                have HH := hid (And.intro hb True.intro)
                have hb := HH.out.1
                clear hb
                go_wp2_with fail
                exact ⟨⟨_, _, _, _, _, _, _, _, _, _, _, _, _, _, _, _, _, _, _, _, _, _, _, rfl⟩, hG.later HH.out.1, rfl, (fun j hj hne => by rcases (by omega : j = 0 ∨ j = 1 ∨ j = 2 ∨ j = 3 ∨ j = 4 ∨ j = 5 ∨ j = 6 ∨ j = 7 ∨ j = 8 ∨ j = 9 ∨ j = 10 ∨ j = 11 ∨ j = 12 ∨ j = 13 ∨ j = 14 ∨ j = 15 ∨ j = 16 ∨ j = 17 ∨ j = 18 ∨ j = 19 ∨ j = 20 ∨ j = 21 ∨ j = 22) with rfl | rfl | rfl | rfl | rfl | rfl | rfl | rfl | rfl | rfl | rfl | rfl | rfl | rfl | rfl | rfl | rfl | rfl | rfl | rfl | rfl | rfl | rfl <;> first | exact absurd rfl hne | rfl), FactW.later HH.out.1, trivial⟩
              · skip
                obtain rfl : u55 = .bool true := hw 16 (by kernel_rfl)
                obtain rfl : u60 = .bool true := hw 21 (by kernel_rfl)
                refine wpOp_of_list (i := 22) rfl ?_
                go_wp2_with fail
                exact ⟨⟨_, _, _, _, _, _, _, _, _, _, _, _, _, _, _, _, _, _, _, _, _, _, _, rfl⟩, hG, by first | rfl | (show _ = _; simp), (fun j hj hne => by rcases (by omega : j = 0 ∨ j = 1 ∨ j = 2 ∨ j = 3 ∨ j = 4 ∨ j = 5 ∨ j = 6 ∨ j = 7 ∨ j = 8 ∨ j = 9 ∨ j = 10 ∨ j = 11 ∨ j = 12 ∨ j = 13 ∨ j = 14 ∨ j = 15 ∨ j = 16 ∨ j = 17 ∨ j = 18 ∨ j = 19 ∨ j = 20 ∨ j = 21 ∨ j = 22) with rfl | rfl | rfl | rfl | rfl | rfl | rfl | rfl | rfl | rfl | rfl | rfl | rfl | rfl | rfl | rfl | rfl | rfl | rfl | rfl | rfl | rfl | rfl <;> first | exact absurd rfl hne | rfl), fun j v h => h⟩
            case tail =>
              rintro listed a w hall hRl ⟨u39, u40, u41, u42, u43, u44, u45, u46, u47, u48, u49, u50, u51, u52, u53, u54, u55, u56, u57, u58, u59, u60, u61, rfl⟩ hG hf
              obtain rfl : u61 = .bool true := hf 22 (by omega)
              clear hf
              refine wpOp_of_list (i := 23) rfl ?_
              go_wp2_with fail
              dsimp only [gQ]
              go_wp2_with fail
              go_ret
              exact ⟨rfl, hG.below⟩
      · have hgT : (10 : Int) < (T : Int) := by omega
        go_wp2_with fail
        go_ret
        exact ⟨rfl, HB4.out.below⟩
    · have hgN : (10 : Int) < (N : Int) := by omega
      go_wp2_with fail
      go_ret
      exact ⟨rfl, HB4.out.below⟩
  · have hd : decide (((x.t.size + ts.size : Nat) : Int) ≤ 300) = false := by rw [decide_eq_false_iff_not]; omega
    rw [hd]
    clear hd
    go_wp2_with fail
    go_ret
    exact ⟨rfl, HB4.out.below⟩
end Go.Proofs.YtjedcijddlilaaaGreatDoor
