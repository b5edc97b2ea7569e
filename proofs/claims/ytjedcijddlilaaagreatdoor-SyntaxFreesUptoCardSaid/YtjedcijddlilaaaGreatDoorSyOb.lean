/- syntax: what reads as a type is a tree in the memory, no larger than what is read. -/
import Derived.Test.YtjedcijddlilaaaGreatDoorSyO
import Derived.Test.YtjedcijddlilaaaGreatDoorRows
namespace Go.Proofs.YtjedcijddlilaaaGreatDoor
open Go.ChangeShapes Go.WideShapes Go.ChangeAt Go.RowKit

/-- The bulk of a row: its nodes and its strings. -/
def Tr.bk : Tr → Nat
  | .nil => 0
  | .node fn _ _ m n A F nx => 1 + fn.size + m.size + n.size + A.bk + F.bk + nx.bk
def rsum (f : Nat → Nat) (len : Nat) : Nat → Nat
  | 0 => 0
  | j + 1 => rsum f len j + f (len - (j + 1))
def bulkAt {H : Type} (l : List (DataW H)) (i : Nat) : Nat := match l[i]? with
  | some d => Rows.uptoBulk d
  | none => 0
theorem bulkAt_get {H : Type} (elems : List (DataW H × List MemPlace)) (i : Nat) (h : i < elems.length) : bulkAt (elems.map (·.1)) i = Rows.uptoBulk elems[i].1 := by
  unfold bulkAt
  rw [List.getElem?_map, List.getElem?_eq_getElem h]
  rfl
theorem rsum_drop {H : Type} (l : List (DataW H)) (len : Nat) (hl : l.length = len) : ∀ j, j ≤ len → rsum (bulkAt l) len j = Rows.uptoBulkAll (l.drop (len - j)) := by
  intro j
  induction j with
  | zero => intro _; rw [Nat.sub_zero, List.drop_eq_nil_of_le (by omega)]; rfl
  | succ j ih =>
    intro hj
    have h1 : len - (j + 1) < l.length := by omega
    have e : len - (j + 1) + 1 = len - j := by omega
    rw [List.drop_eq_getElem_cons h1, e]
    show rsum (bulkAt l) len j + bulkAt l (len - (j + 1)) = Rows.uptoBulk _ + Rows.uptoBulkAll _
    rw [ih (by omega)]
    have : bulkAt l (len - (j + 1)) = Rows.uptoBulk l[len - (j + 1)] := by unfold bulkAt; rw [List.getElem?_eq_getElem h1]
    omega
theorem rsum_all {H : Type} (l : List (DataW H)) (len : Nat) (hl : l.length = len) : rsum (bulkAt l) len len = Rows.uptoBulkAll l := by
  rw [rsum_drop l len hl len (Nat.le_refl _), Nat.sub_self]; rfl

section
variable {w : World} {base : Nat}
def TyCellsB (w : World) (cs : List Value) (B : Nat) : Prop := ∃ (k : Int) (m n : ByteArray) (A F : Tr) (va vf : Value), cs = [.int .i64 k, .string m, .string n, va, vf] ∧ (Lit.int .i64 k).wf = true ∧ SlW w va A false ∧ SlW w vf F true ∧ 1 + m.size + n.size + A.bk + F.bk ≤ B
theorem TyCellsB.mono {w : World} {cs : List Value} {B C : Nat} (h : TyCellsB w cs B) (hb : B ≤ C) : TyCellsB w cs C := by
  obtain ⟨k, m, n, A, F, va, vf, h1, h2, h3, h4, h5⟩ := h
  exact ⟨k, m, n, A, F, va, vf, h1, h2, h3, h4, Nat.le_trans h5 hb⟩
/-- A row of types out of its elements. -/
theorem row_typesB {f : Nat → Nat} {a : Addr} {len : Nat} (h : ∀ i, i < len → ∃ cs, w.cells? base (a.add (i * 5)) 5 = some cs ∧ TyCellsB w cs (f i)) :
    ∀ j, j ≤ len → ∃ T : Tr, T.len = j ∧ (T = .nil ∨ (a.spot = none ∧ Lies w T false a.block (a.off + (len - j) * 5))) ∧ T.bk ≤ rsum f len j := by
  intro j
  induction j with
  | zero => intro _; exact ⟨.nil, rfl, .inl rfl, Nat.le_refl _⟩
  | succ j ih =>
    intro hj
    obtain ⟨T, hT, hL, hbk⟩ := ih (by omega)
    obtain ⟨cs, hc, k, m, n, A, F, va, vf, rfl, hk, ⟨a1, c1, rfl, h1⟩, ⟨a2, c2, rfl, h2⟩, hB⟩ := h (len - (j + 1)) (by omega)
    obtain ⟨hb, hlen, hcell⟩ := World.cells?_some hc
    obtain ⟨b, o, sp⟩ := a
    have g0 := hcell 0 (by omega)
    have g1 := hcell 1 (by omega)
    have g2 := hcell 2 (by omega)
    have g3 := hcell 3 (by omega)
    have g4 := hcell 4 (by omega)
    obtain ⟨cs0, hc0, _, _, _, _, _, _, _, rfl, _⟩ := h 0 (by omega)
    obtain ⟨_, _, hcell0⟩ := World.cells?_some hc0
    have hsp : sp = none := by
      have h9 := hcell0 0 (by omega)
      simpa [Addr.add] using World.cell?_spot h9
    subst hsp
    simp only [Addr.add_lit] at g0 g1 g2 g3 g4
    refine ⟨.node ⟨#[]⟩ false k m n A F T, by show T.len + 1 = _; omega, .inr ⟨rfl, ?_⟩, ?bk⟩
    case bk =>
      have e : (Tr.node ⟨#[]⟩ false k m n A F T).bk = 1 + 0 + m.size + n.size + A.bk + F.bk + T.bk := rfl
      rw [e]
      show _ ≤ rsum f len j + f (len - (j + 1))
      omega
    refine ⟨(fun e => by cases e), ⟨?_, hk⟩, ?_, ?_, ⟨a1, c1, ?_, h1⟩, ⟨a2, c2, ?_, h2⟩, ?_⟩
    · exact g0
    · exact g1
    · exact g2
    · exact g3
    · exact g4
    · rcases hL with rfl | ⟨_, hL⟩
      · trivial
      · have e : o + (len - (j + 1)) * 5 + (5 + 2 * 0) = o + (len - j) * 5 := by
          have : len - j = len - (j + 1) + 1 := by omega
          rw [this]; omega
        show Lies w T false b (o + (len - (j + 1)) * 5 + (5 + 2 * 0))
        rw [e]; exact hL
/-- What a field's cells are. -/
def FdCellsB (w : World) (cs : List Value) (B : Nat) : Prop := ∃ (fn : ByteArray) (op : Bool) (ts : List Value), cs = .string fn :: (ts ++ [.bool op]) ∧ TyCellsB w ts (B - fn.size) ∧ fn.size ≤ B
/-- A row of fields out of its elements. -/
theorem row_fieldsB {f : Nat → Nat} {a : Addr} {len : Nat} (h : ∀ i, i < len → ∃ cs, w.cells? base (a.add (i * 7)) 7 = some cs ∧ FdCellsB w cs (f i)) :
    ∀ j, j ≤ len → ∃ T : Tr, T.len = j ∧ (T = .nil ∨ (a.spot = none ∧ Lies w T true a.block (a.off + (len - j) * 7))) ∧ T.bk ≤ rsum f len j := by
  intro j
  induction j with
  | zero => intro _; exact ⟨.nil, rfl, .inl rfl, Nat.le_refl _⟩
  | succ j ih =>
    intro hj
    obtain ⟨T, hT, hL, hbk⟩ := ih (by omega)
    obtain ⟨cs, hc, fn, op, ts, rfl, ⟨k, m, n, A, F, va, vf, rfl, hk, ⟨a1, c1, rfl, h1⟩, ⟨a2, c2, rfl, h2⟩, hB⟩, hfn⟩ := h (len - (j + 1)) (by omega)
    obtain ⟨hb, hlen, hcell⟩ := World.cells?_some hc
    obtain ⟨b, o, sp⟩ := a
    have g0 := hcell 0 (by omega)
    have g1 := hcell 1 (by omega)
    have g2 := hcell 2 (by omega)
    have g3 := hcell 3 (by omega)
    have g4 := hcell 4 (by omega)
    have g5 := hcell 5 (by omega)
    have g6 := hcell 6 (by omega)
    obtain ⟨cs0, hc0, _, _, _, rfl, _, _⟩ := h 0 (by omega)
    obtain ⟨_, _, hcell0⟩ := World.cells?_some hc0
    have hsp : sp = none := by
      have h9 := hcell0 0 (by omega)
      simpa [Addr.add] using World.cell?_spot h9
    subst hsp
    simp only [Addr.add_lit] at g0 g1 g2 g3 g4 g5 g6
    refine ⟨.node fn op k m n A F T, by show T.len + 1 = _; omega, .inr ⟨rfl, ?_⟩, ?bk⟩
    case bk =>
      have e : (Tr.node fn op k m n A F T).bk = 1 + fn.size + m.size + n.size + A.bk + F.bk + T.bk := rfl
      rw [e]
      show _ ≤ rsum f len j + f (len - (j + 1))
      omega
    refine ⟨fun _ => ⟨g0, g6⟩, ⟨?_, hk⟩, ?_, ?_, ⟨a1, c1, ?_, h1⟩, ⟨a2, c2, ?_, h2⟩, ?_⟩
    · exact g1
    · exact g2
    · exact g3
    · exact g4
    · exact g5
    · rcases hL with rfl | ⟨_, hL⟩
      · trivial
      · have e : o + (len - (j + 1)) * 7 + (5 + 2 * 1) = o + (len - j) * 7 := by
          have : len - j = len - (j + 1) + 1 := by omega
          rw [this]; omega
        show Lies w T true b (o + (len - (j + 1)) * 7 + (5 + 2 * 1))
        rw [e]; exact hL
end
section
variable {H : Type} {enc : TypeId × Value → H} {w : World} {base : Nat} {spare : Nat → Bool} {held : Bool}
set_option maxRecDepth 100000 in
theorem open_typesB {n : Nat} {v : Value} {x : DataW H × List MemPlace} (ih : ∀ m, m < n → ∀ cs x, DataW.trod enc Tryz.prog w base spare held m 25 cs = some x → TyCellsB w cs (Rows.uptoBulk x.1))
    (h : DataW.trod enc Tryz.prog w base spare held n 22 [v] = some x) : ∃ T, SlW w v T false ∧ T.bk ≤ Rows.uptoBulk x.1 := by
  rcases DataW.trod_slice Tryz.underlying22 h with ⟨hcs, _⟩ | ⟨a, len, cap, elems, rest, m, rfl, hcs, hx, _, _, _, hlen, hel, _⟩
  · have hv : v = .slice none 0 0 := by injection hcs
    exact ⟨.nil, ⟨none, 0, hv, .inl rfl⟩, Nat.zero_le _⟩
  · have hv : v = .slice (some a) len cap := by injection hcs
    rw [cellsTy] at hel
    obtain ⟨T, hT, hL, hbk⟩ := row_typesB (f := bulkAt (elems.map (·.1))) (w := w) (base := base) (a := a) (len := len) (fun i hi => by
      have h1 := hel i hi
      rw [List.getElem?_eq_getElem (by omega)] at h1
      obtain ⟨cs, h2, h3⟩ := Option.bind_eq_some_iff.1 h1
      refine ⟨cs, h2, ?_⟩
      have h4 := ih m (by omega) cs _ h3
      rwa [bulkAt_get elems i (by omega)]) len (Nat.le_refl _)
    refine ⟨T, ⟨some a, cap, by rw [hT]; exact hv, ?_⟩, ?bk⟩
    case bk =>
      rw [hx]
      show _ ≤ Rows.uptoBulkAll (elems.map (·.1)) + Rows.uptoBulkAll (rest.map (·.1)) + 1
      have h5 := rsum_all (elems.map (·.1)) len (by rw [List.length_map]; exact hlen)
      omega
    rcases hL with h | ⟨hs, hL⟩
    · exact .inl h
    · obtain ⟨b, o, sp⟩ := a
      have hs2 : sp = none := hs
      subst hs2
      refine .inr ⟨b, o, rfl, ?_⟩
      have e : o + (len - len) * 5 = o := by omega
      have hL2 : Lies w T false b (o + (len - len) * 5) := hL
      rw [e] at hL2; exact hL2
set_option maxRecDepth 100000 in
theorem open_fieldsB {n : Nat} {v : Value} {x : DataW H × List MemPlace} (ih : ∀ m, m < n → ∀ cs x, DataW.trod enc Tryz.prog w base spare held m 25 cs = some x → TyCellsB w cs (Rows.uptoBulk x.1))
    (h : DataW.trod enc Tryz.prog w base spare held n 23 [v] = some x) : ∃ T, SlW w v T true ∧ T.bk ≤ Rows.uptoBulk x.1 := by
  rcases DataW.trod_slice Tryz.underlying23 h with ⟨hcs, _⟩ | ⟨a, len, cap, elems, rest, m, rfl, hcs, hx, _, _, _, hlen, hel, _⟩
  · have hv : v = .slice none 0 0 := by injection hcs
    exact ⟨.nil, ⟨none, 0, hv, .inl rfl⟩, Nat.zero_le _⟩
  · have hv : v = .slice (some a) len cap := by injection hcs
    rw [cellsFd] at hel
    obtain ⟨T, hT, hL, hbk⟩ := row_fieldsB (f := bulkAt (elems.map (·.1))) (w := w) (base := base) (a := a) (len := len) (fun i hi => by
      have h1 := hel i hi
      rw [List.getElem?_eq_getElem (by omega)] at h1
      obtain ⟨cs, h2, h3⟩ := Option.bind_eq_some_iff.1 h1
      refine ⟨cs, h2, ?_⟩
      obtain ⟨xs, k, rfl, hx3', hlen3, hxl, hf⟩ := DataW.trod_struct Tryz.underlying86 h3
      rw [cellsFd] at hlen3
      obtain ⟨c0, c1, c2, c3, c4, c5, c6, rfl⟩ : ∃ c0 c1 c2 c3 c4 c5 c6, cs = [c0, c1, c2, c3, c4, c5, c6] := by
        match cs, hlen3 with
        | [c0, c1, c2, c3, c4, c5, c6], _ => exact ⟨_, _, _, _, _, _, _, rfl⟩
      have f0 : DataW.trod enc Tryz.prog w base spare held k 9 (List.take (Tryz.prog.cellsOf 9) (List.drop 0 [c0, c1, c2, c3, c4, c5, c6])) = xs[0]? := hf 0 _ rfl
      have f1 : DataW.trod enc Tryz.prog w base spare held k 25 (List.take (Tryz.prog.cellsOf 25) (List.drop 1 [c0, c1, c2, c3, c4, c5, c6])) = xs[1]? := hf 1 _ rfl
      have f2 : DataW.trod enc Tryz.prog w base spare held k 4 (List.take (Tryz.prog.cellsOf 4) (List.drop 6 [c0, c1, c2, c3, c4, c5, c6])) = xs[2]? := hf 2 _ rfl
      have hx3 : xs.length = 3 := hxl
      rw [cells_str, List.getElem?_eq_getElem (by omega)] at f0
      rw [cellsTy, List.getElem?_eq_getElem (by omega)] at f1
      rw [cells_bool, List.getElem?_eq_getElem (by omega)] at f2
      have f0' : DataW.trod enc Tryz.prog w base spare held k 9 [c0] = some xs[0] := f0
      have f2' : DataW.trod enc Tryz.prog w base spare held k 4 [c6] = some xs[2] := f2
      have f1' : DataW.trod enc Tryz.prog w base spare held k 25 [c1, c2, c3, c4, c5] = some xs[1] := f1
      obtain ⟨s, e0, ex0, _⟩ := DataW.trod_string Tryz.underlying9 f0'
      obtain ⟨y, e6, _⟩ := DataW.trod_bool Tryz.underlying4 f2'
      have e0' : c0 = .string s := by injection e0
      have e6' : c6 = .bool y := by injection e6
      subst e0' e6'
      have h4 := ih k (by omega) _ _ f1'
      rw [bulkAt_get elems i (by omega), hx3']
      obtain ⟨x0, x1, x2, rfl⟩ : ∃ x0 x1 x2, xs = [x0, x1, x2] := by
        match xs, hx3 with
        | [x0, x1, x2], _ => exact ⟨_, _, _, rfl⟩
      have ex0' : x0 = (.lit (.string s.data.toList), []) := ex0
      subst ex0'
      have e9 : Rows.uptoBulk (DataW.agg (H := H) ([((.lit (.string s.data.toList), []) : DataW H × List MemPlace), x1, x2].map (·.1))) = (s.data.toList.length + 1) + (Rows.uptoBulk x1.1 + (Rows.uptoBulk x2.1 + 0)) + 1 := rfl
      have h6 : s.data.toList.length = s.size := by rw [Array.length_toList]; rfl
      refine ⟨s, y, [c1, c2, c3, c4, c5], rfl, TyCellsB.mono h4 ?_, ?_⟩
      · rw [e9]; show Rows.uptoBulk x1.1 ≤ _; omega
      · rw [e9]; omega) len (Nat.le_refl _)
    refine ⟨T, ⟨some a, cap, by rw [hT]; exact hv, ?_⟩, ?bk⟩
    case bk =>
      rw [hx]
      show _ ≤ Rows.uptoBulkAll (elems.map (·.1)) + Rows.uptoBulkAll (rest.map (·.1)) + 1
      have h5 := rsum_all (elems.map (·.1)) len (by rw [List.length_map]; exact hlen)
      omega
    rcases hL with h | ⟨hs, hL⟩
    · exact .inl h
    · obtain ⟨b, o, sp⟩ := a
      have hs2 : sp = none := hs
      subst hs2
      refine .inr ⟨b, o, rfl, ?_⟩
      have e : o + (len - len) * 7 = o := by omega
      have hL2 : Lies w T true b (o + (len - len) * 7) := hL
      rw [e] at hL2; exact hL2
set_option maxRecDepth 100000 in
/-- Whatever reads as a type is a tree. -/
theorem open_tyB : ∀ (n : Nat) (cs : List Value) (x : DataW H × List MemPlace), DataW.trod enc Tryz.prog w base spare held n 25 cs = some x → TyCellsB w cs (Rows.uptoBulk x.1) := by
  intro n
  induction n using Nat.strongRecOn with
  | _ n ih =>
    intro cs x h
    obtain ⟨xs, k, rfl, hx, hlen, hxl, hf⟩ := DataW.trod_struct Tryz.underlying25 h
    rw [cellsTy] at hlen
    obtain ⟨c0, c1, c2, c3, c4, rfl⟩ : ∃ c0 c1 c2 c3 c4, cs = [c0, c1, c2, c3, c4] := by
      match cs, hlen with
      | [c0, c1, c2, c3, c4], _ => exact ⟨_, _, _, _, _, rfl⟩
    have f0 : DataW.trod enc Tryz.prog w base spare held k 3 (List.take (Tryz.prog.cellsOf 3) (List.drop 0 [c0, c1, c2, c3, c4])) = xs[0]? := hf 0 _ rfl
    have f1 : DataW.trod enc Tryz.prog w base spare held k 9 (List.take (Tryz.prog.cellsOf 9) (List.drop 1 [c0, c1, c2, c3, c4])) = xs[1]? := hf 1 _ rfl
    have f2 : DataW.trod enc Tryz.prog w base spare held k 9 (List.take (Tryz.prog.cellsOf 9) (List.drop 2 [c0, c1, c2, c3, c4])) = xs[2]? := hf 2 _ rfl
    have f3 : DataW.trod enc Tryz.prog w base spare held k 22 (List.take (Tryz.prog.cellsOf 22) (List.drop 3 [c0, c1, c2, c3, c4])) = xs[3]? := hf 3 _ rfl
    have f4 : DataW.trod enc Tryz.prog w base spare held k 23 (List.take (Tryz.prog.cellsOf 23) (List.drop 4 [c0, c1, c2, c3, c4])) = xs[4]? := hf 4 _ rfl
    have hx5 : xs.length = 5 := hxl
    rw [cells_int, List.getElem?_eq_getElem (by omega)] at f0
    rw [cells_str, List.getElem?_eq_getElem (by omega)] at f1
    rw [cells_str, List.getElem?_eq_getElem (by omega)] at f2
    rw [cells_tys, List.getElem?_eq_getElem (by omega)] at f3
    rw [cells_fds, List.getElem?_eq_getElem (by omega)] at f4
    have f0' : DataW.trod enc Tryz.prog w base spare held k 3 [c0] = some xs[0] := f0
    have f1' : DataW.trod enc Tryz.prog w base spare held k 9 [c1] = some xs[1] := f1
    have f2' : DataW.trod enc Tryz.prog w base spare held k 9 [c2] = some xs[2] := f2
    have f3' : DataW.trod enc Tryz.prog w base spare held k 22 [c3] = some xs[3] := f3
    have f4' : DataW.trod enc Tryz.prog w base spare held k 23 [c4] = some xs[4] := f4
    obtain ⟨z, e0, _, hz⟩ := DataW.trod_int Tryz.underlying3 f0'
    obtain ⟨s1, e1, ex1, _⟩ := DataW.trod_string Tryz.underlying9 f1'
    obtain ⟨s2, e2, ex2, _⟩ := DataW.trod_string Tryz.underlying9 f2'
    have e0' : c0 = .int .i64 z := by injection e0
    have e1' : c1 = .string s1 := by injection e1
    have e2' : c2 = .string s2 := by injection e2
    obtain ⟨A, hA, hAb⟩ := open_typesB (fun m hm => ih m (by omega)) f3'
    obtain ⟨F, hF, hFb⟩ := open_fieldsB (fun m hm => ih m (by omega)) f4'
    refine ⟨z, s1, s2, A, F, c3, c4, by rw [e0', e1', e2'], hz, hA, hF, ?_⟩
    rw [hx]
    obtain ⟨x0, x1, x2, x3, x4, rfl⟩ : ∃ x0 x1 x2 x3 x4, xs = [x0, x1, x2, x3, x4] := by
      match xs, hx5 with
      | [x0, x1, x2, x3, x4], _ => exact ⟨_, _, _, _, _, rfl⟩
    have ex1' : x1 = (.lit (.string s1.data.toList), []) := ex1
    have ex2' : x2 = (.lit (.string s2.data.toList), []) := ex2
    subst ex1' ex2'
    have e9 : Rows.uptoBulk (DataW.agg (H := H) ([x0, ((.lit (.string s1.data.toList), []) : DataW H × List MemPlace), ((.lit (.string s2.data.toList), []) : DataW H × List MemPlace), x3, x4].map (·.1))) = Rows.uptoBulk x0.1 + ((s1.data.toList.length + 1) + ((s2.data.toList.length + 1) + (Rows.uptoBulk x3.1 + (Rows.uptoBulk x4.1 + 0)))) + 1 := rfl
    have h6 : s1.data.toList.length = s1.size := by rw [Array.length_toList]; rfl
    have h7 : s2.data.toList.length = s2.size := by rw [Array.length_toList]; rfl
    have hAb' : A.bk ≤ Rows.uptoBulk x3.1 := hAb
    have hFb' : F.bk ≤ Rows.uptoBulk x4.1 := hFb
    rw [e9]
    omega
end
end Go.Proofs.YtjedcijddlilaaaGreatDoor
