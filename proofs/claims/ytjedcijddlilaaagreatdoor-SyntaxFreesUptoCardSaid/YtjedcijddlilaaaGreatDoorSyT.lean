/- syntax: types written as trees in the memory; opening them. -/
import Derived.Test.YtjedcijddlilaaaGreatDoorBase
import Derived.Deep.Fields
import Derived.Deep.Slices
import Derived.Deep.Strs
import Derived.OpenShut
namespace Go.Proofs.YtjedcijddlilaaaGreatDoor
open Go.ChangeShapes Go.WideShapes Go.ChangeAt Go.RowKit

/-- A row of types, or of fields (name, type, optional): the first one, and the next ones. -/
inductive Tr where
  | nil
  | node (fn : ByteArray) (op : Bool) (k : Int) (m n : ByteArray) (args fields next : Tr)
def Tr.len : Tr → Nat
  | .nil => 0
  | .node _ _ _ _ _ _ _ r => r.len + 1
/-- The row lies in the memory from cell o of block b on; fl: it is a row of fields. -/
def Lies (w : World) : Tr → Bool → Nat → Nat → Prop
  | .nil, _, _, _ => True
  | .node fn op k m n A F nx, fl, b, o =>
    (fl = true → w.cell? ⟨b, o, none⟩ = some (.string fn) ∧ w.cell? ⟨b, o + 6, none⟩ = some (.bool op)) ∧
    (w.cell? ⟨b, o + fl.toNat, none⟩ = some (.int .i64 k) ∧ (Lit.int .i64 k).wf = true) ∧ w.cell? ⟨b, o + fl.toNat + 1, none⟩ = some (.string m) ∧ w.cell? ⟨b, o + fl.toNat + 2, none⟩ = some (.string n) ∧
    (∃ a c, w.cell? ⟨b, o + fl.toNat + 3, none⟩ = some (.slice a A.len c) ∧ (A = .nil ∨ ∃ b' o', a = some ⟨b', o', none⟩ ∧ Lies w A false b' o')) ∧
    (∃ a c, w.cell? ⟨b, o + fl.toNat + 4, none⟩ = some (.slice a F.len c) ∧ (F = .nil ∨ ∃ b' o', a = some ⟨b', o', none⟩ ∧ Lies w F true b' o')) ∧
    Lies w nx fl b (o + (5 + 2 * fl.toNat))
/-- A slice of types or of fields. -/
def SlW (w : World) (v : Value) (T : Tr) (fl : Bool) : Prop := ∃ a c, v = .slice a T.len c ∧ (T = .nil ∨ ∃ b o, a = some ⟨b, o, none⟩ ∧ Lies w T fl b o)

theorem ty_lt {w : World} {a : Addr} {v : Value} (h : w.cell? a = some v) : a.block < w.heap.size := World.block_lt_of_cell? w a h
theorem Lies_below {w w' : World} (hb : Below w.heap.size w w') : ∀ (T : Tr) (fl : Bool) (b o : Nat), Lies w T fl b o → Lies w' T fl b o := by
  intro T
  induction T with
  | nil => intro _ _ _ _; trivial
  | node fn op k m n A F nx ha hf hn =>
    intro fl b o h
    obtain ⟨h0, ⟨h1, h1w⟩, h2, h3, ⟨a, c, h4, h5⟩, ⟨a', c', h6, h7⟩, h8⟩ := h
    refine ⟨fun e => ?_, ⟨(hb.cell (ty_lt h1)).trans h1, h1w⟩, (hb.cell (ty_lt h2)).trans h2, (hb.cell (ty_lt h3)).trans h3, ⟨a, c, (hb.cell (ty_lt h4)).trans h4, ?_⟩, ⟨a', c', (hb.cell (ty_lt h6)).trans h6, ?_⟩, hn _ _ _ h8⟩
    · obtain ⟨g0, g1⟩ := h0 e
      exact ⟨(hb.cell (ty_lt g0)).trans g0, (hb.cell (ty_lt g1)).trans g1⟩
    · rcases h5 with h | ⟨b', o', h, h'⟩
      · exact .inl h
      · exact .inr ⟨b', o', h, ha _ _ _ h'⟩
    · rcases h7 with h | ⟨b', o', h, h'⟩
      · exact .inl h
      · exact .inr ⟨b', o', h, hf _ _ _ h'⟩
theorem SlW_below {w w' : World} {v : Value} {T : Tr} {fl : Bool} (h : SlW w v T fl) (hb : Below w.heap.size w w') : SlW w' v T fl := by
  obtain ⟨a, c, hv, h⟩ := h
  refine ⟨a, c, hv, ?_⟩
  rcases h with h | ⟨b', o', h, h'⟩
  · exact .inl h
  · exact .inr ⟨b', o', h, Lies_below hb _ _ _ _ h'⟩

section
variable {H : Type} {enc : TypeId × Value → H} {w : World} {base : Nat} {spare : Nat → Bool} {held : Bool}
/-- What a type's cells are. -/
def TyCells (w : World) (cs : List Value) : Prop := ∃ (k : Int) (m n : ByteArray) (A F : Tr) (va vf : Value), cs = [.int .i64 k, .string m, .string n, va, vf] ∧ (Lit.int .i64 k).wf = true ∧ SlW w va A false ∧ SlW w vf F true
/-- A row of types out of its elements. -/
theorem row_types {a : Addr} {len : Nat} (h : ∀ i, i < len → ∃ cs, w.cells? base (a.add (i * 5)) 5 = some cs ∧ TyCells w cs) :
    ∀ j, j ≤ len → ∃ T : Tr, T.len = j ∧ (T = .nil ∨ (a.spot = none ∧ Lies w T false a.block (a.off + (len - j) * 5))) := by
  intro j
  induction j with
  | zero => intro _; exact ⟨.nil, rfl, .inl rfl⟩
  | succ j ih =>
    intro hj
    obtain ⟨T, hT, hL⟩ := ih (by omega)
    obtain ⟨cs, hc, k, m, n, A, F, va, vf, rfl, hk, ⟨a1, c1, rfl, h1⟩, ⟨a2, c2, rfl, h2⟩⟩ := h (len - (j + 1)) (by omega)
    obtain ⟨hb, hlen, hcell⟩ := World.cells?_some hc
    obtain ⟨b, o, sp⟩ := a
    have g0 := hcell 0 (by omega)
    have g1 := hcell 1 (by omega)
    have g2 := hcell 2 (by omega)
    have g3 := hcell 3 (by omega)
    have g4 := hcell 4 (by omega)
    obtain ⟨cs0, hc0, _, _, _, _, _, _, _, rfl, _⟩ := h 0 (by omega)
    obtain ⟨_, _, hcell0⟩ := World.cells?_some hc0
    have hsp : sp = none := by
      have h9 := hcell0 0 (by omega)
      simpa [Addr.add] using World.cell?_spot h9
    subst hsp
    simp only [Addr.add_lit] at g0 g1 g2 g3 g4
    refine ⟨.node ⟨#[]⟩ false k m n A F T, by show T.len + 1 = _; omega, .inr ⟨rfl, ?_⟩⟩
    refine ⟨(fun e => by cases e), ⟨?_, hk⟩, ?_, ?_, ⟨a1, c1, ?_, h1⟩, ⟨a2, c2, ?_, h2⟩, ?_⟩
    · exact g0
    · exact g1
    · exact g2
    · exact g3
    · exact g4
    · rcases hL with rfl | ⟨_, hL⟩
      · trivial
      · have e : o + (len - (j + 1)) * 5 + (5 + 2 * 0) = o + (len - j) * 5 := by
          have : len - j = len - (j + 1) + 1 := by omega
          rw [this]; omega
        show Lies w T false b (o + (len - (j + 1)) * 5 + (5 + 2 * 0))
        rw [e]; exact hL
/-- What a field's cells are. -/
def FdCells (w : World) (cs : List Value) : Prop := ∃ (fn : ByteArray) (op : Bool) (ts : List Value), cs = .string fn :: (ts ++ [.bool op]) ∧ TyCells w ts
/-- A row of fields out of its elements. -/
theorem row_fields {a : Addr} {len : Nat} (h : ∀ i, i < len → ∃ cs, w.cells? base (a.add (i * 7)) 7 = some cs ∧ FdCells w cs) :
    ∀ j, j ≤ len → ∃ T : Tr, T.len = j ∧ (T = .nil ∨ (a.spot = none ∧ Lies w T true a.block (a.off + (len - j) * 7))) := by
  intro j
  induction j with
  | zero => intro _; exact ⟨.nil, rfl, .inl rfl⟩
  | succ j ih =>
    intro hj
    obtain ⟨T, hT, hL⟩ := ih (by omega)
    obtain ⟨cs, hc, fn, op, ts, rfl, k, m, n, A, F, va, vf, rfl, hk, ⟨a1, c1, rfl, h1⟩, ⟨a2, c2, rfl, h2⟩⟩ := h (len - (j + 1)) (by omega)
    obtain ⟨hb, hlen, hcell⟩ := World.cells?_some hc
    obtain ⟨b, o, sp⟩ := a
    have g0 := hcell 0 (by omega)
    have g1 := hcell 1 (by omega)
    have g2 := hcell 2 (by omega)
    have g3 := hcell 3 (by omega)
    have g4 := hcell 4 (by omega)
    have g5 := hcell 5 (by omega)
    have g6 := hcell 6 (by omega)
    obtain ⟨cs0, hc0, _, _, _, rfl, _⟩ := h 0 (by omega)
    obtain ⟨_, _, hcell0⟩ := World.cells?_some hc0
    have hsp : sp = none := by
      have h9 := hcell0 0 (by omega)
      simpa [Addr.add] using World.cell?_spot h9
    subst hsp
    simp only [Addr.add_lit] at g0 g1 g2 g3 g4 g5 g6
    refine ⟨.node fn op k m n A F T, by show T.len + 1 = _; omega, .inr ⟨rfl, ?_⟩⟩
    refine ⟨fun _ => ⟨g0, g6⟩, ⟨?_, hk⟩, ?_, ?_, ⟨a1, c1, ?_, h1⟩, ⟨a2, c2, ?_, h2⟩, ?_⟩
    · exact g1
    · exact g2
    · exact g3
    · exact g4
    · exact g5
    · rcases hL with rfl | ⟨_, hL⟩
      · trivial
      · have e : o + (len - (j + 1)) * 7 + (5 + 2 * 1) = o + (len - j) * 7 := by
          have : len - j = len - (j + 1) + 1 := by omega
          rw [this]; omega
        show Lies w T true b (o + (len - (j + 1)) * 7 + (5 + 2 * 1))
        rw [e]; exact hL
end
end Go.Proofs.YtjedcijddlilaaaGreatDoor
