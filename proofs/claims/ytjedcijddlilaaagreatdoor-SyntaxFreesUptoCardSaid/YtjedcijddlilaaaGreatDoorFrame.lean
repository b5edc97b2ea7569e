/- 'w.grownBy w' (some g)': new blocks, and writes into block g alone: how it is handed on. Rows of cells: a store into a row that is known whole. -/
import Derived.Test.YtjedcijddlilaaaGreatDoorU32
import Derived.Deep.Draws
namespace Go.Proofs.YtjedcijddlilaaaGreatDoor
open Go.RowKit

section
variable {a w w' : World} {r : Option Nat}
theorem gb_trans {b c : World} (h : a.grownBy b r) (k : b.grownBy c r) : a.grownBy c r :=
  ⟨k.os.trans h.os, k.tape.trans h.tape, k.output.trans h.output, Nat.le_trans h.size k.size,
    fun i hi hne => (k.block i (Nat.lt_of_lt_of_le hi h.size) hne).trans (h.block i hi hne)⟩
theorem gb_drew (h : a.grownBy w r) (n : Nat) : a.grownBy (w.drewN n) r := ⟨h.os, h.tape, h.output, h.size, h.block⟩
theorem gb_drew1 (h : a.grownBy w r) : a.grownBy w.drew r := ⟨h.os, h.tape, h.output, h.size, h.block⟩
theorem gb_alloc (h : a.grownBy w r) (o : Obj) : a.grownBy (w.alloc o) r := gb_trans h (World.grownBy_alloc w o r)
theorem gb_set {g : Nat} (h : a.grownBy w (some g)) {p : Addr} (hp : p.block = g ∨ a.heap.size ≤ p.block) (v : Value) : a.grownBy (w.setCell p v) (some g) := by
  refine ⟨h.os, h.tape, h.output, by simp only [World.setCell, Array.size_modify]; exact h.size, fun i hi hne => ?_⟩
  rw [heap_setCell_other]
  · exact h.block i hi hne
  · rcases hp with hp | hp
    · intro e; subst e; exact hne (by rw [hp])
    · omega
theorem gb_setNew (h : a.grownBy w r) {p : Addr} (hp : a.heap.size ≤ p.block) (v : Value) : a.grownBy (w.setCell p v) r := by
  refine ⟨h.os, h.tape, h.output, by simp only [World.setCell, Array.size_modify]; exact h.size, fun i hi hne => ?_⟩
  rw [heap_setCell_other _ _ _ _ (by omega)]
  exact h.block i hi hne
theorem gb_row {g : Nat} (h : a.grownBy w (some g)) (cs : Array Value) : a.grownBy (w.setRow g cs) (some g) := by
  refine ⟨h.os, h.tape, h.output, by rw [size_setRow]; exact h.size, fun i hi hne => ?_⟩
  rw [setRow_other _ _ _ _ (by intro e; subst e; exact hne rfl)]
  exact h.block i hi hne
theorem gb_rowNew {g : Nat} (h : a.grownBy w r) (hg : a.heap.size ≤ g) (cs : Array Value) : a.grownBy (w.setRow g cs) r := by
  refine ⟨h.os, h.tape, h.output, by rw [size_setRow]; exact h.size, fun i hi hne => ?_⟩
  rw [setRow_other _ _ _ _ (by omega)]
  exact h.block i hi hne
theorem gb_below (h : a.grownBy w r) (k : Below w.heap.size w w') : a.grownBy w' r :=
  gb_trans h ⟨k.os, k.tape, k.output, k.size, fun i hi _ => k.block i hi⟩
theorem gb_none (h : a.grownBy w none) (r : Option Nat) : a.grownBy w r := ⟨h.os, h.tape, h.output, h.size, fun i hi _ => h.block i hi (by simp)⟩
theorem below_gb (h : w.grownBy w' none) : Below w.heap.size w w' := ⟨h.os, h.tape, h.output, h.size, fun i hi => h.block i hi (by simp)⟩
theorem gb_of_below (h : Below w.heap.size w w') : w.grownBy w' none := ⟨h.os, h.tape, h.output, h.size, fun i hi _ => h.block i hi⟩
/-- What is written lies behind what was there. -/
theorem below_of_gb {g : Nat} {B : Nat} (h : w.grownBy w' (some g)) (hB : B ≤ w.heap.size) (hg : B ≤ g) : Below B w w' :=
  ⟨h.os, h.tape, h.output, h.size, fun i hi => h.block i (by omega) (by intro e; injection e; omega)⟩
theorem gb_cell {g : Nat} (h : w.grownBy w' (some g)) {b o : Nat} (hb : b < w.heap.size) (hne : b ≠ g) : w'.cell? ⟨b, o, none⟩ = w.cell? ⟨b, o, none⟩ :=
  World.cell?_of_block (a := ⟨b, o, none⟩) (h.block b hb (by intro e; injection e with e; exact hne e))
theorem gb_heap {g : Nat} (h : w.grownBy w' (some g)) {b : Nat} (hb : b < w.heap.size) (hne : b ≠ g) : w'.heap[b]? = w.heap[b]? :=
  h.block b hb (by intro e; injection e with e; exact hne e)
end

theorem below_row {B g : Nat} (w : World) (hg : B ≤ g) (cs : Array Value) : Below B w (w.setRow g cs) :=
  ⟨rfl, rfl, rfl, by rw [size_setRow]; exact Nat.le_refl _, fun i hi => setRow_other _ _ _ _ (by omega)⟩
/-- Block g holds the cells cs; besides there are new blocks alone. -/
def RowRel (g : Nat) (t : TypeId) (w0 : World) (cs : Array Value) (wr : World) : Prop :=
  w0.grownBy wr (some g) ∧ wr.heap[g]? = some (.cells cs t (0, 0))
section
variable {g : Nat} {t : TypeId} {w0 wr : World} {cs : Array Value}
theorem RR_start (h : w0.heap[g]? = some (.cells cs t (0, 0))) : RowRel g t w0 cs w0 := ⟨World.grownBy.refl _ _, h⟩
theorem RR_free (h : RowRel g t w0 cs wr) (k : Nat) : wr.frozen? ⟨g, k, none⟩ = false := frozen_of_row wr g k _ _ h.2
theorem RR_cell (h : RowRel g t w0 cs wr) {k : Nat} {v : Value} (hv : cs[k]? = some v) : wr.cell? ⟨g, k, none⟩ = some v :=
  (cell_of_row wr g k _ _ _ h.2).trans hv
theorem RR_some (h : RowRel g t w0 cs wr) (k : Nat) (hk : k < cs.size) : ∃ v, wr.cell? ⟨g, k, none⟩ = some v := ⟨_, RR_cell h (Array.getElem?_eq_getElem hk)⟩
theorem RR_far (h : RowRel g t w0 cs wr) {b o : Nat} (hb : b < w0.heap.size) (hne : b ≠ g) : wr.cell? ⟨b, o, none⟩ = w0.cell? ⟨b, o, none⟩ := gb_cell h.1 hb hne
theorem RR_lt (h : RowRel g t w0 cs wr) : g < wr.heap.size := (Array.getElem?_eq_some_iff.1 h.2).1
theorem RR_drew (h : RowRel g t w0 cs wr) (n : Nat) : RowRel g t w0 cs (wr.drewN n) := ⟨gb_drew h.1 n, h.2⟩
theorem RR_alloc (h : RowRel g t w0 cs wr) (o : Obj) : RowRel g t w0 cs (wr.alloc o) :=
  ⟨gb_alloc h.1 o, (heap_alloc_old wr o (RR_lt h)).trans h.2⟩
theorem RR_set (h : RowRel g t w0 cs wr) (k : Nat) (v : Value) : RowRel g t w0 (cs.setIfInBounds k v) (wr.setCell ⟨g, k, none⟩ v) :=
  ⟨gb_set h.1 (Or.inl rfl) v, heap_setCell_same wr g k cs t v h.2⟩
theorem RR_row (h : RowRel g t w0 cs wr) (cs' : Array Value) : RowRel g t w0 cs' (wr.setRow g cs') :=
  ⟨gb_row h.1 cs', setRow_heap wr g cs cs' t (0, 0) h.2⟩
theorem RR_setFar (h : RowRel g t w0 cs wr) {p : Addr} (hp : w0.heap.size ≤ p.block) (hne : p.block ≠ g) (v : Value) : RowRel g t w0 cs (wr.setCell p v) :=
  ⟨gb_setNew h.1 hp v, (heap_setCell_other _ _ _ _ (Ne.symm hne)).trans h.2⟩
theorem RR_below (h : RowRel g t w0 cs wr) {w' : World} (k : Below wr.heap.size wr w') : RowRel g t w0 cs w' :=
  ⟨gb_below h.1 k, (k.block g (RR_lt h)).trans h.2⟩
end

theorem drewN_heap (w : World) (n : Nat) : (w.drewN n).heap = w.heap := rfl
end Go.Proofs.YtjedcijddlilaaaGreatDoor
