/- A constant array: built, laid into memory, read. -/
import Derived.Test.YtjedcijddlilaaaGreatDoorFrame
import Derived.Laws.Rows
namespace Go.Proofs.YtjedcijddlilaaaGreatDoor
open Go.RowKit

theorem wpList_run {P : Program} {ops : Array Oper} {rest : List Oper} {o : Oper} {a : Act} {w : World} {Q : Exit → Act → World → Prop} (hgd : o.guard = none)
    (v : Value) (h : (execOp a.eval o).run P w = .ok (.value v) w) (hk : wpList P ops Q rest (a.put o.dst v) w) : wpList P ops Q (o :: rest) a w :=
  wpList_plain hgd fun _ hK => by unfold Oper.wp; rw [h]; exact hK _ _ hk

theorem wpList_run_build {P : Program} {ops : Array Oper} {rest : List Oper} {o : Oper} {a : Act} {w : World} {Q : Exit → Act → World → Prop} (hgd : o.guard = none)
    (t : TypeId) (parts : Array (Nat × Operand)) (_ : o.op = .build t parts)
    (v : Value) (h : (execOp a.eval o).run P w = .ok (.value v) w) (hk : wpList P ops Q rest (a.put o.dst v) w) : wpList P ops Q (o :: rest) a w :=
  wpList_run hgd v h hk

theorem wpList_run_alloc {P : Program} {ops : Array Oper} {rest : List Oper} {o : Oper} {a : Act} {w : World} {Q : Exit → Act → World → Prop} (hgd : o.guard = none)
    (t : TypeId) (_ : o.op = .alloc t) (cs : Array Value)
    (h : (execOp a.eval o).run P w = .ok (.value (.pointer (some ⟨w.heap.size, 0, none⟩))) (w.alloc (.cells cs t)))
    (hk : wpList P ops Q rest (a.put o.dst (.pointer (some ⟨w.heap.size, 0, none⟩))) (w.alloc (.cells cs t))) : wpList P ops Q (o :: rest) a w :=
  wpList_plain hgd fun _ hK => by unfold Oper.wp; rw [h]; exact hK _ _ hk

/-- So that a walk stands still at a store. -/
def Stop (p : Prop) : Prop := p
theorem stop_store {P : Program} {ops : Array Oper} {rest : List Oper} {o : Oper} {a : Act} {w : World} {Q : Exit → Act → World → Prop}
    (ty : TypeId) (x y : Operand) (_ : o.op = .store ty x y) (h : Stop (wpList P ops Q (o :: rest) a w)) : wpList P ops Q (o :: rest) a w := h

theorem alloc_setRow (w : World) (old cs : Array Value) (t : TypeId) : (w.alloc (.cells old t)).setRow w.heap.size cs = w.alloc (.cells cs t) := by
  unfold World.setRow World.alloc
  congr 1
  apply Array.ext
  · simp
  · intro i h1 h2
    have h3 : i < w.heap.size + 1 := by simpa using h1
    rw [Array.getElem_modify]
    simp only [Array.getElem_push]
    split <;> split <;> first | rfl | (exfalso; omega) | (simp_all; done)

theorem heap_alloc_new' (w : World) (o : Obj) (n : Nat) (h : w.heap.size = n) : (w.alloc o).heap[n]? = some o := by
  subst h; exact heap_alloc_new w o
theorem alloc_setRow' (w : World) (old cs : Array Value) (t : TypeId) (n : Nat) (h : w.heap.size = n) : (w.alloc (.cells old t)).setRow n cs = w.alloc (.cells cs t) := by
  subst h; exact alloc_setRow w old cs t
end Go.Proofs.YtjedcijddlilaaaGreatDoor
