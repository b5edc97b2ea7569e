/- The constants of sha256: the function returns the 64 words. -/
import Derived.Test.YtijohbohdceggaaLeaf
import Derived.Test.YtijohbohdceggaaFrame
namespace Go.Proofs.Ytijohbohdceggaa
open Go.RowKit

def KL : List (BitVec 32) := [
  0x428a2f98#32, 0x71374491#32, 0xb5c0fbcf#32, 0xe9b5dba5#32, 0x3956c25b#32, 0x59f111f1#32, 0x923f82a4#32, 0xab1c5ed5#32,
  0xd807aa98#32, 0x12835b01#32, 0x243185be#32, 0x550c7dc3#32, 0x72be5d74#32, 0x80deb1fe#32, 0x9bdc06a7#32, 0xc19bf174#32,
  0xe49b69c1#32, 0xefbe4786#32, 0x0fc19dc6#32, 0x240ca1cc#32, 0x2de92c6f#32, 0x4a7484aa#32, 0x5cb0a9dc#32, 0x76f988da#32,
  0x983e5152#32, 0xa831c66d#32, 0xb00327c8#32, 0xbf597fc7#32, 0xc6e00bf3#32, 0xd5a79147#32, 0x06ca6351#32, 0x14292967#32,
  0x27b70a85#32, 0x2e1b2138#32, 0x4d2c6dfc#32, 0x53380d13#32, 0x650a7354#32, 0x766a0abb#32, 0x81c2c92e#32, 0x92722c85#32,
  0xa2bfe8a1#32, 0xa81a664b#32, 0xc24b8b70#32, 0xc76c51a3#32, 0xd192e819#32, 0xd6990624#32, 0xf40e3585#32, 0x106aa070#32,
  0x19a4c116#32, 0x1e376c08#32, 0x2748774c#32, 0x34b0bcb5#32, 0x391c0cb3#32, 0x4ed8aa4a#32, 0x5b9cca4f#32, 0x682e6ff3#32,
  0x748f82ee#32, 0x78a5636f#32, 0x84c87814#32, 0x8cc70208#32, 0x90befffa#32, 0xa4506ceb#32, 0xbef9a3f7#32, 0xc67178f2#32]
/-- Words as the cells of an array hold them. -/
def UC (l : List (BitVec 32)) : Array Value := (l.map fun x => Value.int .u32 (u x)).toArray

theorem wpList_run {P : Program} {ops : Array Oper} {rest : List Oper} {o : Oper} {a : Act} {w : World} {Q : Exit → Act → World → Prop} (hgd : o.guard = none)
    (v : Value) (h : (execOp a.eval o).run P w = .ok (.value v) w) (hk : wpList P ops Q rest (a.put o.dst v) w) : wpList P ops Q (o :: rest) a w :=
  wpList_plain hgd fun _ hK => by unfold Oper.wp; rw [h]; exact hK _ _ hk

theorem wpList_run_build {P : Program} {ops : Array Oper} {rest : List Oper} {o : Oper} {a : Act} {w : World} {Q : Exit → Act → World → Prop} (hgd : o.guard = none)
    (t : TypeId) (parts : Array (Nat × Operand)) (_ : o.op = .build t parts)
    (v : Value) (h : (execOp a.eval o).run P w = .ok (.value v) w) (hk : wpList P ops Q rest (a.put o.dst v) w) : wpList P ops Q (o :: rest) a w :=
  wpList_run hgd v h hk

theorem wpList_run_alloc {P : Program} {ops : Array Oper} {rest : List Oper} {o : Oper} {a : Act} {w : World} {Q : Exit → Act → World → Prop} (hgd : o.guard = none)
    (t : TypeId) (_ : o.op = .alloc t) (cs : Array Value)
    (h : (execOp a.eval o).run P w = .ok (.value (.pointer (some ⟨w.heap.size, 0, none⟩))) (w.alloc (.cells cs t)))
    (hk : wpList P ops Q rest (a.put o.dst (.pointer (some ⟨w.heap.size, 0, none⟩))) (w.alloc (.cells cs t))) : wpList P ops Q (o :: rest) a w :=
  wpList_plain hgd fun _ hK => by unfold Oper.wp; rw [h]; exact hK _ _ hk

/-- So that a walk stands still at a store. -/
def Stop (p : Prop) : Prop := p
theorem stop_store {P : Program} {ops : Array Oper} {rest : List Oper} {o : Oper} {a : Act} {w : World} {Q : Exit → Act → World → Prop}
    (ty : TypeId) (x y : Operand) (_ : o.op = .store ty x y) (h : Stop (wpList P ops Q (o :: rest) a w)) : wpList P ops Q (o :: rest) a w := h

theorem alloc_setRow (w : World) (old cs : Array Value) (t : TypeId) : (w.alloc (.cells old t)).setRow w.heap.size cs = w.alloc (.cells cs t) := by
  unfold World.setRow World.alloc
  congr 1
  apply Array.ext
  · simp
  · intro i h1 h2
    have h3 : i < w.heap.size + 1 := by simpa using h1
    rw [Array.getElem_modify]
    simp only [Array.getElem_push]
    split <;> split <;> first | rfl | (exfalso; omega) | (simp_all; done)

theorem UC_get (l : List (BitVec 32)) (k : Nat) (hk : k < l.length) : (UC l)[k]? = some (.int .u32 (u (l.getD k 0))) := by
  simp [UC, List.getD, hk]
/-- A store of the next word. -/
theorem UC_next (l : List (BitVec 32)) (n : Nat) (x : BitVec 32) (hn : l.length < n) :
    (UC (l ++ List.replicate (n - l.length) 0)).setIfInBounds l.length (.int .u32 (u x)) = UC ((l ++ [x]) ++ List.replicate (n - (l ++ [x]).length) 0) := by
  obtain ⟨m, rfl⟩ : ∃ m, n = l.length + (m + 1) := ⟨n - l.length - 1, by omega⟩
  unfold UC
  apply Array.ext'
  simp [List.replicate_succ]
  congr 2
  omega
theorem UC_size (l : List (BitVec 32)) : (UC l).size = l.length := by simp [UC]
theorem UC_one (l : List (BitVec 32)) : (UC l).all (·.oneCell') = true := by
  simp [UC, Value.oneCell']

set_option maxRecDepth 100000 in
set_option maxHeartbeats 400000 in
theorem constants_any (w : World) :
    Calls Try.prog 42 #[] w
      fun e w' => e = .returned (.agg (UC KL)) ∧ w' = w.alloc (.cells (UC KL) 76) := by
  go_enter Try.func42, Try.ntmps42
  go_wp2_with (first
    | (with_reducible refine wpList_run_build rfl _ _ rfl (.agg (UC KL)) (by kernel_rfl) ?_)
    | (with_reducible refine wpList_store_row rfl 76 _ _ rfl w.heap.size (UC KL) rfl rfl 76 _ (heap_alloc_new _ _) (by kernel_rfl) (by kernel_rfl) (UC_one _) ?_))
  rw [alloc_setRow]
  exact bodyPost_ret (v := .agg (UC KL)) (results_cell_row rfl _ _ w.heap.size 76 (UC KL) (0, 0) _ rfl (heap_alloc_new _ _) Try.underlying76 rfl (by kernel_rfl)) rfl ⟨rfl, rfl⟩
end Go.Proofs.Ytijohbohdceggaa
