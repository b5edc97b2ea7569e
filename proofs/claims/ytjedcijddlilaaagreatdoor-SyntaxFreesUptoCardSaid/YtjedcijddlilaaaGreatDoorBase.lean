/- Helpers for a layer without sha256: owned rows of bytes, their strings, a string's bytes. -/
import Derived.Test.YtjedcijddlilaaaGreatDoorRows
import Derived.Test.YtjedcijddlilaaaGreatDoorU32
import Derived.Test.YtjedcijddlilaaaGreatDoorQuietTail
import Derived.Test.YtjedcijddlilaaaGreatDoorLaws
import Derived.Test.YtjedcijddlilaaaGreatDoorMoveTail
import Derived.WalkKit
import Derived.WalkSpells
import Derived.WalkLawsBesides
import Derived.Deep.QuietTactic
import Derived.BigQuiet
import Derived.Handy
import Derived.Deep.AppendLies
import Derived.Deep.RegionLaw
import Derived.BigRegion
import Derived.Lib.AppendStr
namespace Go.Proofs.YtjedcijddlilaaaGreatDoor
open Go.RowKit

/-- The string of the bytes of a row. -/
theorem run_bytes_row {P : Program} (w : World) (src dst e : TypeId) (g o n c : Nat) (t : TypeId) (fr : Nat × Nat) (cur : List Value) (l : List UInt8) (hs : P.underlying src = some (.slice e)) (he : P.underlying e = some (.int .u8)) (hd : P.underlying dst = some .string)
    (hg : w.heap[g]? = some (.cells cur.toArray t fr)) (hl : l.length = n) (hc : ∀ j, j < n → cur[o + j]? = some (.int .u8 ((l.getD j 0).toNat : Int))) :
    (convert src dst (.slice (some ⟨g, o, none⟩) n c)).run P w = .ok (.string ⟨l.toArray⟩) w := by
  have h := run_convert_bytes_arg (P := P) w src e hs he g o n c (l.map fun b => (b.toNat : Int)) (by simpa using hl) (fun i hi => by
    rw [cell_of_row w g _ _ _ _ hg]
    have hil : i < l.length := by omega
    have := hc i hi
    simp only [List.getElem?_toArray, this]
    simp [List.getD, hil]) dst hd
  have e1 : strOfNums (l.map fun b => (b.toNat : Int)) = ⟨l.toArray⟩ := by
    unfold strOfNums
    rw [List.map_map]
    have : l.map ((fun n : Int => UInt8.ofNat n.toNat) ∘ fun b : UInt8 => (b.toNat : Int)) = l := by
      conv => rhs; rw [← List.map_id l]
      exact List.map_congr_left fun b _ => by simp
    rw [this]
  rw [h, e1]

theorem infoU8 : (Tryz.prog.info? 5).map (fun i => (i.zero, i.size, i.bytes)) = some (some (.int .u8 0), 1, 1) := by kernel_rfl

theorem own_base {w : World} {base : Nat} {e : TypeId} {size : Nat} {v : Value} {n : Nat} {xs : List Value} (h : w.ownsRow base e size v n xs) : ∀ k, v.ownBlock = some k → base ≤ k := by
  intro k hk
  rcases h.2 with ⟨rfl, _⟩ | ⟨g, cap, cur, rfl, hb, _⟩
  · simp [Value.ownBlock] at hk
  · simp [Value.ownBlock] at hk; omega
/-- The string of an owned row of bytes. -/
theorem own_string {P : Program} (w : World) (src dst e : TypeId) (base : Nat) (v : Value) (n : Nat) (l : List UInt8) (hs : P.underlying src = some (.slice e)) (he : P.underlying e = some (.int .u8)) (hd : P.underlying dst = some .string)
    (h : w.ownsRow base e 1 v n (byteCells l)) : (convert src dst v).run P w = .ok (.string ⟨l.toArray⟩) w := by
  have hl : l.length = n := by have := h.1; rw [byteCells_length] at this; omega
  rcases h.2 with ⟨rfl, h0⟩ | ⟨g, cap, cur, rfl, hb, hg, _, _, _, htake⟩
  · have : l = [] := List.eq_nil_of_length_eq_zero (by omega)
    subst this
    exact run_convert_bytes_nil w src e hs he 0 0 dst hd
  · refine run_bytes_row w src dst e g 0 n cap e (0, 0) cur.toList l hs he hd (by simpa using hg) hl ?_
    intro j hj
    have h2 : (cur.toList.take (n * 1))[j]? = (byteCells l)[j]? := by rw [htake]
    rw [List.getElem?_take, if_pos (by omega)] at h2
    rw [Nat.zero_add, h2]
    simp [byteCells, List.getD, hl, hj]

theorem run_index_str (s : ByteArray) (k : Nat) (hk : k < s.size) (w : World) : (Instr.index 9 (.string s) (.int .i64 (k : Int))).run Tryz.prog w = .ok (.int .u8 ((s.data.toList.getD k 0).toNat : Int)) w := by
  have h1 : (0 : Int) ≤ (k : Int) := by omega
  have h2 : (k : Int) < (s.size : Int) := by omega
  have hk' : k < s.data.size := hk
  have e : s.data.toList.getD k 0 = s[k] := by
    have e2 : s.data[k]? = some s.data[k] := Array.getElem?_eq_getElem hk'
    simp [List.getD, e2]
    rfl
  rw [e]
  simp [go_sem, h2]

theorem below_drawn {B : Nat} {a w : World} (h : Below B a w) (n : Nat) : Below B a (w.drewN n) := ⟨h.os, h.tape, h.output, h.size, h.block⟩
theorem own_empty (w : World) (base : Nat) (e : TypeId) (h : base ≤ w.heap.size) : (w.alloc (.cells #[] e)).ownsRow base e 1 (.slice (some ⟨w.heap.size, 0, none⟩) 0 0) 0 [] :=
  ⟨rfl, .inr ⟨w.heap.size, 0, #[], rfl, h, heap_alloc_new w _, Nat.le_refl _, Nat.zero_le _, rfl, rfl⟩⟩
theorem alloc_le {B : Nat} {w : World} (h : B ≤ w.heap.size) (o : Obj) : B ≤ (w.alloc o).heap.size := by simp; omega
theorem size_list (s : ByteArray) : s.data.toList.length = s.size := by rw [Array.length_toList]; rfl
theorem append_bytes (s t : ByteArray) : (s ++ t).data.toList = s.data.toList ++ t.data.toList := by rw [ByteArray.data_append]; simp
theorem byteCells_append (a b : List UInt8) : byteCells (a ++ b) = byteCells a ++ byteCells b := by simp [byteCells]

/-- v owns the bytes l, from block B on. -/
def OwnB (w : World) (B : Nat) (v : Value) (l : List UInt8) : Prop := w.ownsRow B 5 1 v l.length (byteCells l)
theorem OwnB_snoc {w : World} {B : Nat} {v : Value} {a : List UInt8} {b : UInt8} (h : w.ownsRow B 5 1 v (a.length + 1) (byteCells a ++ [.int .u8 (b.toNat : Int)])) : OwnB w B v (a ++ [b]) := by
  unfold OwnB
  rw [List.length_append, byteCells_append]
  exact h
theorem OwnB_nil (w : World) (B : Nat) : OwnB w B (.slice none 0 0) [] := World.ownsRow_nil w B 5 1
end Go.Proofs.YtjedcijddlilaaaGreatDoor
