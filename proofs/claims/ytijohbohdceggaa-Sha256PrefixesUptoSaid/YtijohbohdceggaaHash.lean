/- New, putLength, digest, Clone. -/
import Derived.Test.YtijohbohdceggaaSpec
namespace Go.Proofs.Ytijohbohdceggaa
open Go.RowKit

/-- Block g holds a state to which the bytes m were written. -/
def HashIs (w : World) (g : Nat) (m : List UInt8) : Prop :=
  ∃ blk : List UInt8, blk.length = 64 ∧ blk.take (m.length % 64) = tailOf m ∧ w.heap[g]? = some (.cells (hcells (stateOf m) blk m.length).toArray 67 (0, 0))

def Z64B : List UInt8 := List.replicate 64 0

set_option maxRecDepth 100000 in
set_option maxHeartbeats 400000 in
theorem new_any (w : World) :
    Calls Try.prog 20 #[] w fun e w' => e = .returned (.pointer (some ⟨w.heap.size, 0, none⟩)) ∧ HashIs w' w.heap.size [] ∧ Below w.heap.size w w' := by
  go_enter Try.func20, Try.ntmps20
  go_wp2_with (first
    | (with_reducible refine wpList_run_build rfl 64 _ rfl (.agg (UC S0.list)) (by kernel_rfl) ?_)
    | (with_reducible refine wpList_run_build rfl 67 _ rfl (.agg (hcells S0 Z64B 0).toArray) (by kernel_rfl) ?_))
  go_ret
  exact ⟨rfl, ⟨Z64B, rfl, rfl, heap_alloc_new _ _⟩, (Below.refl _ _).alloc (Nat.le_refl _) _⟩

/-- The 8 bytes of a number, most significant first. -/
def be8 (n : Nat) : List UInt8 := (List.range 8).map fun i => UInt8.ofNat (n / 256 ^ (7 - i) % 256)

theorem part_next (cur : List Value) (off : Nat) (l : List Value) (v : Value) (h : off + l.length < cur.length) :
    (part cur off l).toArray.setIfInBounds (off + l.length) v = (part cur off (l ++ [v])).toArray := by
  unfold part
  have h1 : (cur.take off ++ l).length = off + l.length := by simp; omega
  rw [List.setIfInBounds_toArray, List.set_append_right _ _ (by omega), h1, Nat.sub_self]
  obtain ⟨x, hx⟩ : ∃ x, cur.drop (off + l.length) = x :: cur.drop (off + l.length + 1) := ⟨_, List.drop_eq_getElem_cons h⟩
  rw [hx]
  simp [Nat.add_assoc]
theorem part_nil (cur : List Value) (off : Nat) : part cur off [] = cur := by simp [part]

theorem put_close {g : Nat} {t : TypeId} {w wr : World} {cs : Array Value} {p : Addr} {X : Int} {b : UInt8} (hX : X = (b.toNat : Int)) (h : RowRel g t w cs (wr.setCell p (.int .u8 (b.toNat : Int)))) :
    RowRel g t w cs (wr.setCell p (.int .u8 X)) := by subst hX; exact h

set_option maxRecDepth 100000 in
set_option maxHeartbeats 1000000 in
theorem putLength_any (g off cap n : Nat) (t : TypeId) (cur : List Value) (w : World) (hg : w.heap[g]? = some (.cells cur.toArray t (0, 0))) (hfit : off + 8 ≤ cur.length) (hn : n < 18446744073709551616) :
    Calls Try.prog 31 #[.slice (some ⟨g, off, none⟩) 8 cap, .int .u64 (n : Int)] w
      fun e w' => e = .returned (.tuple #[]) ∧ RowRel g t w (part cur off (byteCells (be8 n))).toArray w' := by
  go_enter Try.func31, Try.ntmps31
  go_wp2_with fail
  go_loopw [5] (fun v wr => ∃ k : Nat, k ≤ 8 ∧ v = .int .i64 k ∧ RowRel g t w (part cur off (byteCells ((be8 n).take k))).toArray wr) (fun v _ => 8 - (intOf v).toNat)
  case atStart => exact ⟨0, by omega, rfl, by rw [show (be8 n).take 0 = [] from rfl, show byteCells [] = [] from rfl, part_nil]; exact RR_start hg⟩
  case round =>
    obtain ⟨k, hk, rfl, hS⟩ := hrel
    by_cases hlt : k < 8
    · have hf := RR_free hS (off + k)
      obtain ⟨old, ho⟩ := RR_some hS (off + k) (by simp [part, byteCells_length, be8]; omega)
      have hset := fun b => RR_set hS (off + k) (.int .u8 (UInt8.toNat b : Int))
      have hl : (byteCells ((be8 n).take k)).length = k := by simp [byteCells_length, be8]; omega
      have hnx := fun b => part_next cur off (byteCells ((be8 n).take k)) (.int .u8 (UInt8.toNat b : Int)) (by rw [hl]; omega)
      rw [hl] at hnx
      have hfin : RowRel g t w (part cur off (byteCells ((be8 n).take (k + 1)))).toArray (wr.setCell ⟨g, off + k, none⟩ (.int .u8 (((be8 n).getD k 0).toNat : Int))) := by
        have h1 := hset ((be8 n).getD k 0)
        rw [hnx] at h1
        have h2 : (be8 n).take (k + 1) = (be8 n).take k ++ [(be8 n).getD k 0] := by
          have hk8 : k < (be8 n).length := by simp [be8]; omega
          rw [List.take_succ_eq_append_getElem hk8]
          simp [List.getD, hk8]
        rw [h2, show byteCells ((be8 n).take k ++ [(be8 n).getD k 0]) = byteCells ((be8 n).take k) ++ [.int .u8 (((be8 n).getD k 0).toNat : Int)] by simp [byteCells]]
        exact h1
      have HX := hid hfin
      clear hset hnx hl hg hfin hS
      have HN := hid hn
      rcases eight hlt with rfl | rfl | rfl | rfl | rfl | rfl | rfl | rfl
      all_goals
        try simp only [Nat.add_zero] at hf ho
        go_wp2_with fail
        refine ⟨⟨_, Nat.succ_le_of_lt hlt, by go_num, put_close ?_ HX.out⟩, by simp [intOf]⟩
        have := HN.out
        simp [be8]
        first | done | omega | (simp [IntKind.wrap_u8]; omega)
    · obtain rfl : k = 8 := by omega
      have h8 : (be8 n).take 8 = be8 n := rfl
      rw [h8] at hS
      go_wp2_with fail
      go_end0
      exact ⟨rfl, hS⟩
end Go.Proofs.Ytijohbohdceggaa
