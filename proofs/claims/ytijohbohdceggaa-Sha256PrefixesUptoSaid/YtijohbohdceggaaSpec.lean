/- SHA-256 over lists of bytes: what a state contains. Plain facts. -/
import Derived.Test.YtijohbohdceggaaComp
import Derived.Test.YtijohbohdceggaaLaws
namespace Go.Proofs.Ytijohbohdceggaa
open Go.RowKit

def S0 : S8 := ⟨0x6a09e667#32, 0xbb67ae85#32, 0x3c6ef372#32, 0xa54ff53a#32, 0x510e527f#32, 0x9b05688c#32, 0x1f83d9ab#32, 0x5be0cd19#32⟩
/-- The state after the first n blocks. -/
def blocksS : Nat → S8 → List UInt8 → S8
  | 0, s, _ => s
  | n + 1, s, l => blocksS n (comp s (l.take 64)) (l.drop 64)
theorem blocksS_snoc (n : Nat) : ∀ (s : S8) (l : List UInt8), blocksS (n + 1) s l = comp (blocksS n s l) ((l.drop (64 * n)).take 64) := by
  induction n with
  | zero => intro s l; simp [blocksS]
  | succ n ih =>
    intro s l
    rw [blocksS, ih, blocksS, List.drop_drop]
    congr 3
    omega
theorem blocksS_append (n : Nat) : ∀ (s : S8) (l r : List UInt8), 64 * n ≤ l.length → blocksS n s (l ++ r) = blocksS n s l := by
  induction n with
  | zero => intro s l r _; rfl
  | succ n ih =>
    intro s l r h
    rw [blocksS, blocksS, List.take_append_of_le_length (by omega), List.drop_append_of_le_length (by omega), ih _ _ _ (by simp; omega)]
/-- The state of what was written. -/
def stateOf (m : List UInt8) : S8 := blocksS (m.length / 64) S0 m
/-- The bytes that no whole block contains yet. -/
def tailOf (m : List UInt8) : List UInt8 := m.drop (64 * (m.length / 64))
theorem tailOf_length (m : List UInt8) : (tailOf m).length = m.length % 64 := by simp [tailOf]; omega
/-- A block of which a part is replaced. -/
def partB (blk : List UInt8) (k : Nat) (c : List UInt8) : List UInt8 := blk.take k ++ c ++ blk.drop (k + c.length)
theorem partB_length (blk : List UInt8) (k : Nat) (c : List UInt8) (h : k + c.length ≤ blk.length) : (partB blk k c).length = blk.length := by simp [partB]; omega

theorem state_less (m c : List UInt8) (h : m.length % 64 + c.length < 64) : stateOf (m ++ c) = stateOf m := by
  unfold stateOf
  rw [show (m ++ c).length / 64 = m.length / 64 by simp; omega]
  exact blocksS_append _ _ _ _ (by omega)
theorem tail_less (m c : List UInt8) (h : m.length % 64 + c.length < 64) : tailOf (m ++ c) = tailOf m ++ c := by
  unfold tailOf
  rw [show (m ++ c).length / 64 = m.length / 64 by simp; omega, List.drop_append_of_le_length (by omega)]
theorem state_full (m c : List UInt8) (h : m.length % 64 + c.length = 64) : stateOf (m ++ c) = comp (stateOf m) (tailOf m ++ c) := by
  unfold stateOf tailOf
  rw [show (m ++ c).length / 64 = m.length / 64 + 1 by simp; omega, blocksS_snoc, blocksS_append _ _ _ _ (by omega), List.drop_append_of_le_length (by omega),
    List.take_of_length_le (by simp; omega)]
theorem tail_full (m c : List UInt8) (h : m.length % 64 + c.length = 64) : tailOf (m ++ c) = [] := by
  unfold tailOf
  rw [List.drop_eq_nil_iff]
  simp; omega

/-- The cells of a state. -/
def hcells (s : S8) (blk : List UInt8) (n : Nat) : List Value := (s.list.map fun x => Value.int .u32 (u x)) ++ byteCells blk ++ [.int .u64 (n : Int)]
theorem hcells_length (s : S8) (blk : List UInt8) (n : Nat) (h : blk.length = 64) : (hcells s blk n).length = 73 := by
  simp [hcells, byteCells_length, h, S8.list]
theorem hcells_words (s : S8) (blk : List UInt8) (n : Nat) (j : Nat) (v : Value) (h : (UC s.list).toList[j]? = some v) : (hcells s blk n)[0 + j]? = some v := by
  have hj : j < (s.list.map fun x => Value.int .u32 (u x)).length := (List.getElem?_eq_some_iff.1 h).1
  rw [Nat.zero_add, hcells, List.append_assoc, List.getElem?_append_left hj]
  exact h
theorem hcells_word (s : S8) (blk : List UInt8) (n : Nat) (j : Nat) (x : BitVec 32) (h : s.list[j]? = some x) : (hcells s blk n)[j]? = some (.int .u32 (u x)) := by
  have := hcells_words s blk n j (.int .u32 (u x)) (by simp [UC, h])
  simpa using this
theorem hcells_byte (s : S8) (blk : List UInt8) (n : Nat) (j : Nat) (h : j < blk.length) : (hcells s blk n)[8 + j]? = some (.int .u8 ((blk.getD j 0).toNat : Int)) := by
  have hl : (s.list.map fun x => Value.int .u32 (u x)).length = 8 := rfl
  rw [hcells, List.append_assoc, List.getElem?_append_right (by omega), hl, Nat.add_sub_cancel_left, List.getElem?_append_left (by simpa [byteCells] using h)]
  simp [byteCells, List.getD, h]
theorem hcells_len (s : S8) (blk : List UInt8) (n : Nat) (h : blk.length = 64) : (hcells s blk n)[72]? = some (.int .u64 (n : Int)) := by
  rw [hcells, List.getElem?_append_right (by simp [byteCells_length, h, S8.list])]
  simp [byteCells_length, h, S8.list]
theorem part_words (s t : S8) (blk : List UInt8) (n : Nat) : part (hcells s blk n) 0 (UC t.list).toList = hcells t blk n := by
  simp [part, hcells, UC, S8.list]
theorem part_mid (A B C X : List Value) (k : Nat) (h : k + X.length ≤ B.length) : part (A ++ B ++ C) (A.length + k) X = A ++ (B.take k ++ X ++ B.drop (k + X.length)) ++ C := by
  unfold part
  have e1 : (A ++ B ++ C).take (A.length + k) = A ++ B.take k := by
    rw [List.append_assoc, List.take_length_add_append, List.take_append_of_le_length (by omega)]
  have e2 : (A ++ B ++ C).drop (A.length + k + X.length) = B.drop (k + X.length) ++ C := by
    rw [List.append_assoc, Nat.add_assoc, List.drop_length_add_append, List.drop_append_of_le_length h]
  rw [e1, e2]
  simp
theorem part_bytes (s : S8) (blk : List UInt8) (n k : Nat) (c : List UInt8) (h : k + c.length ≤ blk.length) : part (hcells s blk n) (8 + k) (byteCells c) = hcells s (partB blk k c) n := by
  have e := part_mid (s.list.map fun x => Value.int .u32 (u x)) (byteCells blk) [.int .u64 (n : Int)] (byteCells c) k (by rw [byteCells_length, byteCells_length]; exact h)
  rw [show (s.list.map fun x => Value.int .u32 (u x)).length = 8 from rfl] at e
  unfold hcells
  rw [e, byteCells_length]
  simp [byteCells, partB]
theorem set_len (s : S8) (blk : List UInt8) (n m : Nat) (h : blk.length = 64) : (hcells s blk n).toArray.setIfInBounds 72 (.int .u64 (m : Int)) = (hcells s blk m).toArray := by
  have hl : ((s.list.map fun x => Value.int .u32 (u x)) ++ byteCells blk).length = 72 := by simp [byteCells_length, h, S8.list]
  unfold hcells
  rw [List.setIfInBounds_toArray, List.set_append_right _ _ (by omega), hl]
  rfl
end Go.Proofs.Ytijohbohdceggaa
