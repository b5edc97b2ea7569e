/- lexer: Position, the program's and the reference's. -/
import Derived.Test.YtmgmmbikdmobpaaGreatDoorLxW
import Derived.Test.YtmgmmbikdmobpaaGreatDoorShM
namespace Go.Proofs.YtmgmmbikdmobpaaGreatDoor
open Go.RowKit

/-- Line and column behind one byte more. -/
def posS (p : Nat × Nat) (b : UInt8) : Nat × Nat := if b = 10 then (p.1 + 1, 1) else (p.1, p.2 + 1)
/-- Line and column behind a list of bytes. -/
def posL (l : List UInt8) : Nat × Nat := l.foldl posS (1, 1)
/-- The offset within the source. -/
def offK (o : Int) (n : Nat) : Nat := min o.toNat n
theorem posL_step (s : ByteArray) (k : Nat) (h : k < s.size) : posL (s.data.toList.take (k + 1)) = posS (posL (s.data.toList.take k)) (s.data.toList.getD k 0) := by
  have hk : k < s.data.toList.length := by rw [size_list]; exact h
  unfold posL
  rw [List.take_add_one, List.foldl_append, List.getElem?_eq_getElem hk, List.getD_eq_getElem?_getD, List.getElem?_eq_getElem hk]
  rfl
theorem posL_count (s : ByteArray) (k : Nat) (h : k ≤ s.size) : (posL (s.data.toList.take k)).1 = 1 + (s.data.toList.take k).count 10 ∧ ((posL (s.data.toList.take k)).2 : Int) = k - Lib.lastIdx s 10 k := by
  induction k with
  | zero => exact ⟨rfl, rfl⟩
  | succ k ih =>
    have hk : k < s.data.toList.length := by rw [size_list]; omega
    obtain ⟨i1, i2⟩ := ih (by omega)
    have hb : s.data[k]! = s.data.toList.getD k 0 := by
      rw [List.getD_eq_getElem?_getD, List.getElem?_eq_getElem hk, getElem!_pos s.data k (by simpa using hk)]
      simp
    have hlist : s.data.toList.take (k + 1) = s.data.toList.take k ++ [s.data.toList.getD k 0] := by
      rw [List.take_add_one, List.getElem?_eq_getElem hk, List.getD_eq_getElem?_getD, List.getElem?_eq_getElem hk]; rfl
    rw [posL_step s k (by omega), hlist, List.count_append]
    have hidx : Lib.lastIdx s 10 (k + 1) = if ((s.data[k]!).toNat : Int) = 10 then (k : Int) else Lib.lastIdx s 10 k := rfl
    rw [hidx, hb]
    generalize s.data.toList.getD k 0 = b
    unfold posS
    by_cases hc : b = 10
    · subst hc
      simp only [if_true]
      refine ⟨?_, ?_⟩
      · rw [i1]; simp; omega
      · rw [if_pos (by rfl)]; omega
    · have hn : ¬ ((b.toNat : Int) = 10) := fun h => hc (by apply UInt8.toNat_inj.1; show b.toNat = 10; omega)
      rw [if_neg hc, if_neg hn]
      refine ⟨?_, ?_⟩
      · simp only; rw [i1, List.count_singleton]; simp [hc]
      · simp only; omega
theorem posL_all (s : ByteArray) : (1 : Int) + (Lib.countByte s.data.toList 10 : Nat) = ((posL s.data.toList).1 : Nat) ∧ (s.size : Int) - Lib.lastIndexByte s 10 = ((posL s.data.toList).2 : Nat) := by
  have h := posL_count s s.size (Nat.le_refl _)
  have ht : s.data.toList.take s.size = s.data.toList := by rw [← size_list, List.take_length]
  rw [ht] at h
  unfold Lib.countByte Lib.lastIndexByte
  omega

set_option maxRecDepth 100000 in
set_option maxHeartbeats 1000000 in
theorem position_any (s : ByteArray) (o : Int) (w : World) (hs : s.size < 4611686018427387904) (h0 : -9223372036854775808 ≤ o) (h1 : o ≤ 9223372036854775807) :
    Calls Tryz.prog 9 #[.string s, .int .i64 o] w fun e w' => e = .returned (.tuple #[.int .i64 ((posL (s.data.toList.take (offK o s.size))).1 : Nat), .int .i64 ((posL (s.data.toList.take (offK o s.size))).2 : Nat)]) ∧ w' = w := by
  have hk : (min (max o 0) (s.size : Int)).toNat = offK o s.size := by unfold offK; omega
  have hex := upto_bytes s (offK o s.size)
  have hlist : (s.extract 0 (offK o s.size)).data.toList = s.data.toList.take (offK o s.size) := by rw [hex, mk_list]
  have hle : (s.extract 0 (offK o s.size)).size ≤ s.size := by rw [ByteArray.size_extract]; omega
  rw [← hlist]
  rw [← hk] at hle ⊢
  clear hk hex hlist
  have hall : ∀ F : ByteArray, F.size ≤ s.size → ∃ (c : Nat) (x : Int), c ≤ s.size ∧ -1 ≤ x ∧ x ≤ s.size ∧ (∀ w, Calls Tryz.prog 20 #[.string F, .string ⟨#[10]⟩] w fun e w' => e = .returned (.int .i64 (c : Int)) ∧ w' = w) ∧ (∀ w, Calls Tryz.prog 21 #[.string F, .int .u8 10] w fun e w' => e = .returned (.int .i64 x) ∧ w' = w) ∧ (1 : Int) + (c : Int) = ((posL F.data.toList).1 : Nat) ∧ (F.size : Int) - x = ((posL F.data.toList).2 : Nat) := by
    intro F hF
    refine ⟨Lib.countByte F.data.toList 10, Lib.lastIndexByte F 10, ?_, ?_, ?_, fun w => Tryz.strings_Count_one F 10 w, fun w => Tryz.strings_LastIndexByte F 10 (by omega) w, (posL_all F).1, (posL_all F).2⟩
    · have hc : F.data.toList.count 10 ≤ F.data.toList.length := List.count_le_length
      unfold Lib.countByte
      rw [size_list] at hc; omega
    · rcases Lib.lastIndexByte_spec F 10 with ⟨h, _⟩ | ⟨i, hi, h, _⟩ <;> rw [h] <;> omega
    · rcases Lib.lastIndexByte_spec F 10 with ⟨h, _⟩ | ⟨i, hi, h, _⟩ <;> rw [h] <;> omega
  obtain ⟨c, x, hc, hx0, hx1, hC, hX, p1, p2⟩ := hall _ hle
  have HC := hid hC
  have HX := hid hX
  rw [← p1, ← p2]
  clear hall hC hX p1 p2
  go_enter Tryz.func9, Tryz.ntmps9
  go_wp2_with fail
  refine (HC.out _).mono ?_
  rintro e w1 ⟨rfl, rfl⟩
  go_wp2_with fail
  refine (HX.out _).mono ?_
  rintro e w2 ⟨rfl, rfl⟩
  go_wp2_with fail
  go_ret2
  exact ⟨by rw [ByteArray.size_extract, Nat.sub_zero]; rfl, rfl⟩

end Go.Proofs.YtmgmmbikdmobpaaGreatDoor
