/- codec: the reader's number: plain facts. -/
import Derived.Test.YtoimmmcmlbaenaaRd
import Derived.Test.YtoimmmcmlbaenaaRdP
namespace Go.Proofs.Ytoimmmcmlbaenaa
open Go.RowKit

/-- A group is laid on: the number's bits stand apart. -/
theorem or_group (acc c i : Nat) (ha : acc < 128 ^ i) (hb : acc + c * 128 ^ i < 18446744073709551616) : bits .or .u64 (acc : Int) ((c * 128 ^ i : Nat) : Int) = ((acc + c * 128 ^ i : Nat) : Int) := by
  show IntKind.u64.wrap ((BitVec.ofInt 64 (acc : Int) ||| BitVec.ofInt 64 ((c * 128 ^ i : Nat) : Int)).toNat : Int) = _
  rw [BitVec.ofInt_natCast, BitVec.ofInt_natCast, BitVec.toNat_or, BitVec.toNat_ofNat, BitVec.toNat_ofNat, Nat.mod_eq_of_lt (by omega), Nat.mod_eq_of_lt (by omega)]
  have h7 : 128 ^ i = 2 ^ (7 * i) := by rw [Nat.pow_mul]
  have h := Nat.two_pow_add_eq_or_of_lt (i := 7 * i) (b := acc) (by rw [← h7]; exact ha) c
  rw [← h7] at h
  rw [Nat.or_comm, Nat.mul_comm c, ← h, IntKind.wrap_u64]
  rw [Nat.mul_comm c] at hb
  generalize 128 ^ i * c = q at hb ⊢
  omega
/-- A group is shifted. -/
theorem shl_group (c i : Nat) (hb : c * 128 ^ i < 18446744073709551616) : IntKind.u64.wrap ((c : Int) * 2 ^ (7 * i)) = ((c * 128 ^ i : Nat) : Int) := by
  have h7 : (2 : Int) ^ (7 * i) = ((128 ^ i : Nat) : Int) := by rw [show (128 : Nat) = 2 ^ 7 from rfl, ← Nat.pow_mul]; simp
  rw [h7, IntKind.wrap_u64]
  rw [← Int.natCast_mul]
  generalize c * 128 ^ i = q at hb ⊢
  omega
theorem offB_drop (s : ByteArray) (k : Nat) : offB s k = ba (s.data.toList.drop k) := by
  unfold offB; apply ByteArray.ext; rw [ByteArray.data_extract]; apply Array.toList_inj.1
  simp [ba]
  exact List.take_of_length_le (by rw [List.length_drop, size_list']; exact Nat.le_refl _)
theorem upB_take (s : ByteArray) (k : Nat) : upB s k = ba (s.data.toList.take k) := by
  unfold upB; apply ByteArray.ext; rw [ByteArray.data_extract]; apply Array.toList_inj.1
  simp [ba]
end Go.Proofs.Ytoimmmcmlbaenaa
