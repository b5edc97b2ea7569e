/- codec: what a reader finds at the beginning of bytes. Plain facts. -/
import Derived.Test.YtoimmmcmlbaenaaUv
namespace Go.Proofs.Ytoimmmcmlbaenaa

/-- The number at the beginning of bytes, and what follows it: i groups are read, they give acc. -/
def readU : Nat → Nat → List UInt8 → Option (Nat × List UInt8)
  | _, _, [] => none
  | i, acc, b :: r => if 10 ≤ i ∨ (0 < i ∧ b.toNat = 0) ∨ (i = 9 ∧ 1 < b.toNat) then none
    else if b.toNat < 128 then some (acc + b.toNat * 128 ^ i, r) else readU (i + 1) (acc + b.toNat % 128 * 128 ^ i) r

theorem readU_uvL (r : List UInt8) : ∀ (k m i acc : Nat), i + k = 9 → (0 < i → 0 < m) → m * 128 ^ i < 18446744073709551616 → readU i acc (uvL m ++ r) = some (acc + m * 128 ^ i, r) := by
  intro k
  induction k with
  | zero =>
    intro m i acc hi hm hb
    obtain rfl : i = 9 := by omega
    have h9 : 128 ^ 9 = 9223372036854775808 := by decide
    rw [h9] at hb
    have hm2 : m < 2 := by omega
    have hb2 : (UInt8.ofNat m).toNat = m := UInt8.toNat_ofNat_of_lt' (by show m < 256; omega)
    rw [uvL_less m (by omega), List.cons_append, List.nil_append, readU, hb2, if_neg (by omega), if_pos (by omega)]
  | succ k ih =>
    intro m i acc hi hm hb
    by_cases hlt : m < 128
    · have hb2 : (UInt8.ofNat m).toNat = m := UInt8.toNat_ofNat_of_lt' (by show m < 256; omega)
      rw [uvL_less m hlt, List.cons_append, List.nil_append, readU, hb2, if_neg (by omega), if_pos hlt]
    · have hb2 : (UInt8.ofNat (m % 128 + 128)).toNat = m % 128 + 128 := UInt8.toNat_ofNat_of_lt' (by show m % 128 + 128 < 256; omega)
      have hsp : m * 128 ^ i = m % 128 * 128 ^ i + m / 128 * 128 ^ (i + 1) := by
        have h1 : m = m % 128 + 128 * (m / 128) := by omega
        have h2 : 128 ^ (i + 1) = 128 * 128 ^ i := by rw [Nat.pow_succ]; exact Nat.mul_comm _ _
        generalize 128 ^ i = q at h2 ⊢
        rw [h2, ← Nat.mul_assoc, Nat.mul_comm (m / 128) 128, ← Nat.add_mul, ← h1]
      rw [uvL_more m hlt, List.cons_append, readU, hb2, if_neg (by omega), if_neg (by omega), ih (m / 128) (i + 1) _ (by omega) (fun _ => by omega) (by omega), hsp, show (m % 128 + 128) % 128 = m % 128 by omega, Nat.add_assoc]
/-- What uvL n begins is read as n. -/
theorem readU_start (n : Nat) (r : List UInt8) (h : n < 18446744073709551616) : readU 0 0 (uvL n ++ r) = some (n, r) := by
  have := readU_uvL r 9 n 0 0 rfl (by omega) (by simpa using h)
  simpa using this
end Go.Proofs.Ytoimmmcmlbaenaa
