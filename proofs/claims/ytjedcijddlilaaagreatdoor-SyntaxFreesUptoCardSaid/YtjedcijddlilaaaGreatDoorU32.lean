/- Words of 32 bits as the walk spells them: rules that keep them behind the name 'u'. Plain facts; no program is imported. -/
import Derived.WalkKit
namespace Go.Proofs.YtjedcijddlilaaaGreatDoor
open Go.RowKit

/-- A fact kept from the walk: neither a rewrite rule nor opened. -/
structure Kpt (p : Prop) : Prop where
  out : p
theorem hid {p : Prop} (h : p) : Kpt p := ⟨h⟩

/-- A word as the number that a uint32 holds. -/
def u (x : BitVec 32) : Int := (x.toNat : Int)

theorem u_nonneg (x : BitVec 32) : 0 ≤ u x := by unfold u; omega
theorem u_lt (x : BitVec 32) : u x < 4294967296 := by unfold u; have := x.isLt; omega
theorem u_inj {x y : BitVec 32} (h : u x = u y) : x = y := by unfold u at h; exact BitVec.eq_of_toNat_eq (by omega)
theorem ofInt_u (x : BitVec 32) : BitVec.ofInt 32 (u x) = x := by
  unfold u; rw [BitVec.ofInt_natCast]; simp
theorem wrap_toNat (x : BitVec 32) : IntKind.u32.wrap (x.toNat : Int) = u x := by
  rw [IntKind.wrap_u32]; unfold u; have := x.isLt; omega
theorem u_and (x y : BitVec 32) : bits .and .u32 (u x) (u y) = u (x &&& y) := by
  show IntKind.u32.wrap ((BitVec.ofInt 32 (u x) &&& BitVec.ofInt 32 (u y)).toNat : Int) = _
  rw [ofInt_u, ofInt_u, wrap_toNat]
theorem u_or (x y : BitVec 32) : bits .or .u32 (u x) (u y) = u (x ||| y) := by
  show IntKind.u32.wrap ((BitVec.ofInt 32 (u x) ||| BitVec.ofInt 32 (u y)).toNat : Int) = _
  rw [ofInt_u, ofInt_u, wrap_toNat]
theorem u_xor (x y : BitVec 32) : bits .xor .u32 (u x) (u y) = u (x ^^^ y) := by
  show IntKind.u32.wrap ((BitVec.ofInt 32 (u x) ^^^ BitVec.ofInt 32 (u y)).toNat : Int) = _
  rw [ofInt_u, ofInt_u, wrap_toNat]
theorem u_not (x : BitVec 32) : bits .xor .u32 4294967295 (u x) = u (~~~x) := by
  have h : (4294967295 : Int) = u (BitVec.allOnes 32) := by decide
  rw [h, u_xor]; congr 1
theorem u_unot (x : BitVec 32) : Op.unary .xor (.int .u32 (u x)) = pure (.int .u32 (u (~~~x))) := by
  show pure (Value.int .u32 (bits .xor .u32 4294967295 (u x))) = _
  rw [u_not]
theorem u_add (x y : BitVec 32) : IntKind.u32.wrap (u x + u y) = u (x + y) := by
  rw [IntKind.wrap_u32]; unfold u; rw [BitVec.toNat_add]; omega
theorem u_shl (x : BitVec 32) (yk : IntKind) (y : Int) (h : 0 ≤ y) : Op.shift .shl .u32 (u x) yk y = pure (.int .u32 (u (x <<< y.toNat))) := by
  rw [shift_shl_any _ _ _ _ h]
  congr 2
  rw [IntKind.wrap_u32]; unfold u
  rw [BitVec.toNat_shiftLeft, Nat.shiftLeft_eq]
  by_cases hy : y.toNat ≤ 32
  · rw [show min y.toNat IntKind.u32.bits = y.toNat from Nat.min_eq_left hy]
    simp
  · rw [show min y.toNat IntKind.u32.bits = 32 from Nat.min_eq_right (show (32 : Nat) ≤ y.toNat by omega)]
    obtain ⟨k, hk⟩ : ∃ k, y.toNat = k + 32 := ⟨y.toNat - 32, by omega⟩
    rw [hk, Nat.pow_add, ← Nat.mul_assoc]
    have : (x.toNat * 2 ^ k * 2 ^ 32) % 2 ^ 32 = 0 := Nat.mul_mod_left _ _
    omega
theorem u_shr (x : BitVec 32) (yk : IntKind) (y : Int) (h : 0 ≤ y) : Op.shift .shr .u32 (u x) yk y = pure (.int .u32 (u (x >>> y.toNat))) := by
  rw [shift_shr_any _ _ _ _ h]
  congr 2
  unfold u
  rw [BitVec.toNat_ushiftRight, Nat.shiftRight_eq_div_pow]
  by_cases hy : y.toNat ≤ 32
  · rw [show min y.toNat IntKind.u32.bits = y.toNat from Nat.min_eq_left hy]
    simp
  · rw [show min y.toNat IntKind.u32.bits = 32 from Nat.min_eq_right (show (32 : Nat) ≤ y.toNat by omega)]
    have h1 : x.toNat / 2 ^ y.toNat = 0 := Nat.div_eq_of_lt (Nat.lt_of_lt_of_le x.isLt (Nat.pow_le_pow_right (by omega) (by omega)))
    have := x.isLt
    rw [h1]; omega
theorem u_lit (n : Nat) (h : n < 4294967296) : ((n : Nat) : Int) = u (BitVec.ofNat 32 n) := by
  unfold u; rw [BitVec.toNat_ofNat]; omega
/-- A byte as a word. -/
def bw (b : UInt8) : BitVec 32 := b.toBitVec.zeroExtend 32
/-- A byte, read as a word. -/
theorem u_byte (b : UInt8) : IntKind.u32.wrap (b.toNat : Int) = u (bw b) := by
  rw [IntKind.wrap_u32]; unfold u bw
  have : b.toNat < 256 := b.toNat_lt
  simp
  omega
/-- A word's last byte. -/
theorem u_u8 (x : BitVec 32) : IntKind.u8.wrap (u x) = ((UInt8.ofBitVec (x.setWidth 8)).toNat : Int) := by
  rw [IntKind.wrap_u8]; unfold u
  simp [UInt8.toNat]
theorem shl_rule (x : BitVec 32) (yk : IntKind) (n : Nat) : Op.shift .shl .u32 (u x) yk (n : Int) = pure (.int .u32 (u (x <<< n))) := by
  rw [u_shl _ _ _ (by omega)]; rfl
theorem shr_rule (x : BitVec 32) (yk : IntKind) (n : Nat) : Op.shift .shr .u32 (u x) yk (n : Int) = pure (.int .u32 (u (x >>> n))) := by
  rw [u_shr _ _ _ (by omega)]; rfl
theorem shl_lit (x : BitVec 32) (yk : IntKind) (n : Nat) : Op.shift .shl .u32 (u x) yk (no_index (OfNat.ofNat n)) = pure (.int .u32 (u (x <<< n))) :=
  shl_rule x yk n
theorem shr_lit (x : BitVec 32) (yk : IntKind) (n : Nat) : Op.shift .shr .u32 (u x) yk (no_index (OfNat.ofNat n)) = pure (.int .u32 (u (x >>> n))) :=
  shr_rule x yk n
attribute [irreducible] u
end Go.Proofs.YtjedcijddlilaaaGreatDoor
