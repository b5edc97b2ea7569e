/- The leaf functions of package sha256 and of math/bits: rotations. -/
import Derived.Test.YtijohbohdceggaaRows
import Derived.Test.YtijohbohdceggaaU32
import Derived.WalkKit
import Derived.WalkSpells
import Derived.WalkLawsBesides
import Derived.Deep.QuietTactic
import Derived.BigQuiet
import Derived.Handy
namespace Go.Proofs.Ytijohbohdceggaa
open Go.RowKit

attribute [local go_sem ↓ high] u_and u_or u_xor u_not u_add

attribute [local go_sem ↓ high] shl_rule shr_rule

theorem rotArg (n : Nat) (h0 : 0 < n) (h1 : n < 32) : bits .and .u64 (IntKind.u64.wrap (-(n : Int))) 31 = ((32 - n : Nat) : Int) := by
  have e : IntKind.u64.wrap (-(n : Int)) = ((18446744073709551616 - n : Nat) : Int) := by rw [IntKind.wrap_u64]; omega
  rw [e, show (31 : Int) = ((31 : Nat) : Int) from rfl, u64_and_nat _ _ (by omega) (by omega)]
  have : (18446744073709551616 - n) &&& 31 = (18446744073709551616 - n) % 32 := Nat.and_two_pow_sub_one_eq_mod _ 5
  rw [this]; omega

set_option maxHeartbeats 400000 in
theorem rot_any (x : BitVec 32) (n : Nat) (w : World) (h0 : 0 < n) (h1 : n < 32) :
    Calls Try.prog 49 #[.int .u32 (u x), .int .i64 (-(n : Int))] w fun e w' => e = .returned (.int .u32 (u (x.rotateRight n))) ∧ w' = w := by
  have e1 := rotArg n h0 h1
  have e2 : IntKind.u64.wrap (32 - ((32 - n : Nat) : Int)) = (n : Int) := by rw [IntKind.wrap_u64]; omega
  have e3 : x <<< (32 - n) ||| x >>> n = x.rotateRight n := by
    rw [BitVec.rotateRight_def, Nat.mod_eq_of_lt h1]; exact BitVec.or_comm _ _
  have E3 := hid e3
  clear e3
  go_enter Try.func49, Try.ntmps49
  go_wp2


  go_ret
  exact ⟨by show Ending.returned (.int .u32 (u (x <<< (32 - n) ||| x >>> n))) = _; rw [E3.out], rfl⟩

/-- The combination of three rotations. -/
def rot3 (a b c : Nat) (x : BitVec 32) : BitVec 32 := x.rotateRight a ^^^ x.rotateRight b ^^^ x.rotateRight c
/-- The combination of two rotations and a shift. -/
def rot2s (a b c : Nat) (x : BitVec 32) : BitVec 32 := x.rotateRight a ^^^ x.rotateRight b ^^^ x >>> c

set_option maxHeartbeats 400000 in
theorem rotations1_any (x : BitVec 32) (a b c : Nat) (pa pb pc : Addr) (w : World) (ha0 : 0 < a) (ha : a < 32) (hb0 : 0 < b) (hb : b < 32) (hc0 : 0 < c) (hc : c < 32)
    (ca : w.cell? pa = some (.int .i64 a)) (cb : w.cell? pb = some (.int .i64 b)) (cc : w.cell? pc = some (.int .i64 c)) :
    Calls Try.prog 48 #[.int .u32 (u x), .pointer (some pa), .pointer (some pb), .pointer (some pc)] w
      fun e w' => e = .returned (.int .u32 (u (rot3 a b c x))) ∧ ∃ n, w' = w.drewN n := by
  have na : IntKind.i64.wrap (0 - (a : Int)) = -(a : Int) := by rw [IntWalk.i64_in _ (by omega)]; omega
  have nb : IntKind.i64.wrap (0 - (b : Int)) = -(b : Int) := by rw [IntWalk.i64_in _ (by omega)]; omega
  have nc : IntKind.i64.wrap (0 - (c : Int)) = -(c : Int) := by rw [IntWalk.i64_in _ (by omega)]; omega
  go_enter Try.func48, Try.ntmps48
  go_wp2_with fail
  go_quiet ((go_at_call 49; refine Calls.quiet_of_same (rot_any _ _ _ (by omega) (by omega))))
  go_wp2
  go_ret
  exact ⟨rfl, _, rfl⟩

set_option maxHeartbeats 400000 in
theorem shifted1_any (x : BitVec 32) (a b c : Nat) (pa pb pc : Addr) (w : World) (ha0 : 0 < a) (ha : a < 32) (hb0 : 0 < b) (hb : b < 32)
    (ca : w.cell? pa = some (.int .i64 a)) (cb : w.cell? pb = some (.int .i64 b)) (cc : w.cell? pc = some (.int .i64 c)) :
    Calls Try.prog 51 #[.int .u32 (u x), .pointer (some pa), .pointer (some pb), .pointer (some pc)] w
      fun e w' => e = .returned (.int .u32 (u (rot2s a b c x))) ∧ ∃ n, w' = w.drewN n := by
  have na : IntKind.i64.wrap (0 - (a : Int)) = -(a : Int) := by rw [IntWalk.i64_in _ (by omega)]; omega
  have nb : IntKind.i64.wrap (0 - (b : Int)) = -(b : Int) := by rw [IntWalk.i64_in _ (by omega)]; omega
  go_enter Try.func51, Try.ntmps51
  go_wp2_with fail
  go_quiet ((go_at_call 49; refine Calls.quiet_of_same (rot_any _ _ _ (by omega) (by omega))))
  go_wp2
  go_ret
  exact ⟨rfl, _, rfl⟩

set_option maxHeartbeats 400000 in
theorem rotations_any (a b c : Int) (w : World) :
    Calls Try.prog 44 #[.int .i64 a, .int .i64 b, .int .i64 c] w
      fun e w' => e = .returned (.func (.func 48) #[] #[.pointer (some ⟨w.heap.size, 0, none⟩), .pointer (some ⟨w.heap.size + 1, 0, none⟩), .pointer (some ⟨w.heap.size + 1 + 1, 0, none⟩)]) ∧
        w' = ((w.alloc (.cells #[.int .i64 a] 3)).alloc (.cells #[.int .i64 b] 3)).alloc (.cells #[.int .i64 c] 3) := by
  go_enter Try.func44, Try.ntmps44
  go_wp2
  go_ret
  exact ⟨rfl, rfl⟩

set_option maxHeartbeats 400000 in
theorem shifted_any (a b c : Int) (w : World) :
    Calls Try.prog 47 #[.int .i64 a, .int .i64 b, .int .i64 c] w
      fun e w' => e = .returned (.func (.func 51) #[] #[.pointer (some ⟨w.heap.size, 0, none⟩), .pointer (some ⟨w.heap.size + 1, 0, none⟩), .pointer (some ⟨w.heap.size + 1 + 1, 0, none⟩)]) ∧
        w' = ((w.alloc (.cells #[.int .i64 a] 3)).alloc (.cells #[.int .i64 b] 3)).alloc (.cells #[.int .i64 c] 3) := by
  go_enter Try.func47, Try.ntmps47
  go_wp2
  go_ret
  exact ⟨rfl, rfl⟩

/-- The same, the three captured variables behind names. -/
theorem rotations_abs (a b c : Int) (w : World) :
    Calls Try.prog 44 #[.int .i64 a, .int .i64 b, .int .i64 c] w
      fun e w' => ∃ pa pb pc : Addr, e = .returned (.func (.func 48) #[] #[.pointer (some pa), .pointer (some pb), .pointer (some pc)]) ∧ Below w.heap.size w w' ∧
        w'.cell? pa = some (.int .i64 a) ∧ w'.cell? pb = some (.int .i64 b) ∧ w'.cell? pc = some (.int .i64 c) ∧ w.heap.size ≤ pa.block ∧ w.heap.size ≤ pb.block ∧ w.heap.size ≤ pc.block := by
  refine (rotations_any a b c w).mono ?_
  rintro e w' ⟨rfl, rfl⟩
  refine ⟨_, _, _, rfl, ((((Below.refl _ _).alloc (Nat.le_refl _) _).alloc (by simp) _).alloc (by simp; omega) _), by simp [go_sem], by simp [go_sem], by simp [go_sem], by simp, by simp, by simp; omega⟩

/-- The same, the three captured variables behind names. -/
theorem shifted_abs (a b c : Int) (w : World) :
    Calls Try.prog 47 #[.int .i64 a, .int .i64 b, .int .i64 c] w
      fun e w' => ∃ pa pb pc : Addr, e = .returned (.func (.func 51) #[] #[.pointer (some pa), .pointer (some pb), .pointer (some pc)]) ∧ Below w.heap.size w w' ∧
        w'.cell? pa = some (.int .i64 a) ∧ w'.cell? pb = some (.int .i64 b) ∧ w'.cell? pc = some (.int .i64 c) ∧ w.heap.size ≤ pa.block ∧ w.heap.size ≤ pb.block ∧ w.heap.size ≤ pc.block := by
  refine (shifted_any a b c w).mono ?_
  rintro e w' ⟨rfl, rfl⟩
  refine ⟨_, _, _, rfl, ((((Below.refl _ _).alloc (Nat.le_refl _) _).alloc (by simp) _).alloc (by simp; omega) _), by simp [go_sem], by simp [go_sem], by simp [go_sem], by simp, by simp, by simp; omega⟩
end Go.Proofs.Ytijohbohdceggaa
