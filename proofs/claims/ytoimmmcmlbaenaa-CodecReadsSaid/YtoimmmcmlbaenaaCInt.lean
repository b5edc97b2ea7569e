/- codec: Uint, Int. -/
import Derived.Test.YtoimmmcmlbaenaaWri
namespace Go.Proofs.Ytoimmmcmlbaenaa
open Go.RowKit

/-- written of one number, its function made just now. -/
theorem written_made (n : Nat) (w : World) (hn : n < 18446744073709551616) :
    Calls Try.prog 36 #[.slice (some ⟨w.heap.size + 1, 0, none⟩) 1 1] ((w.alloc (.cells #[.int .u64 (n : Int)] 69)).alloc (.cells #[.func (.func 50) #[] #[.pointer (some ⟨w.heap.size, 0, none⟩)]] 67))
      fun e w' => e = .returned (.string ⟨(uvL n).toArray⟩) ∧ Below w.heap.size w w' := by
  have h := written_number n ⟨w.heap.size, 0, none⟩ (w.heap.size + 1) ((w.alloc (.cells #[.int .u64 (n : Int)] 69)).alloc (.cells #[.func (.func 50) #[] #[.pointer (some ⟨w.heap.size, 0, none⟩)]] 67)) hn (by simp [go_sem]) (by simp [go_sem])
  refine h.mono fun e w' ⟨he, hb⟩ => ⟨he, ?_⟩
  have h1 : Below w.heap.size w ((w.alloc (.cells #[.int .u64 (n : Int)] 69)).alloc (.cells #[.func (.func 50) #[] #[.pointer (some ⟨w.heap.size, 0, none⟩)]] 67)) := ((Below.refl _ _).alloc (Nat.le_refl _) _).alloc (alloc_le (Nat.le_refl _) _) _
  exact h1.trans (hb.mono h1.size)

set_option maxRecDepth 100000 in
set_option maxHeartbeats 1000000 in
theorem cuint_neg (a : Int) (w : World) (h : a < 0) :
    Calls Try.prog 12 #[.int .i64 a] w
      fun e w' => e = .returned (.tuple #[.string ⟨#[]⟩, .int .i64 2]) ∧ Below w.heap.size w w' := by
  go_enter Try.func12, Try.ntmps12
  go_wp2_with fail
  go_ret2
  exact ⟨rfl, Below.refl _ _⟩
set_option maxRecDepth 100000 in
set_option maxHeartbeats 1000000 in
theorem cuint_nat (n : Nat) (w : World) (h : n < 9223372036854775808) :
    Calls Try.prog 12 #[.int .i64 (n : Int)] w
      fun e w' => e = .returned (.tuple #[.string ⟨(uvL n).toArray⟩, .int .i64 0]) ∧ Below w.heap.size w w' := by
  have q : IntKind.u64.wrap (n : Int) = (n : Int) := by rw [IntKind.wrap_u64]; omega
  have hm := written_made n w (by omega)
  have HM := hid hm
  clear hm
  go_enter Try.func12, Try.ntmps12
  go_wp2_with fail
  refine (number_any n w).mono ?_
  rintro e w2 ⟨rfl, rfl⟩
  go_wp2_with fail
  refine HM.out.mono ?_
  rintro e w3 ⟨rfl, hb⟩
  have KB := hid hb
  clear hb
  go_wp2_with fail
  go_ret2
  exact ⟨rfl, KB.out⟩

/-- All bits of a number turned. -/
theorem not64 (n : Nat) (h : n < 18446744073709551616) : bits .xor .u64 IntKind.u64.max (n : Int) = ((18446744073709551615 - n : Nat) : Int) := by
  have hm : IntKind.u64.max = (18446744073709551615 : Int) := by decide
  rw [hm]
  show IntKind.u64.wrap ((BitVec.ofInt 64 18446744073709551615 ^^^ BitVec.ofInt 64 (n : Int)).toNat : Int) = _
  have e1 : BitVec.ofInt 64 18446744073709551615 = BitVec.allOnes 64 := by decide
  have e2 : BitVec.ofInt 64 (n : Int) = BitVec.ofNat 64 n := by rw [BitVec.ofInt_natCast]
  rw [e1, e2]
  have e3 : BitVec.allOnes 64 ^^^ BitVec.ofNat 64 n = ~~~(BitVec.ofNat 64 n) := BitVec.allOnes_xor
  rw [e3, BitVec.toNat_not, BitVec.toNat_ofNat, Nat.mod_eq_of_lt (by omega), IntKind.wrap_u64]
  omega
/-- An integer's number. -/
def zig (a : Int) : Nat := if a < 0 then (-2 * a - 1).toNat else (2 * a).toNat
theorem zig_lt (a : Int) (h0 : -9223372036854775808 ≤ a) (h1 : a ≤ 9223372036854775807) : zig a < 18446744073709551616 := by unfold zig; split <;> omega

set_option maxRecDepth 100000 in
set_option maxHeartbeats 1000000 in
theorem cint_any (a : Int) (w : World) (h0 : -9223372036854775808 ≤ a) (h1 : a ≤ 9223372036854775807) :
    Calls Try.prog 14 #[.int .i64 a] w
      fun e w' => e = .returned (.string ⟨(uvL (zig a)).toArray⟩) ∧ Below w.heap.size w w' := by
  have hm := written_made (zig a) w (zig_lt a h0 h1)
  have HM := hid hm
  clear hm
  by_cases hn : a < 0
  · have q1 : IntKind.u64.wrap a = a + 18446744073709551616 := by rw [IntKind.wrap_u64]; omega
    have q2 : IntKind.u64.wrap (2 * (a + 18446744073709551616)) = 2 * a + 18446744073709551616 := by rw [IntKind.wrap_u64]; omega
    have hz : ((zig a : Nat) : Int) = -2 * a - 1 := by unfold zig; rw [if_pos hn]; omega
    have HZ := hid hz
    clear hz
    go_enter Try.func14, Try.ntmps14
    go_wp2_with fail
    have hx : bits .xor .u64 IntKind.u64.max (2 * a + 18446744073709551616) = ((zig a : Nat) : Int) := by
      have h2 := not64 (2 * a + 18446744073709551616).toNat (by omega)
      rw [show (((2 * a + 18446744073709551616).toNat : Nat) : Int) = 2 * a + 18446744073709551616 by omega] at h2
      rw [h2, HZ.out]
      omega
    simp only [hx]
    refine (number_any (zig a) w).mono ?_
    rintro e w2 ⟨rfl, rfl⟩
    go_wp2_with fail
    refine HM.out.mono ?_
    rintro e w3 ⟨rfl, hb⟩
    have KB := hid hb
    clear hb
    go_wp2_with fail
    go_ret
    exact ⟨rfl, KB.out⟩
  · have q1 : IntKind.u64.wrap a = a := by rw [IntKind.wrap_u64]; omega
    have q2 : IntKind.u64.wrap (2 * a) = 2 * a := by rw [IntKind.wrap_u64]; omega
    have hz : ((zig a : Nat) : Int) = 2 * a := by unfold zig; rw [if_neg hn]; omega
    have HZ := hid hz
    clear hz
    go_enter Try.func14, Try.ntmps14
    go_wp2_with fail
    simp only [← HZ.out]
    refine (number_any (zig a) w).mono ?_
    rintro e w2 ⟨rfl, rfl⟩
    go_wp2_with fail
    refine HM.out.mono ?_
    rintro e w3 ⟨rfl, hb⟩
    have KB := hid hb
    clear hb
    go_wp2_with fail
    go_ret
    exact ⟨rfl, KB.out⟩
end Go.Proofs.Ytoimmmcmlbaenaa
