/- The reference's rotr and constants. -/
import Derived.Test.YtijohbohdceggaaRefPad
namespace Go.Proofs.Ytijohbohdceggaa
open Go.RowKit
attribute [local go_sem ↓ high] u_and u_or u_xor u_not u_add shl_rule shr_rule shl_lit shr_lit u_byte

set_option maxHeartbeats 400000 in
theorem rotr_nat (x : BitVec 32) (n : Nat) (w : World) (h0 : 0 < n) (h1 : n < 32) :
    Calls Try.prog 41 #[.int .u32 (u x), .int .i64 (n : Int)] w fun e w' => e = .returned (.int .u32 (u (x.rotateRight n))) ∧ ∃ k, w' = w.drewN k := by
  have e2 : IntKind.i64.wrap (32 - (n : Int)) = ((32 - n : Nat) : Int) := by rw [IntWalk.i64_in _ (by omega)]; omega
  have e3 : x >>> n ||| x <<< (32 - n) = x.rotateRight n := by
    rw [BitVec.rotateRight_def, Nat.mod_eq_of_lt h1]
  have e4 : 32 - (n : Int) = ((32 - n : Nat) : Int) := by omega
  have E3 := hid e3
  clear e3
  go_enter Try.func41, Try.ntmps41
  go_wp2_with fail
  go_region
  go_wp2
  go_ret
  exact ⟨by rw [← E3.out]; rfl, _, rfl⟩

set_option maxRecDepth 100000 in
set_option maxHeartbeats 400000 in
theorem refconstants_any (w : World) :
    Calls Try.prog 40 #[] w
      fun e w' => e = .returned (.slice (some ⟨w.heap.size, 0, none⟩) 64 64) ∧ w' = w.alloc (.cells (UC KL) 52) := by
  go_enter Try.func40, Try.ntmps40
  go_wp2_with fail
  go_ret
  exact ⟨rfl, congrArg (fun c => w.alloc (.cells c 52)) (show _ = UC KL by kernel_rfl)⟩
end Go.Proofs.Ytijohbohdceggaa
