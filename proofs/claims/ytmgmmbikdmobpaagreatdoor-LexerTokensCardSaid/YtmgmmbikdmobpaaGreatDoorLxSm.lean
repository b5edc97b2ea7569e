/- lexer: the reference's Same, where the lists are the same. -/
import Derived.Test.YtmgmmbikdmobpaaGreatDoorBase
import Derived.WalkKit
import Derived.Deep.QuietTactic
import Derived.BigQuiet
namespace Go.Proofs.YtmgmmbikdmobpaaGreatDoor
open Go.RowKit

/-- Two slices with the same tokens; with the same offsets, if that is asked. -/
def SameS (w : World) (g1 g2 n : Nat) (off : Bool) : Prop := ∀ k, k < n → ∃ (κ : Int) (t : ByteArray) (o1 o2 : Int),
  w.cell? ⟨g1, k * 3, none⟩ = some (.int .i64 κ) ∧ w.cell? ⟨g1, k * 3 + 1, none⟩ = some (.string t) ∧ w.cell? ⟨g1, k * 3 + 2, none⟩ = some (.int .i64 o1) ∧
  w.cell? ⟨g2, k * 3, none⟩ = some (.int .i64 κ) ∧ w.cell? ⟨g2, k * 3 + 1, none⟩ = some (.string t) ∧ w.cell? ⟨g2, k * 3 + 2, none⟩ = some (.int .i64 o2) ∧ (off = true → o1 = o2)

set_option maxRecDepth 100000 in
set_option maxHeartbeats 4000000 in
theorem same_any (g1 c1 g2 c2 n : Nat) (off : Bool) (w : World) (h : SameS w g1 g2 n off) (hn : n ≤ 1000000) :
    Calls Tryz.prog 7 #[.slice (some ⟨g1, 0, none⟩) n c1, .slice (some ⟨g2, 0, none⟩) n c2, .bool off] w fun e w' => e = .returned (.bool true) ∧ ∃ m, w' = w.drewN m := by
  have H := hid h
  clear h
  go_enter Tryz.func7, Tryz.ntmps7
  go_wp2_with fail
  go_loopw [7] (fun i wr => ∃ k : Nat, k ≤ n ∧ i = .int .i64 (k : Int) ∧ ∃ m, wr = w.drewN m) (fun i _ => n - (intOf i).toNat)
  case atStart => exact ⟨0, by omega, rfl, 0, rfl⟩
  case round =>
    obtain ⟨k, hk, rfl, m, rfl⟩ := hrel
    by_cases hlt : k < n
    · obtain ⟨κ, t, o1, o2, a0, a1, a2, b0, b1, b2, ho⟩ := H.out k hlt
      have H6 : ∃ W, W = w.drewN m ∧ W.cell? ⟨g1, k * 3, none⟩ = some (.int .i64 κ) ∧ W.cell? ⟨g1, k * 3 + 1, none⟩ = some (.string t) ∧ W.cell? ⟨g1, k * 3 + 2, none⟩ = some (.int .i64 o1) ∧ W.cell? ⟨g2, k * 3, none⟩ = some (.int .i64 κ) ∧ W.cell? ⟨g2, k * 3 + 1, none⟩ = some (.string t) ∧ W.cell? ⟨g2, k * 3 + 2, none⟩ = some (.int .i64 o2) := ⟨_, rfl, a0, a1, a2, b0, b1, b2⟩
      obtain ⟨W, hW, d0, d1, d2, e0, e1, e2⟩ := H6
      rw [← hW]
      have HW := hid hW
      clear hW a0 a1 a2 b0 b1 b2
      cases off with
      | false =>
        clear ho
        go_wp2_with fail
        go_quiet (fail)
        go_wp2_with fail
        go_roundw
        case rel => exact ⟨k + 1, by omega, by go_num, m + nq, by rw [HW.out, World.drewN_drewN]⟩
        case measure => simp [intOf]; omega
      | true =>
        obtain rfl := ho rfl
        go_wp2_with fail
        go_quiet (fail)
        go_wp2_with fail
        go_roundw
        case rel => exact ⟨k + 1, by omega, by go_num, m + nq, by rw [HW.out, World.drewN_drewN]⟩
        case measure => simp [intOf]; omega
    · obtain rfl : k = n := by omega
      go_wp2_with fail
      go_ret
      exact ⟨rfl, m, rfl⟩
end Go.Proofs.YtmgmmbikdmobpaaGreatDoor
