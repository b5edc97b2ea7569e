/- lexer: tokens. -/
import Derived.Test.YtmgmmbikdmobpaaGreatDoorLxN
import Derived.Test.YtmgmmbikdmobpaaGreatDoorLxSep
namespace Go.Proofs.YtmgmmbikdmobpaaGreatDoor
open Go.RowKit

theorem tokens_any (s : ByteArray) (w : World) :
    Calls Tryz.prog 14 #[.string s] w
      fun e w' => e = .returned (.func (.func 24) #[] #[.pointer (some ⟨w.heap.size, 0, none⟩)]) ∧ w' = w.alloc (.cells #[.string s] 9) := by
  go_enter Tryz.func14, Tryz.ntmps14
  go_wp2_with fail
  go_ret
  exact ⟨rfl, rfl⟩
end Go.Proofs.YtmgmmbikdmobpaaGreatDoor
