/- lexer: tokens. -/
import Derived.Test.YtmgmmbikdmobpaaDoorLxN
import Derived.Test.YtmgmmbikdmobpaaDoorLxSep
namespace Go.Proofs.YtmgmmbikdmobpaaDoor
open Go.RowKit

theorem tokens_any (s : ByteArray) (w : World) :
    Calls Tryd.prog 44 #[.string s] w
      fun e w' => e = .returned (.func (.func 62) #[] #[.pointer (some ⟨w.heap.size, 0, none⟩)]) ∧ w' = w.alloc (.cells #[.string s] 9) := by
  go_enter Tryd.func44, Tryd.ntmps44
  go_wp2_with fail
  go_ret
  exact ⟨rfl, rfl⟩
end Go.Proofs.YtmgmmbikdmobpaaDoor
