/- Sha256Sums: the walk. -/
import Derived.Test.YtijohbohdceggaaRefSum
import Derived.Test.YtijohbohdceggaaAwake
namespace Go.Proofs.Ytijohbohdceggaa
open Go.RowKit

set_option maxRecDepth 100000 in
set_option maxHeartbeats 1000000 in
theorem sums_any (s : ByteArray) (w : World) :
    Calls Try.prog 3 #[.string s] w
      fun e w' => e = .returned (.bool true) ∧ Below w.heap.size w w' := by
  go_enter Try.func3, Try.ntmps3
  go_wp2_with fail
  refine (awake_any w).mono ?_
  rintro e w1 ⟨rfl, hb1⟩
  have HB := hid hb1
  clear hb1
  by_cases hl : (2000 : Int) < (s.size : Int)
  · go_wp2_with fail
    go_ret
    exact ⟨rfl, HB.out⟩
  · have h1 := fun w => sha_any s w (by omega)
    have h2 := fun w => refsum_any s w (by omega)
    generalize sha s.data.toList = x at h1 h2
    have HX := hid (And.intro h1 h2)
    clear h1 h2
    go_wp2_with fail
    refine (HX.out.1 w1).mono ?_
    rintro e w2 ⟨rfl, hb2⟩
    have H2 := hid (HB.out.trans (hb2.mono HB.out.size))
    clear hb2 HB
    go_wp2_with fail
    refine (HX.out.2 w2).mono ?_
    rintro e w3 ⟨rfl, hb3⟩
    have H3 := hid (H2.out.trans (hb3.mono H2.out.size))
    clear hb3 H2
    go_wp2_with fail
    go_ret
    exact ⟨rfl, H3.out⟩
end Go.Proofs.Ytijohbohdceggaa
