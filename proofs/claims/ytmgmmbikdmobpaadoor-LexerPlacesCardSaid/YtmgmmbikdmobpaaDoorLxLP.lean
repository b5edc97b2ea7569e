/- lexer: LexerPlaces. -/
import Derived.Test.YtmgmmbikdmobpaaDoorLxAw
import Derived.Test.YtmgmmbikdmobpaaDoorLxQ3
namespace Go.Proofs.YtmgmmbikdmobpaaDoor
open Go.RowKit

set_option maxRecDepth 100000 in
set_option maxHeartbeats 4000000 in
theorem places_law (s : ByteArray) (o : Int) (w : World) (hE : Env w) (h0 : -9223372036854775808 ≤ o) (h1 : o ≤ 9223372036854775807) :
    Calls Tryd.prog 4 #[.string s, .int .i64 o] w fun e w' => e = .returned (.bool true) ∧ Below w.heap.size w w' := by
  by_cases hbig : 1000 < s.size
  · go_enter Tryd.func4, Tryd.ntmps4
    go_wp2_with fail
    refine (awake_any w hE).mono ?_
    rintro e w1 ⟨rfl, hb1⟩
    go_wp2_with fail
    go_ret
    exact ⟨rfl, hb1⟩
  · have K1 := hid (fun w => position_any s o w (by omega) h0 h1)
    have K2 := hid (fun w => rposition_any s o w (by omega) h0 h1)
    have K3 := hid (fun w => quote_any s w (by omega))
    have K4 := hid (fun w => rquote_any s w (by omega))
    generalize posL (s.data.toList.take (offK o s.size)) = P at K1 K2
    generalize ByteArray.mk ([34] ++ s.data.toList.flatMap esc ++ [34]).toArray = Q at K3 K4
    obtain ⟨p, q⟩ := P
    clear h0 h1
    go_enter Tryd.func4, Tryd.ntmps4
    go_wp2_with fail
    refine (awake_any w hE).mono ?_
    rintro e w1 ⟨rfl, hb1⟩
    go_wp2_with fail
    refine (K1.out w1).mono ?_
    rintro e w2 ⟨rfl, rfl⟩
    go_wp2_with fail
    refine (K2.out w2).mono ?_
    rintro e w3 ⟨rfl, rfl⟩
    go_wp2_with fail
    refine (K3.out w3).mono ?_
    rintro e w4 ⟨rfl, hb⟩
    have hb4 := hb1.trans (hb.mono hb1.size)
    clear hb hb1
    go_wp2_with fail
    refine (K4.out w4).mono ?_
    rintro e w5 ⟨rfl, hb⟩
    have hb5 := hb4.trans (hb.mono hb4.size)
    clear hb hb4
    go_wp2_with fail
    go_ret
    exact ⟨rfl, hb5⟩
theorem places_law2 (s : ByteArray) (a : Int) (w : World) (hE : Env w) (h : (Lit.int .i64 a).wf = true) :
    Calls Tryd.prog 4 #[.string s, .int .i64 a] w fun e w' => e = .returned (.bool true) ∧ Below w.heap.size w w' := by
  have h2 : -9223372036854775808 ≤ a ∧ a ≤ 9223372036854775807 := by
    have h3 : (decide (-9223372036854775808 ≤ a) && decide (a ≤ 9223372036854775807)) = true := h
    simpa using h3
  exact places_law s a w hE h2.1 h2.2
end Go.Proofs.YtmgmmbikdmobpaaDoor
