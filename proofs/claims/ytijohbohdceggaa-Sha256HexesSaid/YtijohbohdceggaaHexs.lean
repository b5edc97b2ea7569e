/- Sha256Hexes: the walk. -/
import Derived.Test.YtijohbohdceggaaRefParse
import Derived.Test.YtijohbohdceggaaAwake
namespace Go.Proofs.Ytijohbohdceggaa
open Go.RowKit

theorem parseV_form (l : List UInt8) : ∃ (y : ByteArray) (n : Int), parseV l = .tuple #[.string y, .int .i64 n] := by
  cases h : parseL l with
  | none => exact ⟨_, _, parseV_none h⟩
  | some m => exact ⟨_, _, parseV_some h⟩

set_option maxRecDepth 100000 in
set_option maxHeartbeats 1000000 in
theorem hexes_any (s t : ByteArray) (w : World) (ht : t.size ≤ maxLen) :
    Calls Try.prog 5 #[.string s, .string t] w
      fun e w' => e = .returned (.bool true) ∧ Below w.heap.size w w' := by
  have hp1 := fun w => parse_any t w ht
  have hp2 := fun w => refparse_any t w ht
  obtain ⟨y, n, hy⟩ := parseV_form t.data.toList
  rw [hy] at hp1 hp2
  have HP1 := hid hp1
  have HP2 := hid hp2
  clear hp1 hp2 hy
  go_enter Try.func5, Try.ntmps5
  go_wp2_with fail
  refine (awake_any w).mono ?_
  rintro e w1 ⟨rfl, hb1⟩
  have HB := hid hb1
  clear hb1
  by_cases hl : (2000 : Int) < (s.size : Int)
  · go_wp2_with fail
    go_ret
    exact ⟨rfl, HB.out⟩
  · by_cases hl2 : (2000 : Int) < (t.size : Int)
    · go_wp2_with fail
      go_ret
      exact ⟨rfl, HB.out⟩
    · have hhx := fun w => hex_any s w (by omega)
      have hhr := fun w => refhex_any s w (by omega)
      generalize hexL s.data.toList = x at hhx hhr
      have HX := hid (And.intro hhx hhr)
      clear hhx hhr
      go_wp2_with fail
      refine (HP1.out w1).mono ?_
      rintro e w2 ⟨rfl, hb2⟩
      have H2 := hid (HB.out.trans (hb2.mono HB.out.size))
      clear hb2 HB
      go_wp2_with fail
      refine (HP2.out w2).mono ?_
      rintro e w3 ⟨rfl, hb3⟩
      have H3 := hid (H2.out.trans (hb3.mono H2.out.size))
      clear hb3 H2
      go_wp2_with fail
      refine (HX.out.1 w3).mono ?_
      rintro e w4 ⟨rfl, hb4⟩
      have H4 := hid (H3.out.trans (hb4.mono H3.out.size))
      clear hb4 H3
      go_wp2_with fail
      refine (HX.out.2 w4).mono ?_
      rintro e w5 ⟨rfl, hb5⟩
      have H5 := hid (H4.out.trans (hb5.mono H4.out.size))
      clear hb5 H4
      go_wp2_with fail
      go_ret
      exact ⟨rfl, H5.out⟩
end Go.Proofs.Ytijohbohdceggaa
