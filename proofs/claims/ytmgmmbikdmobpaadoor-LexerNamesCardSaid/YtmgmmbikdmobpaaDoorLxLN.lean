/- lexer: LexerNames. -/
import Derived.Test.YtmgmmbikdmobpaaDoorLxAw
namespace Go.Proofs.YtmgmmbikdmobpaaDoor
open Go.RowKit

set_option maxRecDepth 100000 in
set_option maxHeartbeats 4000000 in
theorem names_law (s : ByteArray) (w : World) (hE : Env w) :
    Calls Tryd.prog 3 #[.string s] w fun e w' => e = .returned (.bool true) ∧ Below w.heap.size w w' := by
  go_enter Tryd.func3, Tryd.ntmps3
  go_wp2_with fail
  refine (awake_any w hE).mono ?_
  rintro e w1 ⟨rfl, hb1⟩
  have hE1 := hE.below hb1
  by_cases hbig : 300 < s.size
  · clear hE1
    go_wp2_with fail
    go_ret
    exact ⟨rfl, hb1⟩
  · have hs : s.size ≤ 300 := by omega
    have h1 := major_any s w1 hE1
    have h2 := fun w => rmajor2_any s w
    have h3 := fun w => isname_any s w (by omega)
    have h4 := fun w => risname_any s w (by omega)
    have h5 := fun w => istype_any s w (by omega)
    have h6 := fun w => ristype_any s w (by omega)
    have h7 := fun w => fun hE => ispath_any s w hE
    have h8 := fun w => rispath_any s w
    unfold pathB at h7
    rw [nameB_is] at h4
    rw [typeB_is] at h6
    rw [rmaj_is] at h2 h8
    generalize majL s.data.toList = M at h1 h2 h7 h8
    generalize isWk s.data.toList 1 = b1 at h3 h4
    generalize isWk s.data.toList 2 = b2 at h5 h6
    obtain ⟨m, f⟩ := M
    dsimp only at h1 h2 h7 h8
    have K1 := hid h1
    have K2 := hid h2
    have K3 := hid h3
    have K4 := hid h4
    have K5 := hid h5
    have K6 := hid h6
    have K7 := hid h7
    have K8 := hid h8
    clear h1 h2 h3 h4 h5 h6 h7 h8 hs
    go_wp2_with fail
    refine K1.out.mono ?_
    rintro e w2 ⟨rfl, hb⟩
    have hE2 := hE1.below hb
    have hb2 := hb1.trans (hb.mono hb1.size)
    clear hb hb1 hE1
    go_wp2_with fail
    refine (K2.out w2).mono ?_
    rintro e w3 ⟨rfl, hb⟩
    have hE3 := hE2.below hb
    have hb3 := hb2.trans (hb.mono hb2.size)
    clear hb hb2 hE2
    go_wp2_with fail
    refine (K3.out w3).mono ?_
    rintro e w4 ⟨rfl, rfl⟩
    go_wp2_with fail
    refine (K4.out w4).mono ?_
    rintro e w5 ⟨rfl, hb⟩
    have hE5 := hE3.below hb
    have hb5 := hb3.trans (hb.mono hb3.size)
    clear hb hb3 hE3
    go_wp2_with fail
    refine (K5.out w5).mono ?_
    rintro e w6 ⟨rfl, rfl⟩
    go_wp2_with fail
    refine (K6.out w6).mono ?_
    rintro e w7 ⟨rfl, hb⟩
    have hE7 := hE5.below hb
    have hb7 := hb5.trans (hb.mono hb5.size)
    clear hb hb5 hE5
    go_wp2_with fail
    refine (K7.out w7 hE7).mono ?_
    rintro e w8 ⟨rfl, hb⟩
    have hb8 := hb7.trans (hb.mono hb7.size)
    clear hb hb7 hE7
    go_wp2_with fail
    refine (K8.out w8).mono ?_
    rintro e w9 ⟨rfl, hb⟩
    have hb9 := hb8.trans (hb.mono hb8.size)
    clear hb hb8
    go_wp2_with fail
    go_ret
    exact ⟨rfl, hb9⟩
end Go.Proofs.YtmgmmbikdmobpaaDoor
