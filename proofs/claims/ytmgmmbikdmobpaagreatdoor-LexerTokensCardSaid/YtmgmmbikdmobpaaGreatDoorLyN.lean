/- lexer: the reference's token. -/
import Derived.Test.YtmgmmbikdmobpaaGreatDoorLyX
import Derived.Test.YtmgmmbikdmobpaaGreatDoorLyY
import Derived.Test.YtmgmmbikdmobpaaGreatDoorLyD
import Derived.Test.YtmgmmbikdmobpaaGreatDoorLyL
import Derived.Test.YtmgmmbikdmobpaaGreatDoorLex
namespace Go.Proofs.YtmgmmbikdmobpaaGreatDoor
open Go.RowKit

theorem rtoken_any (s : ByteArray) (w : World) (hs : s.size ≤ 1000000) (h0 : 0 < s.size) :
    Calls Tryz.prog 16 #[.string s] w fun e w' => TkRet (nextT s.data.toList) e ∧ Below w.heap.size w w' := by
  unfold nextT
  by_cases h1 : isLt (fst s.data.toList) = true
  · rw [if_pos h1]; exact rtokW_any s w (by omega) h0 h1
  · rw [if_neg h1]
    by_cases h2 : isDg (fst s.data.toList) = true
    · rw [if_pos h2]; exact rtokD_any s w (by omega) h0 h2
    · rw [if_neg h2]
      by_cases h3 : fst s.data.toList = 34
      · rw [if_pos h3]; exact rtokX_any s w (by omega) h0 h3
      · rw [if_neg h3]; exact rtokY_any s w h0 (by simpa using h1) (by simpa using h2) h3
theorem own_below {w w' : World} {base : Nat} {e : TypeId} {size : Nat} {v : Value} {n : Nat} {xs : List Value} (h : w.ownsRow base e size v n xs) (hb : Below w.heap.size w w') : w'.ownsRow base e size v n xs := by
  obtain ⟨h1, h2 | ⟨g, cap, cur, hv, hg, hc, hr⟩⟩ := h
  · exact ⟨h1, .inl h2⟩
  · exact ⟨h1, .inr ⟨g, cap, cur, hv, hg, (hb.block g (Array.getElem?_eq_some_iff.1 hc).1).trans hc, hr⟩⟩
end Go.Proofs.YtmgmmbikdmobpaaGreatDoor
