/- lexer: the reference's token at a word. -/
import Derived.Test.YtmgmmbikdmobpaaGreatDoorLyS
import Derived.Test.YtmgmmbikdmobpaaGreatDoorLxN
import Derived.Test.YtmgmmbikdmobpaaGreatDoorLxI
import Derived.Test.YtmgmmbikdmobpaaGreatDoorLxNe
import Derived.Deep.RegionWith
namespace Go.Proofs.YtmgmmbikdmobpaaGreatDoor
open Go.RowKit

theorem spn_take2 (p : Nat → Bool) : ∀ (l : List UInt8) (m : Nat), spn p l ≤ m → spn p (l.take m) = spn p l := by
  intro l
  induction l with
  | nil => intro m _; rw [List.take_nil]
  | cons b l ih =>
    intro m h
    rw [spn_cons] at h ⊢
    by_cases hb : p b.toNat = true
    · rw [if_pos hb] at h ⊢
      obtain ⟨m, rfl⟩ : ∃ k, m = k + 1 := ⟨m - 1, by omega⟩
      rw [List.take_succ_cons, spn_cons, if_pos hb, ih m (by omega)]
    · rw [if_neg hb]
      cases m with
      | zero => rfl
      | succ m => rw [List.take_succ_cons, spn_cons, if_neg hb]
theorem wordR (l : List UInt8) (h0 : 0 < l.length) (h : isLt (fst l) = true) :
    wordT l = if isKw (l.take (spn isWd l)) = true then .tok 5 (l.take (spn isWd l)) (spn isWd l) else if nameB (l.take (spn isWd l)) = true then .tok 1 (l.take (spn isWd l)) (spn isWd l) else if typeB (l.take (spn isWd l)) = true then .tok 2 (l.take (spn isWd l)) (spn isWd l) else .err 4 := by
  have hw : isWd (fst l) = true := by unfold isWd; rw [h]; rfl
  have hp := spn_pos isWd l h0 hw
  have hle := spn_le isWd l
  have hs := spn_take2 isWd l (spn isWd l) (Nat.le_refl _)
  have hft : fst (l.take (spn isWd l)) = fst l := by
    unfold fst
    rw [List.getD_eq_getElem?_getD, List.getD_eq_getElem?_getD, List.getElem?_take, if_pos hp]
  have hlen : (l.take (spn isWd l)).length = spn isWd l := by rw [List.length_take]; omega
  rw [nameB_is, typeB_is]
  unfold wordT
  generalize spn isWd l = n at *
  generalize l.take n = x at *
  have hx : x ≠ [] := by intro e; rw [e] at hlen; simp at hlen; omega
  have k1 := isWk_kind x 1 hx (by rw [hft]; exact h) (by rw [hs, hlen]; omega)
  have k2 := isWk_kind x 2 hx (by rw [hft]; exact h) (by rw [hs, hlen]; omega)
  rw [k1, k2]
  unfold wkOf
  by_cases q : isKw x = true
  · rw [if_pos q, if_pos q]
  · rw [if_neg q, if_neg q]
    by_cases q2 : 32 < x.length
    · rw [if_pos q2]; rfl
    · rw [if_neg q2]
      by_cases q3 : isSm (fst x) = true
      · rw [if_pos q3]; rfl
      · rw [if_neg q3]; rfl
end Go.Proofs.YtmgmmbikdmobpaaGreatDoor
