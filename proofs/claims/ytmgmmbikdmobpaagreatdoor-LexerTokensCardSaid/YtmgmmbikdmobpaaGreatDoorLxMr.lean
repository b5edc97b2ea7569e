/- lexer: the reference's Major, IsPath. -/
import Derived.Test.YtmgmmbikdmobpaaGreatDoorLxSr
namespace Go.Proofs.YtmgmmbikdmobpaaGreatDoor
open Go.RowKit

def rmajL (l : List UInt8) : Int × Int :=
  if 64 < l.length then (0, 4) else if (segL l).all isSgm = true then
    (if (segL l).length < 2 ∨ majR ((segL l).getLastD []) < 0 then (0, 4) else (majR ((segL l).getLastD []), 0)) else (0, 4)
theorem all_ofL {L : List (List UInt8)} {p : List UInt8 → Bool} (h : ∀ j, j < L.length → p (L.getD j []) = true) : L.all p = true := by
  rw [List.all_eq_true]
  intro x hx
  obtain ⟨j, hj, rfl⟩ := List.getElem_of_mem hx
  have := h j hj
  simpa [List.getD, hj] using this
theorem not_allL {L : List (List UInt8)} {p : List UInt8 → Bool} (j : Nat) (hj : j < L.length) (h : p (L.getD j []) = false) : L.all p = false := by
  cases hx : L.all p with
  | false => rfl
  | true =>
    rw [List.all_eq_true] at hx
    have := hx L[j] (List.getElem_mem hj)
    rw [List.getD_eq_getElem?_getD, List.getElem?_eq_getElem hj, Option.getD_some, this] at h
    exact h
theorem last_ofL (L : List (List UInt8)) : L.getLastD [] = L.getD (L.length - 1) [] := by
  rw [List.getLastD_eq_getLast?, List.getLast?_eq_getElem?, List.getD_eq_getElem?_getD]
theorem getD_le (l : List UInt8) (j : Nat) (hj : j < (segL l).length) : ((segL l).getD j []).length ≤ l.length := by
  refine segL_le l _ ?_
  rw [List.getD_eq_getElem?_getD, List.getElem?_eq_getElem hj, Option.getD_some]
  exact List.getElem_mem _


end Go.Proofs.YtmgmmbikdmobpaaGreatDoor
