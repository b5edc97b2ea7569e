/- lexer: the reference's parts of a path. -/
import Derived.Test.YtmgmmbikdmobpaaGreatDoorLxSg
import Derived.Test.YtmgmmbikdmobpaaGreatDoorLxR3
import Derived.Test.YtmgmmbikdmobpaaGreatDoorLxQ
import Derived.RangeFuncBox
import Derived.Maps.AppendAt
namespace Go.Proofs.YtmgmmbikdmobpaaGreatDoor
open Go.RowKit

def strV (l : List UInt8) : Value := .string ⟨l.toArray⟩
theorem infoStr : (Tryz.prog.info? 9).map (fun i => (i.zero, i.size, i.bytes)) = some (some (.string ByteArray.empty), 1, 16) := by kernel_rfl
theorem segL_length (l : List UInt8) : (segL l).length ≤ l.length + 1 := by
  have h := (split_is _ l (Nat.le_refl _)).2
  have := Lib.count_le l [47]
  induction l with
  | nil => simp [segL]
  | cons b r ih =>
    rw [segL]
    have ih' : (segL r).length ≤ r.length + 1 := ih ((split_is _ r (Nat.le_refl _)).2) (Lib.count_le r [47])
    by_cases h : b = 47
    · rw [if_pos h]; simp; omega
    · rw [if_neg h]
      cases hs : segL r with
      | nil => simp
      | cons x y => rw [hs] at ih'; simp at ih' ⊢; omega

theorem segPut_set : ∀ (L : List (List UInt8)) (b : UInt8), L ≠ [] → segPut L b = L.set (L.length - 1) (L.getD (L.length - 1) [] ++ [b])
  | [], _, h => absurd rfl h
  | [x], b, _ => by simp [segPut]
  | x :: y :: z, b, _ => by
    have ih := segPut_set (y :: z) b (by simp)
    rw [segPut, ih]
    · simp
    · intro h; cases h

end Go.Proofs.YtmgmmbikdmobpaaGreatDoor
