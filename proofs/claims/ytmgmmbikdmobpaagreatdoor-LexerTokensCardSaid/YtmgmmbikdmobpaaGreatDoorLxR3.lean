/- lexer: the reference's segment, major. -/
import Derived.Test.YtmgmmbikdmobpaaGreatDoorLxR2
import Derived.Test.YtmgmmbikdmobpaaGreatDoorLxC
namespace Go.Proofs.YtmgmmbikdmobpaaGreatDoor
open Go.RowKit


/-- The major version of a segment, or -1. -/
def majP (l : List UInt8) (n : Int) : Int := match l with
  | [] => n
  | b :: r => if isDg b.toNat then majP r (10 * n + (b.toNat - 48)) else -1
def majR (l : List UInt8) : Int := if l.length < 2 ∨ 4 < l.length ∨ fst l ≠ 118 ∨ (at' l 1 = 48 ∧ 2 < l.length) then -1 else majP (l.drop 1) 0
theorem majP_step (l : List UInt8) (k : Nat) (n : Int) (h : k < l.length) : majP (l.drop k) n = if isDg (at' l k) = true then majP (l.drop (k + 1)) (10 * n + ((at' l k : Nat) - 48)) else -1 := by
  rw [List.drop_eq_getElem_cons h]
  have e : at' l k = (l[k]).toNat := by unfold at'; rw [List.getD_eq_getElem?_getD, List.getElem?_eq_getElem h]; rfl
  rw [e]
  rfl
theorem index1 (s : ByteArray) (h : 1 < s.size) (w : World) : (Instr.index 9 (.string s) (.int .i64 1)).run Tryz.prog w = .ok (.int .u8 (at' s.data.toList 1 : Int)) w := indexk s 1 h w
end Go.Proofs.YtmgmmbikdmobpaaGreatDoor
