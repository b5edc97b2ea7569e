/- lexer: the iterator's contract. -/
import Derived.Test.YtmgmmbikdmobpaaGreatDoorLxTk1
namespace Go.Proofs.YtmgmmbikdmobpaaGreatDoor
open Go.RowKit

theorem tokens_stops (n : Nat) (hn : 1 ≤ n) (s : ByteArray) (hs : s.size ≤ 70368744177664) (B : Nat) (w : World) (hb : Boxed w B 9 (.string s)) :
    SeqStopsK Fence.wide n Tryz.prog 24 #[.pointer (some ⟨B, 0, none⟩)] TkY.enc (KeepB B) (fun ys => ys = allT s.data.toList) (fun pre => pre <+: allT s.data.toList) (allT s.data.toList).length w := fun l J Jx W hW hJ _ hY h0 =>
  tokens1_in n hn s hs B l J Jx W ((hW.block B hb.lt).trans hb) hJ hY h0
end Go.Proofs.YtmgmmbikdmobpaaGreatDoor
