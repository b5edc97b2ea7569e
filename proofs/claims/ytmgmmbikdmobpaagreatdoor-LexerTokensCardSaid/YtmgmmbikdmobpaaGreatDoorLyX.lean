/- lexer: the reference's token at a literal. -/
import Derived.Test.YtmgmmbikdmobpaaGreatDoorLyT
import Derived.Test.YtmgmmbikdmobpaaGreatDoorLyW
namespace Go.Proofs.YtmgmmbikdmobpaaGreatDoor
open Go.RowKit

set_option maxRecDepth 100000 in
set_option maxHeartbeats 4000000 in
theorem rtokX_any (s : ByteArray) (w : World) (hs : s.size ≤ 70368744177664) (h0 : 0 < s.size) (hq : fst s.data.toList = 34) :
    Calls Tryz.prog 16 #[.string s] w fun e w' => TkRet (textT s.data.toList) e ∧ Below w.heap.size w w' := by
  have hix := index0 s h0
  rw [hq] at hix
  have HT := hid (fun w => rtext_any s w hs h0)
  have R0 := hid (res_start w)
  clear hq
  generalize textT s.data.toList = X at HT ⊢
  go_enter Tryz.func16, Tryz.ntmps16
  go_wp2_with fail
  generalize w.alloc (.cells #[.int .i64 0, .string ⟨#[]⟩, .int .i64 0] 32) = W at R0 ⊢
  refine (HT.out W).mono ?_
  rintro e W1 ⟨ht, hb⟩
  have ht2 := tk_val ht
  subst ht2
  have R1 := hid (R0.out.later hb)
  clear ht hb
  have f0 := frozen_of_row W1 w.heap.size 0 _ _ R1.out.1
  have f1 := frozen_of_row W1 w.heap.size 1 _ _ R1.out.1
  have f2 := frozen_of_row W1 w.heap.size 2 _ _ R1.out.1
  have c0 := cell_of_row W1 w.heap.size 0 _ _ _ R1.out.1
  have c1 := cell_of_row W1 w.heap.size 1 _ _ _ R1.out.1
  have c2 := cell_of_row W1 w.heap.size 2 _ _ _ R1.out.1
  have g := tk_end R1.out.1 X.k ⟨X.t.toArray⟩
  have KX := hid (And.intro (tk_below R1.out.2.1 X.k ⟨X.t.toArray⟩) g)
  clear g
  go_wp2_with fail
  exact bodyPost_ret (v := .tuple #[.agg #[.int .i64 X.k, .string ⟨X.t.toArray⟩, .int .i64 0], .int .i64 (X.n : Int), .int .i64 X.er]) (by simp [results, Tryz.results16, go_sem, KX.out.2.1, KX.out.2.2.1, KX.out.2.2.2]) rfl ⟨tk_mk X, KX.out.1⟩
end Go.Proofs.YtmgmmbikdmobpaaGreatDoor
