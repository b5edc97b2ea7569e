/- lexer: symbol. -/
import Derived.Test.YtmgmmbikdmobpaaGreatDoorLxT
import Derived.Test.YtmgmmbikdmobpaaGreatDoorArr
namespace Go.Proofs.YtmgmmbikdmobpaaGreatDoor
open Go.RowKit

/-- The symbols, the longer ones first. -/
def symL : List (List UInt8) := [[61, 61, 61], [58, 58], [62, 58], [60, 58], [61, 62], [61, 61], [43, 43], [40], [41], [91], [93], [123], [125], [60], [62], [44], [58], [61], [46], [43], [45], [42], [124], [63], [47]]
def symF : List (List UInt8) → List UInt8 → Tk
  | [], _ => .err 3
  | y :: r, l => if Lib.hasPrefix l y = true then .tok 6 y y.length else symF r l
def symT (l : List UInt8) : Tk := symF symL l
theorem symF_drop (k : Nat) (hk : k < 25) (l : List UInt8) : symF (symL.drop k) l = if Lib.hasPrefix l (symL.getD k []) = true then .tok 6 (symL.getD k []) (symL.getD k []).length else symF (symL.drop (k + 1)) l := by
  have hl : k < symL.length := hk
  rw [List.drop_eq_getElem_cons hl, symF]
  have e : symL.getD k [] = symL[k] := by simp [List.getD, hl]
  rw [e]
/-- The symbols as the cells of an array hold them. -/
def SC : Array Value := (symL.map fun y => Value.string ⟨y.toArray⟩).toArray
theorem SC_one : SC.all (·.oneCell') = true := by decide +kernel
theorem sym_index (k : Nat) (hk : k < 25) (w : World) : (Instr.index 72 (.agg SC) (.int .i64 (k : Int))).run Tryz.prog w = .ok (.string ⟨(symL.getD k []).toArray⟩) w := by
  have h : k = 0 ∨ k = 1 ∨ k = 2 ∨ k = 3 ∨ k = 4 ∨ k = 5 ∨ k = 6 ∨ k = 7 ∨ k = 8 ∨ k = 9 ∨ k = 10 ∨ k = 11 ∨ k = 12 ∨ k = 13 ∨ k = 14 ∨ k = 15 ∨ k = 16 ∨ k = 17 ∨ k = 18 ∨ k = 19 ∨ k = 20 ∨ k = 21 ∨ k = 22 ∨ k = 23 ∨ k = 24 := by omega
  rcases h with rfl | rfl | rfl | rfl | rfl | rfl | rfl | rfl | rfl | rfl | rfl | rfl | rfl | rfl | rfl | rfl | rfl | rfl | rfl | rfl | rfl | rfl | rfl | rfl | rfl <;> exact (show _ = _ by kernel_rfl)

set_option maxRecDepth 100000 in
set_option maxHeartbeats 4000000 in
theorem lsymbol_any (s : ByteArray) (w : World) :
    Calls Tryz.prog 58 #[.string s] w fun e w' => TkRet (symT s.data.toList) e ∧ Below w.heap.size w w' := by
  go_enter Tryz.func58, Tryz.ntmps58
  go_wp2_with (first
    | (with_reducible refine wpList_run_build rfl _ _ rfl (.agg SC) (by kernel_rfl) ?_)
    | (with_reducible refine wpList_store_row rfl 72 _ _ rfl (w.heap.size + 1) SC rfl rfl 72 _ (heap_alloc_new' _ _ _ (by simp)) (by kernel_rfl) (by kernel_rfl) SC_one ?_)
    | (with_reducible refine wpList_load_row rfl 72 _ rfl (w.heap.size + 1) rfl 72 SC (0, 0) _ (setRow_heap _ _ _ _ _ _ (heap_alloc_new' _ _ _ (by simp))) Tryz.underlying72 rfl (by kernel_rfl) ?_))
  rw [alloc_setRow' _ _ _ _ _ (by simp)]
  have hres : ((w.alloc (.cells #[.int .i64 0, .string ⟨#[]⟩, .int .i64 0] 32)).alloc (.cells SC 72)).heap[w.heap.size]? = some (.cells #[.int .i64 0, .string ⟨#[]⟩, .int .i64 0] 32 (0, 0)) :=
    (heap_alloc_old _ _ (by simp)).trans (heap_alloc_new w _)
  have hb := ((Below.refl w.heap.size w).alloc (Nat.le_refl _) (.cells #[.int .i64 0, .string ⟨#[]⟩, .int .i64 0] 32)).alloc (alloc_le (Nat.le_refl _) _) (.cells SC 72)
  generalize (w.alloc (.cells #[.int .i64 0, .string ⟨#[]⟩, .int .i64 0] 32)).alloc (.cells SC 72) = W at hres hb ⊢
  have f0 := frozen_of_row W w.heap.size 0 _ _ hres
  have f1 := frozen_of_row W w.heap.size 1 _ _ hres
  have f2 := frozen_of_row W w.heap.size 2 _ _ hres
  have c0 := cell_of_row W w.heap.size 0 _ _ _ hres
  have c1 := cell_of_row W w.heap.size 1 _ _ _ hres
  have c2 := cell_of_row W w.heap.size 2 _ _ _ hres
  have HB := hid (And.intro hres hb)
  clear hres hb
  go_loopw [10] (fun i wr => ∃ k : Nat, k ≤ 25 ∧ i = .int .i64 (k : Int) ∧ symT s.data.toList = symF (symL.drop k) s.data.toList ∧ wr = W) (fun i _ => 25 - (intOf i).toNat)
  case atStart => exact ⟨0, by omega, rfl, rfl, rfl⟩
  case round =>
    obtain ⟨k, hk, rfl, hs, rfl⟩ := hrel
    by_cases hlt : k < 25
    · have hix := sym_index k hlt
      rw [symF_drop k hlt] at hs
      have hp := Tryz.strings_HasPrefix s ⟨(symL.getD k []).toArray⟩
      rw [mk_list] at hp
      generalize symL.getD k [] = y at hix hs hp
      cases q : Lib.hasPrefix s.data.toList y with
      | true =>
        rw [q] at hs hp
        obtain ⟨g0, g1, g2⟩ := tk_end HB.out.1 6 ⟨y.toArray⟩
        have KX := hid (And.intro hs (And.intro hp (And.intro (tk_below HB.out.2 6 ⟨y.toArray⟩) (And.intro g0 (And.intro g1 g2)))))
        clear hs hp q g0 g1 g2
        go_wp2_with fail
        refine (KX.out.2.1 _).mono ?_
        rintro e w2 ⟨rfl, rfl⟩
        go_wp2_with fail
        exact bodyPost_ret (v := .tuple #[.agg #[.int .i64 6, .string ⟨y.toArray⟩, .int .i64 0], .int .i64 ((ByteArray.mk y.toArray).size : Int), .int .i64 0]) (by simp [results, Tryz.results58, go_sem, KX.out.2.2.2.1, KX.out.2.2.2.2.1, KX.out.2.2.2.2.2]) rfl ⟨by rw [KX.out.1, mk_size]; rfl, KX.out.2.2.1⟩
      | false =>
        rw [q, if_neg (by decide)] at hs
        rw [q] at hp
        have KX := hid (And.intro hs hp)
        clear hs hp q
        go_wp2_with fail
        refine (KX.out.2 _).mono ?_
        rintro e w2 ⟨rfl, rfl⟩
        go_wp2_with fail
        go_roundw
        case rel => exact ⟨k + 1, by omega, by go_num, KX.out.1, trivial⟩
        case measure => simp [intOf]; omega
    · obtain rfl : k = 25 := by omega
      obtain ⟨g0, g1, g2⟩ := tk_end HB.out.1 0 ⟨#[]⟩
      have KX := hid (And.intro hs (And.intro (tk_below HB.out.2 0 ⟨#[]⟩) (And.intro g0 (And.intro g1 g2))))
      clear hs g0 g1 g2
      go_wp2_with fail
      exact bodyPost_ret (v := .tuple #[.agg #[.int .i64 0, .string ⟨#[]⟩, .int .i64 0], .int .i64 0, .int .i64 3]) (by simp [results, Tryz.results58, go_sem, KX.out.2.2.1, KX.out.2.2.2.1, KX.out.2.2.2.2]) rfl ⟨by rw [KX.out.1]; rfl, KX.out.2.1⟩
end Go.Proofs.YtmgmmbikdmobpaaGreatDoor
