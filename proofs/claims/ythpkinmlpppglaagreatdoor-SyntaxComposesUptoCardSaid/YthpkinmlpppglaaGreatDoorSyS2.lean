/- syntax: what Substitute looks up. -/
import Derived.Test.YthpkinmlpppglaaGreatDoorSyS1
namespace Go.Proofs.YthpkinmlpppglaaGreatDoor
open Go.RowKit Go.Shelf

def findTy (ns : List ByteArray) (ts : Tr) (s : ByteArray) : Option Ty := if idxN ns s < ns.length then ts.els[idxN ns s]? else none
theorem idxN_le (ns : List ByteArray) (s : ByteArray) : idxN ns s ≤ ns.length := by
  induction ns with
  | nil => exact Nat.le_refl _
  | cons x ns ih => rw [idxN]; split <;> simp <;> omega
set_option maxRecDepth 100000 in
set_option maxHeartbeats 2000000 in
theorem subst_find (w0 : World) (ns : List ByteArray) (ts : Tr) (an ta : Option Addr) (cn ct Bn Bt : Nat) (hBn : Boxed w0 Bn 49 (.slice an ns.length cn)) (hBt : Boxed w0 Bt 22 (.slice ta ts.len ct))
    (hN : RowS w0 ns an) (hT : ts = .nil ∨ ∃ b o, ta = some ⟨b, o, none⟩ ∧ Lies w0 ts false b o) (hln : ns.length ≤ 1099511627776) (hlt : ts.len ≤ 1099511627776) :
    FindAt w0 87 #[.pointer (some ⟨Bn, 0, none⟩), .pointer (some ⟨Bt, 0, none⟩)] (findTy ns ts) := by
  intro s W hW
  show Calls Tryz.prog 87 #[.string s, .pointer (some ⟨Bn, 0, none⟩), .pointer (some ⟨Bt, 0, none⟩)] W _
  obtain ⟨W1, hW1⟩ : ∃ W1, W.alloc (.cells #[.int .i64 0, .string ⟨#[]⟩, .string ⟨#[]⟩, .slice none 0 0, .slice none 0 0] 25) = W1 := ⟨_, rfl⟩
  have hb := World.alloc_heap_new W (.cells #[.int .i64 0, .string ⟨#[]⟩, .string ⟨#[]⟩, .slice none 0 0, .slice none 0 0] 25)
  have hB : Below W.heap.size W W1 := by rw [← hW1]; exact (Below.refl _ W).alloc (Nat.le_refl _) _
  rw [hW1] at hb
  have h01 := hW.trans (hB.mono hW.size)
  have HI := hid (index_any w0 ns an cn s W1 hN h01 hln)
  have c5 := old_cell h01 hBn.cell
  have c6 := old_cell h01 hBt.cell
  have HB := hid (And.intro hb (And.intro hB (And.intro h01 hT)))
  clear hb hB h01 hBn hBt hN hW hT
  by_cases hin : idxN ns s < ns.length
  · by_cases hi2 : idxN ns s < ts.len
    · have hidx : idxI ns s = (idxN ns s : Int) := by unfold idxI; rw [if_pos hin]
      have hf : findTy ns ts s = ts.els[idxN ns s]? := by unfold findTy; rw [if_pos hin]
      obtain ⟨b, o, rfl, hL⟩ : ∃ b o, ta = some ⟨b, o, none⟩ ∧ Lies w0 ts false b o := by
        rcases HB.out.2.2.2 with h | h
        · rw [h] at hi2; exact absurd hi2 (Nat.not_lt_zero _)
        · exact h
      obtain ⟨y, hy0, d0, d1, d2, d3, d4⟩ := lies_ty ts b o (idxN ns s) hL hi2
      rw [hidx] at HI
      generalize idxN ns s = i at *
      have HF := hid (And.intro hf hy0)
      replace d0 := old_cell HB.out.2.2.1 d0
      replace d1 := old_cell HB.out.2.2.1 d1
      replace d2 := old_cell HB.out.2.2.1 d2
      replace d3 := old_cell HB.out.2.2.1 d3
      replace d4 := old_cell HB.out.2.2.1 d4
      clear hidx hf hy0 hL
      subst hW1
      go_enter Tryz.func87, Tryz.ntmps87
      go_wp2_with fail
      refine HI.out.mono ?_
      rintro e w' ⟨rfl, rfl⟩
      go_wp2_with fail
      have hb := World.alloc_heap_new W (.cells #[.int .i64 y.t.k, .string y.t.m, .string y.t.n, .slice y.aa y.t.A.len y.ca, .slice y.af y.t.F.len y.cf] 25)
      have hB : Below W.heap.size W (W.alloc (.cells #[.int .i64 y.t.k, .string y.t.m, .string y.t.n, .slice y.aa y.t.A.len y.ca, .slice y.af y.t.F.len y.cf] 25)) := (Below.refl _ W).alloc (Nat.le_refl _) _
      generalize W.alloc (.cells #[.int .i64 y.t.k, .string y.t.m, .string y.t.n, .slice y.aa y.t.A.len y.ca, .slice y.af y.t.F.len y.cf] 25) = W2 at hb hB ⊢
      have c0 := cell_of_row W2 _ 0 _ _ _ hb
      have c1 := cell_of_row W2 _ 1 _ _ _ hb
      have c2 := cell_of_row W2 _ 2 _ _ _ hb
      have c3 := cell_of_row W2 _ 3 _ _ _ hb
      have c4 := cell_of_row W2 _ 4 _ _ _ hb
      refine ⟨rfl, .tuple #[y.v, .bool true], by simp [results, Tryz.results87, go_sem, c0, c1, c2, c3, c4, zeroTy, TyI.v, TyI.cells], hB, .inr ⟨y, by rw [HF.out.1, HF.out.2], rfl⟩⟩
    · have hidx : idxI ns s = (idxN ns s : Int) := by unfold idxI; rw [if_pos hin]
      have hf : findTy ns ts s = none := by unfold findTy; rw [if_pos hin]; exact List.getElem?_eq_none (by rw [Tr.els_len]; omega)
      rw [hidx] at HI
      generalize idxN ns s = i at *
      have HF := hid hf
      clear hidx hf
      subst hW1
      go_enter Tryz.func87, Tryz.ntmps87
      go_wp2_with fail
      refine HI.out.mono ?_
      rintro e w' ⟨rfl, rfl⟩
      go_wp2_with fail
      have hb := World.alloc_heap_new W (.cells #[.int .i64 0, .string ⟨#[]⟩, .string ⟨#[]⟩, .slice none 0 0, .slice none 0 0] 25)
      have hB : Below W.heap.size W (W.alloc (.cells #[.int .i64 0, .string ⟨#[]⟩, .string ⟨#[]⟩, .slice none 0 0, .slice none 0 0] 25)) := (Below.refl _ W).alloc (Nat.le_refl _) _
      generalize W.alloc (.cells #[.int .i64 0, .string ⟨#[]⟩, .string ⟨#[]⟩, .slice none 0 0, .slice none 0 0] 25) = W2 at hb hB ⊢
      have c0 := cell_of_row W2 _ 0 _ _ _ hb
      have c1 := cell_of_row W2 _ 1 _ _ _ hb
      have c2 := cell_of_row W2 _ 2 _ _ _ hb
      have c3 := cell_of_row W2 _ 3 _ _ _ hb
      have c4 := cell_of_row W2 _ 4 _ _ _ hb
      refine ⟨rfl, .tuple #[zeroTy, .bool false], by simp [results, Tryz.results87, go_sem, c0, c1, c2, c3, c4, zeroTy, TyI.v, TyI.cells], hB, .inl ⟨HF.out, rfl⟩⟩
  · have hidx : idxI ns s = -1 := by unfold idxI; rw [if_neg hin]
    have hf : findTy ns ts s = none := by unfold findTy; rw [if_neg hin]
    rw [hidx] at HI
    have HF := hid hf
    clear hidx hf
    subst hW1
    go_enter Tryz.func87, Tryz.ntmps87
    go_wp2_with fail
    refine HI.out.mono ?_
    rintro e w' ⟨rfl, rfl⟩
    go_wp2_with fail
    have hb := World.alloc_heap_new W (.cells #[.int .i64 0, .string ⟨#[]⟩, .string ⟨#[]⟩, .slice none 0 0, .slice none 0 0] 25)
    have hB : Below W.heap.size W (W.alloc (.cells #[.int .i64 0, .string ⟨#[]⟩, .string ⟨#[]⟩, .slice none 0 0, .slice none 0 0] 25)) := (Below.refl _ W).alloc (Nat.le_refl _) _
    generalize W.alloc (.cells #[.int .i64 0, .string ⟨#[]⟩, .string ⟨#[]⟩, .slice none 0 0, .slice none 0 0] 25) = W2 at hb hB ⊢
    have c0 := cell_of_row W2 _ 0 _ _ _ hb
    have c1 := cell_of_row W2 _ 1 _ _ _ hb
    have c2 := cell_of_row W2 _ 2 _ _ _ hb
    have c3 := cell_of_row W2 _ 3 _ _ _ hb
    have c4 := cell_of_row W2 _ 4 _ _ _ hb
    refine ⟨rfl, .tuple #[zeroTy, .bool false], by simp [results, Tryz.results87, go_sem, c0, c1, c2, c3, c4, zeroTy, TyI.v, TyI.cells], hB, .inl ⟨HF.out, rfl⟩⟩
end Go.Proofs.YthpkinmlpppglaaGreatDoor
