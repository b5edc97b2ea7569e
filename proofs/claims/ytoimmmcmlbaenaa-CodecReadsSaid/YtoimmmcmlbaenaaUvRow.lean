/- codec: the function that adds a number's bytes writes its own row alone. -/
import Derived.Test.YtoimmmcmlbaenaaUv
namespace Go.Proofs.Ytoimmmcmlbaenaa
open Go.RowKit

/-- From w to wr there are new blocks, and writes into v's row alone; t's row is v's, or a new one. -/
def RowOf (w : World) (v t : Value) (wr : World) : Prop := w.grownBy wr v.ownBlock ∧ (t.ownBlock = v.ownBlock ∨ ∀ g, t.ownBlock = some g → w.heap.size ≤ g)
theorem RowOf_start (w : World) (v : Value) : RowOf w v v w := ⟨World.grownBy.refl _ _, Or.inl rfl⟩
theorem RowOf_next {w wr w3 : World} {v t t' : Value} {o : Obj} (h : RowOf w v t wr) (hg : (wr.alloc o).grownBy w3 t.ownBlock) (hat : t'.ownBlock = t.ownBlock ∨ t'.ownBlock = some (wr.alloc o).heap.size) : RowOf w v t' w3 := by
  obtain ⟨h1, h2⟩ := h
  have h3 : w.grownBy (wr.alloc o) v.ownBlock := gb_alloc h1 o
  refine ⟨⟨hg.os.trans h3.os, hg.tape.trans h3.tape, hg.output.trans h3.output, Nat.le_trans h3.size hg.size, fun i hi hne => ?_⟩, ?_⟩
  · refine (hg.block i (Nat.lt_of_lt_of_le hi h3.size) ?_).trans (h3.block i hi hne)
    rcases h2 with h2 | h2
    · rw [h2]; exact hne
    · intro e
      have := h2 i e.symm
      omega
  · rcases hat with hat | hat
    · rw [hat]; exact h2
    · right
      intro g hg'
      rw [hat] at hg'
      injection hg' with e
      have := h3.size
      omega

set_option maxRecDepth 100000 in
set_option maxHeartbeats 1000000 in
theorem number1_row (n : Nat) (p : Addr) (B : Nat) (v : Value) (l : List UInt8) (w : World) (hn : n < 18446744073709551616) (hp : w.cell? p = some (.int .u64 (n : Int))) (ho : OwnB w B v l) (hB : B ≤ w.heap.size) (hl : l.length ≤ 70368744177664) :
    Calls Try.prog 50 #[v, .pointer (some p)] w
      fun e w' => (∃ v', e = .returned v' ∧ OwnB w' B v' (l ++ uvL n) ∧ RowOf w v v' w') ∧ Below B w w' := by
  obtain ⟨i0, hi, hz0, hz1, hz2⟩ := info_parts infoU8
  have hten := uvL_ten n hn
  have HO := hid (And.intro ho hB)
  clear ho hB
  go_enter Try.func50, Try.ntmps50
  go_wp2_with fail
  go_loopw [0, 4] (fun t g wr => ∃ (m : Nat) (d : List UInt8), g = .int .u64 (m : Int) ∧ m < 18446744073709551616 ∧ d ++ uvL m = uvL n ∧ OwnB wr B t (l ++ d) ∧ Below B w wr ∧ RowOf w v t wr) (fun _ g _ => (intOf g).toNat)
  case atStart => exact ⟨n, [], rfl, hn, rfl, by simpa using HO.out.1, Below.refl _ _, RowOf_start w v⟩
  case round =>
    obtain ⟨m, d, rfl, hm, hd, ho, hb, hr⟩ := hrel
    have hdl : d.length + (uvL m).length ≤ 10 := by have h := congrArg List.length hd; rw [List.length_append] at h; omega
    have KR := hid hr
    have KO := hid (And.intro ho (And.intro hb (And.intro hd (Nat.le_trans HO.out.2 hb.size))))
    clear ho hb hd hp hr
    by_cases hlt : m < 128
    · have hcs := last_byte m hlt
      rw [uvL_less m hlt] at hdl
      have hlen : (l ++ d).length + 1 ≤ 140737488355328 := by rw [List.length_append]; simp at hdl; omega
      go_wp2_with (at_builtin; refine wpList_append_own_at _ rfl _ _ 52 rfl B 5 i0 (.int .u8 0) 1 1 Try.underlying52 hi hz0 hz1 hz2 rfl (by decide) _ _ _ rfl (World.ownsRow.alloc KO.out.1 _) ⟨wr.heap.size, 0, none⟩ 1 1 _ rfl rfl (cell_one_new _ _ _) (fun x hx => by simp at hx; subst hx; rfl) (by unfold maxLen; omega) (by omega) (alloc_le KO.out.2.2.2 _) ?_; intro v' w3 hown' hgrow3 hnil3 hat3)
      have hcs2 : ((m : Int) % 256) = ((UInt8.ofNat m).toNat : Int) := by rw [← hcs, IntKind.wrap_u8]
      have hb2 : Below B w w3 := Below.grown (KO.out.2.1.alloc KO.out.2.2.2 _) hgrow3 (alloc_le KO.out.2.2.2 _) (own_base KO.out.1)
      go_ret
      refine ⟨⟨_, rfl, ?_, RowOf_next KR.out hgrow3 hat3⟩, hb2⟩
      have e1 : l ++ uvL n = (l ++ d) ++ [UInt8.ofNat m] := by rw [← KO.out.2.2.1, uvL_less m hlt, List.append_assoc]
      rw [e1]
      rw [hcs2] at hown'
      exact OwnB_snoc hown'
    · have hcs := mark_byte m
      rw [uvL_more m hlt, List.length_cons] at hdl
      have hlen : (l ++ d).length + 1 ≤ 140737488355328 := by rw [List.length_append]; omega
      go_wp2_with (at_builtin; refine wpList_append_own_at _ rfl _ _ 52 rfl B 5 i0 (.int .u8 0) 1 1 Try.underlying52 hi hz0 hz1 hz2 rfl (by decide) _ _ _ rfl (World.ownsRow.alloc KO.out.1 _) ⟨wr.heap.size, 0, none⟩ 1 1 _ rfl rfl (cell_one_new _ _ _) (fun x hx => by simp at hx; subst hx; rfl) (by unfold maxLen; omega) (by omega) (alloc_le KO.out.2.2.2 _) ?_; intro v' w3 hown' hgrow3 hnil3 hat3)
      have hcs2 : bits .or .u8 ((m : Int) % 256) 128 = ((UInt8.ofNat (m % 128 + 128)).toNat : Int) := by rw [← hcs, IntKind.wrap_u8]
      have hb2 : Below B w w3 := Below.grown (KO.out.2.1.alloc KO.out.2.2.2 _) hgrow3 (alloc_le KO.out.2.2.2 _) (own_base KO.out.1)
      rw [hcs2] at hown'
      refine ⟨⟨m / 128, d ++ [UInt8.ofNat (m % 128 + 128)], by go_num, by omega, ?_, ?_, hb2, RowOf_next KR.out hgrow3 hat3⟩, by simp [intOf]; omega⟩
      · rw [← KO.out.2.2.1, uvL_more m hlt, List.append_assoc]; rfl
      · rw [← List.append_assoc]; exact OwnB_snoc hown'

theorem RowOf_apart {w w' : World} {v v' : Value} {p : Addr} (h : RowOf w v v' w') (hp : p.block < w.heap.size) (hne : some p.block ≠ v.ownBlock) : some p.block ≠ v'.ownBlock := by
  rcases h.2 with h2 | h2
  · rw [h2]; exact hne
  · intro e
    have := h2 _ e.symm
    omega
end Go.Proofs.Ytoimmmcmlbaenaa
