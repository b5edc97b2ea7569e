/- syntax: the iterators over the zero expression. | syntax: the size of the zero expression. | syntax: a module of a path alone: ModuleSize, CheckModule. -/
import Derived.Test.YtjedcijddlilaaaGreatDoorSyC
import Derived.Maps.OwnIn
namespace Go.Proofs.YtjedcijddlilaaaGreatDoor
open Go.RowKit Go.Shelf
attribute [local go_sem] Oper.semAt_some

/-- slices.Values of no expressions yields nothing. -/
theorem kids0_seq (w : World) (B : Nat) (hB : Boxed w B 27 (.slice none 0 0)) (X : Nat → Prop) :
    SeqB Tryz.prog 159 #[.pointer (some ⟨B, 0, none⟩)] (fun _ : Unit => #[.agg #[.int .i64 0, .string ⟨#[]⟩, .string ⟨#[]⟩, .string ⟨#[]⟩, .int .i64 0, .slice none 0 0, .slice none 0 0, .slice none 0 0]]) X (fun xs => xs = []) (fun xs => xs = []) w := by
  intro n l J Jx W hb hJ hJx hY h0
  have c0 := Boxed.cell (t := 27) (show Boxed W B _ _ from (hb.block _ hB.lt).trans hB)
  have H0 := hid h0
  clear hb hJ hJx hY h0 hB
  refine callsIn_of_wp Tryz.func159 rfl trivial ?_ rfl
  simp only [Tryz.ntmps159, List.size_toArray, List.length_cons, List.length_nil, Nat.reduceAdd, Nat.reduceSub, Array.replicate_succ, Array.replicate_zero, List.push_toArray, List.append_toArray, List.nil_append, List.cons_append]
  gi_wp2_with fail
  gi_loopw [7] (fun a wr => a = .int .i64 0 ∧ wr = W) (fun _ _ => 0)
  case atStart => exact ⟨rfl, rfl⟩
  case round =>
    obtain ⟨rfl, rfl⟩ := hrel
    gi_wp2_with fail
    go_end0
    exact ⟨⟨_, rfl⟩, .inl ⟨[], rfl, H0.out⟩⟩
theorem exprKids0 (w : World) : Calls Tryz.prog 54 #[.agg #[.int .i64 0, .string ⟨#[]⟩, .string ⟨#[]⟩, .string ⟨#[]⟩, .int .i64 0, .slice none 0 0, .slice none 0 0, .slice none 0 0]] w
    fun e w' => e = .returned (.func (.func 159) #[] #[.pointer (some ⟨w.heap.size + 1, 0, none⟩)]) ∧ w' = (w.alloc (.cells #[.int .i64 0, .string ⟨#[]⟩, .string ⟨#[]⟩, .string ⟨#[]⟩, .int .i64 0, .slice none 0 0, .slice none 0 0, .slice none 0 0] 29)).alloc (.cells #[.slice none 0 0] 27) := by
  have HV : Kpt (∀ w, Calls Tryz.prog 102 #[.slice none 0 0] w fun e w' => e = .returned (.func (.func 159) #[] #[.pointer (some ⟨w.heap.size, 0, none⟩)]) ∧ w' = w.alloc (.cells #[.slice none 0 0] 27)) := hid fun w => by
    go_enter Tryz.func102, Tryz.ntmps102
    go_wp2_with fail
    go_ret
    exact ⟨rfl, rfl⟩
  go_enter Tryz.func54, Tryz.ntmps54
  go_wp2_with fail
  refine (HV.out _).mono ?_
  rintro e w' ⟨rfl, rfl⟩
  go_wp2_with fail
  go_ret
  exact ⟨by simp, rfl⟩
theorem preorder0 (w : World) : Calls Tryz.prog 103 #[.agg #[.int .i64 0, .string ⟨#[]⟩, .string ⟨#[]⟩, .string ⟨#[]⟩, .int .i64 0, .slice none 0 0, .slice none 0 0, .slice none 0 0], .func (.func 54) #[] #[]] w
    fun e w' => e = .returned (.func (.func 160) #[] #[.pointer (some ⟨w.heap.size, 0, none⟩), .pointer (some ⟨w.heap.size + 1, 0, none⟩)]) ∧
      w' = (w.alloc (.cells #[.int .i64 0, .string ⟨#[]⟩, .string ⟨#[]⟩, .string ⟨#[]⟩, .int .i64 0, .slice none 0 0, .slice none 0 0, .slice none 0 0] 29)).alloc (.cells #[.func (.func 54) #[] #[]] 82) := by
  go_enter Tryz.func103, Tryz.ntmps103
  go_wp2_with fail
  go_ret
  exact ⟨rfl, rfl⟩
theorem exprNodes0 (w : World) : Calls Tryz.prog 55 #[.agg #[.int .i64 0, .string ⟨#[]⟩, .string ⟨#[]⟩, .string ⟨#[]⟩, .int .i64 0, .slice none 0 0, .slice none 0 0, .slice none 0 0]] w
    fun e w' => e = .returned (.func (.func 160) #[] #[.pointer (some ⟨w.heap.size + 1, 0, none⟩), .pointer (some ⟨w.heap.size + 2, 0, none⟩)]) ∧
      w' = ((w.alloc (.cells #[.int .i64 0, .string ⟨#[]⟩, .string ⟨#[]⟩, .string ⟨#[]⟩, .int .i64 0, .slice none 0 0, .slice none 0 0, .slice none 0 0] 29)).alloc (.cells #[.int .i64 0, .string ⟨#[]⟩, .string ⟨#[]⟩, .string ⟨#[]⟩, .int .i64 0, .slice none 0 0, .slice none 0 0, .slice none 0 0] 29)).alloc (.cells #[.func (.func 54) #[] #[]] 82) := by
  have HP := hid preorder0
  go_enter Tryz.func55, Tryz.ntmps55
  go_wp2_with fail
  refine (HP.out _).mono ?_
  rintro e w' ⟨rfl, rfl⟩
  go_wp2_with fail
  go_ret
  exact ⟨by simp, by simp⟩

set_option maxRecDepth 100000 in
set_option maxHeartbeats 4000000 in
theorem visit0_in (l b : Nat) (X : Nat → Prop) (hX : ∀ i, X i → i < b) (V : List Unit → Prop) (J Jx : List Unit → World → Prop) (hJ : Stab b J) (hJx : Stab b Jx)
    (hY : ∀ m pre y W1, J pre W1 → V (pre ++ [y]) → YieldAt Fence.wide m Tryz.prog l #[.agg #[.int .i64 0, .string ⟨#[]⟩, .string ⟨#[]⟩, .string ⟨#[]⟩, .int .i64 0, .slice none 0 0, .slice none 0 0, .slice none 0 0]] W1 fun e W' => (e = .returned (.bool true) ∧ J (pre ++ [y]) W' ∧ KeepX X W1 W') ∨ (e = .returned (.bool false) ∧ Jx (pre ++ [y]) W' ∧ KeepX (· < b) W1 W'))
    (n : Nat) (pre : List Unit) (W : World) (hbW : b ≤ W.heap.size) (hJ0 : J pre W) (hv1 : V (pre ++ [()])) :
      CallsIn Fence.wide n Tryz.prog 161 #[.agg #[.int .i64 0, .string ⟨#[]⟩, .string ⟨#[]⟩, .string ⟨#[]⟩, .int .i64 0, .slice none 0 0, .slice none 0 0, .slice none 0 0], .func (.func 54) #[] #[], .func (.yield l) #[] #[]] W fun e W' =>
        (e = .returned (.bool true) ∧ J (pre ++ [()]) W' ∧ KeepX X W W') ∨
        (e = .returned (.bool false) ∧ Jx (pre ++ [()]) W' ∧ KeepX (· < b) W W') := by
  have HX := hid hX
  have HJ := hid (And.intro hJ hJx)
  have HT := hid exprKids0
  obtain ⟨W4, hW4⟩ : ∃ W4, (((W.alloc (.cells #[.int .i64 0, .string ⟨#[]⟩, .string ⟨#[]⟩, .string ⟨#[]⟩, .int .i64 0, .slice none 0 0, .slice none 0 0, .slice none 0 0] 29)).alloc (.cells #[.func (.func 54) #[] #[]] 82)).alloc (.cells #[.func (.yield l) #[] #[]] 127)).alloc (.cells #[.bool false] 4) = W4 := ⟨_, rfl⟩
  have hB4 : Below W.heap.size W W4 := by
    rw [← hW4]; exact ((((Below.refl _ W).alloc (Nat.le_refl _) _).alloc (by simp) _).alloc (by simp; omega) _).alloc (by simp; omega) _
  have hs4 : W4.heap.size = W.heap.size + 4 := by rw [← hW4]; simp
  have b0 : W4.heap[W.heap.size]? = some (.cells #[.int .i64 0, .string ⟨#[]⟩, .string ⟨#[]⟩, .string ⟨#[]⟩, .int .i64 0, .slice none 0 0, .slice none 0 0, .slice none 0 0] 29 (0, 0)) := by
    rw [← hW4]; exact ((Below.heap_alloc _ _ _ (by simp; omega)).trans ((Below.heap_alloc _ _ _ (by simp; omega)).trans ((Below.heap_alloc _ _ _ (by simp)).trans (World.alloc_heap_new W _))))
  have b1 : Boxed W4 (W.heap.size + 1) 82 (.func (.func 54) #[] #[]) := by
    rw [← hW4]; have h := ((Boxed.new (W.alloc (.cells #[.int .i64 0, .string ⟨#[]⟩, .string ⟨#[]⟩, .string ⟨#[]⟩, .int .i64 0, .slice none 0 0, .slice none 0 0, .slice none 0 0] 29)) 82 (.func (.func 54) #[] #[])).alloc (.cells #[.func (.yield l) #[] #[]] 127)).alloc (.cells #[.bool false] 4)
    simpa only [World.size_alloc] using h
  have b2 : Boxed W4 (W.heap.size + 1 + 1) 127 (.func (.yield l) #[] #[]) := by
    rw [← hW4]; have h := (Boxed.new ((W.alloc (.cells #[.int .i64 0, .string ⟨#[]⟩, .string ⟨#[]⟩, .string ⟨#[]⟩, .int .i64 0, .slice none 0 0, .slice none 0 0, .slice none 0 0] 29)).alloc (.cells #[.func (.func 54) #[] #[]] 82)) 127 (.func (.yield l) #[] #[])).alloc (.cells #[.bool false] 4)
    simpa only [World.size_alloc] using h
  have b3 : Boxed W4 (W.heap.size + 1 + 1 + 1) 4 (.bool false) := by
    rw [← hW4]; have h := Boxed.new (((W.alloc (.cells #[.int .i64 0, .string ⟨#[]⟩, .string ⟨#[]⟩, .string ⟨#[]⟩, .int .i64 0, .slice none 0 0, .slice none 0 0, .slice none 0 0] 29)).alloc (.cells #[.func (.func 54) #[] #[]] 82)).alloc (.cells #[.func (.yield l) #[] #[]] 127)) 4 (.bool false)
    simpa only [World.size_alloc] using h
  have hJ4 : J pre W4 := hJ _ _ _ hJ0 (hB4.mono hbW)
  obtain ⟨fn, tmps, assign, body, hyy, hR⟩ := hY (n - 1) pre () W4 hJ4 hv1
  have HR := hid hR
  have H4 := hid (And.intro hB4 (And.intro hs4 (And.intro hJ0 hJ4)))
  clear hR hB4 hs4 hJ4 hv1 hY hJ hJx hX
  have nX : ∀ j, W.heap.size ≤ j → ¬ X j := fun j hj hx => by have := HX.out j hx; omega
  have HN := hid nX
  clear nX
  have B0 := hid b0
  have B1 := hid b1
  have B2 := hid b2
  have B3 := hid b3
  clear b0 b1 b2 b3
  refine callsIn_of_wp_marks Tryz.func161 rfl trivial ?_ rfl
  simp only [Tryz.ntmps161, List.size_toArray, List.length_cons, List.length_nil, Nat.reduceAdd, Nat.reduceSub, Array.replicate_succ, Array.replicate_zero, List.push_toArray, List.append_toArray, List.nil_append, List.cons_append]
  have c0 := cell_of_row W4 W.heap.size 0 _ _ _ B0.out
  have c1 := cell_of_row W4 W.heap.size 1 _ _ _ B0.out
  have c2 := cell_of_row W4 W.heap.size 2 _ _ _ B0.out
  have c3 := cell_of_row W4 W.heap.size 3 _ _ _ B0.out
  have c4 := cell_of_row W4 W.heap.size 4 _ _ _ B0.out
  have c40 := cell_of_row W4 W.heap.size 5 _ _ _ B0.out
  have c41 := cell_of_row W4 W.heap.size 6 _ _ _ B0.out
  have c42 := cell_of_row W4 W.heap.size 7 _ _ _ B0.out
  have c5 := B2.out.cell
  have c6 := B3.out.cell
  have c7 := B3.out.frozen
  gi_wp2_with fail
  clear hW4 c0 c1 c2 c3 c4 c40 c41 c42 c5 c6 c7
  refine ⟨fun h => (by cases h), HR.out.mono ?_⟩
  rintro e W5 (⟨rfl, hJ5, hk5⟩ | ⟨rfl, hJx5, hk5⟩)
  · have k5 := hid (And.intro hJ5 hk5)
    have c0 := hk5.cell (HN.out _ (Nat.le_refl _)) (cell_of_row W4 W.heap.size 0 _ _ _ B0.out)
    have c1 := hk5.cell (HN.out _ (Nat.le_refl _)) (cell_of_row W4 W.heap.size 1 _ _ _ B0.out)
    have c2 := hk5.cell (HN.out _ (Nat.le_refl _)) (cell_of_row W4 W.heap.size 2 _ _ _ B0.out)
    have c3 := hk5.cell (HN.out _ (Nat.le_refl _)) (cell_of_row W4 W.heap.size 3 _ _ _ B0.out)
    have c4 := hk5.cell (HN.out _ (Nat.le_refl _)) (cell_of_row W4 W.heap.size 4 _ _ _ B0.out)
    have c40 := hk5.cell (HN.out _ (Nat.le_refl _)) (cell_of_row W4 W.heap.size 5 _ _ _ B0.out)
    have c41 := hk5.cell (HN.out _ (Nat.le_refl _)) (cell_of_row W4 W.heap.size 6 _ _ _ B0.out)
    have c42 := hk5.cell (HN.out _ (Nat.le_refl _)) (cell_of_row W4 W.heap.size 7 _ _ _ B0.out)
    have c5 := hk5.cell (HN.out _ (Nat.le_add_right _ 1)) B1.out.cell
    clear hJ5 hk5 hyy hJ0
    gi_wp2_with fail
    refine ⟨trivial, fun h => (by cases h), callsIn_wide.2 ((HT.out W5).mono ?_)⟩
    rintro e W6 ⟨rfl, hW6'⟩
    have HW6 := hid hW6'
    clear hW6'
    gi_wp2_with fail
    have hW6 := HW6.out
    have hB6 : Below W5.heap.size W5 W6 := by rw [hW6]; exact ((Below.refl _ W5).alloc (Nat.le_refl _) _).alloc (by simp) _
    have hs6 : W6.heap.size = W5.heap.size + 2 := by rw [hW6]; simp
    have x6 : Boxed W6 (W5.heap.size + 1) 27 (.slice none 0 0) := by rw [hW6]; have h := Boxed.new (W5.alloc (.cells #[.int .i64 0, .string ⟨#[]⟩, .string ⟨#[]⟩, .string ⟨#[]⟩, .int .i64 0, .slice none 0 0, .slice none 0 0, .slice none 0 0] 29)) 27 (.slice none 0 0); simpa only [World.size_alloc] using h
    clear hW6
    have hs5 := k5.out.2.1
    have hs4 := H4.out.2.1
    have n3 : ∀ j, W.heap.size ≤ j → j < W4.heap.size → W6.heap[j]? = W4.heap[j]? := fun j h1 h2 => (hB6.block j (by omega)).trans (k5.out.2.2 j h2 (HN.out j h1))
    have d3 : Boxed W6 _ _ _ := (n3 (W.heap.size + 1 + 1 + 1) (by omega) (by omega)).trans B3.out
    have kW6 : KeepX X W W6 := (KeepX.of_below H4.out.1).trans (k5.out.2.trans (KeepX.of_below hB6))
    have hJ6 : J (pre ++ [()]) W6 := HJ.out.1 _ _ _ k5.out.1 (hB6.mono (by omega))
    have HQ := hid (And.intro hB6 (And.intro hs6 (And.intro x6 (And.intro hs5 (And.intro hs4 (And.intro d3 (And.intro kW6 hJ6)))))))
    clear hB6 hs6 x6 hs5 hs4 n3 d3 kW6 hJ6 c0 c1 c2 c3 c4 c40 c41 c42 c5
    have hs6 : W6.heap.size = W5.heap.size + 2 := HQ.out.2.1
    have hs46 : W.heap.size + 4 ≤ W5.heap.size := by have h1 := HQ.out.2.2.2.1; have h2 := HQ.out.2.2.2.2.1; omega
    refine range_box 7 29 (fun _ : Unit => #[.int .i64 0, .string ⟨#[]⟩, .string ⟨#[]⟩, .string ⟨#[]⟩, .int .i64 0, .slice none 0 0, .slice none 0 0, .slice none 0 0]) (gf := 159) (lb := #[.pointer (some ⟨W5.heap.size + 1, 0, none⟩)]) rfl (enters_of Tryz.func159 (by kernel_rfl) rfl)
      (kids0_seq W6 (W5.heap.size + 1) HQ.out.2.2.1 X) (fun i hi => by have := HX.out i hi; omega) (Below.refl _ _) (fun _ => rfl)
      (fun pre' W' => J (pre ++ [()]) W' ∧ KeepX X W6 W')
      (fun c pre' W' => False)
      ?hI ?hIx ⟨HQ.out.2.2.2.2.2.2.2, KeepX.refl _ _⟩ ?assign ?body ?done ?stop
    case hI =>
      intro s' A B' hs hb
      exact ⟨HJ.out.1 _ _ _ hs.1 (hb.mono (by omega)), keep_stab (Nat.le_refl _) hs.2 hb⟩
    case hIx =>
      intro c s' A B' hs hb
      exact hs
    case assign =>
      intro m l' y W'
      gi_wp2_with fail
      exact ⟨trivial, by simp⟩
    case body =>
      rintro m l' Bx pre' y W7 hl hlB hwB hBW hbx hr h1 hv
      simp at hv
    case done =>
      rintro D xs W9 hD hS ⟨hJ9, hk9⟩ hK
      have f9 : Boxed W9 (W.heap.size + 1 + 1 + 1) 4 (.bool false) := (hk9.2 _ (by omega) (HN.out _ (by omega))).trans HQ.out.2.2.2.2.2.1
      have g0 := f9.cell
      have g1 := f9.frozen
      have hDb : D ≠ W.heap.size + 1 + 1 + 1 := by omega
      have HG := hid (And.intro hJ9 (And.intro hk9 (And.intro f9 hK)))
      clear hS hJ9 hk9 f9 hK
      gi_wp2_with fail
      have hK1 : (W9.setCell ⟨W.heap.size + 1 + 1 + 1, 0, none⟩ (.bool true)).heap[D]? = some (.deferred (some [])) := ((KeepX.set W9 _ _).2 D (Array.getElem?_eq_some_iff.1 HG.out.2.2.2).1 hDb).trans HG.out.2.2.2
      have hf : Boxed (W9.setCell ⟨W.heap.size + 1 + 1 + 1, 0, none⟩ (.bool true)) (W.heap.size + 1 + 1 + 1) 4 (.bool true) := HG.out.2.2.1.set _
      have hB9 : Below (W.heap.size + 1 + 1 + 1) W9 ((W9.setCell ⟨W.heap.size + 1 + 1 + 1, 0, none⟩ (.bool true)).putObj D (.deferred none)) := (below_set W9 _ (Nat.le_refl _)).trans (below_put (by omega) hK1)
      refine ⟨by simp, .inl ⟨_, _, rfl, run_takeDeferred hK1, ?_⟩⟩
      have m0 : ((W9.setCell ⟨W.heap.size + 1 + 1 + 1, 0, none⟩ (.bool true)).putObj D (.deferred none)).cell? ⟨W.heap.size + 1 + 1 + 1, 0, none⟩ = some (.bool true) := Boxed.cell (t := 4) ((World.putObj_heap_other (fun e => hDb e.symm)).trans hf)
      generalize (W9.setCell ⟨W.heap.size + 1 + 1 + 1, 0, none⟩ (.bool true)).putObj D (.deferred none) = W10 at m0 hB9 ⊢
      refine ⟨.bool true, by simp [results, Tryz.results161, go_sem, m0], .inl ⟨rfl, HJ.out.1 _ _ _ HG.out.1 (hB9.mono (by omega)), ?_⟩⟩
      have hk := HQ.out.2.2.2.2.2.2.1.trans HG.out.2.1
      exact ⟨Nat.le_trans hk.1 hB9.size, fun i hi hx => (hB9.block i (by omega)).trans (hk.2 i hi hx)⟩
    case stop =>
      rintro D c pre' W9 hD hv hx hK
      exact hx.elim
  · have f5 : Boxed W5 (W.heap.size + 1 + 1 + 1) 4 (.bool false) := (hk5.2 _ (by have := H4.out.2.1; omega) (by omega)).trans B3.out
    have g0 := f5.cell
    have g1 := f5.frozen
    have HG := hid (And.intro hJx5 (And.intro hk5 f5))
    clear hJx5 hk5 f5 hyy hJ0
    gi_wp2_with fail
    have hB5 : Below (W.heap.size + 1 + 1 + 1) W5 (W5.setCell ⟨W.heap.size + 1 + 1 + 1, 0, none⟩ (.bool false)) := below_set W5 _ (Nat.le_refl _)
    have m0 := (HG.out.2.2.set (.bool false)).cell
    generalize W5.setCell ⟨W.heap.size + 1 + 1 + 1, 0, none⟩ (.bool false) = W9 at hB5 m0 ⊢
    refine ⟨.bool false, by simp [results, Tryz.results161, go_sem, m0], .inr ⟨rfl, HJ.out.2 _ _ _ HG.out.1 (hB5.mono (by omega)), ?_⟩⟩
    have hk5 := HG.out.2.1
    have h4 := H4.out.1
    have h44 := H4.out.2.1
    exact ⟨Nat.le_trans h4.size (Nat.le_trans hk5.1 hB5.size), fun i hi hx => by rw [hB5.block i (by omega), hk5.2 i (by omega) hx, h4.block i hi]⟩

/-- The nodes of the zero expression: itself alone. -/
theorem nodes0_seq (B1 B2 : Nat) (w : World) (h1 : w.heap[B1]? = some (.cells #[.int .i64 0, .string ⟨#[]⟩, .string ⟨#[]⟩, .string ⟨#[]⟩, .int .i64 0, .slice none 0 0, .slice none 0 0, .slice none 0 0] 29 (0, 0)))
    (h2 : Boxed w B2 82 (.func (.func 54) #[] #[])) (X : Nat → Prop) (hX : ∀ i, X i → i < w.heap.size) :
    SeqB Tryz.prog 160 #[.pointer (some ⟨B1, 0, none⟩), .pointer (some ⟨B2, 0, none⟩)] (fun _ : Unit => #[.agg #[.int .i64 0, .string ⟨#[]⟩, .string ⟨#[]⟩, .string ⟨#[]⟩, .int .i64 0, .slice none 0 0, .slice none 0 0, .slice none 0 0]]) X (fun ys => ys = [()]) (fun ys => ys = [()]) w := by
  intro n l J Jx W hb hJ hJx hY h0
  have hB1 : B1 < w.heap.size := (Array.getElem?_eq_some_iff.1 h1).1
  have hs := hb.size
  have HC := hid (visit0_in l W.heap.size X (fun i hi => Nat.lt_of_lt_of_le (hX i hi) hs) (fun ys => ys = [()]) J Jx hJ hJx hY (n - 1) [] W (Nat.le_refl _) h0 rfl)
  have k1 := (hb.block B1 hB1).trans h1
  have k2 : Boxed W _ _ _ := (hb.block B2 h2.lt).trans h2
  have c0 := cell_of_row W B1 0 _ _ _ k1
  have c1 := cell_of_row W B1 1 _ _ _ k1
  have c2 := cell_of_row W B1 2 _ _ _ k1
  have c3 := cell_of_row W B1 3 _ _ _ k1
  have c4 := cell_of_row W B1 4 _ _ _ k1
  have c40 := cell_of_row W B1 5 _ _ _ k1
  have c41 := cell_of_row W B1 6 _ _ _ k1
  have c42 := cell_of_row W B1 7 _ _ _ k1
  have c5 := k2.cell
  clear h1 h2 hX hb hJ hJx hY h0 hB1 hs k1 k2
  refine callsIn_of_wp Tryz.func160 rfl trivial ?_ rfl
  simp only [Tryz.ntmps160, List.size_toArray, List.length_cons, List.length_nil, Nat.reduceAdd, Nat.reduceSub, Array.replicate_succ, Array.replicate_zero, List.push_toArray, List.append_toArray, List.nil_append, List.cons_append]
  gi_wp2_with fail
  refine ⟨trivial, fun h => (by cases h), HC.out.mono ?_⟩
  rintro e W3 (⟨rfl, hJ3, _⟩ | ⟨rfl, hJ3, _⟩)
  · gi_wp2_with fail
    go_end0
    exact ⟨⟨_, rfl⟩, .inl ⟨[()], rfl, hJ3⟩⟩
  · gi_wp2_with fail
    go_end0
    exact ⟨⟨_, rfl⟩, .inr ⟨[()], rfl, hJ3⟩⟩
end Go.Proofs.YtjedcijddlilaaaGreatDoor

namespace Go.Proofs.YtjedcijddlilaaaGreatDoor
open Go.RowKit Go.Shelf
attribute [local go_sem] Oper.semAt_some

theorem types0_seq (w : World) (B : Nat) (hB : w.heap[B]? = some (.cells #[.int .i64 0, .string ⟨#[]⟩, .string ⟨#[]⟩, .string ⟨#[]⟩, .int .i64 0, .slice none 0 0, .slice none 0 0, .slice none 0 0] 29 (0, 0))) (X : Nat → Prop) :
    SeqB Tryz.prog 158 #[.pointer (some ⟨B, 0, none⟩)] (fun _ : Unit => #[.agg #[.int .i64 0, .string ⟨#[]⟩, .string ⟨#[]⟩, .slice none 0 0, .slice none 0 0]]) X (fun xs => xs = []) (fun xs => xs = []) w := by
  intro n l J Jx W hb hJ hJx hY h0
  have k1 := (hb.block B (Array.getElem?_eq_some_iff.1 hB).1).trans hB
  have c0 := cell_of_row W B 0 _ _ _ k1
  have c5 := cell_of_row W B 5 _ _ _ k1
  have H0 := hid h0
  clear hb hJ hJx hY h0 hB k1
  refine callsIn_of_wp Tryz.func158 rfl trivial ?_ rfl
  simp only [Tryz.ntmps158, List.size_toArray, List.length_cons, List.length_nil, Nat.reduceAdd, Nat.reduceSub, Array.replicate_succ, Array.replicate_zero, List.push_toArray, List.append_toArray, List.nil_append, List.cons_append]
  gi_wp2_with fail
  gi_loopw [10] (fun a wr => a = .int .i64 0 ∧ wr = W) (fun _ _ => 0)
  case atStart => exact ⟨rfl, rfl⟩
  case round =>
    obtain ⟨rfl, rfl⟩ := hrel
    gi_wp2_with fail
    refine bodyPost_ret (results_none rfl _ _ _) rfl ?_
    exact ⟨⟨_, rfl⟩, .inl ⟨[], rfl, H0.out⟩⟩
theorem exprTypes0 (w : World) : Calls Tryz.prog 101 #[.agg #[.int .i64 0, .string ⟨#[]⟩, .string ⟨#[]⟩, .string ⟨#[]⟩, .int .i64 0, .slice none 0 0, .slice none 0 0, .slice none 0 0]] w
    fun e w' => e = .returned (.func (.func 158) #[] #[.pointer (some ⟨w.heap.size, 0, none⟩)]) ∧ w' = w.alloc (.cells #[.int .i64 0, .string ⟨#[]⟩, .string ⟨#[]⟩, .string ⟨#[]⟩, .int .i64 0, .slice none 0 0, .slice none 0 0, .slice none 0 0] 29) := by
  go_enter Tryz.func101, Tryz.ntmps101
  go_wp2_with fail
  go_ret
  exact ⟨rfl, rfl⟩

set_option maxRecDepth 100000 in
set_option maxHeartbeats 4000000 in
theorem exprSize0_any (most : Int) (w : World) (hm : 1 ≤ most ∧ most ≤ 9223372036854775807) :
    Calls Tryz.prog 52 #[.agg #[.int .i64 0, .string ⟨#[]⟩, .string ⟨#[]⟩, .string ⟨#[]⟩, .int .i64 0, .slice none 0 0, .slice none 0 0, .slice none 0 0], .int .i64 most] w fun e w' => e = .returned (.int .i64 1) ∧ Below w.heap.size w w' := by
  have HN := hid exprNodes0
  have HT := hid exprTypes0
  refine (callsIn_wide (n := 9)).1 ?_
  refine callsIn_of_wp_marks Tryz.func52 rfl trivial ?_ rfl
  simp only [Tryz.ntmps52, List.size_toArray, List.length_cons, List.length_nil, Nat.reduceAdd, Nat.reduceSub, Array.replicate_succ, Array.replicate_zero, List.push_toArray, List.append_toArray, List.nil_append, List.cons_append]
  gi_wp2_with fail
  refine ⟨trivial, callsIn_wide.2 ((HN.out _).mono ?_)⟩
  rintro e W6 ⟨rfl, hW6'⟩
  simp only [World.size_alloc] at hW6' ⊢
  have HW6 := hid hW6'
  clear hW6'
  gi_wp2_with fail
  have hW6 := HW6.out
  clear HW6
  have b0 : Boxed W6 (w.heap.size + 1) 3 (.int .i64 most) := by
    rw [hW6]; have h := ((((Boxed.new (w.alloc (.cells #[.int .i64 0, .string ⟨#[]⟩, .string ⟨#[]⟩, .string ⟨#[]⟩, .int .i64 0, .slice none 0 0, .slice none 0 0, .slice none 0 0] 29)) 3 (.int .i64 most)).alloc (.cells #[.int .i64 0] 3)).alloc (.cells #[.int .i64 0, .string ⟨#[]⟩, .string ⟨#[]⟩, .string ⟨#[]⟩, .int .i64 0, .slice none 0 0, .slice none 0 0, .slice none 0 0] 29)).alloc (.cells #[.int .i64 0, .string ⟨#[]⟩, .string ⟨#[]⟩, .string ⟨#[]⟩, .int .i64 0, .slice none 0 0, .slice none 0 0, .slice none 0 0] 29)).alloc (.cells #[.func (.func 54) #[] #[]] 82)
    simpa only [World.size_alloc] using h
  have b1 : Boxed W6 (w.heap.size + 1 + 1) 3 (.int .i64 0) := by
    rw [hW6]; have h := (((Boxed.new ((w.alloc (.cells #[.int .i64 0, .string ⟨#[]⟩, .string ⟨#[]⟩, .string ⟨#[]⟩, .int .i64 0, .slice none 0 0, .slice none 0 0, .slice none 0 0] 29)).alloc (.cells #[.int .i64 most] 3)) 3 (.int .i64 0)).alloc (.cells #[.int .i64 0, .string ⟨#[]⟩, .string ⟨#[]⟩, .string ⟨#[]⟩, .int .i64 0, .slice none 0 0, .slice none 0 0, .slice none 0 0] 29)).alloc (.cells #[.int .i64 0, .string ⟨#[]⟩, .string ⟨#[]⟩, .string ⟨#[]⟩, .int .i64 0, .slice none 0 0, .slice none 0 0, .slice none 0 0] 29)).alloc (.cells #[.func (.func 54) #[] #[]] 82)
    simpa only [World.size_alloc] using h
  have b2 : W6.heap[w.heap.size + 1 + 1 + 1 + 1]? = some (.cells #[.int .i64 0, .string ⟨#[]⟩, .string ⟨#[]⟩, .string ⟨#[]⟩, .int .i64 0, .slice none 0 0, .slice none 0 0, .slice none 0 0] 29 (0, 0)) := by
    rw [hW6]
    refine (Below.heap_alloc _ _ _ (by simp)).trans ?_
    have h := World.alloc_heap_new ((((w.alloc (.cells #[.int .i64 0, .string ⟨#[]⟩, .string ⟨#[]⟩, .string ⟨#[]⟩, .int .i64 0, .slice none 0 0, .slice none 0 0, .slice none 0 0] 29)).alloc (.cells #[.int .i64 most] 3)).alloc (.cells #[.int .i64 0] 3)).alloc (.cells #[.int .i64 0, .string ⟨#[]⟩, .string ⟨#[]⟩, .string ⟨#[]⟩, .int .i64 0, .slice none 0 0, .slice none 0 0, .slice none 0 0] 29)) (.cells #[.int .i64 0, .string ⟨#[]⟩, .string ⟨#[]⟩, .string ⟨#[]⟩, .int .i64 0, .slice none 0 0, .slice none 0 0, .slice none 0 0] 29)
    simpa only [World.size_alloc] using h
  have b3 : Boxed W6 (w.heap.size + 1 + 1 + 1 + 2) 82 (.func (.func 54) #[] #[]) := by
    rw [hW6]; have h := Boxed.new (((((w.alloc (.cells #[.int .i64 0, .string ⟨#[]⟩, .string ⟨#[]⟩, .string ⟨#[]⟩, .int .i64 0, .slice none 0 0, .slice none 0 0, .slice none 0 0] 29)).alloc (.cells #[.int .i64 most] 3)).alloc (.cells #[.int .i64 0] 3)).alloc (.cells #[.int .i64 0, .string ⟨#[]⟩, .string ⟨#[]⟩, .string ⟨#[]⟩, .int .i64 0, .slice none 0 0, .slice none 0 0, .slice none 0 0] 29)).alloc (.cells #[.int .i64 0, .string ⟨#[]⟩, .string ⟨#[]⟩, .string ⟨#[]⟩, .int .i64 0, .slice none 0 0, .slice none 0 0, .slice none 0 0] 29)) 82 (.func (.func 54) #[] #[])
    simpa only [World.size_alloc] using h
  have hsz : W6.heap.size = w.heap.size + 6 := by rw [hW6]; simp
  have hB : Below w.heap.size w W6 := by
    rw [hW6]; exact ((((((Below.refl _ w).alloc (Nat.le_refl _) _).alloc (by simp) _).alloc (by simp; omega) _).alloc (by simp; omega) _).alloc (by simp; omega) _).alloc (by simp; omega) _
  clear hW6
  refine range_box 6 29 (fun _ : Unit => #[.int .i64 0, .string ⟨#[]⟩, .string ⟨#[]⟩, .string ⟨#[]⟩, .int .i64 0, .slice none 0 0, .slice none 0 0, .slice none 0 0]) (gf := 160) (lb := #[.pointer (some ⟨w.heap.size + 1 + 1 + 1 + 1, 0, none⟩), .pointer (some ⟨w.heap.size + 1 + 1 + 1 + 2, 0, none⟩)]) rfl (enters_of Tryz.func160 (by kernel_rfl) rfl)
    (nodes0_seq (w.heap.size + 1 + 1 + 1 + 1) (w.heap.size + 1 + 1 + 1 + 2) W6 b2 b3 (fun i => i = w.heap.size + 1 + 1) (fun i hi => by omega))
    (fun i hi => by omega) (Below.refl _ _) (fun _ => rfl)
    (fun pre W => Boxed W (w.heap.size + 1 + 1) 3 (.int .i64 (pre.length : Int)) ∧ Boxed W (w.heap.size + 1) 3 (.int .i64 most) ∧ Below w.heap.size w W)
    (fun c pre W => False)
    ?hI ?hIx ⟨b1, b0, hB⟩ ?assign ?body ?done ?stop
  case hI =>
    intro s A B hs hb
    exact ⟨(hb.block _ (by omega)).trans hs.1, (hb.block _ (by omega)).trans hs.2.1, hs.2.2.trans (hb.mono (by omega))⟩
  case hIx =>
    intro c s A B hs hb
    exact hs
  case assign =>
    intro m l' y W'
    gi_wp2_with fail
    exact ⟨trivial, by simp⟩
  case body =>
    rintro m l' Bx pre y W7 hl hlB hwB hBW hbx ⟨r, hr⟩ ⟨h1, h2, h3⟩ hv
    have hpre : pre = [] := by cases pre with | nil => rfl | cons a t => simp at hv
    subst hpre
    have e0 := cell_of_row W7 Bx 0 _ _ _ hbx
    have e1 := cell_of_row W7 Bx 1 _ _ _ hbx
    have e2 := cell_of_row W7 Bx 2 _ _ _ hbx
    have e3 := cell_of_row W7 Bx 3 _ _ _ hbx
    have e4 := cell_of_row W7 Bx 4 _ _ _ hbx
    have e5 := cell_of_row W7 Bx 5 _ _ _ hbx
    have e6 := cell_of_row W7 Bx 6 _ _ _ hbx
    have e7 := cell_of_row W7 Bx 7 _ _ _ hbx
    have c0 : W7.cell? ⟨w.heap.size + 1 + 1, 0, none⟩ = some (.int .i64 0) := h1.cell
    have c1 := h1.frozen
    obtain ⟨W8, hW8⟩ : ∃ W8, W7.setCell ⟨w.heap.size + 1 + 1, 0, none⟩ (.int .i64 1) = W8 := ⟨_, rfl⟩
    have hk8 : KeepX (fun i => i = w.heap.size + 1 + 1) W7 W8 := by rw [← hW8]; exact KeepX.set W7 _ _
    have hb8 : Below (w.heap.size + 1) W7 W8 := by rw [← hW8]; exact below_set W7 _ (by omega)
    have h18 : Boxed W8 (w.heap.size + 1 + 1) 3 (.int .i64 1) := by rw [← hW8]; exact h1.set _
    have h28 : Boxed W8 (w.heap.size + 1) 3 (.int .i64 most) := by rw [← hW8]; exact h2.other (by omega) _
    have hx8 : W8.heap[Bx]? = _ := (hk8.2 Bx hBW (by omega)).trans hbx
    have hr8 : W8.heap[l']? = some (.loop r) := (hk8.2 l' (by omega) (by omega)).trans hr
    have f0 := cell_of_row W8 Bx 0 _ _ _ hx8
    have f1 := cell_of_row W8 Bx 1 _ _ _ hx8
    have f2 := cell_of_row W8 Bx 2 _ _ _ hx8
    have f3 := cell_of_row W8 Bx 3 _ _ _ hx8
    have f4 := cell_of_row W8 Bx 4 _ _ _ hx8
    have f5 := cell_of_row W8 Bx 5 _ _ _ hx8
    have f6 := cell_of_row W8 Bx 6 _ _ _ hx8
    have f7 := cell_of_row W8 Bx 7 _ _ _ hx8
    have hs8 := hk8.1
    have HZ := hid (And.intro h3 (And.intro hk8 (And.intro hb8 (And.intro h18 (And.intro h28 (And.intro hx8 hr8))))))
    clear h1 h2 h3 hv hbx hk8 hb8 h18 h28 hx8 hr8 hr
    gi_wp2_with fail
    refine ⟨trivial, fun h => (by cases h), CallsIn.inRound l' (callsIn_wide.2 ((HT.out _).mono ?_))⟩
    rintro e W9 ⟨rfl, hW9'⟩
    have HW9 := hid hW9'
    clear hW9'
    gi_wp2_with fail
    have hW9 := HW9.out
    have hb9 : Below W8.heap.size W8 W9 := by rw [hW9]; exact (Below.refl _ W8).alloc (Nat.le_refl _) _
    have hx9 : W9.heap[W8.heap.size]? = some (.cells #[.int .i64 0, .string ⟨#[]⟩, .string ⟨#[]⟩, .string ⟨#[]⟩, .int .i64 0, .slice none 0 0, .slice none 0 0, .slice none 0 0] 29 (0, 0)) := by rw [hW9]; exact World.alloc_heap_new _ _
    have hs9 := hb9.size
    have hr9 : W9.heap[l']? = some (.loop r) := (hb9.block l' (by omega)).trans HZ.out.2.2.2.2.2.2
    have h19 : Boxed W9 (w.heap.size + 1 + 1) 3 (.int .i64 1) := (hb9.block _ (by omega)).trans HZ.out.2.2.2.1
    have h29 : Boxed W9 (w.heap.size + 1) 3 (.int .i64 most) := (hb9.block _ (by omega)).trans HZ.out.2.2.2.2.1
    clear HW9 hW9
    have H9 := hid (And.intro hb9 (And.intro h19 h29))
    clear e0 e1 e2 e3 e4 e5 e6 e7 f0 f1 f2 f3 f4 f5 f6 f7 c0 c1
    refine range_core (F := Fence.wide.inRound l') (W1 := W9) (l := W9.heap.size) (mark := []) (.inr ⟨l', rfl⟩) (gf := 158) (lb := #[.pointer (some ⟨W8.heap.size, 0, none⟩)]) rfl (enters_of Tryz.func158 (by kernel_rfl) rfl)
      (fun fn => run_enterLoop_inner hr9 _ _ _ _ _) (Below.refl _ _) rfl (types0_seq W9 W8.heap.size hx9 (fun _ => False)) (fun i hi => hi.elim) (Below.refl _ _) (fun _ => rfl)
      (fun _ W' => Below W9.heap.size W9 W') (fun _ _ _ => False) ?hI2 ?hIx2 (Below.refl _ _) (fun _ _ _ _ => True) ?assign2 ?body2 ?done2 ?stop2
    case hI2 => intro s A B hs hb; exact hs.trans (hb.mono (Nat.le_refl _))
    case hIx2 => intro c s A B hs hb; exact hs
    case assign2 =>
      intro m2 l2 pre2 x2 W2 _ _ _
      gi_wp2_with fail
      exact ⟨(Below.refl _ _).alloc (Nat.le_refl _) _, trivial⟩
    case body2 =>
      intro m2 l2 pre2 x2 a2 W2 Wa Wb _ _ _ _ _ _ _ hv2
      simp at hv2
    case stop2 => intro c2 pre2 W2 _ h _; exact h.elim
    case done2 =>
      intro xs2 W10 _ hb10 _
      have g1 : Boxed W10 _ _ _ := (hb10.block _ (by omega)).trans H9.out.2.1
      have g2 : Boxed W10 _ _ _ := (hb10.block _ (by omega)).trans H9.out.2.2
      have g3 := g1.cell
      have g4 := g2.cell
      have H10 := hid (And.intro hb10 (And.intro g1 g2))
      clear hb10 g1 g2
      have hlt : ¬ most < 1 := by omega
      gi_wp2_with fail
      have hk10 : KeepX (fun i => i = w.heap.size + 1 + 1) W7 W10 := HZ.out.2.1.trans ((KeepX.of_below H9.out.1).trans (KeepX.of_below H10.out.1))
      exact ⟨hk10, H10.out.2.1, H10.out.2.2, HZ.out.1.trans ((HZ.out.2.2.1.mono (by omega)).trans ((H9.out.1.mono (by omega)).trans (H10.out.1.mono (by omega))))⟩
  case done =>
    rintro D ys W9 hD hS ⟨h1, h2, h3⟩ hK
    subst hS
    have c0 : W9.cell? ⟨w.heap.size + 1 + 1, 0, none⟩ = some (.int .i64 1) := h1.cell
    have HB := hid (And.intro h3 hK)
    clear h1 h2 h3 hK
    gi_wp2_with fail
    refine ⟨by simp, .inl ⟨_, _, rfl, run_takeDeferred HB.out.2, ?_⟩⟩
    exact ⟨_, results_tmp rfl _ _ _, rfl, HB.out.1.trans (below_put (by omega) HB.out.2)⟩
  case stop =>
    rintro D c pre W hD hv h hK
    exact h.elim
set_option maxRecDepth 100000 in
theorem ExprSize0_any (w : World) : Calls Tryz.prog 37 #[.agg #[.int .i64 0, .string ⟨#[]⟩, .string ⟨#[]⟩, .string ⟨#[]⟩, .int .i64 0, .slice none 0 0, .slice none 0 0, .slice none 0 0]] w fun e w' => e = .returned (.int .i64 1) ∧ Below w.heap.size w w' := by
  have HS := hid (fun w => exprSize0_any 9223372036854775807 w (by omega))
  obtain ⟨wa, hwa⟩ : ∃ wa, w.alloc (.cells #[.int .i64 0, .string ⟨#[]⟩, .string ⟨#[]⟩, .string ⟨#[]⟩, .int .i64 0, .slice none 0 0, .slice none 0 0, .slice none 0 0] 29) = wa := ⟨_, rfl⟩
  have hba : Below w.heap.size w wa := by rw [← hwa]; exact (Below.refl _ w).alloc (Nat.le_refl _) _
  have HB := hid hba
  clear hba
  have hea : wa.heap[w.heap.size]? = some (.cells #[.int .i64 0, .string ⟨#[]⟩, .string ⟨#[]⟩, .string ⟨#[]⟩, .int .i64 0, .slice none 0 0, .slice none 0 0, .slice none 0 0] 29 (0, 0)) := by rw [← hwa]; exact World.alloc_heap_new _ _
  have e0 := cell_of_row wa _ 0 _ _ _ hea
  have e1 := cell_of_row wa _ 1 _ _ _ hea
  have e2 := cell_of_row wa _ 2 _ _ _ hea
  have e3 := cell_of_row wa _ 3 _ _ _ hea
  have e4 := cell_of_row wa _ 4 _ _ _ hea
  have e5 := cell_of_row wa _ 5 _ _ _ hea
  have e6 := cell_of_row wa _ 6 _ _ _ hea
  have e7 := cell_of_row wa _ 7 _ _ _ hea
  clear hea
  go_enter Tryz.func37, Tryz.ntmps37
  go_wp2_with fail
  refine (HS.out _).mono ?_
  rintro e w' ⟨rfl, hb⟩
  have H2 := hid hb
  clear hb
  go_wp2_with fail
  go_ret
  exact ⟨rfl, HB.out.trans (H2.out.mono HB.out.size)⟩
end Go.Proofs.YtjedcijddlilaaaGreatDoor

namespace Go.Proofs.YtjedcijddlilaaaGreatDoor
open Go.RowKit Go.Shelf Go.Maps
attribute [local go_sem] Oper.semAt_some

set_option maxRecDepth 100000 in
set_option maxHeartbeats 2000000 in
theorem modSize0_any (p : ByteArray) (most : Int) (w : World) : Calls Tryz.prog 83 #[.agg #[.string p, .slice none 0 0, .slice none 0 0], .int .i64 most] w fun e w' => e = .returned (.int .i64 1) ∧ Below w.heap.size w w' := by
  obtain ⟨w4, hw4⟩ : ∃ w4, (((w.alloc (.cells #[.string p, .slice none 0 0, .slice none 0 0] 33)).alloc (.cells #[.int .i64 most] 3)).alloc (.cells #[.int .i64 0] 3)).alloc (.cells #[.int .i64 1] 3) = w4 := ⟨_, rfl⟩
  have hb4 : RowKit.Below w.heap.size w w4 := by rw [← hw4]; exact ((((Below.refl _ w).alloc (Nat.le_refl _) _).alloc (by simp) _).alloc (by simp; omega) _).alloc (by simp; omega) _
  have b0 : w4.heap[w.heap.size]? = some (.cells #[.string p, .slice none 0 0, .slice none 0 0] 33 (0, 0)) := by
    rw [← hw4]; exact (Below.heap_alloc _ _ _ (by simp; omega)).trans ((Below.heap_alloc _ _ _ (by simp; omega)).trans ((Below.heap_alloc _ _ _ (by simp)).trans (World.alloc_heap_new w _)))
  have b2 : Boxed w4 (w.heap.size + 1 + 1) 3 (.int .i64 0) := by
    rw [← hw4]; have h := (Boxed.new ((w.alloc (.cells #[.string p, .slice none 0 0, .slice none 0 0] 33)).alloc (.cells #[.int .i64 most] 3)) 3 (.int .i64 0)).alloc (.cells #[.int .i64 1] 3); simpa only [World.size_alloc] using h
  have b3 : Boxed w4 (w.heap.size + 1 + 1 + 1) 3 (.int .i64 1) := by
    rw [← hw4]; have h := Boxed.new (((w.alloc (.cells #[.string p, .slice none 0 0, .slice none 0 0] 33)).alloc (.cells #[.int .i64 most] 3)).alloc (.cells #[.int .i64 0] 3)) 3 (.int .i64 1); simpa only [World.size_alloc] using h
  have k2 := cell_of_row w4 _ 2 _ _ _ b0
  have k5 := b2.cell
  have k6 := b2.frozen
  have k7 := b3.cell
  have HB := hid (And.intro hb4 b2)
  clear hb4 b0 b2 b3
  go_enter Tryz.func83, Tryz.ntmps83
  go_wp2_with fail
  clear hw4
  go_loopw [16] (fun a wr => a = .int .i64 0 ∧ wr = w4) (fun _ _ => 0)
  case atStart => exact ⟨rfl, rfl⟩
  case round =>
    obtain ⟨rfl, rfl⟩ := hrel
    go_wp2_with fail
    have m0 := (HB.out.2.set (.int .i64 1)).cell
    refine ⟨rfl, .int .i64 1, by simp [results, go_sem, Tryz.results83, m0], rfl, HB.out.1.trans (below_set wr _ (by omega))⟩
set_option maxRecDepth 100000 in
set_option maxHeartbeats 2000000 in
theorem checkHead0_any (p : ByteArray) (w : World) (hE : Env w) (hp : pathB p.data.toList = true) : Calls Tryz.prog 42 #[.agg #[.string p, .slice none 0 0, .slice none 0 0]] w fun e w' => e = .returned (.int .i64 0) ∧ Below w.heap.size w w' := by
  have HM := hid (fun w => modSize0_any p 4096 w)
  obtain ⟨wa, hwa⟩ : ∃ wa, w.alloc (.cells #[.string p, .slice none 0 0, .slice none 0 0] 33) = wa := ⟨_, rfl⟩
  have hba : Below w.heap.size w wa := by rw [← hwa]; exact (Below.refl _ w).alloc (Nat.le_refl _) _
  have hea : wa.heap[w.heap.size]? = some (.cells #[.string p, .slice none 0 0, .slice none 0 0] 33 (0, 0)) := by rw [← hwa]; exact World.alloc_heap_new _ _
  have k0 := cell_of_row wa _ 0 _ _ _ hea
  have k1 := cell_of_row wa _ 1 _ _ _ hea
  have k2 := cell_of_row wa _ 2 _ _ _ hea
  have hpa := ispath_any p wa (hE.below hba)
  rw [hp] at hpa
  have HP := hid hpa
  have HB := hid hba
  clear hba hea hpa hE hp
  have hmm := @run_makeMap Tryz.prog
  go_enter Tryz.func42, Tryz.ntmps42
  go_wp2_with fail
  refine HP.out.mono ?_
  rintro e w2 ⟨rfl, hb2⟩
  have k0 := old_cell hb2 k0
  have k1 := old_cell hb2 k1
  have k2 := old_cell hb2 k2
  have H2 := hid hb2
  clear hb2
  go_wp2_with fail
  refine (HM.out _).mono ?_
  rintro e w3 ⟨rfl, hb3⟩
  have k0 := old_cell hb3 k0
  have k1 := old_cell hb3 k1
  have k2 := old_cell hb3 k2
  obtain ⟨wm, hwm⟩ : ∃ wm, (w3.alloc (.map #[] 0)).alloc (.map #[] 0) = wm := ⟨_, rfl⟩
  have hbm : RowKit.Below w3.heap.size w3 wm := by rw [← hwm]; exact ((Below.refl _ w3).alloc (Nat.le_refl _) _).alloc (by simp) _
  have n1 := old_cell hbm k1
  have H3 := hid (And.intro hb3 hbm)
  clear hb3 hbm
  go_wp2_with fail
  clear hwm
  go_loopw [31] (fun a wr => a = .int .i64 0 ∧ wr = wm) (fun _ _ => 0)
  case atStart => exact ⟨rfl, rfl⟩
  case round =>
    obtain ⟨rfl, rfl⟩ := hrel
    go_wp2_with fail
    go_ret
    exact ⟨rfl, HB.out.trans ((H2.out.trans ((H3.out.1.trans (H3.out.2.mono H3.out.1.size)).mono H2.out.size)).mono HB.out.size)⟩
set_option maxRecDepth 100000 in
set_option maxHeartbeats 2000000 in
theorem CheckModule0_any (p : ByteArray) (w : World) (hE : Env w) (hp : pathB p.data.toList = true) : Calls Tryz.prog 10 #[.agg #[.string p, .slice none 0 0, .slice none 0 0]] w fun e w' => e = .returned (.tuple #[.int .i64 0, .int .i64 0]) ∧ Below w.heap.size w w' := by
  have HH := hid (fun w hE => checkHead0_any p w hE hp)
  obtain ⟨wa, hwa⟩ : ∃ wa, w.alloc (.cells #[.string p, .slice none 0 0, .slice none 0 0] 33) = wa := ⟨_, rfl⟩
  have hba : Below w.heap.size w wa := by rw [← hwa]; exact (Below.refl _ w).alloc (Nat.le_refl _) _
  have hea : wa.heap[w.heap.size]? = some (.cells #[.string p, .slice none 0 0, .slice none 0 0] 33 (0, 0)) := by rw [← hwa]; exact World.alloc_heap_new _ _
  have k0 := cell_of_row wa _ 0 _ _ _ hea
  have k1 := cell_of_row wa _ 1 _ _ _ hea
  have k2 := cell_of_row wa _ 2 _ _ _ hea
  have HC := hid (HH.out wa (hE.below hba))
  have HB := hid hba
  clear hba hea hE hp HH
  have hmm := @run_makeMap Tryz.prog
  go_enter Tryz.func10, Tryz.ntmps10
  go_wp2_with fail
  refine HC.out.mono ?_
  rintro e w2 ⟨rfl, hb2⟩
  have k2 := old_cell hb2 k2
  obtain ⟨wm, hwm⟩ : ∃ wm, w2.alloc (.map #[] 0) = wm := ⟨_, rfl⟩
  have hbm : RowKit.Below w2.heap.size w2 wm := by rw [← hwm]; exact (Below.refl _ w2).alloc (Nat.le_refl _) _
  have n2 := old_cell hbm k2
  have H2 := hid (And.intro hb2 hbm)
  clear hb2 hbm
  go_wp2_with fail
  clear hwm
  go_loopw [18] (fun a wr => a = .int .i64 0 ∧ wr = wm) (fun _ _ => 0)
  case atStart => exact ⟨rfl, rfl⟩
  case round =>
    obtain ⟨rfl, rfl⟩ := hrel
    go_wp2_with fail
    go_ret2
    exact ⟨rfl, HB.out.trans ((H2.out.1.trans (H2.out.2.mono H2.out.1.size)).mono HB.out.size)⟩
set_option maxRecDepth 100000 in
theorem ModuleSize0_any (p : ByteArray) (w : World) : Calls Tryz.prog 38 #[.agg #[.string p, .slice none 0 0, .slice none 0 0]] w fun e w' => e = .returned (.int .i64 1) ∧ Below w.heap.size w w' := by
  have HM := hid (fun w => modSize0_any p 9223372036854775807 w)
  obtain ⟨wa, hwa⟩ : ∃ wa, w.alloc (.cells #[.string p, .slice none 0 0, .slice none 0 0] 33) = wa := ⟨_, rfl⟩
  have hba : Below w.heap.size w wa := by rw [← hwa]; exact (Below.refl _ w).alloc (Nat.le_refl _) _
  have hea : wa.heap[w.heap.size]? = some (.cells #[.string p, .slice none 0 0, .slice none 0 0] 33 (0, 0)) := by rw [← hwa]; exact World.alloc_heap_new _ _
  have k0 := cell_of_row wa _ 0 _ _ _ hea
  have k1 := cell_of_row wa _ 1 _ _ _ hea
  have k2 := cell_of_row wa _ 2 _ _ _ hea
  have HB := hid hba
  clear hba hea
  go_enter Tryz.func38, Tryz.ntmps38
  go_wp2_with fail
  refine (HM.out _).mono ?_
  rintro e w' ⟨rfl, hb⟩
  have H2 := hid hb
  clear hb
  go_wp2_with fail
  go_ret
  exact ⟨rfl, HB.out.trans (H2.out.mono HB.out.size)⟩
end Go.Proofs.YtjedcijddlilaaaGreatDoor
