/- syntax: visit, and the iterator over the nodes of a type. -/
import Derived.Test.YtjedcijddlilaaaGreatDoorSyI
namespace Go.Proofs.YtjedcijddlilaaaGreatDoor
open Go.RowKit Go.Shelf
attribute [local go_sem] Oper.semAt_some

theorem typeParts_any {w0 : World} (x : TyI w0) (w : World) : Calls Tryz.prog 79 #[x.v] w
    fun e w' => e = .returned (.func (.func 138) #[] #[.pointer (some ⟨w.heap.size, 0, none⟩)]) ∧ w' = w.alloc (.cells x.cells 25) := by
  obtain ⟨t, aa, ca, af, cf, hk, hA, hF⟩ := x
  simp only [TyI.v, TyI.cells]
  clear hA hF hk
  go_enter Tryz.func79, Tryz.ntmps79
  go_wp2_with fail
  go_ret
  exact ⟨rfl, rfl⟩
theorem preorder_any {w0 : World} (x : TyI w0) (w : World) : Calls Tryz.prog 94 #[x.v, .func (.func 79) #[] #[]] w
    fun e w' => e = .returned (.func (.func 154) #[] #[.pointer (some ⟨w.heap.size, 0, none⟩), .pointer (some ⟨w.heap.size + 1, 0, none⟩)]) ∧
      w' = (w.alloc (.cells x.cells 25)).alloc (.cells #[.func (.func 79) #[] #[]] 79) := by
  obtain ⟨t, aa, ca, af, cf, hk, hA, hF⟩ := x
  simp only [TyI.v, TyI.cells]
  clear hA hF hk
  go_enter Tryz.func94, Tryz.ntmps94
  go_wp2_with fail
  go_ret
  exact ⟨rfl, rfl⟩
theorem typeNodes_any {w0 : World} (x : TyI w0) (w : World) : Calls Tryz.prog 48 #[x.v] w
    fun e w' => e = .returned (.func (.func 154) #[] #[.pointer (some ⟨w.heap.size + 1, 0, none⟩), .pointer (some ⟨w.heap.size + 2, 0, none⟩)]) ∧
      w' = ((w.alloc (.cells x.cells 25)).alloc (.cells x.cells 25)).alloc (.cells #[.func (.func 79) #[] #[]] 79) := by
  have HP := hid (preorder_any x)
  obtain ⟨t, aa, ca, af, cf, hk, hA, hF⟩ := x
  simp only [TyI.v, TyI.cells] at HP ⊢
  clear hA hF hk
  go_enter Tryz.func48, Tryz.ntmps48
  go_wp2_with fail
  refine (HP.out _).mono ?_
  rintro e w' ⟨rfl, rfl⟩
  go_wp2_with fail
  go_ret
  exact ⟨by simp, by simp⟩

theorem nodes_prefix {t y : Ty} {ps zs : List Ty} (h : ps ++ [y] <+: t.parts) (hz : zs <+: y.nodes) : (t :: ps.flatMap Ty.nodes) ++ zs <+: t.nodes := by
  obtain ⟨r, hr⟩ := h
  obtain ⟨q, hq⟩ := hz
  rw [Ty.nodes_parts, ← hr]
  refine ⟨q ++ r.flatMap Ty.nodes, ?_⟩
  simp [List.flatMap_append, ← hq]
theorem nodes_snoc {t y : Ty} {ps : List Ty} : (t :: ps.flatMap Ty.nodes) ++ y.nodes = t :: (ps ++ [y]).flatMap Ty.nodes := by simp [List.flatMap_append]
theorem stab_and {α : Type} {b : Nat} {I K : List α → World → Prop} (h : Stab b I) (k : Stab b K) : Stab b (fun s W => I s W ∧ K s W) := fun s A B hs hb => ⟨h s A B hs.1 hb, k s A B hs.2 hb⟩
theorem keep_stab {b : Nat} {X : Nat → Prop} {Wv A B : World} (hv : Wv.heap.size ≤ b) (h : KeepX X Wv A) (hb : Below b A B) : KeepX X Wv B :=
  ⟨Nat.le_trans h.1 hb.size, fun i hi hx => (hb.block i (by omega)).trans (h.2 i hi hx)⟩

set_option maxRecDepth 100000 in
set_option maxHeartbeats 4000000 in
theorem visit_in (w0 : World) (l b : Nat) (X : Nat → Prop) (hX : ∀ i, X i → w0.heap.size ≤ i ∧ i < b) (V : List (TyI w0) → Prop) (J Jx : List (TyI w0) → World → Prop) (hJ : Stab b J) (hJx : Stab b Jx)
    (hY : ∀ m pre y W1, J pre W1 → V (pre ++ [y]) → YieldAt Fence.wide m Tryz.prog l #[y.v] W1 fun e W' => (e = .returned (.bool true) ∧ J (pre ++ [y]) W' ∧ KeepX X W1 W') ∨ (e = .returned (.bool false) ∧ Jx (pre ++ [y]) W' ∧ KeepX (· < b) W1 W')) :
    ∀ (s : Nat) (x : TyI w0) (_ : x.t.size ≤ s) (_ : x.t.size ≤ 1099511627776) (n : Nat) (pre : List (TyI w0)) (W : World), KeepX (fun _ => False) w0 W → b ≤ W.heap.size → J pre W → (∀ ys : List (TyI w0), ys.map (·.t) <+: x.t.nodes → V (pre ++ ys)) →
      CallsIn Fence.wide n Tryz.prog 155 #[x.v, .func (.func 79) #[] #[], .func (.yield l) #[] #[]] W fun e W' =>
        (e = .returned (.bool true) ∧ (∃ ys : List (TyI w0), ys.map (·.t) = x.t.nodes ∧ J (pre ++ ys) W') ∧ KeepX X W W') ∨
        (e = .returned (.bool false) ∧ (∃ ys : List (TyI w0), ys.map (·.t) <+: x.t.nodes ∧ Jx (pre ++ ys) W') ∧ KeepX (· < b) W W') := by
  have HY := hid hY
  have HX := hid hX
  have HJ := hid (And.intro hJ hJx)
  clear hY hX hJ hJx
  intro s
  induction s with
  | zero => intro x hx; simp only [Ty.size] at hx; omega
  | succ s ih =>
    intro x hxs hbig n pre W hold hbW hJ0 hV
    have HI := hid ih
    have HV := hid hV
    have HO := hid hold
    clear ih hV hold
    have HT := hid (fun w => typeParts_any x w)
    obtain ⟨W4, hW4⟩ : ∃ W4, (((W.alloc (.cells x.cells 25)).alloc (.cells #[.func (.func 79) #[] #[]] 79)).alloc (.cells #[.func (.yield l) #[] #[]] 121)).alloc (.cells #[.bool false] 4) = W4 := ⟨_, rfl⟩
    have hB4 : Below W.heap.size W W4 := by
      rw [← hW4]; exact ((((Below.refl _ W).alloc (Nat.le_refl _) _).alloc (by simp) _).alloc (by simp; omega) _).alloc (by simp; omega) _
    have hs4 : W4.heap.size = W.heap.size + 4 := by rw [← hW4]; simp
    have b0 : W4.heap[W.heap.size]? = some (.cells x.cells 25 (0, 0)) := by
      rw [← hW4]; exact ((Below.heap_alloc _ _ _ (by simp; omega)).trans ((Below.heap_alloc _ _ _ (by simp; omega)).trans ((Below.heap_alloc _ _ _ (by simp)).trans (World.alloc_heap_new W _))))
    have b1 : Boxed W4 (W.heap.size + 1) 79 (.func (.func 79) #[] #[]) := by
      rw [← hW4]; have h := ((Boxed.new (W.alloc (.cells x.cells 25)) 79 (.func (.func 79) #[] #[])).alloc (.cells #[.func (.yield l) #[] #[]] 121)).alloc (.cells #[.bool false] 4)
      simpa only [World.size_alloc] using h
    have b2 : Boxed W4 (W.heap.size + 1 + 1) 121 (.func (.yield l) #[] #[]) := by
      rw [← hW4]; have h := (Boxed.new ((W.alloc (.cells x.cells 25)).alloc (.cells #[.func (.func 79) #[] #[]] 79)) 121 (.func (.yield l) #[] #[])).alloc (.cells #[.bool false] 4)
      simpa only [World.size_alloc] using h
    have b3 : Boxed W4 (W.heap.size + 1 + 1 + 1) 4 (.bool false) := by
      rw [← hW4]; have h := Boxed.new (((W.alloc (.cells x.cells 25)).alloc (.cells #[.func (.func 79) #[] #[]] 79)).alloc (.cells #[.func (.yield l) #[] #[]] 121)) 4 (.bool false)
      simpa only [World.size_alloc] using h
    have hJ4 : J pre W4 := HJ.out.1 _ _ _ hJ0 (hB4.mono hbW)
    have hv1 : V (pre ++ [x]) := HV.out [x] ⟨x.t.parts.flatMap Ty.nodes, by rw [Ty.nodes_parts]; rfl⟩
    obtain ⟨fn, tmps, assign, body, hyy, hR⟩ := HY.out (n - 1) pre x W4 hJ4 hv1
    have HR := hid hR
    have H4 := hid (And.intro hB4 (And.intro hs4 (And.intro hJ0 hJ4)))
    clear hR hB4 hs4 hJ4 hv1
    have nX : ∀ j, W.heap.size ≤ j → ¬ X j := fun j hj hx => by have := (HX.out j hx).2; omega
    have HN := hid nX
    clear nX
    have B0 := hid b0
    have B1 := hid b1
    have B2 := hid b2
    have B3 := hid b3
    clear b0 b1 b2 b3
    have HXX : Kpt (∃ z : TyI w0, z = x) := hid ⟨_, rfl⟩
    have hxv : x.v = .agg #[.int .i64 x.t.k, .string x.t.m, .string x.t.n, .slice x.aa x.t.A.len x.ca, .slice x.af x.t.F.len x.cf] := rfl
    have hxc : x.cells = #[.int .i64 x.t.k, .string x.t.m, .string x.t.n, .slice x.aa x.t.A.len x.ca, .slice x.af x.t.F.len x.cf] := rfl
    rw [hxv] at hyy ⊢
    rw [hxc] at hW4
    have HT' : Kpt (∀ w, Calls Tryz.prog 79 #[.agg #[.int .i64 x.t.k, .string x.t.m, .string x.t.n, .slice x.aa x.t.A.len x.ca, .slice x.af x.t.F.len x.cf]] w
        fun e w' => e = .returned (.func (.func 138) #[] #[.pointer (some ⟨w.heap.size, 0, none⟩)]) ∧ w' = w.alloc (.cells x.cells 25)) := hid HT.out
    clear HT hxv
    refine callsIn_of_wp_marks Tryz.func155 rfl trivial ?_ rfl
    simp only [Tryz.ntmps155, List.size_toArray, List.length_cons, List.length_nil, Nat.reduceAdd, Nat.reduceSub, Array.replicate_succ, Array.replicate_zero, List.push_toArray, List.append_toArray, List.nil_append, List.cons_append]
    have c0 := cell_of_row W4 W.heap.size 0 _ _ _ B0.out
    have c1 := cell_of_row W4 W.heap.size 1 _ _ _ B0.out
    have c2 := cell_of_row W4 W.heap.size 2 _ _ _ B0.out
    have c3 := cell_of_row W4 W.heap.size 3 _ _ _ B0.out
    have c4 := cell_of_row W4 W.heap.size 4 _ _ _ B0.out
    have c5 := B2.out.cell
    have c6 := B3.out.cell
    have c7 := B3.out.frozen
    simp only [hxc] at c0 c1 c2 c3 c4
    gi_wp2_with fail
    clear hW4 c0 c1 c2 c3 c4 c5 c6 c7
    refine ⟨fun h => (by cases h), HR.out.mono ?_⟩
    rintro e W5 (⟨rfl, hJ5, hk5⟩ | ⟨rfl, hJx5, hk5⟩)
    · have k5 := hid (And.intro hJ5 hk5)
      have c0 := hk5.cell (HN.out _ (Nat.le_refl _)) (cell_of_row W4 W.heap.size 0 _ _ _ B0.out)
      have c1 := hk5.cell (HN.out _ (Nat.le_refl _)) (cell_of_row W4 W.heap.size 1 _ _ _ B0.out)
      have c2 := hk5.cell (HN.out _ (Nat.le_refl _)) (cell_of_row W4 W.heap.size 2 _ _ _ B0.out)
      have c3 := hk5.cell (HN.out _ (Nat.le_refl _)) (cell_of_row W4 W.heap.size 3 _ _ _ B0.out)
      have c4 := hk5.cell (HN.out _ (Nat.le_refl _)) (cell_of_row W4 W.heap.size 4 _ _ _ B0.out)
      have c5 := hk5.cell (HN.out _ (Nat.le_add_right _ 1)) B1.out.cell
      simp only [hxc] at c0 c1 c2 c3 c4
      clear hJ5 hk5 hyy hJ0
      gi_wp2_with fail
      refine ⟨trivial, fun h => (by cases h), callsIn_wide.2 ((HT'.out W5).mono ?_)⟩
      rintro e W6 ⟨rfl, hW6⟩
      gi_wp2_with fail
      rw [hxc] at hW6
      rw [← hW6]
      rw [← hxc] at hW6
      have hB6 : Below W5.heap.size W5 W6 := by rw [hW6]; exact (Below.refl _ W5).alloc (Nat.le_refl _) _
      have hs6 : W6.heap.size = W5.heap.size + 1 := by rw [hW6]; simp
      have x6 : W6.heap[W5.heap.size]? = some (.cells x.cells 25 (0, 0)) := by rw [hW6]; exact World.alloc_heap_new W5 _
      have hs5 := k5.out.2.1
      have hs4 := H4.out.2.1
      have n3 : ∀ j, W.heap.size ≤ j → j < W4.heap.size → W6.heap[j]? = W4.heap[j]? := fun j h1 h2 => (hB6.block j (by omega)).trans (k5.out.2.2 j h2 (HN.out j h1))
      have d0 := (n3 (W.heap.size) (Nat.le_refl _) (by omega)).trans B0.out
      have d1 : Boxed W6 _ _ _ := (n3 (W.heap.size + 1) (by omega) (by omega)).trans B1.out
      have d2 : Boxed W6 _ _ _ := (n3 (W.heap.size + 1 + 1) (by omega) (by omega)).trans B2.out
      have d3 : Boxed W6 _ _ _ := (n3 (W.heap.size + 1 + 1 + 1) (by omega) (by omega)).trans B3.out
      have old6 : KeepX (fun _ => False) w0 W6 := by
        exact ((HO.out.old (KeepX.of_below (X := X) H4.out.1) (fun i hi => (HX.out i hi).1)).old k5.out.2 (fun i hi => (HX.out i hi).1)).trans (KeepX.of_below hB6)
      have kW6 : KeepX X W W6 := (KeepX.of_below H4.out.1).trans (k5.out.2.trans (KeepX.of_below hB6))
      have hJ6 : J (pre ++ [x]) W6 := HJ.out.1 _ _ _ k5.out.1 (hB6.mono (by omega))
      have hlenA := Tr.len_le x.t.A
      have hlenF := Tr.len_le x.t.F
      have hxsz : x.t.size = 1 + x.t.A.size + x.t.F.size := rfl
      have HQ := hid (And.intro hB6 (And.intro hs6 (And.intro x6 (And.intro hs5 (And.intro hs4 (And.intro d0 (And.intro d1 (And.intro d2 (And.intro d3 (And.intro old6 (And.intro kW6 hJ6)))))))))))
      clear hB6 hs6 x6 hs5 hs4 n3 d0 d1 d2 d3 old6 kW6 hJ6 c0 c1 c2 c3 c4 c5 hW6
      have hs6 : W6.heap.size = W5.heap.size + 1 := HQ.out.2.1
      have hs46 : W.heap.size + 4 ≤ W5.heap.size := by have h1 := HQ.out.2.2.2.1; have h2 := HQ.out.2.2.2.2.1; omega
      refine range_box 7 25 TyI.cells (gf := 138) (lb := #[.pointer (some ⟨W5.heap.size, 0, none⟩)]) rfl (enters_of Tryz.func138 (by kernel_rfl) rfl)
        (encs := fun y : TyI w0 => #[y.v]) (X := X) (S := fun ys => ys.map (·.t) = x.t.parts) (V := fun ys => ys.map (·.t) <+: x.t.parts) (w0 := W6) ?seq (fun i hi => by have := (HX.out i hi).2; omega) (Below.refl _ _) (fun _ => rfl)
        (fun pre' W' => (∃ ys : List (TyI w0), ys.map (·.t) = x.t :: (pre'.map (·.t)).flatMap Ty.nodes ∧ J (pre ++ ys) W') ∧ KeepX X W6 W')
        (fun c pre' W' => c = .ret ∧ (∃ ys : List (TyI w0), ys.map (·.t) <+: x.t.nodes ∧ Jx (pre ++ ys) W') ∧ W'.heap[W.heap.size + 1 + 1 + 1]? = some (.cells #[.bool false] 4 (0, 0)) ∧ KeepX (· < b) W W')
        ?hI ?hIx ⟨⟨[x], rfl, HQ.out.2.2.2.2.2.2.2.2.2.2.2⟩, KeepX.refl _ _⟩ ?assign ?body ?done ?stop
      case seq =>
        intro m l' J' Jx' W' hb hJ' hJx' hY' h0'
        exact parts1_in w0 x ⟨by omega, by omega⟩ W5.heap.size X (fun i hi => by have := HX.out i hi; exact ⟨this.1, by omega⟩) _ (fun _ h => h) l' m J' Jx' W' ((hb.block _ (by omega)).trans HQ.out.2.2.1) (HQ.out.2.2.2.2.2.2.2.2.2.1.trans (KeepX.of_below hb)) hJ' hY' h0'
      case hI =>
        intro s' A B' hs hb
        obtain ⟨⟨ys, h1, h2⟩, h3⟩ := hs
        exact ⟨⟨ys, h1, HJ.out.1 _ _ _ h2 (hb.mono (by omega))⟩, keep_stab (Nat.le_refl _) h3 hb⟩
      case hIx =>
        intro c s' A B' hs hb
        obtain ⟨h0, ⟨ys, h1, h2⟩, h3, h4⟩ := hs
        exact ⟨h0, ⟨ys, h1, HJ.out.2 _ _ _ h2 (hb.mono (by omega))⟩, (hb.block _ (by omega)).trans h3, keep_stab (by omega) h4 hb⟩
      case assign =>
        intro m l' y W'
        dsimp only [TyI.v, TyI.cells]
        gi_wp2_with fail
        exact ⟨trivial, by simp⟩
      case body =>
        rintro m l' Bx pre' y W7 hl hlB hwB hBW hbx ⟨r, hr⟩ ⟨⟨ys, hys, hJ7⟩, hk7⟩ hv
        rw [List.map_append] at hv
        have hyx : y.t.size < x.t.size := Ty.part_size (hv.subset (by simp))
        have hVy : ∀ zs : List (TyI w0), zs.map (·.t) <+: y.t.nodes → V ((pre ++ ys) ++ zs) := fun zs hz => by
          rw [List.append_assoc]
          exact HV.out _ (by rw [List.map_append, hys]; exact nodes_prefix hv hz)
        have hIy := HI.out y (by omega) (by omega) (m - 1) (pre ++ ys) W7 (HQ.out.2.2.2.2.2.2.2.2.2.1.old hk7 (fun i hi => (HX.out i hi).1)) (by have := hk7.1; omega) hJ7 hVy
        have e0 := cell_of_row W7 Bx 0 _ _ _ hbx
        have e1 := cell_of_row W7 Bx 1 _ _ _ hbx
        have e2 := cell_of_row W7 Bx 2 _ _ _ hbx
        have e3 := cell_of_row W7 Bx 3 _ _ _ hbx
        have e4 := cell_of_row W7 Bx 4 _ _ _ hbx
        have e5 := hk7.cell (HN.out _ (by show W.heap.size ≤ W.heap.size + 1; omega)) HQ.out.2.2.2.2.2.2.1.cell
        have e6 := hk7.cell (HN.out _ (by show W.heap.size ≤ W.heap.size + 1 + 1; omega)) HQ.out.2.2.2.2.2.2.2.1.cell
        have f3 : W7.heap[W.heap.size + 1 + 1 + 1]? = some (.cells #[.bool false] 4 (0, 0)) := (hk7.2 _ (by omega) (HN.out _ (by omega))).trans HQ.out.2.2.2.2.2.2.2.2.1
        have HZ := hid (And.intro hys (And.intro hk7 (And.intro hv (And.intro f3 hIy))))
        clear hys hJ7 hk7 hv f3 hIy hVy hbx
        dsimp only [TyI.v, TyI.cells] at e0 e1 e2 e3 e4 ⊢
        gi_wp2_with fail
        refine ⟨trivial, fun h => (by cases h), CallsIn.inRound l' (HZ.out.2.2.2.2.mono ?_)⟩
        rintro e W8 (⟨rfl, ⟨zs, hzs, hJ8⟩, hk8⟩ | ⟨rfl, ⟨zs, hzs, hJx8⟩, hk8⟩)
        · gi_wp2_with fail
          exact ⟨hk8, ⟨ys ++ zs, by rw [List.map_append, HZ.out.1, hzs, nodes_snoc, List.map_append]; rfl, by rw [← List.append_assoc]; exact hJ8⟩, HZ.out.2.1.trans hk8⟩
        · have hlt8 : W.heap.size + 1 + 1 + 1 < W7.heap.size := by omega
          have f8 : Boxed W8 (W.heap.size + 1 + 1 + 1) 4 (.bool false) := (hk8.2 _ hlt8 (by omega)).trans HZ.out.2.2.2.1
          have g0 := f8.cell
          have g1 := f8.frozen
          have HG := hid (And.intro hzs (And.intro hJx8 (And.intro hk8 f8)))
          clear hzs hJx8 hk8 f8
          gi_wp2_with fail
          have hB8 : Below (W.heap.size + 1 + 1 + 1) W8 (W8.setCell ⟨W.heap.size + 1 + 1 + 1, 0, none⟩ (.bool false)) := below_set W8 _ (Nat.le_refl _)
          have hs8 : Boxed (W8.setCell ⟨W.heap.size + 1 + 1 + 1, 0, none⟩ (.bool false)) (W.heap.size + 1 + 1 + 1) 4 (.bool false) := HG.out.2.2.2.set _
          have hks := KeepX.set W8 (W.heap.size + 1 + 1 + 1) (.bool false)
          generalize W8.setCell ⟨W.heap.size + 1 + 1 + 1, 0, none⟩ (.bool false) = W9 at hB8 hs8 hks ⊢
          have hk6 := HG.out.2.2.1
          have hk66 := HQ.out.2.2.2.2.2.2.2.2.2.2.1.trans HZ.out.2.1
          refine ⟨⟨Nat.le_trans hk6.1 hks.1, fun i hi hx => ?_⟩, rfl, ⟨ys ++ zs, by rw [List.map_append, HZ.out.1]; exact nodes_prefix HZ.out.2.2.1 HG.out.1, by rw [← List.append_assoc]; exact HJ.out.2 _ _ _ HG.out.2.1 (hB8.mono (by omega))⟩, hs8, ⟨Nat.le_trans hk66.1 (Nat.le_trans hk6.1 hks.1), fun i hi hx => ?_⟩⟩
          · have hx' : ¬ i < W6.heap.size := hx
            rw [hks.2 i (Nat.lt_of_lt_of_le hi hk6.1) (by omega), hk6.2 i hi (by omega)]
          · have hx' : ¬ i < b := hx
            have h1 := hk66.1
            rw [hks.2 i (Nat.lt_of_lt_of_le (Nat.lt_of_lt_of_le hi h1) hk6.1) (by omega), hk6.2 i (by omega) hx, hk66.2 i hi (fun hX => by have := (HX.out i hX).2; omega)]
      case done =>
        rintro D xs W9 hD hS ⟨⟨ys, hys, hJ9⟩, hk9⟩ hK
        have f9 : Boxed W9 (W.heap.size + 1 + 1 + 1) 4 (.bool false) := (hk9.2 _ (by omega) (HN.out _ (by omega))).trans HQ.out.2.2.2.2.2.2.2.2.1
        have g0 := f9.cell
        have g1 := f9.frozen
        have hDb : D ≠ W.heap.size + 1 + 1 + 1 := by omega
        have HG := hid (And.intro hS (And.intro hys (And.intro hJ9 (And.intro hk9 (And.intro f9 hK)))))
        clear hS hys hJ9 hk9 f9 hK
        gi_wp2_with fail
        have hK1 : (W9.setCell ⟨W.heap.size + 1 + 1 + 1, 0, none⟩ (.bool true)).heap[D]? = some (.deferred (some [])) := ((KeepX.set W9 _ _).2 D (Array.getElem?_eq_some_iff.1 HG.out.2.2.2.2.2).1 hDb).trans HG.out.2.2.2.2.2
        have hf : Boxed (W9.setCell ⟨W.heap.size + 1 + 1 + 1, 0, none⟩ (.bool true)) (W.heap.size + 1 + 1 + 1) 4 (.bool true) := HG.out.2.2.2.2.1.set _
        have hB9 : Below (W.heap.size + 1 + 1 + 1) W9 ((W9.setCell ⟨W.heap.size + 1 + 1 + 1, 0, none⟩ (.bool true)).putObj D (.deferred none)) := (below_set W9 _ (Nat.le_refl _)).trans (below_put (by omega) hK1)
        refine ⟨by simp, .inl ⟨_, _, rfl, run_takeDeferred hK1, ?_⟩⟩
        have m0 : ((W9.setCell ⟨W.heap.size + 1 + 1 + 1, 0, none⟩ (.bool true)).putObj D (.deferred none)).cell? ⟨W.heap.size + 1 + 1 + 1, 0, none⟩ = some (.bool true) := Boxed.cell (t := 4) ((World.putObj_heap_other (fun e => hDb e.symm)).trans hf)
        generalize (W9.setCell ⟨W.heap.size + 1 + 1 + 1, 0, none⟩ (.bool true)).putObj D (.deferred none) = W10 at m0 hB9 ⊢
        refine ⟨.bool true, by simp [results, Tryz.results155, go_sem, m0], .inl ⟨rfl, ⟨ys, by rw [HG.out.2.1, HG.out.1, ← Ty.nodes_parts], HJ.out.1 _ _ _ HG.out.2.2.1 (hB9.mono (by omega))⟩, ?_⟩⟩
        have hk := HQ.out.2.2.2.2.2.2.2.2.2.2.1.trans HG.out.2.2.2.1
        exact ⟨Nat.le_trans hk.1 hB9.size, fun i hi hx => (hB9.block i (by omega)).trans (hk.2 i hi hx)⟩
      case stop =>
        rintro D c pre' W9 hD hv ⟨rfl, ⟨ys, hys, hJ9⟩, f9, hk9⟩ hK
        have g0 := Boxed.cell f9
        have HG := hid (And.intro hys (And.intro hJ9 (And.intro hk9 hK)))
        have hDb : D ≠ W.heap.size + 1 + 1 + 1 := by omega
        have hB9 : Below (W.heap.size + 1 + 1 + 1) W9 (W9.putObj D (.deferred none)) := below_put (by omega) hK
        have m0 : (W9.putObj D (.deferred none)).cell? ⟨W.heap.size + 1 + 1 + 1, 0, none⟩ = some (.bool false) := Boxed.cell (t := 4) ((World.putObj_heap_other (fun e => hDb e.symm)).trans f9)
        clear hys hJ9 hk9 hK f9
        gi_wp2_with fail
        refine ⟨by simp, .inl ⟨_, _, rfl, run_takeDeferred HG.out.2.2.2, ?_⟩⟩
        generalize W9.putObj D (.deferred none) = W10 at m0 hB9 ⊢
        refine ⟨.bool false, by simp [results, Tryz.results155, go_sem, m0], .inr ⟨rfl, ⟨ys, HG.out.1, HJ.out.2 _ _ _ HG.out.2.1 (hB9.mono (by omega))⟩, ?_⟩⟩
        exact ⟨Nat.le_trans HG.out.2.2.1.1 hB9.size, fun i hi hx => (hB9.block i (by omega)).trans (HG.out.2.2.1.2 i hi hx)⟩
    · have f5 : Boxed W5 (W.heap.size + 1 + 1 + 1) 4 (.bool false) := (hk5.2 _ (by have := H4.out.2.1; omega) (by omega)).trans B3.out
      have g0 := f5.cell
      have g1 := f5.frozen
      have HG := hid (And.intro hJx5 (And.intro hk5 f5))
      clear hJx5 hk5 f5 hyy hJ0
      gi_wp2_with fail
      have hB5 : Below (W.heap.size + 1 + 1 + 1) W5 (W5.setCell ⟨W.heap.size + 1 + 1 + 1, 0, none⟩ (.bool false)) := below_set W5 _ (Nat.le_refl _)
      have m0 := (HG.out.2.2.set (.bool false)).cell
      generalize W5.setCell ⟨W.heap.size + 1 + 1 + 1, 0, none⟩ (.bool false) = W9 at hB5 m0 ⊢
      refine ⟨.bool false, by simp [results, Tryz.results155, go_sem, m0], .inr ⟨rfl, ⟨[x], ⟨x.t.parts.flatMap Ty.nodes, by rw [Ty.nodes_parts]; rfl⟩, HJ.out.2 _ _ _ HG.out.1 (hB5.mono (by omega))⟩, ?_⟩⟩
      have hk5 := HG.out.2.1
      have h4 := H4.out.1
      have h44 := H4.out.2.1
      exact ⟨Nat.le_trans h4.size (Nat.le_trans hk5.1 hB5.size), fun i hi hx => by rw [hB5.block i (by omega), hk5.2 i (by omega) hx, h4.block i hi]⟩
end Go.Proofs.YtjedcijddlilaaaGreatDoor
