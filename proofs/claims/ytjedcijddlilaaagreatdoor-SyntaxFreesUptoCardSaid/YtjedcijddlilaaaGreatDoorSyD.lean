/- syntax: TypeSize, TypeDepth. | syntax: TypeDepth returns the depth of a type. -/
import Derived.Test.YtjedcijddlilaaaGreatDoorSyN
namespace Go.Proofs.YtjedcijddlilaaaGreatDoor
open Go.RowKit Go.Shelf
attribute [local go_sem] Oper.semAt_some

set_option maxRecDepth 100000 in
theorem typeSize_any {t : Ty} {v : Value} {w : World} (hv : TyV w v t) (hbig : t.size ≤ 1099511627776) :
    Calls Tryz.prog 34 #[v] w fun e w' => e = .returned (.int .i64 (t.size : Int)) ∧ Below w.heap.size w w' := by
  obtain ⟨x, rfl, rfl⟩ := tyI_of hv
  clear hv
  obtain ⟨wa, hwa⟩ : ∃ wa, w.alloc (.cells #[.int .i64 x.t.k, .string x.t.m, .string x.t.n, .slice x.aa x.t.A.len x.ca, .slice x.af x.t.F.len x.cf] 25) = wa := ⟨_, rfl⟩
  have hba : Below w.heap.size w wa := by rw [← hwa]; exact (Below.refl _ w).alloc (Nat.le_refl _) _
  have hea : wa.heap[w.heap.size]? = some (.cells #[.int .i64 x.t.k, .string x.t.m, .string x.t.n, .slice x.aa x.t.A.len x.ca, .slice x.af x.t.F.len x.cf] 25 (0, 0)) := by rw [← hwa]; exact World.alloc_heap_new _ _
  have k0 := cell_of_row wa _ 0 _ _ _ hea
  have k1 := cell_of_row wa _ 1 _ _ _ hea
  have k2 := cell_of_row wa _ 2 _ _ _ hea
  have k3 := cell_of_row wa _ 3 _ _ _ hea
  have k4 := cell_of_row wa _ 4 _ _ _ hea
  have hts : tsz x.t.size 9223372036854775807 = (x.t.size : Int) := by unfold tsz; rw [if_pos (by omega)]
  have hcall := typeSize0_any x.t x.v 9223372036854775807 wa (TyV_below x.tyV hba) hbig
  rw [hts] at hcall
  have HC := hid (And.intro (show Calls Tryz.prog 47 #[.agg #[.int .i64 x.t.k, .string x.t.m, .string x.t.n, .slice x.aa x.t.A.len x.ca, .slice x.af x.t.F.len x.cf], .int .i64 9223372036854775807] wa _ from hcall) hba)
  clear hcall hba hea hts hbig
  show Calls Tryz.prog 34 #[.agg #[.int .i64 x.t.k, .string x.t.m, .string x.t.n, .slice x.aa x.t.A.len x.ca, .slice x.af x.t.F.len x.cf]] w _
  go_enter Tryz.func34, Tryz.ntmps34
  go_wp2_with fail
  refine HC.out.1.mono ?_
  rintro e w' ⟨rfl, hb⟩
  go_wp2_with fail
  go_ret
  exact ⟨rfl, HC.out.2.trans (hb.mono HC.out.2.size)⟩

/-- depth on types of at most s nodes. -/
def DepT (w0 : World) (s : Nat) : Prop := ∀ x : TyI w0, x.t.size ≤ s → ∀ W, KeepX (fun _ => False) w0 W → Calls Tryz.prog 78 #[.agg #[.int .i64 x.t.k, .string x.t.m, .string x.t.n, .slice x.aa x.t.A.len x.ca, .slice x.af x.t.F.len x.cf], .func (.func 79) #[] #[]] W
  fun e W' => e = .returned (.int .i64 (x.t.depth : Int)) ∧ Below W.heap.size W W'
theorem maxL_snoc (l : List Nat) (n : Nat) : maxL (l ++ [n]) = max (maxL l) n := by rw [maxL_append]; simp [maxL]
theorem maxL_le {l : List Nat} {n : Nat} (h : ∀ a ∈ l, a ≤ n) : maxL l ≤ n := by
  induction l with
  | nil => exact Nat.zero_le _
  | cons a l ih =>
    have h1 := h a (by simp)
    have h2 := ih fun b hb => h b (by simp [hb])
    simp only [maxL, List.foldr_cons] at *
    omega
set_option maxRecDepth 100000 in
set_option maxHeartbeats 8000000 in
theorem depth_step (w0 : World) (s : Nat) (hs : s + 1 ≤ 1099511627776) (ih : DepT w0 s) : DepT w0 (s + 1) := by
  intro x hx W hold
  have HI := hid ih
  have HT := hid (fun w => typeParts_any x w)
  clear ih
  have HT' : Kpt (∀ w, Calls Tryz.prog 79 #[.agg #[.int .i64 x.t.k, .string x.t.m, .string x.t.n, .slice x.aa x.t.A.len x.ca, .slice x.af x.t.F.len x.cf]] w
        fun e w' => e = .returned (.func (.func 138) #[] #[.pointer (some ⟨w.heap.size, 0, none⟩)]) ∧ w' = w.alloc (.cells x.cells 25)) := hid HT.out
  clear HT
  refine (callsIn_wide (n := 9)).1 ?_
  refine callsIn_of_wp_marks Tryz.func78 rfl trivial ?_ rfl
  simp only [Tryz.ntmps78, List.size_toArray, List.length_cons, List.length_nil, Nat.reduceAdd, Nat.reduceSub, Array.replicate_succ, Array.replicate_zero, List.push_toArray, List.append_toArray, List.nil_append, List.cons_append]
  gi_wp2_with fail
  refine ⟨trivial, callsIn_wide.2 ((HT'.out _).mono ?_)⟩
  rintro e W6 ⟨rfl, hW6⟩
  simp only [World.size_alloc] at hW6 ⊢
  gi_wp2_with fail
  have hxc : x.cells = #[.int .i64 x.t.k, .string x.t.m, .string x.t.n, .slice x.aa x.t.A.len x.ca, .slice x.af x.t.F.len x.cf] := rfl
  rw [← hxc] at hW6
  have b0 : Boxed W6 (W.heap.size + 1) 79 (.func (.func 79) #[] #[]) := by
    rw [hW6]; have h := ((Boxed.new (W.alloc (.cells x.cells 25)) 79 (.func (.func 79) #[] #[])).alloc (.cells #[.int .i64 0] 3)).alloc (.cells x.cells 25)
    simpa only [World.size_alloc] using h
  have b1 : Boxed W6 (W.heap.size + 1 + 1) 3 (.int .i64 0) := by
    rw [hW6]; have h := (Boxed.new ((W.alloc (.cells x.cells 25)).alloc (.cells #[.func (.func 79) #[] #[]] 79)) 3 (.int .i64 0)).alloc (.cells x.cells 25)
    simpa only [World.size_alloc] using h
  have b2 : W6.heap[W.heap.size + 1 + 1 + 1]? = some (.cells x.cells 25 (0, 0)) := by
    rw [hW6]
    have h := World.alloc_heap_new (((W.alloc (.cells x.cells 25)).alloc (.cells #[.func (.func 79) #[] #[]] 79)).alloc (.cells #[.int .i64 0] 3)) (.cells x.cells 25)
    simpa only [World.size_alloc] using h
  have hsz : W6.heap.size = W.heap.size + 4 := by rw [hW6]; simp
  have hB : Below W.heap.size W W6 := by
    rw [hW6]; exact ((((Below.refl _ W).alloc (Nat.le_refl _) _).alloc (by simp) _).alloc (by simp; omega) _).alloc (by simp; omega) _
  clear hW6 hxc
  have hW0 := hold.1
  have hlenA := Tr.len_le x.t.A
  have hlenF := Tr.len_le x.t.F
  have hxsz : x.t.size = 1 + x.t.A.size + x.t.F.size := rfl
  refine range_box 6 25 TyI.cells (gf := 138) (lb := #[.pointer (some ⟨W.heap.size + 1 + 1 + 1, 0, none⟩)]) rfl (enters_of Tryz.func138 (by kernel_rfl) rfl)
    (encs := fun y : TyI w0 => #[y.v]) (X := fun i => i = W.heap.size + 1 + 1) (S := fun ys => ys.map (·.t) = x.t.parts) (V := fun ys => ys.map (·.t) <+: x.t.parts) (w0 := W6) ?seq (fun i hi => by omega) (Below.refl _ _) (fun _ => rfl)
    (fun pre W' => Boxed W' (W.heap.size + 1 + 1) 3 (.int .i64 (maxL (pre.map (·.t.depth)) : Int)) ∧ Boxed W' (W.heap.size + 1) 79 (.func (.func 79) #[] #[]) ∧ Below W.heap.size W W')
    (fun _ _ _ => False) ?hI (fun c s A B h _ => h) ⟨b1, b0, hB⟩ ?assign ?body ?done ?stop
  case seq =>
    intro m l' J' Jx' W' hb hJ' hJx' hY' h0'
    exact parts1_in w0 x ⟨by omega, by omega⟩ (W.heap.size + 1 + 1 + 1) (fun i => i = W.heap.size + 1 + 1) (fun i hi => by omega) _ (fun _ h => h) l' m J' Jx' W' ((hb.block _ (by omega)).trans b2) ((hold.trans (KeepX.of_below hB)).trans (KeepX.of_below hb)) hJ' hY' h0'
  case hI =>
    intro s' A B hs hb
    exact ⟨(hb.block _ (by omega)).trans hs.1, (hb.block _ (by omega)).trans hs.2.1, hs.2.2.trans (hb.mono (by omega))⟩
  case assign =>
    intro m l' y W'
    dsimp only [TyI.v, TyI.cells]
    gi_wp2_with fail
    exact ⟨trivial, by simp⟩
  case body =>
    rintro m l' Bx pre y W7 hl hlB hwB hBW hbx ⟨r, hr⟩ ⟨h1, h2, h3⟩ hv
    rw [List.map_append] at hv
    have hyx : y.t.size < x.t.size := Ty.part_size (hv.subset (by simp))
    have hcall := HI.out y (by omega) W7.drew (hold.trans (KeepX.of_below h3.drew))
    have e0 := cell_of_row W7 Bx 0 _ _ _ hbx
    have e1 := cell_of_row W7 Bx 1 _ _ _ hbx
    have e2 := cell_of_row W7 Bx 2 _ _ _ hbx
    have e3 := cell_of_row W7 Bx 3 _ _ _ hbx
    have e4 := cell_of_row W7 Bx 4 _ _ _ hbx
    have e5 := h1.cell
    have e6 := h2.cell
    have hd1 : maxL (pre.map (·.t.depth)) ≤ 1099511627776 := maxL_le fun a ha => by
      obtain ⟨z, hz, rfl⟩ := List.mem_map.1 ha
      have h9 : z.t ∈ x.t.parts := hv.subset (by simp; exact .inl ⟨z, hz, rfl⟩)
      have h8 := Ty.part_size h9
      have h7 := z.t.depth_size
      omega
    have hd2 := y.t.depth_size
    have HZ := hid (And.intro h1 (And.intro h2 (And.intro h3 hcall)))
    have HD := hid (And.intro hd1 hd2)
    clear h1 h2 h3 hv hcall hbx hd1 hd2
    dsimp only [TyI.v, TyI.cells] at e0 e1 e2 e3 e4 ⊢
    gi_wp2_with fail
    have h1b : W.heap.size + 1 + 1 < W7.heap.size := by omega
    have HFIN : Kpt (∀ (w8 : World) (d : Int), Below W7.drew.heap.size W7.drew w8 → Boxed w8 (W.heap.size + 1 + 1) 3 (.int .i64 (maxL (pre.map (·.t.depth)) : Int)) → d = (maxL ((pre ++ [y]).map (·.t.depth)) : Int) →
        KeepX (fun i => i = W.heap.size + 1 + 1) W7 (w8.setCell ⟨W.heap.size + 1 + 1, 0, none⟩ (.int .i64 d)) ∧ Boxed (w8.setCell ⟨W.heap.size + 1 + 1, 0, none⟩ (.int .i64 d)) (W.heap.size + 1 + 1) 3 (.int .i64 (maxL ((pre ++ [y]).map (·.t.depth)) : Int)) ∧
        Boxed (w8.setCell ⟨W.heap.size + 1 + 1, 0, none⟩ (.int .i64 d)) (W.heap.size + 1) 79 (.func (.func 79) #[] #[]) ∧ Below W.heap.size W (w8.setCell ⟨W.heap.size + 1 + 1, 0, none⟩ (.int .i64 d))) := hid fun w8 d hb8 f8 hd => by
      have hsz7 : W7.drew.heap.size = W7.heap.size := rfl
      have hs8 := hb8.size
      have hk := KeepX.set w8 (W.heap.size + 1 + 1) (.int .i64 d)
      refine ⟨⟨by have := hk.1; omega, fun i hi hx => (hk.2 i (by omega) hx).trans (hb8.block i (by omega))⟩, by rw [hd]; exact f8.set _, Boxed.other (show Boxed w8 _ _ _ from (hb8.block _ (by omega)).trans HZ.out.2.1) (by omega) _, ?_⟩
      have h78 : Below W7.heap.size W7 w8 := ⟨hb8.os, hb8.tape, hb8.output, hb8.size, hb8.block⟩
      exact (HZ.out.2.2.1.trans (h78.mono HZ.out.2.2.1.size)).trans (below_set w8 _ (by omega))
    have HC := hid (show Calls Tryz.prog 78 #[.agg #[.int .i64 y.t.k, .string y.t.m, .string y.t.n, .slice y.aa y.t.A.len y.ca, .slice y.af y.t.F.len y.cf], .func (.func 79) #[] #[]] W7.drew _ from HZ.out.2.2.2)
    refine wpIn_region_any (by kernel_rfl) ?_
    change wpAnyIn _ _ _ _ _ _ _ _ _ (World.drew _)
    refine wpAnyIn_ready (rs := [0, 1, 2]) (by kernel_rfl) (by simp) ?_
    refine AllReadyIn.cons rfl (fun K hK => ?_) ?_
    · go_simp
      refine hK _ _ ?_
      clear hK K
      refine wpAnyIn_ready (rs := [1, 2]) (by kernel_rfl) (by simp) ?_
      refine AllReadyIn.cons rfl (fun K hK => ?_) ?_
      · go_simp
        refine hK _ _ ?_
        clear hK K
        refine wpAnyIn_ready (rs := [2]) (by kernel_rfl) (by simp) ?_
        refine AllReadyIn.cons rfl (fun K hK => ?_) ?_
        · go_simp
          refine hK _ _ ?_
          clear hK K
          refine wpAnyIn_ready (rs := [3]) (by kernel_rfl) (by simp) ?_
          refine AllReadyIn.cons rfl (fun K hK => ?_) ?_
          · go_simp
            refine ⟨trivial, fun h => (by cases h), CallsIn.inRound l' (callsIn_wide.2 (HC.out.mono ?_))⟩
            rintro e w8 ⟨rfl, hb8⟩
            have e55 := (hb8.cell h1b).trans e5
            have f55 : Boxed w8 (W.heap.size + 1 + 1) _ _ := (hb8.block _ h1b).trans HZ.out.1
            have g55 := f55.frozen
            have H8 := hid (And.intro hb8 f55)
            clear hb8 f55
            refine hK _ _ ?_
            clear hK K
            refine wpAnyIn_ready (rs := [4]) (by kernel_rfl) (by simp) ?_
            refine AllReadyIn.cons rfl (fun K hK => ?_) ?_
            · go_simp
              refine hK _ _ ?_
              clear hK K
              refine wpAnyIn_ready (rs := [5]) (by kernel_rfl) (by simp) ?_
              refine AllReadyIn.cons rfl (fun K hK => ?_) ?_
              · go_simp
                refine hK _ _ ?_
                clear hK K
                refine wpAnyIn_done (by kernel_rfl) ?_ _
                gi_wp2_with fail
                all_goals exact HFIN.out w8 _ H8.out.1 H8.out.2 (by rw [List.map_append]; simp only [List.map_cons, List.map_nil, maxL_snoc]; omega)
              exact AllReadyIn.nil
            exact AllReadyIn.nil
          exact AllReadyIn.nil
        exact AllReadyIn.nil
      refine AllReadyIn.cons rfl (fun K hK => ?_) ?_
      · go_simp
        refine hK _ _ ?_
        clear hK K
        refine wpAnyIn_ready (rs := [1]) (by kernel_rfl) (by simp) ?_
        refine AllReadyIn.cons rfl (fun K hK => ?_) ?_
        · go_simp
          refine hK _ _ ?_
          clear hK K
          refine wpAnyIn_ready (rs := [3]) (by kernel_rfl) (by simp) ?_
          refine AllReadyIn.cons rfl (fun K hK => ?_) ?_
          · go_simp
            refine ⟨trivial, fun h => (by cases h), CallsIn.inRound l' (callsIn_wide.2 (HC.out.mono ?_))⟩
            rintro e w8 ⟨rfl, hb8⟩
            have e55 := (hb8.cell h1b).trans e5
            have f55 : Boxed w8 (W.heap.size + 1 + 1) _ _ := (hb8.block _ h1b).trans HZ.out.1
            have g55 := f55.frozen
            have H8 := hid (And.intro hb8 f55)
            clear hb8 f55
            refine hK _ _ ?_
            clear hK K
            refine wpAnyIn_ready (rs := [4]) (by kernel_rfl) (by simp) ?_
            refine AllReadyIn.cons rfl (fun K hK => ?_) ?_
            · go_simp
              refine hK _ _ ?_
              clear hK K
              refine wpAnyIn_ready (rs := [5]) (by kernel_rfl) (by simp) ?_
              refine AllReadyIn.cons rfl (fun K hK => ?_) ?_
              · go_simp
                refine hK _ _ ?_
                clear hK K
                refine wpAnyIn_done (by kernel_rfl) ?_ _
                gi_wp2_with fail
                all_goals exact HFIN.out w8 _ H8.out.1 H8.out.2 (by rw [List.map_append]; simp only [List.map_cons, List.map_nil, maxL_snoc]; omega)
              exact AllReadyIn.nil
            exact AllReadyIn.nil
          exact AllReadyIn.nil
        exact AllReadyIn.nil
      exact AllReadyIn.nil
    refine AllReadyIn.cons rfl (fun K hK => ?_) ?_
    · go_simp
      refine hK _ _ ?_
      clear hK K
      refine wpAnyIn_ready (rs := [0, 2]) (by kernel_rfl) (by simp) ?_
      refine AllReadyIn.cons rfl (fun K hK => ?_) ?_
      · go_simp
        refine hK _ _ ?_
        clear hK K
        refine wpAnyIn_ready (rs := [2]) (by kernel_rfl) (by simp) ?_
        refine AllReadyIn.cons rfl (fun K hK => ?_) ?_
        · go_simp
          refine hK _ _ ?_
          clear hK K
          refine wpAnyIn_ready (rs := [3]) (by kernel_rfl) (by simp) ?_
          refine AllReadyIn.cons rfl (fun K hK => ?_) ?_
          · go_simp
            refine ⟨trivial, fun h => (by cases h), CallsIn.inRound l' (callsIn_wide.2 (HC.out.mono ?_))⟩
            rintro e w8 ⟨rfl, hb8⟩
            have e55 := (hb8.cell h1b).trans e5
            have f55 : Boxed w8 (W.heap.size + 1 + 1) _ _ := (hb8.block _ h1b).trans HZ.out.1
            have g55 := f55.frozen
            have H8 := hid (And.intro hb8 f55)
            clear hb8 f55
            refine hK _ _ ?_
            clear hK K
            refine wpAnyIn_ready (rs := [4]) (by kernel_rfl) (by simp) ?_
            refine AllReadyIn.cons rfl (fun K hK => ?_) ?_
            · go_simp
              refine hK _ _ ?_
              clear hK K
              refine wpAnyIn_ready (rs := [5]) (by kernel_rfl) (by simp) ?_
              refine AllReadyIn.cons rfl (fun K hK => ?_) ?_
              · go_simp
                refine hK _ _ ?_
                clear hK K
                refine wpAnyIn_done (by kernel_rfl) ?_ _
                gi_wp2_with fail
                all_goals exact HFIN.out w8 _ H8.out.1 H8.out.2 (by rw [List.map_append]; simp only [List.map_cons, List.map_nil, maxL_snoc]; omega)
              exact AllReadyIn.nil
            exact AllReadyIn.nil
          exact AllReadyIn.nil
        exact AllReadyIn.nil
      refine AllReadyIn.cons rfl (fun K hK => ?_) ?_
      · go_simp
        refine hK _ _ ?_
        clear hK K
        refine wpAnyIn_ready (rs := [0, 3]) (by kernel_rfl) (by simp) ?_
        refine AllReadyIn.cons rfl (fun K hK => ?_) ?_
        · go_simp
          refine hK _ _ ?_
          clear hK K
          refine wpAnyIn_ready (rs := [3]) (by kernel_rfl) (by simp) ?_
          refine AllReadyIn.cons rfl (fun K hK => ?_) ?_
          · go_simp
            refine ⟨trivial, fun h => (by cases h), CallsIn.inRound l' (callsIn_wide.2 (HC.out.mono ?_))⟩
            rintro e w8 ⟨rfl, hb8⟩
            have e55 := (hb8.cell h1b).trans e5
            have f55 : Boxed w8 (W.heap.size + 1 + 1) _ _ := (hb8.block _ h1b).trans HZ.out.1
            have g55 := f55.frozen
            have H8 := hid (And.intro hb8 f55)
            clear hb8 f55
            refine hK _ _ ?_
            clear hK K
            refine wpAnyIn_ready (rs := [4]) (by kernel_rfl) (by simp) ?_
            refine AllReadyIn.cons rfl (fun K hK => ?_) ?_
            · go_simp
              refine hK _ _ ?_
              clear hK K
              refine wpAnyIn_ready (rs := [5]) (by kernel_rfl) (by simp) ?_
              refine AllReadyIn.cons rfl (fun K hK => ?_) ?_
              · go_simp
                refine hK _ _ ?_
                clear hK K
                refine wpAnyIn_done (by kernel_rfl) ?_ _
                gi_wp2_with fail
                all_goals exact HFIN.out w8 _ H8.out.1 H8.out.2 (by rw [List.map_append]; simp only [List.map_cons, List.map_nil, maxL_snoc]; omega)
              exact AllReadyIn.nil
            exact AllReadyIn.nil
          exact AllReadyIn.nil
        refine AllReadyIn.cons rfl (fun K hK => ?_) ?_
        · go_simp
          refine ⟨trivial, fun h => (by cases h), CallsIn.inRound l' (callsIn_wide.2 (HC.out.mono ?_))⟩
          rintro e w8 ⟨rfl, hb8⟩
          have e55 := (hb8.cell h1b).trans e5
          have f55 : Boxed w8 (W.heap.size + 1 + 1) _ _ := (hb8.block _ h1b).trans HZ.out.1
          have g55 := f55.frozen
          have H8 := hid (And.intro hb8 f55)
          clear hb8 f55
          refine hK _ _ ?_
          clear hK K
          refine wpAnyIn_ready (rs := [0]) (by kernel_rfl) (by simp) ?_
          refine AllReadyIn.cons rfl (fun K hK => ?_) ?_
          · go_simp
            refine hK _ _ ?_
            clear hK K
            refine wpAnyIn_ready (rs := [4]) (by kernel_rfl) (by simp) ?_
            refine AllReadyIn.cons rfl (fun K hK => ?_) ?_
            · go_simp
              refine hK _ _ ?_
              clear hK K
              refine wpAnyIn_ready (rs := [5]) (by kernel_rfl) (by simp) ?_
              refine AllReadyIn.cons rfl (fun K hK => ?_) ?_
              · go_simp
                refine hK _ _ ?_
                clear hK K
                refine wpAnyIn_done (by kernel_rfl) ?_ _
                gi_wp2_with fail
                all_goals exact HFIN.out w8 _ H8.out.1 H8.out.2 (by rw [List.map_append]; simp only [List.map_cons, List.map_nil, maxL_snoc]; omega)
              exact AllReadyIn.nil
            exact AllReadyIn.nil
          exact AllReadyIn.nil
        exact AllReadyIn.nil
      exact AllReadyIn.nil
    refine AllReadyIn.cons rfl (fun K hK => ?_) ?_
    · go_simp
      refine hK _ _ ?_
      clear hK K
      refine wpAnyIn_ready (rs := [0, 1]) (by kernel_rfl) (by simp) ?_
      refine AllReadyIn.cons rfl (fun K hK => ?_) ?_
      · go_simp
        refine hK _ _ ?_
        clear hK K
        refine wpAnyIn_ready (rs := [1]) (by kernel_rfl) (by simp) ?_
        refine AllReadyIn.cons rfl (fun K hK => ?_) ?_
        · go_simp
          refine hK _ _ ?_
          clear hK K
          refine wpAnyIn_ready (rs := [3]) (by kernel_rfl) (by simp) ?_
          refine AllReadyIn.cons rfl (fun K hK => ?_) ?_
          · go_simp
            refine ⟨trivial, fun h => (by cases h), CallsIn.inRound l' (callsIn_wide.2 (HC.out.mono ?_))⟩
            rintro e w8 ⟨rfl, hb8⟩
            have e55 := (hb8.cell h1b).trans e5
            have f55 : Boxed w8 (W.heap.size + 1 + 1) _ _ := (hb8.block _ h1b).trans HZ.out.1
            have g55 := f55.frozen
            have H8 := hid (And.intro hb8 f55)
            clear hb8 f55
            refine hK _ _ ?_
            clear hK K
            refine wpAnyIn_ready (rs := [4]) (by kernel_rfl) (by simp) ?_
            refine AllReadyIn.cons rfl (fun K hK => ?_) ?_
            · go_simp
              refine hK _ _ ?_
              clear hK K
              refine wpAnyIn_ready (rs := [5]) (by kernel_rfl) (by simp) ?_
              refine AllReadyIn.cons rfl (fun K hK => ?_) ?_
              · go_simp
                refine hK _ _ ?_
                clear hK K
                refine wpAnyIn_done (by kernel_rfl) ?_ _
                gi_wp2_with fail
                all_goals exact HFIN.out w8 _ H8.out.1 H8.out.2 (by rw [List.map_append]; simp only [List.map_cons, List.map_nil, maxL_snoc]; omega)
              exact AllReadyIn.nil
            exact AllReadyIn.nil
          exact AllReadyIn.nil
        exact AllReadyIn.nil
      refine AllReadyIn.cons rfl (fun K hK => ?_) ?_
      · go_simp
        refine hK _ _ ?_
        clear hK K
        refine wpAnyIn_ready (rs := [0, 3]) (by kernel_rfl) (by simp) ?_
        refine AllReadyIn.cons rfl (fun K hK => ?_) ?_
        · go_simp
          refine hK _ _ ?_
          clear hK K
          refine wpAnyIn_ready (rs := [3]) (by kernel_rfl) (by simp) ?_
          refine AllReadyIn.cons rfl (fun K hK => ?_) ?_
          · go_simp
            refine ⟨trivial, fun h => (by cases h), CallsIn.inRound l' (callsIn_wide.2 (HC.out.mono ?_))⟩
            rintro e w8 ⟨rfl, hb8⟩
            have e55 := (hb8.cell h1b).trans e5
            have f55 : Boxed w8 (W.heap.size + 1 + 1) _ _ := (hb8.block _ h1b).trans HZ.out.1
            have g55 := f55.frozen
            have H8 := hid (And.intro hb8 f55)
            clear hb8 f55
            refine hK _ _ ?_
            clear hK K
            refine wpAnyIn_ready (rs := [4]) (by kernel_rfl) (by simp) ?_
            refine AllReadyIn.cons rfl (fun K hK => ?_) ?_
            · go_simp
              refine hK _ _ ?_
              clear hK K
              refine wpAnyIn_ready (rs := [5]) (by kernel_rfl) (by simp) ?_
              refine AllReadyIn.cons rfl (fun K hK => ?_) ?_
              · go_simp
                refine hK _ _ ?_
                clear hK K
                refine wpAnyIn_done (by kernel_rfl) ?_ _
                gi_wp2_with fail
                all_goals exact HFIN.out w8 _ H8.out.1 H8.out.2 (by rw [List.map_append]; simp only [List.map_cons, List.map_nil, maxL_snoc]; omega)
              exact AllReadyIn.nil
            exact AllReadyIn.nil
          exact AllReadyIn.nil
        refine AllReadyIn.cons rfl (fun K hK => ?_) ?_
        · go_simp
          refine ⟨trivial, fun h => (by cases h), CallsIn.inRound l' (callsIn_wide.2 (HC.out.mono ?_))⟩
          rintro e w8 ⟨rfl, hb8⟩
          have e55 := (hb8.cell h1b).trans e5
          have f55 : Boxed w8 (W.heap.size + 1 + 1) _ _ := (hb8.block _ h1b).trans HZ.out.1
          have g55 := f55.frozen
          have H8 := hid (And.intro hb8 f55)
          clear hb8 f55
          refine hK _ _ ?_
          clear hK K
          refine wpAnyIn_ready (rs := [0]) (by kernel_rfl) (by simp) ?_
          refine AllReadyIn.cons rfl (fun K hK => ?_) ?_
          · go_simp
            refine hK _ _ ?_
            clear hK K
            refine wpAnyIn_ready (rs := [4]) (by kernel_rfl) (by simp) ?_
            refine AllReadyIn.cons rfl (fun K hK => ?_) ?_
            · go_simp
              refine hK _ _ ?_
              clear hK K
              refine wpAnyIn_ready (rs := [5]) (by kernel_rfl) (by simp) ?_
              refine AllReadyIn.cons rfl (fun K hK => ?_) ?_
              · go_simp
                refine hK _ _ ?_
                clear hK K
                refine wpAnyIn_done (by kernel_rfl) ?_ _
                gi_wp2_with fail
                all_goals exact HFIN.out w8 _ H8.out.1 H8.out.2 (by rw [List.map_append]; simp only [List.map_cons, List.map_nil, maxL_snoc]; omega)
              exact AllReadyIn.nil
            exact AllReadyIn.nil
          exact AllReadyIn.nil
        exact AllReadyIn.nil
      exact AllReadyIn.nil
    exact AllReadyIn.nil
  case done =>
    rintro D ys W9 hD hS ⟨h1, h2, h3⟩ hK
    have c0 := h1.cell
    have hdm : maxL (ys.map (·.t.depth)) + 1 = x.t.depth := by
      rw [Ty.depth_parts, ← hS, List.map_map]; simp only [Function.comp_def]; omega
    have hdl := x.t.depth_size
    have HB := hid (And.intro h3 (And.intro hK hdm))
    have hlt : maxL (ys.map (·.t.depth)) ≤ 1099511627776 := by omega
    clear h1 h2 h3 hK hS hdm
    gi_wp2_with fail
    refine ⟨by simp, .inl ⟨_, _, rfl, run_takeDeferred HB.out.2.1, ?_⟩⟩
    refine ⟨_, results_tmp rfl _ _ _, ?_, HB.out.1.trans (below_put (by omega) HB.out.2.1)⟩
    rw [← HB.out.2.2]
    simp
    omega
  case stop =>
    rintro D c pre W hD hv h _
    exact h.elim
end Go.Proofs.YtjedcijddlilaaaGreatDoor

namespace Go.Proofs.YtjedcijddlilaaaGreatDoor
open Go.RowKit Go.Shelf
attribute [local go_sem] Oper.semAt_some

theorem depth_all (w0 : World) : ∀ s : Nat, s ≤ 1099511627776 → DepT w0 s := by
  intro s
  induction s with
  | zero => intro _ x hx; exact absurd hx (by unfold Ty.size; omega)
  | succ s ih => intro hs; exact depth_step w0 s hs (ih (by omega))

set_option maxRecDepth 100000 in
theorem typeDepth_any {t : Ty} {v : Value} {w : World} (hv : TyV w v t) (hbig : t.size ≤ 1099511627776) :
    Calls Tryz.prog 35 #[v] w fun e w' => e = .returned (.int .i64 (t.depth : Int)) ∧ Below w.heap.size w w' := by
  obtain ⟨x, rfl, rfl⟩ := tyI_of hv
  clear hv
  obtain ⟨wa, hwa⟩ : ∃ wa, w.alloc (.cells #[.int .i64 x.t.k, .string x.t.m, .string x.t.n, .slice x.aa x.t.A.len x.ca, .slice x.af x.t.F.len x.cf] 25) = wa := ⟨_, rfl⟩
  have hba : Below w.heap.size w wa := by rw [← hwa]; exact (Below.refl _ w).alloc (Nat.le_refl _) _
  have hea : wa.heap[w.heap.size]? = some (.cells #[.int .i64 x.t.k, .string x.t.m, .string x.t.n, .slice x.aa x.t.A.len x.ca, .slice x.af x.t.F.len x.cf] 25 (0, 0)) := by rw [← hwa]; exact World.alloc_heap_new _ _
  have k0 := cell_of_row wa _ 0 _ _ _ hea
  have k1 := cell_of_row wa _ 1 _ _ _ hea
  have k2 := cell_of_row wa _ 2 _ _ _ hea
  have k3 := cell_of_row wa _ 3 _ _ _ hea
  have k4 := cell_of_row wa _ 4 _ _ _ hea
  have HC := hid (And.intro (depth_all w x.t.size hbig x (Nat.le_refl _) wa (KeepX.of_below hba)) hba)
  clear hba hea hbig
  show Calls Tryz.prog 35 #[.agg #[.int .i64 x.t.k, .string x.t.m, .string x.t.n, .slice x.aa x.t.A.len x.ca, .slice x.af x.t.F.len x.cf]] w _
  go_enter Tryz.func35, Tryz.ntmps35
  go_wp2_with fail
  refine HC.out.1.mono ?_
  rintro e w' ⟨rfl, hb⟩
  go_wp2_with fail
  go_ret
  exact ⟨rfl, HC.out.2.trans (hb.mono HC.out.2.size)⟩
end Go.Proofs.YtjedcijddlilaaaGreatDoor
