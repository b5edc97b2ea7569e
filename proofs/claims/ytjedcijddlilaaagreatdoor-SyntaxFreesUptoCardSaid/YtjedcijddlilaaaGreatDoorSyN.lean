/- syntax: the nodes of a type, counted. -/
import Derived.Test.YtjedcijddlilaaaGreatDoorSyV
namespace Go.Proofs.YtjedcijddlilaaaGreatDoor
open Go.RowKit Go.Shelf
attribute [local go_sem] Oper.semAt_some

set_option maxHeartbeats 1000000 in
/-- The iterator over the nodes. -/
theorem nodes_seq (w0 : World) (x : TyI w0) (hbig : x.t.size ≤ 1099511627776) (B1 B2 : Nat) (w : World) (h1 : w.heap[B1]? = some (.cells x.cells 25 (0, 0)))
    (h2 : Boxed w B2 79 (.func (.func 79) #[] #[])) (hold : KeepX (fun _ => False) w0 w) (X : Nat → Prop) (hX : ∀ i, X i → w0.heap.size ≤ i ∧ i < w.heap.size) :
    SeqB Tryz.prog 154 #[.pointer (some ⟨B1, 0, none⟩), .pointer (some ⟨B2, 0, none⟩)] (fun y : TyI w0 => #[y.v]) X (fun ys => ys.map (·.t) = x.t.nodes) (fun ys => ys.map (·.t) <+: x.t.nodes) w := by
  intro n l J Jx W hb hJ hJx hY h0
  have hB1 : B1 < w.heap.size := (Array.getElem?_eq_some_iff.1 h1).1
  have hB2 : B2 < w.heap.size := h2.lt
  have hs := hb.size
  have HC := hid (visit_in w0 l W.heap.size X (fun i hi => ⟨(hX i hi).1, Nat.lt_of_lt_of_le (hX i hi).2 hs⟩) (fun ys => ys.map (·.t) <+: x.t.nodes) J Jx hJ hJx hY _ x (Nat.le_refl _) hbig (n - 1) [] W (hold.trans (KeepX.of_below hb)) (Nat.le_refl _) h0 (fun _ h => h))
  have k1 := (hb.block B1 hB1).trans h1
  have k2 : Boxed W _ _ _ := (hb.block B2 hB2).trans h2
  have hxc : x.cells = #[.int .i64 x.t.k, .string x.t.m, .string x.t.n, .slice x.aa x.t.A.len x.ca, .slice x.af x.t.F.len x.cf] := rfl
  rw [hxc] at k1
  have c0 := cell_of_row W B1 0 _ _ _ k1
  have c1 := cell_of_row W B1 1 _ _ _ k1
  have c2 := cell_of_row W B1 2 _ _ _ k1
  have c3 := cell_of_row W B1 3 _ _ _ k1
  have c4 := cell_of_row W B1 4 _ _ _ k1
  have c5 := k2.cell
  clear h1 h2 hold hX hb hJ hJx hY h0 hB1 hB2 hs k1 k2 hxc
  refine callsIn_of_wp Tryz.func154 rfl trivial ?_ rfl
  simp only [Tryz.ntmps154, List.size_toArray, List.length_cons, List.length_nil, Nat.reduceAdd, Nat.reduceSub, Array.replicate_succ, Array.replicate_zero, List.push_toArray, List.append_toArray, List.nil_append, List.cons_append]
  gi_wp2_with fail
  refine ⟨trivial, fun h => (by cases h), HC.out.mono ?_⟩
  rintro e W3 (⟨rfl, ⟨ys, hys, hJ3⟩, _⟩ | ⟨rfl, ⟨ys, hys, hJ3⟩, _⟩)
  · gi_wp2_with fail
    go_end0
    exact ⟨⟨_, rfl⟩, .inl ⟨ys, hys, by simpa using hJ3⟩⟩
  · gi_wp2_with fail
    go_end0
    exact ⟨⟨_, rfl⟩, .inr ⟨ys, hys, by simpa using hJ3⟩⟩

/-- What typeSize counts. -/
def tsz (n : Nat) (most : Int) : Int := if (n : Int) ≤ most then n else max 1 (most + 1)
set_option maxRecDepth 100000 in
set_option maxHeartbeats 4000000 in
theorem typeSize0_any (t : Ty) (v : Value) (most : Int) (w : World) (hv : TyV w v t) (hbig : t.size ≤ 1099511627776) :
    Calls Tryz.prog 47 #[v, .int .i64 most] w fun e w' => e = .returned (.int .i64 (tsz t.size most)) ∧ Below w.heap.size w w' := by
  obtain ⟨x, rfl, rfl⟩ := tyI_of hv
  clear hv
  have HN := hid (fun w => typeNodes_any x w)
  have hxc : x.cells = #[.int .i64 x.t.k, .string x.t.m, .string x.t.n, .slice x.aa x.t.A.len x.ca, .slice x.af x.t.F.len x.cf] := rfl
  have HXc := hid hxc
  clear hxc
  have HN' : Kpt (∀ w, Calls Tryz.prog 48 #[.agg #[.int .i64 x.t.k, .string x.t.m, .string x.t.n, .slice x.aa x.t.A.len x.ca, .slice x.af x.t.F.len x.cf]] w _) := hid HN.out
  clear HN
  show Calls Tryz.prog 47 #[.agg #[.int .i64 x.t.k, .string x.t.m, .string x.t.n, .slice x.aa x.t.A.len x.ca, .slice x.af x.t.F.len x.cf], .int .i64 most] w _
  refine (callsIn_wide (n := 9)).1 ?_
  refine callsIn_of_wp_marks Tryz.func47 rfl trivial ?_ rfl
  simp only [Tryz.ntmps47, List.size_toArray, List.length_cons, List.length_nil, Nat.reduceAdd, Nat.reduceSub, Array.replicate_succ, Array.replicate_zero, List.push_toArray, List.append_toArray, List.nil_append, List.cons_append]
  gi_wp2_with fail
  refine ⟨trivial, callsIn_wide.2 ((HN'.out _).mono ?_)⟩
  rintro e W6 ⟨rfl, hW6⟩
  simp only [World.size_alloc] at hW6 ⊢
  gi_wp2_with fail
  rw [← HXc.out] at hW6
  have b0 : Boxed W6 (w.heap.size + 1) 3 (.int .i64 most) := by
    rw [hW6]; have h := ((((Boxed.new (w.alloc (.cells x.cells 25)) 3 (.int .i64 most)).alloc (.cells #[.int .i64 0] 3)).alloc (.cells x.cells 25)).alloc (.cells x.cells 25)).alloc (.cells #[.func (.func 79) #[] #[]] 79)
    simpa only [World.size_alloc] using h
  have b1 : Boxed W6 (w.heap.size + 1 + 1) 3 (.int .i64 0) := by
    rw [hW6]; have h := (((Boxed.new ((w.alloc (.cells x.cells 25)).alloc (.cells #[.int .i64 most] 3)) 3 (.int .i64 0)).alloc (.cells x.cells 25)).alloc (.cells x.cells 25)).alloc (.cells #[.func (.func 79) #[] #[]] 79)
    simpa only [World.size_alloc] using h
  have b2 : W6.heap[w.heap.size + 1 + 1 + 1 + 1]? = some (.cells x.cells 25 (0, 0)) := by
    rw [hW6]
    refine (Below.heap_alloc _ _ _ (by simp)).trans ?_
    have h := World.alloc_heap_new ((((w.alloc (.cells x.cells 25)).alloc (.cells #[.int .i64 most] 3)).alloc (.cells #[.int .i64 0] 3)).alloc (.cells x.cells 25)) (.cells x.cells 25)
    simpa only [World.size_alloc] using h
  have b3 : Boxed W6 (w.heap.size + 1 + 1 + 1 + 2) 79 (.func (.func 79) #[] #[]) := by
    rw [hW6]; have h := Boxed.new (((((w.alloc (.cells x.cells 25)).alloc (.cells #[.int .i64 most] 3)).alloc (.cells #[.int .i64 0] 3)).alloc (.cells x.cells 25)).alloc (.cells x.cells 25)) 79 (.func (.func 79) #[] #[])
    simpa only [World.size_alloc] using h
  have hsz : W6.heap.size = w.heap.size + 6 := by rw [hW6]; simp
  have hB : Below w.heap.size w W6 := by
    rw [hW6]; exact ((((((Below.refl _ w).alloc (Nat.le_refl _) _).alloc (by simp) _).alloc (by simp; omega) _).alloc (by simp; omega) _).alloc (by simp; omega) _).alloc (by simp; omega) _
  clear hW6
  refine range_plain (gf := 154) (lb := #[.pointer (some ⟨w.heap.size + 1 + 1 + 1 + 1, 0, none⟩), .pointer (some ⟨w.heap.size + 1 + 1 + 1 + 2, 0, none⟩)]) rfl (enters_of Tryz.func154 (by kernel_rfl) rfl)
    (nodes_seq w x hbig (w.heap.size + 1 + 1 + 1 + 1) (w.heap.size + 1 + 1 + 1 + 2) W6 b2 b3 (KeepX.of_below hB) (fun i => i = w.heap.size + 1 + 1) (fun i hi => by omega))
    (fun i hi => by omega) (Below.refl _ _) (fun _ => rfl)
    (fun pre W => Boxed W (w.heap.size + 1 + 1) 3 (.int .i64 (pre.length : Int)) ∧ Boxed W (w.heap.size + 1) 3 (.int .i64 most) ∧ ((pre.length : Int) ≤ most ∨ pre = []) ∧ Below w.heap.size w W)
    (fun c pre W => c = .exit 0 ∧ Boxed W (w.heap.size + 1 + 1) 3 (.int .i64 (pre.length : Int)) ∧ (pre.length : Int) = max 1 (most + 1) ∧ Below w.heap.size w W)
    ?hI ?hIx ⟨b1, b0, .inr rfl, hB⟩ ?body ?done ?stop
  case hI =>
    intro s A B hs hb
    exact ⟨(hb.block _ (by omega)).trans hs.1, (hb.block _ (by omega)).trans hs.2.1, hs.2.2.1, hs.2.2.2.trans (hb.mono (by omega))⟩
  case hIx =>
    intro c s A B hs hb
    exact ⟨hs.1, (hb.block _ (by omega)).trans hs.2.1, hs.2.2.1, hs.2.2.2.trans (hb.mono (by omega))⟩
  case body =>
    rintro m l pre y W hl ⟨r, hr⟩ ⟨h1, h2, h3, h4⟩ hv
    have hlen : pre.length + 1 ≤ 1099511627776 := by
      have h := hv.length_le
      rw [List.length_map, List.length_append, List.length_singleton, Ty.nodes_len] at h
      omega
    have c0 := h1.cell
    have c1 := h1.frozen
    have c2 := h2.cell
    have c3 : Boxed (W.setCell ⟨w.heap.size + 1 + 1, 0, none⟩ (.int .i64 ((pre.length : Int) + 1))) (w.heap.size + 1) 3 (.int .i64 most) := h2.other (by omega) _
    have c4 := c3.cell
    have HB := hid (And.intro h1 (And.intro h3 (And.intro h4 (And.intro hv c3))))
    clear h1 h2 h3 h4 hv c3
    have hw : wrap64 ((pre.length : Int) + 1) = (pre.length : Int) + 1 := by unfold wrap64; omega
    dsimp only [TyI.v, TyI.cells]
    have hset := HB.out.1.set (.int .i64 ((pre.length : Int) + 1))
    have hkx := KeepX.set W (w.heap.size + 1 + 1) (.int .i64 ((pre.length : Int) + 1))
    have hbe : Below w.heap.size W (W.setCell ⟨w.heap.size + 1 + 1, 0, none⟩ (.int .i64 ((pre.length : Int) + 1))) := below_set W _ (by omega)
    have hse := hset.cell
    have HS := hid (And.intro hset (And.intro hkx hbe))
    clear hset hkx hbe
    have hl1 : (((pre ++ [y]).length : Nat) : Int) = (pre.length : Int) + 1 := by simp
    have HL := hid hl1
    clear hl1
    by_cases hgt : most < (pre.length : Int) + 1
    · gi_wp2_with fail
      refine ⟨HS.out.2.1.mono (fun i hi => by show i < W6.heap.size; omega), rfl, ?_, ?_, HB.out.2.2.1.trans HS.out.2.2⟩
      · rw [HL.out]; exact HS.out.1
      · rw [HL.out]
        rcases HB.out.2.1 with h | h
        · omega
        · rw [h] at hgt ⊢; simp at hgt ⊢; omega
    · gi_wp2_with fail
      refine ⟨HS.out.2.1, ?_, HB.out.2.2.2.2, .inl ?_, HB.out.2.2.1.trans HS.out.2.2⟩
      · rw [HL.out]; exact HS.out.1
      · rw [HL.out]; omega
  case done =>
    rintro D ys W hD hS ⟨h1, h2, h3, h4⟩ hK
    have c0 := h1.cell
    have HB := hid (And.intro h3 (And.intro h4 (And.intro hK hS)))
    clear h1 h2 h3 h4 hK hS
    gi_wp2_with fail
    refine ⟨by simp, .inl ⟨_, _, rfl, run_takeDeferred HB.out.2.2.1, ?_⟩⟩
    have hl : (ys.length : Int) = (x.t.size : Int) := by rw [← Ty.nodes_len, ← HB.out.2.2.2, List.length_map]
    refine ⟨_, results_tmp rfl _ _ _, ?_, HB.out.2.1.trans (below_put (by omega) HB.out.2.2.1)⟩
    have h5 : tsz x.t.size most = (ys.length : Int) := by
      rcases HB.out.1 with h | h
      · unfold tsz; rw [if_pos (by omega), hl]
      · rw [h] at hl; simp [Ty.size] at hl; omega
    rw [h5]
    rfl
  case stop =>
    rintro D c pre W hD hv ⟨rfl, h1, h2, h3⟩ hK
    have c0 := h1.cell
    have HB := hid (And.intro h2 (And.intro h3 (And.intro hK hv)))
    clear h1 h2 h3 hK hv
    gi_wp2_with fail
    refine ⟨by simp, .inl ⟨_, _, rfl, run_takeDeferred HB.out.2.2.1, ?_⟩⟩
    refine ⟨_, results_tmp rfl _ _ _, ?_, HB.out.2.1.trans (below_put (by omega) HB.out.2.2.1)⟩
    have hl := HB.out.2.2.2.length_le
    rw [List.length_map, Ty.nodes_len] at hl
    have h5 : tsz x.t.size most = (pre.length : Int) := by
      unfold tsz
      have h6 := HB.out.1
      by_cases hq : (x.t.size : Int) ≤ most
      · rw [if_pos hq]; simp only [Ty.size] at *; omega
      · rw [if_neg hq, h6]
    rw [h5]
    rfl
end Go.Proofs.YtjedcijddlilaaaGreatDoor
