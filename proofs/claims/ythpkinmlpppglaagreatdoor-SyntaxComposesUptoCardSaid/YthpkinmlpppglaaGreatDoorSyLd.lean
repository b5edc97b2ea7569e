/- syntax: SyntaxComposes. -/
import Derived.Test.YthpkinmlpppglaaGreatDoorSyL
namespace Go.Proofs.YthpkinmlpppglaaGreatDoor
open Go.RowKit Go.Shelf
attribute [local go_sem] Oper.semAt_some

set_option maxRecDepth 100000 in
set_option maxHeartbeats 40000000 in
theorem composes_law (W : World) (x1 x2 x3 : TyI W) (sx sy : ByteArray) (hE : Env W) (hb1 : x1.t.bk ≤ 1048576) (hb2 : x2.t.bk ≤ 1048576) (hb3 : x3.t.bk ≤ 1048576) :
    Calls Tryz.prog 8 #[.agg #[.int .i64 x1.t.k, .string x1.t.m, .string x1.t.n, .slice x1.aa x1.t.A.len x1.ca, .slice x1.af x1.t.F.len x1.cf], .agg #[.int .i64 x2.t.k, .string x2.t.m, .string x2.t.n, .slice x2.aa x2.t.A.len x2.ca, .slice x2.af x2.t.F.len x2.cf], .agg #[.int .i64 x3.t.k, .string x3.t.m, .string x3.t.n, .slice x3.aa x3.t.A.len x3.ca, .slice x3.af x3.t.F.len x3.cf], .string sx, .string sy] W fun e W' => e = .returned (.bool true) ∧ Below W.heap.size W W' := by
  have hs1 := x1.t.size_bk
  have hs2 := x2.t.size_bk
  have hs3 := x3.t.size_bk
  have HNM := hid (fun p (hp : p ∈ x1.t.nodes) => (show p.n.size ≤ maxLen by have h := x1.t.name_bk p hp; unfold maxLen; omega))
  obtain ⟨wa, hwa⟩ : ∃ wa, ((W.alloc (.cells #[.int .i64 x1.t.k, .string x1.t.m, .string x1.t.n, .slice x1.aa x1.t.A.len x1.ca, .slice x1.af x1.t.F.len x1.cf] 25)).alloc (.cells #[.int .i64 x2.t.k, .string x2.t.m, .string x2.t.n, .slice x2.aa x2.t.A.len x2.ca, .slice x2.af x2.t.F.len x2.cf] 25)).alloc (.cells #[.int .i64 x3.t.k, .string x3.t.m, .string x3.t.n, .slice x3.aa x3.t.A.len x3.ca, .slice x3.af x3.t.F.len x3.cf] 25) = wa := ⟨_, rfl⟩
  have hba : Bx W x1 x2 x3 wa := by
    refine ⟨?_, ?_, ?_, ?_⟩
    · rw [← hwa]; exact (((Below.refl _ W).alloc (Nat.le_refl _) _).alloc (by simp) _).alloc (by simp <;> omega) _
    · rw [← hwa]; exact (Below.heap_alloc _ _ _ (by simp <;> omega)).trans ((Below.heap_alloc _ _ _ (by simp)).trans (World.alloc_heap_new W _))
    · rw [← hwa]
      refine (Below.heap_alloc _ _ _ (by simp)).trans ?_
      have h := World.alloc_heap_new (W.alloc (.cells #[.int .i64 x1.t.k, .string x1.t.m, .string x1.t.n, .slice x1.aa x1.t.A.len x1.ca, .slice x1.af x1.t.F.len x1.cf] 25)) (.cells #[.int .i64 x2.t.k, .string x2.t.m, .string x2.t.n, .slice x2.aa x2.t.A.len x2.ca, .slice x2.af x2.t.F.len x2.cf] 25)
      simpa only [World.size_alloc] using h
    · rw [← hwa]
      have h := World.alloc_heap_new ((W.alloc (.cells #[.int .i64 x1.t.k, .string x1.t.m, .string x1.t.n, .slice x1.aa x1.t.A.len x1.ca, .slice x1.af x1.t.F.len x1.cf] 25)).alloc (.cells #[.int .i64 x2.t.k, .string x2.t.m, .string x2.t.n, .slice x2.aa x2.t.A.len x2.ca, .slice x2.af x2.t.F.len x2.cf] 25)) (.cells #[.int .i64 x3.t.k, .string x3.t.m, .string x3.t.n, .slice x3.aa x3.t.A.len x3.ca, .slice x3.af x3.t.F.len x3.cf] 25)
      simpa only [World.size_alloc] using h
  have HAW := hid (awakeS_any wa (hE.below hba.below))
  have HA := hid hba
  clear hba hE
  go_enter Tryz.func8, Tryz.ntmps8
  go_wp2_with fail
  refine HAW.out.mono ?_
  rintro e w2 ⟨rfl, hb⟩
  have HB := hid (HA.out.later hb)
  clear hb hwa
  have c10 := cell_of_row w2 _ 0 _ _ _ HB.out.row1
  have c11 := cell_of_row w2 _ 1 _ _ _ HB.out.row1
  have c12 := cell_of_row w2 _ 2 _ _ _ HB.out.row1
  have c13 := cell_of_row w2 _ 3 _ _ _ HB.out.row1
  have c14 := cell_of_row w2 _ 4 _ _ _ HB.out.row1
  have c20 := cell_of_row w2 _ 0 _ _ _ HB.out.row2
  have c21 := cell_of_row w2 _ 1 _ _ _ HB.out.row2
  have c22 := cell_of_row w2 _ 2 _ _ _ HB.out.row2
  have c23 := cell_of_row w2 _ 3 _ _ _ HB.out.row2
  have c24 := cell_of_row w2 _ 4 _ _ _ HB.out.row2
  have c30 := cell_of_row w2 _ 0 _ _ _ HB.out.row3
  have c31 := cell_of_row w2 _ 1 _ _ _ HB.out.row3
  have c32 := cell_of_row w2 _ 2 _ _ _ HB.out.row3
  have c33 := cell_of_row w2 _ 3 _ _ _ HB.out.row3
  have c34 := cell_of_row w2 _ 4 _ _ _ HB.out.row3
  obtain ⟨w3, hw3⟩ : ∃ w3, w2.alloc (.cells #[.int .i64 x1.t.k, .string x1.t.m, .string x1.t.n, .slice x1.aa x1.t.A.len x1.ca, .slice x1.af x1.t.F.len x1.cf, .int .i64 x2.t.k, .string x2.t.m, .string x2.t.n, .slice x2.aa x2.t.A.len x2.ca, .slice x2.af x2.t.F.len x2.cf, .int .i64 x3.t.k, .string x3.t.m, .string x3.t.n, .slice x3.aa x3.t.A.len x3.ca, .slice x3.af x3.t.F.len x3.cf] 25) = w3 := ⟨_, rfl⟩
  have hb3' : Below w2.heap.size w2 w3 := by rw [← hw3]; exact (Below.refl _ w2).alloc (Nat.le_refl _) _
  have e3 : w3.heap[w2.heap.size]? = some (.cells #[.int .i64 x1.t.k, .string x1.t.m, .string x1.t.n, .slice x1.aa x1.t.A.len x1.ca, .slice x1.af x1.t.F.len x1.cf, .int .i64 x2.t.k, .string x2.t.m, .string x2.t.n, .slice x2.aa x2.t.A.len x2.ca, .slice x2.af x2.t.F.len x2.cf, .int .i64 x3.t.k, .string x3.t.m, .string x3.t.n, .slice x3.aa x3.t.A.len x3.ca, .slice x3.af x3.t.F.len x3.cf] 25 (0, 0)) := by rw [← hw3]; exact World.alloc_heap_new _ _
  have H3 := hid (HB.out.later hb3')
  have hrow : ∀ i y j u, [x1, x2, x3][i]? = some y → y.cells.toList[j]? = some u → w3.cell? ⟨w2.heap.size, i * 5 + j, none⟩ = some u := by
    intro i y j u hy hu
    have hj : j < 5 := (List.getElem?_eq_some_iff.1 hu).1
    have hj5 : j = 0 ∨ j = 1 ∨ j = 2 ∨ j = 3 ∨ j = 4 := by omega
    match i, hy with
    | 0, hy => cases hy; rcases hj5 with rfl | rfl | rfl | rfl | rfl <;> (cases hu; exact cell_of_row w3 _ _ _ _ _ e3)
    | 1, hy => cases hy; rcases hj5 with rfl | rfl | rfl | rfl | rfl <;> (cases hu; exact cell_of_row w3 _ _ _ _ _ e3)
    | 2, hy => cases hy; rcases hj5 with rfl | rfl | rfl | rfl | rfl <;> (cases hu; exact cell_of_row w3 _ _ _ _ _ e3)
  have hfew := fewT_any W [x1, x2, x3] w2.heap.size 3 200 w3 H3.out.below hrow (by show x1.t.size + (x2.t.size + (x3.t.size + 0)) ≤ _; omega) (by show 3 ≤ _; omega)
  have hsm : (([x1, x2, x3].map (·.t)).map Ty.size).sum = x1.t.size + (x2.t.size + (x3.t.size + 0)) := rfl
  rw [hsm] at hfew
  have HF := hid (show Calls Tryz.prog 12 #[.int .i64 200, .slice (some ⟨w2.heap.size, 0, none⟩) 3 3] w3 _ from hfew)
  clear hsm hfew hrow e3 hb3'
  by_cases h200 : x1.t.size + (x2.t.size + (x3.t.size + 0)) ≤ 200
  · have hd : decide (((x1.t.size + (x2.t.size + (x3.t.size + 0)) : Nat) : Int) ≤ 200) = true := decide_eq_true (by omega)
    rw [hd] at HF
    clear hd
    by_cases hxy : sx = sy
    · have hee : (sx.toList == sy.toList) = true := by rw [hxy]; simp
      clear hxy
      go_wp2_with fail
      refine HF.out.mono ?_
      rintro e w4 ⟨rfl, hb4⟩
      have H4 := hid (H3.out.later hb4)
      clear hb4
      go_wp2_with fail
      go_ret
      exact ⟨rfl, H4.out.below⟩
    · have hee := toList_ne hxy
      have HXY := hid hxy
      clear hxy
      go_wp2_with fail
      refine HF.out.mono ?_
      rintro e w4 ⟨rfl, hb4⟩
      have H4 := hid (H3.out.later hb4)
      clear hb4 c10 c11 c12 c13 c14 c20 c21 c22 c23 c24 c30 c31 c32 c33 c34 hw3
      go_wp2_with fail
      refine wp_region_any (by kernel_rfl) ?_
      change wpAny _ _ _ _ 13 _ _ (World.drew _)
      have H5 := hid (H4.out.later (Below.refl _ w4).drew)
      generalize w4.drew = V0 at H5 ⊢
      refine wpAny_flow (n := 12) (Fact := Fact5 x1 x2 x3 sx sy) (Fx := Fx5 W sx sy) (G := Bx W x1 x2 x3) (Rel := RelB 10 11 36 11 ((x1.t.sub (findTy [sx] (oneT x2.t))).sub (findTy [sy] (oneT x3.t)))) (by kernel_rfl) ?back ?last ?step ?tail 13 _ _ _ ⟨rfl, rfl, ⟨_, _, _, _, _, _, _, _, _, _, _, _, _, _, _, _, _, _, _, _, _, _, _, _, _, _, _, _, _, _, _, _, _, _, _, _, _, _, _, _, _, _, _, _, _, _, _, _, _, _, _, _, _, _, _, _, _, _, _, _, _, _, _, rfl⟩, H5.out, relB_start _ _ _ _ _ _ _ _, fun i hi hl => ?l0⟩ (by decide)
      case back => exact flow_back_of (by kernel_rfl)
      case last => exact flow_last_of (by kernel_rfl)
      case l0 => rw [getD_replicate_false] at hl; cases hl
      case step =>
        rintro i hi listed a w hls hun hR ⟨u0, u1, u2, u8, u9, u10, u11, u12, u13, u14, u15, u16, u17, u18, u19, u20, u21, u22, u23, u24, u25, u26, u27, u28, u29, u30, u31, u32, u33, u34, u35, u36, u37, u38, u39, u40, u41, u42, u43, u44, u45, u46, u47, u48, u49, u50, u51, u52, u53, u54, u55, u56, u57, u58, u59, u60, u61, u62, u63, u64, u65, u66, u67, rfl⟩ hG hw
        rcases (by omega : i = 0 ∨ i = 1 ∨ i = 2 ∨ i = 3 ∨ i = 4 ∨ i = 5 ∨ i = 6 ∨ i = 7 ∨ i = 8 ∨ i = 9 ∨ i = 10 ∨ i = 11) with rfl | rfl | rfl | rfl | rfl | rfl | rfl | rfl | rfl | rfl | rfl | rfl
        · have c0 := cell_of_row w _ 0 _ _ _ hG.row1
          have c1 := cell_of_row w _ 1 _ _ _ hG.row1
          have c2 := cell_of_row w _ 2 _ _ _ hG.row1
          have c3 := cell_of_row w _ 3 _ _ _ hG.row1
          have c4 := cell_of_row w _ 4 _ _ _ hG.row1
          refine wpOp_of_list (i := 0) rfl ?_
          go_wp2_with fail
          exact ⟨⟨_, _, _, _, _, _, _, _, _, _, _, _, _, _, _, _, _, _, _, _, _, _, _, _, _, _, _, _, _, _, _, _, _, _, _, _, _, _, _, _, _, _, _, _, _, _, _, _, _, _, _, _, _, _, _, _, _, _, _, _, _, _, _, rfl⟩, hG, rfl, (fun j hj hne => by
              rcases (by omega : j = 0 ∨ j = 1 ∨ j = 2 ∨ j = 3 ∨ j = 4 ∨ j = 5 ∨ j = 6 ∨ j = 7 ∨ j = 8 ∨ j = 9 ∨ j = 10 ∨ j = 11) with rfl | rfl | rfl | rfl | rfl | rfl | rfl | rfl | rfl | rfl | rfl | rfl <;> first | exact absurd rfl hne | rfl), fun _ _ h => h, RelB.step hR (by decide) (by decide) rfl rfl (Below.refl _ _)⟩
        · skip
          refine wpOp_of_list (i := 1) rfl ?_
          go_wp2_with fail
          exact ⟨⟨_, _, _, _, _, _, _, _, _, _, _, _, _, _, _, _, _, _, _, _, _, _, _, _, _, _, _, _, _, _, _, _, _, _, _, _, _, _, _, _, _, _, _, _, _, _, _, _, _, _, _, _, _, _, _, _, _, _, _, _, _, _, _, rfl⟩, hG, rfl, (fun j hj hne => by
              rcases (by omega : j = 0 ∨ j = 1 ∨ j = 2 ∨ j = 3 ∨ j = 4 ∨ j = 5 ∨ j = 6 ∨ j = 7 ∨ j = 8 ∨ j = 9 ∨ j = 10 ∨ j = 11) with rfl | rfl | rfl | rfl | rfl | rfl | rfl | rfl | rfl | rfl | rfl | rfl <;> first | exact absurd rfl hne | rfl), fun _ _ h => h, RelB.step hR (by decide) (by decide) rfl rfl (Below.refl _ _)⟩
        · obtain rfl : u27 = .string sx := hw 1 (by kernel_rfl)
          obtain ⟨w1, hw1⟩ : ∃ w1, w.alloc (.cells #[.string sx] 9) = w1 := ⟨_, rfl⟩
          have hb : Below w.heap.size w w1 := by rw [← hw1]; exact (Below.refl _ w).alloc (Nat.le_refl _) _
          have hx : w1.heap[w.heap.size]? = some (.cells #[.string sx] 9 (0, 0)) := by rw [← hw1]; exact World.alloc_heap_new _ _
          have HH := hid (And.intro hb hx)
          clear hb hx
          refine wpOp_of_list (i := 2) rfl ?_
          go_wp2_with fail
          clear hw1
          have hb := HH.out.1
          have hx := HH.out.2
          exact ⟨⟨_, _, _, _, _, _, _, _, _, _, _, _, _, _, _, _, _, _, _, _, _, _, _, _, _, _, _, _, _, _, _, _, _, _, _, _, _, _, _, _, _, _, _, _, _, _, _, _, _, _, _, _, _, _, _, _, _, _, _, _, _, _, _, rfl⟩, hG.later hb, ⟨_, rfl, hx⟩, (fun j hj hne => by
              rcases (by omega : j = 0 ∨ j = 1 ∨ j = 2 ∨ j = 3 ∨ j = 4 ∨ j = 5 ∨ j = 6 ∨ j = 7 ∨ j = 8 ∨ j = 9 ∨ j = 10 ∨ j = 11) with rfl | rfl | rfl | rfl | rfl | rfl | rfl | rfl | rfl | rfl | rfl | rfl <;> first | exact absurd rfl hne | rfl), fun j v h => Fact5.later hb j v h, RelB.step hR (by decide) (by decide) rfl rfl hb⟩
        · have c0 := cell_of_row w _ 0 _ _ _ hG.row2
          have c1 := cell_of_row w _ 1 _ _ _ hG.row2
          have c2 := cell_of_row w _ 2 _ _ _ hG.row2
          have c3 := cell_of_row w _ 3 _ _ _ hG.row2
          have c4 := cell_of_row w _ 4 _ _ _ hG.row2
          refine wpOp_of_list (i := 3) rfl ?_
          go_wp2_with fail
          exact ⟨⟨_, _, _, _, _, _, _, _, _, _, _, _, _, _, _, _, _, _, _, _, _, _, _, _, _, _, _, _, _, _, _, _, _, _, _, _, _, _, _, _, _, _, _, _, _, _, _, _, _, _, _, _, _, _, _, _, _, _, _, _, _, _, _, rfl⟩, hG, rfl, (fun j hj hne => by
              rcases (by omega : j = 0 ∨ j = 1 ∨ j = 2 ∨ j = 3 ∨ j = 4 ∨ j = 5 ∨ j = 6 ∨ j = 7 ∨ j = 8 ∨ j = 9 ∨ j = 10 ∨ j = 11) with rfl | rfl | rfl | rfl | rfl | rfl | rfl | rfl | rfl | rfl | rfl | rfl <;> first | exact absurd rfl hne | rfl), fun _ _ h => h, RelB.step hR (by decide) (by decide) rfl rfl (Below.refl _ _)⟩
        · obtain rfl : u29 = .agg #[.int .i64 x2.t.k, .string x2.t.m, .string x2.t.n, .slice x2.aa x2.t.A.len x2.ca, .slice x2.af x2.t.F.len x2.cf] := hw 3 (by kernel_rfl)
          obtain ⟨w1, hw1⟩ : ∃ w1, w.alloc (.cells #[.int .i64 x2.t.k, .string x2.t.m, .string x2.t.n, .slice x2.aa x2.t.A.len x2.ca, .slice x2.af x2.t.F.len x2.cf] 25) = w1 := ⟨_, rfl⟩
          have hb : Below w.heap.size w w1 := by rw [← hw1]; exact (Below.refl _ w).alloc (Nat.le_refl _) _
          have hx : w1.heap[w.heap.size]? = some (.cells #[.int .i64 x2.t.k, .string x2.t.m, .string x2.t.n, .slice x2.aa x2.t.A.len x2.ca, .slice x2.af x2.t.F.len x2.cf] 25 (0, 0)) := by rw [← hw1]; exact World.alloc_heap_new _ _
          have HH := hid (And.intro hb hx)
          clear hb hx
          refine wpOp_of_list (i := 4) rfl ?_
          go_wp2_with fail
          clear hw1
          have hb := HH.out.1
          have hx := HH.out.2
          exact ⟨⟨_, _, _, _, _, _, _, _, _, _, _, _, _, _, _, _, _, _, _, _, _, _, _, _, _, _, _, _, _, _, _, _, _, _, _, _, _, _, _, _, _, _, _, _, _, _, _, _, _, _, _, _, _, _, _, _, _, _, _, _, _, _, _, rfl⟩, hG.later hb, ⟨_, rfl, hx⟩, (fun j hj hne => by
              rcases (by omega : j = 0 ∨ j = 1 ∨ j = 2 ∨ j = 3 ∨ j = 4 ∨ j = 5 ∨ j = 6 ∨ j = 7 ∨ j = 8 ∨ j = 9 ∨ j = 10 ∨ j = 11) with rfl | rfl | rfl | rfl | rfl | rfl | rfl | rfl | rfl | rfl | rfl | rfl <;> first | exact absurd rfl hne | rfl), fun j v h => Fact5.later hb j v h, RelB.step hR (by decide) (by decide) rfl rfl hb⟩
        · obtain rfl : u26 = .agg #[.int .i64 x1.t.k, .string x1.t.m, .string x1.t.n, .slice x1.aa x1.t.A.len x1.ca, .slice x1.af x1.t.F.len x1.cf] := hw 0 (by kernel_rfl)
          have hv1 := TyV_below x1.tyV hG.below
          have hz1 : x1.t.size ≤ 1099511627776 := by omega
          obtain ⟨g2, hg2, hr2⟩ := (show OneS sx u28 w from hw 2 (by kernel_rfl))
          subst hg2
          obtain ⟨g4, hg4, hl4⟩ := row_one hG.below (show OneX x2 u30 w from hw 4 (by kernel_rfl))
          obtain rfl : u30 = .slice (some ⟨g4, 0, none⟩) 1 1 := hg4
          have hos : (oneT x2.t).size ≤ 1099511627776 := by show 1 + x2.t.A.size + x2.t.F.size + 0 ≤ _; have : x2.t.size = 1 + x2.t.A.size + x2.t.F.size := rfl; omega
          have hc := subst_any (w := w) [sx] (some ⟨g2, 0, none⟩) 1 (oneT x2.t) (some ⟨g4, 0, none⟩) 1 hv1 hz1 (rowS_one hr2) (.inr ⟨_, 0, rfl, hl4⟩) (by show 1 ≤ _; omega) hos
          have HC := hid (show Calls Tryz.prog 35 #[.agg #[.int .i64 x1.t.k, .string x1.t.m, .string x1.t.n, .slice x1.aa x1.t.A.len x1.ca, .slice x1.af x1.t.F.len x1.cf], .slice (some ⟨g2, 0, none⟩) 1 1, .slice (some ⟨g4, 0, none⟩) 1 1] w _ from hc)
          clear hc hr2 hl4 hos hv1 hz1
          refine wpOp_of_list (i := 5) rfl ?_
          go_wp2_with fail
          refine HC.out.mono ?_
          rintro e w1 ⟨r, rfl, hrt, hok, hb⟩
          have HH := hid (And.intro hb (And.intro hrt hok.tyV))
          clear hb hrt hok
          go_wp2_with fail
          have hb := HH.out.1
          exact ⟨⟨_, _, _, _, _, _, _, _, _, _, _, _, _, _, _, _, _, _, _, _, _, _, _, _, _, _, _, _, _, _, _, _, _, _, _, _, _, _, _, _, _, _, _, _, _, _, _, _, _, _, _, _, _, _, _, _, _, _, _, _, _, _, _, rfl⟩, hG.later hb, ⟨r, rfl, HH.out.2.1, HH.out.2.2⟩, (fun j hj hne => by
              rcases (by omega : j = 0 ∨ j = 1 ∨ j = 2 ∨ j = 3 ∨ j = 4 ∨ j = 5 ∨ j = 6 ∨ j = 7 ∨ j = 8 ∨ j = 9 ∨ j = 10 ∨ j = 11) with rfl | rfl | rfl | rfl | rfl | rfl | rfl | rfl | rfl | rfl | rfl | rfl <;> first | exact absurd rfl hne | rfl), fun j v h => Fact5.later hb j v h, RelB.step hR (by decide) (by decide) rfl rfl hb⟩
        · skip
          refine wpOp_of_list (i := 6) rfl ?_
          go_wp2_with fail
          exact ⟨⟨_, _, _, _, _, _, _, _, _, _, _, _, _, _, _, _, _, _, _, _, _, _, _, _, _, _, _, _, _, _, _, _, _, _, _, _, _, _, _, _, _, _, _, _, _, _, _, _, _, _, _, _, _, _, _, _, _, _, _, _, _, _, _, rfl⟩, hG, rfl, (fun j hj hne => by
              rcases (by omega : j = 0 ∨ j = 1 ∨ j = 2 ∨ j = 3 ∨ j = 4 ∨ j = 5 ∨ j = 6 ∨ j = 7 ∨ j = 8 ∨ j = 9 ∨ j = 10 ∨ j = 11) with rfl | rfl | rfl | rfl | rfl | rfl | rfl | rfl | rfl | rfl | rfl | rfl <;> first | exact absurd rfl hne | rfl), fun _ _ h => h, RelB.step hR (by decide) (by decide) rfl rfl (Below.refl _ _)⟩
        · obtain rfl : u32 = .string sy := hw 6 (by kernel_rfl)
          obtain ⟨w1, hw1⟩ : ∃ w1, w.alloc (.cells #[.string sy] 9) = w1 := ⟨_, rfl⟩
          have hb : Below w.heap.size w w1 := by rw [← hw1]; exact (Below.refl _ w).alloc (Nat.le_refl _) _
          have hx : w1.heap[w.heap.size]? = some (.cells #[.string sy] 9 (0, 0)) := by rw [← hw1]; exact World.alloc_heap_new _ _
          have HH := hid (And.intro hb hx)
          clear hb hx
          refine wpOp_of_list (i := 7) rfl ?_
          go_wp2_with fail
          clear hw1
          have hb := HH.out.1
          have hx := HH.out.2
          exact ⟨⟨_, _, _, _, _, _, _, _, _, _, _, _, _, _, _, _, _, _, _, _, _, _, _, _, _, _, _, _, _, _, _, _, _, _, _, _, _, _, _, _, _, _, _, _, _, _, _, _, _, _, _, _, _, _, _, _, _, _, _, _, _, _, _, rfl⟩, hG.later hb, ⟨_, rfl, hx⟩, (fun j hj hne => by
              rcases (by omega : j = 0 ∨ j = 1 ∨ j = 2 ∨ j = 3 ∨ j = 4 ∨ j = 5 ∨ j = 6 ∨ j = 7 ∨ j = 8 ∨ j = 9 ∨ j = 10 ∨ j = 11) with rfl | rfl | rfl | rfl | rfl | rfl | rfl | rfl | rfl | rfl | rfl | rfl <;> first | exact absurd rfl hne | rfl), fun j v h => Fact5.later hb j v h, RelB.step hR (by decide) (by decide) rfl rfl hb⟩
        · have c0 := cell_of_row w _ 0 _ _ _ hG.row3
          have c1 := cell_of_row w _ 1 _ _ _ hG.row3
          have c2 := cell_of_row w _ 2 _ _ _ hG.row3
          have c3 := cell_of_row w _ 3 _ _ _ hG.row3
          have c4 := cell_of_row w _ 4 _ _ _ hG.row3
          refine wpOp_of_list (i := 8) rfl ?_
          go_wp2_with fail
          exact ⟨⟨_, _, _, _, _, _, _, _, _, _, _, _, _, _, _, _, _, _, _, _, _, _, _, _, _, _, _, _, _, _, _, _, _, _, _, _, _, _, _, _, _, _, _, _, _, _, _, _, _, _, _, _, _, _, _, _, _, _, _, _, _, _, _, rfl⟩, hG, rfl, (fun j hj hne => by
              rcases (by omega : j = 0 ∨ j = 1 ∨ j = 2 ∨ j = 3 ∨ j = 4 ∨ j = 5 ∨ j = 6 ∨ j = 7 ∨ j = 8 ∨ j = 9 ∨ j = 10 ∨ j = 11) with rfl | rfl | rfl | rfl | rfl | rfl | rfl | rfl | rfl | rfl | rfl | rfl <;> first | exact absurd rfl hne | rfl), fun _ _ h => h, RelB.step hR (by decide) (by decide) rfl rfl (Below.refl _ _)⟩
        · obtain rfl : u34 = .agg #[.int .i64 x3.t.k, .string x3.t.m, .string x3.t.n, .slice x3.aa x3.t.A.len x3.ca, .slice x3.af x3.t.F.len x3.cf] := hw 8 (by kernel_rfl)
          obtain ⟨w1, hw1⟩ : ∃ w1, w.alloc (.cells #[.int .i64 x3.t.k, .string x3.t.m, .string x3.t.n, .slice x3.aa x3.t.A.len x3.ca, .slice x3.af x3.t.F.len x3.cf] 25) = w1 := ⟨_, rfl⟩
          have hb : Below w.heap.size w w1 := by rw [← hw1]; exact (Below.refl _ w).alloc (Nat.le_refl _) _
          have hx : w1.heap[w.heap.size]? = some (.cells #[.int .i64 x3.t.k, .string x3.t.m, .string x3.t.n, .slice x3.aa x3.t.A.len x3.ca, .slice x3.af x3.t.F.len x3.cf] 25 (0, 0)) := by rw [← hw1]; exact World.alloc_heap_new _ _
          have HH := hid (And.intro hb hx)
          clear hb hx
          refine wpOp_of_list (i := 9) rfl ?_
          go_wp2_with fail
          clear hw1
          have hb := HH.out.1
          have hx := HH.out.2
          exact ⟨⟨_, _, _, _, _, _, _, _, _, _, _, _, _, _, _, _, _, _, _, _, _, _, _, _, _, _, _, _, _, _, _, _, _, _, _, _, _, _, _, _, _, _, _, _, _, _, _, _, _, _, _, _, _, _, _, _, _, _, _, _, _, _, _, rfl⟩, hG.later hb, ⟨_, rfl, hx⟩, (fun j hj hne => by
              rcases (by omega : j = 0 ∨ j = 1 ∨ j = 2 ∨ j = 3 ∨ j = 4 ∨ j = 5 ∨ j = 6 ∨ j = 7 ∨ j = 8 ∨ j = 9 ∨ j = 10 ∨ j = 11) with rfl | rfl | rfl | rfl | rfl | rfl | rfl | rfl | rfl | rfl | rfl | rfl <;> first | exact absurd rfl hne | rfl), fun j v h => Fact5.later hb j v h, RelB.step hR (by decide) (by decide) rfl rfl hb⟩
        · obtain ⟨r1, hr1, hrt1, hrv1⟩ := (show IsT (x1.t.sub (findTy [sx] (oneT x2.t))) u31 w from hw 5 (by kernel_rfl))
          subst hr1
          have hv1 := hrv1
          have hz1 : r1.t.size ≤ 1099511627776 := by rw [hrt1]; exact Nat.le_trans (Ty.sub_size (M := 200) (by omega) (find_size (by omega)) _) (by omega)
          obtain ⟨g2, hg2, hr2⟩ := (show OneS sy u33 w from hw 7 (by kernel_rfl))
          subst hg2
          obtain ⟨g4, hg4, hl4⟩ := row_one hG.below (show OneX x3 u35 w from hw 9 (by kernel_rfl))
          obtain rfl : u35 = .slice (some ⟨g4, 0, none⟩) 1 1 := hg4
          have hos : (oneT x3.t).size ≤ 1099511627776 := by show 1 + x3.t.A.size + x3.t.F.size + 0 ≤ _; have : x3.t.size = 1 + x3.t.A.size + x3.t.F.size := rfl; omega
          have hc := subst_any (w := w) [sy] (some ⟨g2, 0, none⟩) 1 (oneT x3.t) (some ⟨g4, 0, none⟩) 1 hv1 hz1 (rowS_one hr2) (.inr ⟨_, 0, rfl, hl4⟩) (by show 1 ≤ _; omega) hos
          have HC := hid (show Calls Tryz.prog 35 #[.agg #[.int .i64 r1.t.k, .string r1.t.m, .string r1.t.n, .slice r1.aa r1.t.A.len r1.ca, .slice r1.af r1.t.F.len r1.cf], .slice (some ⟨g2, 0, none⟩) 1 1, .slice (some ⟨g4, 0, none⟩) 1 1] w _ from hc)
          clear hc hr2 hl4 hos hv1 hz1
          have HRT := hid hrt1
          clear hrt1 hrv1
          dsimp only [TyC.v, TyC.cells]
          refine wpOp_of_list (i := 10) rfl ?_
          go_wp2_with fail
          refine HC.out.mono ?_
          rintro e w1 ⟨r, rfl, hrt, hok, hb⟩
          have HH := hid (And.intro hb (And.intro hrt hok))
          clear hb hrt hok
          go_wp2_with fail
          have hb := HH.out.1
          exact ⟨⟨_, _, _, _, _, _, _, _, _, _, _, _, _, _, _, _, _, _, _, _, _, _, _, _, _, _, _, _, _, _, _, _, _, _, _, _, _, _, _, _, _, _, _, _, _, _, _, _, _, _, _, _, _, _, _, _, _, _, _, _, _, _, _, rfl⟩, hG.later hb, trivial, (fun j hj hne => by
              rcases (by omega : j = 0 ∨ j = 1 ∨ j = 2 ∨ j = 3 ∨ j = 4 ∨ j = 5 ∨ j = 6 ∨ j = 7 ∨ j = 8 ∨ j = 9 ∨ j = 10 ∨ j = 11) with rfl | rfl | rfl | rfl | rfl | rfl | rfl | rfl | rfl | rfl | rfl | rfl <;> first | exact absurd rfl hne | rfl), fun j v h => Fact5.later hb j v h, RelB.call hR (by decide) rfl hb rfl (by rw [HH.out.2.1, HRT.out]) HH.out.2.2⟩
        · obtain ⟨w1, hw1⟩ : ∃ w1, w.alloc (.cells #[.int .i64 0, .string ⟨#[]⟩, .string ⟨#[]⟩, .slice none 0 0, .slice none 0 0] 25) = w1 := ⟨_, rfl⟩
          have hb : Below w.heap.size w w1 := by rw [← hw1]; exact (Below.refl _ w).alloc (Nat.le_refl _) _
          have hx : w1.heap[w.heap.size]? = some (.cells #[.int .i64 0, .string ⟨#[]⟩, .string ⟨#[]⟩, .slice none 0 0, .slice none 0 0] 25 (0, 0)) := by rw [← hw1]; exact World.alloc_heap_new _ _
          have h0 := (Array.getElem?_eq_some_iff.1 hG.row3).1
          have HH := hid (And.intro hb (And.intro hx h0))
          clear hb hx h0
          refine wpOp_of_list (i := 11) rfl ?_
          go_wp2_with fail
          clear hw1
          have hb := HH.out.1
          have hx := HH.out.2
          exact ⟨⟨_, _, _, _, _, _, _, _, _, _, _, _, _, _, _, _, _, _, _, _, _, _, _, _, _, _, _, _, _, _, _, _, _, _, _, _, _, _, _, _, _, _, _, _, _, _, _, _, _, _, _, _, _, _, _, _, _, _, _, _, _, _, _, rfl⟩, hG.later hb, ⟨_, rfl, (by have := HH.out.2.2; omega), hx.1⟩, (fun j hj hne => by
              rcases (by omega : j = 0 ∨ j = 1 ∨ j = 2 ∨ j = 3 ∨ j = 4 ∨ j = 5 ∨ j = 6 ∨ j = 7 ∨ j = 8 ∨ j = 9 ∨ j = 10 ∨ j = 11) with rfl | rfl | rfl | rfl | rfl | rfl | rfl | rfl | rfl | rfl | rfl | rfl <;> first | exact absurd rfl hne | rfl), fun j v h => Fact5.later hb j v h, RelB.alloc hR (by decide) rfl hb rfl (Array.getElem?_eq_some_iff.1 hx.1).1⟩
      case tail =>
        rintro listed a w hall hR ⟨u0, u1, u2, u8, u9, u10, u11, u12, u13, u14, u15, u16, u17, u18, u19, u20, u21, u22, u23, u24, u25, u26, u27, u28, u29, u30, u31, u32, u33, u34, u35, u36, u37, u38, u39, u40, u41, u42, u43, u44, u45, u46, u47, u48, u49, u50, u51, u52, u53, u54, u55, u56, u57, u58, u59, u60, u61, u62, u63, u64, u65, u66, u67, rfl⟩ hG hf
        obtain ⟨r, b, hsa, hsc, hrt, hok⟩ := hR.both (hall 11 (by omega)) (hall 10 (by omega))
        obtain rfl : u11 = .pointer (some ⟨b, 0, none⟩) := hsa
        obtain rfl : u36 = r.v := hsc
        obtain ⟨b2, hb2, hb0, hrow⟩ := (show ZeroB (W.heap.size + 3) (.pointer (some ⟨b, 0, none⟩)) w from hf 11 (by omega))
        obtain rfl : b = b2 := by injection hb2 with h; injection h with h; injection h
        dsimp only [TyC.v, TyC.cells]
        obtain ⟨s0, hs0⟩ : ∃ s, w.setCell ⟨b, 0, none⟩ (.int .i64 r.t.k) = s := ⟨_, rfl⟩
        have z0 := frozen_row hrow 0
        have y0 := cell_of_row w _ 0 _ _ _ hrow
        have hrow0 : s0.heap[b]? = some (.cells #[.int .i64 r.t.k, .string ⟨#[]⟩, .string ⟨#[]⟩, .slice none 0 0, .slice none 0 0] 25 (0, 0)) := by rw [← hs0]; exact heap_setCell_same w _ 0 _ _ _ hrow
        have hk0 : KeepX (fun i => i = b) w s0 := by rw [← hs0]; exact ⟨by rw [size_setC]; exact Nat.le_refl _, fun i _ hi => heap_setCell_other _ _ _ _ (fun e => hi e)⟩
        have hB0 : Below (W.heap.size + 3) w s0 := by rw [← hs0]; exact below_setC _ _ hb0
        obtain ⟨s1, hs1⟩ : ∃ s, s0.setCell ⟨b, 1, none⟩ (.string r.t.m) = s := ⟨_, rfl⟩
        have z1 := frozen_row hrow0 1
        have y1 := cell_of_row s0 _ 1 _ _ _ hrow0
        have hrow1 : s1.heap[b]? = some (.cells #[.int .i64 r.t.k, .string r.t.m, .string ⟨#[]⟩, .slice none 0 0, .slice none 0 0] 25 (0, 0)) := by rw [← hs1]; exact heap_setCell_same s0 _ 1 _ _ _ hrow0
        have hk1 : KeepX (fun i => i = b) s0 s1 := by rw [← hs1]; exact ⟨by rw [size_setC]; exact Nat.le_refl _, fun i _ hi => heap_setCell_other _ _ _ _ (fun e => hi e)⟩
        have hB1 : Below (W.heap.size + 3) s0 s1 := by rw [← hs1]; exact below_setC _ _ hb0
        obtain ⟨s2, hs2⟩ : ∃ s, s1.setCell ⟨b, 2, none⟩ (.string r.t.n) = s := ⟨_, rfl⟩
        have z2 := frozen_row hrow1 2
        have y2 := cell_of_row s1 _ 2 _ _ _ hrow1
        have hrow2 : s2.heap[b]? = some (.cells #[.int .i64 r.t.k, .string r.t.m, .string r.t.n, .slice none 0 0, .slice none 0 0] 25 (0, 0)) := by rw [← hs2]; exact heap_setCell_same s1 _ 2 _ _ _ hrow1
        have hk2 : KeepX (fun i => i = b) s1 s2 := by rw [← hs2]; exact ⟨by rw [size_setC]; exact Nat.le_refl _, fun i _ hi => heap_setCell_other _ _ _ _ (fun e => hi e)⟩
        have hB2 : Below (W.heap.size + 3) s1 s2 := by rw [← hs2]; exact below_setC _ _ hb0
        obtain ⟨s3, hs3⟩ : ∃ s, s2.setCell ⟨b, 3, none⟩ (.slice r.aa r.t.A.len r.ca) = s := ⟨_, rfl⟩
        have z3 := frozen_row hrow2 3
        have y3 := cell_of_row s2 _ 3 _ _ _ hrow2
        have hrow3 : s3.heap[b]? = some (.cells #[.int .i64 r.t.k, .string r.t.m, .string r.t.n, .slice r.aa r.t.A.len r.ca, .slice none 0 0] 25 (0, 0)) := by rw [← hs3]; exact heap_setCell_same s2 _ 3 _ _ _ hrow2
        have hk3 : KeepX (fun i => i = b) s2 s3 := by rw [← hs3]; exact ⟨by rw [size_setC]; exact Nat.le_refl _, fun i _ hi => heap_setCell_other _ _ _ _ (fun e => hi e)⟩
        have hB3 : Below (W.heap.size + 3) s2 s3 := by rw [← hs3]; exact below_setC _ _ hb0
        obtain ⟨s4, hs4⟩ : ∃ s, s3.setCell ⟨b, 4, none⟩ (.slice r.af r.t.F.len r.cf) = s := ⟨_, rfl⟩
        have z4 := frozen_row hrow3 4
        have y4 := cell_of_row s3 _ 4 _ _ _ hrow3
        have hrow4 : s4.heap[b]? = some (.cells #[.int .i64 r.t.k, .string r.t.m, .string r.t.n, .slice r.aa r.t.A.len r.ca, .slice r.af r.t.F.len r.cf] 25 (0, 0)) := by rw [← hs4]; exact heap_setCell_same s3 _ 4 _ _ _ hrow3
        have hk4 : KeepX (fun i => i = b) s3 s4 := by rw [← hs4]; exact ⟨by rw [size_setC]; exact Nat.le_refl _, fun i _ hi => heap_setCell_other _ _ _ _ (fun e => hi e)⟩
        have hB4 : Below (W.heap.size + 3) s3 s4 := by rw [← hs4]; exact below_setC _ _ hb0
        have hkk : KeepX (fun i => i = b) w s4 := hk0.trans (hk1.trans (hk2.trans (hk3.trans hk4)))
        have hBB : Below (W.heap.size + 3) w s4 := hB0.trans (hB1.trans (hB2.trans (hB3.trans hB4)))
        have hok4 := hok.keep (Q := fun i => i ≠ b) hkk fun i hi => ⟨hi, hi⟩
        have hG4 : Bx W x1 x2 x3 s4 := ⟨hG.below.trans (hBB.mono (by omega)), (hBB.block _ (by omega)).trans hG.row1, (hBB.block _ (by omega)).trans hG.row2, (hBB.block _ (by omega)).trans hG.row3⟩
        have HS := hid (And.intro hG4 (And.intro hrow4 (And.intro hok4.tyV (And.intro hrt hb0))))
        clear hkk hBB hok4 hG4 hrow hrow0 hrow1 hrow2 hrow3 hrow4 hk0 hk1 hk2 hk3 hk4 hB0 hB1 hB2 hB3 hB4 hrt hok hf hall hR hG hb0 hb2
        refine wpOp_of_list (i := 12) rfl ?_
        go_wp2_with fail
        clear z0 z1 z2 z3 z4 y0 y1 y2 y3 y4 hs0 hs1 hs2 hs3 hs4
        change Exit.then _ _ .normal _ _
        go_wp2_with fail
        refine wp_region_any (by kernel_rfl) ?_
        change wpAny _ _ _ _ 15 _ _ (World.drew _)
        obtain ⟨V6, hV6⟩ : ∃ V, s4.drew = V := ⟨_, rfl⟩
        have hbV : Below s4.heap.size s4 V6 := by rw [← hV6]; exact (Below.refl _ s4).drew
        have hbx := HS.out.1.later hbV
        have hra := heap_later hbV HS.out.2.1
        have hta := TyV_below HS.out.2.2.1 hbV
        rw [hV6]
        obtain ⟨ra, hra2⟩ : ∃ ra, ra = r := ⟨_, rfl⟩
        rw [← hra2] at hra hta
        have hrt2 := HS.out.2.2.2.1
        rw [← hra2] at hrt2 ⊢
        clear hra2
        obtain ⟨ba, hba2⟩ : ∃ ba, ba = b := ⟨_, rfl⟩
        rw [← hba2] at hra ⊢
        clear hba2
        have H6 := hid (And.intro hbx (And.intro hra (And.intro hta hrt2)))
        clear hbx hra hta hrt2 hbV hV6
        refine wpAny_flow (n := 14) (Fact := Fact6 x1 x2 x3 sx sy V6.heap.size) (Fx := Fx6 W sx sy ba) (G := Bx6 W x1 x2 x3 V6) (Rel := RelB 12 13 49 12 (x1.t.sub (findTy [sx, sy] (twoT (x2.t.sub (findTy [sy] (oneT x3.t))) x3.t)))) (by kernel_rfl) ?back6 ?last6 ?step6 ?tail6 15 _ _ _ ⟨rfl, rfl, ⟨_, _, _, _, _, _, _, _, _, _, _, _, _, _, _, _, _, _, _, _, _, _, _, _, _, _, _, _, _, _, _, _, _, _, _, _, _, _, _, _, _, _, _, _, _, _, _, _, _, _, _, _, _, _, _, _, _, _, _, _, _, _, rfl⟩, ⟨H6.out.1.below, H6.out.1.row1, H6.out.1.row2, H6.out.1.row3, Below.refl _ _⟩, relB_start _ _ _ _ _ _ _ _, fun i hi hl => ?l6⟩ (by decide)
        case back6 => exact flow_back_of (by kernel_rfl)
        case last6 => exact flow_last_of (by kernel_rfl)
        case l6 => rw [getD_replicate_false] at hl; cases hl
        case step6 =>
          rintro i hi listed a w hls hun hR ⟨u0, u1, u2, u8, u9, u10, u12, u13, u14, u15, u16, u17, u18, u19, u20, u21, u22, u23, u24, u25, u26, u27, u28, u29, u30, u31, u32, u33, u34, u35, u36, u37, u38, u39, u40, u41, u42, u43, u44, u45, u46, u47, u48, u49, u50, u51, u52, u53, u54, u55, u56, u57, u58, u59, u60, u61, u62, u63, u64, u65, u66, u67, rfl⟩ hG hw
          rcases (by omega : i = 0 ∨ i = 1 ∨ i = 2 ∨ i = 3 ∨ i = 4 ∨ i = 5 ∨ i = 6 ∨ i = 7 ∨ i = 8 ∨ i = 9 ∨ i = 10 ∨ i = 11 ∨ i = 12 ∨ i = 13) with rfl | rfl | rfl | rfl | rfl | rfl | rfl | rfl | rfl | rfl | rfl | rfl | rfl | rfl
          · have c0 := cell_of_row w _ 0 _ _ _ hG.row1
            have c1 := cell_of_row w _ 1 _ _ _ hG.row1
            have c2 := cell_of_row w _ 2 _ _ _ hG.row1
            have c3 := cell_of_row w _ 3 _ _ _ hG.row1
            have c4 := cell_of_row w _ 4 _ _ _ hG.row1
            refine wpOp_of_list (i := 0) rfl ?_
            go_wp2_with fail
            exact ⟨⟨_, _, _, _, _, _, _, _, _, _, _, _, _, _, _, _, _, _, _, _, _, _, _, _, _, _, _, _, _, _, _, _, _, _, _, _, _, _, _, _, _, _, _, _, _, _, _, _, _, _, _, _, _, _, _, _, _, _, _, _, _, _, rfl⟩, hG, rfl, (fun j hj hne => by
                rcases (by omega : j = 0 ∨ j = 1 ∨ j = 2 ∨ j = 3 ∨ j = 4 ∨ j = 5 ∨ j = 6 ∨ j = 7 ∨ j = 8 ∨ j = 9 ∨ j = 10 ∨ j = 11 ∨ j = 12 ∨ j = 13) with rfl | rfl | rfl | rfl | rfl | rfl | rfl | rfl | rfl | rfl | rfl | rfl | rfl | rfl <;> first | exact absurd rfl hne | rfl), fun _ _ h => h, RelB.step hR (by decide) (by decide) rfl rfl (Below.refl _ _)⟩
          · skip
            refine wpOp_of_list (i := 1) rfl ?_
            go_wp2_with fail
            exact ⟨⟨_, _, _, _, _, _, _, _, _, _, _, _, _, _, _, _, _, _, _, _, _, _, _, _, _, _, _, _, _, _, _, _, _, _, _, _, _, _, _, _, _, _, _, _, _, _, _, _, _, _, _, _, _, _, _, _, _, _, _, _, _, _, rfl⟩, hG, rfl, (fun j hj hne => by
                rcases (by omega : j = 0 ∨ j = 1 ∨ j = 2 ∨ j = 3 ∨ j = 4 ∨ j = 5 ∨ j = 6 ∨ j = 7 ∨ j = 8 ∨ j = 9 ∨ j = 10 ∨ j = 11 ∨ j = 12 ∨ j = 13) with rfl | rfl | rfl | rfl | rfl | rfl | rfl | rfl | rfl | rfl | rfl | rfl | rfl | rfl <;> first | exact absurd rfl hne | rfl), fun _ _ h => h, RelB.step hR (by decide) (by decide) rfl rfl (Below.refl _ _)⟩
          · skip
            refine wpOp_of_list (i := 2) rfl ?_
            go_wp2_with fail
            exact ⟨⟨_, _, _, _, _, _, _, _, _, _, _, _, _, _, _, _, _, _, _, _, _, _, _, _, _, _, _, _, _, _, _, _, _, _, _, _, _, _, _, _, _, _, _, _, _, _, _, _, _, _, _, _, _, _, _, _, _, _, _, _, _, _, rfl⟩, hG, rfl, (fun j hj hne => by
                rcases (by omega : j = 0 ∨ j = 1 ∨ j = 2 ∨ j = 3 ∨ j = 4 ∨ j = 5 ∨ j = 6 ∨ j = 7 ∨ j = 8 ∨ j = 9 ∨ j = 10 ∨ j = 11 ∨ j = 12 ∨ j = 13) with rfl | rfl | rfl | rfl | rfl | rfl | rfl | rfl | rfl | rfl | rfl | rfl | rfl | rfl <;> first | exact absurd rfl hne | rfl), fun _ _ h => h, RelB.step hR (by decide) (by decide) rfl rfl (Below.refl _ _)⟩
          · obtain rfl : u38 = .string sx := hw 1 (by kernel_rfl)
            obtain rfl : u39 = .string sy := hw 2 (by kernel_rfl)
            obtain ⟨w1, hw1⟩ : ∃ w1, w.alloc (.cells #[.string sx, .string sy] 9) = w1 := ⟨_, rfl⟩
            have hb : Below w.heap.size w w1 := by rw [← hw1]; exact (Below.refl _ w).alloc (Nat.le_refl _) _
            have hx : w1.heap[w.heap.size]? = some (.cells #[.string sx, .string sy] 9 (0, 0)) := by rw [← hw1]; exact World.alloc_heap_new _ _
            have HH := hid (And.intro hb hx)
            clear hb hx
            refine wpOp_of_list (i := 3) rfl ?_
            go_wp2_with fail
            clear hw1
            have hb := HH.out.1
            have hx := HH.out.2
            exact ⟨⟨_, _, _, _, _, _, _, _, _, _, _, _, _, _, _, _, _, _, _, _, _, _, _, _, _, _, _, _, _, _, _, _, _, _, _, _, _, _, _, _, _, _, _, _, _, _, _, _, _, _, _, _, _, _, _, _, _, _, _, _, _, _, rfl⟩, hG.later hb, ⟨_, rfl, hx⟩, (fun j hj hne => by
                rcases (by omega : j = 0 ∨ j = 1 ∨ j = 2 ∨ j = 3 ∨ j = 4 ∨ j = 5 ∨ j = 6 ∨ j = 7 ∨ j = 8 ∨ j = 9 ∨ j = 10 ∨ j = 11 ∨ j = 12 ∨ j = 13) with rfl | rfl | rfl | rfl | rfl | rfl | rfl | rfl | rfl | rfl | rfl | rfl | rfl | rfl <;> first | exact absurd rfl hne | rfl), fun j v h => Fact6.later hb j v h, RelB.step hR (by decide) (by decide) rfl rfl hb⟩
          · have c0 := cell_of_row w _ 0 _ _ _ hG.row2
            have c1 := cell_of_row w _ 1 _ _ _ hG.row2
            have c2 := cell_of_row w _ 2 _ _ _ hG.row2
            have c3 := cell_of_row w _ 3 _ _ _ hG.row2
            have c4 := cell_of_row w _ 4 _ _ _ hG.row2
            refine wpOp_of_list (i := 4) rfl ?_
            go_wp2_with fail
            exact ⟨⟨_, _, _, _, _, _, _, _, _, _, _, _, _, _, _, _, _, _, _, _, _, _, _, _, _, _, _, _, _, _, _, _, _, _, _, _, _, _, _, _, _, _, _, _, _, _, _, _, _, _, _, _, _, _, _, _, _, _, _, _, _, _, rfl⟩, hG, rfl, (fun j hj hne => by
                rcases (by omega : j = 0 ∨ j = 1 ∨ j = 2 ∨ j = 3 ∨ j = 4 ∨ j = 5 ∨ j = 6 ∨ j = 7 ∨ j = 8 ∨ j = 9 ∨ j = 10 ∨ j = 11 ∨ j = 12 ∨ j = 13) with rfl | rfl | rfl | rfl | rfl | rfl | rfl | rfl | rfl | rfl | rfl | rfl | rfl | rfl <;> first | exact absurd rfl hne | rfl), fun _ _ h => h, RelB.step hR (by decide) (by decide) rfl rfl (Below.refl _ _)⟩
          · skip
            refine wpOp_of_list (i := 5) rfl ?_
            go_wp2_with fail
            exact ⟨⟨_, _, _, _, _, _, _, _, _, _, _, _, _, _, _, _, _, _, _, _, _, _, _, _, _, _, _, _, _, _, _, _, _, _, _, _, _, _, _, _, _, _, _, _, _, _, _, _, _, _, _, _, _, _, _, _, _, _, _, _, _, _, rfl⟩, hG, rfl, (fun j hj hne => by
                rcases (by omega : j = 0 ∨ j = 1 ∨ j = 2 ∨ j = 3 ∨ j = 4 ∨ j = 5 ∨ j = 6 ∨ j = 7 ∨ j = 8 ∨ j = 9 ∨ j = 10 ∨ j = 11 ∨ j = 12 ∨ j = 13) with rfl | rfl | rfl | rfl | rfl | rfl | rfl | rfl | rfl | rfl | rfl | rfl | rfl | rfl <;> first | exact absurd rfl hne | rfl), fun _ _ h => h, RelB.step hR (by decide) (by decide) rfl rfl (Below.refl _ _)⟩
          · obtain rfl : u42 = .string sy := hw 5 (by kernel_rfl)
            obtain ⟨w1, hw1⟩ : ∃ w1, w.alloc (.cells #[.string sy] 9) = w1 := ⟨_, rfl⟩
            have hb : Below w.heap.size w w1 := by rw [← hw1]; exact (Below.refl _ w).alloc (Nat.le_refl _) _
            have hx : w1.heap[w.heap.size]? = some (.cells #[.string sy] 9 (0, 0)) := by rw [← hw1]; exact World.alloc_heap_new _ _
            have HH := hid (And.intro hb hx)
            clear hb hx
            refine wpOp_of_list (i := 6) rfl ?_
            go_wp2_with fail
            clear hw1
            have hb := HH.out.1
            have hx := HH.out.2
            exact ⟨⟨_, _, _, _, _, _, _, _, _, _, _, _, _, _, _, _, _, _, _, _, _, _, _, _, _, _, _, _, _, _, _, _, _, _, _, _, _, _, _, _, _, _, _, _, _, _, _, _, _, _, _, _, _, _, _, _, _, _, _, _, _, _, rfl⟩, hG.later hb, ⟨_, rfl, hx⟩, (fun j hj hne => by
                rcases (by omega : j = 0 ∨ j = 1 ∨ j = 2 ∨ j = 3 ∨ j = 4 ∨ j = 5 ∨ j = 6 ∨ j = 7 ∨ j = 8 ∨ j = 9 ∨ j = 10 ∨ j = 11 ∨ j = 12 ∨ j = 13) with rfl | rfl | rfl | rfl | rfl | rfl | rfl | rfl | rfl | rfl | rfl | rfl | rfl | rfl <;> first | exact absurd rfl hne | rfl), fun j v h => Fact6.later hb j v h, RelB.step hR (by decide) (by decide) rfl rfl hb⟩
          · have c0 := cell_of_row w _ 0 _ _ _ hG.row3
            have c1 := cell_of_row w _ 1 _ _ _ hG.row3
            have c2 := cell_of_row w _ 2 _ _ _ hG.row3
            have c3 := cell_of_row w _ 3 _ _ _ hG.row3
            have c4 := cell_of_row w _ 4 _ _ _ hG.row3
            refine wpOp_of_list (i := 7) rfl ?_
            go_wp2_with fail
            exact ⟨⟨_, _, _, _, _, _, _, _, _, _, _, _, _, _, _, _, _, _, _, _, _, _, _, _, _, _, _, _, _, _, _, _, _, _, _, _, _, _, _, _, _, _, _, _, _, _, _, _, _, _, _, _, _, _, _, _, _, _, _, _, _, _, rfl⟩, hG, rfl, (fun j hj hne => by
                rcases (by omega : j = 0 ∨ j = 1 ∨ j = 2 ∨ j = 3 ∨ j = 4 ∨ j = 5 ∨ j = 6 ∨ j = 7 ∨ j = 8 ∨ j = 9 ∨ j = 10 ∨ j = 11 ∨ j = 12 ∨ j = 13) with rfl | rfl | rfl | rfl | rfl | rfl | rfl | rfl | rfl | rfl | rfl | rfl | rfl | rfl <;> first | exact absurd rfl hne | rfl), fun _ _ h => h, RelB.step hR (by decide) (by decide) rfl rfl (Below.refl _ _)⟩
          · obtain rfl : u44 = .agg #[.int .i64 x3.t.k, .string x3.t.m, .string x3.t.n, .slice x3.aa x3.t.A.len x3.ca, .slice x3.af x3.t.F.len x3.cf] := hw 7 (by kernel_rfl)
            obtain ⟨w1, hw1⟩ : ∃ w1, w.alloc (.cells #[.int .i64 x3.t.k, .string x3.t.m, .string x3.t.n, .slice x3.aa x3.t.A.len x3.ca, .slice x3.af x3.t.F.len x3.cf] 25) = w1 := ⟨_, rfl⟩
            have hb : Below w.heap.size w w1 := by rw [← hw1]; exact (Below.refl _ w).alloc (Nat.le_refl _) _
            have hx : w1.heap[w.heap.size]? = some (.cells #[.int .i64 x3.t.k, .string x3.t.m, .string x3.t.n, .slice x3.aa x3.t.A.len x3.ca, .slice x3.af x3.t.F.len x3.cf] 25 (0, 0)) := by rw [← hw1]; exact World.alloc_heap_new _ _
            have HH := hid (And.intro hb hx)
            clear hb hx
            refine wpOp_of_list (i := 8) rfl ?_
            go_wp2_with fail
            clear hw1
            have hb := HH.out.1
            have hx := HH.out.2
            exact ⟨⟨_, _, _, _, _, _, _, _, _, _, _, _, _, _, _, _, _, _, _, _, _, _, _, _, _, _, _, _, _, _, _, _, _, _, _, _, _, _, _, _, _, _, _, _, _, _, _, _, _, _, _, _, _, _, _, _, _, _, _, _, _, _, rfl⟩, hG.later hb, ⟨_, rfl, hx⟩, (fun j hj hne => by
                rcases (by omega : j = 0 ∨ j = 1 ∨ j = 2 ∨ j = 3 ∨ j = 4 ∨ j = 5 ∨ j = 6 ∨ j = 7 ∨ j = 8 ∨ j = 9 ∨ j = 10 ∨ j = 11 ∨ j = 12 ∨ j = 13) with rfl | rfl | rfl | rfl | rfl | rfl | rfl | rfl | rfl | rfl | rfl | rfl | rfl | rfl <;> first | exact absurd rfl hne | rfl), fun j v h => Fact6.later hb j v h, RelB.step hR (by decide) (by decide) rfl rfl hb⟩
          · obtain rfl : u41 = .agg #[.int .i64 x2.t.k, .string x2.t.m, .string x2.t.n, .slice x2.aa x2.t.A.len x2.ca, .slice x2.af x2.t.F.len x2.cf] := hw 4 (by kernel_rfl)
            have hv1 := TyV_below x2.tyV hG.below
            have hz1 : x2.t.size ≤ 1099511627776 := by omega
            obtain ⟨g2, hg2, hr2⟩ := (show OneS sy u43 w from hw 6 (by kernel_rfl))
            subst hg2
            obtain ⟨g4, hg4, hl4⟩ := row_one hG.below (show OneX x3 u45 w from hw 8 (by kernel_rfl))
            obtain rfl : u45 = .slice (some ⟨g4, 0, none⟩) 1 1 := hg4
            have hos : (oneT x3.t).size ≤ 1099511627776 := by show 1 + x3.t.A.size + x3.t.F.size + 0 ≤ _; have : x3.t.size = 1 + x3.t.A.size + x3.t.F.size := rfl; omega
            have hc := subst_any (w := w) [sy] (some ⟨g2, 0, none⟩) 1 (oneT x3.t) (some ⟨g4, 0, none⟩) 1 hv1 hz1 (rowS_one hr2) (.inr ⟨_, 0, rfl, hl4⟩) (by show 1 ≤ _; omega) hos
            have HC := hid (show Calls Tryz.prog 35 #[.agg #[.int .i64 x2.t.k, .string x2.t.m, .string x2.t.n, .slice x2.aa x2.t.A.len x2.ca, .slice x2.af x2.t.F.len x2.cf], .slice (some ⟨g2, 0, none⟩) 1 1, .slice (some ⟨g4, 0, none⟩) 1 1] w _ from hc)
            clear hc hr2 hl4 hos hv1 hz1
            refine wpOp_of_list (i := 9) rfl ?_
            go_wp2_with fail
            refine HC.out.mono ?_
            rintro e w1 ⟨r, rfl, hrt, hok, hb⟩
            have HH := hid (And.intro hb (And.intro hrt hok.tyV))
            clear hb hrt hok
            go_wp2_with fail
            have hb := HH.out.1
            exact ⟨⟨_, _, _, _, _, _, _, _, _, _, _, _, _, _, _, _, _, _, _, _, _, _, _, _, _, _, _, _, _, _, _, _, _, _, _, _, _, _, _, _, _, _, _, _, _, _, _, _, _, _, _, _, _, _, _, _, _, _, _, _, _, _, rfl⟩, hG.later hb, ⟨r, rfl, HH.out.2.1, HH.out.2.2⟩, (fun j hj hne => by
                rcases (by omega : j = 0 ∨ j = 1 ∨ j = 2 ∨ j = 3 ∨ j = 4 ∨ j = 5 ∨ j = 6 ∨ j = 7 ∨ j = 8 ∨ j = 9 ∨ j = 10 ∨ j = 11 ∨ j = 12 ∨ j = 13) with rfl | rfl | rfl | rfl | rfl | rfl | rfl | rfl | rfl | rfl | rfl | rfl | rfl | rfl <;> first | exact absurd rfl hne | rfl), fun j v h => Fact6.later hb j v h, RelB.step hR (by decide) (by decide) rfl rfl hb⟩
          · have c0 := cell_of_row w _ 0 _ _ _ hG.row3
            have c1 := cell_of_row w _ 1 _ _ _ hG.row3
            have c2 := cell_of_row w _ 2 _ _ _ hG.row3
            have c3 := cell_of_row w _ 3 _ _ _ hG.row3
            have c4 := cell_of_row w _ 4 _ _ _ hG.row3
            refine wpOp_of_list (i := 10) rfl ?_
            go_wp2_with fail
            exact ⟨⟨_, _, _, _, _, _, _, _, _, _, _, _, _, _, _, _, _, _, _, _, _, _, _, _, _, _, _, _, _, _, _, _, _, _, _, _, _, _, _, _, _, _, _, _, _, _, _, _, _, _, _, _, _, _, _, _, _, _, _, _, _, _, rfl⟩, hG, rfl, (fun j hj hne => by
                rcases (by omega : j = 0 ∨ j = 1 ∨ j = 2 ∨ j = 3 ∨ j = 4 ∨ j = 5 ∨ j = 6 ∨ j = 7 ∨ j = 8 ∨ j = 9 ∨ j = 10 ∨ j = 11 ∨ j = 12 ∨ j = 13) with rfl | rfl | rfl | rfl | rfl | rfl | rfl | rfl | rfl | rfl | rfl | rfl | rfl | rfl <;> first | exact absurd rfl hne | rfl), fun _ _ h => h, RelB.step hR (by decide) (by decide) rfl rfl (Below.refl _ _)⟩
          · obtain ⟨r1, hr1, hrt1, hrv1⟩ := (show IsT (x2.t.sub (findTy [sy] (oneT x3.t))) u46 w from hw 9 (by kernel_rfl))
            subst hr1
            obtain rfl : u47 = .agg #[.int .i64 x3.t.k, .string x3.t.m, .string x3.t.n, .slice x3.aa x3.t.A.len x3.ca, .slice x3.af x3.t.F.len x3.cf] := hw 10 (by kernel_rfl)
            dsimp only [TyC.v, TyC.cells]
            obtain ⟨w1, hw1⟩ : ∃ w1, w.alloc (.cells #[.int .i64 r1.t.k, .string r1.t.m, .string r1.t.n, .slice r1.aa r1.t.A.len r1.ca, .slice r1.af r1.t.F.len r1.cf, .int .i64 x3.t.k, .string x3.t.m, .string x3.t.n, .slice x3.aa x3.t.A.len x3.ca, .slice x3.af x3.t.F.len x3.cf] 25) = w1 := ⟨_, rfl⟩
            have hb : Below w.heap.size w w1 := by rw [← hw1]; exact (Below.refl _ w).alloc (Nat.le_refl _) _
            have hx : w1.heap[w.heap.size]? = some (.cells #[.int .i64 r1.t.k, .string r1.t.m, .string r1.t.n, .slice r1.aa r1.t.A.len r1.ca, .slice r1.af r1.t.F.len r1.cf, .int .i64 x3.t.k, .string x3.t.m, .string x3.t.n, .slice x3.aa x3.t.A.len x3.ca, .slice x3.af x3.t.F.len x3.cf] 25 (0, 0)) := by rw [← hw1]; exact World.alloc_heap_new _ _
            have HH := hid (And.intro hb (And.intro hx (And.intro hrt1 (TyV_below hrv1 hb))))
            clear hb hx hrt1 hrv1
            refine wpOp_of_list (i := 11) rfl ?_
            go_wp2_with fail
            clear hw1
            have hb := HH.out.1
            have hx := HH.out.2
            exact ⟨⟨_, _, _, _, _, _, _, _, _, _, _, _, _, _, _, _, _, _, _, _, _, _, _, _, _, _, _, _, _, _, _, _, _, _, _, _, _, _, _, _, _, _, _, _, _, _, _, _, _, _, _, _, _, _, _, _, _, _, _, _, _, _, rfl⟩, hG.later hb, ⟨_, r1, rfl, HH.out.2.2.1, HH.out.2.2.2, HH.out.2.1⟩, (fun j hj hne => by
                rcases (by omega : j = 0 ∨ j = 1 ∨ j = 2 ∨ j = 3 ∨ j = 4 ∨ j = 5 ∨ j = 6 ∨ j = 7 ∨ j = 8 ∨ j = 9 ∨ j = 10 ∨ j = 11 ∨ j = 12 ∨ j = 13) with rfl | rfl | rfl | rfl | rfl | rfl | rfl | rfl | rfl | rfl | rfl | rfl | rfl | rfl <;> first | exact absurd rfl hne | rfl), fun j v h => Fact6.later hb j v h, RelB.step hR (by decide) (by decide) rfl rfl hb⟩
          · obtain rfl : u37 = .agg #[.int .i64 x1.t.k, .string x1.t.m, .string x1.t.n, .slice x1.aa x1.t.A.len x1.ca, .slice x1.af x1.t.F.len x1.cf] := hw 0 (by kernel_rfl)
            have hv1 := TyV_below x1.tyV hG.below
            have hz1 : x1.t.size ≤ 1099511627776 := by omega
            obtain ⟨g2, hg2, hr2⟩ := (show TwoS sx sy u40 w from hw 3 (by kernel_rfl))
            subst hg2
            obtain ⟨g4, hg4, hl4⟩ := row_two hG.below (show TwoX (x2.t.sub (findTy [sy] (oneT x3.t))) x3 u48 w from hw 11 (by kernel_rfl))
            obtain rfl : u48 = .slice (some ⟨g4, 0, none⟩) 2 2 := hg4
            have hsu : (x2.t.sub (findTy [sy] (oneT x3.t))).size ≤ x2.t.size * 200 := Ty.sub_size (by omega) (find_size (by omega)) _
            have hos : (twoT (x2.t.sub (findTy [sy] (oneT x3.t))) x3.t).size ≤ 1099511627776 := by
              show 1 + (x2.t.sub (findTy [sy] (oneT x3.t))).A.size + (x2.t.sub (findTy [sy] (oneT x3.t))).F.size + (1 + x3.t.A.size + x3.t.F.size + 0) ≤ _
              have e1 : x3.t.size = 1 + x3.t.A.size + x3.t.F.size := rfl
              have e2 : (x2.t.sub (findTy [sy] (oneT x3.t))).size = 1 + (x2.t.sub (findTy [sy] (oneT x3.t))).A.size + (x2.t.sub (findTy [sy] (oneT x3.t))).F.size := rfl
              omega
            have hc := subst_any (w := w) [sx, sy] (some ⟨g2, 0, none⟩) 2 (twoT (x2.t.sub (findTy [sy] (oneT x3.t))) x3.t) (some ⟨g4, 0, none⟩) 2 hv1 hz1 (rowS_two hr2) (.inr ⟨_, 0, rfl, hl4⟩) (by show 2 ≤ _; omega) hos
            have HC := hid (show Calls Tryz.prog 35 #[.agg #[.int .i64 x1.t.k, .string x1.t.m, .string x1.t.n, .slice x1.aa x1.t.A.len x1.ca, .slice x1.af x1.t.F.len x1.cf], .slice (some ⟨g2, 0, none⟩) 2 2, .slice (some ⟨g4, 0, none⟩) 2 2] w _ from hc)
            clear hc hr2 hl4 hos hv1 hz1 hsu
            refine wpOp_of_list (i := 12) rfl ?_
            go_wp2_with fail
            refine HC.out.mono ?_
            rintro e w1 ⟨r, rfl, hrt, hok, hb⟩
            have HH := hid (And.intro hb (And.intro hrt hok))
            clear hb hrt hok
            go_wp2_with fail
            have hb := HH.out.1
            exact ⟨⟨_, _, _, _, _, _, _, _, _, _, _, _, _, _, _, _, _, _, _, _, _, _, _, _, _, _, _, _, _, _, _, _, _, _, _, _, _, _, _, _, _, _, _, _, _, _, _, _, _, _, _, _, _, _, _, _, _, _, _, _, _, _, rfl⟩, hG.later hb, trivial, (fun j hj hne => by
                rcases (by omega : j = 0 ∨ j = 1 ∨ j = 2 ∨ j = 3 ∨ j = 4 ∨ j = 5 ∨ j = 6 ∨ j = 7 ∨ j = 8 ∨ j = 9 ∨ j = 10 ∨ j = 11 ∨ j = 12 ∨ j = 13) with rfl | rfl | rfl | rfl | rfl | rfl | rfl | rfl | rfl | rfl | rfl | rfl | rfl | rfl <;> first | exact absurd rfl hne | rfl), fun j v h => Fact6.later hb j v h, RelB.call hR (by decide) rfl hb rfl HH.out.2.1 HH.out.2.2⟩
          · obtain ⟨w1, hw1⟩ : ∃ w1, w.alloc (.cells #[.int .i64 0, .string ⟨#[]⟩, .string ⟨#[]⟩, .slice none 0 0, .slice none 0 0] 25) = w1 := ⟨_, rfl⟩
            have hb : Below w.heap.size w w1 := by rw [← hw1]; exact (Below.refl _ w).alloc (Nat.le_refl _) _
            have hx : w1.heap[w.heap.size]? = some (.cells #[.int .i64 0, .string ⟨#[]⟩, .string ⟨#[]⟩, .slice none 0 0, .slice none 0 0] 25 (0, 0)) := by rw [← hw1]; exact World.alloc_heap_new _ _
            have h0 := hG.b6.size
            have HH := hid (And.intro hb (And.intro hx h0))
            clear hb hx h0
            refine wpOp_of_list (i := 13) rfl ?_
            go_wp2_with fail
            clear hw1
            have hb := HH.out.1
            have hx := HH.out.2
            exact ⟨⟨_, _, _, _, _, _, _, _, _, _, _, _, _, _, _, _, _, _, _, _, _, _, _, _, _, _, _, _, _, _, _, _, _, _, _, _, _, _, _, _, _, _, _, _, _, _, _, _, _, _, _, _, _, _, _, _, _, _, _, _, _, _, rfl⟩, hG.later hb, ⟨_, rfl, HH.out.2.2, hx.1⟩, (fun j hj hne => by
                rcases (by omega : j = 0 ∨ j = 1 ∨ j = 2 ∨ j = 3 ∨ j = 4 ∨ j = 5 ∨ j = 6 ∨ j = 7 ∨ j = 8 ∨ j = 9 ∨ j = 10 ∨ j = 11 ∨ j = 12 ∨ j = 13) with rfl | rfl | rfl | rfl | rfl | rfl | rfl | rfl | rfl | rfl | rfl | rfl | rfl | rfl <;> first | exact absurd rfl hne | rfl), fun j v h => Fact6.later hb j v h, RelB.alloc hR (by decide) rfl hb rfl (Array.getElem?_eq_some_iff.1 hx.1).1⟩
        case tail6 =>
          rintro listed a w hall hR ⟨u0, u1, u2, u8, u9, u10, u12, u13, u14, u15, u16, u17, u18, u19, u20, u21, u22, u23, u24, u25, u26, u27, u28, u29, u30, u31, u32, u33, u34, u35, u36, u37, u38, u39, u40, u41, u42, u43, u44, u45, u46, u47, u48, u49, u50, u51, u52, u53, u54, u55, u56, u57, u58, u59, u60, u61, u62, u63, u64, u65, u66, u67, rfl⟩ hG hf
          obtain ⟨r, b, hsa, hsc, hrt, hok⟩ := hR.both (hall 13 (by omega)) (hall 12 (by omega))
          obtain rfl : u12 = .pointer (some ⟨b, 0, none⟩) := hsa
          obtain rfl : u49 = r.v := hsc
          obtain ⟨b2, hb2, hb0, hrow⟩ := (show ZeroB V6.heap.size (.pointer (some ⟨b, 0, none⟩)) w from hf 13 (by omega))
          obtain rfl : b = b2 := by injection hb2 with h; injection h with h; injection h
          dsimp only [TyC.v, TyC.cells]
          obtain ⟨s0, hs0⟩ : ∃ s, w.setCell ⟨b, 0, none⟩ (.int .i64 r.t.k) = s := ⟨_, rfl⟩
          have z0 := frozen_row hrow 0
          have y0 := cell_of_row w _ 0 _ _ _ hrow
          have hrow0 : s0.heap[b]? = some (.cells #[.int .i64 r.t.k, .string ⟨#[]⟩, .string ⟨#[]⟩, .slice none 0 0, .slice none 0 0] 25 (0, 0)) := by rw [← hs0]; exact heap_setCell_same w _ 0 _ _ _ hrow
          have hk0 : KeepX (fun i => i = b) w s0 := by rw [← hs0]; exact ⟨by rw [size_setC]; exact Nat.le_refl _, fun i _ hi => heap_setCell_other _ _ _ _ (fun e => hi e)⟩
          have hB0 : Below V6.heap.size w s0 := by rw [← hs0]; exact below_setC _ _ hb0
          obtain ⟨s1, hs1⟩ : ∃ s, s0.setCell ⟨b, 1, none⟩ (.string r.t.m) = s := ⟨_, rfl⟩
          have z1 := frozen_row hrow0 1
          have y1 := cell_of_row s0 _ 1 _ _ _ hrow0
          have hrow1 : s1.heap[b]? = some (.cells #[.int .i64 r.t.k, .string r.t.m, .string ⟨#[]⟩, .slice none 0 0, .slice none 0 0] 25 (0, 0)) := by rw [← hs1]; exact heap_setCell_same s0 _ 1 _ _ _ hrow0
          have hk1 : KeepX (fun i => i = b) s0 s1 := by rw [← hs1]; exact ⟨by rw [size_setC]; exact Nat.le_refl _, fun i _ hi => heap_setCell_other _ _ _ _ (fun e => hi e)⟩
          have hB1 : Below V6.heap.size s0 s1 := by rw [← hs1]; exact below_setC _ _ hb0
          obtain ⟨s2, hs2⟩ : ∃ s, s1.setCell ⟨b, 2, none⟩ (.string r.t.n) = s := ⟨_, rfl⟩
          have z2 := frozen_row hrow1 2
          have y2 := cell_of_row s1 _ 2 _ _ _ hrow1
          have hrow2 : s2.heap[b]? = some (.cells #[.int .i64 r.t.k, .string r.t.m, .string r.t.n, .slice none 0 0, .slice none 0 0] 25 (0, 0)) := by rw [← hs2]; exact heap_setCell_same s1 _ 2 _ _ _ hrow1
          have hk2 : KeepX (fun i => i = b) s1 s2 := by rw [← hs2]; exact ⟨by rw [size_setC]; exact Nat.le_refl _, fun i _ hi => heap_setCell_other _ _ _ _ (fun e => hi e)⟩
          have hB2 : Below V6.heap.size s1 s2 := by rw [← hs2]; exact below_setC _ _ hb0
          obtain ⟨s3, hs3⟩ : ∃ s, s2.setCell ⟨b, 3, none⟩ (.slice r.aa r.t.A.len r.ca) = s := ⟨_, rfl⟩
          have z3 := frozen_row hrow2 3
          have y3 := cell_of_row s2 _ 3 _ _ _ hrow2
          have hrow3 : s3.heap[b]? = some (.cells #[.int .i64 r.t.k, .string r.t.m, .string r.t.n, .slice r.aa r.t.A.len r.ca, .slice none 0 0] 25 (0, 0)) := by rw [← hs3]; exact heap_setCell_same s2 _ 3 _ _ _ hrow2
          have hk3 : KeepX (fun i => i = b) s2 s3 := by rw [← hs3]; exact ⟨by rw [size_setC]; exact Nat.le_refl _, fun i _ hi => heap_setCell_other _ _ _ _ (fun e => hi e)⟩
          have hB3 : Below V6.heap.size s2 s3 := by rw [← hs3]; exact below_setC _ _ hb0
          obtain ⟨s4, hs4⟩ : ∃ s, s3.setCell ⟨b, 4, none⟩ (.slice r.af r.t.F.len r.cf) = s := ⟨_, rfl⟩
          have z4 := frozen_row hrow3 4
          have y4 := cell_of_row s3 _ 4 _ _ _ hrow3
          have hrow4 : s4.heap[b]? = some (.cells #[.int .i64 r.t.k, .string r.t.m, .string r.t.n, .slice r.aa r.t.A.len r.ca, .slice r.af r.t.F.len r.cf] 25 (0, 0)) := by rw [← hs4]; exact heap_setCell_same s3 _ 4 _ _ _ hrow3
          have hk4 : KeepX (fun i => i = b) s3 s4 := by rw [← hs4]; exact ⟨by rw [size_setC]; exact Nat.le_refl _, fun i _ hi => heap_setCell_other _ _ _ _ (fun e => hi e)⟩
          have hB4 : Below V6.heap.size s3 s4 := by rw [← hs4]; exact below_setC _ _ hb0
          have hkk : KeepX (fun i => i = b) w s4 := hk0.trans (hk1.trans (hk2.trans (hk3.trans hk4)))
          have hBB : Below V6.heap.size w s4 := hB0.trans (hB1.trans (hB2.trans (hB3.trans hB4)))
          have hok4 := hok.keep (Q := fun i => i ≠ b) hkk fun i hi => ⟨hi, hi⟩
          have hB6 : Below V6.heap.size V6 s4 := hG.b6.trans hBB
          have hG4 : Bx W x1 x2 x3 s4 := H6.out.1.later hB6
          have hra := heap_later hB6 H6.out.2.1
          have HS6 := hid (And.intro hG4 (And.intro hrow4 (And.intro hok4.tyV (And.intro hrt (And.intro hra (TyV_below H6.out.2.2.1 hB6))))))
          have q0 := cell_of_row s4 _ 0 _ _ _ hra
          have q1 := cell_of_row s4 _ 1 _ _ _ hra
          have q2 := cell_of_row s4 _ 2 _ _ _ hra
          have q3 := cell_of_row s4 _ 3 _ _ _ hra
          have q4 := cell_of_row s4 _ 4 _ _ _ hra
          have p0 := cell_of_row s4 _ 0 _ _ _ hrow4
          have p1 := cell_of_row s4 _ 1 _ _ _ hrow4
          have p2 := cell_of_row s4 _ 2 _ _ _ hrow4
          have p3 := cell_of_row s4 _ 3 _ _ _ hrow4
          have p4 := cell_of_row s4 _ 4 _ _ _ hrow4
          clear hkk hBB hok4 hG4 hrow hrow0 hrow1 hrow2 hrow3 hrow4 hk0 hk1 hk2 hk3 hk4 hB0 hB1 hB2 hB3 hB4 hrt hok hf hall hR hG hb0 hb2 hB6 hra
          refine wpOp_of_list (i := 14) rfl ?_
          go_wp2_with fail
          clear z0 z1 z2 z3 z4 y0 y1 y2 y3 y4 hs0 hs1 hs2 hs3 hs4
          change Exit.then _ _ .normal _ _
          have heq : (ra.t).eq r.t = true := by rw [H6.out.2.2.2, HS6.out.2.2.2.1, composes _ _ _ _ _ HXY.out]; exact Ty.eq_refl _
          have hza : ra.t.size ≤ 1099511627776 := by rw [H6.out.2.2.2]; exact Nat.le_trans (Ty.sub_size (M := 200) (by omega) (find_size (by omega)) _) (Nat.le_trans (Nat.mul_le_mul_right 200 (Ty.sub_size (M := 200) (by omega) (find_size (by omega)) _)) (by omega))
          have hce := eq_any HS6.out.2.2.2.2.2 HS6.out.2.2.1 hza
          rw [heq] at hce
          have HCE := hid (show Calls Tryz.prog 27 #[.agg #[.int .i64 ra.t.k, .string ra.t.m, .string ra.t.n, .slice ra.aa ra.t.A.len ra.ca, .slice ra.af ra.t.F.len ra.cf], .agg #[.int .i64 r.t.k, .string r.t.m, .string r.t.n, .slice r.aa r.t.A.len r.ca, .slice r.af r.t.F.len r.cf]] s4 _ from hce)
          clear hce heq hza
          go_wp2_with fail
          refine HCE.out.mono ?_
          rintro e w7 ⟨rfl, hb7⟩
          have H7 := hid (HS6.out.1.later hb7)
          clear hb7 q0 q1 q2 q3 q4 p0 p1 p2 p3 p4
          go_wp2_with fail
          cases hcv : decide (idxN (FL x1.t) sx < (FL x1.t).length) with
          | true =>
            have HCV := hid hcv
            clear hcv
            refine wp_region_any (by kernel_rfl) ?_
            change wpAny _ _ _ _ 15 _ _ (World.drew _)
            have H9 := hid (H7.out.later (Below.refl _ w7).drew)
            generalize w7.drew = V9 at H9 ⊢
            refine wpAny_flow (n := 14) (Fact := Fact9 x1 x2 sx true) (Fx := Fx5 W sx sy) (G := Bx W x1 x2 x3) (Rel := fun _ _ _ => True) (by kernel_rfl) ?back9 ?last9 ?step9 ?tail9 15 _ _ _ ⟨rfl, rfl, ⟨_, _, _, _, _, _, _, _, _, _, _, _, _, _, _, _, _, _, _, _, _, _, _, _, _, _, _, _, _, _, _, _, _, _, _, _, _, _, _, _, _, _, _, _, _, _, _, _, _, _, _, _, _, _, _, _, _, _, _, _, _, _, _, rfl⟩, H9.out, trivial, fun i hi hl => ?l9⟩ (by decide)
            case back9 => exact flow_back_of (by kernel_rfl)
            case last9 => exact flow_last_of (by kernel_rfl)
            case l9 => rw [getD_replicate_false] at hl; cases hl
            case step9 =>
              rintro i hi listed a w hls hun hR ⟨u0, u1, u2, u8, u9, u10, u11, u12, u13, u14, u15, u16, u17, u18, u19, u20, u21, u22, u23, u24, u25, u26, u27, u28, u29, u30, u31, u32, u33, u34, u35, u36, u37, u38, u39, u40, u41, u42, u43, u44, u45, u46, u47, u48, u49, u50, u51, u52, u53, u54, u55, u56, u57, u58, u59, u60, u61, u62, u63, u64, u65, u66, u67, rfl⟩ hG hw
              rcases (by omega : i = 0 ∨ i = 1 ∨ i = 2 ∨ i = 3 ∨ i = 4 ∨ i = 5 ∨ i = 6 ∨ i = 7 ∨ i = 8 ∨ i = 9 ∨ i = 10 ∨ i = 11 ∨ i = 12 ∨ i = 13) with rfl | rfl | rfl | rfl | rfl | rfl | rfl | rfl | rfl | rfl | rfl | rfl | rfl | rfl
              · have c0 := cell_of_row w _ 0 _ _ _ hG.row1
                have c1 := cell_of_row w _ 1 _ _ _ hG.row1
                have c2 := cell_of_row w _ 2 _ _ _ hG.row1
                have c3 := cell_of_row w _ 3 _ _ _ hG.row1
                have c4 := cell_of_row w _ 4 _ _ _ hG.row1
                refine wpOp_of_list (i := 0) rfl ?_
                go_wp2_with fail
                first
                  | exact ⟨⟨_, _, _, _, _, _, _, _, _, _, _, _, _, _, _, _, _, _, _, _, _, _, _, _, _, _, _, _, _, _, _, _, _, _, _, _, _, _, _, _, _, _, _, _, _, _, _, _, _, _, _, _, _, _, _, _, _, _, _, _, _, _, _, rfl⟩, hG, rfl, (fun j hj hne => by rcases (by omega : j = 0 ∨ j = 1 ∨ j = 2 ∨ j = 3 ∨ j = 4 ∨ j = 5 ∨ j = 6 ∨ j = 7 ∨ j = 8 ∨ j = 9 ∨ j = 10 ∨ j = 11 ∨ j = 12 ∨ j = 13) with rfl | rfl | rfl | rfl | rfl | rfl | rfl | rfl | rfl | rfl | rfl | rfl | rfl | rfl <;> first | exact absurd rfl hne | rfl), fun _ _ h => h⟩
                  | exact ⟨⟨_, _, _, _, _, _, _, _, _, _, _, _, _, _, _, _, _, _, _, _, _, _, _, _, _, _, _, _, _, _, _, _, _, _, _, _, _, _, _, _, _, _, _, _, _, _, _, _, _, _, _, _, _, _, _, _, _, _, _, _, _, _, _, rfl⟩, hG, rfl, (fun j hj hne => by rcases (by omega : j = 0 ∨ j = 1 ∨ j = 2 ∨ j = 3 ∨ j = 4 ∨ j = 5 ∨ j = 6 ∨ j = 7 ∨ j = 8 ∨ j = 9 ∨ j = 10 ∨ j = 11 ∨ j = 12 ∨ j = 13) with rfl | rfl | rfl | rfl | rfl | rfl | rfl | rfl | rfl | rfl | rfl | rfl | rfl | rfl <;> first | exact absurd rfl hne | rfl), (fun _ _ h => h), trivial⟩
              · have hc := free_any (TyV_below x1.tyV hG.below) (by omega) HNM.out
                obtain rfl : u54 = .agg #[.int .i64 x1.t.k, .string x1.t.m, .string x1.t.n, .slice x1.aa x1.t.A.len x1.ca, .slice x1.af x1.t.F.len x1.cf] := hw 0 (by kernel_rfl)
                have HC := hid (show Calls Tryz.prog 38 #[.agg #[.int .i64 x1.t.k, .string x1.t.m, .string x1.t.n, .slice x1.aa x1.t.A.len x1.ca, .slice x1.af x1.t.F.len x1.cf]] w _ from hc)
                clear hc
                refine wpOp_of_list (i := 1) rfl ?_
                go_wp2_with fail
                refine HC.out.mono ?_
                rintro e w1 ⟨fv, rfl, hfr, hb⟩
                obtain ⟨p, c, rfl⟩ := own_slice hfr
                have e9 : (freeL x1.t).map encStr = (FL x1.t).map Value.string := by unfold FL; rw [List.map_map]; rfl
                rw [e9] at hfr
                have hrs : RowS w1 (FL x1.t) p := rowS_own (FL_len x1.t) hfr
                clear e9
                have HH := hid (And.intro hb hrs)
                clear hb hrs hfr
                go_wp2_with fail
                have hb := HH.out.1
                first
                  | exact ⟨⟨_, _, _, _, _, _, _, _, _, _, _, _, _, _, _, _, _, _, _, _, _, _, _, _, _, _, _, _, _, _, _, _, _, _, _, _, _, _, _, _, _, _, _, _, _, _, _, _, _, _, _, _, _, _, _, _, _, _, _, _, _, _, _, rfl⟩, hG.later hb, ⟨p, c, rfl, HH.out.2⟩, (fun j hj hne => by rcases (by omega : j = 0 ∨ j = 1 ∨ j = 2 ∨ j = 3 ∨ j = 4 ∨ j = 5 ∨ j = 6 ∨ j = 7 ∨ j = 8 ∨ j = 9 ∨ j = 10 ∨ j = 11 ∨ j = 12 ∨ j = 13) with rfl | rfl | rfl | rfl | rfl | rfl | rfl | rfl | rfl | rfl | rfl | rfl | rfl | rfl <;> first | exact absurd rfl hne | rfl), (fun j v h => Fact9.later hb j v h), trivial⟩
                  | exact ⟨⟨_, _, _, _, _, _, _, _, _, _, _, _, _, _, _, _, _, _, _, _, _, _, _, _, _, _, _, _, _, _, _, _, _, _, _, _, _, _, _, _, _, _, _, _, _, _, _, _, _, _, _, _, _, _, _, _, _, _, _, _, _, _, _, rfl⟩, hG.later hb, ⟨p, c, rfl, HH.out.2⟩, (fun j hj hne => by rcases (by omega : j = 0 ∨ j = 1 ∨ j = 2 ∨ j = 3 ∨ j = 4 ∨ j = 5 ∨ j = 6 ∨ j = 7 ∨ j = 8 ∨ j = 9 ∨ j = 10 ∨ j = 11 ∨ j = 12 ∨ j = 13) with rfl | rfl | rfl | rfl | rfl | rfl | rfl | rfl | rfl | rfl | rfl | rfl | rfl | rfl <;> first | exact absurd rfl hne | rfl), fun j v h => Fact9.later hb j v h⟩
              · skip
                refine wpOp_of_list (i := 2) rfl ?_
                go_wp2_with fail
                first
                  | exact ⟨⟨_, _, _, _, _, _, _, _, _, _, _, _, _, _, _, _, _, _, _, _, _, _, _, _, _, _, _, _, _, _, _, _, _, _, _, _, _, _, _, _, _, _, _, _, _, _, _, _, _, _, _, _, _, _, _, _, _, _, _, _, _, _, _, rfl⟩, hG, rfl, (fun j hj hne => by rcases (by omega : j = 0 ∨ j = 1 ∨ j = 2 ∨ j = 3 ∨ j = 4 ∨ j = 5 ∨ j = 6 ∨ j = 7 ∨ j = 8 ∨ j = 9 ∨ j = 10 ∨ j = 11 ∨ j = 12 ∨ j = 13) with rfl | rfl | rfl | rfl | rfl | rfl | rfl | rfl | rfl | rfl | rfl | rfl | rfl | rfl <;> first | exact absurd rfl hne | rfl), fun _ _ h => h⟩
                  | exact ⟨⟨_, _, _, _, _, _, _, _, _, _, _, _, _, _, _, _, _, _, _, _, _, _, _, _, _, _, _, _, _, _, _, _, _, _, _, _, _, _, _, _, _, _, _, _, _, _, _, _, _, _, _, _, _, _, _, _, _, _, _, _, _, _, _, rfl⟩, hG, rfl, (fun j hj hne => by rcases (by omega : j = 0 ∨ j = 1 ∨ j = 2 ∨ j = 3 ∨ j = 4 ∨ j = 5 ∨ j = 6 ∨ j = 7 ∨ j = 8 ∨ j = 9 ∨ j = 10 ∨ j = 11 ∨ j = 12 ∨ j = 13) with rfl | rfl | rfl | rfl | rfl | rfl | rfl | rfl | rfl | rfl | rfl | rfl | rfl | rfl <;> first | exact absurd rfl hne | rfl), (fun _ _ h => h), trivial⟩
              · obtain ⟨p, c, hp, hrs⟩ := (show FreeS x1.t u55 w from hw 1 (by kernel_rfl))
                subst hp
                obtain rfl : u56 = .string sx := hw 2 (by kernel_rfl)
                have hc := contains_any w (FL x1.t) p c sx w hrs (Below.refl _ _) (by rw [FL_len]; have := freeL_len x1.t; omega)
                rw [HCV.out, FL_len] at hc
                have HC := hid hc
                clear hc hrs
                refine wpOp_of_list (i := 3) rfl ?_
                go_wp2_with fail
                refine HC.out.mono ?_
                rintro e w1 ⟨rfl, rfl⟩
                go_wp2_with fail
                first
                  | exact ⟨⟨_, _, _, _, _, _, _, _, _, _, _, _, _, _, _, _, _, _, _, _, _, _, _, _, _, _, _, _, _, _, _, _, _, _, _, _, _, _, _, _, _, _, _, _, _, _, _, _, _, _, _, _, _, _, _, _, _, _, _, _, _, _, _, rfl⟩, hG, rfl, (fun j hj hne => by rcases (by omega : j = 0 ∨ j = 1 ∨ j = 2 ∨ j = 3 ∨ j = 4 ∨ j = 5 ∨ j = 6 ∨ j = 7 ∨ j = 8 ∨ j = 9 ∨ j = 10 ∨ j = 11 ∨ j = 12 ∨ j = 13) with rfl | rfl | rfl | rfl | rfl | rfl | rfl | rfl | rfl | rfl | rfl | rfl | rfl | rfl <;> first | exact absurd rfl hne | rfl), fun _ _ h => h⟩
                  | exact ⟨⟨_, _, _, _, _, _, _, _, _, _, _, _, _, _, _, _, _, _, _, _, _, _, _, _, _, _, _, _, _, _, _, _, _, _, _, _, _, _, _, _, _, _, _, _, _, _, _, _, _, _, _, _, _, _, _, _, _, _, _, _, _, _, _, rfl⟩, hG, rfl, (fun j hj hne => by rcases (by omega : j = 0 ∨ j = 1 ∨ j = 2 ∨ j = 3 ∨ j = 4 ∨ j = 5 ∨ j = 6 ∨ j = 7 ∨ j = 8 ∨ j = 9 ∨ j = 10 ∨ j = 11 ∨ j = 12 ∨ j = 13) with rfl | rfl | rfl | rfl | rfl | rfl | rfl | rfl | rfl | rfl | rfl | rfl | rfl | rfl <;> first | exact absurd rfl hne | rfl), (fun _ _ h => h), trivial⟩
              · obtain rfl : u57 = .bool true := hw 3 (by kernel_rfl)
                refine wpOp_of_list (i := 4) rfl ?_
                go_wp2_with fail
                first
                  | exact ⟨⟨_, _, _, _, _, _, _, _, _, _, _, _, _, _, _, _, _, _, _, _, _, _, _, _, _, _, _, _, _, _, _, _, _, _, _, _, _, _, _, _, _, _, _, _, _, _, _, _, _, _, _, _, _, _, _, _, _, _, _, _, _, _, _, rfl⟩, hG, rfl, (fun j hj hne => by rcases (by omega : j = 0 ∨ j = 1 ∨ j = 2 ∨ j = 3 ∨ j = 4 ∨ j = 5 ∨ j = 6 ∨ j = 7 ∨ j = 8 ∨ j = 9 ∨ j = 10 ∨ j = 11 ∨ j = 12 ∨ j = 13) with rfl | rfl | rfl | rfl | rfl | rfl | rfl | rfl | rfl | rfl | rfl | rfl | rfl | rfl <;> first | exact absurd rfl hne | rfl), fun _ _ h => h⟩
                  | exact ⟨⟨_, _, _, _, _, _, _, _, _, _, _, _, _, _, _, _, _, _, _, _, _, _, _, _, _, _, _, _, _, _, _, _, _, _, _, _, _, _, _, _, _, _, _, _, _, _, _, _, _, _, _, _, _, _, _, _, _, _, _, _, _, _, _, rfl⟩, hG, rfl, (fun j hj hne => by rcases (by omega : j = 0 ∨ j = 1 ∨ j = 2 ∨ j = 3 ∨ j = 4 ∨ j = 5 ∨ j = 6 ∨ j = 7 ∨ j = 8 ∨ j = 9 ∨ j = 10 ∨ j = 11 ∨ j = 12 ∨ j = 13) with rfl | rfl | rfl | rfl | rfl | rfl | rfl | rfl | rfl | rfl | rfl | rfl | rfl | rfl <;> first | exact absurd rfl hne | rfl), (fun _ _ h => h), trivial⟩
              · obtain rfl : u58 = .bool true := hw 4 (by kernel_rfl)
                refine wpOp_of_list (i := 5) rfl ?_
                go_wp2_with fail
                first
                  | exact ⟨⟨_, _, _, _, _, _, _, _, _, _, _, _, _, _, _, _, _, _, _, _, _, _, _, _, _, _, _, _, _, _, _, _, _, _, _, _, _, _, _, _, _, _, _, _, _, _, _, _, _, _, _, _, _, _, _, _, _, _, _, _, _, _, _, rfl⟩, hG, fun h => (by cases h), (fun j hj hne => by rcases (by omega : j = 0 ∨ j = 1 ∨ j = 2 ∨ j = 3 ∨ j = 4 ∨ j = 5 ∨ j = 6 ∨ j = 7 ∨ j = 8 ∨ j = 9 ∨ j = 10 ∨ j = 11 ∨ j = 12 ∨ j = 13) with rfl | rfl | rfl | rfl | rfl | rfl | rfl | rfl | rfl | rfl | rfl | rfl | rfl | rfl <;> first | exact absurd rfl hne | rfl), fun _ _ h => h⟩
                  | exact ⟨⟨_, _, _, _, _, _, _, _, _, _, _, _, _, _, _, _, _, _, _, _, _, _, _, _, _, _, _, _, _, _, _, _, _, _, _, _, _, _, _, _, _, _, _, _, _, _, _, _, _, _, _, _, _, _, _, _, _, _, _, _, _, _, _, rfl⟩, hG, fun h => (by cases h), (fun j hj hne => by rcases (by omega : j = 0 ∨ j = 1 ∨ j = 2 ∨ j = 3 ∨ j = 4 ∨ j = 5 ∨ j = 6 ∨ j = 7 ∨ j = 8 ∨ j = 9 ∨ j = 10 ∨ j = 11 ∨ j = 12 ∨ j = 13) with rfl | rfl | rfl | rfl | rfl | rfl | rfl | rfl | rfl | rfl | rfl | rfl | rfl | rfl <;> first | exact absurd rfl hne | rfl), (fun _ _ h => h), trivial⟩
              · obtain rfl : u58 = .bool true := hw 4 (by kernel_rfl)
                refine wpOp_of_list (i := 6) rfl ?_
                go_wp2_with fail
                first
                  | exact ⟨⟨_, _, _, _, _, _, _, _, _, _, _, _, _, _, _, _, _, _, _, _, _, _, _, _, _, _, _, _, _, _, _, _, _, _, _, _, _, _, _, _, _, _, _, _, _, _, _, _, _, _, _, _, _, _, _, _, _, _, _, _, _, _, _, rfl⟩, hG, fun h => (by cases h), (fun j hj hne => by rcases (by omega : j = 0 ∨ j = 1 ∨ j = 2 ∨ j = 3 ∨ j = 4 ∨ j = 5 ∨ j = 6 ∨ j = 7 ∨ j = 8 ∨ j = 9 ∨ j = 10 ∨ j = 11 ∨ j = 12 ∨ j = 13) with rfl | rfl | rfl | rfl | rfl | rfl | rfl | rfl | rfl | rfl | rfl | rfl | rfl | rfl <;> first | exact absurd rfl hne | rfl), fun _ _ h => h⟩
                  | exact ⟨⟨_, _, _, _, _, _, _, _, _, _, _, _, _, _, _, _, _, _, _, _, _, _, _, _, _, _, _, _, _, _, _, _, _, _, _, _, _, _, _, _, _, _, _, _, _, _, _, _, _, _, _, _, _, _, _, _, _, _, _, _, _, _, _, rfl⟩, hG, fun h => (by cases h), (fun j hj hne => by rcases (by omega : j = 0 ∨ j = 1 ∨ j = 2 ∨ j = 3 ∨ j = 4 ∨ j = 5 ∨ j = 6 ∨ j = 7 ∨ j = 8 ∨ j = 9 ∨ j = 10 ∨ j = 11 ∨ j = 12 ∨ j = 13) with rfl | rfl | rfl | rfl | rfl | rfl | rfl | rfl | rfl | rfl | rfl | rfl | rfl | rfl <;> first | exact absurd rfl hne | rfl), (fun _ _ h => h), trivial⟩
              · obtain rfl : u58 = .bool true := hw 4 (by kernel_rfl)
                refine wpOp_of_list (i := 7) rfl ?_
                go_wp2_with fail
                first
                  | exact ⟨⟨_, _, _, _, _, _, _, _, _, _, _, _, _, _, _, _, _, _, _, _, _, _, _, _, _, _, _, _, _, _, _, _, _, _, _, _, _, _, _, _, _, _, _, _, _, _, _, _, _, _, _, _, _, _, _, _, _, _, _, _, _, _, _, rfl⟩, hG, fun h => (by cases h), (fun j hj hne => by rcases (by omega : j = 0 ∨ j = 1 ∨ j = 2 ∨ j = 3 ∨ j = 4 ∨ j = 5 ∨ j = 6 ∨ j = 7 ∨ j = 8 ∨ j = 9 ∨ j = 10 ∨ j = 11 ∨ j = 12 ∨ j = 13) with rfl | rfl | rfl | rfl | rfl | rfl | rfl | rfl | rfl | rfl | rfl | rfl | rfl | rfl <;> first | exact absurd rfl hne | rfl), fun _ _ h => h⟩
                  | exact ⟨⟨_, _, _, _, _, _, _, _, _, _, _, _, _, _, _, _, _, _, _, _, _, _, _, _, _, _, _, _, _, _, _, _, _, _, _, _, _, _, _, _, _, _, _, _, _, _, _, _, _, _, _, _, _, _, _, _, _, _, _, _, _, _, _, rfl⟩, hG, fun h => (by cases h), (fun j hj hne => by rcases (by omega : j = 0 ∨ j = 1 ∨ j = 2 ∨ j = 3 ∨ j = 4 ∨ j = 5 ∨ j = 6 ∨ j = 7 ∨ j = 8 ∨ j = 9 ∨ j = 10 ∨ j = 11 ∨ j = 12 ∨ j = 13) with rfl | rfl | rfl | rfl | rfl | rfl | rfl | rfl | rfl | rfl | rfl | rfl | rfl | rfl <;> first | exact absurd rfl hne | rfl), (fun _ _ h => h), trivial⟩
              · obtain rfl : u58 = .bool true := hw 4 (by kernel_rfl)
                refine wpOp_of_list (i := 8) rfl ?_
                go_wp2_with fail
                first
                  | exact ⟨⟨_, _, _, _, _, _, _, _, _, _, _, _, _, _, _, _, _, _, _, _, _, _, _, _, _, _, _, _, _, _, _, _, _, _, _, _, _, _, _, _, _, _, _, _, _, _, _, _, _, _, _, _, _, _, _, _, _, _, _, _, _, _, _, rfl⟩, hG, fun h => (by cases h), (fun j hj hne => by rcases (by omega : j = 0 ∨ j = 1 ∨ j = 2 ∨ j = 3 ∨ j = 4 ∨ j = 5 ∨ j = 6 ∨ j = 7 ∨ j = 8 ∨ j = 9 ∨ j = 10 ∨ j = 11 ∨ j = 12 ∨ j = 13) with rfl | rfl | rfl | rfl | rfl | rfl | rfl | rfl | rfl | rfl | rfl | rfl | rfl | rfl <;> first | exact absurd rfl hne | rfl), fun _ _ h => h⟩
                  | exact ⟨⟨_, _, _, _, _, _, _, _, _, _, _, _, _, _, _, _, _, _, _, _, _, _, _, _, _, _, _, _, _, _, _, _, _, _, _, _, _, _, _, _, _, _, _, _, _, _, _, _, _, _, _, _, _, _, _, _, _, _, _, _, _, _, _, rfl⟩, hG, fun h => (by cases h), (fun j hj hne => by rcases (by omega : j = 0 ∨ j = 1 ∨ j = 2 ∨ j = 3 ∨ j = 4 ∨ j = 5 ∨ j = 6 ∨ j = 7 ∨ j = 8 ∨ j = 9 ∨ j = 10 ∨ j = 11 ∨ j = 12 ∨ j = 13) with rfl | rfl | rfl | rfl | rfl | rfl | rfl | rfl | rfl | rfl | rfl | rfl | rfl | rfl <;> first | exact absurd rfl hne | rfl), (fun _ _ h => h), trivial⟩
              · obtain rfl : u58 = .bool true := hw 4 (by kernel_rfl)
                refine wpOp_of_list (i := 9) rfl ?_
                go_wp2_with fail
                first
                  | exact ⟨⟨_, _, _, _, _, _, _, _, _, _, _, _, _, _, _, _, _, _, _, _, _, _, _, _, _, _, _, _, _, _, _, _, _, _, _, _, _, _, _, _, _, _, _, _, _, _, _, _, _, _, _, _, _, _, _, _, _, _, _, _, _, _, _, rfl⟩, hG, fun h => (by cases h), (fun j hj hne => by rcases (by omega : j = 0 ∨ j = 1 ∨ j = 2 ∨ j = 3 ∨ j = 4 ∨ j = 5 ∨ j = 6 ∨ j = 7 ∨ j = 8 ∨ j = 9 ∨ j = 10 ∨ j = 11 ∨ j = 12 ∨ j = 13) with rfl | rfl | rfl | rfl | rfl | rfl | rfl | rfl | rfl | rfl | rfl | rfl | rfl | rfl <;> first | exact absurd rfl hne | rfl), fun _ _ h => h⟩
                  | exact ⟨⟨_, _, _, _, _, _, _, _, _, _, _, _, _, _, _, _, _, _, _, _, _, _, _, _, _, _, _, _, _, _, _, _, _, _, _, _, _, _, _, _, _, _, _, _, _, _, _, _, _, _, _, _, _, _, _, _, _, _, _, _, _, _, _, rfl⟩, hG, fun h => (by cases h), (fun j hj hne => by rcases (by omega : j = 0 ∨ j = 1 ∨ j = 2 ∨ j = 3 ∨ j = 4 ∨ j = 5 ∨ j = 6 ∨ j = 7 ∨ j = 8 ∨ j = 9 ∨ j = 10 ∨ j = 11 ∨ j = 12 ∨ j = 13) with rfl | rfl | rfl | rfl | rfl | rfl | rfl | rfl | rfl | rfl | rfl | rfl | rfl | rfl <;> first | exact absurd rfl hne | rfl), (fun _ _ h => h), trivial⟩
              · obtain rfl : u58 = .bool true := hw 4 (by kernel_rfl)
                refine wpOp_of_list (i := 10) rfl ?_
                go_wp2_with fail
                first
                  | exact ⟨⟨_, _, _, _, _, _, _, _, _, _, _, _, _, _, _, _, _, _, _, _, _, _, _, _, _, _, _, _, _, _, _, _, _, _, _, _, _, _, _, _, _, _, _, _, _, _, _, _, _, _, _, _, _, _, _, _, _, _, _, _, _, _, _, rfl⟩, hG, fun h => (by cases h), (fun j hj hne => by rcases (by omega : j = 0 ∨ j = 1 ∨ j = 2 ∨ j = 3 ∨ j = 4 ∨ j = 5 ∨ j = 6 ∨ j = 7 ∨ j = 8 ∨ j = 9 ∨ j = 10 ∨ j = 11 ∨ j = 12 ∨ j = 13) with rfl | rfl | rfl | rfl | rfl | rfl | rfl | rfl | rfl | rfl | rfl | rfl | rfl | rfl <;> first | exact absurd rfl hne | rfl), fun _ _ h => h⟩
                  | exact ⟨⟨_, _, _, _, _, _, _, _, _, _, _, _, _, _, _, _, _, _, _, _, _, _, _, _, _, _, _, _, _, _, _, _, _, _, _, _, _, _, _, _, _, _, _, _, _, _, _, _, _, _, _, _, _, _, _, _, _, _, _, _, _, _, _, rfl⟩, hG, fun h => (by cases h), (fun j hj hne => by rcases (by omega : j = 0 ∨ j = 1 ∨ j = 2 ∨ j = 3 ∨ j = 4 ∨ j = 5 ∨ j = 6 ∨ j = 7 ∨ j = 8 ∨ j = 9 ∨ j = 10 ∨ j = 11 ∨ j = 12 ∨ j = 13) with rfl | rfl | rfl | rfl | rfl | rfl | rfl | rfl | rfl | rfl | rfl | rfl | rfl | rfl <;> first | exact absurd rfl hne | rfl), (fun _ _ h => h), trivial⟩
              · obtain rfl : u58 = .bool true := hw 4 (by kernel_rfl)
                refine wpOp_of_list (i := 11) rfl ?_
                go_wp2_with fail
                first
                  | exact ⟨⟨_, _, _, _, _, _, _, _, _, _, _, _, _, _, _, _, _, _, _, _, _, _, _, _, _, _, _, _, _, _, _, _, _, _, _, _, _, _, _, _, _, _, _, _, _, _, _, _, _, _, _, _, _, _, _, _, _, _, _, _, _, _, _, rfl⟩, hG, fun h => (by cases h), (fun j hj hne => by rcases (by omega : j = 0 ∨ j = 1 ∨ j = 2 ∨ j = 3 ∨ j = 4 ∨ j = 5 ∨ j = 6 ∨ j = 7 ∨ j = 8 ∨ j = 9 ∨ j = 10 ∨ j = 11 ∨ j = 12 ∨ j = 13) with rfl | rfl | rfl | rfl | rfl | rfl | rfl | rfl | rfl | rfl | rfl | rfl | rfl | rfl <;> first | exact absurd rfl hne | rfl), fun _ _ h => h⟩
                  | exact ⟨⟨_, _, _, _, _, _, _, _, _, _, _, _, _, _, _, _, _, _, _, _, _, _, _, _, _, _, _, _, _, _, _, _, _, _, _, _, _, _, _, _, _, _, _, _, _, _, _, _, _, _, _, _, _, _, _, _, _, _, _, _, _, _, _, rfl⟩, hG, fun h => (by cases h), (fun j hj hne => by rcases (by omega : j = 0 ∨ j = 1 ∨ j = 2 ∨ j = 3 ∨ j = 4 ∨ j = 5 ∨ j = 6 ∨ j = 7 ∨ j = 8 ∨ j = 9 ∨ j = 10 ∨ j = 11 ∨ j = 12 ∨ j = 13) with rfl | rfl | rfl | rfl | rfl | rfl | rfl | rfl | rfl | rfl | rfl | rfl | rfl | rfl <;> first | exact absurd rfl hne | rfl), (fun _ _ h => h), trivial⟩
              · obtain rfl : u58 = .bool true := hw 4 (by kernel_rfl)
                refine wpOp_of_list (i := 12) rfl ?_
                go_wp2_with fail
                first
                  | exact ⟨⟨_, _, _, _, _, _, _, _, _, _, _, _, _, _, _, _, _, _, _, _, _, _, _, _, _, _, _, _, _, _, _, _, _, _, _, _, _, _, _, _, _, _, _, _, _, _, _, _, _, _, _, _, _, _, _, _, _, _, _, _, _, _, _, rfl⟩, hG, fun h => (by cases h), (fun j hj hne => by rcases (by omega : j = 0 ∨ j = 1 ∨ j = 2 ∨ j = 3 ∨ j = 4 ∨ j = 5 ∨ j = 6 ∨ j = 7 ∨ j = 8 ∨ j = 9 ∨ j = 10 ∨ j = 11 ∨ j = 12 ∨ j = 13) with rfl | rfl | rfl | rfl | rfl | rfl | rfl | rfl | rfl | rfl | rfl | rfl | rfl | rfl <;> first | exact absurd rfl hne | rfl), fun _ _ h => h⟩
                  | exact ⟨⟨_, _, _, _, _, _, _, _, _, _, _, _, _, _, _, _, _, _, _, _, _, _, _, _, _, _, _, _, _, _, _, _, _, _, _, _, _, _, _, _, _, _, _, _, _, _, _, _, _, _, _, _, _, _, _, _, _, _, _, _, _, _, _, rfl⟩, hG, fun h => (by cases h), (fun j hj hne => by rcases (by omega : j = 0 ∨ j = 1 ∨ j = 2 ∨ j = 3 ∨ j = 4 ∨ j = 5 ∨ j = 6 ∨ j = 7 ∨ j = 8 ∨ j = 9 ∨ j = 10 ∨ j = 11 ∨ j = 12 ∨ j = 13) with rfl | rfl | rfl | rfl | rfl | rfl | rfl | rfl | rfl | rfl | rfl | rfl | rfl | rfl <;> first | exact absurd rfl hne | rfl), (fun _ _ h => h), trivial⟩
              · obtain rfl : u58 = .bool true := hw 4 (by kernel_rfl)
                refine wpOp_of_list (i := 13) rfl ?_
                go_wp2_with fail
                first
                  | exact ⟨⟨_, _, _, _, _, _, _, _, _, _, _, _, _, _, _, _, _, _, _, _, _, _, _, _, _, _, _, _, _, _, _, _, _, _, _, _, _, _, _, _, _, _, _, _, _, _, _, _, _, _, _, _, _, _, _, _, _, _, _, _, _, _, _, rfl⟩, hG, rfl, (fun j hj hne => by rcases (by omega : j = 0 ∨ j = 1 ∨ j = 2 ∨ j = 3 ∨ j = 4 ∨ j = 5 ∨ j = 6 ∨ j = 7 ∨ j = 8 ∨ j = 9 ∨ j = 10 ∨ j = 11 ∨ j = 12 ∨ j = 13) with rfl | rfl | rfl | rfl | rfl | rfl | rfl | rfl | rfl | rfl | rfl | rfl | rfl | rfl <;> first | exact absurd rfl hne | rfl), fun _ _ h => h⟩
                  | exact ⟨⟨_, _, _, _, _, _, _, _, _, _, _, _, _, _, _, _, _, _, _, _, _, _, _, _, _, _, _, _, _, _, _, _, _, _, _, _, _, _, _, _, _, _, _, _, _, _, _, _, _, _, _, _, _, _, _, _, _, _, _, _, _, _, _, rfl⟩, hG, rfl, (fun j hj hne => by rcases (by omega : j = 0 ∨ j = 1 ∨ j = 2 ∨ j = 3 ∨ j = 4 ∨ j = 5 ∨ j = 6 ∨ j = 7 ∨ j = 8 ∨ j = 9 ∨ j = 10 ∨ j = 11 ∨ j = 12 ∨ j = 13) with rfl | rfl | rfl | rfl | rfl | rfl | rfl | rfl | rfl | rfl | rfl | rfl | rfl | rfl <;> first | exact absurd rfl hne | rfl), (fun _ _ h => h), trivial⟩
            case tail9 =>
              rintro listed a w hall hR ⟨u0, u1, u2, u8, u9, u10, u11, u12, u13, u14, u15, u16, u17, u18, u19, u20, u21, u22, u23, u24, u25, u26, u27, u28, u29, u30, u31, u32, u33, u34, u35, u36, u37, u38, u39, u40, u41, u42, u43, u44, u45, u46, u47, u48, u49, u50, u51, u52, u53, u54, u55, u56, u57, u58, u59, u60, u61, u62, u63, u64, u65, u66, u67, rfl⟩ hG hf
              obtain rfl : u67 = .bool true := hf 13 (by omega)
              refine wpOp_of_list (i := 14) rfl ?_
              go_wp2_with fail
              go_ret
              exact ⟨rfl, hG.below⟩
          | false =>
            have HCV := hid hcv
            clear hcv
            refine wp_region_any (by kernel_rfl) ?_
            change wpAny _ _ _ _ 15 _ _ (World.drew _)
            have H9 := hid (H7.out.later (Below.refl _ w7).drew)
            generalize w7.drew = V9 at H9 ⊢
            refine wpAny_flow (n := 14) (Fact := Fact9 x1 x2 sx false) (Fx := Fx5 W sx sy) (G := Bx W x1 x2 x3) (Rel := fun _ _ _ => True) (by kernel_rfl) ?back9 ?last9 ?step9 ?tail9 15 _ _ _ ⟨rfl, rfl, ⟨_, _, _, _, _, _, _, _, _, _, _, _, _, _, _, _, _, _, _, _, _, _, _, _, _, _, _, _, _, _, _, _, _, _, _, _, _, _, _, _, _, _, _, _, _, _, _, _, _, _, _, _, _, _, _, _, _, _, _, _, _, _, _, rfl⟩, H9.out, trivial, fun i hi hl => ?l9⟩ (by decide)
            case back9 => exact flow_back_of (by kernel_rfl)
            case last9 => exact flow_last_of (by kernel_rfl)
            case l9 => rw [getD_replicate_false] at hl; cases hl
            case step9 =>
              rintro i hi listed a w hls hun hR ⟨u0, u1, u2, u8, u9, u10, u11, u12, u13, u14, u15, u16, u17, u18, u19, u20, u21, u22, u23, u24, u25, u26, u27, u28, u29, u30, u31, u32, u33, u34, u35, u36, u37, u38, u39, u40, u41, u42, u43, u44, u45, u46, u47, u48, u49, u50, u51, u52, u53, u54, u55, u56, u57, u58, u59, u60, u61, u62, u63, u64, u65, u66, u67, rfl⟩ hG hw
              rcases (by omega : i = 0 ∨ i = 1 ∨ i = 2 ∨ i = 3 ∨ i = 4 ∨ i = 5 ∨ i = 6 ∨ i = 7 ∨ i = 8 ∨ i = 9 ∨ i = 10 ∨ i = 11 ∨ i = 12 ∨ i = 13) with rfl | rfl | rfl | rfl | rfl | rfl | rfl | rfl | rfl | rfl | rfl | rfl | rfl | rfl
              · have c0 := cell_of_row w _ 0 _ _ _ hG.row1
                have c1 := cell_of_row w _ 1 _ _ _ hG.row1
                have c2 := cell_of_row w _ 2 _ _ _ hG.row1
                have c3 := cell_of_row w _ 3 _ _ _ hG.row1
                have c4 := cell_of_row w _ 4 _ _ _ hG.row1
                refine wpOp_of_list (i := 0) rfl ?_
                go_wp2_with fail
                first
                  | exact ⟨⟨_, _, _, _, _, _, _, _, _, _, _, _, _, _, _, _, _, _, _, _, _, _, _, _, _, _, _, _, _, _, _, _, _, _, _, _, _, _, _, _, _, _, _, _, _, _, _, _, _, _, _, _, _, _, _, _, _, _, _, _, _, _, _, rfl⟩, hG, rfl, (fun j hj hne => by rcases (by omega : j = 0 ∨ j = 1 ∨ j = 2 ∨ j = 3 ∨ j = 4 ∨ j = 5 ∨ j = 6 ∨ j = 7 ∨ j = 8 ∨ j = 9 ∨ j = 10 ∨ j = 11 ∨ j = 12 ∨ j = 13) with rfl | rfl | rfl | rfl | rfl | rfl | rfl | rfl | rfl | rfl | rfl | rfl | rfl | rfl <;> first | exact absurd rfl hne | rfl), fun _ _ h => h⟩
                  | exact ⟨⟨_, _, _, _, _, _, _, _, _, _, _, _, _, _, _, _, _, _, _, _, _, _, _, _, _, _, _, _, _, _, _, _, _, _, _, _, _, _, _, _, _, _, _, _, _, _, _, _, _, _, _, _, _, _, _, _, _, _, _, _, _, _, _, rfl⟩, hG, rfl, (fun j hj hne => by rcases (by omega : j = 0 ∨ j = 1 ∨ j = 2 ∨ j = 3 ∨ j = 4 ∨ j = 5 ∨ j = 6 ∨ j = 7 ∨ j = 8 ∨ j = 9 ∨ j = 10 ∨ j = 11 ∨ j = 12 ∨ j = 13) with rfl | rfl | rfl | rfl | rfl | rfl | rfl | rfl | rfl | rfl | rfl | rfl | rfl | rfl <;> first | exact absurd rfl hne | rfl), (fun _ _ h => h), trivial⟩
              · have hc := free_any (TyV_below x1.tyV hG.below) (by omega) HNM.out
                obtain rfl : u54 = .agg #[.int .i64 x1.t.k, .string x1.t.m, .string x1.t.n, .slice x1.aa x1.t.A.len x1.ca, .slice x1.af x1.t.F.len x1.cf] := hw 0 (by kernel_rfl)
                have HC := hid (show Calls Tryz.prog 38 #[.agg #[.int .i64 x1.t.k, .string x1.t.m, .string x1.t.n, .slice x1.aa x1.t.A.len x1.ca, .slice x1.af x1.t.F.len x1.cf]] w _ from hc)
                clear hc
                refine wpOp_of_list (i := 1) rfl ?_
                go_wp2_with fail
                refine HC.out.mono ?_
                rintro e w1 ⟨fv, rfl, hfr, hb⟩
                obtain ⟨p, c, rfl⟩ := own_slice hfr
                have e9 : (freeL x1.t).map encStr = (FL x1.t).map Value.string := by unfold FL; rw [List.map_map]; rfl
                rw [e9] at hfr
                have hrs : RowS w1 (FL x1.t) p := rowS_own (FL_len x1.t) hfr
                clear e9
                have HH := hid (And.intro hb hrs)
                clear hb hrs hfr
                go_wp2_with fail
                have hb := HH.out.1
                first
                  | exact ⟨⟨_, _, _, _, _, _, _, _, _, _, _, _, _, _, _, _, _, _, _, _, _, _, _, _, _, _, _, _, _, _, _, _, _, _, _, _, _, _, _, _, _, _, _, _, _, _, _, _, _, _, _, _, _, _, _, _, _, _, _, _, _, _, _, rfl⟩, hG.later hb, ⟨p, c, rfl, HH.out.2⟩, (fun j hj hne => by rcases (by omega : j = 0 ∨ j = 1 ∨ j = 2 ∨ j = 3 ∨ j = 4 ∨ j = 5 ∨ j = 6 ∨ j = 7 ∨ j = 8 ∨ j = 9 ∨ j = 10 ∨ j = 11 ∨ j = 12 ∨ j = 13) with rfl | rfl | rfl | rfl | rfl | rfl | rfl | rfl | rfl | rfl | rfl | rfl | rfl | rfl <;> first | exact absurd rfl hne | rfl), (fun j v h => Fact9.later hb j v h), trivial⟩
                  | exact ⟨⟨_, _, _, _, _, _, _, _, _, _, _, _, _, _, _, _, _, _, _, _, _, _, _, _, _, _, _, _, _, _, _, _, _, _, _, _, _, _, _, _, _, _, _, _, _, _, _, _, _, _, _, _, _, _, _, _, _, _, _, _, _, _, _, rfl⟩, hG.later hb, ⟨p, c, rfl, HH.out.2⟩, (fun j hj hne => by rcases (by omega : j = 0 ∨ j = 1 ∨ j = 2 ∨ j = 3 ∨ j = 4 ∨ j = 5 ∨ j = 6 ∨ j = 7 ∨ j = 8 ∨ j = 9 ∨ j = 10 ∨ j = 11 ∨ j = 12 ∨ j = 13) with rfl | rfl | rfl | rfl | rfl | rfl | rfl | rfl | rfl | rfl | rfl | rfl | rfl | rfl <;> first | exact absurd rfl hne | rfl), fun j v h => Fact9.later hb j v h⟩
              · skip
                refine wpOp_of_list (i := 2) rfl ?_
                go_wp2_with fail
                first
                  | exact ⟨⟨_, _, _, _, _, _, _, _, _, _, _, _, _, _, _, _, _, _, _, _, _, _, _, _, _, _, _, _, _, _, _, _, _, _, _, _, _, _, _, _, _, _, _, _, _, _, _, _, _, _, _, _, _, _, _, _, _, _, _, _, _, _, _, rfl⟩, hG, rfl, (fun j hj hne => by rcases (by omega : j = 0 ∨ j = 1 ∨ j = 2 ∨ j = 3 ∨ j = 4 ∨ j = 5 ∨ j = 6 ∨ j = 7 ∨ j = 8 ∨ j = 9 ∨ j = 10 ∨ j = 11 ∨ j = 12 ∨ j = 13) with rfl | rfl | rfl | rfl | rfl | rfl | rfl | rfl | rfl | rfl | rfl | rfl | rfl | rfl <;> first | exact absurd rfl hne | rfl), fun _ _ h => h⟩
                  | exact ⟨⟨_, _, _, _, _, _, _, _, _, _, _, _, _, _, _, _, _, _, _, _, _, _, _, _, _, _, _, _, _, _, _, _, _, _, _, _, _, _, _, _, _, _, _, _, _, _, _, _, _, _, _, _, _, _, _, _, _, _, _, _, _, _, _, rfl⟩, hG, rfl, (fun j hj hne => by rcases (by omega : j = 0 ∨ j = 1 ∨ j = 2 ∨ j = 3 ∨ j = 4 ∨ j = 5 ∨ j = 6 ∨ j = 7 ∨ j = 8 ∨ j = 9 ∨ j = 10 ∨ j = 11 ∨ j = 12 ∨ j = 13) with rfl | rfl | rfl | rfl | rfl | rfl | rfl | rfl | rfl | rfl | rfl | rfl | rfl | rfl <;> first | exact absurd rfl hne | rfl), (fun _ _ h => h), trivial⟩
              · obtain ⟨p, c, hp, hrs⟩ := (show FreeS x1.t u55 w from hw 1 (by kernel_rfl))
                subst hp
                obtain rfl : u56 = .string sx := hw 2 (by kernel_rfl)
                have hc := contains_any w (FL x1.t) p c sx w hrs (Below.refl _ _) (by rw [FL_len]; have := freeL_len x1.t; omega)
                rw [HCV.out, FL_len] at hc
                have HC := hid hc
                clear hc hrs
                refine wpOp_of_list (i := 3) rfl ?_
                go_wp2_with fail
                refine HC.out.mono ?_
                rintro e w1 ⟨rfl, rfl⟩
                go_wp2_with fail
                first
                  | exact ⟨⟨_, _, _, _, _, _, _, _, _, _, _, _, _, _, _, _, _, _, _, _, _, _, _, _, _, _, _, _, _, _, _, _, _, _, _, _, _, _, _, _, _, _, _, _, _, _, _, _, _, _, _, _, _, _, _, _, _, _, _, _, _, _, _, rfl⟩, hG, rfl, (fun j hj hne => by rcases (by omega : j = 0 ∨ j = 1 ∨ j = 2 ∨ j = 3 ∨ j = 4 ∨ j = 5 ∨ j = 6 ∨ j = 7 ∨ j = 8 ∨ j = 9 ∨ j = 10 ∨ j = 11 ∨ j = 12 ∨ j = 13) with rfl | rfl | rfl | rfl | rfl | rfl | rfl | rfl | rfl | rfl | rfl | rfl | rfl | rfl <;> first | exact absurd rfl hne | rfl), fun _ _ h => h⟩
                  | exact ⟨⟨_, _, _, _, _, _, _, _, _, _, _, _, _, _, _, _, _, _, _, _, _, _, _, _, _, _, _, _, _, _, _, _, _, _, _, _, _, _, _, _, _, _, _, _, _, _, _, _, _, _, _, _, _, _, _, _, _, _, _, _, _, _, _, rfl⟩, hG, rfl, (fun j hj hne => by rcases (by omega : j = 0 ∨ j = 1 ∨ j = 2 ∨ j = 3 ∨ j = 4 ∨ j = 5 ∨ j = 6 ∨ j = 7 ∨ j = 8 ∨ j = 9 ∨ j = 10 ∨ j = 11 ∨ j = 12 ∨ j = 13) with rfl | rfl | rfl | rfl | rfl | rfl | rfl | rfl | rfl | rfl | rfl | rfl | rfl | rfl <;> first | exact absurd rfl hne | rfl), (fun _ _ h => h), trivial⟩
              · obtain rfl : u57 = .bool false := hw 3 (by kernel_rfl)
                refine wpOp_of_list (i := 4) rfl ?_
                go_wp2_with fail
                first
                  | exact ⟨⟨_, _, _, _, _, _, _, _, _, _, _, _, _, _, _, _, _, _, _, _, _, _, _, _, _, _, _, _, _, _, _, _, _, _, _, _, _, _, _, _, _, _, _, _, _, _, _, _, _, _, _, _, _, _, _, _, _, _, _, _, _, _, _, rfl⟩, hG, rfl, (fun j hj hne => by rcases (by omega : j = 0 ∨ j = 1 ∨ j = 2 ∨ j = 3 ∨ j = 4 ∨ j = 5 ∨ j = 6 ∨ j = 7 ∨ j = 8 ∨ j = 9 ∨ j = 10 ∨ j = 11 ∨ j = 12 ∨ j = 13) with rfl | rfl | rfl | rfl | rfl | rfl | rfl | rfl | rfl | rfl | rfl | rfl | rfl | rfl <;> first | exact absurd rfl hne | rfl), fun _ _ h => h⟩
                  | exact ⟨⟨_, _, _, _, _, _, _, _, _, _, _, _, _, _, _, _, _, _, _, _, _, _, _, _, _, _, _, _, _, _, _, _, _, _, _, _, _, _, _, _, _, _, _, _, _, _, _, _, _, _, _, _, _, _, _, _, _, _, _, _, _, _, _, rfl⟩, hG, rfl, (fun j hj hne => by rcases (by omega : j = 0 ∨ j = 1 ∨ j = 2 ∨ j = 3 ∨ j = 4 ∨ j = 5 ∨ j = 6 ∨ j = 7 ∨ j = 8 ∨ j = 9 ∨ j = 10 ∨ j = 11 ∨ j = 12 ∨ j = 13) with rfl | rfl | rfl | rfl | rfl | rfl | rfl | rfl | rfl | rfl | rfl | rfl | rfl | rfl <;> first | exact absurd rfl hne | rfl), (fun _ _ h => h), trivial⟩
              · obtain rfl : u58 = .bool false := hw 4 (by kernel_rfl)
                have c0 := cell_of_row w _ 0 _ _ _ hG.row1
                have c1 := cell_of_row w _ 1 _ _ _ hG.row1
                have c2 := cell_of_row w _ 2 _ _ _ hG.row1
                have c3 := cell_of_row w _ 3 _ _ _ hG.row1
                have c4 := cell_of_row w _ 4 _ _ _ hG.row1
                refine wpOp_of_list (i := 5) rfl ?_
                go_wp2_with fail
                first
                  | exact ⟨⟨_, _, _, _, _, _, _, _, _, _, _, _, _, _, _, _, _, _, _, _, _, _, _, _, _, _, _, _, _, _, _, _, _, _, _, _, _, _, _, _, _, _, _, _, _, _, _, _, _, _, _, _, _, _, _, _, _, _, _, _, _, _, _, rfl⟩, hG, fun _ => rfl, (fun j hj hne => by rcases (by omega : j = 0 ∨ j = 1 ∨ j = 2 ∨ j = 3 ∨ j = 4 ∨ j = 5 ∨ j = 6 ∨ j = 7 ∨ j = 8 ∨ j = 9 ∨ j = 10 ∨ j = 11 ∨ j = 12 ∨ j = 13) with rfl | rfl | rfl | rfl | rfl | rfl | rfl | rfl | rfl | rfl | rfl | rfl | rfl | rfl <;> first | exact absurd rfl hne | rfl), fun _ _ h => h⟩
                  | exact ⟨⟨_, _, _, _, _, _, _, _, _, _, _, _, _, _, _, _, _, _, _, _, _, _, _, _, _, _, _, _, _, _, _, _, _, _, _, _, _, _, _, _, _, _, _, _, _, _, _, _, _, _, _, _, _, _, _, _, _, _, _, _, _, _, _, rfl⟩, hG, fun _ => rfl, (fun j hj hne => by rcases (by omega : j = 0 ∨ j = 1 ∨ j = 2 ∨ j = 3 ∨ j = 4 ∨ j = 5 ∨ j = 6 ∨ j = 7 ∨ j = 8 ∨ j = 9 ∨ j = 10 ∨ j = 11 ∨ j = 12 ∨ j = 13) with rfl | rfl | rfl | rfl | rfl | rfl | rfl | rfl | rfl | rfl | rfl | rfl | rfl | rfl <;> first | exact absurd rfl hne | rfl), (fun _ _ h => h), trivial⟩
              · obtain rfl : u58 = .bool false := hw 4 (by kernel_rfl)
                refine wpOp_of_list (i := 6) rfl ?_
                go_wp2_with fail
                first
                  | exact ⟨⟨_, _, _, _, _, _, _, _, _, _, _, _, _, _, _, _, _, _, _, _, _, _, _, _, _, _, _, _, _, _, _, _, _, _, _, _, _, _, _, _, _, _, _, _, _, _, _, _, _, _, _, _, _, _, _, _, _, _, _, _, _, _, _, rfl⟩, hG, fun _ => rfl, (fun j hj hne => by rcases (by omega : j = 0 ∨ j = 1 ∨ j = 2 ∨ j = 3 ∨ j = 4 ∨ j = 5 ∨ j = 6 ∨ j = 7 ∨ j = 8 ∨ j = 9 ∨ j = 10 ∨ j = 11 ∨ j = 12 ∨ j = 13) with rfl | rfl | rfl | rfl | rfl | rfl | rfl | rfl | rfl | rfl | rfl | rfl | rfl | rfl <;> first | exact absurd rfl hne | rfl), fun _ _ h => h⟩
                  | exact ⟨⟨_, _, _, _, _, _, _, _, _, _, _, _, _, _, _, _, _, _, _, _, _, _, _, _, _, _, _, _, _, _, _, _, _, _, _, _, _, _, _, _, _, _, _, _, _, _, _, _, _, _, _, _, _, _, _, _, _, _, _, _, _, _, _, rfl⟩, hG, fun _ => rfl, (fun j hj hne => by rcases (by omega : j = 0 ∨ j = 1 ∨ j = 2 ∨ j = 3 ∨ j = 4 ∨ j = 5 ∨ j = 6 ∨ j = 7 ∨ j = 8 ∨ j = 9 ∨ j = 10 ∨ j = 11 ∨ j = 12 ∨ j = 13) with rfl | rfl | rfl | rfl | rfl | rfl | rfl | rfl | rfl | rfl | rfl | rfl | rfl | rfl <;> first | exact absurd rfl hne | rfl), (fun _ _ h => h), trivial⟩
              · obtain rfl : u58 = .bool false := hw 4 (by kernel_rfl)
                obtain rfl : u60 = .string sx := hw 6 (by kernel_rfl) rfl
                obtain ⟨w1, hw1⟩ : ∃ w1, w.alloc (.cells #[.string sx] 9) = w1 := ⟨_, rfl⟩
                have hb : Below w.heap.size w w1 := by rw [← hw1]; exact (Below.refl _ w).alloc (Nat.le_refl _) _
                have hx : w1.heap[w.heap.size]? = some (.cells #[.string sx] 9 (0, 0)) := by rw [← hw1]; exact World.alloc_heap_new _ _
                have HH := hid (And.intro hb hx)
                clear hb hx
                refine wpOp_of_list (i := 7) rfl ?_
                go_wp2_with fail
                clear hw1
                have hb := HH.out.1
                have hx := HH.out.2
                first
                  | exact ⟨⟨_, _, _, _, _, _, _, _, _, _, _, _, _, _, _, _, _, _, _, _, _, _, _, _, _, _, _, _, _, _, _, _, _, _, _, _, _, _, _, _, _, _, _, _, _, _, _, _, _, _, _, _, _, _, _, _, _, _, _, _, _, _, _, rfl⟩, hG.later hb, fun _ => ⟨_, rfl, hx⟩, (fun j hj hne => by rcases (by omega : j = 0 ∨ j = 1 ∨ j = 2 ∨ j = 3 ∨ j = 4 ∨ j = 5 ∨ j = 6 ∨ j = 7 ∨ j = 8 ∨ j = 9 ∨ j = 10 ∨ j = 11 ∨ j = 12 ∨ j = 13) with rfl | rfl | rfl | rfl | rfl | rfl | rfl | rfl | rfl | rfl | rfl | rfl | rfl | rfl <;> first | exact absurd rfl hne | rfl), (fun j v h => Fact9.later hb j v h), trivial⟩
                  | exact ⟨⟨_, _, _, _, _, _, _, _, _, _, _, _, _, _, _, _, _, _, _, _, _, _, _, _, _, _, _, _, _, _, _, _, _, _, _, _, _, _, _, _, _, _, _, _, _, _, _, _, _, _, _, _, _, _, _, _, _, _, _, _, _, _, _, rfl⟩, hG.later hb, fun _ => ⟨_, rfl, hx⟩, (fun j hj hne => by rcases (by omega : j = 0 ∨ j = 1 ∨ j = 2 ∨ j = 3 ∨ j = 4 ∨ j = 5 ∨ j = 6 ∨ j = 7 ∨ j = 8 ∨ j = 9 ∨ j = 10 ∨ j = 11 ∨ j = 12 ∨ j = 13) with rfl | rfl | rfl | rfl | rfl | rfl | rfl | rfl | rfl | rfl | rfl | rfl | rfl | rfl <;> first | exact absurd rfl hne | rfl), fun j v h => Fact9.later hb j v h⟩
              · obtain rfl : u58 = .bool false := hw 4 (by kernel_rfl)
                have c0 := cell_of_row w _ 0 _ _ _ hG.row2
                have c1 := cell_of_row w _ 1 _ _ _ hG.row2
                have c2 := cell_of_row w _ 2 _ _ _ hG.row2
                have c3 := cell_of_row w _ 3 _ _ _ hG.row2
                have c4 := cell_of_row w _ 4 _ _ _ hG.row2
                refine wpOp_of_list (i := 8) rfl ?_
                go_wp2_with fail
                first
                  | exact ⟨⟨_, _, _, _, _, _, _, _, _, _, _, _, _, _, _, _, _, _, _, _, _, _, _, _, _, _, _, _, _, _, _, _, _, _, _, _, _, _, _, _, _, _, _, _, _, _, _, _, _, _, _, _, _, _, _, _, _, _, _, _, _, _, _, rfl⟩, hG, fun _ => rfl, (fun j hj hne => by rcases (by omega : j = 0 ∨ j = 1 ∨ j = 2 ∨ j = 3 ∨ j = 4 ∨ j = 5 ∨ j = 6 ∨ j = 7 ∨ j = 8 ∨ j = 9 ∨ j = 10 ∨ j = 11 ∨ j = 12 ∨ j = 13) with rfl | rfl | rfl | rfl | rfl | rfl | rfl | rfl | rfl | rfl | rfl | rfl | rfl | rfl <;> first | exact absurd rfl hne | rfl), fun _ _ h => h⟩
                  | exact ⟨⟨_, _, _, _, _, _, _, _, _, _, _, _, _, _, _, _, _, _, _, _, _, _, _, _, _, _, _, _, _, _, _, _, _, _, _, _, _, _, _, _, _, _, _, _, _, _, _, _, _, _, _, _, _, _, _, _, _, _, _, _, _, _, _, rfl⟩, hG, fun _ => rfl, (fun j hj hne => by rcases (by omega : j = 0 ∨ j = 1 ∨ j = 2 ∨ j = 3 ∨ j = 4 ∨ j = 5 ∨ j = 6 ∨ j = 7 ∨ j = 8 ∨ j = 9 ∨ j = 10 ∨ j = 11 ∨ j = 12 ∨ j = 13) with rfl | rfl | rfl | rfl | rfl | rfl | rfl | rfl | rfl | rfl | rfl | rfl | rfl | rfl <;> first | exact absurd rfl hne | rfl), (fun _ _ h => h), trivial⟩
              · obtain rfl : u58 = .bool false := hw 4 (by kernel_rfl)
                obtain rfl : u62 = .agg #[.int .i64 x2.t.k, .string x2.t.m, .string x2.t.n, .slice x2.aa x2.t.A.len x2.ca, .slice x2.af x2.t.F.len x2.cf] := hw 8 (by kernel_rfl) rfl
                obtain ⟨w1, hw1⟩ : ∃ w1, w.alloc (.cells #[.int .i64 x2.t.k, .string x2.t.m, .string x2.t.n, .slice x2.aa x2.t.A.len x2.ca, .slice x2.af x2.t.F.len x2.cf] 25) = w1 := ⟨_, rfl⟩
                have hb : Below w.heap.size w w1 := by rw [← hw1]; exact (Below.refl _ w).alloc (Nat.le_refl _) _
                have hx : w1.heap[w.heap.size]? = some (.cells #[.int .i64 x2.t.k, .string x2.t.m, .string x2.t.n, .slice x2.aa x2.t.A.len x2.ca, .slice x2.af x2.t.F.len x2.cf] 25 (0, 0)) := by rw [← hw1]; exact World.alloc_heap_new _ _
                have HH := hid (And.intro hb hx)
                clear hb hx
                refine wpOp_of_list (i := 9) rfl ?_
                go_wp2_with fail
                clear hw1
                have hb := HH.out.1
                have hx := HH.out.2
                first
                  | exact ⟨⟨_, _, _, _, _, _, _, _, _, _, _, _, _, _, _, _, _, _, _, _, _, _, _, _, _, _, _, _, _, _, _, _, _, _, _, _, _, _, _, _, _, _, _, _, _, _, _, _, _, _, _, _, _, _, _, _, _, _, _, _, _, _, _, rfl⟩, hG.later hb, fun _ => ⟨_, rfl, hx⟩, (fun j hj hne => by rcases (by omega : j = 0 ∨ j = 1 ∨ j = 2 ∨ j = 3 ∨ j = 4 ∨ j = 5 ∨ j = 6 ∨ j = 7 ∨ j = 8 ∨ j = 9 ∨ j = 10 ∨ j = 11 ∨ j = 12 ∨ j = 13) with rfl | rfl | rfl | rfl | rfl | rfl | rfl | rfl | rfl | rfl | rfl | rfl | rfl | rfl <;> first | exact absurd rfl hne | rfl), (fun j v h => Fact9.later hb j v h), trivial⟩
                  | exact ⟨⟨_, _, _, _, _, _, _, _, _, _, _, _, _, _, _, _, _, _, _, _, _, _, _, _, _, _, _, _, _, _, _, _, _, _, _, _, _, _, _, _, _, _, _, _, _, _, _, _, _, _, _, _, _, _, _, _, _, _, _, _, _, _, _, rfl⟩, hG.later hb, fun _ => ⟨_, rfl, hx⟩, (fun j hj hne => by rcases (by omega : j = 0 ∨ j = 1 ∨ j = 2 ∨ j = 3 ∨ j = 4 ∨ j = 5 ∨ j = 6 ∨ j = 7 ∨ j = 8 ∨ j = 9 ∨ j = 10 ∨ j = 11 ∨ j = 12 ∨ j = 13) with rfl | rfl | rfl | rfl | rfl | rfl | rfl | rfl | rfl | rfl | rfl | rfl | rfl | rfl <;> first | exact absurd rfl hne | rfl), fun j v h => Fact9.later hb j v h⟩
              · obtain rfl : u58 = .bool false := hw 4 (by kernel_rfl)
                obtain rfl : u59 = .agg #[.int .i64 x1.t.k, .string x1.t.m, .string x1.t.n, .slice x1.aa x1.t.A.len x1.ca, .slice x1.af x1.t.F.len x1.cf] := hw 5 (by kernel_rfl) rfl
                have hv1 := TyV_below x1.tyV hG.below
                have hz1 : x1.t.size ≤ 1099511627776 := by omega
                obtain ⟨g2, hg2, hr2⟩ := (show OneS sx u61 w from hw 7 (by kernel_rfl) rfl)
                subst hg2
                obtain ⟨g4, hg4, hl4⟩ := row_one hG.below (show OneX x2 u63 w from hw 9 (by kernel_rfl) rfl)
                obtain rfl : u63 = .slice (some ⟨g4, 0, none⟩) 1 1 := hg4
                have hos : (oneT x2.t).size ≤ 1099511627776 := by show 1 + x2.t.A.size + x2.t.F.size + 0 ≤ _; have : x2.t.size = 1 + x2.t.A.size + x2.t.F.size := rfl; omega
                have hc := subst_any (w := w) [sx] (some ⟨g2, 0, none⟩) 1 (oneT x2.t) (some ⟨g4, 0, none⟩) 1 hv1 hz1 (rowS_one hr2) (.inr ⟨_, 0, rfl, hl4⟩) (by show 1 ≤ _; omega) hos
                have HC := hid (show Calls Tryz.prog 35 #[.agg #[.int .i64 x1.t.k, .string x1.t.m, .string x1.t.n, .slice x1.aa x1.t.A.len x1.ca, .slice x1.af x1.t.F.len x1.cf], .slice (some ⟨g2, 0, none⟩) 1 1, .slice (some ⟨g4, 0, none⟩) 1 1] w _ from hc)
                clear hc hr2 hl4 hos hv1 hz1
                refine wpOp_of_list (i := 10) rfl ?_
                go_wp2_with fail
                refine HC.out.mono ?_
                rintro e w1 ⟨r, rfl, hrt, hok, hb⟩
                have HH := hid (And.intro hb (And.intro hrt hok.tyV))
                clear hb hrt hok
                go_wp2_with fail
                have hb := HH.out.1
                first
                  | exact ⟨⟨_, _, _, _, _, _, _, _, _, _, _, _, _, _, _, _, _, _, _, _, _, _, _, _, _, _, _, _, _, _, _, _, _, _, _, _, _, _, _, _, _, _, _, _, _, _, _, _, _, _, _, _, _, _, _, _, _, _, _, _, _, _, _, rfl⟩, hG.later hb, fun _ => ⟨r, rfl, HH.out.2.1, HH.out.2.2⟩, (fun j hj hne => by rcases (by omega : j = 0 ∨ j = 1 ∨ j = 2 ∨ j = 3 ∨ j = 4 ∨ j = 5 ∨ j = 6 ∨ j = 7 ∨ j = 8 ∨ j = 9 ∨ j = 10 ∨ j = 11 ∨ j = 12 ∨ j = 13) with rfl | rfl | rfl | rfl | rfl | rfl | rfl | rfl | rfl | rfl | rfl | rfl | rfl | rfl <;> first | exact absurd rfl hne | rfl), (fun j v h => Fact9.later hb j v h), trivial⟩
                  | exact ⟨⟨_, _, _, _, _, _, _, _, _, _, _, _, _, _, _, _, _, _, _, _, _, _, _, _, _, _, _, _, _, _, _, _, _, _, _, _, _, _, _, _, _, _, _, _, _, _, _, _, _, _, _, _, _, _, _, _, _, _, _, _, _, _, _, rfl⟩, hG.later hb, fun _ => ⟨r, rfl, HH.out.2.1, HH.out.2.2⟩, (fun j hj hne => by rcases (by omega : j = 0 ∨ j = 1 ∨ j = 2 ∨ j = 3 ∨ j = 4 ∨ j = 5 ∨ j = 6 ∨ j = 7 ∨ j = 8 ∨ j = 9 ∨ j = 10 ∨ j = 11 ∨ j = 12 ∨ j = 13) with rfl | rfl | rfl | rfl | rfl | rfl | rfl | rfl | rfl | rfl | rfl | rfl | rfl | rfl <;> first | exact absurd rfl hne | rfl), fun j v h => Fact9.later hb j v h⟩
              · obtain rfl : u58 = .bool false := hw 4 (by kernel_rfl)
                have c0 := cell_of_row w _ 0 _ _ _ hG.row1
                have c1 := cell_of_row w _ 1 _ _ _ hG.row1
                have c2 := cell_of_row w _ 2 _ _ _ hG.row1
                have c3 := cell_of_row w _ 3 _ _ _ hG.row1
                have c4 := cell_of_row w _ 4 _ _ _ hG.row1
                refine wpOp_of_list (i := 11) rfl ?_
                go_wp2_with fail
                first
                  | exact ⟨⟨_, _, _, _, _, _, _, _, _, _, _, _, _, _, _, _, _, _, _, _, _, _, _, _, _, _, _, _, _, _, _, _, _, _, _, _, _, _, _, _, _, _, _, _, _, _, _, _, _, _, _, _, _, _, _, _, _, _, _, _, _, _, _, rfl⟩, hG, fun _ => rfl, (fun j hj hne => by rcases (by omega : j = 0 ∨ j = 1 ∨ j = 2 ∨ j = 3 ∨ j = 4 ∨ j = 5 ∨ j = 6 ∨ j = 7 ∨ j = 8 ∨ j = 9 ∨ j = 10 ∨ j = 11 ∨ j = 12 ∨ j = 13) with rfl | rfl | rfl | rfl | rfl | rfl | rfl | rfl | rfl | rfl | rfl | rfl | rfl | rfl <;> first | exact absurd rfl hne | rfl), fun _ _ h => h⟩
                  | exact ⟨⟨_, _, _, _, _, _, _, _, _, _, _, _, _, _, _, _, _, _, _, _, _, _, _, _, _, _, _, _, _, _, _, _, _, _, _, _, _, _, _, _, _, _, _, _, _, _, _, _, _, _, _, _, _, _, _, _, _, _, _, _, _, _, _, rfl⟩, hG, fun _ => rfl, (fun j hj hne => by rcases (by omega : j = 0 ∨ j = 1 ∨ j = 2 ∨ j = 3 ∨ j = 4 ∨ j = 5 ∨ j = 6 ∨ j = 7 ∨ j = 8 ∨ j = 9 ∨ j = 10 ∨ j = 11 ∨ j = 12 ∨ j = 13) with rfl | rfl | rfl | rfl | rfl | rfl | rfl | rfl | rfl | rfl | rfl | rfl | rfl | rfl <;> first | exact absurd rfl hne | rfl), (fun _ _ h => h), trivial⟩
              · obtain rfl : u58 = .bool false := hw 4 (by kernel_rfl)
                obtain ⟨r1, hr1, hrt1, hrv1⟩ := (show IsT (x1.t.sub (findTy [sx] (oneT x2.t))) u64 w from hw 10 (by kernel_rfl) rfl)
                subst hr1
                obtain rfl : u65 = .agg #[.int .i64 x1.t.k, .string x1.t.m, .string x1.t.n, .slice x1.aa x1.t.A.len x1.ca, .slice x1.af x1.t.F.len x1.cf] := hw 11 (by kernel_rfl) rfl
                have hfr := fresh_sub x1.t x2.t sx (not_free (of_decide_eq_false HCV.out))
                rw [hfr] at hrt1
                have hc := eq_any hrv1 (TyV_below x1.tyV hG.below) (by rw [hrt1]; omega)
                rw [hrt1, Ty.eq_refl] at hc
                have HC := hid (show Calls Tryz.prog 27 #[.agg #[.int .i64 r1.t.k, .string r1.t.m, .string r1.t.n, .slice r1.aa r1.t.A.len r1.ca, .slice r1.af r1.t.F.len r1.cf], .agg #[.int .i64 x1.t.k, .string x1.t.m, .string x1.t.n, .slice x1.aa x1.t.A.len x1.ca, .slice x1.af x1.t.F.len x1.cf]] w _ from hc)
                clear hc hrt1 hrv1 hfr
                dsimp only [TyC.v, TyC.cells]
                refine wpOp_of_list (i := 12) rfl ?_
                go_wp2_with fail
                refine HC.out.mono ?_
                rintro e w1 ⟨rfl, hb⟩
                have HH := hid hb
                clear hb
                go_wp2_with fail
                have hb := HH.out
                first
                  | exact ⟨⟨_, _, _, _, _, _, _, _, _, _, _, _, _, _, _, _, _, _, _, _, _, _, _, _, _, _, _, _, _, _, _, _, _, _, _, _, _, _, _, _, _, _, _, _, _, _, _, _, _, _, _, _, _, _, _, _, _, _, _, _, _, _, _, rfl⟩, hG.later hb, fun _ => rfl, (fun j hj hne => by rcases (by omega : j = 0 ∨ j = 1 ∨ j = 2 ∨ j = 3 ∨ j = 4 ∨ j = 5 ∨ j = 6 ∨ j = 7 ∨ j = 8 ∨ j = 9 ∨ j = 10 ∨ j = 11 ∨ j = 12 ∨ j = 13) with rfl | rfl | rfl | rfl | rfl | rfl | rfl | rfl | rfl | rfl | rfl | rfl | rfl | rfl <;> first | exact absurd rfl hne | rfl), (fun j v h => Fact9.later hb j v h), trivial⟩
                  | exact ⟨⟨_, _, _, _, _, _, _, _, _, _, _, _, _, _, _, _, _, _, _, _, _, _, _, _, _, _, _, _, _, _, _, _, _, _, _, _, _, _, _, _, _, _, _, _, _, _, _, _, _, _, _, _, _, _, _, _, _, _, _, _, _, _, _, rfl⟩, hG.later hb, fun _ => rfl, (fun j hj hne => by rcases (by omega : j = 0 ∨ j = 1 ∨ j = 2 ∨ j = 3 ∨ j = 4 ∨ j = 5 ∨ j = 6 ∨ j = 7 ∨ j = 8 ∨ j = 9 ∨ j = 10 ∨ j = 11 ∨ j = 12 ∨ j = 13) with rfl | rfl | rfl | rfl | rfl | rfl | rfl | rfl | rfl | rfl | rfl | rfl | rfl | rfl <;> first | exact absurd rfl hne | rfl), fun j v h => Fact9.later hb j v h⟩
              · obtain rfl : u58 = .bool false := hw 4 (by kernel_rfl)
                obtain rfl : u66 = .bool true := hw 12 (by kernel_rfl) rfl
                refine wpOp_of_list (i := 13) rfl ?_
                go_wp2_with fail
                first
                  | exact ⟨⟨_, _, _, _, _, _, _, _, _, _, _, _, _, _, _, _, _, _, _, _, _, _, _, _, _, _, _, _, _, _, _, _, _, _, _, _, _, _, _, _, _, _, _, _, _, _, _, _, _, _, _, _, _, _, _, _, _, _, _, _, _, _, _, rfl⟩, hG, rfl, (fun j hj hne => by rcases (by omega : j = 0 ∨ j = 1 ∨ j = 2 ∨ j = 3 ∨ j = 4 ∨ j = 5 ∨ j = 6 ∨ j = 7 ∨ j = 8 ∨ j = 9 ∨ j = 10 ∨ j = 11 ∨ j = 12 ∨ j = 13) with rfl | rfl | rfl | rfl | rfl | rfl | rfl | rfl | rfl | rfl | rfl | rfl | rfl | rfl <;> first | exact absurd rfl hne | rfl), fun _ _ h => h⟩
                  | exact ⟨⟨_, _, _, _, _, _, _, _, _, _, _, _, _, _, _, _, _, _, _, _, _, _, _, _, _, _, _, _, _, _, _, _, _, _, _, _, _, _, _, _, _, _, _, _, _, _, _, _, _, _, _, _, _, _, _, _, _, _, _, _, _, _, _, rfl⟩, hG, rfl, (fun j hj hne => by rcases (by omega : j = 0 ∨ j = 1 ∨ j = 2 ∨ j = 3 ∨ j = 4 ∨ j = 5 ∨ j = 6 ∨ j = 7 ∨ j = 8 ∨ j = 9 ∨ j = 10 ∨ j = 11 ∨ j = 12 ∨ j = 13) with rfl | rfl | rfl | rfl | rfl | rfl | rfl | rfl | rfl | rfl | rfl | rfl | rfl | rfl <;> first | exact absurd rfl hne | rfl), (fun _ _ h => h), trivial⟩
            case tail9 =>
              rintro listed a w hall hR ⟨u0, u1, u2, u8, u9, u10, u11, u12, u13, u14, u15, u16, u17, u18, u19, u20, u21, u22, u23, u24, u25, u26, u27, u28, u29, u30, u31, u32, u33, u34, u35, u36, u37, u38, u39, u40, u41, u42, u43, u44, u45, u46, u47, u48, u49, u50, u51, u52, u53, u54, u55, u56, u57, u58, u59, u60, u61, u62, u63, u64, u65, u66, u67, rfl⟩ hG hf
              obtain rfl : u67 = .bool true := hf 13 (by omega)
              refine wpOp_of_list (i := 14) rfl ?_
              go_wp2_with fail
              go_ret
              exact ⟨rfl, hG.below⟩
  · have hd : decide (((x1.t.size + (x2.t.size + (x3.t.size + 0)) : Nat) : Int) ≤ 200) = false := decide_eq_false (by omega)
    rw [hd] at HF
    clear hd
    go_wp2_with fail
    refine HF.out.mono ?_
    rintro e w4 ⟨rfl, hb4⟩
    have H4 := hid (H3.out.later hb4)
    clear hb4
    go_wp2_with fail
    go_ret
    exact ⟨rfl, H4.out.below⟩
end Go.Proofs.YthpkinmlpppglaaGreatDoor
