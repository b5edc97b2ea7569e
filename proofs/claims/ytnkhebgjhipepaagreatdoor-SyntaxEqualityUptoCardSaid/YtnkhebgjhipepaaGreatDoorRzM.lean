/- syntax, the reference: Types, ExprSize. | syntax, the reference: Transparent, ModuleSize. -/
import Derived.Test.YtnkhebgjhipepaaGreatDoorEv
import Derived.Test.YtnkhebgjhipepaaGreatDoorSyRq
import Derived.Test.YtnkhebgjhipepaaGreatDoorRqV
import Derived.Test.YtnkhebgjhipepaaGreatDoorEqM
import Derived.Test.YtnkhebgjhipepaaGreatDoorXv
namespace Go.Proofs.YtnkhebgjhipepaaGreatDoor
open Go.RowKit Go.Shelf

attribute [local go_sem] Oper.semAt_some
theorem drop_step {α : Type} {l r : List α} {i : Nat} {a : α} (h : l.drop i = a :: r) : l[i]? = some a ∧ l.drop (i + 1) = r := by
 have h1 : (l.drop i)[0]? = some a := by rw [h]; rfl
 rw [List.getElem?_drop, Nat.add_zero] at h1
 refine ⟨h1, ?_⟩
 have h2 : (l.drop i).drop 1 = r := by rw [h]; rfl
 rwa [List.drop_drop] at h2
set_option maxRecDepth 100000 in
set_option maxHeartbeats 8000000 in
theorem rtypes_any (w0 : World) (x : XpI w0) (W : World) (hW : Below w0.heap.size w0 W) (hsz : x.e.bk ≤ 1099511627776) :
 Calls Tryz.prog 52 #[.agg #[.int .i64 x.e.k, .string x.e.m, .string x.e.n, .string x.e.tx, .int .i64 x.e.num, .slice x.aT x.e.T.len x.cT, .slice x.aL x.e.L.length x.cL, .slice x.aK x.e.K.len x.cK]] W
  fun e W' => ∃ (v : Value) (rs : List (TyI w0)), e = .returned v ∧ rs.map (·.t) = x.e.tys ∧ W'.ownsRow W.heap.size 25 5 v rs.length (rs.flatMap fun y => y.cells.toList) ∧ Below W.heap.size W W' := by
 obtain ⟨i0, hi, hz0, hz1, hz2⟩ := info_parts infoTy
 have hbk := x.e.bk_eq
 have hT0 := x.e.T.size_enc false
 have hT1 := Tr.len_le x.e.T
 have hL1 := Lb.len_bk x.e.L
 have hTL : x.e.T.len + x.e.L.length ≤ 1099511627768 := by omega
 clear hbk hT0 hT1 hL1 hsz
 obtain ⟨wa, hwa⟩ : ∃ wa, W.alloc (.cells #[.int .i64 x.e.k, .string x.e.m, .string x.e.n, .string x.e.tx, .int .i64 x.e.num, .slice x.aT x.e.T.len x.cT, .slice x.aL x.e.L.length x.cL, .slice x.aK x.e.K.len x.cK] 29) = wa := ⟨_, rfl⟩
 have hba : Below W.heap.size W wa := by rw [← hwa]; exact (Below.refl _ W).alloc (Nat.le_refl _) _
 have hea : wa.heap[W.heap.size]? = some (.cells #[.int .i64 x.e.k, .string x.e.m, .string x.e.n, .string x.e.tx, .int .i64 x.e.num, .slice x.aT x.e.T.len x.cT, .slice x.aL x.e.L.length x.cL, .slice x.aK x.e.K.len x.cK] 29 (0, 0)) := by rw [← hwa]; exact World.alloc_heap_new _ _
 have hsa : wa.heap.size = W.heap.size + 1 := by rw [← hwa]; simp
 obtain ⟨wc, hwc⟩ : ∃ wc, wa.alloc (.cells #[] 25) = wc := ⟨_, rfl⟩
 have hbc : Below wa.heap.size wa wc := by rw [← hwc]; exact (Below.refl _ wa).alloc (Nat.le_refl _) _
 have hoc : wc.ownsRow (W.heap.size + 1) 25 5 (.slice (some ⟨W.heap.size + 1, 0, none⟩) 0 0) 0 [] := by rw [← hwc, ← hsa]; exact World.ownsRow_made wa #[] 0 (by omega) (by unfold maxLen; omega) rfl
 have hec := (hbc.block _ (by omega)).trans hea
 have k5 := cell_of_row wc _ 5 _ _ _ hec
 have hBc : Below (W.heap.size + 1) wa wc := by rw [← hsa]; exact hbc
 have HB := hid (And.intro hba (And.intro hea (And.intro hW (And.intro hoc hBc))))
 have hsc := hbc.size
 clear hba hea hW hoc hBc hbc hec
 obtain ⟨rsA, hrA, hnews⟩ : ∃ rs : List (TyI w0), rs.map (·.t) = x.e.T.els ∧ (x.e.T = .nil ∧ rs = [] ∨ ∃ b o, x.aT = some ⟨b, o, none⟩ ∧ ∀ j u, (rs.flatMap fun y => y.cells.toList)[j]? = some u → w0.cell? ((⟨b, o, none⟩ : Addr).add j) = some u) := by
  rcases x.hT with h | ⟨b, o, h, hl⟩
  · exact ⟨[], by rw [h]; rfl, .inl ⟨h, rfl⟩⟩
  · obtain ⟨rs, h1, h2⟩ := lies_row x.e.T b o hl
    exact ⟨rs, h1, .inr ⟨b, o, h, h2⟩⟩
 have hlr : rsA.length = x.e.T.len := by rw [← Tr.els_len, ← hrA, List.length_map]
 have hrA := hid hrA
 have hnn := hid hnews
 clear hnews
 cases haa : x.aT with
 | none =>
  have hA0 : x.e.T = .nil ∧ rsA = [] := by
   rcases hnn.out with h | ⟨b, o, h, _⟩
   · exact h
   · rw [haa] at h; cases h
  have hl0 : x.e.T.len = 0 := by rw [hA0.1]; rfl
  have hB1 : wc.ownsRow (W.heap.size + 1) 25 5 (.slice (some ⟨W.heap.size + 1, 0, none⟩) rsA.length 0) rsA.length (rsA.flatMap fun y => y.cells.toList) := by rw [hA0.2]; exact HB.out.2.2.2.1
  have hB2 := HB.out.2.2.2.2
  have HA0 := hid hA0.2
  have HO0 := hid HB.out.2.2.2.1
  have HCN := hid (show (Value.slice x.aT x.e.T.len x.cT) = .slice none 0 x.cT by rw [haa, hl0])
  clear hA0 hl0
  rw [← haa]
  clear haa
  by_cases hk8 : x.e.k = 8
  · have q8 : (x.e.k == 8) = true := by rw [hk8]; simp
    have HKE := hid (show x.e.tys = x.e.T.els ++ x.e.L.map (·.t) by simp [Xp.tys, hk8])
    clear hk8
    go_enter Tryz.func52, Tryz.ntmps52
    go_wp2_with (at_builtin; refine wpList_append_own_none' rfl _ _ 22 rfl (W.heap.size + 1) 25 i0 5 Tryz.underlying22 hi _ _ x.cT _ rfl HO0.out HCN.out ?_; have HB1 := hid (And.intro hB1 hB2); have k00 := cell_of_row wc _ 0 _ _ _ ((hB2.block _ (Nat.lt_succ_self _)).trans HB.out.2.1); have k66 := cell_of_row wc _ 6 _ _ _ ((hB2.block _ (Nat.lt_succ_self _)).trans HB.out.2.1); clear hB1 hB2 k5 hwa hwc)
    go_loopw [3, 4] (fun q a wr => ∃ (rs : List (TyI w0)) (i : Nat) (p : Option Addr) (c : Nat) (r : List Lb), a = .int .i64 (i : Int) ∧ r.length + i = x.e.L.length ∧ Kpt (x.e.L.drop i = r) ∧ q = .slice p rs.length c ∧ Kpt (rs.map (·.t) = x.e.T.els ++ (x.e.L.take i).map (·.t)) ∧ Kpt (RowD w0 (encLb r) x.aL (i * 8)) ∧ wr.ownsRow (W.heap.size + 1) 25 5 (.slice p rs.length c) rs.length (rs.flatMap fun y => y.cells.toList) ∧ Below (W.heap.size + 1) wa wr) (fun _ a _ => x.e.L.length - (intOf a).toNat)
    case atStart => exact ⟨rsA, 0, (some ⟨W.heap.size + 1, 0, none⟩), 0, x.e.L, rfl, by omega, ⟨rfl⟩, (by first | rfl | (rw [HA0.out]; rfl)), ⟨by rw [List.take_zero, List.map_nil, List.append_nil]; exact hrA.out⟩, ⟨rowD_zero x.hL⟩, HB1.out.1, HB1.out.2⟩
    case round =>
     obtain ⟨rs, i, p, c, r, rfl, hri, hdr, rfl, hrs, hRL, hown, hB⟩ := hrel
     have hwrs := hB.size
     have hr0 := (hB.block _ (Nat.lt_succ_self _)).trans HB.out.2.1
     have hln : rs.length = x.e.T.len + i := by
      have h := congrArg List.length hrs.out
      rw [List.length_map, List.length_append, List.length_map, List.length_take, Tr.els_len] at h
      omega
     have k6 := cell_of_row wr _ 6 _ _ _ hr0
     cases r with
     | cons lx r' =>
      have hlt : i < x.e.L.length := by simp only [List.length_cons] at hri; omega
      obtain ⟨hgi, hdi⟩ := drop_step hdr.out
      obtain ⟨bf, of, y, haf, hy, ⟨d0, d1, d2, d3, d4, d5, d6, d7⟩, hr1⟩ := rowD_lb hRL.out
      have hWr := HB.out.2.2.1.trans ((HB.out.1.trans (hB.mono (Nat.le_succ _))).mono HB.out.2.2.1.size)
      replace d2 := old_cell hWr d2
      replace d3 := old_cell hWr d3
      replace d4 := old_cell hWr d4
      replace d5 := old_cell hWr d5
      replace d6 := old_cell hWr d6
      have hsn : (rs ++ [y]).map (·.t) = x.e.T.els ++ (x.e.L.take (i + 1)).map (·.t) := by rw [List.map_append, hrs.out, take_snoc hgi, List.map_append, List.append_assoc, List.map_cons, List.map_cons, hy]; rfl
      have HY := hid (And.intro hsn (And.intro hdi (And.intro hr1 (show r'.length + (i + 1) = x.e.L.length by simp only [List.length_cons] at hri; omega))))
      have hl2 : rs.length + 1 ≤ 1099511627776 := by omega
      rw [haf] at k6
      obtain ⟨wb, hwb⟩ : ∃ wb, wr.alloc (.cells #[.int .i64 y.t.k, .string y.t.m, .string y.t.n, .slice y.aa y.t.A.len y.ca, .slice y.af y.t.F.len y.cf] 25) = wb := ⟨_, rfl⟩
      have hbb : Below wr.heap.size wr wb := by rw [← hwb]; exact (Below.refl _ wr).alloc (Nat.le_refl _) _
      have heb : wb.heap[wr.heap.size]? = some (.cells #[.int .i64 y.t.k, .string y.t.m, .string y.t.n, .slice y.aa y.t.A.len y.ca, .slice y.af y.t.F.len y.cf] 25 (0, 0)) := by rw [← hwb]; exact World.alloc_heap_new _ _
      have hsb := hbb.size
      have HO := hid (And.intro (own_belowS hown hbb) (And.intro (World.news_of_block heb) (hB.trans (hbb.mono (by omega)))))
      clear hbb heb hsn hdi hr1 hgi hdr hri hRL hown hB hr0 hrs hWr d0 d1 d7 hy
      obtain ⟨nr, hnr⟩ : ∃ nr, rs.length = nr := ⟨_, rfl⟩
      rw [hnr] at HO hl2 ⊢
      have HNR := hid hnr
      clear hnr hln
      go_wp2_with (at_builtin; refine wpList_append_own _ rfl _ _ 22 rfl (W.heap.size + 1) 25 i0 _ 5 88 Tryz.underlying22 hi hz0 hz1 hz2 rfl (by decide) _ _ _ rfl HO.out.1 ⟨wr.heap.size, 0, none⟩ 1 1 [.int .i64 y.t.k, .string y.t.m, .string y.t.n, .slice y.aa y.t.A.len y.ca, .slice y.af y.t.F.len y.cf] rfl rfl HO.out.2.1 (by simp [Value.oneCell']) (by unfold maxLen; omega) (by omega) (by omega) ?_; intro v' w3 hown3 hgrow3 _; obtain ⟨g', cap', rfl⟩ := ownsRow_succ hown3; have hgrow4 : World.grownBy _ w3 (Value.ownBlock (.slice p nr c)) := hgrow3; have K3 := hid (And.intro hown3 hgrow4); clear hown3 hgrow3 hgrow4)
      go_roundw
      case rel => exact ⟨rs ++ [y], i + 1, by go_num, some ⟨g', 0, none⟩, cap', r', HY.out.2.2.2, ⟨HY.out.2.1⟩, ⟨rfl, by rw [List.length_append, HNR.out]; rfl, rfl⟩, ⟨by first | exact HY.out.1 | (have h := HY.out.1; rw [List.map_take] at h; exact h)⟩, haf ▸ ⟨HY.out.2.2.1⟩, by rw [List.length_append, HNR.out, List.flatMap_append]; exact K3.out.1, Below.grown HO.out.2.2 K3.out.2 (by omega) (own_base HO.out.1)⟩
      case measure => simp [intOf]; omega
     | nil =>
      have hi9 : i = x.e.L.length := by simp only [List.length_nil] at hri; omega
      subst hi9
      have HN := hid (And.intro hrs.out (And.intro hown hB))
      clear hrs hown hB hr0 hdr hri hRL
      go_wp2_with fail
      go_ret
      refine ⟨_, rs, rfl, ?_, own_mono HN.out.2.1 (Nat.le_succ _), HB.out.1.trans (HN.out.2.2.mono (Nat.le_succ _))⟩
      rw [HN.out.1, List.take_length, HKE.out]

  · have q8 : (x.e.k == 8) = false := by rw [beq_eq_false_iff_ne]; exact hk8
    have HKE := hid (show x.e.tys = x.e.T.els by simp [Xp.tys, hk8])
    clear hk8
    go_enter Tryz.func52, Tryz.ntmps52
    go_wp2_with (at_builtin; refine wpList_append_own_none' rfl _ _ 22 rfl (W.heap.size + 1) 25 i0 5 Tryz.underlying22 hi _ _ x.cT _ rfl HO0.out HCN.out ?_; have HB1 := hid (And.intro hB1 hB2); have k00 := cell_of_row wc _ 0 _ _ _ ((hB2.block _ (Nat.lt_succ_self _)).trans HB.out.2.1); have k66 := cell_of_row wc _ 6 _ _ _ ((hB2.block _ (Nat.lt_succ_self _)).trans HB.out.2.1); clear hB1 hB2 k5 hwa hwc)
    go_ret
    refine ⟨_, rsA, by rw [HA0.out]; rfl, by rw [hrA.out, HKE.out], own_mono HB1.out.1 (Nat.le_succ _), HB.out.1.trans (HB1.out.2.mono (Nat.le_succ _))⟩

 | some ad =>
  have hnw : ∀ j u, (rsA.flatMap fun y => y.cells.toList)[j]? = some u → w0.cell? (ad.add j) = some u := by
   rcases hnn.out with ⟨_, h⟩ | ⟨b, o, h, hc⟩
   · rw [h]; intro j u hu; simp at hu
   · rw [haa] at h; cases h; exact hc
  have hnw2 : ∀ j u, (rsA.flatMap fun y => y.cells.toList)[j]? = some u → wc.cell? (ad.add j) = some u := fun j u hu =>
   old_cell (HB.out.2.2.1.trans ((HB.out.1.trans (HB.out.2.2.2.2.mono (Nat.le_succ _))).mono HB.out.2.2.1.size)) (hnw j u hu)
  have hl5 : (rsA.flatMap fun y => y.cells.toList).length = x.e.T.len * 5 := by rw [len_cells, hlr]
  have HO0 := hid HB.out.2.2.2.1
  have HCN := hid (show (Value.slice x.aT x.e.T.len x.cT) = .slice (some ad) x.e.T.len x.cT by rw [haa])
  have HNW := hid (And.intro hnw2 hl5)
  have HLR := hid hlr
  clear hnw hnw2 hl5 hlr
  rw [← haa]
  clear haa
  by_cases hk8 : x.e.k = 8
  · have q8 : (x.e.k == 8) = true := by rw [hk8]; simp
    have HKE := hid (show x.e.tys = x.e.T.els ++ x.e.L.map (·.t) by simp [Xp.tys, hk8])
    clear hk8
    go_enter Tryz.func52, Tryz.ntmps52
    go_wp2_with (at_builtin; refine wpList_append_own _ rfl _ _ 22 rfl (W.heap.size + 1) 25 i0 _ 5 88 Tryz.underlying22 hi hz0 hz1 hz2 rfl (by decide) _ _ _ rfl HO0.out ad x.e.T.len x.cT (rsA.flatMap fun y => y.cells.toList) HCN.out HNW.out.2 HNW.out.1 (one_cells rsA) (by unfold maxLen; omega) (by omega) (by omega) ?_; intro v' w1 hown1 hgrow1 _; rw [Nat.zero_add, List.nil_append, ← HLR.out] at hown1; obtain ⟨p1, c1, rfl⟩ := own_slice hown1; have hgr : World.grownBy wc w1 (some (W.heap.size + 1)) := hgrow1; have hB2 : Below (W.heap.size + 1) wa w1 := Below.grown HB.out.2.2.2.2 hgr (by omega) (fun k hk => by cases hk; exact Nat.le_refl _); have HB1 := hid (And.intro hown1 hB2); have k00 := cell_of_row w1 _ 0 _ _ _ ((hB2.block _ (Nat.lt_succ_self _)).trans HB.out.2.1); have k66 := cell_of_row w1 _ 6 _ _ _ ((hB2.block _ (Nat.lt_succ_self _)).trans HB.out.2.1); clear hown1 hgrow1 hgr hB2 k5 hwa hwc)
    go_loopw [3, 4] (fun q a wr => ∃ (rs : List (TyI w0)) (i : Nat) (p : Option Addr) (c : Nat) (r : List Lb), a = .int .i64 (i : Int) ∧ r.length + i = x.e.L.length ∧ Kpt (x.e.L.drop i = r) ∧ q = .slice p rs.length c ∧ Kpt (rs.map (·.t) = x.e.T.els ++ (x.e.L.take i).map (·.t)) ∧ Kpt (RowD w0 (encLb r) x.aL (i * 8)) ∧ wr.ownsRow (W.heap.size + 1) 25 5 (.slice p rs.length c) rs.length (rs.flatMap fun y => y.cells.toList) ∧ Below (W.heap.size + 1) wa wr) (fun _ a _ => x.e.L.length - (intOf a).toNat)
    case atStart => exact ⟨rsA, 0, p1, c1, x.e.L, rfl, by omega, ⟨rfl⟩, (by first | rfl | (rw [HA0.out]; rfl)), ⟨by rw [List.take_zero, List.map_nil, List.append_nil]; exact hrA.out⟩, ⟨rowD_zero x.hL⟩, HB1.out.1, HB1.out.2⟩
    case round =>
     obtain ⟨rs, i, p, c, r, rfl, hri, hdr, rfl, hrs, hRL, hown, hB⟩ := hrel
     have hwrs := hB.size
     have hr0 := (hB.block _ (Nat.lt_succ_self _)).trans HB.out.2.1
     have hln : rs.length = x.e.T.len + i := by
      have h := congrArg List.length hrs.out
      rw [List.length_map, List.length_append, List.length_map, List.length_take, Tr.els_len] at h
      omega
     have k6 := cell_of_row wr _ 6 _ _ _ hr0
     cases r with
     | cons lx r' =>
      have hlt : i < x.e.L.length := by simp only [List.length_cons] at hri; omega
      obtain ⟨hgi, hdi⟩ := drop_step hdr.out
      obtain ⟨bf, of, y, haf, hy, ⟨d0, d1, d2, d3, d4, d5, d6, d7⟩, hr1⟩ := rowD_lb hRL.out
      have hWr := HB.out.2.2.1.trans ((HB.out.1.trans (hB.mono (Nat.le_succ _))).mono HB.out.2.2.1.size)
      replace d2 := old_cell hWr d2
      replace d3 := old_cell hWr d3
      replace d4 := old_cell hWr d4
      replace d5 := old_cell hWr d5
      replace d6 := old_cell hWr d6
      have hsn : (rs ++ [y]).map (·.t) = x.e.T.els ++ (x.e.L.take (i + 1)).map (·.t) := by rw [List.map_append, hrs.out, take_snoc hgi, List.map_append, List.append_assoc, List.map_cons, List.map_cons, hy]; rfl
      have HY := hid (And.intro hsn (And.intro hdi (And.intro hr1 (show r'.length + (i + 1) = x.e.L.length by simp only [List.length_cons] at hri; omega))))
      have hl2 : rs.length + 1 ≤ 1099511627776 := by omega
      rw [haf] at k6
      obtain ⟨wb, hwb⟩ : ∃ wb, wr.alloc (.cells #[.int .i64 y.t.k, .string y.t.m, .string y.t.n, .slice y.aa y.t.A.len y.ca, .slice y.af y.t.F.len y.cf] 25) = wb := ⟨_, rfl⟩
      have hbb : Below wr.heap.size wr wb := by rw [← hwb]; exact (Below.refl _ wr).alloc (Nat.le_refl _) _
      have heb : wb.heap[wr.heap.size]? = some (.cells #[.int .i64 y.t.k, .string y.t.m, .string y.t.n, .slice y.aa y.t.A.len y.ca, .slice y.af y.t.F.len y.cf] 25 (0, 0)) := by rw [← hwb]; exact World.alloc_heap_new _ _
      have hsb := hbb.size
      have HO := hid (And.intro (own_belowS hown hbb) (And.intro (World.news_of_block heb) (hB.trans (hbb.mono (by omega)))))
      clear hbb heb hsn hdi hr1 hgi hdr hri hRL hown hB hr0 hrs hWr d0 d1 d7 hy
      obtain ⟨nr, hnr⟩ : ∃ nr, rs.length = nr := ⟨_, rfl⟩
      rw [hnr] at HO hl2 ⊢
      have HNR := hid hnr
      clear hnr hln
      go_wp2_with (at_builtin; refine wpList_append_own _ rfl _ _ 22 rfl (W.heap.size + 1) 25 i0 _ 5 88 Tryz.underlying22 hi hz0 hz1 hz2 rfl (by decide) _ _ _ rfl HO.out.1 ⟨wr.heap.size, 0, none⟩ 1 1 [.int .i64 y.t.k, .string y.t.m, .string y.t.n, .slice y.aa y.t.A.len y.ca, .slice y.af y.t.F.len y.cf] rfl rfl HO.out.2.1 (by simp [Value.oneCell']) (by unfold maxLen; omega) (by omega) (by omega) ?_; intro v' w3 hown3 hgrow3 _; obtain ⟨g', cap', rfl⟩ := ownsRow_succ hown3; have hgrow4 : World.grownBy _ w3 (Value.ownBlock (.slice p nr c)) := hgrow3; have K3 := hid (And.intro hown3 hgrow4); clear hown3 hgrow3 hgrow4)
      go_roundw
      case rel => exact ⟨rs ++ [y], i + 1, by go_num, some ⟨g', 0, none⟩, cap', r', HY.out.2.2.2, ⟨HY.out.2.1⟩, ⟨rfl, by rw [List.length_append, HNR.out]; rfl, rfl⟩, ⟨by first | exact HY.out.1 | (have h := HY.out.1; rw [List.map_take] at h; exact h)⟩, haf ▸ ⟨HY.out.2.2.1⟩, by rw [List.length_append, HNR.out, List.flatMap_append]; exact K3.out.1, Below.grown HO.out.2.2 K3.out.2 (by omega) (own_base HO.out.1)⟩
      case measure => simp [intOf]; omega
     | nil =>
      have hi9 : i = x.e.L.length := by simp only [List.length_nil] at hri; omega
      subst hi9
      have HN := hid (And.intro hrs.out (And.intro hown hB))
      clear hrs hown hB hr0 hdr hri hRL
      go_wp2_with fail
      go_ret
      refine ⟨_, rs, rfl, ?_, own_mono HN.out.2.1 (Nat.le_succ _), HB.out.1.trans (HN.out.2.2.mono (Nat.le_succ _))⟩
      rw [HN.out.1, List.take_length, HKE.out]

  · have q8 : (x.e.k == 8) = false := by rw [beq_eq_false_iff_ne]; exact hk8
    have HKE := hid (show x.e.tys = x.e.T.els by simp [Xp.tys, hk8])
    clear hk8
    go_enter Tryz.func52, Tryz.ntmps52
    go_wp2_with (at_builtin; refine wpList_append_own _ rfl _ _ 22 rfl (W.heap.size + 1) 25 i0 _ 5 88 Tryz.underlying22 hi hz0 hz1 hz2 rfl (by decide) _ _ _ rfl HO0.out ad x.e.T.len x.cT (rsA.flatMap fun y => y.cells.toList) HCN.out HNW.out.2 HNW.out.1 (one_cells rsA) (by unfold maxLen; omega) (by omega) (by omega) ?_; intro v' w1 hown1 hgrow1 _; rw [Nat.zero_add, List.nil_append, ← HLR.out] at hown1; obtain ⟨p1, c1, rfl⟩ := own_slice hown1; have hgr : World.grownBy wc w1 (some (W.heap.size + 1)) := hgrow1; have hB2 : Below (W.heap.size + 1) wa w1 := Below.grown HB.out.2.2.2.2 hgr (by omega) (fun k hk => by cases hk; exact Nat.le_refl _); have HB1 := hid (And.intro hown1 hB2); have k00 := cell_of_row w1 _ 0 _ _ _ ((hB2.block _ (Nat.lt_succ_self _)).trans HB.out.2.1); have k66 := cell_of_row w1 _ 6 _ _ _ ((hB2.block _ (Nat.lt_succ_self _)).trans HB.out.2.1); clear hown1 hgrow1 hgr hB2 k5 hwa hwc)
    go_ret
    refine ⟨_, rsA, rfl, by rw [hrA.out, HKE.out], own_mono HB1.out.1 (Nat.le_succ _), HB.out.1.trans (HB1.out.2.mono (Nat.le_succ _))⟩

def RXz (w0 : World) (s : Nat) : Prop := ∀ x : XpI w0, x.e.bk ≤ s → ∀ W, Below w0.heap.size w0 W → Calls Tryz.prog 13 #[.agg #[.int .i64 x.e.k, .string x.e.m, .string x.e.n, .string x.e.tx, .int .i64 x.e.num, .slice x.aT x.e.T.len x.cT, .slice x.aL x.e.L.length x.cL, .slice x.aK x.e.K.len x.cK]] W fun e W' => e = .returned (.int .i64 (x.e.size : Int)) ∧ Below W.heap.size W W'
set_option maxRecDepth 100000 in
set_option maxHeartbeats 8000000 in
theorem rxz_step (w0 : World) (s : Nat) (hs : s + 1 ≤ 1099511627776) (ih : RXz w0 s) : RXz w0 (s + 1) := by
 intro x hx W hW
 have HI := hid ih
 have hbk := x.e.bk_eq
 have hT0 := x.e.T.size_enc false
 have hsb := x.e.size_bk
 have hKs : x.e.K.enc.bk ≤ s := by omega
 have hlK := Ex.len_bk x.e.K
 have hst := x.e.size_tys
 obtain ⟨wa, hwa⟩ : ∃ wa, W.alloc (.cells #[.int .i64 x.e.k, .string x.e.m, .string x.e.n, .string x.e.tx, .int .i64 x.e.num, .slice x.aT x.e.T.len x.cT, .slice x.aL x.e.L.length x.cL, .slice x.aK x.e.K.len x.cK] 29) = wa := ⟨_, rfl⟩
 have hba : Below W.heap.size W wa := by rw [← hwa]; exact (Below.refl _ W).alloc (Nat.le_refl _) _
 have hea : wa.heap[W.heap.size]? = some (.cells #[.int .i64 x.e.k, .string x.e.m, .string x.e.n, .string x.e.tx, .int .i64 x.e.num, .slice x.aT x.e.T.len x.cT, .slice x.aL x.e.L.length x.cL, .slice x.aK x.e.K.len x.cK] 29 (0, 0)) := by rw [← hwa]; exact World.alloc_heap_new _ _
 have k0 := cell_of_row wa _ 0 _ _ _ hea
 have k1 := cell_of_row wa _ 1 _ _ _ hea
 have k2 := cell_of_row wa _ 2 _ _ _ hea
 have k3 := cell_of_row wa _ 3 _ _ _ hea
 have k4 := cell_of_row wa _ 4 _ _ _ hea
 have k5 := cell_of_row wa _ 5 _ _ _ hea
 have k6 := cell_of_row wa _ 6 _ _ _ hea
 have k7 := cell_of_row wa _ 7 _ _ _ hea
 have hlw : W.heap.size < wa.heap.size := (Array.getElem?_eq_some_iff.1 hea).1
 have HP := hid (rtypes_any w0 x wa (hW.trans (hba.mono hW.size)) (by omega))
 have HB := hid (And.intro hba (And.intro hW (And.intro hea hlw)))
 have hsz : x.e.size ≤ 1099511627776 := by omega
 clear ih hba hea hW hbk hT0 hsb hx hlw
 go_enter Tryz.func13, Tryz.ntmps13
 go_wp2_with fail
 refine HP.out.mono ?_
 rintro e w1 ⟨v, rs, rfl, hrs, hrow, hb1⟩
 obtain ⟨p, c, rfl⟩ := own_slice hrow
 clear k0 k1 k2 k3 k4 k5 k6 k7 hwa
 have hln : rs.length = x.e.tys.length := by rw [← hrs, List.length_map]
 have hpz : psum x.e.tys x.e.tys.length + x.e.K.size = x.e.size := by unfold psum; rw [List.take_length, hst]
 have hpl : x.e.tys.length ≤ x.e.size := by
  have h : ∀ l : List Ty, l.length ≤ (l.map Ty.size).sum := fun l => by
   induction l with
   | nil => exact Nat.le_refl _
   | cons a l ih => simp only [List.length_cons, List.map_cons, List.sum_cons, Ty.size]; omega
  have := h x.e.tys
  omega
 obtain ⟨L, hL⟩ : ∃ L, rs.length = L := ⟨_, rfl⟩
 rw [hL] at hrow ⊢
 have hLs : L ≤ x.e.size := by omega
 have H1 := hid (And.intro hrs (And.intro hrow (And.intro hb1 (And.intro hL (And.intro (hln.symm.trans hL) hpz)))))
 have hwW : w1.heap[W.heap.size]? = some (.cells #[.int .i64 x.e.k, .string x.e.m, .string x.e.n, .string x.e.tx, .int .i64 x.e.num, .slice x.aT x.e.T.len x.cT, .slice x.aL x.e.L.length x.cL, .slice x.aK x.e.K.len x.cK] 29 (0, 0)) := (hb1.block _ HB.out.2.2.2).trans HB.out.2.2.1
 have H2 := hid (And.intro hwW (And.intro (HB.out.1.trans (hb1.mono HB.out.1.size)) (And.intro (HB.out.2.1.trans ((HB.out.1.trans (hb1.mono HB.out.1.size)).mono HB.out.2.1.size)) (Nat.lt_of_lt_of_le HB.out.2.2.2 hb1.size))))
 clear hrs hrow hb1 hln hpz hpl hL hst hwW
 go_wp2_with fail
 go_loopw [3, 5] (fun q a wr => ∃ (i : Nat), a = .int .i64 (i : Int) ∧ i ≤ L ∧ q = .int .i64 (psum x.e.tys i : Int) ∧ Below w1.heap.size w1 wr) (fun _ a _ => L - (intOf a).toNat)
 case atStart => exact ⟨0, rfl, Nat.zero_le _, rfl, Below.refl _ _⟩
 case round =>
  obtain ⟨i, rfl, hi, rfl, hB⟩ := hrel
  have HN := hid hB
  by_cases hlt : i < L
  · obtain ⟨g, cap, hv, _, _⟩ := H1.out.2.1.form (by omega)
    cases hv
    obtain ⟨y, hy⟩ : ∃ y, rs[i]? = some y := ⟨_, List.getElem?_eq_getElem (by rw [H1.out.2.2.2.1]; exact hlt)⟩
    have hc : ∀ j u, y.cells.toList[j]? = some u → j < 5 → wr.cell? ⟨g, i * 5 + j, none⟩ = some u := fun j u hu hj => by
     refine old_cell hB ?_
     rw [H1.out.2.1.cellAt (i * 5 + j) (by omega)]
     exact flat_at (fun y : TyI w0 => y.cells.toList) 5 (fun _ => rfl) rs i j y u hy hu
    have d0 := hc 0 _ rfl (by omega)
    have d1 := hc 1 _ rfl (by omega)
    have d2 := hc 2 _ rfl (by omega)
    have d3 := hc 3 _ rfl (by omega)
    have d4 := hc 4 _ rfl (by omega)
    have hyp : x.e.tys[i]? = some y.t := by rw [← H1.out.1, List.getElem?_map, hy]; rfl
    have hps := psum_succ hyp
    have hpl := psum_le x.e.tys (i + 1)
    have hpz := H1.out.2.2.2.2.2
    rw [H1.out.2.2.2.2.1] at hpz hpl
    have hcall := rs_all w0 y.t.size (by omega) y (Nat.le_refl _) wr (H2.out.2.2.1.trans (hB.mono H2.out.2.2.1.size))
    have HC := hid (And.intro hps hcall)
    have hb1 : psum x.e.tys i + y.t.size ≤ 1099511627776 := by omega
    clear hc hy hyp hcall hps hpl hB hpz
    generalize psum x.e.tys i = S at HC hb1 ⊢
    obtain ⟨sz, hszz⟩ : ∃ sz, y.t.size = sz := ⟨_, rfl⟩
    rw [hszz] at HC hb1
    clear hszz
    simp only [Nat.add_zero] at d0
    go_wp2_with fail
    refine HC.out.2.mono ?_
    rintro e w4 ⟨rfl, hb4⟩
    have H4 := hid hb4
    clear hb4
    go_wp2_with fail
    go_roundw
    case rel => exact ⟨i + 1, by go_num, by omega, by rw [HC.out.1]; go_num, HN.out.trans (H4.out.mono HN.out.size)⟩
    case measure => simp [intOf]; omega
  · obtain rfl : i = L := by omega
    have hz : psum x.e.tys i + x.e.K.size = x.e.size := by rw [← H1.out.2.2.2.2.1]; exact H1.out.2.2.2.2.2
    have hr0 := (hB.block _ H2.out.2.2.2).trans H2.out.1
    clear hB
    obtain ⟨w5, hw5⟩ : ∃ w5, w5 = wr := ⟨_, rfl⟩
    subst hw5
    have k7 := cell_of_row w5 _ 7 _ _ _ hr0
    have H5 := hid (And.intro hr0 (And.intro (H2.out.2.1.trans (HN.out.mono H2.out.2.1.size)) (And.intro (H2.out.2.2.1.trans (HN.out.mono H2.out.2.2.1.size)) (Nat.lt_of_lt_of_le H2.out.2.2.2 HN.out.size))))
    clear hr0
    generalize psum x.e.tys i = S at hz ⊢
    go_wp2_with fail
    go_loopw [3, 6] (fun q a wr => ∃ (i : Nat) (r : Ex) (d : Nat), a = .int .i64 (i : Int) ∧ r.len + i = x.e.K.len ∧ r.enc.bk ≤ s ∧ d + r.size = x.e.size ∧ q = .int .i64 (d : Int) ∧ RowD w0 r.enc x.aK (i * 8) ∧ Below w5.heap.size w5 wr) (fun _ a _ => x.e.K.len - (intOf a).toNat)
    case atStart => exact ⟨0, x.e.K, S, rfl, by omega, hKs, hz, rfl, rowD_zero x.hK, Below.refl _ _⟩
    case round =>
     obtain ⟨i, r, d, rfl, hri, hrs, hd, rfl, hRL, hB⟩ := hrel
     have hr0 := (hB.block _ H5.out.2.2.2).trans H5.out.1
     clear k7
     have k7 := cell_of_row wr _ 7 _ _ _ hr0
     cases r with
     | nil =>
      have hi9 : i = x.e.K.len := by simp only [Ex.len] at hri; omega
      subst hi9
      have hdd : d = x.e.size := by simp only [Ex.size] at hd; omega
      have HZ := hid (And.intro hdd hB)
      clear hdd hd hri hrs hRL hB hr0 hz
      go_wp2_with fail
      go_ret
      exact ⟨by rw [← HZ.out.1] <;> rfl, H5.out.2.1.trans (HZ.out.2.mono H5.out.2.1.size)⟩
     | node k m n tx num T1 L1 K nx =>
      have hlt : i < x.e.K.len := by simp only [Ex.len] at hri; omega
      obtain ⟨b, o, y, haK, hy, ⟨c0, c1, c2, c3, c4, c5, c6, c7⟩, hr1⟩ := rowD_ex hRL
      have hWr := H5.out.2.2.1.trans (hB.mono H5.out.2.2.1.size)
      replace c0 := old_cell hWr c0
      replace c1 := old_cell hWr c1
      replace c2 := old_cell hWr c2
      replace c3 := old_cell hWr c3
      replace c4 := old_cell hWr c4
      replace c5 := old_cell hWr c5
      replace c6 := old_cell hWr c6
      replace c7 := old_cell hWr c7
      rw [haK] at k7
      have hys : y.e.bk ≤ s := by rw [hy]; simp only [Ex.enc, Dt.bk] at hrs; simp only [Xp.bk, Xp.on, Dt.bk]; omega
      have hsx : d + y.e.size + nx.size = x.e.size := by
       rw [hy]
       simp only [Ex.size] at hd
       show d + (1 + T1.size + (if k = 8 then (L1.map (·.t.size)).sum else 0) + K.size) + nx.size = _
       omega
      have hnx : nx.enc.bk ≤ s := by simp only [Ex.enc, Dt.bk] at hrs; omega
      have HC := hid (And.intro (HI.out y hys wr hWr) (And.intro hsx (And.intro hnx (And.intro hr1 (And.intro hB (show nx.len + (i + 1) = x.e.K.len by simp only [Ex.len] at hri; omega))))))
      have hb1 : d + y.e.size ≤ 1099511627776 := by omega
      clear hys hsx hnx hr1 hB hWr hri hrs hd hRL hy hr0 hz haK
      obtain ⟨sz, hszz⟩ : ∃ sz, y.e.size = sz := ⟨_, rfl⟩
      rw [hszz] at HC hb1
      clear hszz
      go_wp2_with fail
      refine HC.out.1.mono ?_
      rintro e w4 ⟨rfl, hb4⟩
      have H4 := hid hb4
      clear hb4
      go_wp2_with fail
      go_roundw
      case rel => exact ⟨i + 1, nx, d + sz, by go_num, HC.out.2.2.2.2.2, HC.out.2.2.1, HC.out.2.1, by go_num, HC.out.2.2.2.1, HC.out.2.2.2.2.1.trans (H4.out.mono HC.out.2.2.2.2.1.size)⟩
      case measure => simp [intOf]; omega
theorem rxz_all (w0 : World) : ∀ s, s ≤ 1099511627776 → RXz w0 s := by
 intro s
 induction s with
 | zero => intro _ x hx; have := x.e.bk_eq; omega
 | succ s ih => intro hs; exact rxz_step w0 s hs (ih (by omega))
end Go.Proofs.YtnkhebgjhipepaaGreatDoor

namespace Go.Proofs.YtnkhebgjhipepaaGreatDoor
open Go.RowKit Go.Shelf

attribute [local go_sem] Oper.semAt_some
def Dc.tr (d : Dc) : Bool := d.lo.eq d.t && d.up.eq d.t
set_option maxRecDepth 100000 in
set_option maxHeartbeats 8000000 in
theorem rtr_any (w0 : World) (p : DcI w0) (r : List Dc) (hs : (encDc (p.d :: r)).bk ≤ 1099511627776) (W : World) (hW : Below w0.heap.size w0 W) :
 Calls Tryz.prog 53 #[.agg p.cells] W fun e W' => e = .returned (.bool p.d.tr) ∧ Below W.heap.size W W' := by
 show Calls Tryz.prog 53 #[.agg #[.int .i64 p.d.k, .string p.d.nm, .bool p.d.ex, .bool p.d.dp, .string p.d.note, .slice p.aP p.d.P.length p.cP, .int .i64 p.lo.t.k, .string p.lo.t.m, .string p.lo.t.n, .slice p.lo.aa p.lo.t.A.len p.lo.ca, .slice p.lo.af p.lo.t.F.len p.lo.cf, .int .i64 p.up.t.k, .string p.up.t.m, .string p.up.t.n, .slice p.up.aa p.up.t.A.len p.up.ca, .slice p.up.af p.up.t.F.len p.up.cf, .int .i64 p.t.t.k, .string p.t.t.m, .string p.t.t.n, .slice p.t.aa p.t.t.A.len p.t.ca, .slice p.t.af p.t.t.F.len p.t.cf, .int .i64 p.e.e.k, .string p.e.e.m, .string p.e.e.n, .string p.e.e.tx, .int .i64 p.e.e.num, .slice p.e.aT p.e.e.T.len p.e.cT, .slice p.e.aL p.e.e.L.length p.e.cL, .slice p.e.aK p.e.e.K.len p.e.cK, .string p.d.m, .string p.d.tg]] W _
 have hbk := encDc_bk p.d r
 have hlo := p.d.lo.on_bk .nil
 have hup := p.d.up.on_bk .nil
 simp only [Dt.bk] at hlo hup
 have HK0 : Kpt (∀ W' : World, Below w0.heap.size w0 W' → Calls Tryz.prog 28 #[.agg #[.int .i64 p.lo.t.k, .string p.lo.t.m, .string p.lo.t.n, .slice p.lo.aa p.lo.t.A.len p.lo.ca, .slice p.lo.af p.lo.t.F.len p.lo.cf], .agg #[.int .i64 p.t.t.k, .string p.t.t.m, .string p.t.t.n, .slice p.t.aa p.t.t.A.len p.t.ca, .slice p.t.af p.t.t.F.len p.t.cf]] W' fun e W'' => e = .returned (.bool (p.d.lo.eq p.d.t)) ∧ Below W'.heap.size W' W'') := hid (fun W' hW' => by rw [← p.hlo, ← p.ht]; exact req_all w0 _ (by rw [p.hlo]; omega) p.lo p.t (Nat.le_refl _) W' hW')
 have HK1 : Kpt (∀ W' : World, Below w0.heap.size w0 W' → Calls Tryz.prog 28 #[.agg #[.int .i64 p.up.t.k, .string p.up.t.m, .string p.up.t.n, .slice p.up.aa p.up.t.A.len p.up.ca, .slice p.up.af p.up.t.F.len p.up.cf], .agg #[.int .i64 p.t.t.k, .string p.t.t.m, .string p.t.t.n, .slice p.t.aa p.t.t.A.len p.t.ca, .slice p.t.af p.t.t.F.len p.t.cf]] W' fun e W'' => e = .returned (.bool (p.d.up.eq p.d.t)) ∧ Below W'.heap.size W' W'') := hid (fun W' hW' => by rw [← p.hup, ← p.ht]; exact req_all w0 _ (by rw [p.hup]; omega) p.up p.t (Nat.le_refl _) W' hW')
 clear hbk hlo hup hs
 obtain ⟨wa, hwa⟩ : ∃ wa, W.alloc (.cells #[.int .i64 p.d.k, .string p.d.nm, .bool p.d.ex, .bool p.d.dp, .string p.d.note, .slice p.aP p.d.P.length p.cP, .int .i64 p.lo.t.k, .string p.lo.t.m, .string p.lo.t.n, .slice p.lo.aa p.lo.t.A.len p.lo.ca, .slice p.lo.af p.lo.t.F.len p.lo.cf, .int .i64 p.up.t.k, .string p.up.t.m, .string p.up.t.n, .slice p.up.aa p.up.t.A.len p.up.ca, .slice p.up.af p.up.t.F.len p.up.cf, .int .i64 p.t.t.k, .string p.t.t.m, .string p.t.t.n, .slice p.t.aa p.t.t.A.len p.t.ca, .slice p.t.af p.t.t.F.len p.t.cf, .int .i64 p.e.e.k, .string p.e.e.m, .string p.e.e.n, .string p.e.e.tx, .int .i64 p.e.e.num, .slice p.e.aT p.e.e.T.len p.e.cT, .slice p.e.aL p.e.e.L.length p.e.cL, .slice p.e.aK p.e.e.K.len p.e.cK, .string p.d.m, .string p.d.tg] 75) = wa := ⟨_, rfl⟩
 have hba : Below W.heap.size W wa := by rw [← hwa]; exact (Below.refl _ W).alloc (Nat.le_refl _) _
 have hea : wa.heap[W.heap.size]? = some (.cells #[.int .i64 p.d.k, .string p.d.nm, .bool p.d.ex, .bool p.d.dp, .string p.d.note, .slice p.aP p.d.P.length p.cP, .int .i64 p.lo.t.k, .string p.lo.t.m, .string p.lo.t.n, .slice p.lo.aa p.lo.t.A.len p.lo.ca, .slice p.lo.af p.lo.t.F.len p.lo.cf, .int .i64 p.up.t.k, .string p.up.t.m, .string p.up.t.n, .slice p.up.aa p.up.t.A.len p.up.ca, .slice p.up.af p.up.t.F.len p.up.cf, .int .i64 p.t.t.k, .string p.t.t.m, .string p.t.t.n, .slice p.t.aa p.t.t.A.len p.t.ca, .slice p.t.af p.t.t.F.len p.t.cf, .int .i64 p.e.e.k, .string p.e.e.m, .string p.e.e.n, .string p.e.e.tx, .int .i64 p.e.e.num, .slice p.e.aT p.e.e.T.len p.e.cT, .slice p.e.aL p.e.e.L.length p.e.cL, .slice p.e.aK p.e.e.K.len p.e.cK, .string p.d.m, .string p.d.tg] 75 (0, 0)) := by rw [← hwa]; exact World.alloc_heap_new _ _
 have k6 := cell_of_row wa _ 6 _ _ _ hea
 have k7 := cell_of_row wa _ 7 _ _ _ hea
 have k8 := cell_of_row wa _ 8 _ _ _ hea
 have k9 := cell_of_row wa _ 9 _ _ _ hea
 have k10 := cell_of_row wa _ 10 _ _ _ hea
 have k16 := cell_of_row wa _ 16 _ _ _ hea
 have k17 := cell_of_row wa _ 17 _ _ _ hea
 have k18 := cell_of_row wa _ 18 _ _ _ hea
 have k19 := cell_of_row wa _ 19 _ _ _ hea
 have k20 := cell_of_row wa _ 20 _ _ _ hea
 have HB := hid (And.intro (hW.trans (hba.mono hW.size)) (And.intro hba (And.intro hea (Array.getElem?_eq_some_iff.1 hea).1)))
 clear hea hba hW
 have HR := hid (show p.d.tr = (p.d.lo.eq p.d.t && p.d.up.eq p.d.t) from rfl)
 go_enter Tryz.func53, Tryz.ntmps53
 go_wp2_with fail
 refine (HK0.out _ HB.out.1).mono ?_
 rintro e v0 ⟨rfl, hb⟩
 have e0 := (hb.block _ HB.out.2.2.2).trans HB.out.2.2.1
 clear k6 k7 k8 k9 k10 k16 k17 k18 k19 k20
 have k11 := cell_of_row v0 _ 11 _ _ _ e0
 have k12 := cell_of_row v0 _ 12 _ _ _ e0
 have k13 := cell_of_row v0 _ 13 _ _ _ e0
 have k14 := cell_of_row v0 _ 14 _ _ _ e0
 have k15 := cell_of_row v0 _ 15 _ _ _ e0
 have k16 := cell_of_row v0 _ 16 _ _ _ e0
 have k17 := cell_of_row v0 _ 17 _ _ _ e0
 have k18 := cell_of_row v0 _ 18 _ _ _ e0
 have k19 := cell_of_row v0 _ 19 _ _ _ e0
 have k20 := cell_of_row v0 _ 20 _ _ _ e0
 have HB0 := hid (And.intro (HB.out.1.trans (hb.mono HB.out.1.size)) (HB.out.2.1.trans (hb.mono HB.out.2.1.size)))
 clear hb e0
 cases hA : p.d.lo.eq p.d.t with
 | false =>
  go_wp2_with fail
  go_ret
  exact ⟨by rw [HR.out, hA]; rfl, HB0.out.2⟩
 | true =>
  go_wp2_with fail
  refine (HK1.out _ HB0.out.1).mono ?_
  rintro e v1 ⟨rfl, hb⟩
  have HZ := hid hb
  clear hb
  go_wp2_with fail
  go_ret
  exact ⟨by rw [HR.out, hA, Bool.true_and]; rfl, HB0.out.2.trans (HZ.out.mono HB0.out.2.size)⟩
def Dc.size (d : Dc) : Nat := 1 + d.P.length + (if d.k = 1 then (d.P.map (·.t.size)).sum + d.t.size + d.e.size else 0) + (if d.k = 0 then d.t.size + (if d.tr then 0 else d.lo.size + d.up.size) else 0)
def Md.size (m : Md) : Nat := 1 + m.I.length + (m.D.map Dc.size).sum
theorem Pm.sum_bk : ∀ L : List Pm, L.length + (L.map (·.t.size)).sum ≤ (encPm L).bk := by
 intro L
 induction L with
 | nil => exact Nat.le_refl _
 | cons x r ih =>
  have := x.t.on_bk (encPm r)
  simp only [encPm, Dt.bk, List.map_cons, List.sum_cons, List.length_cons] at *; omega
theorem Dc.size_bk (d : Dc) (r : List Dc) : d.size + (encDc r).bk ≤ (encDc (d :: r)).bk := by
 have h0 := encDc_bk d r
 have h1 := Pm.sum_bk d.P
 have h2 := d.lo.on_bk .nil
 have h3 := d.up.on_bk .nil
 have h4 := d.t.on_bk .nil
 have h5 := d.e.size_bk
 simp only [Dt.bk] at h2 h3 h4
 unfold Dc.size
 split <;> split <;> (try split) <;> omega
theorem Dc.sum_bk : ∀ L : List Dc, (L.map Dc.size).sum ≤ (encDc L).bk := by
 intro L
 induction L with
 | nil => exact Nat.le_refl _
 | cons x r ih =>
  have := x.size_bk r
  simp only [List.map_cons, List.sum_cons]; omega
theorem Md.size_bk (m : Md) : m.size ≤ m.bk := by
 have h1 := Dc.sum_bk m.D
 have h2 := Im.len_bk m.I
 rw [m.bk_eq]
 unfold Md.size
 omega
set_option maxRecDepth 100000 in
set_option maxHeartbeats 8000000 in
theorem rms_any (w0 : World) (x : MdI w0) (hs : x.m.bk ≤ 1099511627776) (W : World) (hW : Below w0.heap.size w0 W) :
 Calls Tryz.prog 14 #[.agg #[.string x.m.p, .slice x.aI x.m.I.length x.cI, .slice x.aD x.m.D.length x.cD]] W fun e W' => e = .returned (.int .i64 (x.m.size : Int)) ∧ Below W.heap.size W W' := by
 have hbk := x.m.bk_eq
 have hsb := x.m.size_bk
 have hsz : x.m.size ≤ 1099511627776 := by omega
 have hsd : x.m.size = (1 + x.m.I.length) + (x.m.D.map Dc.size).sum := rfl
 have hDs : (encDc x.m.D).bk ≤ 1099511627776 := by omega
 have hlD := Dc.len_bk x.m.D
 have hlI : x.m.I.length ≤ x.m.size := by omega
 have hlDb : x.m.D.length ≤ 1099511627776 := by omega
 clear hs hbk hsb
 obtain ⟨wa, hwa⟩ : ∃ wa, W.alloc (.cells #[.string x.m.p, .slice x.aI x.m.I.length x.cI, .slice x.aD x.m.D.length x.cD] 33) = wa := ⟨_, rfl⟩
 have hba : Below W.heap.size W wa := by rw [← hwa]; exact (Below.refl _ W).alloc (Nat.le_refl _) _
 have hea : wa.heap[W.heap.size]? = some (.cells #[.string x.m.p, .slice x.aI x.m.I.length x.cI, .slice x.aD x.m.D.length x.cD] 33 (0, 0)) := by rw [← hwa]; exact World.alloc_heap_new _ _
 have k1 := cell_of_row wa _ 1 _ _ _ hea
 have k2 := cell_of_row wa _ 2 _ _ _ hea
 have HB := hid (And.intro (hW.trans (hba.mono hW.size)) (And.intro hba (And.intro hea (Array.getElem?_eq_some_iff.1 hea).1)))
 clear hea hba hW
 go_enter Tryz.func14, Tryz.ntmps14
 go_wp2_with fail
 go_loopw [3, 4] (fun q a wr => ∃ (i : Nat) (r : List Dc) (d : Nat), a = .int .i64 (i : Int) ∧ r.length + i = x.m.D.length ∧ (encDc r).bk ≤ 1099511627776 ∧ d + (r.map Dc.size).sum = x.m.size ∧ q = .int .i64 (d : Int) ∧ Kpt (RowD w0 (encDc r) x.aD (i * 31)) ∧ Below wa.heap.size wa wr) (fun _ a _ => x.m.D.length - (intOf a).toNat)
 case atStart => exact ⟨0, x.m.D, 1 + x.m.I.length, rfl, by omega, hDs, hsd.symm, by go_num, ⟨rowD_zero x.hD⟩, Below.refl _ _⟩
 case round =>
  obtain ⟨i, r, d, rfl, hri, hrs, hd, rfl, hRL, hB⟩ := hrel
  have hr0 := (hB.block _ HB.out.2.2.2).trans HB.out.2.2.1
  clear k1 k2 hwa
  have k2 := cell_of_row wr _ 2 _ _ _ hr0
  cases r with
  | nil =>
   have hi9 : i = x.m.D.length := by simp only [List.length_nil] at hri; omega
   subst hi9
   have hdd : d = x.m.size := by simpa using hd
   have HZ := hid (And.intro hdd hB)
   clear hdd hd hri hrs hRL hB hr0
   go_wp2_with fail
   go_ret
   exact ⟨by rw [← HZ.out.1] <;> rfl, HB.out.2.1.trans (HZ.out.2.mono HB.out.2.1.size)⟩
  | cons y r' =>
   have hlt : i < x.m.D.length := by simp only [List.length_cons] at hri; omega
   obtain ⟨b, o, p, haD, hp, hc, hr1⟩ := rowD_dcR hRL.out
   subst hp
   rw [haD] at k2
   have hwr := HB.out.1.trans (hB.mono HB.out.1.size)
   have hca := rangeAt_old hwr hc
   have hpl := p.size
   have hpo := p.one
   obtain ⟨pa, hpa⟩ : ∃ l, p.cells.toList = l := ⟨_, rfl⟩
   have hpc : p.cells = pa.toArray := by rw [← hpa, Array.toArray_toList]
   have HTR : Kpt (∀ X' : World, Below w0.heap.size w0 X' → Calls Tryz.prog 53 #[.agg pa.toArray] X' fun e X'' => e = .returned (.bool p.d.tr) ∧ Below X'.heap.size X' X'') := hid (fun X' hX' => by rw [← hpc]; exact rtr_any w0 p r' hrs X' hX')
   obtain ⟨wb, hwb⟩ : ∃ wb, wr.alloc (.cells pa.toArray 75) = wb := ⟨_, rfl⟩
   have hbb : Below wr.heap.size wr wb := by rw [← hwb]; exact (Below.refl _ wr).alloc (Nat.le_refl _) _
   have hebo : wb.heap[wr.heap.size]? = some (.cells pa.toArray 75 (0, 0)) := by rw [← hwb]; exact World.alloc_heap_new _ _
   have heb : wb.heap[wr.heap.size]? = some (.cells #[.int .i64 p.d.k, .string p.d.nm, .bool p.d.ex, .bool p.d.dp, .string p.d.note, .slice p.aP p.d.P.length p.cP, .int .i64 p.lo.t.k, .string p.lo.t.m, .string p.lo.t.n, .slice p.lo.aa p.lo.t.A.len p.lo.ca, .slice p.lo.af p.lo.t.F.len p.lo.cf, .int .i64 p.up.t.k, .string p.up.t.m, .string p.up.t.n, .slice p.up.aa p.up.t.A.len p.up.ca, .slice p.up.af p.up.t.F.len p.up.cf, .int .i64 p.t.t.k, .string p.t.t.m, .string p.t.t.n, .slice p.t.aa p.t.t.A.len p.t.ca, .slice p.t.af p.t.t.F.len p.t.cf, .int .i64 p.e.e.k, .string p.e.e.m, .string p.e.e.n, .string p.e.e.tx, .int .i64 p.e.e.num, .slice p.e.aT p.e.e.T.len p.e.cT, .slice p.e.aL p.e.e.L.length p.e.cL, .slice p.e.aK p.e.e.K.len p.e.cK, .string p.d.m, .string p.d.tg] 75 (0, 0)) := by rw [hebo, ← hpc]; rfl
   have hszd := p.d.size_bk r'
   have hP := Pm.sum_bk p.d.P
   have hbp := encDc_bk p.d r'
   have hlo := p.d.lo.on_bk .nil
   have hup := p.d.up.on_bk .nil
   have hty := p.d.t.on_bk .nil
   have hez := p.d.e.size_bk
   simp only [Dt.bk] at hlo hup hty
   have hdr : d + p.d.size + (r'.map Dc.size).sum = x.m.size := by simp only [List.map_cons, List.sum_cons] at hd; omega
   have hPs : (encPm p.d.P).bk ≤ 1099511627776 := by omega
   have hrs' : (encDc r').bk ≤ 1099511627776 := by omega
   have hTS : ∀ (t : Ty) (y : TyI w0), y.t = t → t.size ≤ 1099511627776 → Kpt (∀ X' : World, Below w0.heap.size w0 X' → Calls Tryz.prog 16 #[.agg #[.int .i64 y.t.k, .string y.t.m, .string y.t.n, .slice y.aa y.t.A.len y.ca, .slice y.af y.t.F.len y.cf]] X' fun e X'' => e = .returned (.int .i64 (t.size : Int)) ∧ Below X'.heap.size X' X'') := fun t y hy ht => hid (fun X' hX' => by rw [← hy]; exact rs_all w0 _ (by rw [hy]; exact ht) y (Nat.le_refl _) X' hX')
   have HT := hTS p.d.t p.t p.ht (by omega)
   have HLO := hTS p.d.lo p.lo p.hlo (by omega)
   have HUP := hTS p.d.up p.up p.hup (by omega)
   have HEX : Kpt (∀ X' : World, Below w0.heap.size w0 X' → Calls Tryz.prog 13 #[.agg #[.int .i64 p.e.e.k, .string p.e.e.m, .string p.e.e.n, .string p.e.e.tx, .int .i64 p.e.e.num, .slice p.e.aT p.e.e.T.len p.e.cT, .slice p.e.aL p.e.e.L.length p.e.cL, .slice p.e.aK p.e.e.K.len p.e.cK]] X' fun e X'' => e = .returned (.int .i64 (p.d.e.size : Int)) ∧ Below X'.heap.size X' X'') := hid (fun X' hX' => by rw [← p.he]; exact rxz_all w0 _ (by rw [p.he]; omega) p.e (Nat.le_refl _) X' hX')
   have HQ := hid (And.intro hr1 (And.intro hrs' (And.intro (show r'.length + (i + 1) = x.m.D.length by simp only [List.length_cons] at hri; omega) (And.intro hdr (And.intro (hB.trans (hbb.mono hB.size)) (And.intro (hwr.trans (hbb.mono hwr.size)) (And.intro heb hebo)))))))
   have HC := hid hca
   have HPL := hid (by rw [hpa] at hpl; exact hpl : pa.length = 31)
   have hpz : 31 = pa.toArray.size := by simp [HPL.out]
   have HPZ := hid hpz
   have HPO := hid (by rw [hpc] at hpo; exact hpo : pa.toArray.all (·.oneCell') = true)
   have HWB := hid hwb
   rw [hpa] at HC
   have hPl : p.d.P.length ≤ 1099511627776 := by omega
   have hdb : d + p.d.size ≤ 1099511627776 := by omega
   have HDS := hid (show p.d.size = 1 + p.d.P.length + (if p.d.k = 1 then (p.d.P.map (·.t.size)).sum + p.d.t.size + p.d.e.size else 0) + (if p.d.k = 0 then p.d.t.size + (if p.d.tr then 0 else p.d.lo.size + p.d.up.size) else 0) from rfl)
   have g0 := cell_of_row wb _ 0 _ _ _ heb
   have g5 := cell_of_row wb _ 5 _ _ _ heb
   clear hca hpl hpo hpc hpa hwb hbb heb hebo hszd hP hbp hlo hup hty hez hdr hr1 hri hrs hd hRL hB hr0 hwr hc hTS hpz haD hlD hsd hDs
   by_cases hk1 : p.d.k = 1
   · have HSZ := hid (show p.d.size = 1 + p.d.P.length + ((p.d.P.map (·.t.size)).sum + p.d.t.size + p.d.e.size) by rw [HDS.out, if_pos hk1, if_neg (by rw [hk1]; decide)]; omega)
     have hall : d + (1 + p.d.P.length + ((p.d.P.map (·.t.size)).sum + p.d.t.size + p.d.e.size)) ≤ 1099511627776 := by rw [← HSZ.out]; exact hdb
     clear HDS
     rw [hk1] at g0
     go_wp2_with (first
      | (with_reducible refine wpList_load_mid rfl 75 _ rfl b (o + i * 31) rfl pa _ HC.out Tryz.underlying75 rfl (by rw [HPL.out]; kernel_rfl) ?_)
      | (with_reducible refine wpList_run_alloc rfl 75 rfl ZDc (by kernel_rfl) ?_)
      | (with_reducible refine wpList_store_fresh rfl 75 _ _ rfl wr.heap.size rfl pa.toArray rfl rfl 75 _ (by rw [← HPZ.out]; kernel_rfl) (ZDc_size.trans HPZ.out) HPO.out HWB.out ?_))
     obtain ⟨wz, hwz⟩ : ∃ wz, wz = wr := ⟨_, rfl⟩
     subst hwz
     go_loopw [3, 6] (fun q a wr => ∃ (k : Nat) (rp : List Pm) (f : Nat), a = .int .i64 (k : Int) ∧ rp.length + k = p.d.P.length ∧ (encPm rp).bk ≤ 1099511627776 ∧ f + (rp.map (·.t.size)).sum = d + 1 + p.d.P.length + (p.d.P.map (·.t.size)).sum ∧ q = .int .i64 (f : Int) ∧ Kpt (RowD w0 (encPm rp) p.aP (k * 7)) ∧ Below wb.heap.size wb wr) (fun _ a _ => p.d.P.length - (intOf a).toNat)
     case atStart => exact ⟨0, p.d.P, d + 1 + p.d.P.length, rfl, by omega, hPs, rfl, by go_num, ⟨rowD_zero p.hP⟩, Below.refl _ _⟩
     case round =>
      obtain ⟨k, rp, f, rfl, hkl, hks, hf, rfl, hRP, hB2⟩ := hrel
      have heb2 := (hB2.block _ (Array.getElem?_eq_some_iff.1 HQ.out.2.2.2.2.2.2.1).1).trans HQ.out.2.2.2.2.2.2.1
      clear g0 g5
      have g0 := cell_of_row wr _ 0 _ _ _ heb2
      have g5 := cell_of_row wr _ 5 _ _ _ heb2
      rw [hk1] at g0
      cases rp with
      | nil =>
       have hk9 : k = p.d.P.length := by simp only [List.length_nil] at hkl; omega
       subst hk9
       have hff : f = d + 1 + p.d.P.length + (p.d.P.map (·.t.size)).sum := by simpa using hf
       have HQ2 := hid hB2
       have hwz := HQ.out.2.2.2.2.2.1.trans (hB2.mono HQ.out.2.2.2.2.2.1.size)
       have m16 := (show ∀ X : Later wr, X.now.cell? ⟨wz.heap.size, 16, none⟩ = some (.int .i64 p.t.t.k) from fun X => cell_of_row X.now _ 16 _ _ _ ((X.since.block _ (Array.getElem?_eq_some_iff.1 heb2).1).trans heb2))
       have m17 := (show ∀ X : Later wr, X.now.cell? ⟨wz.heap.size, 17, none⟩ = some (.string p.t.t.m) from fun X => cell_of_row X.now _ 17 _ _ _ ((X.since.block _ (Array.getElem?_eq_some_iff.1 heb2).1).trans heb2))
       have m18 := (show ∀ X : Later wr, X.now.cell? ⟨wz.heap.size, 18, none⟩ = some (.string p.t.t.n) from fun X => cell_of_row X.now _ 18 _ _ _ ((X.since.block _ (Array.getElem?_eq_some_iff.1 heb2).1).trans heb2))
       have m19 := (show ∀ X : Later wr, X.now.cell? ⟨wz.heap.size, 19, none⟩ = some (.slice p.t.aa p.t.t.A.len p.t.ca) from fun X => cell_of_row X.now _ 19 _ _ _ ((X.since.block _ (Array.getElem?_eq_some_iff.1 heb2).1).trans heb2))
       have m20 := (show ∀ X : Later wr, X.now.cell? ⟨wz.heap.size, 20, none⟩ = some (.slice p.t.af p.t.t.F.len p.t.cf) from fun X => cell_of_row X.now _ 20 _ _ _ ((X.since.block _ (Array.getElem?_eq_some_iff.1 heb2).1).trans heb2))
       have m21 := (show ∀ X : Later wr, X.now.cell? ⟨wz.heap.size, 21, none⟩ = some (.int .i64 p.e.e.k) from fun X => cell_of_row X.now _ 21 _ _ _ ((X.since.block _ (Array.getElem?_eq_some_iff.1 heb2).1).trans heb2))
       have m22 := (show ∀ X : Later wr, X.now.cell? ⟨wz.heap.size, 22, none⟩ = some (.string p.e.e.m) from fun X => cell_of_row X.now _ 22 _ _ _ ((X.since.block _ (Array.getElem?_eq_some_iff.1 heb2).1).trans heb2))
       have m23 := (show ∀ X : Later wr, X.now.cell? ⟨wz.heap.size, 23, none⟩ = some (.string p.e.e.n) from fun X => cell_of_row X.now _ 23 _ _ _ ((X.since.block _ (Array.getElem?_eq_some_iff.1 heb2).1).trans heb2))
       have m24 := (show ∀ X : Later wr, X.now.cell? ⟨wz.heap.size, 24, none⟩ = some (.string p.e.e.tx) from fun X => cell_of_row X.now _ 24 _ _ _ ((X.since.block _ (Array.getElem?_eq_some_iff.1 heb2).1).trans heb2))
       have m25 := (show ∀ X : Later wr, X.now.cell? ⟨wz.heap.size, 25, none⟩ = some (.int .i64 p.e.e.num) from fun X => cell_of_row X.now _ 25 _ _ _ ((X.since.block _ (Array.getElem?_eq_some_iff.1 heb2).1).trans heb2))
       have m26 := (show ∀ X : Later wr, X.now.cell? ⟨wz.heap.size, 26, none⟩ = some (.slice p.e.aT p.e.e.T.len p.e.cT) from fun X => cell_of_row X.now _ 26 _ _ _ ((X.since.block _ (Array.getElem?_eq_some_iff.1 heb2).1).trans heb2))
       have m27 := (show ∀ X : Later wr, X.now.cell? ⟨wz.heap.size, 27, none⟩ = some (.slice p.e.aL p.e.e.L.length p.e.cL) from fun X => cell_of_row X.now _ 27 _ _ _ ((X.since.block _ (Array.getElem?_eq_some_iff.1 heb2).1).trans heb2))
       have m28 := (show ∀ X : Later wr, X.now.cell? ⟨wz.heap.size, 28, none⟩ = some (.slice p.e.aK p.e.e.K.len p.e.cK) from fun X => cell_of_row X.now _ 28 _ _ _ ((X.since.block _ (Array.getElem?_eq_some_iff.1 heb2).1).trans heb2))
       have HTL := hid (fun X : Later wr => Calls.later_of (HT.out X.now (hwz.trans (X.since.mono hwz.size))))
       have HXL := hid (fun X : Later wr => Calls.later_of (HEX.out X.now (hwz.trans (X.since.mono hwz.size))))
       clear hks hkl hRP hB2 heb2 hwz hf
       subst hff
       generalize (p.d.P.map (·.t.size)).sum = PS at *
       generalize p.d.t.size = TZ at *
       generalize p.d.e.size = EZ at *
       go_wp2_with fail
       refine wp_region_later (by kernel_rfl) (by kernel_rfl) ?_
       repeat (go_big_quiet_step (first | (go_at_call 16; with_reducible exact HTL.out _) | (go_at_call 13; with_reducible exact HXL.out _)))
       refine wpQuiet_nil ?_
       intro _ hw'
       obtain ⟨X, hX⟩ := hw'
       subst hX
       have m0 : X.now.cell? ⟨wz.heap.size, 0, none⟩ = some (.int .i64 1) := old_cell X.since g0
       clear g0 g5
       go_wp2_with fail
       go_roundw
       case rel => exact ⟨i + 1, r', d + p.d.size, by go_num, HQ.out.2.2.1, HQ.out.2.1, HQ.out.2.2.2.1, by rw [HSZ.out]; go_num, ⟨HQ.out.1⟩, HQ.out.2.2.2.2.1.trans ((HQ2.out.trans (X.since.mono HQ2.out.size)).mono HQ.out.2.2.2.2.1.size)⟩
       case measure => simp [intOf]; omega
      | cons yp rp' =>
       have hlt2 : k < p.d.P.length := by simp only [List.length_cons] at hkl; omega
       obtain ⟨b2, o2, q, haP, hq, -, ⟨c0, c1, c2, c3, c4, c5, c6⟩, hr2⟩ := rowD_pm hRP.out
       have hwr2 := HQ.out.2.2.2.2.2.1.trans (hB2.mono HQ.out.2.2.2.2.2.1.size)
       replace c2 := old_cell hwr2 c2
       replace c3 := old_cell hwr2 c3
       replace c4 := old_cell hwr2 c4
       replace c5 := old_cell hwr2 c5
       replace c6 := old_cell hwr2 c6
       rw [haP] at g5
       have h9 := yp.t.on_bk (encPm rp')
       simp only [encPm, Dt.bk] at hks
       have hcall : Calls Tryz.prog 16 #[.agg #[.int .i64 q.t.k, .string q.t.m, .string q.t.n, .slice q.aa q.t.A.len q.ca, .slice q.af q.t.F.len q.cf]] wr fun e X'' => e = .returned (.int .i64 (yp.t.size : Int)) ∧ Below wr.heap.size wr X'' := by rw [← hq]; exact rs_all w0 _ (by rw [hq]; omega) q (Nat.le_refl _) wr hwr2
       have hfs : f + yp.t.size + (rp'.map (·.t.size)).sum = d + 1 + p.d.P.length + (p.d.P.map (·.t.size)).sum := by simp only [List.map_cons, List.sum_cons] at hf; omega
       have hfb : f + yp.t.size ≤ 1099511627776 := by omega
       have HC2 := hid (And.intro hcall (And.intro hfs (And.intro (show (encPm rp').bk ≤ 1099511627776 by omega) (And.intro hr2 (And.intro hB2 (show rp'.length + (k + 1) = p.d.P.length by simp only [List.length_cons] at hkl; omega))))))
       clear hcall hfs hr2 hB2 hwr2 hkl hks hf hRP hq heb2 h9 c0 c1 haP
       obtain ⟨sz, hszz⟩ : ∃ sz, yp.t.size = sz := ⟨_, rfl⟩
       rw [hszz] at HC2 hfb
       clear hszz
       go_wp2_with fail
       refine HC2.out.1.mono ?_
       rintro e w4 ⟨rfl, hb4⟩
       have H4 := hid hb4
       clear hb4
       go_wp2_with fail
       go_roundw
       case rel => exact ⟨k + 1, rp', f + sz, by go_num, HC2.out.2.2.2.2.2, HC2.out.2.2.1, HC2.out.2.1, by go_num, ⟨HC2.out.2.2.2.1⟩, HC2.out.2.2.2.2.1.trans (H4.out.mono HC2.out.2.2.2.2.1.size)⟩
       case measure => simp [intOf]; omega
   · by_cases hk0 : p.d.k = 0
     · rw [hk0] at g0

       have HSZ0 := hid (show p.d.size = 1 + p.d.P.length + (p.d.t.size + (if p.d.tr then 0 else p.d.lo.size + p.d.up.size)) by rw [HDS.out, if_neg (by rw [hk0]; decide), if_pos hk0]; omega)
       have m16 := cell_of_row wb _ 16 _ _ _ HQ.out.2.2.2.2.2.2.1
       have m17 := cell_of_row wb _ 17 _ _ _ HQ.out.2.2.2.2.2.2.1
       have m18 := cell_of_row wb _ 18 _ _ _ HQ.out.2.2.2.2.2.2.1
       have m19 := cell_of_row wb _ 19 _ _ _ HQ.out.2.2.2.2.2.2.1
       have m20 := cell_of_row wb _ 20 _ _ _ HQ.out.2.2.2.2.2.2.1
       have hbT : d + 1 + p.d.P.length + p.d.t.size ≤ 1099511627776 := by have := HSZ0.out; omega
       cases htr : p.d.tr with
       | true =>
        have HSZ := hid (show p.d.size = 1 + p.d.P.length + p.d.t.size by rw [HSZ0.out, htr]; simp <;> omega)
        rw [htr] at HTR
        clear htr HSZ0 hk0 HDS
        generalize p.d.t.size = TZ at *
        go_wp2_with (first
         | (with_reducible refine wpList_load_mid rfl 75 _ rfl b (o + i * 31) rfl pa _ HC.out Tryz.underlying75 rfl (by rw [HPL.out]; kernel_rfl) ?_)
         | (with_reducible refine wpList_run_alloc rfl 75 rfl ZDc (by kernel_rfl) ?_)
         | (with_reducible refine wpList_store_fresh rfl 75 _ _ rfl wr.heap.size rfl pa.toArray rfl rfl 75 _ (by rw [← HPZ.out]; kernel_rfl) (ZDc_size.trans HPZ.out) HPO.out HWB.out ?_))
        refine (HT.out _ HQ.out.2.2.2.2.2.1).mono ?_
        rintro e w4 ⟨rfl, hb4⟩
        have H4 := hid hb4
        have HW4 := hid ((hb4.block _ (Array.getElem?_eq_some_iff.1 HQ.out.2.2.2.2.2.2.2).1).trans HQ.out.2.2.2.2.2.2.2)
        clear hb4 g0 g5 m16 m17 m18 m19 m20
        go_wp2_with (with_reducible refine wpList_load_row rfl 75 _ rfl wr.heap.size rfl 75 pa.toArray (0, 0) _ HW4.out Tryz.underlying75 rfl (by rw [← HPZ.out]; kernel_rfl) ?_)
        refine (HTR.out _ (HQ.out.2.2.2.2.2.1.trans (H4.out.mono HQ.out.2.2.2.2.2.1.size))).mono ?_
        rintro e w5 ⟨rfl, hb5⟩
        have H5 := hid hb5
        clear hb5
        go_wp2_with fail
        go_roundw
        case rel => exact ⟨i + 1, r', d + p.d.size, by go_num, HQ.out.2.2.1, HQ.out.2.1, HQ.out.2.2.2.1, by rw [HSZ.out]; go_num, ⟨HQ.out.1⟩, HQ.out.2.2.2.2.1.trans ((H4.out.trans (H5.out.mono H4.out.size)).mono HQ.out.2.2.2.2.1.size)⟩
        case measure => simp [intOf]; omega
       | false =>
        have HSZ := hid (show p.d.size = 1 + p.d.P.length + p.d.t.size + (p.d.lo.size + p.d.up.size) by rw [HSZ0.out, htr]; simp <;> omega)
        have hbT2 : d + 1 + p.d.P.length + p.d.t.size + (p.d.lo.size + p.d.up.size) ≤ 1099511627776 := by have := HSZ.out; omega
        rw [htr] at HTR
        clear htr HSZ0 hk0 HDS
        generalize p.d.t.size = TZ at *
        go_wp2_with (first
         | (with_reducible refine wpList_load_mid rfl 75 _ rfl b (o + i * 31) rfl pa _ HC.out Tryz.underlying75 rfl (by rw [HPL.out]; kernel_rfl) ?_)
         | (with_reducible refine wpList_run_alloc rfl 75 rfl ZDc (by kernel_rfl) ?_)
         | (with_reducible refine wpList_store_fresh rfl 75 _ _ rfl wr.heap.size rfl pa.toArray rfl rfl 75 _ (by rw [← HPZ.out]; kernel_rfl) (ZDc_size.trans HPZ.out) HPO.out HWB.out ?_))
        refine (HT.out _ HQ.out.2.2.2.2.2.1).mono ?_
        rintro e w4 ⟨rfl, hb4⟩
        have H4 := hid hb4
        have HW4 := hid ((hb4.block _ (Array.getElem?_eq_some_iff.1 HQ.out.2.2.2.2.2.2.2).1).trans HQ.out.2.2.2.2.2.2.2)
        have HW4l := hid ((hb4.block _ (Array.getElem?_eq_some_iff.1 HQ.out.2.2.2.2.2.2.1).1).trans HQ.out.2.2.2.2.2.2.1)
        clear hb4 g0 g5 m16 m17 m18 m19 m20
        go_wp2_with (with_reducible refine wpList_load_row rfl 75 _ rfl wr.heap.size rfl 75 pa.toArray (0, 0) _ HW4.out Tryz.underlying75 rfl (by rw [← HPZ.out]; kernel_rfl) ?_)
        refine (HTR.out _ (HQ.out.2.2.2.2.2.1.trans (H4.out.mono HQ.out.2.2.2.2.2.1.size))).mono ?_
        rintro e w5 ⟨rfl, hb5⟩
        have H5 := hid hb5
        have heb5 := (hb5.block _ (Array.getElem?_eq_some_iff.1 HW4l.out).1).trans HW4l.out
        have hw5 := (HQ.out.2.2.2.2.2.1.trans (H4.out.mono HQ.out.2.2.2.2.2.1.size)).trans (hb5.mono (HQ.out.2.2.2.2.2.1.trans (H4.out.mono HQ.out.2.2.2.2.2.1.size)).size)
        have m6 := (show ∀ X : Later w5, X.now.cell? ⟨wr.heap.size, 6, none⟩ = some (.int .i64 p.lo.t.k) from fun X => cell_of_row X.now _ 6 _ _ _ ((X.since.block _ (Array.getElem?_eq_some_iff.1 heb5).1).trans heb5))
        have m7 := (show ∀ X : Later w5, X.now.cell? ⟨wr.heap.size, 7, none⟩ = some (.string p.lo.t.m) from fun X => cell_of_row X.now _ 7 _ _ _ ((X.since.block _ (Array.getElem?_eq_some_iff.1 heb5).1).trans heb5))
        have m8 := (show ∀ X : Later w5, X.now.cell? ⟨wr.heap.size, 8, none⟩ = some (.string p.lo.t.n) from fun X => cell_of_row X.now _ 8 _ _ _ ((X.since.block _ (Array.getElem?_eq_some_iff.1 heb5).1).trans heb5))
        have m9 := (show ∀ X : Later w5, X.now.cell? ⟨wr.heap.size, 9, none⟩ = some (.slice p.lo.aa p.lo.t.A.len p.lo.ca) from fun X => cell_of_row X.now _ 9 _ _ _ ((X.since.block _ (Array.getElem?_eq_some_iff.1 heb5).1).trans heb5))
        have m10 := (show ∀ X : Later w5, X.now.cell? ⟨wr.heap.size, 10, none⟩ = some (.slice p.lo.af p.lo.t.F.len p.lo.cf) from fun X => cell_of_row X.now _ 10 _ _ _ ((X.since.block _ (Array.getElem?_eq_some_iff.1 heb5).1).trans heb5))
        have m11 := (show ∀ X : Later w5, X.now.cell? ⟨wr.heap.size, 11, none⟩ = some (.int .i64 p.up.t.k) from fun X => cell_of_row X.now _ 11 _ _ _ ((X.since.block _ (Array.getElem?_eq_some_iff.1 heb5).1).trans heb5))
        have m12 := (show ∀ X : Later w5, X.now.cell? ⟨wr.heap.size, 12, none⟩ = some (.string p.up.t.m) from fun X => cell_of_row X.now _ 12 _ _ _ ((X.since.block _ (Array.getElem?_eq_some_iff.1 heb5).1).trans heb5))
        have m13 := (show ∀ X : Later w5, X.now.cell? ⟨wr.heap.size, 13, none⟩ = some (.string p.up.t.n) from fun X => cell_of_row X.now _ 13 _ _ _ ((X.since.block _ (Array.getElem?_eq_some_iff.1 heb5).1).trans heb5))
        have m14 := (show ∀ X : Later w5, X.now.cell? ⟨wr.heap.size, 14, none⟩ = some (.slice p.up.aa p.up.t.A.len p.up.ca) from fun X => cell_of_row X.now _ 14 _ _ _ ((X.since.block _ (Array.getElem?_eq_some_iff.1 heb5).1).trans heb5))
        have m15 := (show ∀ X : Later w5, X.now.cell? ⟨wr.heap.size, 15, none⟩ = some (.slice p.up.af p.up.t.F.len p.up.cf) from fun X => cell_of_row X.now _ 15 _ _ _ ((X.since.block _ (Array.getElem?_eq_some_iff.1 heb5).1).trans heb5))
        have HLL := hid (fun X : Later w5 => Calls.later_of (HLO.out X.now (hw5.trans (X.since.mono hw5.size))))
        have HUL := hid (fun X : Later w5 => Calls.later_of (HUP.out X.now (hw5.trans (X.since.mono hw5.size))))
        clear hb5 heb5 hw5
        generalize p.d.lo.size = LZ at *
        generalize p.d.up.size = UZ at *
        go_wp2_with fail
        refine wp_region_later (by kernel_rfl) (by kernel_rfl) ?_
        repeat (go_big_quiet_step (first | (go_at_call 16; first | (with_reducible exact HLL.out _) | (with_reducible exact HUL.out _))))
        refine wpQuiet_nil ?_
        intro _ hw'
        obtain ⟨X, hX⟩ := hw'
        subst hX
        go_wp2_with fail
        go_roundw
        case rel => exact ⟨i + 1, r', d + p.d.size, by go_num, HQ.out.2.2.1, HQ.out.2.1, HQ.out.2.2.2.1, by rw [HSZ.out]; go_num, ⟨HQ.out.1⟩, HQ.out.2.2.2.2.1.trans ((H4.out.trans ((H5.out.trans (X.since.mono H5.out.size)).mono H4.out.size)).mono HQ.out.2.2.2.2.1.size)⟩
        case measure => simp [intOf]; omega
     · have HSZ := hid (show p.d.size = 1 + p.d.P.length by rw [HDS.out, if_neg hk1, if_neg hk0]; omega)
       have q0 : (p.d.k == 0) = false := by rw [beq_eq_false_iff_ne]; exact hk0
       have q1 : (p.d.k == 1) = false := by rw [beq_eq_false_iff_ne]; exact hk1
       clear HDS hk0 hk1
       go_wp2_with (first
        | (with_reducible refine wpList_load_mid rfl 75 _ rfl b (o + i * 31) rfl pa _ HC.out Tryz.underlying75 rfl (by rw [HPL.out]; kernel_rfl) ?_)
        | (with_reducible refine wpList_run_alloc rfl 75 rfl ZDc (by kernel_rfl) ?_)
        | (with_reducible refine wpList_store_fresh rfl 75 _ _ rfl wr.heap.size rfl pa.toArray rfl rfl 75 _ (by rw [← HPZ.out]; kernel_rfl) (ZDc_size.trans HPZ.out) HPO.out HWB.out ?_))
       go_roundw
       case rel => exact ⟨i + 1, r', d + p.d.size, by go_num, HQ.out.2.2.1, HQ.out.2.1, HQ.out.2.2.2.1, by rw [HSZ.out]; go_num, ⟨HQ.out.1⟩, HQ.out.2.2.2.2.1⟩
       case measure => simp [intOf]; omega

end Go.Proofs.YtnkhebgjhipepaaGreatDoor
