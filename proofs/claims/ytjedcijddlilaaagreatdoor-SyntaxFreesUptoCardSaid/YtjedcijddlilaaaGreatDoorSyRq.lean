/- syntax, the reference: Parts. | syntax, the reference: TypeSize; slices.Contains. | syntax: fewTypes. -/
import Derived.Test.YtjedcijddlilaaaGreatDoorSyS5
import Derived.Laws.OwnMore
import Derived.Tactics
namespace Go.Proofs.YtjedcijddlilaaaGreatDoor
open Go.RowKit Go.Shelf
attribute [local go_sem] Oper.semAt_some

theorem run_append_owned_none' {P : Program} {w : World} (base : Nat) (t ty e : TypeId) (i : TypeInfo) (size : Nat) (ht : P.underlying t = some (.slice e)) (hi : P.info? e = some i)
    (v : Value) (n c : Nat) (xs : List Value) (hown : w.ownsRow base e size v n xs) :
    (Builtin.append_ #[t, t] ty #[v, .slice none 0 c]).run P w = .ok v w := by
  rcases hown.2 with ⟨rfl, rfl⟩ | ⟨g, cap, cur, rfl, _, _, hnc, _⟩
  · simp [Builtin.append_, run_underlying ht, sizeOf, typeInfo, hi, Builtin.lenOf, Builtin.firstCells]
  · simp [Builtin.append_, run_underlying ht, sizeOf, typeInfo, hi, Builtin.lenOf, Builtin.firstCells, hnc, storeCells]
theorem wpList_append_own_none' {P : Program} {w : World} {ops : Array Oper} {rest : List Oper} {o : Oper} {a : Act} {Q : Exit → Act → World → Prop} (hgd : o.guard = none) (s x : Operand) (t : TypeId)
    (ho : o.op = .call { callee := .builtin .append, args := #[s, x], argTypes := #[t, t] })
    (base : Nat) (e : TypeId) (i : TypeInfo) (size : Nat) (ht : P.underlying t = some (.slice e)) (hi : P.info? e = some i)
    (v : Value) (n c : Nat) (xs : List Value) (hs : a.eval s = v) (hown : w.ownsRow base e size v n xs) (hx : a.eval x = .slice none 0 c)
    (h : wpList P ops Q rest (a.put o.dst v) w) : wpList P ops Q (o :: rest) a w := by
  refine wpList_plain hgd fun K hK => ?_
  have hrun := run_append_owned_none' (P := P) (w := w) base t o.type e i size ht hi v n c xs hown
  unfold Oper.wp
  simp [execOp, ho, resolve, invoke, builtin, hs, hx, hrun, Result.andThen]
  exact hK _ _ h
/-- A row of types as values. -/
theorem lies_row {w : World} : ∀ (T : Tr) (b o : Nat), Lies w T false b o → ∃ rs : List (TyI w), rs.map (·.t) = T.els ∧
    ∀ j u, (rs.flatMap fun y => y.cells.toList)[j]? = some u → w.cell? ((⟨b, o, none⟩ : Addr).add j) = some u := by
  intro T
  induction T with
  | nil => intro b o _; exact ⟨[], rfl, fun j u h => by simp at h⟩
  | node fn op k m n A F nx ha hf hn =>
    intro b o h
    obtain ⟨h0, ⟨h1, h1w⟩, h2, h3, ⟨a, c, h4, h5⟩, ⟨a', c', h6, h7⟩, h8⟩ := h
    obtain ⟨rs, hr, hc⟩ := hn b (o + 5) h8
    refine ⟨⟨⟨k, m, n, A, F⟩, a, c, a', c', h1w, h5, h7⟩ :: rs, by rw [List.map_cons, hr]; rfl, fun j u hu => ?_⟩
    rw [List.flatMap_cons] at hu
    have ha : ∀ i, (⟨b, o, none⟩ : Addr).add i = ⟨b, o + i, none⟩ := fun i => by unfold Addr.add; simp
    rw [ha]
    match j, hu with
    | 0, hu => cases hu; simpa using h1
    | 1, hu => cases hu; simpa using h2
    | 2, hu => cases hu; simpa using h3
    | 3, hu => cases hu; simpa using h4
    | 4, hu => cases hu; simpa using h6
    | j + 5, hu =>
      rw [List.getElem?_append_right (by simp [TyI.cells])] at hu
      have h9 := hc j u (by simpa [TyI.cells] using hu)
      have ha' : (⟨b, o + 5, none⟩ : Addr).add j = ⟨b, o + 5 + j, none⟩ := by unfold Addr.add; simp
      rw [ha'] at h9
      rw [show o + (j + 5) = o + 5 + j by omega]
      exact h9
theorem one_cells {w : World} (rs : List (TyI w)) : ∀ u ∈ rs.flatMap (fun y => y.cells.toList), u.oneCell' = true := by
  intro u hu
  obtain ⟨y, _, hu⟩ := List.mem_flatMap.1 hu
  simp only [TyI.cells, List.mem_cons, List.not_mem_nil, or_false] at hu
  rcases hu with rfl | rfl | rfl | rfl | rfl <;> rfl
theorem len_cells {w : World} (rs : List (TyI w)) : (rs.flatMap (fun y => y.cells.toList)).length = rs.length * 5 := by
  induction rs with
  | nil => rfl
  | cons y rs ih => rw [List.flatMap_cons, List.length_append, ih]; simp [TyI.cells]; omega

theorem own_slice {w : World} {base : Nat} {e : TypeId} {size : Nat} {v : Value} {n : Nat} {xs : List Value} (h : w.ownsRow base e size v n xs) : ∃ p c, v = .slice p n c := by
  rcases h.2 with ⟨rfl, rfl⟩ | ⟨g, cap, cur, rfl, _⟩
  · exact ⟨none, 0, rfl⟩
  · exact ⟨_, _, rfl⟩
theorem own_mono {w : World} {base base' : Nat} {e : TypeId} {size : Nat} {v : Value} {n : Nat} {xs : List Value} (h : w.ownsRow base e size v n xs) (hb : base' ≤ base) : w.ownsRow base' e size v n xs :=
  ⟨h.1, h.2.elim .inl fun ⟨g, cap, cur, hv, hb2, rest⟩ => .inr ⟨g, cap, cur, hv, Nat.le_trans hb hb2, rest⟩⟩
set_option maxRecDepth 100000 in
set_option maxHeartbeats 8000000 in
theorem rparts_any (w0 : World) (x : TyI w0) (W : World) (hW : Below w0.heap.size w0 W) (hsz : x.t.size ≤ 1099511627776) :
    Calls Tryz.prog 67 #[.agg #[.int .i64 x.t.k, .string x.t.m, .string x.t.n, .slice x.aa x.t.A.len x.ca, .slice x.af x.t.F.len x.cf]] W
      fun e W' => ∃ (v : Value) (rs : List (TyI w0)), e = .returned v ∧ rs.map (·.t) = x.t.parts ∧ W'.ownsRow W.heap.size 25 5 v rs.length (rs.flatMap fun y => y.cells.toList) ∧ Below W.heap.size W W' := by
  obtain ⟨i0, hi, hz0, hz1, hz2⟩ := info_parts infoTy
  obtain ⟨wa, hwa⟩ : ∃ wa, W.alloc (.cells #[.int .i64 x.t.k, .string x.t.m, .string x.t.n, .slice x.aa x.t.A.len x.ca, .slice x.af x.t.F.len x.cf] 25) = wa := ⟨_, rfl⟩
  have hba : Below W.heap.size W wa := by rw [← hwa]; exact (Below.refl _ W).alloc (Nat.le_refl _) _
  have hea : wa.heap[W.heap.size]? = some (.cells #[.int .i64 x.t.k, .string x.t.m, .string x.t.n, .slice x.aa x.t.A.len x.ca, .slice x.af x.t.F.len x.cf] 25 (0, 0)) := by rw [← hwa]; exact World.alloc_heap_new _ _
  have hlF : x.t.F.len ≤ x.t.F.size := Tr.len_le x.t.F
  have hlA : x.t.A.len ≤ x.t.A.size := Tr.len_le x.t.A
  have hxs : x.t.size = 1 + x.t.A.size + x.t.F.size := rfl
  have hsa : wa.heap.size = W.heap.size + 1 := by rw [← hwa]; simp
  obtain ⟨wc, hwc⟩ : ∃ wc, wa.alloc (.cells #[] 25) = wc := ⟨_, rfl⟩
  have hbc : Below wa.heap.size wa wc := by rw [← hwc]; exact (Below.refl _ wa).alloc (Nat.le_refl _) _
  have hoc : wc.ownsRow (W.heap.size + 1) 25 5 (.slice (some ⟨W.heap.size + 1, 0, none⟩) 0 0) 0 [] := by rw [← hwc, ← hsa]; exact World.ownsRow_made wa #[] 0 (by omega) (by unfold maxLen; omega) rfl
  have hec := (hbc.block _ (by omega)).trans hea
  have k3 := cell_of_row wc _ 3 _ _ _ hec
  have k4 := cell_of_row wc _ 4 _ _ _ hec
  have hBc : Below (W.heap.size + 1) wa wc := by rw [← hsa]; exact hbc
  have HB := hid (And.intro hba (And.intro hea (And.intro hW (And.intro hoc hBc))))
  have hsc := hbc.size
  clear hba hea hW hoc hBc hbc hec
  obtain ⟨rsA, hrA, hnews⟩ : ∃ rs : List (TyI w0), rs.map (·.t) = x.t.A.els ∧ (x.t.A = .nil ∧ rs = [] ∨ ∃ b o, x.aa = some ⟨b, o, none⟩ ∧ ∀ j u, (rs.flatMap fun y => y.cells.toList)[j]? = some u → w0.cell? ((⟨b, o, none⟩ : Addr).add j) = some u) := by
    rcases x.ha with h | ⟨b, o, h, hl⟩
    · exact ⟨[], by rw [h]; rfl, .inl ⟨h, rfl⟩⟩
    · obtain ⟨rs, h1, h2⟩ := lies_row x.t.A b o hl
      exact ⟨rs, h1, .inr ⟨b, o, h, h2⟩⟩
  have hlr : rsA.length = x.t.A.len := by rw [← Tr.els_len, ← hrA, List.length_map]
  have hrA := hid hrA
  have hnn := hid hnews
  clear hnews
  cases haa : x.aa with
  | none =>
    have hA0 : x.t.A = .nil ∧ rsA = [] := by
      rcases hnn.out with h | ⟨b, o, h, _⟩
      · exact h
      · rw [haa] at h; cases h
    have hl0 : x.t.A.len = 0 := by rw [hA0.1]; rfl
    have hB1 : wc.ownsRow (W.heap.size + 1) 25 5 (.slice (some ⟨W.heap.size + 1, 0, none⟩) rsA.length 0) rsA.length (rsA.flatMap fun y => y.cells.toList) := by rw [hA0.2]; exact HB.out.2.2.2.1
    have hB2 := HB.out.2.2.2.2
    have HA0 := hid hA0.2
    have HO0 := hid HB.out.2.2.2.1
    have HCN := hid (show (Value.slice x.aa x.t.A.len x.ca) = .slice none 0 x.ca by rw [haa, hl0])
    clear hA0 hl0
    rw [← haa]
    clear haa
    go_enter Tryz.func67, Tryz.ntmps67
    go_wp2_with (at_builtin; refine wpList_append_own_none' rfl _ _ 22 rfl (W.heap.size + 1) 25 i0 5 Tryz.underlying22 hi _ _ x.ca _ rfl HO0.out HCN.out ?_; have HB1 := hid (And.intro hB1 hB2); have k44 := cell_of_row wc _ 4 _ _ _ ((hB2.block _ (Nat.lt_succ_self _)).trans HB.out.2.1); clear hB1 hB2 k3 k4 hwa hwc)
    go_loopw [3, 4] (fun q a wr => ∃ (rs : List (TyI w0)) (i : Nat) (p : Option Addr) (c : Nat), a = .int .i64 (i : Int) ∧ i ≤ x.t.F.len ∧ q = .slice p rs.length c ∧ rs.map (·.t) = x.t.A.els ++ x.t.F.els.take i ∧ wr.ownsRow (W.heap.size + 1) 25 5 (.slice p rs.length c) rs.length (rs.flatMap fun y => y.cells.toList) ∧ Below (W.heap.size + 1) wa wr) (fun _ a _ => x.t.F.len - (intOf a).toNat)
    case atStart => exact ⟨rsA, 0, (some ⟨W.heap.size + 1, 0, none⟩), 0, rfl, Nat.zero_le _, (by first | rfl | (rw [HA0.out]; rfl)), by rw [List.take_zero, List.append_nil]; exact hrA.out, HB1.out.1, HB1.out.2⟩
    case round =>
      obtain ⟨rs, i, p, c, rfl, hi9, rfl, hrs, hown, hB⟩ := hrel
      have hwrs := hB.size
      have hr0 := (hB.block _ (Nat.lt_succ_self _)).trans HB.out.2.1
      have hln : rs.length = x.t.A.len + i := by
        have h := congrArg List.length hrs
        rw [List.length_map, List.length_append, List.length_take, Tr.els_len, Tr.els_len] at h
        omega
      have k4 := cell_of_row wr _ 4 _ _ _ hr0
      have HN := hid (And.intro hrs (And.intro hown (And.intro hB hln)))
      clear hrs hown hB hr0
      by_cases hlt : i < x.t.F.len
      · obtain ⟨bf, of, haf, hL⟩ : ∃ b o, x.af = some ⟨b, o, none⟩ ∧ Lies w0 x.t.F true b o := by
          rcases x.hf with h | h
          · rw [h] at hlt; exact absurd hlt (Nat.not_lt_zero _)
          · exact h
        obtain ⟨fn, op, y, hy, d0, d1, d2, d3, d4, d5, d6⟩ := lies_fd x.t.F bf of i hL hlt
        have hWr := HB.out.2.2.1.trans ((HB.out.1.trans (HN.out.2.2.1.mono (Nat.le_succ _))).mono HB.out.2.2.1.size)
        have d1 := old_cell hWr d1
        have d2 := old_cell hWr d2
        have d3 := old_cell hWr d3
        have d4 := old_cell hWr d4
        have d5 := old_cell hWr d5
        have hsn : (rs ++ [y]).map (·.t) = x.t.A.els ++ x.t.F.els.take (i + 1) := by rw [List.map_append, HN.out.1, take_snoc hy, List.append_assoc]; rfl
        have HY := hid hsn
        have hl2 : rs.length + 1 ≤ 1099511627776 := by omega
        clear hsn hy hL hWr d0 d6
        rw [haf] at k4
        obtain ⟨wb, hwb⟩ : ∃ wb, wr.alloc (.cells #[.int .i64 y.t.k, .string y.t.m, .string y.t.n, .slice y.aa y.t.A.len y.ca, .slice y.af y.t.F.len y.cf] 25) = wb := ⟨_, rfl⟩
        have hbb : Below wr.heap.size wr wb := by rw [← hwb]; exact (Below.refl _ wr).alloc (Nat.le_refl _) _
        have heb : wb.heap[wr.heap.size]? = some (.cells #[.int .i64 y.t.k, .string y.t.m, .string y.t.n, .slice y.aa y.t.A.len y.ca, .slice y.af y.t.F.len y.cf] 25 (0, 0)) := by rw [← hwb]; exact World.alloc_heap_new _ _
        have hsb := hbb.size
        have HO := hid (And.intro (own_belowS HN.out.2.1 hbb) (And.intro (World.news_of_block heb) (HN.out.2.2.1.trans (hbb.mono (by omega)))))
        clear hbb heb
        obtain ⟨nr, hnr⟩ : ∃ nr, rs.length = nr := ⟨_, rfl⟩
        rw [hnr] at HO hl2 ⊢
        have HNR := hid hnr
        clear hnr hln
        go_wp2_with (at_builtin; refine wpList_append_own _ rfl _ _ 22 rfl (W.heap.size + 1) 25 i0 _ 5 88 Tryz.underlying22 hi hz0 hz1 hz2 rfl (by decide) _ _ _ rfl HO.out.1 ⟨wr.heap.size, 0, none⟩ 1 1 [.int .i64 y.t.k, .string y.t.m, .string y.t.n, .slice y.aa y.t.A.len y.ca, .slice y.af y.t.F.len y.cf] rfl rfl HO.out.2.1 (by simp [Value.oneCell']) (by unfold maxLen; omega) (by omega) (by omega) ?_; intro v' w3 hown3 hgrow3 _; obtain ⟨g', cap', rfl⟩ := ownsRow_succ hown3; have hgrow4 : World.grownBy _ w3 (Value.ownBlock (.slice p nr c)) := hgrow3; have K3 := hid (And.intro hown3 hgrow4); clear hown3 hgrow3 hgrow4)
        go_roundw
        case rel => exact ⟨rs ++ [y], i + 1, by go_num, by omega, some ⟨g', 0, none⟩, cap', ⟨rfl, by rw [List.length_append, HNR.out]; rfl, rfl⟩, HY.out, by rw [List.length_append, HNR.out, List.flatMap_append]; exact K3.out.1, Below.grown HO.out.2.2 K3.out.2 (by omega) (own_base HO.out.1)⟩
        case measure => simp [intOf]; omega
      · obtain rfl : i = x.t.F.len := by omega
        go_wp2_with fail
        go_ret
        refine ⟨_, rs, rfl, ?_, own_mono HN.out.2.1 (Nat.le_succ _), HB.out.1.trans (HN.out.2.2.1.mono (Nat.le_succ _))⟩
        rw [HN.out.1, List.take_of_length_le (by rw [Tr.els_len]; exact Nat.le_refl _)]
        rfl
  | some ad =>
    have hnw : ∀ j u, (rsA.flatMap fun y => y.cells.toList)[j]? = some u → w0.cell? (ad.add j) = some u := by
      rcases hnn.out with ⟨_, h⟩ | ⟨b, o, h, hc⟩
      · rw [h]; intro j u hu; simp at hu
      · rw [haa] at h; cases h; exact hc
    have hnw2 : ∀ j u, (rsA.flatMap fun y => y.cells.toList)[j]? = some u → wc.cell? (ad.add j) = some u := fun j u hu =>
      old_cell (HB.out.2.2.1.trans ((HB.out.1.trans (HB.out.2.2.2.2.mono (Nat.le_succ _))).mono HB.out.2.2.1.size)) (hnw j u hu)
    have hl5 : (rsA.flatMap fun y => y.cells.toList).length = x.t.A.len * 5 := by rw [len_cells, hlr]
    have HO0 := hid HB.out.2.2.2.1
    have HCN := hid (show (Value.slice x.aa x.t.A.len x.ca) = .slice (some ad) x.t.A.len x.ca by rw [haa])
    have HNW := hid (And.intro hnw2 hl5)
    have HLR := hid hlr
    clear hnw hnw2 hl5 hlr
    rw [← haa]
    clear haa
    go_enter Tryz.func67, Tryz.ntmps67
    go_wp2_with (at_builtin; refine wpList_append_own _ rfl _ _ 22 rfl (W.heap.size + 1) 25 i0 _ 5 88 Tryz.underlying22 hi hz0 hz1 hz2 rfl (by decide) _ _ _ rfl HO0.out ad x.t.A.len x.ca (rsA.flatMap fun y => y.cells.toList) HCN.out HNW.out.2 HNW.out.1 (one_cells rsA) (by unfold maxLen; omega) (by omega) (by omega) ?_; intro v' w1 hown1 hgrow1 _; rw [Nat.zero_add, List.nil_append, ← HLR.out] at hown1; obtain ⟨p1, c1, rfl⟩ := own_slice hown1; have hgr : World.grownBy wc w1 (some (W.heap.size + 1)) := hgrow1; have hB2 : Below (W.heap.size + 1) wa w1 := Below.grown HB.out.2.2.2.2 hgr (by omega) (fun k hk => by cases hk; exact Nat.le_refl _); have HB1 := hid (And.intro hown1 hB2); have k44 := cell_of_row w1 _ 4 _ _ _ ((hB2.block _ (Nat.lt_succ_self _)).trans HB.out.2.1); clear hown1 hgrow1 hgr hB2 k3 k4 hwa hwc)
    go_loopw [3, 4] (fun q a wr => ∃ (rs : List (TyI w0)) (i : Nat) (p : Option Addr) (c : Nat), a = .int .i64 (i : Int) ∧ i ≤ x.t.F.len ∧ q = .slice p rs.length c ∧ rs.map (·.t) = x.t.A.els ++ x.t.F.els.take i ∧ wr.ownsRow (W.heap.size + 1) 25 5 (.slice p rs.length c) rs.length (rs.flatMap fun y => y.cells.toList) ∧ Below (W.heap.size + 1) wa wr) (fun _ a _ => x.t.F.len - (intOf a).toNat)
    case atStart => exact ⟨rsA, 0, p1, c1, rfl, Nat.zero_le _, (by first | rfl | (rw [HA0.out]; rfl)), by rw [List.take_zero, List.append_nil]; exact hrA.out, HB1.out.1, HB1.out.2⟩
    case round =>
      obtain ⟨rs, i, p, c, rfl, hi9, rfl, hrs, hown, hB⟩ := hrel
      have hwrs := hB.size
      have hr0 := (hB.block _ (Nat.lt_succ_self _)).trans HB.out.2.1
      have hln : rs.length = x.t.A.len + i := by
        have h := congrArg List.length hrs
        rw [List.length_map, List.length_append, List.length_take, Tr.els_len, Tr.els_len] at h
        omega
      have k4 := cell_of_row wr _ 4 _ _ _ hr0
      have HN := hid (And.intro hrs (And.intro hown (And.intro hB hln)))
      clear hrs hown hB hr0
      by_cases hlt : i < x.t.F.len
      · obtain ⟨bf, of, haf, hL⟩ : ∃ b o, x.af = some ⟨b, o, none⟩ ∧ Lies w0 x.t.F true b o := by
          rcases x.hf with h | h
          · rw [h] at hlt; exact absurd hlt (Nat.not_lt_zero _)
          · exact h
        obtain ⟨fn, op, y, hy, d0, d1, d2, d3, d4, d5, d6⟩ := lies_fd x.t.F bf of i hL hlt
        have hWr := HB.out.2.2.1.trans ((HB.out.1.trans (HN.out.2.2.1.mono (Nat.le_succ _))).mono HB.out.2.2.1.size)
        have d1 := old_cell hWr d1
        have d2 := old_cell hWr d2
        have d3 := old_cell hWr d3
        have d4 := old_cell hWr d4
        have d5 := old_cell hWr d5
        have hsn : (rs ++ [y]).map (·.t) = x.t.A.els ++ x.t.F.els.take (i + 1) := by rw [List.map_append, HN.out.1, take_snoc hy, List.append_assoc]; rfl
        have HY := hid hsn
        have hl2 : rs.length + 1 ≤ 1099511627776 := by omega
        clear hsn hy hL hWr d0 d6
        rw [haf] at k4
        obtain ⟨wb, hwb⟩ : ∃ wb, wr.alloc (.cells #[.int .i64 y.t.k, .string y.t.m, .string y.t.n, .slice y.aa y.t.A.len y.ca, .slice y.af y.t.F.len y.cf] 25) = wb := ⟨_, rfl⟩
        have hbb : Below wr.heap.size wr wb := by rw [← hwb]; exact (Below.refl _ wr).alloc (Nat.le_refl _) _
        have heb : wb.heap[wr.heap.size]? = some (.cells #[.int .i64 y.t.k, .string y.t.m, .string y.t.n, .slice y.aa y.t.A.len y.ca, .slice y.af y.t.F.len y.cf] 25 (0, 0)) := by rw [← hwb]; exact World.alloc_heap_new _ _
        have hsb := hbb.size
        have HO := hid (And.intro (own_belowS HN.out.2.1 hbb) (And.intro (World.news_of_block heb) (HN.out.2.2.1.trans (hbb.mono (by omega)))))
        clear hbb heb
        obtain ⟨nr, hnr⟩ : ∃ nr, rs.length = nr := ⟨_, rfl⟩
        rw [hnr] at HO hl2 ⊢
        have HNR := hid hnr
        clear hnr hln
        go_wp2_with (at_builtin; refine wpList_append_own _ rfl _ _ 22 rfl (W.heap.size + 1) 25 i0 _ 5 88 Tryz.underlying22 hi hz0 hz1 hz2 rfl (by decide) _ _ _ rfl HO.out.1 ⟨wr.heap.size, 0, none⟩ 1 1 [.int .i64 y.t.k, .string y.t.m, .string y.t.n, .slice y.aa y.t.A.len y.ca, .slice y.af y.t.F.len y.cf] rfl rfl HO.out.2.1 (by simp [Value.oneCell']) (by unfold maxLen; omega) (by omega) (by omega) ?_; intro v' w3 hown3 hgrow3 _; obtain ⟨g', cap', rfl⟩ := ownsRow_succ hown3; have hgrow4 : World.grownBy _ w3 (Value.ownBlock (.slice p nr c)) := hgrow3; have K3 := hid (And.intro hown3 hgrow4); clear hown3 hgrow3 hgrow4)
        go_roundw
        case rel => exact ⟨rs ++ [y], i + 1, by go_num, by omega, some ⟨g', 0, none⟩, cap', ⟨rfl, by rw [List.length_append, HNR.out]; rfl, rfl⟩, HY.out, by rw [List.length_append, HNR.out, List.flatMap_append]; exact K3.out.1, Below.grown HO.out.2.2 K3.out.2 (by omega) (own_base HO.out.1)⟩
        case measure => simp [intOf]; omega
      · obtain rfl : i = x.t.F.len := by omega
        go_wp2_with fail
        go_ret
        refine ⟨_, rs, rfl, ?_, own_mono HN.out.2.1 (Nat.le_succ _), HB.out.1.trans (HN.out.2.2.1.mono (Nat.le_succ _))⟩
        rw [HN.out.1, List.take_of_length_le (by rw [Tr.els_len]; exact Nat.le_refl _)]
        rfl
end Go.Proofs.YtjedcijddlilaaaGreatDoor

namespace Go.Proofs.YtjedcijddlilaaaGreatDoor
open Go.RowKit Go.Shelf
attribute [local go_sem] Oper.semAt_some

def psum (l : List Ty) (i : Nat) : Nat := 1 + ((l.take i).map Ty.size).sum
theorem psum_succ {l : List Ty} {i : Nat} {y : Ty} (h : l[i]? = some y) : psum l (i + 1) = psum l i + y.size := by
  unfold psum
  rw [List.take_add_one, h]
  simp [List.sum_append]; omega
theorem psum_le (l : List Ty) (i : Nat) : psum l i ≤ psum l l.length := by
  unfold psum
  have h : (l.map Ty.size).sum = ((l.take i).map Ty.size).sum + ((l.drop i).map Ty.size).sum := by rw [← List.sum_append, ← List.map_append, List.take_append_drop]
  rw [List.take_length, h]
  omega
def RsT (w0 : World) (s : Nat) : Prop := ∀ x : TyI w0, x.t.size ≤ s → ∀ W, Below w0.heap.size w0 W → Calls Tryz.prog 39 #[.agg #[.int .i64 x.t.k, .string x.t.m, .string x.t.n, .slice x.aa x.t.A.len x.ca, .slice x.af x.t.F.len x.cf]] W
  fun e W' => e = .returned (.int .i64 (x.t.size : Int)) ∧ Below W.heap.size W W'
set_option maxRecDepth 100000 in
set_option maxHeartbeats 4000000 in
theorem rs_step (w0 : World) (s : Nat) (hs : s + 1 ≤ 1099511627776) (ih : RsT w0 s) : RsT w0 (s + 1) := by
  intro x hx W hW
  have HI := hid ih
  clear ih
  obtain ⟨wa, hwa⟩ : ∃ wa, W.alloc (.cells #[.int .i64 x.t.k, .string x.t.m, .string x.t.n, .slice x.aa x.t.A.len x.ca, .slice x.af x.t.F.len x.cf] 25) = wa := ⟨_, rfl⟩
  have hba : Below W.heap.size W wa := by rw [← hwa]; exact (Below.refl _ W).alloc (Nat.le_refl _) _
  have hea : wa.heap[W.heap.size]? = some (.cells #[.int .i64 x.t.k, .string x.t.m, .string x.t.n, .slice x.aa x.t.A.len x.ca, .slice x.af x.t.F.len x.cf] 25 (0, 0)) := by rw [← hwa]; exact World.alloc_heap_new _ _
  have k0 := cell_of_row wa _ 0 _ _ _ hea
  have k1 := cell_of_row wa _ 1 _ _ _ hea
  have k2 := cell_of_row wa _ 2 _ _ _ hea
  have k3 := cell_of_row wa _ 3 _ _ _ hea
  have k4 := cell_of_row wa _ 4 _ _ _ hea
  have HP := hid (rparts_any w0 x wa (hW.trans (hba.mono hW.size)) (by omega))
  have HB := hid (And.intro hba hW)
  clear hba hea hW
  go_enter Tryz.func39, Tryz.ntmps39
  go_wp2_with fail
  refine HP.out.mono ?_
  rintro e w1 ⟨v, rs, rfl, hrs, hrow, hb1⟩
  obtain ⟨p, c, rfl⟩ := own_slice hrow
  clear k0 k1 k2 k3 k4 hwa
  have hln : rs.length = x.t.parts.length := by rw [← hrs, List.length_map]
  have hpz : psum x.t.parts x.t.parts.length = x.t.size := by unfold psum; rw [List.take_length, ← Ty.size_parts]
  have hpl : x.t.parts.length < x.t.size := by
    have h : ∀ l : List Ty, l.length ≤ (l.map Ty.size).sum := fun l => by
      induction l with
      | nil => exact Nat.le_refl _
      | cons a l ih => simp only [List.length_cons, List.map_cons, List.sum_cons, Ty.size]; omega
    rw [Ty.size_parts]
    have := h x.t.parts
    omega
  obtain ⟨L, hL⟩ : ∃ L, rs.length = L := ⟨_, rfl⟩
  rw [hL] at hrow ⊢
  have hLs : L < x.t.size := by omega
  have H1 := hid (And.intro hrs (And.intro hrow (And.intro hb1 (And.intro hL (And.intro (hln.symm.trans hL) hpz)))))
  clear hrs hrow hb1 hln hpz hpl hL
  go_wp2_with fail
  go_loopw [3, 5] (fun q a wr => ∃ (i : Nat), a = .int .i64 (i : Int) ∧ i ≤ L ∧ q = .int .i64 (psum x.t.parts i : Int) ∧ Below w1.heap.size w1 wr) (fun _ a _ => L - (intOf a).toNat)
  case atStart => exact ⟨0, rfl, Nat.zero_le _, rfl, Below.refl _ _⟩
  case round =>
    obtain ⟨i, rfl, hi, rfl, hB⟩ := hrel
    have HN := hid hB
    by_cases hlt : i < L
    · obtain ⟨g, cap, hv, _, _⟩ := H1.out.2.1.form (by omega)
      cases hv
      obtain ⟨y, hy⟩ : ∃ y, rs[i]? = some y := ⟨_, List.getElem?_eq_getElem (by rw [H1.out.2.2.2.1]; exact hlt)⟩
      have hc : ∀ j u, y.cells.toList[j]? = some u → j < 5 → wr.cell? ⟨g, i * 5 + j, none⟩ = some u := fun j u hu hj => by
        refine old_cell hB ?_
        rw [H1.out.2.1.cellAt (i * 5 + j) (by omega)]
        exact flat_at (fun y : TyI w0 => y.cells.toList) 5 (fun _ => rfl) rs i j y u hy hu
      have d0 := hc 0 _ rfl (by omega)
      have d1 := hc 1 _ rfl (by omega)
      have d2 := hc 2 _ rfl (by omega)
      have d3 := hc 3 _ rfl (by omega)
      have d4 := hc 4 _ rfl (by omega)
      have hyp : x.t.parts[i]? = some y.t := by rw [← H1.out.1, List.getElem?_map, hy]; rfl
      have hys : y.t.size < x.t.size := Ty.part_size (List.mem_of_getElem? hyp)
      have hps := psum_succ hyp
      have hpl := psum_le x.t.parts (i + 1)
      rw [H1.out.2.2.2.2.2] at hpl
      have hcall := HI.out y (by omega) wr (HB.out.2.trans ((HB.out.1.trans ((H1.out.2.2.1.trans (HN.out.mono H1.out.2.2.1.size)).mono HB.out.1.size)).mono HB.out.2.size))
      have HC := hid (And.intro hps hcall)
      have hb1 : psum x.t.parts i + y.t.size ≤ 1099511627776 := by omega
      clear hc hy hyp hcall hps hpl hB
      generalize psum x.t.parts i = S at HC hb1 ⊢
      obtain ⟨sz, hsz⟩ : ∃ sz, y.t.size = sz := ⟨_, rfl⟩
      rw [hsz] at HC hb1 hys
      clear hsz
      simp only [Nat.add_zero] at d0
      go_wp2_with fail
      refine HC.out.2.mono ?_
      rintro e w4 ⟨rfl, hb4⟩
      have H4 := hid hb4
      clear hb4
      go_wp2_with fail
      go_roundw
      case rel => exact ⟨i + 1, by go_num, by omega, by rw [HC.out.1]; go_num, HN.out.trans (H4.out.mono HN.out.size)⟩
      case measure => simp [intOf]; omega
    · obtain rfl : i = L := by omega
      clear hB
      have hz : psum x.t.parts i = x.t.size := by rw [← H1.out.2.2.2.2.1]; exact H1.out.2.2.2.2.2
      have HZ := hid hz
      clear hz
      generalize psum x.t.parts i = S at HZ ⊢
      go_wp2_with fail
      go_ret
      exact ⟨by rw [HZ.out] <;> rfl, HB.out.1.trans ((H1.out.2.2.1.trans (HN.out.mono H1.out.2.2.1.size)).mono HB.out.1.size)⟩
theorem rs_all (w0 : World) : ∀ s : Nat, s ≤ 1099511627776 → RsT w0 s := by
  intro s
  induction s with
  | zero => intro _ x hx; exact absurd hx (by unfold Ty.size; omega)
  | succ s ih => intro hs; exact rs_step w0 s hs (ih (by omega))
end Go.Proofs.YtjedcijddlilaaaGreatDoor

namespace Go.Proofs.YtjedcijddlilaaaGreatDoor
open Go.RowKit Go.Shelf
attribute [local go_sem] Oper.semAt_some

def ssum (l : List Ty) (i : Nat) : Nat := ((l.take i).map Ty.size).sum
theorem ssum_succ {l : List Ty} {i : Nat} {y : Ty} (h : l[i]? = some y) : ssum l (i + 1) = ssum l i + y.size := by
  unfold ssum
  rw [List.take_add_one, h]
  simp [List.sum_append]
theorem ssum_le (l : List Ty) (i : Nat) : ssum l i ≤ (l.map Ty.size).sum := by
  unfold ssum
  have h : (l.map Ty.size).sum = ((l.take i).map Ty.size).sum + ((l.drop i).map Ty.size).sum := by rw [← List.sum_append, ← List.map_append, List.take_append_drop]
  omega
theorem size_le_sum {l : List Ty} {y : Ty} (h : y ∈ l) : y.size ≤ (l.map Ty.size).sum := by
  induction l with
  | nil => cases h
  | cons a l ih =>
    simp only [List.map_cons, List.sum_cons]
    rcases List.mem_cons.1 h with rfl | h
    · omega
    · have := ih h; omega
set_option maxRecDepth 100000 in
set_option maxHeartbeats 4000000 in
theorem fewT_any (w0 : World) (rs : List (TyI w0)) (g c : Nat) (most : Int) (W : World) (hW : Below w0.heap.size w0 W) (hrow : ∀ i y j u, rs[i]? = some y → y.cells.toList[j]? = some u → W.cell? ⟨g, i * 5 + j, none⟩ = some u)
    (hsum : ((rs.map (·.t)).map Ty.size).sum ≤ 1099511627776) (hlen : rs.length ≤ 1099511627776) :
    Calls Tryz.prog 7 #[.int .i64 most, .slice (some ⟨g, 0, none⟩) rs.length c] W fun e W' => e = .returned (.bool (decide ((((rs.map (·.t)).map Ty.size).sum : Nat) ≤ most))) ∧ Below W.heap.size W W' := by
  obtain ⟨L, hL⟩ : ∃ L, rs.length = L := ⟨_, rfl⟩
  rw [hL] at hlen ⊢
  obtain ⟨T, hT⟩ : ∃ T, ((rs.map (·.t)).map Ty.size).sum = T := ⟨_, rfl⟩
  rw [hT] at hsum ⊢
  have H1 := hid (And.intro hrow (And.intro hL (And.intro hT hW)))
  clear hrow hL hT hW
  go_enter Tryz.func7, Tryz.ntmps7
  go_wp2_with fail
  go_loopw [5, 10] (fun q a wr => ∃ (i : Nat), a = .int .i64 (i : Int) ∧ i ≤ L ∧ q = .int .i64 (ssum (rs.map (·.t)) i : Int) ∧ Below W.heap.size W wr) (fun _ a _ => L - (intOf a).toNat)
  case atStart => exact ⟨0, rfl, Nat.zero_le _, rfl, Below.refl _ _⟩
  case round =>
    obtain ⟨i, rfl, hi, rfl, hB⟩ := hrel
    have HN := hid hB
    by_cases hlt : i < L
    · obtain ⟨y, hy⟩ : ∃ y, rs[i]? = some y := ⟨_, List.getElem?_eq_getElem (by rw [H1.out.2.1]; exact hlt)⟩
      have hc : ∀ j u, y.cells.toList[j]? = some u → wr.cell? ⟨g, i * 5 + j, none⟩ = some u := fun j u hu => old_cell hB (H1.out.1 i y j u hy hu)
      have d0 := hc 0 _ rfl
      have d1 := hc 1 _ rfl
      have d2 := hc 2 _ rfl
      have d3 := hc 3 _ rfl
      have d4 := hc 4 _ rfl
      have hyp : (rs.map (·.t))[i]? = some y.t := by rw [List.getElem?_map, hy]; rfl
      have hps := ssum_succ hyp
      have hpl := ssum_le (rs.map (·.t)) (i + 1)
      have hys := size_le_sum (List.mem_of_getElem? hyp)
      rw [H1.out.2.2.1] at hpl hys
      obtain ⟨wb, hwb⟩ : ∃ wb, wr.alloc (.cells #[.int .i64 y.t.k, .string y.t.m, .string y.t.n, .slice y.aa y.t.A.len y.ca, .slice y.af y.t.F.len y.cf] 25) = wb := ⟨_, rfl⟩
      have hbb : Below wr.heap.size wr wb := by rw [← hwb]; exact (Below.refl _ wr).alloc (Nat.le_refl _) _
      have heb : wb.heap[wr.heap.size]? = some (.cells #[.int .i64 y.t.k, .string y.t.m, .string y.t.n, .slice y.aa y.t.A.len y.ca, .slice y.af y.t.F.len y.cf] 25 (0, 0)) := by rw [← hwb]; exact World.alloc_heap_new _ _
      have e0 := cell_of_row wb _ 0 _ _ _ heb
      have e1 := cell_of_row wb _ 1 _ _ _ heb
      have e2 := cell_of_row wb _ 2 _ _ _ heb
      have e3 := cell_of_row wb _ 3 _ _ _ heb
      have e4 := cell_of_row wb _ 4 _ _ _ heb
      have hBb : Below W.heap.size W wb := hB.trans (hbb.mono hB.size)
      have hcall := rs_all w0 y.t.size (by omega) y (Nat.le_refl _) wb (H1.out.2.2.2.trans (hBb.mono H1.out.2.2.2.size))
      have HC := hid (And.intro hps (And.intro hcall hBb))
      have hb1 : ssum (rs.map (·.t)) i + y.t.size ≤ 1099511627776 := by omega
      clear hc hy hyp hcall hps hpl hB hbb heb hBb
      generalize ssum (rs.map (·.t)) i = S at HC hb1 ⊢
      obtain ⟨sz, hsz⟩ : ∃ sz, y.t.size = sz := ⟨_, rfl⟩
      rw [hsz] at HC hb1 hys
      clear hsz
      simp only [Nat.add_zero] at d0
      go_wp2_with fail
      refine HC.out.2.1.mono ?_
      rintro e w4 ⟨rfl, hb4⟩
      have H4 := hid hb4
      clear hb4
      go_wp2_with fail
      go_roundw
      case rel => exact ⟨i + 1, by go_num, by omega, by rw [HC.out.1]; go_num, HC.out.2.2.trans (H4.out.mono HC.out.2.2.size)⟩
      case measure => simp [intOf]; omega
    · obtain rfl : i = L := by omega
      clear hB
      have hz : ssum (rs.map (·.t)) i = T := by
        unfold ssum; rw [List.take_of_length_le (by rw [List.length_map, H1.out.2.1]; exact Nat.le_refl _)]; exact H1.out.2.2.1
      rw [hz]
      clear hz
      go_wp2_with fail
      go_ret
      exact ⟨by first | rfl | simp, HN.out⟩
end Go.Proofs.YtjedcijddlilaaaGreatDoor
