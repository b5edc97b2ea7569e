/- syntax, the reference: modules compared. -/
import Derived.Test.YthpkinmlpppglaaGreatDoorRqD
import Derived.Test.YthpkinmlpppglaaGreatDoorEqM
import Derived.Test.YthpkinmlpppglaaGreatDoorSyG2
namespace Go.Proofs.YthpkinmlpppglaaGreatDoor
open Go.RowKit Go.Shelf

set_option maxRecDepth 100000 in
set_option maxHeartbeats 8000000 in
theorem rm_all (w0 : World) (x y : MdI w0) (hs : x.m.bk ≤ 1099511627776) (W : World) (hW : Below w0.heap.size w0 W) :
    Calls Tryz.prog 32 #[.agg #[.string x.m.p, .slice x.aI x.m.I.length x.cI, .slice x.aD x.m.D.length x.cD], .agg #[.string y.m.p, .slice y.aI y.m.I.length y.cI, .slice y.aD y.m.D.length y.cD]] W fun e W' => e = .returned (.bool (x.m.eq y.m)) ∧ Below W.heap.size W W' := by
  have hbk := x.m.bk_eq
  have hIs : (encIm x.m.I).bk ≤ 1099511627776 := by omega
  have hDs : (encDc x.m.D).bk ≤ 1099511627776 := by omega
  have hlI := Im.len_bk x.m.I
  have hlD := Dc.len_bk x.m.D
  clear hs hbk
  obtain ⟨wa, hwa⟩ : ∃ wa, W.alloc (.cells #[.string x.m.p, .slice x.aI x.m.I.length x.cI, .slice x.aD x.m.D.length x.cD] 33) = wa := ⟨_, rfl⟩
  have hba : Below W.heap.size W wa := by rw [← hwa]; exact (Below.refl _ W).alloc (Nat.le_refl _) _
  have hsa : W.heap.size + 1 = wa.heap.size := by rw [← hwa]; simp
  obtain ⟨wb, hwb⟩ : ∃ wb, wa.alloc (.cells #[.string y.m.p, .slice y.aI y.m.I.length y.cI, .slice y.aD y.m.D.length y.cD] 33) = wb := ⟨_, rfl⟩
  have hbb : Below wa.heap.size wa wb := by rw [← hwb]; exact (Below.refl _ wa).alloc (Nat.le_refl _) _
  have e0 : wb.heap[W.heap.size]? = some (.cells #[.string x.m.p, .slice x.aI x.m.I.length x.cI, .slice x.aD x.m.D.length x.cD] 33 (0, 0)) := (hbb.block _ (by omega)).trans (by rw [← hwa]; exact World.alloc_heap_new _ _)
  have f0 : wb.heap[wa.heap.size]? = some (.cells #[.string y.m.p, .slice y.aI y.m.I.length y.cI, .slice y.aD y.m.D.length y.cD] 33 (0, 0)) := by rw [← hwb]; exact World.alloc_heap_new _ _
  have hwrb : Below W.heap.size W wb := hba.trans (hbb.mono hba.size)
  have HB := hid (And.intro (hW.trans (hwrb.mono hW.size)) (And.intro hwrb (And.intro (Array.getElem?_eq_some_iff.1 e0).1 (Array.getElem?_eq_some_iff.1 f0).1)))
  have g0 := cell_of_row wb _ 0 _ _ _ e0
  have k0 := cell_of_row wb _ 0 _ _ _ f0
  have g1 := cell_of_row wb _ 1 _ _ _ e0
  have k1 := cell_of_row wb _ 1 _ _ _ f0
  have g2 := cell_of_row wb _ 2 _ _ _ e0
  have k2 := cell_of_row wb _ 2 _ _ _ f0
  have HC := hid (And.intro e0 f0)
  clear e0 f0 hba hsa hbb hwrb hW
  by_cases h0 : x.m.p = y.m.p
  · have q0 : (x.m.p.toList == y.m.p.toList) = true := by rw [h0]; simp
    by_cases h1 : x.m.I.length = y.m.I.length
    · by_cases h2 : x.m.D.length = y.m.D.length
      · have hres : x.m.eq y.m = (allEq Im.eq x.m.I y.m.I && allEq Dc.eq x.m.D y.m.D) := by simp [Md.eq, h0]
        rw [hres]
        clear hres h0
        have HLE := hid (And.intro h1 h2)
        rw [← h1] at k1
        rw [← h2] at k2
        clear h1 h2
        have HC2 : Kpt (wb.heap[wa.heap.size]? = some (.cells #[.string y.m.p, .slice y.aI x.m.I.length y.cI, .slice y.aD x.m.D.length y.cD] 33 (0, 0))) := hid (by rw [HLE.out.1, HLE.out.2]; exact HC.out.2)
        go_enter Tryz.func32, Tryz.ntmps32
        go_wp2_with fail
        go_loopw [5] (fun a wr => ∃ (i : Nat) (r1 r2 : List Im), a = .int .i64 (i : Int) ∧ r1.length + i = x.m.I.length ∧ r1.length = r2.length ∧ allEq Im.eq x.m.I y.m.I = allEq Im.eq r1 r2 ∧ RowD w0 (encIm r1) x.aI (i * 2) ∧ RowD w0 (encIm r2) y.aI (i * 2) ∧ Below wb.heap.size wb wr) (fun a _ => x.m.I.length - (intOf a).toNat)
        case atStart => exact ⟨0, x.m.I, y.m.I, rfl, by omega, HLE.out.1, rfl, rowD_zero x.hI, rowD_zero y.hI, Below.refl _ _⟩
        case round =>
          obtain ⟨i, r1, r2, rfl, h1, h2, h4, h5, h6, h7⟩ := hrel
          clear g0 g1 g2 k0 k1 k2 q0
          have e0 := (h7.block _ HB.out.2.2.1).trans HC.out.1
          have f0 := (h7.block _ HB.out.2.2.2).trans HC2.out
          cases r1 with
          | nil =>
            cases r2 with
            | cons => simp at h2
            | nil =>
              have hi : i = x.m.I.length := by simp at h1; omega
              subst hi
              have HQ := hid (And.intro h4 h7)
              have g1 := cell_of_row wr _ 1 _ _ _ e0
              have g2 := cell_of_row wr _ 2 _ _ _ e0
              clear h1 h2 h4 h5 h6 h7 e0 f0
              obtain ⟨w4, hw4⟩ : ∃ w4, w4 = wr := ⟨_, rfl⟩
              subst hw4
              have H4 := hid (And.intro (HB.out.1.trans (HQ.out.2.mono HB.out.1.size)) (And.intro (HB.out.2.1.trans (HQ.out.2.mono HB.out.2.1.size)) (And.intro (Nat.lt_of_lt_of_le HB.out.2.2.1 HQ.out.2.size) (And.intro (Nat.lt_of_lt_of_le HB.out.2.2.2 HQ.out.2.size) (And.intro ((HQ.out.2.block _ HB.out.2.2.1).trans HC.out.1) ((HQ.out.2.block _ HB.out.2.2.2).trans HC2.out))))))
              go_wp2_with fail
              go_loopw [6] (fun a wr => ∃ (i : Nat) (r1 r2 : List Dc), a = .int .i64 (i : Int) ∧ r1.length + i = x.m.D.length ∧ r1.length = r2.length ∧ (encDc r1).bk ≤ 1099511627776 ∧ allEq Dc.eq x.m.D y.m.D = allEq Dc.eq r1 r2 ∧ RowD w0 (encDc r1) x.aD (i * 31) ∧ RowD w0 (encDc r2) y.aD (i * 31) ∧ Below w4.heap.size w4 wr) (fun a _ => x.m.D.length - (intOf a).toNat)
              case atStart => exact ⟨0, x.m.D, y.m.D, rfl, by omega, HLE.out.2, hDs, rfl, rowD_zero x.hD, rowD_zero y.hD, Below.refl _ _⟩
              case round =>
                obtain ⟨i, r1, r2, rfl, h1, h2, h3, h4, h5, h6, h7⟩ := hrel
                clear g1 g2
                have e0 := (h7.block _ H4.out.2.2.1).trans H4.out.2.2.2.2.1
                have f0 := (h7.block _ H4.out.2.2.2.1).trans H4.out.2.2.2.2.2
                have g2 := cell_of_row wr _ 2 _ _ _ e0
                have k2 := cell_of_row wr _ 2 _ _ _ f0
                cases r1 with
                | nil =>
                  cases r2 with
                  | cons => simp at h2
                  | nil =>
                    have hi : i = x.m.D.length := by simp at h1; omega
                    subst hi
                    have HQ2 := hid (And.intro h4 h7)
                    clear h1 h2 h3 h4 h5 h6 h7 e0 f0
                    go_wp2_with fail
                    go_ret
                    exact ⟨by rw [HQ.out.1, HQ2.out.1]; rfl, H4.out.2.1.trans (HQ2.out.2.mono H4.out.2.1.size)⟩
                | cons lx r =>
                  cases r2 with
                  | nil => simp at h2
                  | cons ly r' =>
                    have hlt : i < x.m.D.length := by simp only [List.length_cons] at h1; omega
                    obtain ⟨b, o, p, hbo, hp, hc, hr1⟩ := rowD_dcR h5
                    subst hp
                    obtain ⟨b', o', q, hbo', hq, hd, hr2⟩ := rowD_dcR h6
                    subst hq
                    rw [hbo] at g2
                    rw [hbo'] at k2
                    have hwr := H4.out.1.trans (h7.mono H4.out.1.size)
                    have HE : Kpt (∀ W', Below w0.heap.size w0 W' → Calls Tryz.prog 83 #[.agg p.cells, .agg q.cells] W' fun e W'' => e = .returned (.bool (p.d.eq q.d)) ∧ Below W'.heap.size W' W'') := hid (fun W' hW' => rq_decl w0 p q r h3 W' hW')
                    have hpl := p.size
                    have hql := q.size
                    have heq : allEq Dc.eq (p.d :: r) (q.d :: r') = (p.d.eq q.d && allEq Dc.eq r r') := rfl
                    rw [heq] at h4
                    have hsn : (encDc r).bk ≤ 1099511627776 := by have h9 := encDc_bk p.d r; omega
                    simp only [List.length_cons] at h1 h2
                    have g2X := (show ∀ X : Later wr, X.now.cell? ⟨W.heap.size, 2, none⟩ = _ from fun X => old_cell X.since g2)
                    have k2X := (show ∀ X : Later wr, X.now.cell? ⟨wa.heap.size, 2, none⟩ = _ from fun X => old_cell X.since k2)
                    have hca := rangeAt_old hwr hc
                    have hda := rangeAt_old hwr hd
                    obtain ⟨pa, hpa⟩ : ∃ l, p.cells.toList = l := ⟨_, rfl⟩
                    obtain ⟨qa, hqa⟩ : ∃ l, q.cells.toList = l := ⟨_, rfl⟩
                    have hpc : p.cells = pa.toArray := by rw [← hpa, Array.toArray_toList]
                    have hqc : q.cells = qa.toArray := by rw [← hqa, Array.toArray_toList]
                    rw [hpa] at hpl hca
                    rw [hqa] at hql hda
                    rw [hpc, hqc] at HE
                    clear hpa hqa hpc hqc
                    generalize p.d.eq q.d = R at HE h4
                    have HEL := hid (fun X : Later wr => Calls.later_of (HE.out X.now (hwr.trans (X.since.mono hwr.size))))
                    have HQ2 := hid (And.intro h4 (And.intro h7 (And.intro hwr (And.intro hr1 (And.intro hr2 (And.intro (show r.length + (i + 1) = x.m.D.length by omega) (And.intro (show r.length = r'.length by omega) hsn)))))))
                    have HC := hid hca
                    have HD := hid hda
                    have HPL := hid hpl
                    have HQL := hid hql
                    clear h1 h2 h3 h4 h5 h6 h7 hwr hr1 hr2 heq hsn hca hda hpl hql hc hd e0 f0 hbo hbo' HC2
                    go_wp2_with fail
                    refine wp_region_later (by kernel_rfl) (by kernel_rfl) ?_
                    repeat (first
                      | (with_reducible refine wpQuiet_load_mid (by simp [Region.wanted]) 75 _ rfl b (o + i * 31) rfl pa _ (rangeAt_later HC.out) Tryz.underlying75 rfl (by rw [HPL.out]; kernel_rfl) ?_; simp only [Act.put, List.setIfInBounds_toArray, List.set_cons_succ, List.set_cons_zero])
                      | (with_reducible refine wpQuiet_load_mid (by simp [Region.wanted]) 75 _ rfl b' (o' + i * 31) rfl qa _ (rangeAt_later HD.out) Tryz.underlying75 rfl (by rw [HQL.out]; kernel_rfl) ?_; simp only [Act.put, List.setIfInBounds_toArray, List.set_cons_succ, List.set_cons_zero])
                      | (go_big_quiet_step ((go_at_call 83; with_reducible exact HEL.out _))))
                    refine wpQuiet_nil ?_
                    intro _ hw'
                    obtain ⟨X, hX⟩ := hw'
                    subst hX
                    have HZ := hid X.since
                    cases R with
                    | true =>
                      go_wp2_with fail
                      go_roundw
                      case rel => exact ⟨i + 1, r, r', by go_num, HQ2.out.2.2.2.2.2.1, HQ2.out.2.2.2.2.2.2.1, HQ2.out.2.2.2.2.2.2.2, by rw [HQ2.out.1, Bool.true_and], HQ2.out.2.2.2.1, HQ2.out.2.2.2.2.1, HQ2.out.2.1.trans (HZ.out.mono HQ2.out.2.1.size)⟩
                      case measure => simp [intOf]; omega
                    | false =>
                      go_wp2_with fail
                      go_ret
                      exact ⟨by rw [HQ.out.1, HQ2.out.1]; rfl, H4.out.2.1.trans ((HQ2.out.2.1.trans (HZ.out.mono HQ2.out.2.1.size)).mono H4.out.2.1.size)⟩
          | cons lx r =>
            cases r2 with
            | nil => simp at h2
            | cons ly r' =>
              have hlt : i < x.m.I.length := by simp only [List.length_cons] at h1; omega
              obtain ⟨b, o, hbo, ⟨c0, c1⟩, hr1⟩ := rowD_im h5
              obtain ⟨b', o', hbo', ⟨d0, d1⟩, hr2⟩ := rowD_im h6
              have hwr := HB.out.1.trans (h7.mono HB.out.1.size)
              have g1 := cell_of_row wr _ 1 _ _ _ e0
              have k1 := cell_of_row wr _ 1 _ _ _ f0
              rw [hbo] at g1
              rw [hbo'] at k1
              have C0 := (show ∀ n, (wr.drewN n).cell? ⟨b, o + i * 2, none⟩ = _ from fun n => old_cell hwr c0)
              have C1 := (show ∀ n, (wr.drewN n).cell? ⟨b, o + i * 2 + 1, none⟩ = _ from fun n => old_cell hwr c1)
              have D0 := (show ∀ n, (wr.drewN n).cell? ⟨b', o' + i * 2, none⟩ = _ from fun n => old_cell hwr d0)
              have D1 := (show ∀ n, (wr.drewN n).cell? ⟨b', o' + i * 2 + 1, none⟩ = _ from fun n => old_cell hwr d1)
              have G1 := (show ∀ n, (wr.drewN n).cell? ⟨W.heap.size, 1, none⟩ = _ from fun n => g1)
              have K1 := (show ∀ n, (wr.drewN n).cell? ⟨wa.heap.size, 1, none⟩ = _ from fun n => k1)
              have heq : allEq Im.eq (lx :: r) (ly :: r') = (lx.eq ly && allEq Im.eq r r') := rfl
              rw [heq] at h4
              simp only [List.length_cons] at h1 h2
              have HQ := hid (And.intro h4 (And.intro h7 (And.intro hr1 (And.intro hr2 (And.intro (show r.length + (i + 1) = x.m.I.length by omega) (show r.length = r'.length by omega))))))
              clear h1 h2 h4 h5 h6 h7 hr1 hr2 heq hwr c0 c1 d0 d1 k1 e0 f0 hbo hbo'
              cases hxy : lx.eq ly with
              | true =>
                rw [hxy] at HQ
                simp only [Im.eq, Bool.and_eq_true, decide_eq_true_eq] at hxy
                have q0 : (lx.p.toList == ly.p.toList) = true := by rw [hxy.1]; simp
                have q1 : (lx.a.toList == ly.a.toList) = true := by rw [hxy.2]; simp
                clear hxy
                go_wp2_with fail
                go_quiet (fail)
                go_wp2_with fail
                go_roundw
                case rel => exact ⟨i + 1, r, r', by go_num, HQ.out.2.2.2.2.1, HQ.out.2.2.2.2.2, by rw [HQ.out.1, Bool.true_and], HQ.out.2.2.1, HQ.out.2.2.2.1, below_drawn HQ.out.2.1 _⟩
                case measure => simp [intOf]; omega
              | false =>
                rw [hxy] at HQ
                have HF := hid (show allEq Im.eq x.m.I y.m.I = false by rw [HQ.out.1, Bool.false_and])
                by_cases hp : lx.p = ly.p
                · have hq : ¬ lx.a = ly.a := by intro h; simp [Im.eq, hp, h] at hxy
                  have q0 : (lx.p.toList == ly.p.toList) = true := by rw [hp]; simp
                  have q1 := toList_ne hq
                  clear hxy hp hq
                  go_wp2_with fail
                  go_quiet (fail)
                  go_wp2_with fail
                  go_ret
                  exact ⟨by rw [HF.out] <;> rfl, HB.out.2.1.trans ((below_drawn HQ.out.2.1 _).mono HB.out.2.1.size)⟩
                · have q0 := toList_ne hp
                  clear hxy hp
                  go_wp2_with fail
                  go_quiet (fail)
                  go_wp2_with fail
                  go_ret
                  exact ⟨by rw [HF.out] <;> rfl, HB.out.2.1.trans ((below_drawn HQ.out.2.1 _).mono HB.out.2.1.size)⟩

      · have q2 : ((x.m.D.length : Int) == (y.m.D.length : Int)) = false := by rw [beq_eq_false_iff_ne]; omega
        have u2 : ((x.m.D.length : Int) != (y.m.D.length : Int)) = true := by simp; omega
        have hf : allEq Dc.eq x.m.D y.m.D = false := by
          cases h : allEq Dc.eq x.m.D y.m.D with
          | false => rfl
          | true => exact absurd (allEq_len h) h2
        have q1 : ((x.m.I.length : Int) == (y.m.I.length : Int)) = true := by rw [h1]; simp
        have u1 : ((x.m.I.length : Int) != (y.m.I.length : Int)) = false := by rw [h1]; simp
        have hres : x.m.eq y.m = false := by simp [Md.eq, hf]
        rw [hres]
        clear hres
        clear hf h0 h1 h2
        go_enter Tryz.func32, Tryz.ntmps32
        go_wp2_with fail
        go_ret
        exact ⟨rfl, HB.out.2.1⟩
    · have q1 : ((x.m.I.length : Int) == (y.m.I.length : Int)) = false := by rw [beq_eq_false_iff_ne]; omega
      have u1 : ((x.m.I.length : Int) != (y.m.I.length : Int)) = true := by simp; omega
      have hf : allEq Im.eq x.m.I y.m.I = false := by
        cases h : allEq Im.eq x.m.I y.m.I with
        | false => rfl
        | true => exact absurd (allEq_len h) h1
      have hres : x.m.eq y.m = false := by simp [Md.eq, hf]
      rw [hres]
      clear hres
      clear hf h0 h1
      go_enter Tryz.func32, Tryz.ntmps32
      go_wp2_with fail
      go_ret
      exact ⟨rfl, HB.out.2.1⟩
  · have q0 := toList_ne h0
    have hres : x.m.eq y.m = false := by simp [Md.eq, h0]
    rw [hres]
    clear hres
    clear h0
    go_enter Tryz.func32, Tryz.ntmps32
    go_wp2_with fail
    go_ret
    exact ⟨rfl, HB.out.2.1⟩
end Go.Proofs.YthpkinmlpppglaaGreatDoor
