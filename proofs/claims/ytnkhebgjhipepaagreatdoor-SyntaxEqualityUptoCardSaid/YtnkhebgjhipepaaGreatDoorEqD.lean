/- syntax: declarations compared. -/
import Derived.Test.YtnkhebgjhipepaaGreatDoorEqV
namespace Go.Proofs.YtnkhebgjhipepaaGreatDoor
open Go.RowKit Go.Shelf

theorem encDc_bk (x : Dc) (r : List Dc) : (encDc (x :: r)).bk = x.nm.size + x.note.size + (encPm x.P).bk + (x.lo.on .nil).bk + (x.up.on .nil).bk + (x.t.on .nil).bk + x.e.bk + x.m.size + x.tg.size + 8 + (encDc r).bk := by
  simp only [encDc, Dt.bk, Ty.on, Xp.on_bk]; omega
set_option maxRecDepth 100000 in
set_option maxHeartbeats 8000000 in
theorem dc_any (w0 : World) (p q : DcI w0) (r : List Dc) (hs : (encDc (p.d :: r)).bk ≤ 1099511627776) (W : World) (hW : Below w0.heap.size w0 W) :
    Calls Tryz.prog 82 #[.agg #[.int .i64 p.d.k, .string p.d.nm, .bool p.d.ex, .bool p.d.dp, .string p.d.note, .slice p.aP p.d.P.length p.cP, .int .i64 p.lo.t.k, .string p.lo.t.m, .string p.lo.t.n, .slice p.lo.aa p.lo.t.A.len p.lo.ca, .slice p.lo.af p.lo.t.F.len p.lo.cf, .int .i64 p.up.t.k, .string p.up.t.m, .string p.up.t.n, .slice p.up.aa p.up.t.A.len p.up.ca, .slice p.up.af p.up.t.F.len p.up.cf, .int .i64 p.t.t.k, .string p.t.t.m, .string p.t.t.n, .slice p.t.aa p.t.t.A.len p.t.ca, .slice p.t.af p.t.t.F.len p.t.cf, .int .i64 p.e.e.k, .string p.e.e.m, .string p.e.e.n, .string p.e.e.tx, .int .i64 p.e.e.num, .slice p.e.aT p.e.e.T.len p.e.cT, .slice p.e.aL p.e.e.L.length p.e.cL, .slice p.e.aK p.e.e.K.len p.e.cK, .string p.d.m, .string p.d.tg], .agg #[.int .i64 q.d.k, .string q.d.nm, .bool q.d.ex, .bool q.d.dp, .string q.d.note, .slice q.aP q.d.P.length q.cP, .int .i64 q.lo.t.k, .string q.lo.t.m, .string q.lo.t.n, .slice q.lo.aa q.lo.t.A.len q.lo.ca, .slice q.lo.af q.lo.t.F.len q.lo.cf, .int .i64 q.up.t.k, .string q.up.t.m, .string q.up.t.n, .slice q.up.aa q.up.t.A.len q.up.ca, .slice q.up.af q.up.t.F.len q.up.cf, .int .i64 q.t.t.k, .string q.t.t.m, .string q.t.t.n, .slice q.t.aa q.t.t.A.len q.t.ca, .slice q.t.af q.t.t.F.len q.t.cf, .int .i64 q.e.e.k, .string q.e.e.m, .string q.e.e.n, .string q.e.e.tx, .int .i64 q.e.e.num, .slice q.e.aT q.e.e.T.len q.e.cT, .slice q.e.aL q.e.e.L.length q.e.cL, .slice q.e.aK q.e.e.K.len q.e.cK, .string q.d.m, .string q.d.tg]] W fun e W' => e = .returned (.bool (p.d.eq q.d)) ∧ Below W.heap.size W W' := by
  have hbk := encDc_bk p.d r
  have hlo := p.d.lo.on_bk .nil
  have hup := p.d.up.on_bk .nil
  have ht := p.d.t.on_bk .nil
  simp only [Dt.bk] at hlo hup ht
  have HK0 : Kpt (∀ W' : World, Below w0.heap.size w0 W' → Calls Tryz.prog 129 #[.slice p.aP p.d.P.length p.cP, .slice q.aP q.d.P.length q.cP, .func (.func 130) #[] #[]] W' fun e W'' => e = .returned (.bool (allEq Pm.eq p.d.P q.d.P)) ∧ Below W'.heap.size W' W'') := hid (fun W' hW' => eqf_params w0 p.d.P q.d.P (by omega) p.aP q.aP p.cP q.cP (rowD_zero p.hP) (rowD_zero q.hP) W' hW')
  have HK1 : Kpt (∀ W' : World, Below w0.heap.size w0 W' → Calls Tryz.prog 27 #[.agg #[.int .i64 p.lo.t.k, .string p.lo.t.m, .string p.lo.t.n, .slice p.lo.aa p.lo.t.A.len p.lo.ca, .slice p.lo.af p.lo.t.F.len p.lo.cf], .agg #[.int .i64 q.lo.t.k, .string q.lo.t.m, .string q.lo.t.n, .slice q.lo.aa q.lo.t.A.len q.lo.ca, .slice q.lo.af q.lo.t.F.len q.lo.cf]] W' fun e W'' => e = .returned (.bool (p.d.lo.eq q.d.lo)) ∧ Below W'.heap.size W' W'') := hid (fun W' hW' => by rw [← p.hlo, ← q.hlo]; exact eq_all w0 _ (by rw [p.hlo]; omega) p.lo q.lo (Nat.le_refl _) W' hW')
  have HK2 : Kpt (∀ W' : World, Below w0.heap.size w0 W' → Calls Tryz.prog 27 #[.agg #[.int .i64 p.up.t.k, .string p.up.t.m, .string p.up.t.n, .slice p.up.aa p.up.t.A.len p.up.ca, .slice p.up.af p.up.t.F.len p.up.cf], .agg #[.int .i64 q.up.t.k, .string q.up.t.m, .string q.up.t.n, .slice q.up.aa q.up.t.A.len q.up.ca, .slice q.up.af q.up.t.F.len q.up.cf]] W' fun e W'' => e = .returned (.bool (p.d.up.eq q.d.up)) ∧ Below W'.heap.size W' W'') := hid (fun W' hW' => by rw [← p.hup, ← q.hup]; exact eq_all w0 _ (by rw [p.hup]; omega) p.up q.up (Nat.le_refl _) W' hW')
  have HK3 : Kpt (∀ W' : World, Below w0.heap.size w0 W' → Calls Tryz.prog 27 #[.agg #[.int .i64 p.t.t.k, .string p.t.t.m, .string p.t.t.n, .slice p.t.aa p.t.t.A.len p.t.ca, .slice p.t.af p.t.t.F.len p.t.cf], .agg #[.int .i64 q.t.t.k, .string q.t.t.m, .string q.t.t.n, .slice q.t.aa q.t.t.A.len q.t.ca, .slice q.t.af q.t.t.F.len q.t.cf]] W' fun e W'' => e = .returned (.bool (p.d.t.eq q.d.t)) ∧ Below W'.heap.size W' W'') := hid (fun W' hW' => by rw [← p.ht, ← q.ht]; exact eq_all w0 _ (by rw [p.ht]; omega) p.t q.t (Nat.le_refl _) W' hW')
  have HK4 : Kpt (∀ W' : World, Below w0.heap.size w0 W' → Calls Tryz.prog 29 #[.agg #[.int .i64 p.e.e.k, .string p.e.e.m, .string p.e.e.n, .string p.e.e.tx, .int .i64 p.e.e.num, .slice p.e.aT p.e.e.T.len p.e.cT, .slice p.e.aL p.e.e.L.length p.e.cL, .slice p.e.aK p.e.e.K.len p.e.cK], .agg #[.int .i64 q.e.e.k, .string q.e.e.m, .string q.e.e.n, .string q.e.e.tx, .int .i64 q.e.e.num, .slice q.e.aT q.e.e.T.len q.e.cT, .slice q.e.aL q.e.e.L.length q.e.cL, .slice q.e.aK q.e.e.K.len q.e.cK]] W' fun e W'' => e = .returned (.bool (p.d.e.eq q.d.e)) ∧ Below W'.heap.size W' W'') := hid (fun W' hW' => by rw [← p.he, ← q.he]; exact xp_all w0 _ (by rw [p.he]; omega) p.e q.e (Nat.le_refl _) W' hW')
  clear hbk hlo hup ht hs
  obtain ⟨wa, hwa⟩ : ∃ wa, W.alloc (.cells #[.int .i64 p.d.k, .string p.d.nm, .bool p.d.ex, .bool p.d.dp, .string p.d.note, .slice p.aP p.d.P.length p.cP, .int .i64 p.lo.t.k, .string p.lo.t.m, .string p.lo.t.n, .slice p.lo.aa p.lo.t.A.len p.lo.ca, .slice p.lo.af p.lo.t.F.len p.lo.cf, .int .i64 p.up.t.k, .string p.up.t.m, .string p.up.t.n, .slice p.up.aa p.up.t.A.len p.up.ca, .slice p.up.af p.up.t.F.len p.up.cf, .int .i64 p.t.t.k, .string p.t.t.m, .string p.t.t.n, .slice p.t.aa p.t.t.A.len p.t.ca, .slice p.t.af p.t.t.F.len p.t.cf, .int .i64 p.e.e.k, .string p.e.e.m, .string p.e.e.n, .string p.e.e.tx, .int .i64 p.e.e.num, .slice p.e.aT p.e.e.T.len p.e.cT, .slice p.e.aL p.e.e.L.length p.e.cL, .slice p.e.aK p.e.e.K.len p.e.cK, .string p.d.m, .string p.d.tg] 75) = wa := ⟨_, rfl⟩
  have hba : Below W.heap.size W wa := by rw [← hwa]; exact (Below.refl _ W).alloc (Nat.le_refl _) _
  have hsa : W.heap.size + 1 = wa.heap.size := by rw [← hwa]; simp
  obtain ⟨wb, hwb⟩ : ∃ wb, wa.alloc (.cells #[.int .i64 q.d.k, .string q.d.nm, .bool q.d.ex, .bool q.d.dp, .string q.d.note, .slice q.aP q.d.P.length q.cP, .int .i64 q.lo.t.k, .string q.lo.t.m, .string q.lo.t.n, .slice q.lo.aa q.lo.t.A.len q.lo.ca, .slice q.lo.af q.lo.t.F.len q.lo.cf, .int .i64 q.up.t.k, .string q.up.t.m, .string q.up.t.n, .slice q.up.aa q.up.t.A.len q.up.ca, .slice q.up.af q.up.t.F.len q.up.cf, .int .i64 q.t.t.k, .string q.t.t.m, .string q.t.t.n, .slice q.t.aa q.t.t.A.len q.t.ca, .slice q.t.af q.t.t.F.len q.t.cf, .int .i64 q.e.e.k, .string q.e.e.m, .string q.e.e.n, .string q.e.e.tx, .int .i64 q.e.e.num, .slice q.e.aT q.e.e.T.len q.e.cT, .slice q.e.aL q.e.e.L.length q.e.cL, .slice q.e.aK q.e.e.K.len q.e.cK, .string q.d.m, .string q.d.tg] 75) = wb := ⟨_, rfl⟩
  have hbb : Below wa.heap.size wa wb := by rw [← hwb]; exact (Below.refl _ wa).alloc (Nat.le_refl _) _
  have e0 : wb.heap[W.heap.size]? = some (.cells #[.int .i64 p.d.k, .string p.d.nm, .bool p.d.ex, .bool p.d.dp, .string p.d.note, .slice p.aP p.d.P.length p.cP, .int .i64 p.lo.t.k, .string p.lo.t.m, .string p.lo.t.n, .slice p.lo.aa p.lo.t.A.len p.lo.ca, .slice p.lo.af p.lo.t.F.len p.lo.cf, .int .i64 p.up.t.k, .string p.up.t.m, .string p.up.t.n, .slice p.up.aa p.up.t.A.len p.up.ca, .slice p.up.af p.up.t.F.len p.up.cf, .int .i64 p.t.t.k, .string p.t.t.m, .string p.t.t.n, .slice p.t.aa p.t.t.A.len p.t.ca, .slice p.t.af p.t.t.F.len p.t.cf, .int .i64 p.e.e.k, .string p.e.e.m, .string p.e.e.n, .string p.e.e.tx, .int .i64 p.e.e.num, .slice p.e.aT p.e.e.T.len p.e.cT, .slice p.e.aL p.e.e.L.length p.e.cL, .slice p.e.aK p.e.e.K.len p.e.cK, .string p.d.m, .string p.d.tg] 75 (0, 0)) := (hbb.block _ (by omega)).trans (by rw [← hwa]; exact World.alloc_heap_new _ _)
  have f0 : wb.heap[wa.heap.size]? = some (.cells #[.int .i64 q.d.k, .string q.d.nm, .bool q.d.ex, .bool q.d.dp, .string q.d.note, .slice q.aP q.d.P.length q.cP, .int .i64 q.lo.t.k, .string q.lo.t.m, .string q.lo.t.n, .slice q.lo.aa q.lo.t.A.len q.lo.ca, .slice q.lo.af q.lo.t.F.len q.lo.cf, .int .i64 q.up.t.k, .string q.up.t.m, .string q.up.t.n, .slice q.up.aa q.up.t.A.len q.up.ca, .slice q.up.af q.up.t.F.len q.up.cf, .int .i64 q.t.t.k, .string q.t.t.m, .string q.t.t.n, .slice q.t.aa q.t.t.A.len q.t.ca, .slice q.t.af q.t.t.F.len q.t.cf, .int .i64 q.e.e.k, .string q.e.e.m, .string q.e.e.n, .string q.e.e.tx, .int .i64 q.e.e.num, .slice q.e.aT q.e.e.T.len q.e.cT, .slice q.e.aL q.e.e.L.length q.e.cL, .slice q.e.aK q.e.e.K.len q.e.cK, .string q.d.m, .string q.d.tg] 75 (0, 0)) := by rw [← hwb]; exact World.alloc_heap_new _ _
  have hwrb : Below W.heap.size W wb := hba.trans (hbb.mono hba.size)
  have HB := hid (And.intro (hW.trans (hwrb.mono hW.size)) (And.intro hwrb (And.intro (Array.getElem?_eq_some_iff.1 e0).1 (Array.getElem?_eq_some_iff.1 f0).1)))
  have g0 := cell_of_row wb _ 0 _ _ _ e0
  have k0 := cell_of_row wb _ 0 _ _ _ f0
  have g1 := cell_of_row wb _ 1 _ _ _ e0
  have k1 := cell_of_row wb _ 1 _ _ _ f0
  have g2 := cell_of_row wb _ 2 _ _ _ e0
  have k2 := cell_of_row wb _ 2 _ _ _ f0
  have g3 := cell_of_row wb _ 3 _ _ _ e0
  have k3 := cell_of_row wb _ 3 _ _ _ f0
  have g4 := cell_of_row wb _ 4 _ _ _ e0
  have k4 := cell_of_row wb _ 4 _ _ _ f0
  have g5 := cell_of_row wb _ 5 _ _ _ e0
  have k5 := cell_of_row wb _ 5 _ _ _ f0
  have g6 := cell_of_row wb _ 6 _ _ _ e0
  have k6 := cell_of_row wb _ 6 _ _ _ f0
  have g7 := cell_of_row wb _ 7 _ _ _ e0
  have k7 := cell_of_row wb _ 7 _ _ _ f0
  have g8 := cell_of_row wb _ 8 _ _ _ e0
  have k8 := cell_of_row wb _ 8 _ _ _ f0
  have g9 := cell_of_row wb _ 9 _ _ _ e0
  have k9 := cell_of_row wb _ 9 _ _ _ f0
  have g10 := cell_of_row wb _ 10 _ _ _ e0
  have k10 := cell_of_row wb _ 10 _ _ _ f0
  have g11 := cell_of_row wb _ 11 _ _ _ e0
  have k11 := cell_of_row wb _ 11 _ _ _ f0
  have g12 := cell_of_row wb _ 12 _ _ _ e0
  have k12 := cell_of_row wb _ 12 _ _ _ f0
  have g13 := cell_of_row wb _ 13 _ _ _ e0
  have k13 := cell_of_row wb _ 13 _ _ _ f0
  have g14 := cell_of_row wb _ 14 _ _ _ e0
  have k14 := cell_of_row wb _ 14 _ _ _ f0
  have g15 := cell_of_row wb _ 15 _ _ _ e0
  have k15 := cell_of_row wb _ 15 _ _ _ f0
  have g16 := cell_of_row wb _ 16 _ _ _ e0
  have k16 := cell_of_row wb _ 16 _ _ _ f0
  have g17 := cell_of_row wb _ 17 _ _ _ e0
  have k17 := cell_of_row wb _ 17 _ _ _ f0
  have g18 := cell_of_row wb _ 18 _ _ _ e0
  have k18 := cell_of_row wb _ 18 _ _ _ f0
  have g19 := cell_of_row wb _ 19 _ _ _ e0
  have k19 := cell_of_row wb _ 19 _ _ _ f0
  have g20 := cell_of_row wb _ 20 _ _ _ e0
  have k20 := cell_of_row wb _ 20 _ _ _ f0
  have g21 := cell_of_row wb _ 21 _ _ _ e0
  have k21 := cell_of_row wb _ 21 _ _ _ f0
  have g22 := cell_of_row wb _ 22 _ _ _ e0
  have k22 := cell_of_row wb _ 22 _ _ _ f0
  have g23 := cell_of_row wb _ 23 _ _ _ e0
  have k23 := cell_of_row wb _ 23 _ _ _ f0
  have g24 := cell_of_row wb _ 24 _ _ _ e0
  have k24 := cell_of_row wb _ 24 _ _ _ f0
  have g25 := cell_of_row wb _ 25 _ _ _ e0
  have k25 := cell_of_row wb _ 25 _ _ _ f0
  have g26 := cell_of_row wb _ 26 _ _ _ e0
  have k26 := cell_of_row wb _ 26 _ _ _ f0
  have g27 := cell_of_row wb _ 27 _ _ _ e0
  have k27 := cell_of_row wb _ 27 _ _ _ f0
  have g28 := cell_of_row wb _ 28 _ _ _ e0
  have k28 := cell_of_row wb _ 28 _ _ _ f0
  have g29 := cell_of_row wb _ 29 _ _ _ e0
  have k29 := cell_of_row wb _ 29 _ _ _ f0
  have g30 := cell_of_row wb _ 30 _ _ _ e0
  have k30 := cell_of_row wb _ 30 _ _ _ f0
  have HC := hid (And.intro e0 f0)
  clear e0 f0 hba hsa hbb hwrb hW
  by_cases h0 : p.d.k = q.d.k
  · have q0 : (p.d.k == q.d.k) = true := by rw [h0]; simp
    by_cases h1 : p.d.nm = q.d.nm
    · have q1 : (p.d.nm.toList == q.d.nm.toList) = true := by rw [h1]; simp
      by_cases h2 : p.d.m = q.d.m
      · have q2 : (p.d.m.toList == q.d.m.toList) = true := by rw [h2]; simp
        by_cases h3 : p.d.tg = q.d.tg
        · have q3 : (p.d.tg.toList == q.d.tg.toList) = true := by rw [h3]; simp
          by_cases h4 : p.d.ex = q.d.ex
          · have q4 : (p.d.ex == q.d.ex) = true := by rw [h4]; simp
            by_cases h5 : p.d.dp = q.d.dp
            · have q5 : (p.d.dp == q.d.dp) = true := by rw [h5]; simp
              by_cases h6 : p.d.note = q.d.note
              · have q6 : (p.d.note.toList == q.d.note.toList) = true := by rw [h6]; simp
                have hres : (p.d.eq q.d) = (allEq Pm.eq p.d.P q.d.P && (p.d.lo.eq q.d.lo && (p.d.up.eq q.d.up && (p.d.t.eq q.d.t && p.d.e.eq q.d.e)))) := by simp [Dc.eq, Bool.and_assoc, h0, h1, h2, h3, h4, h5, h6]
                rw [hres]
                clear hres h0 h1 h2 h3 h4 h5 h6
                go_enter Tryz.func82, Tryz.ntmps82
                go_wp2_with fail
                refine (HK0.out _ HB.out.1).mono ?_
                rintro e v0 ⟨rfl, hb⟩
                have e0 := (hb.block _ HB.out.2.2.1).trans HC.out.1
                have f0 := (hb.block _ HB.out.2.2.2).trans HC.out.2
                clear g0 k0 g1 k1 g2 k2 g3 k3 g4 k4 g5 k5 g6 k6 g7 k7 g8 k8 g9 k9 g10 k10 g11 k11 g12 k12 g13 k13 g14 k14 g15 k15 g16 k16 g17 k17 g18 k18 g19 k19 g20 k20 g21 k21 g22 k22 g23 k23 g24 k24 g25 k25 g26 k26 g27 k27 g28 k28 g29 k29 g30 k30
                have g6 := cell_of_row v0 _ 6 _ _ _ e0
                have k6 := cell_of_row v0 _ 6 _ _ _ f0
                have g7 := cell_of_row v0 _ 7 _ _ _ e0
                have k7 := cell_of_row v0 _ 7 _ _ _ f0
                have g8 := cell_of_row v0 _ 8 _ _ _ e0
                have k8 := cell_of_row v0 _ 8 _ _ _ f0
                have g9 := cell_of_row v0 _ 9 _ _ _ e0
                have k9 := cell_of_row v0 _ 9 _ _ _ f0
                have g10 := cell_of_row v0 _ 10 _ _ _ e0
                have k10 := cell_of_row v0 _ 10 _ _ _ f0
                have g11 := cell_of_row v0 _ 11 _ _ _ e0
                have k11 := cell_of_row v0 _ 11 _ _ _ f0
                have g12 := cell_of_row v0 _ 12 _ _ _ e0
                have k12 := cell_of_row v0 _ 12 _ _ _ f0
                have g13 := cell_of_row v0 _ 13 _ _ _ e0
                have k13 := cell_of_row v0 _ 13 _ _ _ f0
                have g14 := cell_of_row v0 _ 14 _ _ _ e0
                have k14 := cell_of_row v0 _ 14 _ _ _ f0
                have g15 := cell_of_row v0 _ 15 _ _ _ e0
                have k15 := cell_of_row v0 _ 15 _ _ _ f0
                have g16 := cell_of_row v0 _ 16 _ _ _ e0
                have k16 := cell_of_row v0 _ 16 _ _ _ f0
                have g17 := cell_of_row v0 _ 17 _ _ _ e0
                have k17 := cell_of_row v0 _ 17 _ _ _ f0
                have g18 := cell_of_row v0 _ 18 _ _ _ e0
                have k18 := cell_of_row v0 _ 18 _ _ _ f0
                have g19 := cell_of_row v0 _ 19 _ _ _ e0
                have k19 := cell_of_row v0 _ 19 _ _ _ f0
                have g20 := cell_of_row v0 _ 20 _ _ _ e0
                have k20 := cell_of_row v0 _ 20 _ _ _ f0
                have g21 := cell_of_row v0 _ 21 _ _ _ e0
                have k21 := cell_of_row v0 _ 21 _ _ _ f0
                have g22 := cell_of_row v0 _ 22 _ _ _ e0
                have k22 := cell_of_row v0 _ 22 _ _ _ f0
                have g23 := cell_of_row v0 _ 23 _ _ _ e0
                have k23 := cell_of_row v0 _ 23 _ _ _ f0
                have g24 := cell_of_row v0 _ 24 _ _ _ e0
                have k24 := cell_of_row v0 _ 24 _ _ _ f0
                have g25 := cell_of_row v0 _ 25 _ _ _ e0
                have k25 := cell_of_row v0 _ 25 _ _ _ f0
                have g26 := cell_of_row v0 _ 26 _ _ _ e0
                have k26 := cell_of_row v0 _ 26 _ _ _ f0
                have g27 := cell_of_row v0 _ 27 _ _ _ e0
                have k27 := cell_of_row v0 _ 27 _ _ _ f0
                have g28 := cell_of_row v0 _ 28 _ _ _ e0
                have k28 := cell_of_row v0 _ 28 _ _ _ f0
                have HB0 := hid (And.intro (HB.out.1.trans (hb.mono HB.out.1.size)) (And.intro (HB.out.2.1.trans (hb.mono HB.out.2.1.size)) (And.intro (Array.getElem?_eq_some_iff.1 e0).1 (Array.getElem?_eq_some_iff.1 f0).1)))
                have HC0 := hid (And.intro e0 f0)
                clear hb e0 f0
                cases hA0 : allEq Pm.eq p.d.P q.d.P with
                | true =>
                  go_wp2_with fail
                  refine (HK1.out _ HB0.out.1).mono ?_
                  rintro e v1 ⟨rfl, hb⟩
                  have e0 := (hb.block _ HB0.out.2.2.1).trans HC0.out.1
                  have f0 := (hb.block _ HB0.out.2.2.2).trans HC0.out.2
                  clear g6 k6 g7 k7 g8 k8 g9 k9 g10 k10 g11 k11 g12 k12 g13 k13 g14 k14 g15 k15 g16 k16 g17 k17 g18 k18 g19 k19 g20 k20 g21 k21 g22 k22 g23 k23 g24 k24 g25 k25 g26 k26 g27 k27 g28 k28
                  have g11 := cell_of_row v1 _ 11 _ _ _ e0
                  have k11 := cell_of_row v1 _ 11 _ _ _ f0
                  have g12 := cell_of_row v1 _ 12 _ _ _ e0
                  have k12 := cell_of_row v1 _ 12 _ _ _ f0
                  have g13 := cell_of_row v1 _ 13 _ _ _ e0
                  have k13 := cell_of_row v1 _ 13 _ _ _ f0
                  have g14 := cell_of_row v1 _ 14 _ _ _ e0
                  have k14 := cell_of_row v1 _ 14 _ _ _ f0
                  have g15 := cell_of_row v1 _ 15 _ _ _ e0
                  have k15 := cell_of_row v1 _ 15 _ _ _ f0
                  have g16 := cell_of_row v1 _ 16 _ _ _ e0
                  have k16 := cell_of_row v1 _ 16 _ _ _ f0
                  have g17 := cell_of_row v1 _ 17 _ _ _ e0
                  have k17 := cell_of_row v1 _ 17 _ _ _ f0
                  have g18 := cell_of_row v1 _ 18 _ _ _ e0
                  have k18 := cell_of_row v1 _ 18 _ _ _ f0
                  have g19 := cell_of_row v1 _ 19 _ _ _ e0
                  have k19 := cell_of_row v1 _ 19 _ _ _ f0
                  have g20 := cell_of_row v1 _ 20 _ _ _ e0
                  have k20 := cell_of_row v1 _ 20 _ _ _ f0
                  have g21 := cell_of_row v1 _ 21 _ _ _ e0
                  have k21 := cell_of_row v1 _ 21 _ _ _ f0
                  have g22 := cell_of_row v1 _ 22 _ _ _ e0
                  have k22 := cell_of_row v1 _ 22 _ _ _ f0
                  have g23 := cell_of_row v1 _ 23 _ _ _ e0
                  have k23 := cell_of_row v1 _ 23 _ _ _ f0
                  have g24 := cell_of_row v1 _ 24 _ _ _ e0
                  have k24 := cell_of_row v1 _ 24 _ _ _ f0
                  have g25 := cell_of_row v1 _ 25 _ _ _ e0
                  have k25 := cell_of_row v1 _ 25 _ _ _ f0
                  have g26 := cell_of_row v1 _ 26 _ _ _ e0
                  have k26 := cell_of_row v1 _ 26 _ _ _ f0
                  have g27 := cell_of_row v1 _ 27 _ _ _ e0
                  have k27 := cell_of_row v1 _ 27 _ _ _ f0
                  have g28 := cell_of_row v1 _ 28 _ _ _ e0
                  have k28 := cell_of_row v1 _ 28 _ _ _ f0
                  have HB1 := hid (And.intro (HB0.out.1.trans (hb.mono HB0.out.1.size)) (And.intro (HB0.out.2.1.trans (hb.mono HB0.out.2.1.size)) (And.intro (Array.getElem?_eq_some_iff.1 e0).1 (Array.getElem?_eq_some_iff.1 f0).1)))
                  have HC1 := hid (And.intro e0 f0)
                  clear hb e0 f0
                  cases hA1 : p.d.lo.eq q.d.lo with
                  | true =>
                    go_wp2_with fail
                    refine (HK2.out _ HB1.out.1).mono ?_
                    rintro e v2 ⟨rfl, hb⟩
                    have e0 := (hb.block _ HB1.out.2.2.1).trans HC1.out.1
                    have f0 := (hb.block _ HB1.out.2.2.2).trans HC1.out.2
                    clear g11 k11 g12 k12 g13 k13 g14 k14 g15 k15 g16 k16 g17 k17 g18 k18 g19 k19 g20 k20 g21 k21 g22 k22 g23 k23 g24 k24 g25 k25 g26 k26 g27 k27 g28 k28
                    have g16 := cell_of_row v2 _ 16 _ _ _ e0
                    have k16 := cell_of_row v2 _ 16 _ _ _ f0
                    have g17 := cell_of_row v2 _ 17 _ _ _ e0
                    have k17 := cell_of_row v2 _ 17 _ _ _ f0
                    have g18 := cell_of_row v2 _ 18 _ _ _ e0
                    have k18 := cell_of_row v2 _ 18 _ _ _ f0
                    have g19 := cell_of_row v2 _ 19 _ _ _ e0
                    have k19 := cell_of_row v2 _ 19 _ _ _ f0
                    have g20 := cell_of_row v2 _ 20 _ _ _ e0
                    have k20 := cell_of_row v2 _ 20 _ _ _ f0
                    have g21 := cell_of_row v2 _ 21 _ _ _ e0
                    have k21 := cell_of_row v2 _ 21 _ _ _ f0
                    have g22 := cell_of_row v2 _ 22 _ _ _ e0
                    have k22 := cell_of_row v2 _ 22 _ _ _ f0
                    have g23 := cell_of_row v2 _ 23 _ _ _ e0
                    have k23 := cell_of_row v2 _ 23 _ _ _ f0
                    have g24 := cell_of_row v2 _ 24 _ _ _ e0
                    have k24 := cell_of_row v2 _ 24 _ _ _ f0
                    have g25 := cell_of_row v2 _ 25 _ _ _ e0
                    have k25 := cell_of_row v2 _ 25 _ _ _ f0
                    have g26 := cell_of_row v2 _ 26 _ _ _ e0
                    have k26 := cell_of_row v2 _ 26 _ _ _ f0
                    have g27 := cell_of_row v2 _ 27 _ _ _ e0
                    have k27 := cell_of_row v2 _ 27 _ _ _ f0
                    have g28 := cell_of_row v2 _ 28 _ _ _ e0
                    have k28 := cell_of_row v2 _ 28 _ _ _ f0
                    have HB2 := hid (And.intro (HB1.out.1.trans (hb.mono HB1.out.1.size)) (And.intro (HB1.out.2.1.trans (hb.mono HB1.out.2.1.size)) (And.intro (Array.getElem?_eq_some_iff.1 e0).1 (Array.getElem?_eq_some_iff.1 f0).1)))
                    have HC2 := hid (And.intro e0 f0)
                    clear hb e0 f0
                    cases hA2 : p.d.up.eq q.d.up with
                    | true =>
                      go_wp2_with fail
                      refine (HK3.out _ HB2.out.1).mono ?_
                      rintro e v3 ⟨rfl, hb⟩
                      have e0 := (hb.block _ HB2.out.2.2.1).trans HC2.out.1
                      have f0 := (hb.block _ HB2.out.2.2.2).trans HC2.out.2
                      clear g16 k16 g17 k17 g18 k18 g19 k19 g20 k20 g21 k21 g22 k22 g23 k23 g24 k24 g25 k25 g26 k26 g27 k27 g28 k28
                      have g21 := cell_of_row v3 _ 21 _ _ _ e0
                      have k21 := cell_of_row v3 _ 21 _ _ _ f0
                      have g22 := cell_of_row v3 _ 22 _ _ _ e0
                      have k22 := cell_of_row v3 _ 22 _ _ _ f0
                      have g23 := cell_of_row v3 _ 23 _ _ _ e0
                      have k23 := cell_of_row v3 _ 23 _ _ _ f0
                      have g24 := cell_of_row v3 _ 24 _ _ _ e0
                      have k24 := cell_of_row v3 _ 24 _ _ _ f0
                      have g25 := cell_of_row v3 _ 25 _ _ _ e0
                      have k25 := cell_of_row v3 _ 25 _ _ _ f0
                      have g26 := cell_of_row v3 _ 26 _ _ _ e0
                      have k26 := cell_of_row v3 _ 26 _ _ _ f0
                      have g27 := cell_of_row v3 _ 27 _ _ _ e0
                      have k27 := cell_of_row v3 _ 27 _ _ _ f0
                      have g28 := cell_of_row v3 _ 28 _ _ _ e0
                      have k28 := cell_of_row v3 _ 28 _ _ _ f0
                      have HB3 := hid (And.intro (HB2.out.1.trans (hb.mono HB2.out.1.size)) (And.intro (HB2.out.2.1.trans (hb.mono HB2.out.2.1.size)) (And.intro (Array.getElem?_eq_some_iff.1 e0).1 (Array.getElem?_eq_some_iff.1 f0).1)))
                      have HC3 := hid (And.intro e0 f0)
                      clear hb e0 f0
                      cases hA3 : p.d.t.eq q.d.t with
                      | true =>
                        go_wp2_with fail
                        refine (HK4.out _ HB3.out.1).mono ?_
                        rintro e v4 ⟨rfl, hb⟩
                        have HZ := hid hb
                        clear hb
                        go_wp2_with fail
                        go_ret
                        exact ⟨by rw [hA0, hA1, hA2, hA3]; try rw [Bool.true_and]; try rw [Bool.true_and]; try rw [Bool.true_and]; try rw [Bool.true_and]; first | rfl | simp, HB3.out.2.1.trans (HZ.out.mono HB3.out.2.1.size)⟩
                      | false =>
                        go_wp2_with fail
                        go_ret
                        exact ⟨by rw [hA0, hA1, hA2, hA3]; simp, HB3.out.2.1⟩
                    | false =>
                      go_wp2_with fail
                      go_ret
                      exact ⟨by rw [hA0, hA1, hA2]; simp, HB2.out.2.1⟩
                  | false =>
                    go_wp2_with fail
                    go_ret
                    exact ⟨by rw [hA0, hA1]; simp, HB1.out.2.1⟩
                | false =>
                  go_wp2_with fail
                  go_ret
                  exact ⟨by rw [hA0]; simp, HB0.out.2.1⟩
              · have q6 := toList_ne h6
                have hres : (p.d.eq q.d) = false := by simp [Dc.eq, h6]
                rw [hres]
                clear hres h0 h1 h2 h3 h4 h5 h6
                go_enter Tryz.func82, Tryz.ntmps82
                go_wp2_with fail
                go_ret
                exact ⟨rfl, HB.out.2.1⟩
            · have q5 : (p.d.dp == q.d.dp) = false := by rw [beq_eq_false_iff_ne]; exact h5
              have hres : (p.d.eq q.d) = false := by simp [Dc.eq, h5]
              rw [hres]
              clear hres h0 h1 h2 h3 h4 h5
              go_enter Tryz.func82, Tryz.ntmps82
              go_wp2_with fail
              go_ret
              exact ⟨rfl, HB.out.2.1⟩
          · have q4 : (p.d.ex == q.d.ex) = false := by rw [beq_eq_false_iff_ne]; exact h4
            have hres : (p.d.eq q.d) = false := by simp [Dc.eq, h4]
            rw [hres]
            clear hres h0 h1 h2 h3 h4
            go_enter Tryz.func82, Tryz.ntmps82
            go_wp2_with fail
            go_ret
            exact ⟨rfl, HB.out.2.1⟩
        · have q3 := toList_ne h3
          have hres : (p.d.eq q.d) = false := by simp [Dc.eq, h3]
          rw [hres]
          clear hres h0 h1 h2 h3
          go_enter Tryz.func82, Tryz.ntmps82
          go_wp2_with fail
          go_ret
          exact ⟨rfl, HB.out.2.1⟩
      · have q2 := toList_ne h2
        have hres : (p.d.eq q.d) = false := by simp [Dc.eq, h2]
        rw [hres]
        clear hres h0 h1 h2
        go_enter Tryz.func82, Tryz.ntmps82
        go_wp2_with fail
        go_ret
        exact ⟨rfl, HB.out.2.1⟩
    · have q1 := toList_ne h1
      have hres : (p.d.eq q.d) = false := by simp [Dc.eq, h1]
      rw [hres]
      clear hres h0 h1
      go_enter Tryz.func82, Tryz.ntmps82
      go_wp2_with fail
      go_ret
      exact ⟨rfl, HB.out.2.1⟩
  · have q0 : (p.d.k == q.d.k) = false := by rw [beq_eq_false_iff_ne]; exact h0
    have hres : (p.d.eq q.d) = false := by simp [Dc.eq, h0]
    rw [hres]
    clear hres h0
    go_enter Tryz.func82, Tryz.ntmps82
    go_wp2_with fail
    go_ret
    exact ⟨rfl, HB.out.2.1⟩
end Go.Proofs.YtnkhebgjhipepaaGreatDoor
