/- syntax, the reference: types compared. -/
import Derived.Test.YtjedcijddlilaaaGreatDoorEv
import Derived.Test.YtjedcijddlilaaaGreatDoorSyQ
import Derived.Test.YtjedcijddlilaaaGreatDoorQuietTail
import Derived.Test.YtjedcijddlilaaaGreatDoorSyG2
namespace Go.Proofs.YtjedcijddlilaaaGreatDoor
open Go.RowKit Go.Shelf

def REq (w0 : World) (s : Nat) : Prop := ∀ x y : TyI w0, x.t.size ≤ s → ∀ W, Below w0.heap.size w0 W → Calls Tryz.prog 18 #[.agg #[.int .i64 x.t.k, .string x.t.m, .string x.t.n, .slice x.aa x.t.A.len x.ca, .slice x.af x.t.F.len x.cf], .agg #[.int .i64 y.t.k, .string y.t.m, .string y.t.n, .slice y.aa y.t.A.len y.ca, .slice y.af y.t.F.len y.cf]] W fun e W' => e = .returned (.bool (x.t.eq y.t)) ∧ Below W.heap.size W W'
set_option maxRecDepth 100000 in
set_option maxHeartbeats 8000000 in
theorem req_lists (w0 : World) (s : Nat) (ih : REq w0 s) (hs : s ≤ 1099511627776) (T U : Tr) (hT : T.size ≤ s) (aa ab : Option Addr) (ca cb : Nat) (hA : RowAt w0 T false aa 0) (hB : RowAt w0 U false ab 0) (W : World) (hW : Below w0.heap.size w0 W) :
 Calls Tryz.prog 61 #[.slice aa T.len ca, .slice ab U.len cb] W
  fun e W' => e = .returned (.bool (T.eq false U)) ∧ Below W.heap.size W W' := by
 have HI := hid ih
 have HA := hid (And.intro hA hB)
 have HW := hid hW
 have hlT := Tr.len_le T
 clear ih hA hB hW
 by_cases hl : T.len = U.len
 · have hl2 : (U.len : Int) = (T.len : Int) := by rw [hl]
   rw [← hl]
   have HL := hid hl
   clear hl hl2
   go_enter Tryz.func61, Tryz.ntmps61
   go_wp2_with fail
   go_loopw [5] (fun a wr => ∃ (i : Nat) (r1 r2 : Tr), a = .int .i64 (i : Int) ∧ r1.len + i = T.len ∧ r1.len = r2.len ∧ r1.size ≤ s ∧ T.eq false U = r1.eq false r2 ∧ RowAt w0 r1 false aa i ∧ RowAt w0 r2 false ab i ∧ Below W.heap.size W wr) (fun a _ => T.len - (intOf a).toNat)
   case atStart => exact ⟨0, T, U, rfl, by omega, HL.out, hT, rfl, HA.out.1, HA.out.2, Below.refl _ _⟩
   case round =>
    obtain ⟨i, r1, r2, rfl, h1, h2, h3, h4, h5, h6, h7⟩ := hrel
    cases r1 with
    | nil =>
     cases r2 with
     | node => simp [Tr.len] at h2
     | nil =>
      have hi : i = T.len := by simp [Tr.len] at h1; omega
      subst hi
      have HQ := hid (And.intro h4 h7)
      clear h1 h2 h3 h4 h5 h6 h7
      go_wp2_with fail
      go_ret
      exact ⟨by rw [HQ.out.1]; rfl, HQ.out.2⟩
    | node fn op k m n A F nx =>
     cases r2 with
     | nil => simp [Tr.len] at h2
     | node fn' op' k' m' n' A' F' nx' =>
      have hlt : i < T.len := by simp only [Tr.len] at h1; omega
      obtain ⟨b, o, x, rfl, hx, ⟨c0, c1, c2, c3, c4⟩, hr1⟩ := rowAt_ty h5
      obtain ⟨b', o', y, rfl, hy, ⟨d0, d1, d2, d3, d4⟩, hr2⟩ := rowAt_ty h6
      have hwr := HW.out.trans (h7.mono HW.out.size)
      have C0 := (show ∀ X : Later wr, X.now.cell? ⟨b, o + i * 5, none⟩ = _ from fun X => old_cell (hwr.trans (X.since.mono hwr.size)) c0)
      have C1 := (show ∀ X : Later wr, X.now.cell? ⟨b, o + i * 5 + 1, none⟩ = _ from fun X => old_cell (hwr.trans (X.since.mono hwr.size)) c1)
      have C2 := (show ∀ X : Later wr, X.now.cell? ⟨b, o + i * 5 + 2, none⟩ = _ from fun X => old_cell (hwr.trans (X.since.mono hwr.size)) c2)
      have C3 := (show ∀ X : Later wr, X.now.cell? ⟨b, o + i * 5 + 3, none⟩ = _ from fun X => old_cell (hwr.trans (X.since.mono hwr.size)) c3)
      have C4 := (show ∀ X : Later wr, X.now.cell? ⟨b, o + i * 5 + 4, none⟩ = _ from fun X => old_cell (hwr.trans (X.since.mono hwr.size)) c4)
      have D0 := (show ∀ X : Later wr, X.now.cell? ⟨b', o' + i * 5, none⟩ = _ from fun X => old_cell (hwr.trans (X.since.mono hwr.size)) d0)
      have D1 := (show ∀ X : Later wr, X.now.cell? ⟨b', o' + i * 5 + 1, none⟩ = _ from fun X => old_cell (hwr.trans (X.since.mono hwr.size)) d1)
      have D2 := (show ∀ X : Later wr, X.now.cell? ⟨b', o' + i * 5 + 2, none⟩ = _ from fun X => old_cell (hwr.trans (X.since.mono hwr.size)) d2)
      have D3 := (show ∀ X : Later wr, X.now.cell? ⟨b', o' + i * 5 + 3, none⟩ = _ from fun X => old_cell (hwr.trans (X.since.mono hwr.size)) d3)
      have D4 := (show ∀ X : Later wr, X.now.cell? ⟨b', o' + i * 5 + 4, none⟩ = _ from fun X => old_cell (hwr.trans (X.since.mono hwr.size)) d4)
      have hxs : x.t.size ≤ s := by rw [hx]; simp only [Tr.size] at h3; simp only [Ty.size]; omega
      have HE : Kpt (∀ X : Later wr, Calls Tryz.prog 18 #[.agg #[.int .i64 x.t.k, .string x.t.m, .string x.t.n, .slice x.aa x.t.A.len x.ca, .slice x.af x.t.F.len x.cf], .agg #[.int .i64 y.t.k, .string y.t.m, .string y.t.n, .slice y.aa y.t.A.len y.ca, .slice y.af y.t.F.len y.cf]] X.now fun e w'' => e = .returned (.bool (x.t.eq y.t)) ∧ ∃ y : Later wr, w'' = y.now) := hid (fun X => Calls.later_of (HI.out x y hxs X.now (hwr.trans (X.since.mono hwr.size))))
      have heq : Tr.eq false (.node fn op k m n A F nx) (.node fn' op' k' m' n' A' F' nx') = (x.t.eq y.t && nx.eq false nx') := by rw [hx, hy]; rfl
      rw [heq] at h4
      have hsn : nx.size ≤ s := by simp only [Tr.size] at h3; omega
      simp only [Tr.len] at h1 h2
      have HQ := hid (And.intro h4 (And.intro h7 (And.intro hwr (And.intro hr1 (And.intro hr2 (And.intro (show nx.len + (i + 1) = T.len by omega) (And.intro (show nx.len = nx'.len by omega) hsn)))))))
      clear h1 h2 h3 h4 h5 h6 h7 hwr hr1 hr2 heq hxs hsn hx hy c0 c1 c2 c3 c4 d0 d1 d2 d3 d4
      cases hxy : x.t.eq y.t with
      | true =>
       rw [hxy] at HE HQ
       clear hxy
       go_wp2_with fail
       refine wp_region_later (by kernel_rfl) (by kernel_rfl) ?_
       repeat (go_big_quiet_step (first | (go_at_call 18; with_reducible exact HE.out _)))
       refine wpQuiet_nil ?_
       intro _ hw'
       obtain ⟨X, hX⟩ := hw'
       subst hX
       go_wp2_with fail
       go_roundw
       case rel => exact ⟨i + 1, nx, nx', by go_num, HQ.out.2.2.2.2.2.1, HQ.out.2.2.2.2.2.2.1, HQ.out.2.2.2.2.2.2.2, by rw [HQ.out.1, Bool.true_and], HQ.out.2.2.2.1, HQ.out.2.2.2.2.1, HQ.out.2.1.trans (X.since.mono HQ.out.2.1.size)⟩
       case measure => simp [intOf]; omega
      | false =>
       rw [hxy] at HE HQ
       clear hxy
       go_wp2_with fail
       refine wp_region_later (by kernel_rfl) (by kernel_rfl) ?_
       repeat (go_big_quiet_step (first | (go_at_call 18; with_reducible exact HE.out _)))
       refine wpQuiet_nil ?_
       intro _ hw'
       obtain ⟨X, hX⟩ := hw'
       subst hX
       go_wp2_with fail
       go_ret
       exact ⟨by rw [HQ.out.1, Bool.false_and]; rfl, HQ.out.2.1.trans (X.since.mono HQ.out.2.1.size)⟩
 · have hne : ((T.len : Int) == (U.len : Int)) = false := by rw [beq_eq_false_iff_ne]; omega
   have hf : T.eq false U = false := by
    cases h : T.eq false U with
    | false => rfl
    | true => exact absurd (Tr.eq_len h) hl
   have HF := hid hf
   clear hf
   go_enter Tryz.func61, Tryz.ntmps61
   go_wp2_with fail
   go_ret
   exact ⟨by rw [HF.out]; rfl, Below.refl _ _⟩
set_option maxRecDepth 100000 in
set_option maxHeartbeats 8000000 in
theorem req_step (w0 : World) (s : Nat) (hs : s + 1 ≤ 1099511627776) (ih : REq w0 s) (x y : TyI w0) (hx : x.t.size ≤ s + 1) (W : World) (hW : Below w0.heap.size w0 W) :
 Calls Tryz.prog 18 #[.agg #[.int .i64 x.t.k, .string x.t.m, .string x.t.n, .slice x.aa x.t.A.len x.ca, .slice x.af x.t.F.len x.cf], .agg #[.int .i64 y.t.k, .string y.t.m, .string y.t.n, .slice y.aa y.t.A.len y.ca, .slice y.af y.t.F.len y.cf]] W fun e W' => e = .returned (.bool (x.t.eq y.t)) ∧ Below W.heap.size W W' := by
 have hsz : x.t.size = 1 + x.t.A.size + x.t.F.size := rfl
 have HI := hid ih
 have HL := hid (fun W' (hW' : Below w0.heap.size w0 W') => req_lists w0 s ih (by omega) x.t.A y.t.A (by omega) x.aa y.aa x.ca y.ca (rowAt_zero x.ha) (rowAt_zero y.ha) W' hW')
 have hFs : x.t.F.size ≤ s := by omega
 have hlF := Tr.len_le x.t.F
 clear ih hsz hx
 obtain ⟨wa, hwa⟩ : ∃ wa, W.alloc (.cells #[.int .i64 x.t.k, .string x.t.m, .string x.t.n, .slice x.aa x.t.A.len x.ca, .slice x.af x.t.F.len x.cf] 25) = wa := ⟨_, rfl⟩
 have hba : Below W.heap.size W wa := by rw [← hwa]; exact (Below.refl _ W).alloc (Nat.le_refl _) _
 have hsa : W.heap.size + 1 = wa.heap.size := by rw [← hwa]; simp
 obtain ⟨wb, hwb⟩ : ∃ wb, wa.alloc (.cells #[.int .i64 y.t.k, .string y.t.m, .string y.t.n, .slice y.aa y.t.A.len y.ca, .slice y.af y.t.F.len y.cf] 25) = wb := ⟨_, rfl⟩
 have hbb : Below wa.heap.size wa wb := by rw [← hwb]; exact (Below.refl _ wa).alloc (Nat.le_refl _) _
 have e0 : wb.heap[W.heap.size]? = some (.cells #[.int .i64 x.t.k, .string x.t.m, .string x.t.n, .slice x.aa x.t.A.len x.ca, .slice x.af x.t.F.len x.cf] 25 (0, 0)) := (hbb.block _ (by omega)).trans (by rw [← hwa]; exact World.alloc_heap_new _ _)
 have f0 : wb.heap[wa.heap.size]? = some (.cells #[.int .i64 y.t.k, .string y.t.m, .string y.t.n, .slice y.aa y.t.A.len y.ca, .slice y.af y.t.F.len y.cf] 25 (0, 0)) := by rw [← hwb]; exact World.alloc_heap_new _ _
 have hwrb : Below W.heap.size W wb := hba.trans (hbb.mono hba.size)
 have HB := hid (And.intro (hW.trans (hwrb.mono hW.size)) (And.intro hwrb (And.intro (Array.getElem?_eq_some_iff.1 e0).1 (Array.getElem?_eq_some_iff.1 f0).1)))
 have g0 := cell_of_row wb _ 0 _ _ _ e0
 have k0 := cell_of_row wb _ 0 _ _ _ f0
 have g1 := cell_of_row wb _ 1 _ _ _ e0
 have k1 := cell_of_row wb _ 1 _ _ _ f0
 have g2 := cell_of_row wb _ 2 _ _ _ e0
 have k2 := cell_of_row wb _ 2 _ _ _ f0
 have g3 := cell_of_row wb _ 3 _ _ _ e0
 have k3 := cell_of_row wb _ 3 _ _ _ f0
 have g4 := cell_of_row wb _ 4 _ _ _ e0
 have k4 := cell_of_row wb _ 4 _ _ _ f0
 have HC := hid (And.intro e0 f0)
 clear e0 f0 hba hsa hbb hwrb hW
 by_cases h0 : x.t.k = y.t.k
 · have q0 : (x.t.k == y.t.k) = true := by rw [h0]; simp
   have u0 : (x.t.k != y.t.k) = false := by simp [h0]
   by_cases h1 : x.t.m = y.t.m
   · have q1 : (x.t.m.toList == y.t.m.toList) = true := by rw [h1]; simp
     by_cases h2 : x.t.n = y.t.n
     · have q2 : (x.t.n.toList == y.t.n.toList) = true := by rw [h2]; simp
       by_cases h3 : x.t.F.len = y.t.F.len
       · have hres : x.t.eq y.t = (x.t.F.eq true y.t.F && x.t.A.eq false y.t.A) := by simp [Ty.eq, h0, h1, h2, Bool.and_comm]
         rw [hres]
         clear hres h0 h1 h2
         have hl2 : (y.t.F.len : Int) = (x.t.F.len : Int) := by rw [h3]
         have HLE := hid h3
         rw [← h3] at k4
         clear h3 hl2
         have HC2 : Kpt (wb.heap[wa.heap.size]? = some (.cells #[.int .i64 y.t.k, .string y.t.m, .string y.t.n, .slice y.aa y.t.A.len y.ca, .slice y.af x.t.F.len y.cf] 25 (0, 0))) := hid (by rw [HLE.out]; exact HC.out.2)
         go_enter Tryz.func18, Tryz.ntmps18
         go_wp2_with fail
         go_loopw [5] (fun a wr => ∃ (i : Nat) (r1 r2 : Tr), a = .int .i64 (i : Int) ∧ r1.len + i = x.t.F.len ∧ r1.len = r2.len ∧ r1.size ≤ s ∧ x.t.F.eq true y.t.F = r1.eq true r2 ∧ RowAt w0 r1 true x.af i ∧ RowAt w0 r2 true y.af i ∧ Below wb.heap.size wb wr) (fun a _ => x.t.F.len - (intOf a).toNat)
         case atStart => exact ⟨0, x.t.F, y.t.F, rfl, by omega, HLE.out, hFs, rfl, rowAt_zero x.hf, rowAt_zero y.hf, Below.refl _ _⟩
         case round =>
          obtain ⟨i, r1, r2, rfl, h1, h2, h3, h4, h5, h6, h7⟩ := hrel
          clear g0 g1 g2 g3 g4 k0 k1 k2 k3 k4 q0 q1 q2 u0
          have e0 := (h7.block _ HB.out.2.2.1).trans HC.out.1
          have f0 := (h7.block _ HB.out.2.2.2).trans HC2.out
          cases r1 with
          | nil =>
           cases r2 with
           | node => simp [Tr.len] at h2
           | nil =>
            have hi : i = x.t.F.len := by simp [Tr.len] at h1; omega
            subst hi
            have HQ := hid (And.intro h4 h7)
            have g3 := cell_of_row wr _ 3 _ _ _ e0
            have g4 := cell_of_row wr _ 4 _ _ _ e0
            have k3 := cell_of_row wr _ 3 _ _ _ f0
            clear h1 h2 h3 h4 h5 h6 h7 e0 f0
            go_wp2_with fail
            refine (HL.out _ (HB.out.1.trans (HQ.out.2.mono HB.out.1.size))).mono ?_
            rintro e w3 ⟨rfl, hb3⟩
            have HZ := hid hb3
            clear hb3
            go_wp2_with fail
            go_ret
            exact ⟨by rw [HQ.out.1]; simp [Tr.eq], HB.out.2.1.trans ((HQ.out.2.trans (HZ.out.mono HQ.out.2.size)).mono HB.out.2.1.size)⟩
          | node fn op k m n A F nx =>
           cases r2 with
           | nil => simp [Tr.len] at h2
           | node fn' op' k' m' n' A' F' nx' =>
            have hlt : i < x.t.F.len := by simp only [Tr.len] at h1; omega
            obtain ⟨b, o, p, hbo, hp, ⟨c0, c1, c2, c3, c4, c5, c6⟩, hr1⟩ := rowAt_fd h5
            obtain ⟨b', o', q, hbo', hq, ⟨d0, d1, d2, d3, d4, d5, d6⟩, hr2⟩ := rowAt_fd h6
            have hwr := HB.out.1.trans (h7.mono HB.out.1.size)
            have C0 := (show ∀ X : Later wr, X.now.cell? ⟨b, o + i * 7, none⟩ = _ from fun X => old_cell (hwr.trans (X.since.mono hwr.size)) c0)
            have C1 := (show ∀ X : Later wr, X.now.cell? ⟨b, o + i * 7 + 1, none⟩ = _ from fun X => old_cell (hwr.trans (X.since.mono hwr.size)) c1)
            have C2 := (show ∀ X : Later wr, X.now.cell? ⟨b, o + i * 7 + 2, none⟩ = _ from fun X => old_cell (hwr.trans (X.since.mono hwr.size)) c2)
            have C3 := (show ∀ X : Later wr, X.now.cell? ⟨b, o + i * 7 + 3, none⟩ = _ from fun X => old_cell (hwr.trans (X.since.mono hwr.size)) c3)
            have C4 := (show ∀ X : Later wr, X.now.cell? ⟨b, o + i * 7 + 4, none⟩ = _ from fun X => old_cell (hwr.trans (X.since.mono hwr.size)) c4)
            have C5 := (show ∀ X : Later wr, X.now.cell? ⟨b, o + i * 7 + 5, none⟩ = _ from fun X => old_cell (hwr.trans (X.since.mono hwr.size)) c5)
            have C6 := (show ∀ X : Later wr, X.now.cell? ⟨b, o + i * 7 + 6, none⟩ = _ from fun X => old_cell (hwr.trans (X.since.mono hwr.size)) c6)
            have D0 := (show ∀ X : Later wr, X.now.cell? ⟨b', o' + i * 7, none⟩ = _ from fun X => old_cell (hwr.trans (X.since.mono hwr.size)) d0)
            have D1 := (show ∀ X : Later wr, X.now.cell? ⟨b', o' + i * 7 + 1, none⟩ = _ from fun X => old_cell (hwr.trans (X.since.mono hwr.size)) d1)
            have D2 := (show ∀ X : Later wr, X.now.cell? ⟨b', o' + i * 7 + 2, none⟩ = _ from fun X => old_cell (hwr.trans (X.since.mono hwr.size)) d2)
            have D3 := (show ∀ X : Later wr, X.now.cell? ⟨b', o' + i * 7 + 3, none⟩ = _ from fun X => old_cell (hwr.trans (X.since.mono hwr.size)) d3)
            have D4 := (show ∀ X : Later wr, X.now.cell? ⟨b', o' + i * 7 + 4, none⟩ = _ from fun X => old_cell (hwr.trans (X.since.mono hwr.size)) d4)
            have D5 := (show ∀ X : Later wr, X.now.cell? ⟨b', o' + i * 7 + 5, none⟩ = _ from fun X => old_cell (hwr.trans (X.since.mono hwr.size)) d5)
            have D6 := (show ∀ X : Later wr, X.now.cell? ⟨b', o' + i * 7 + 6, none⟩ = _ from fun X => old_cell (hwr.trans (X.since.mono hwr.size)) d6)
            have g4w : wr.cell? ⟨W.heap.size, 4, none⟩ = some (.slice (some ⟨b, o, none⟩) x.t.F.len x.cf) := by rw [← hbo]; exact cell_of_row wr _ 4 _ _ _ e0
            have g4 := (show ∀ X : Later wr, X.now.cell? ⟨W.heap.size, 4, none⟩ = some (.slice (some ⟨b, o, none⟩) x.t.F.len x.cf) from fun X => by rw [← hbo]; exact cell_of_row X.now _ 4 _ _ _ ((X.since.block _ (Nat.lt_of_lt_of_le HB.out.2.2.1 h7.size)).trans e0))
            have k4 := (show ∀ X : Later wr, X.now.cell? ⟨wa.heap.size, 4, none⟩ = some (.slice (some ⟨b', o', none⟩) x.t.F.len y.cf) from fun X => by rw [← hbo']; exact cell_of_row X.now _ 4 _ _ _ ((X.since.block _ (Nat.lt_of_lt_of_le HB.out.2.2.2 h7.size)).trans f0))
            have hps : p.t.size ≤ s := by rw [hp]; simp only [Tr.size] at h3; simp only [Ty.size]; omega
            have HE : Kpt (∀ X : Later wr, Calls Tryz.prog 18 #[.agg #[.int .i64 p.t.k, .string p.t.m, .string p.t.n, .slice p.aa p.t.A.len p.ca, .slice p.af p.t.F.len p.cf], .agg #[.int .i64 q.t.k, .string q.t.m, .string q.t.n, .slice q.aa q.t.A.len q.ca, .slice q.af q.t.F.len q.cf]] X.now fun e w'' => e = .returned (.bool (p.t.eq q.t)) ∧ ∃ y : Later wr, w'' = y.now) := hid (fun X => Calls.later_of (HI.out p q hps X.now (hwr.trans (X.since.mono hwr.size))))
            have heq : Tr.eq true (.node fn op k m n A F nx) (.node fn' op' k' m' n' A' F' nx') = (fdEq fn fn' op op' p.t q.t && nx.eq true nx') := by rw [hp, hq]; simp [Tr.eq, fdEq, Ty.eq]
            rw [heq] at h4
            have hsn : nx.size ≤ s := by simp only [Tr.size] at h3; omega
            simp only [Tr.len] at h1 h2
            have HQ := hid (And.intro h4 (And.intro h7 (And.intro hr1 (And.intro hr2 (And.intro (show nx.len + (i + 1) = x.t.F.len by omega) (And.intro (show nx.len = nx'.len by omega) hsn))))))
            clear h1 h2 h3 h4 h5 h6 h7 hwr hr1 hr2 heq hps hsn hp hq c0 c1 c2 c3 c4 c5 c6 d0 d1 d2 d3 d4 d5 d6 e0 f0 hbo hbo'
            by_cases hfn : fn = fn'
            · have qn : (fn.toList == fn'.toList) = true := by rw [hfn]; simp
              by_cases hop : op = op'
              · have qo : (op == op') = true := by rw [hop]; simp
                have qo2 : (op != op') = false := by rw [hop]; simp
                have hfd : fdEq fn fn' op op' p.t q.t = p.t.eq q.t := by simp [fdEq, hfn, hop]
                rw [hfd] at HQ
                clear hfd hfn hop
                cases hpq : p.t.eq q.t with
                | true =>
                 rw [hpq] at HE HQ
                 clear hpq
                 go_wp2_with fail
                 refine wp_region_later (by kernel_rfl) (by kernel_rfl) ?_
                 repeat (go_big_quiet_step (first | (go_at_call 18; with_reducible exact HE.out _)))
                 refine wpQuiet_nil ?_
                 intro _ hw'
                 obtain ⟨X, hX⟩ := hw'
                 subst hX
                 go_wp2_with fail
                 go_roundw
                 case rel => exact ⟨i + 1, nx, nx', by go_num, HQ.out.2.2.2.2.1, HQ.out.2.2.2.2.2.1, HQ.out.2.2.2.2.2.2, by rw [HQ.out.1, Bool.true_and], HQ.out.2.2.1, HQ.out.2.2.2.1, HQ.out.2.1.trans (X.since.mono HQ.out.2.1.size)⟩
                 case measure => simp [intOf]; omega
                | false =>
                 rw [hpq] at HE HQ
                 clear hpq
                 go_wp2_with fail
                 refine wp_region_later (by kernel_rfl) (by kernel_rfl) ?_
                 repeat (go_big_quiet_step (first | (go_at_call 18; with_reducible exact HE.out _)))
                 refine wpQuiet_nil ?_
                 intro _ hw'
                 obtain ⟨X, hX⟩ := hw'
                 subst hX
                 go_wp2_with fail
                 go_ret
                 exact ⟨by rw [HQ.out.1]; simp, HB.out.2.1.trans ((HQ.out.2.1.trans (X.since.mono HQ.out.2.1.size)).mono HB.out.2.1.size)⟩
              · have qo : (op == op') = false := by simpa using hop
                have qo2 : (op != op') = true := by simpa using hop
                have hfd : fdEq fn fn' op op' p.t q.t = false := by simp [fdEq, qo]
                rw [hfd] at HQ
                clear hfd hfn hop
                go_wp2_with fail
                refine wp_region_later (by kernel_rfl) (by kernel_rfl) ?_
                repeat (go_big_quiet_step (first | (go_at_call 18; with_reducible exact HE.out _)))
                refine wpQuiet_nil ?_
                intro _ hw'
                obtain ⟨X, hX⟩ := hw'
                subst hX
                go_wp2_with fail
                go_ret
                exact ⟨by rw [HQ.out.1]; simp, HB.out.2.1.trans ((HQ.out.2.1.trans (X.since.mono HQ.out.2.1.size)).mono HB.out.2.1.size)⟩
            · have qn := toList_ne hfn
              have hfd : fdEq fn fn' op op' p.t q.t = false := by simp [fdEq, hfn]
              rw [hfd] at HQ
              clear hfd hfn
              go_wp2_with fail
              refine wp_region_later (by kernel_rfl) (by kernel_rfl) ?_
              repeat (go_big_quiet_step (first | (go_at_call 18; with_reducible exact HE.out _)))
              refine wpQuiet_nil ?_
              intro _ hw'
              obtain ⟨X, hX⟩ := hw'
              subst hX
              go_wp2_with fail
              go_ret
              exact ⟨by rw [HQ.out.1]; simp, HB.out.2.1.trans ((HQ.out.2.1.trans (X.since.mono HQ.out.2.1.size)).mono HB.out.2.1.size)⟩
       · have q3 : ((x.t.F.len : Int) == (y.t.F.len : Int)) = false := by rw [beq_eq_false_iff_ne]; omega
         have u3 : ((x.t.F.len : Int) != (y.t.F.len : Int)) = true := by simp; omega
         have hf : x.t.F.eq true y.t.F = false := by
          cases h : x.t.F.eq true y.t.F with
          | false => rfl
          | true => exact absurd (Tr.eq_len h) h3
         have hres : x.t.eq y.t = false := by simp [Ty.eq, hf]
         rw [hres]
         clear hres
         clear hf h0 h1 h2 h3
         go_enter Tryz.func18, Tryz.ntmps18
         go_wp2_with fail
         go_ret
         exact ⟨rfl, HB.out.2.1⟩
     · have q2 := toList_ne h2
       have hres : x.t.eq y.t = false := by simp [Ty.eq, h2]
       rw [hres]
       clear hres
       clear h0 h1 h2
       go_enter Tryz.func18, Tryz.ntmps18
       go_wp2_with fail
       go_ret
       exact ⟨rfl, HB.out.2.1⟩
   · have q1 := toList_ne h1
     have hres : x.t.eq y.t = false := by simp [Ty.eq, h1]
     rw [hres]
     clear hres
     clear h0 h1
     go_enter Tryz.func18, Tryz.ntmps18
     go_wp2_with fail
     go_ret
     exact ⟨rfl, HB.out.2.1⟩
 · have q0 : (x.t.k == y.t.k) = false := by rw [beq_eq_false_iff_ne]; exact h0
   have u0 : (x.t.k != y.t.k) = true := by simp [h0]
   have hres : x.t.eq y.t = false := by simp [Ty.eq, h0]
   rw [hres]
   clear hres
   clear h0
   go_enter Tryz.func18, Tryz.ntmps18
   go_wp2_with fail
   go_ret
   exact ⟨rfl, HB.out.2.1⟩
theorem req_all (w0 : World) : ∀ s, s ≤ 1099511627776 → REq w0 s := by
 intro s
 induction s with
 | zero => intro _ x y hx; simp only [Ty.size] at hx; omega
 | succ s ih => intro hs x y hx W hW; exact req_step w0 s hs (ih (by omega)) x y hx W hW
end Go.Proofs.YtjedcijddlilaaaGreatDoor
