/- syntax, the reference: types compared. | syntax, the reference: expressions compared. | syntax, the reference: parameters compared. -/
import Derived.Test.YtnkhebgjhipepaaGreatDoorEv
import Derived.Test.YtnkhebgjhipepaaGreatDoorSyQ
import Derived.Test.YtnkhebgjhipepaaGreatDoorQuietTail
import Derived.Test.YtnkhebgjhipepaaGreatDoorSyG2
namespace Go.Proofs.YtnkhebgjhipepaaGreatDoor
open Go.RowKit Go.Shelf

def REq (w0 : World) (s : Nat) : Prop := ∀ x y : TyI w0, x.t.size ≤ s → ∀ W, Below w0.heap.size w0 W → Calls Tryz.prog 28 #[.agg #[.int .i64 x.t.k, .string x.t.m, .string x.t.n, .slice x.aa x.t.A.len x.ca, .slice x.af x.t.F.len x.cf], .agg #[.int .i64 y.t.k, .string y.t.m, .string y.t.n, .slice y.aa y.t.A.len y.ca, .slice y.af y.t.F.len y.cf]] W fun e W' => e = .returned (.bool (x.t.eq y.t)) ∧ Below W.heap.size W W'
set_option maxRecDepth 100000 in
set_option maxHeartbeats 8000000 in
theorem req_lists (w0 : World) (s : Nat) (ih : REq w0 s) (hs : s ≤ 1099511627776) (T U : Tr) (hT : T.size ≤ s) (aa ab : Option Addr) (ca cb : Nat) (hA : RowAt w0 T false aa 0) (hB : RowAt w0 U false ab 0) (W : World) (hW : Below w0.heap.size w0 W) :
    Calls Tryz.prog 76 #[.slice aa T.len ca, .slice ab U.len cb] W
      fun e W' => e = .returned (.bool (T.eq false U)) ∧ Below W.heap.size W W' := by
  have HI := hid ih
  have HA := hid (And.intro hA hB)
  have HW := hid hW
  have hlT := Tr.len_le T
  clear ih hA hB hW
  by_cases hl : T.len = U.len
  · have hl2 : (U.len : Int) = (T.len : Int) := by rw [hl]
    rw [← hl]
    have HL := hid hl
    clear hl hl2
    go_enter Tryz.func76, Tryz.ntmps76
    go_wp2_with fail
    go_loopw [5] (fun a wr => ∃ (i : Nat) (r1 r2 : Tr), a = .int .i64 (i : Int) ∧ r1.len + i = T.len ∧ r1.len = r2.len ∧ r1.size ≤ s ∧ T.eq false U = r1.eq false r2 ∧ RowAt w0 r1 false aa i ∧ RowAt w0 r2 false ab i ∧ Below W.heap.size W wr) (fun a _ => T.len - (intOf a).toNat)
    case atStart => exact ⟨0, T, U, rfl, by omega, HL.out, hT, rfl, HA.out.1, HA.out.2, Below.refl _ _⟩
    case round =>
      obtain ⟨i, r1, r2, rfl, h1, h2, h3, h4, h5, h6, h7⟩ := hrel
      cases r1 with
      | nil =>
        cases r2 with
        | node => simp [Tr.len] at h2
        | nil =>
          have hi : i = T.len := by simp [Tr.len] at h1; omega
          subst hi
          have HQ := hid (And.intro h4 h7)
          clear h1 h2 h3 h4 h5 h6 h7
          go_wp2_with fail
          go_ret
          exact ⟨by rw [HQ.out.1]; rfl, HQ.out.2⟩
      | node fn op k m n A F nx =>
        cases r2 with
        | nil => simp [Tr.len] at h2
        | node fn' op' k' m' n' A' F' nx' =>
          have hlt : i < T.len := by simp only [Tr.len] at h1; omega
          obtain ⟨b, o, x, rfl, hx, ⟨c0, c1, c2, c3, c4⟩, hr1⟩ := rowAt_ty h5
          obtain ⟨b', o', y, rfl, hy, ⟨d0, d1, d2, d3, d4⟩, hr2⟩ := rowAt_ty h6
          have hwr := HW.out.trans (h7.mono HW.out.size)
          have C0 := (show ∀ X : Later wr, X.now.cell? ⟨b, o + i * 5, none⟩ = _ from fun X => old_cell (hwr.trans (X.since.mono hwr.size)) c0)
          have C1 := (show ∀ X : Later wr, X.now.cell? ⟨b, o + i * 5 + 1, none⟩ = _ from fun X => old_cell (hwr.trans (X.since.mono hwr.size)) c1)
          have C2 := (show ∀ X : Later wr, X.now.cell? ⟨b, o + i * 5 + 2, none⟩ = _ from fun X => old_cell (hwr.trans (X.since.mono hwr.size)) c2)
          have C3 := (show ∀ X : Later wr, X.now.cell? ⟨b, o + i * 5 + 3, none⟩ = _ from fun X => old_cell (hwr.trans (X.since.mono hwr.size)) c3)
          have C4 := (show ∀ X : Later wr, X.now.cell? ⟨b, o + i * 5 + 4, none⟩ = _ from fun X => old_cell (hwr.trans (X.since.mono hwr.size)) c4)
          have D0 := (show ∀ X : Later wr, X.now.cell? ⟨b', o' + i * 5, none⟩ = _ from fun X => old_cell (hwr.trans (X.since.mono hwr.size)) d0)
          have D1 := (show ∀ X : Later wr, X.now.cell? ⟨b', o' + i * 5 + 1, none⟩ = _ from fun X => old_cell (hwr.trans (X.since.mono hwr.size)) d1)
          have D2 := (show ∀ X : Later wr, X.now.cell? ⟨b', o' + i * 5 + 2, none⟩ = _ from fun X => old_cell (hwr.trans (X.since.mono hwr.size)) d2)
          have D3 := (show ∀ X : Later wr, X.now.cell? ⟨b', o' + i * 5 + 3, none⟩ = _ from fun X => old_cell (hwr.trans (X.since.mono hwr.size)) d3)
          have D4 := (show ∀ X : Later wr, X.now.cell? ⟨b', o' + i * 5 + 4, none⟩ = _ from fun X => old_cell (hwr.trans (X.since.mono hwr.size)) d4)
          have hxs : x.t.size ≤ s := by rw [hx]; simp only [Tr.size] at h3; simp only [Ty.size]; omega
          have HE : Kpt (∀ X : Later wr, Calls Tryz.prog 28 #[.agg #[.int .i64 x.t.k, .string x.t.m, .string x.t.n, .slice x.aa x.t.A.len x.ca, .slice x.af x.t.F.len x.cf], .agg #[.int .i64 y.t.k, .string y.t.m, .string y.t.n, .slice y.aa y.t.A.len y.ca, .slice y.af y.t.F.len y.cf]] X.now fun e w'' => e = .returned (.bool (x.t.eq y.t)) ∧ ∃ y : Later wr, w'' = y.now) := hid (fun X => Calls.later_of (HI.out x y hxs X.now (hwr.trans (X.since.mono hwr.size))))
          have heq : Tr.eq false (.node fn op k m n A F nx) (.node fn' op' k' m' n' A' F' nx') = (x.t.eq y.t && nx.eq false nx') := by rw [hx, hy]; rfl
          rw [heq] at h4
          have hsn : nx.size ≤ s := by simp only [Tr.size] at h3; omega
          simp only [Tr.len] at h1 h2
          have HQ := hid (And.intro h4 (And.intro h7 (And.intro hwr (And.intro hr1 (And.intro hr2 (And.intro (show nx.len + (i + 1) = T.len by omega) (And.intro (show nx.len = nx'.len by omega) hsn)))))))
          clear h1 h2 h3 h4 h5 h6 h7 hwr hr1 hr2 heq hxs hsn hx hy c0 c1 c2 c3 c4 d0 d1 d2 d3 d4
          cases hxy : x.t.eq y.t with
          | true =>
            rw [hxy] at HE HQ
            clear hxy
            go_wp2_with fail
            refine wp_region_later (by kernel_rfl) (by kernel_rfl) ?_
            repeat (go_big_quiet_step (first | (go_at_call 28; with_reducible exact HE.out _)))
            refine wpQuiet_nil ?_
            intro _ hw'
            obtain ⟨X, hX⟩ := hw'
            subst hX
            go_wp2_with fail
            go_roundw
            case rel => exact ⟨i + 1, nx, nx', by go_num, HQ.out.2.2.2.2.2.1, HQ.out.2.2.2.2.2.2.1, HQ.out.2.2.2.2.2.2.2, by rw [HQ.out.1, Bool.true_and], HQ.out.2.2.2.1, HQ.out.2.2.2.2.1, HQ.out.2.1.trans (X.since.mono HQ.out.2.1.size)⟩
            case measure => simp [intOf]; omega
          | false =>
            rw [hxy] at HE HQ
            clear hxy
            go_wp2_with fail
            refine wp_region_later (by kernel_rfl) (by kernel_rfl) ?_
            repeat (go_big_quiet_step (first | (go_at_call 28; with_reducible exact HE.out _)))
            refine wpQuiet_nil ?_
            intro _ hw'
            obtain ⟨X, hX⟩ := hw'
            subst hX
            go_wp2_with fail
            go_ret
            exact ⟨by rw [HQ.out.1, Bool.false_and]; rfl, HQ.out.2.1.trans (X.since.mono HQ.out.2.1.size)⟩
  · have hne : ((T.len : Int) == (U.len : Int)) = false := by rw [beq_eq_false_iff_ne]; omega
    have hf : T.eq false U = false := by
      cases h : T.eq false U with
      | false => rfl
      | true => exact absurd (Tr.eq_len h) hl
    have HF := hid hf
    clear hf
    go_enter Tryz.func76, Tryz.ntmps76
    go_wp2_with fail
    go_ret
    exact ⟨by rw [HF.out]; rfl, Below.refl _ _⟩
set_option maxRecDepth 100000 in
set_option maxHeartbeats 8000000 in
theorem req_step (w0 : World) (s : Nat) (hs : s + 1 ≤ 1099511627776) (ih : REq w0 s) (x y : TyI w0) (hx : x.t.size ≤ s + 1) (W : World) (hW : Below w0.heap.size w0 W) :
    Calls Tryz.prog 28 #[.agg #[.int .i64 x.t.k, .string x.t.m, .string x.t.n, .slice x.aa x.t.A.len x.ca, .slice x.af x.t.F.len x.cf], .agg #[.int .i64 y.t.k, .string y.t.m, .string y.t.n, .slice y.aa y.t.A.len y.ca, .slice y.af y.t.F.len y.cf]] W fun e W' => e = .returned (.bool (x.t.eq y.t)) ∧ Below W.heap.size W W' := by
  have hsz : x.t.size = 1 + x.t.A.size + x.t.F.size := rfl
  have HI := hid ih
  have HL := hid (fun W' (hW' : Below w0.heap.size w0 W') => req_lists w0 s ih (by omega) x.t.A y.t.A (by omega) x.aa y.aa x.ca y.ca (rowAt_zero x.ha) (rowAt_zero y.ha) W' hW')
  have hFs : x.t.F.size ≤ s := by omega
  have hlF := Tr.len_le x.t.F
  clear ih hsz hx
  obtain ⟨wa, hwa⟩ : ∃ wa, W.alloc (.cells #[.int .i64 x.t.k, .string x.t.m, .string x.t.n, .slice x.aa x.t.A.len x.ca, .slice x.af x.t.F.len x.cf] 25) = wa := ⟨_, rfl⟩
  have hba : Below W.heap.size W wa := by rw [← hwa]; exact (Below.refl _ W).alloc (Nat.le_refl _) _
  have hsa : W.heap.size + 1 = wa.heap.size := by rw [← hwa]; simp
  obtain ⟨wb, hwb⟩ : ∃ wb, wa.alloc (.cells #[.int .i64 y.t.k, .string y.t.m, .string y.t.n, .slice y.aa y.t.A.len y.ca, .slice y.af y.t.F.len y.cf] 25) = wb := ⟨_, rfl⟩
  have hbb : Below wa.heap.size wa wb := by rw [← hwb]; exact (Below.refl _ wa).alloc (Nat.le_refl _) _
  have e0 : wb.heap[W.heap.size]? = some (.cells #[.int .i64 x.t.k, .string x.t.m, .string x.t.n, .slice x.aa x.t.A.len x.ca, .slice x.af x.t.F.len x.cf] 25 (0, 0)) := (hbb.block _ (by omega)).trans (by rw [← hwa]; exact World.alloc_heap_new _ _)
  have f0 : wb.heap[wa.heap.size]? = some (.cells #[.int .i64 y.t.k, .string y.t.m, .string y.t.n, .slice y.aa y.t.A.len y.ca, .slice y.af y.t.F.len y.cf] 25 (0, 0)) := by rw [← hwb]; exact World.alloc_heap_new _ _
  have hwrb : Below W.heap.size W wb := hba.trans (hbb.mono hba.size)
  have HB := hid (And.intro (hW.trans (hwrb.mono hW.size)) (And.intro hwrb (And.intro (Array.getElem?_eq_some_iff.1 e0).1 (Array.getElem?_eq_some_iff.1 f0).1)))
  have g0 := cell_of_row wb _ 0 _ _ _ e0
  have k0 := cell_of_row wb _ 0 _ _ _ f0
  have g1 := cell_of_row wb _ 1 _ _ _ e0
  have k1 := cell_of_row wb _ 1 _ _ _ f0
  have g2 := cell_of_row wb _ 2 _ _ _ e0
  have k2 := cell_of_row wb _ 2 _ _ _ f0
  have g3 := cell_of_row wb _ 3 _ _ _ e0
  have k3 := cell_of_row wb _ 3 _ _ _ f0
  have g4 := cell_of_row wb _ 4 _ _ _ e0
  have k4 := cell_of_row wb _ 4 _ _ _ f0
  have HC := hid (And.intro e0 f0)
  clear e0 f0 hba hsa hbb hwrb hW
  by_cases h0 : x.t.k = y.t.k
  · have q0 : (x.t.k == y.t.k) = true := by rw [h0]; simp
    have u0 : (x.t.k != y.t.k) = false := by simp [h0]
    by_cases h1 : x.t.m = y.t.m
    · have q1 : (x.t.m.toList == y.t.m.toList) = true := by rw [h1]; simp
      by_cases h2 : x.t.n = y.t.n
      · have q2 : (x.t.n.toList == y.t.n.toList) = true := by rw [h2]; simp
        by_cases h3 : x.t.F.len = y.t.F.len
        · have hres : x.t.eq y.t = (x.t.F.eq true y.t.F && x.t.A.eq false y.t.A) := by simp [Ty.eq, h0, h1, h2, Bool.and_comm]
          rw [hres]
          clear hres h0 h1 h2
          have hl2 : (y.t.F.len : Int) = (x.t.F.len : Int) := by rw [h3]
          have HLE := hid h3
          rw [← h3] at k4
          clear h3 hl2
          have HC2 : Kpt (wb.heap[wa.heap.size]? = some (.cells #[.int .i64 y.t.k, .string y.t.m, .string y.t.n, .slice y.aa y.t.A.len y.ca, .slice y.af x.t.F.len y.cf] 25 (0, 0))) := hid (by rw [HLE.out]; exact HC.out.2)
          go_enter Tryz.func28, Tryz.ntmps28
          go_wp2_with fail
          go_loopw [5] (fun a wr => ∃ (i : Nat) (r1 r2 : Tr), a = .int .i64 (i : Int) ∧ r1.len + i = x.t.F.len ∧ r1.len = r2.len ∧ r1.size ≤ s ∧ x.t.F.eq true y.t.F = r1.eq true r2 ∧ RowAt w0 r1 true x.af i ∧ RowAt w0 r2 true y.af i ∧ Below wb.heap.size wb wr) (fun a _ => x.t.F.len - (intOf a).toNat)
          case atStart => exact ⟨0, x.t.F, y.t.F, rfl, by omega, HLE.out, hFs, rfl, rowAt_zero x.hf, rowAt_zero y.hf, Below.refl _ _⟩
          case round =>
            obtain ⟨i, r1, r2, rfl, h1, h2, h3, h4, h5, h6, h7⟩ := hrel
            clear g0 g1 g2 g3 g4 k0 k1 k2 k3 k4 q0 q1 q2 u0
            have e0 := (h7.block _ HB.out.2.2.1).trans HC.out.1
            have f0 := (h7.block _ HB.out.2.2.2).trans HC2.out
            cases r1 with
            | nil =>
              cases r2 with
              | node => simp [Tr.len] at h2
              | nil =>
                have hi : i = x.t.F.len := by simp [Tr.len] at h1; omega
                subst hi
                have HQ := hid (And.intro h4 h7)
                have g3 := cell_of_row wr _ 3 _ _ _ e0
                have g4 := cell_of_row wr _ 4 _ _ _ e0
                have k3 := cell_of_row wr _ 3 _ _ _ f0
                clear h1 h2 h3 h4 h5 h6 h7 e0 f0
                go_wp2_with fail
                refine (HL.out _ (HB.out.1.trans (HQ.out.2.mono HB.out.1.size))).mono ?_
                rintro e w3 ⟨rfl, hb3⟩
                have HZ := hid hb3
                clear hb3
                go_wp2_with fail
                go_ret
                exact ⟨by rw [HQ.out.1]; simp [Tr.eq], HB.out.2.1.trans ((HQ.out.2.trans (HZ.out.mono HQ.out.2.size)).mono HB.out.2.1.size)⟩
            | node fn op k m n A F nx =>
              cases r2 with
              | nil => simp [Tr.len] at h2
              | node fn' op' k' m' n' A' F' nx' =>
                have hlt : i < x.t.F.len := by simp only [Tr.len] at h1; omega
                obtain ⟨b, o, p, hbo, hp, ⟨c0, c1, c2, c3, c4, c5, c6⟩, hr1⟩ := rowAt_fd h5
                obtain ⟨b', o', q, hbo', hq, ⟨d0, d1, d2, d3, d4, d5, d6⟩, hr2⟩ := rowAt_fd h6
                have hwr := HB.out.1.trans (h7.mono HB.out.1.size)
                have C0 := (show ∀ X : Later wr, X.now.cell? ⟨b, o + i * 7, none⟩ = _ from fun X => old_cell (hwr.trans (X.since.mono hwr.size)) c0)
                have C1 := (show ∀ X : Later wr, X.now.cell? ⟨b, o + i * 7 + 1, none⟩ = _ from fun X => old_cell (hwr.trans (X.since.mono hwr.size)) c1)
                have C2 := (show ∀ X : Later wr, X.now.cell? ⟨b, o + i * 7 + 2, none⟩ = _ from fun X => old_cell (hwr.trans (X.since.mono hwr.size)) c2)
                have C3 := (show ∀ X : Later wr, X.now.cell? ⟨b, o + i * 7 + 3, none⟩ = _ from fun X => old_cell (hwr.trans (X.since.mono hwr.size)) c3)
                have C4 := (show ∀ X : Later wr, X.now.cell? ⟨b, o + i * 7 + 4, none⟩ = _ from fun X => old_cell (hwr.trans (X.since.mono hwr.size)) c4)
                have C5 := (show ∀ X : Later wr, X.now.cell? ⟨b, o + i * 7 + 5, none⟩ = _ from fun X => old_cell (hwr.trans (X.since.mono hwr.size)) c5)
                have C6 := (show ∀ X : Later wr, X.now.cell? ⟨b, o + i * 7 + 6, none⟩ = _ from fun X => old_cell (hwr.trans (X.since.mono hwr.size)) c6)
                have D0 := (show ∀ X : Later wr, X.now.cell? ⟨b', o' + i * 7, none⟩ = _ from fun X => old_cell (hwr.trans (X.since.mono hwr.size)) d0)
                have D1 := (show ∀ X : Later wr, X.now.cell? ⟨b', o' + i * 7 + 1, none⟩ = _ from fun X => old_cell (hwr.trans (X.since.mono hwr.size)) d1)
                have D2 := (show ∀ X : Later wr, X.now.cell? ⟨b', o' + i * 7 + 2, none⟩ = _ from fun X => old_cell (hwr.trans (X.since.mono hwr.size)) d2)
                have D3 := (show ∀ X : Later wr, X.now.cell? ⟨b', o' + i * 7 + 3, none⟩ = _ from fun X => old_cell (hwr.trans (X.since.mono hwr.size)) d3)
                have D4 := (show ∀ X : Later wr, X.now.cell? ⟨b', o' + i * 7 + 4, none⟩ = _ from fun X => old_cell (hwr.trans (X.since.mono hwr.size)) d4)
                have D5 := (show ∀ X : Later wr, X.now.cell? ⟨b', o' + i * 7 + 5, none⟩ = _ from fun X => old_cell (hwr.trans (X.since.mono hwr.size)) d5)
                have D6 := (show ∀ X : Later wr, X.now.cell? ⟨b', o' + i * 7 + 6, none⟩ = _ from fun X => old_cell (hwr.trans (X.since.mono hwr.size)) d6)
                have g4w : wr.cell? ⟨W.heap.size, 4, none⟩ = some (.slice (some ⟨b, o, none⟩) x.t.F.len x.cf) := by rw [← hbo]; exact cell_of_row wr _ 4 _ _ _ e0
                have g4 := (show ∀ X : Later wr, X.now.cell? ⟨W.heap.size, 4, none⟩ = some (.slice (some ⟨b, o, none⟩) x.t.F.len x.cf) from fun X => by rw [← hbo]; exact cell_of_row X.now _ 4 _ _ _ ((X.since.block _ (Nat.lt_of_lt_of_le HB.out.2.2.1 h7.size)).trans e0))
                have k4 := (show ∀ X : Later wr, X.now.cell? ⟨wa.heap.size, 4, none⟩ = some (.slice (some ⟨b', o', none⟩) x.t.F.len y.cf) from fun X => by rw [← hbo']; exact cell_of_row X.now _ 4 _ _ _ ((X.since.block _ (Nat.lt_of_lt_of_le HB.out.2.2.2 h7.size)).trans f0))
                have hps : p.t.size ≤ s := by rw [hp]; simp only [Tr.size] at h3; simp only [Ty.size]; omega
                have HE : Kpt (∀ X : Later wr, Calls Tryz.prog 28 #[.agg #[.int .i64 p.t.k, .string p.t.m, .string p.t.n, .slice p.aa p.t.A.len p.ca, .slice p.af p.t.F.len p.cf], .agg #[.int .i64 q.t.k, .string q.t.m, .string q.t.n, .slice q.aa q.t.A.len q.ca, .slice q.af q.t.F.len q.cf]] X.now fun e w'' => e = .returned (.bool (p.t.eq q.t)) ∧ ∃ y : Later wr, w'' = y.now) := hid (fun X => Calls.later_of (HI.out p q hps X.now (hwr.trans (X.since.mono hwr.size))))
                have heq : Tr.eq true (.node fn op k m n A F nx) (.node fn' op' k' m' n' A' F' nx') = (fdEq fn fn' op op' p.t q.t && nx.eq true nx') := by rw [hp, hq]; simp [Tr.eq, fdEq, Ty.eq]
                rw [heq] at h4
                have hsn : nx.size ≤ s := by simp only [Tr.size] at h3; omega
                simp only [Tr.len] at h1 h2
                have HQ := hid (And.intro h4 (And.intro h7 (And.intro hr1 (And.intro hr2 (And.intro (show nx.len + (i + 1) = x.t.F.len by omega) (And.intro (show nx.len = nx'.len by omega) hsn))))))
                clear h1 h2 h3 h4 h5 h6 h7 hwr hr1 hr2 heq hps hsn hp hq c0 c1 c2 c3 c4 c5 c6 d0 d1 d2 d3 d4 d5 d6 e0 f0 hbo hbo'
                by_cases hfn : fn = fn'
                · have qn : (fn.toList == fn'.toList) = true := by rw [hfn]; simp
                  by_cases hop : op = op'
                  · have qo : (op == op') = true := by rw [hop]; simp
                    have qo2 : (op != op') = false := by rw [hop]; simp
                    have hfd : fdEq fn fn' op op' p.t q.t = p.t.eq q.t := by simp [fdEq, hfn, hop]
                    rw [hfd] at HQ
                    clear hfd hfn hop
                    cases hpq : p.t.eq q.t with
                    | true =>
                      rw [hpq] at HE HQ
                      clear hpq
                      go_wp2_with fail
                      refine wp_region_later (by kernel_rfl) (by kernel_rfl) ?_
                      repeat (go_big_quiet_step (first | (go_at_call 28; with_reducible exact HE.out _)))
                      refine wpQuiet_nil ?_
                      intro _ hw'
                      obtain ⟨X, hX⟩ := hw'
                      subst hX
                      go_wp2_with fail
                      go_roundw
                      case rel => exact ⟨i + 1, nx, nx', by go_num, HQ.out.2.2.2.2.1, HQ.out.2.2.2.2.2.1, HQ.out.2.2.2.2.2.2, by rw [HQ.out.1, Bool.true_and], HQ.out.2.2.1, HQ.out.2.2.2.1, HQ.out.2.1.trans (X.since.mono HQ.out.2.1.size)⟩
                      case measure => simp [intOf]; omega
                    | false =>
                      rw [hpq] at HE HQ
                      clear hpq
                      go_wp2_with fail
                      refine wp_region_later (by kernel_rfl) (by kernel_rfl) ?_
                      repeat (go_big_quiet_step (first | (go_at_call 28; with_reducible exact HE.out _)))
                      refine wpQuiet_nil ?_
                      intro _ hw'
                      obtain ⟨X, hX⟩ := hw'
                      subst hX
                      go_wp2_with fail
                      go_ret
                      exact ⟨by rw [HQ.out.1]; simp, HB.out.2.1.trans ((HQ.out.2.1.trans (X.since.mono HQ.out.2.1.size)).mono HB.out.2.1.size)⟩
                  · have qo : (op == op') = false := by simpa using hop
                    have qo2 : (op != op') = true := by simpa using hop
                    have hfd : fdEq fn fn' op op' p.t q.t = false := by simp [fdEq, qo]
                    rw [hfd] at HQ
                    clear hfd hfn hop
                    go_wp2_with fail
                    refine wp_region_later (by kernel_rfl) (by kernel_rfl) ?_
                    repeat (go_big_quiet_step (first | (go_at_call 28; with_reducible exact HE.out _)))
                    refine wpQuiet_nil ?_
                    intro _ hw'
                    obtain ⟨X, hX⟩ := hw'
                    subst hX
                    go_wp2_with fail
                    go_ret
                    exact ⟨by rw [HQ.out.1]; simp, HB.out.2.1.trans ((HQ.out.2.1.trans (X.since.mono HQ.out.2.1.size)).mono HB.out.2.1.size)⟩
                · have qn := toList_ne hfn
                  have hfd : fdEq fn fn' op op' p.t q.t = false := by simp [fdEq, hfn]
                  rw [hfd] at HQ
                  clear hfd hfn
                  go_wp2_with fail
                  refine wp_region_later (by kernel_rfl) (by kernel_rfl) ?_
                  repeat (go_big_quiet_step (first | (go_at_call 28; with_reducible exact HE.out _)))
                  refine wpQuiet_nil ?_
                  intro _ hw'
                  obtain ⟨X, hX⟩ := hw'
                  subst hX
                  go_wp2_with fail
                  go_ret
                  exact ⟨by rw [HQ.out.1]; simp, HB.out.2.1.trans ((HQ.out.2.1.trans (X.since.mono HQ.out.2.1.size)).mono HB.out.2.1.size)⟩
        · have q3 : ((x.t.F.len : Int) == (y.t.F.len : Int)) = false := by rw [beq_eq_false_iff_ne]; omega
          have u3 : ((x.t.F.len : Int) != (y.t.F.len : Int)) = true := by simp; omega
          have hf : x.t.F.eq true y.t.F = false := by
            cases h : x.t.F.eq true y.t.F with
            | false => rfl
            | true => exact absurd (Tr.eq_len h) h3
          have hres : x.t.eq y.t = false := by simp [Ty.eq, hf]
          rw [hres]
          clear hres
          clear hf h0 h1 h2 h3
          go_enter Tryz.func28, Tryz.ntmps28
          go_wp2_with fail
          go_ret
          exact ⟨rfl, HB.out.2.1⟩
      · have q2 := toList_ne h2
        have hres : x.t.eq y.t = false := by simp [Ty.eq, h2]
        rw [hres]
        clear hres
        clear h0 h1 h2
        go_enter Tryz.func28, Tryz.ntmps28
        go_wp2_with fail
        go_ret
        exact ⟨rfl, HB.out.2.1⟩
    · have q1 := toList_ne h1
      have hres : x.t.eq y.t = false := by simp [Ty.eq, h1]
      rw [hres]
      clear hres
      clear h0 h1
      go_enter Tryz.func28, Tryz.ntmps28
      go_wp2_with fail
      go_ret
      exact ⟨rfl, HB.out.2.1⟩
  · have q0 : (x.t.k == y.t.k) = false := by rw [beq_eq_false_iff_ne]; exact h0
    have u0 : (x.t.k != y.t.k) = true := by simp [h0]
    have hres : x.t.eq y.t = false := by simp [Ty.eq, h0]
    rw [hres]
    clear hres
    clear h0
    go_enter Tryz.func28, Tryz.ntmps28
    go_wp2_with fail
    go_ret
    exact ⟨rfl, HB.out.2.1⟩
theorem req_all (w0 : World) : ∀ s, s ≤ 1099511627776 → REq w0 s := by
  intro s
  induction s with
  | zero => intro _ x y hx; simp only [Ty.size] at hx; omega
  | succ s ih => intro hs x y hx W hW; exact req_step w0 s hs (ih (by omega)) x y hx W hW
end Go.Proofs.YtnkhebgjhipepaaGreatDoor

namespace Go.Proofs.YtnkhebgjhipepaaGreatDoor
open Go.RowKit Go.Shelf

theorem two_rows {w : World} (o1 o2 : Obj) : Below w.heap.size w ((w.alloc o1).alloc o2).drew ∧ ((w.alloc o1).alloc o2).drew.heap[w.heap.size]? = some o1 ∧ ((w.alloc o1).alloc o2).drew.heap[w.heap.size + 1]? = some o2 := by
  have hb1 : Below w.heap.size w (w.alloc o1) := (Below.refl _ _).alloc (Nat.le_refl _) _
  have hb2 : Below (w.alloc o1).heap.size (w.alloc o1) ((w.alloc o1).alloc o2) := (Below.refl _ _).alloc (Nat.le_refl _) _
  have hs : (w.alloc o1).heap.size = w.heap.size + 1 := by simp
  refine ⟨(hb1.trans (hb2.mono (by omega))).drew, ?_, ?_⟩
  · exact (hb2.block _ (by omega)).trans (World.alloc_heap_new _ _)
  · have := World.alloc_heap_new (w.alloc o1) o2
    rw [hs] at this
    exact this
def RXq (w0 : World) (s : Nat) : Prop := ∀ x y : XpI w0, x.e.bk ≤ s → ∀ W, Below w0.heap.size w0 W → Calls Tryz.prog 30 #[.agg #[.int .i64 x.e.k, .string x.e.m, .string x.e.n, .string x.e.tx, .int .i64 x.e.num, .slice x.aT x.e.T.len x.cT, .slice x.aL x.e.L.length x.cL, .slice x.aK x.e.K.len x.cK], .agg #[.int .i64 y.e.k, .string y.e.m, .string y.e.n, .string y.e.tx, .int .i64 y.e.num, .slice y.aT y.e.T.len y.cT, .slice y.aL y.e.L.length y.cL, .slice y.aK y.e.K.len y.cK]] W fun e W' => e = .returned (.bool (x.e.eq y.e)) ∧ Below W.heap.size W W'
set_option maxRecDepth 100000 in
set_option maxHeartbeats 8000000 in
theorem rxq_step (w0 : World) (s : Nat) (hs : s + 1 ≤ 1099511627776) (ih : RXq w0 s) (x y : XpI w0) (hx : x.e.bk ≤ s + 1) (W : World) (hW : Below w0.heap.size w0 W) :
    Calls Tryz.prog 30 #[.agg #[.int .i64 x.e.k, .string x.e.m, .string x.e.n, .string x.e.tx, .int .i64 x.e.num, .slice x.aT x.e.T.len x.cT, .slice x.aL x.e.L.length x.cL, .slice x.aK x.e.K.len x.cK], .agg #[.int .i64 y.e.k, .string y.e.m, .string y.e.n, .string y.e.tx, .int .i64 y.e.num, .slice y.aT y.e.T.len y.cT, .slice y.aL y.e.L.length y.cL, .slice y.aK y.e.K.len y.cK]] W fun e W' => e = .returned (.bool (x.e.eq y.e)) ∧ Below W.heap.size W W' := by
  have hbk := x.e.bk_eq
  have hT0 := x.e.T.size_enc false
  have HI := hid ih
  have HL : Kpt (∀ W' : World, Below w0.heap.size w0 W' → Calls Tryz.prog 76 #[.slice x.aT x.e.T.len x.cT, .slice y.aT y.e.T.len y.cT] W' fun e W'' => e = .returned (.bool (x.e.T.eq false y.e.T)) ∧ Below W'.heap.size W' W'') := hid (fun W' hW' => req_lists w0 x.e.T.size (req_all w0 _ (by omega)) (by omega) x.e.T y.e.T (Nat.le_refl _) x.aT y.aT x.cT y.cT (rowAt_zero x.hT) (rowAt_zero y.hT) W' hW')
  have hLs : (encLb x.e.L).bk ≤ s := by omega
  have hKs : x.e.K.enc.bk ≤ s := by omega
  have hlL := Lb.len_bk x.e.L
  have hlK := Ex.len_bk x.e.K
  clear ih hbk hT0 hx
  obtain ⟨wa, hwa⟩ : ∃ wa, W.alloc (.cells #[.int .i64 x.e.k, .string x.e.m, .string x.e.n, .string x.e.tx, .int .i64 x.e.num, .slice x.aT x.e.T.len x.cT, .slice x.aL x.e.L.length x.cL, .slice x.aK x.e.K.len x.cK] 29) = wa := ⟨_, rfl⟩
  have hba : Below W.heap.size W wa := by rw [← hwa]; exact (Below.refl _ W).alloc (Nat.le_refl _) _
  have hsa : W.heap.size + 1 = wa.heap.size := by rw [← hwa]; simp
  obtain ⟨wb, hwb⟩ : ∃ wb, wa.alloc (.cells #[.int .i64 y.e.k, .string y.e.m, .string y.e.n, .string y.e.tx, .int .i64 y.e.num, .slice y.aT y.e.T.len y.cT, .slice y.aL y.e.L.length y.cL, .slice y.aK y.e.K.len y.cK] 29) = wb := ⟨_, rfl⟩
  have hbb : Below wa.heap.size wa wb := by rw [← hwb]; exact (Below.refl _ wa).alloc (Nat.le_refl _) _
  have e0 : wb.heap[W.heap.size]? = some (.cells #[.int .i64 x.e.k, .string x.e.m, .string x.e.n, .string x.e.tx, .int .i64 x.e.num, .slice x.aT x.e.T.len x.cT, .slice x.aL x.e.L.length x.cL, .slice x.aK x.e.K.len x.cK] 29 (0, 0)) := (hbb.block _ (by omega)).trans (by rw [← hwa]; exact World.alloc_heap_new _ _)
  have f0 : wb.heap[wa.heap.size]? = some (.cells #[.int .i64 y.e.k, .string y.e.m, .string y.e.n, .string y.e.tx, .int .i64 y.e.num, .slice y.aT y.e.T.len y.cT, .slice y.aL y.e.L.length y.cL, .slice y.aK y.e.K.len y.cK] 29 (0, 0)) := by rw [← hwb]; exact World.alloc_heap_new _ _
  have hwrb : Below W.heap.size W wb := hba.trans (hbb.mono hba.size)
  have HB := hid (And.intro (hW.trans (hwrb.mono hW.size)) (And.intro hwrb (And.intro (Array.getElem?_eq_some_iff.1 e0).1 (Array.getElem?_eq_some_iff.1 f0).1)))
  have g0 := cell_of_row wb _ 0 _ _ _ e0
  have k0 := cell_of_row wb _ 0 _ _ _ f0
  have g1 := cell_of_row wb _ 1 _ _ _ e0
  have k1 := cell_of_row wb _ 1 _ _ _ f0
  have g2 := cell_of_row wb _ 2 _ _ _ e0
  have k2 := cell_of_row wb _ 2 _ _ _ f0
  have g3 := cell_of_row wb _ 3 _ _ _ e0
  have k3 := cell_of_row wb _ 3 _ _ _ f0
  have g4 := cell_of_row wb _ 4 _ _ _ e0
  have k4 := cell_of_row wb _ 4 _ _ _ f0
  have g5 := cell_of_row wb _ 5 _ _ _ e0
  have k5 := cell_of_row wb _ 5 _ _ _ f0
  have g6 := cell_of_row wb _ 6 _ _ _ e0
  have k6 := cell_of_row wb _ 6 _ _ _ f0
  have g7 := cell_of_row wb _ 7 _ _ _ e0
  have k7 := cell_of_row wb _ 7 _ _ _ f0
  have HC := hid (And.intro e0 f0)
  clear e0 f0 hba hsa hbb hwrb hW
  by_cases h0 : x.e.k = y.e.k
  · have q0 : (x.e.k == y.e.k) = true := by rw [h0]; simp
    have u0 : (x.e.k != y.e.k) = false := by simp [h0]
    by_cases h1 : x.e.m = y.e.m
    · have q1 : (x.e.m.toList == y.e.m.toList) = true := by rw [h1]; simp
      by_cases h2 : x.e.n = y.e.n
      · have q2 : (x.e.n.toList == y.e.n.toList) = true := by rw [h2]; simp
        by_cases h3 : x.e.tx = y.e.tx
        · have q3 : (x.e.tx.toList == y.e.tx.toList) = true := by rw [h3]; simp
          by_cases h4 : x.e.num = y.e.num
          · have q4 : (x.e.num == y.e.num) = true := by rw [h4]; simp
            have u4 : (x.e.num != y.e.num) = false := by simp [h4]
            by_cases h5 : x.e.L.length = y.e.L.length
            · by_cases h6 : x.e.K.len = y.e.K.len
              · have hres : x.e.eq y.e = (x.e.T.eq false y.e.T && (allEq Lb.eq x.e.L y.e.L && x.e.K.eq y.e.K)) := by simp [Xp.eq, h0, h1, h2, h3, h4, Bool.and_assoc]
                rw [hres]
                clear hres h0 h1 h2 h3 h4
                have HLE := hid (And.intro h5 h6)
                rw [← h5] at k6
                rw [← h6] at k7
                clear h5 h6
                have HC2 : Kpt (wb.heap[wa.heap.size]? = some (.cells #[.int .i64 y.e.k, .string y.e.m, .string y.e.n, .string y.e.tx, .int .i64 y.e.num, .slice y.aT y.e.T.len y.cT, .slice y.aL x.e.L.length y.cL, .slice y.aK x.e.K.len y.cK] 29 (0, 0))) := hid (by rw [HLE.out.1, HLE.out.2]; exact HC.out.2)
                go_enter Tryz.func30, Tryz.ntmps30
                go_wp2_with fail
                refine (HL.out _ HB.out.1).mono ?_
                rintro e w3 ⟨rfl, hb3⟩
                have H3 := hid (And.intro (HB.out.1.trans (hb3.mono HB.out.1.size)) (And.intro (HB.out.2.1.trans (hb3.mono HB.out.2.1.size)) (And.intro (Nat.lt_of_lt_of_le HB.out.2.2.1 hb3.size) (And.intro (Nat.lt_of_lt_of_le HB.out.2.2.2 hb3.size) (And.intro ((hb3.block _ HB.out.2.2.1).trans HC.out.1) ((hb3.block _ HB.out.2.2.2).trans HC2.out))))))
                clear g0 g1 g2 g3 g4 g5 g6 g7 k0 k1 k2 k3 k4 k5 k6 k7 q0 q1 q2 q3 q4 u0 u4 hb3 HB HC HC2
                cases hA : x.e.T.eq false y.e.T with
                | false =>
                  go_wp2_with fail
                  go_ret
                  exact ⟨by rw [hA]; rfl, H3.out.2.1⟩
                | true =>
                  have HAe := hid hA
                  clear hA
                  go_wp2_with fail
                  go_loopw [5] (fun a wr => ∃ (i : Nat) (r1 r2 : List Lb), a = .int .i64 (i : Int) ∧ r1.length + i = x.e.L.length ∧ r1.length = r2.length ∧ (encLb r1).bk ≤ s ∧ allEq Lb.eq x.e.L y.e.L = allEq Lb.eq r1 r2 ∧ RowD w0 (encLb r1) x.aL (i * 8) ∧ RowD w0 (encLb r2) y.aL (i * 8) ∧ Below w3.heap.size w3 wr) (fun a _ => x.e.L.length - (intOf a).toNat)
                  case atStart => exact ⟨0, x.e.L, y.e.L, rfl, by omega, HLE.out.1, hLs, rfl, rowD_zero x.hL, rowD_zero y.hL, Below.refl _ _⟩
                  case round =>
                    obtain ⟨i, r1, r2, rfl, h1, h2, h3, h4, h5, h6, h7⟩ := hrel
                    have e0 := (h7.block _ H3.out.2.2.1).trans H3.out.2.2.2.2.1
                    have f0 := (h7.block _ H3.out.2.2.2.1).trans H3.out.2.2.2.2.2
                    have g6 := cell_of_row wr _ 6 _ _ _ e0
                    have k6 := cell_of_row wr _ 6 _ _ _ f0
                    cases r1 with
                    | nil =>
                      cases r2 with
                      | cons => simp at h2
                      | nil =>
                        have hi : i = x.e.L.length := by simp at h1; omega
                        subst hi
                        have HQ := hid (And.intro h4 h7)
                        have g7 := cell_of_row wr _ 7 _ _ _ e0
                        have k7 := cell_of_row wr _ 7 _ _ _ f0
                        clear h1 h2 h3 h4 h5 h6 h7 e0 f0
                        obtain ⟨w4, hw4⟩ : ∃ w4, w4 = wr := ⟨_, rfl⟩
                        subst hw4
                        have H4 := hid (And.intro (H3.out.1.trans (HQ.out.2.mono H3.out.1.size)) (And.intro (H3.out.2.1.trans (HQ.out.2.mono H3.out.2.1.size)) (And.intro (Nat.lt_of_lt_of_le H3.out.2.2.1 HQ.out.2.size) (And.intro (Nat.lt_of_lt_of_le H3.out.2.2.2.1 HQ.out.2.size) (And.intro ((HQ.out.2.block _ H3.out.2.2.1).trans H3.out.2.2.2.2.1) ((HQ.out.2.block _ H3.out.2.2.2.1).trans H3.out.2.2.2.2.2))))))
                        clear H3
                        go_wp2_with fail
                        go_loopw [8] (fun a wr => ∃ (i : Nat) (r1 r2 : Ex), a = .int .i64 (i : Int) ∧ r1.len + i = x.e.K.len ∧ r1.len = r2.len ∧ r1.enc.bk ≤ s ∧ x.e.K.eq y.e.K = r1.eq r2 ∧ RowD w0 r1.enc x.aK (i * 8) ∧ RowD w0 r2.enc y.aK (i * 8) ∧ Below w4.heap.size w4 wr) (fun a _ => x.e.K.len - (intOf a).toNat)
                        case atStart => exact ⟨0, x.e.K, y.e.K, rfl, by omega, HLE.out.2, hKs, rfl, rowD_zero x.hK, rowD_zero y.hK, Below.refl _ _⟩
                        case round =>
                          obtain ⟨i, r1, r2, rfl, h1, h2, h3, h4, h5, h6, h7⟩ := hrel
                          have e0 := (h7.block _ H4.out.2.2.1).trans H4.out.2.2.2.2.1
                          have f0 := (h7.block _ H4.out.2.2.2.1).trans H4.out.2.2.2.2.2
                          clear g6 k6 g7 k7
                          cases r1 with
                          | nil =>
                            cases r2 with
                            | node => simp [Ex.len] at h2
                            | nil =>
                              have hi : i = x.e.K.len := by simp [Ex.len] at h1; omega
                              subst hi
                              have HQ2 := hid (And.intro h4 h7)
                              have g7 := cell_of_row wr _ 7 _ _ _ e0
                              clear h1 h2 h3 h4 h5 h6 h7 e0 f0
                              go_wp2_with fail
                              go_ret
                              exact ⟨by rw [HAe.out, HQ.out.1, HQ2.out.1]; rfl, H4.out.2.1.trans (HQ2.out.2.mono H4.out.2.1.size)⟩
                          | node k m n tx num T1 L K nx =>
                            cases r2 with
                            | nil => simp [Ex.len] at h2
                            | node k' m' n' tx' num' T2 L' K' nx' =>
                              have hlt : i < x.e.K.len := by simp only [Ex.len] at h1; omega
                              obtain ⟨b, o, p, hbo, hp, ⟨c0, c1, c2, c3, c4, c5, c6, c7⟩, hr1⟩ := rowD_ex h5
                              obtain ⟨b', o', q, hbo', hq, ⟨d0, d1, d2, d3, d4, d5, d6, d7⟩, hr2⟩ := rowD_ex h6
                              have hwr := H4.out.1.trans (h7.mono H4.out.1.size)
                              have C0 := (show ∀ X : Later wr, X.now.cell? ⟨b, o + i * 8, none⟩ = _ from fun X => old_cell (hwr.trans (X.since.mono hwr.size)) c0)
                              have C1 := (show ∀ X : Later wr, X.now.cell? ⟨b, o + i * 8 + 1, none⟩ = _ from fun X => old_cell (hwr.trans (X.since.mono hwr.size)) c1)
                              have C2 := (show ∀ X : Later wr, X.now.cell? ⟨b, o + i * 8 + 2, none⟩ = _ from fun X => old_cell (hwr.trans (X.since.mono hwr.size)) c2)
                              have C3 := (show ∀ X : Later wr, X.now.cell? ⟨b, o + i * 8 + 3, none⟩ = _ from fun X => old_cell (hwr.trans (X.since.mono hwr.size)) c3)
                              have C4 := (show ∀ X : Later wr, X.now.cell? ⟨b, o + i * 8 + 4, none⟩ = _ from fun X => old_cell (hwr.trans (X.since.mono hwr.size)) c4)
                              have C5 := (show ∀ X : Later wr, X.now.cell? ⟨b, o + i * 8 + 5, none⟩ = _ from fun X => old_cell (hwr.trans (X.since.mono hwr.size)) c5)
                              have C6 := (show ∀ X : Later wr, X.now.cell? ⟨b, o + i * 8 + 6, none⟩ = _ from fun X => old_cell (hwr.trans (X.since.mono hwr.size)) c6)
                              have C7 := (show ∀ X : Later wr, X.now.cell? ⟨b, o + i * 8 + 7, none⟩ = _ from fun X => old_cell (hwr.trans (X.since.mono hwr.size)) c7)
                              have D0 := (show ∀ X : Later wr, X.now.cell? ⟨b', o' + i * 8, none⟩ = _ from fun X => old_cell (hwr.trans (X.since.mono hwr.size)) d0)
                              have D1 := (show ∀ X : Later wr, X.now.cell? ⟨b', o' + i * 8 + 1, none⟩ = _ from fun X => old_cell (hwr.trans (X.since.mono hwr.size)) d1)
                              have D2 := (show ∀ X : Later wr, X.now.cell? ⟨b', o' + i * 8 + 2, none⟩ = _ from fun X => old_cell (hwr.trans (X.since.mono hwr.size)) d2)
                              have D3 := (show ∀ X : Later wr, X.now.cell? ⟨b', o' + i * 8 + 3, none⟩ = _ from fun X => old_cell (hwr.trans (X.since.mono hwr.size)) d3)
                              have D4 := (show ∀ X : Later wr, X.now.cell? ⟨b', o' + i * 8 + 4, none⟩ = _ from fun X => old_cell (hwr.trans (X.since.mono hwr.size)) d4)
                              have D5 := (show ∀ X : Later wr, X.now.cell? ⟨b', o' + i * 8 + 5, none⟩ = _ from fun X => old_cell (hwr.trans (X.since.mono hwr.size)) d5)
                              have D6 := (show ∀ X : Later wr, X.now.cell? ⟨b', o' + i * 8 + 6, none⟩ = _ from fun X => old_cell (hwr.trans (X.since.mono hwr.size)) d6)
                              have D7 := (show ∀ X : Later wr, X.now.cell? ⟨b', o' + i * 8 + 7, none⟩ = _ from fun X => old_cell (hwr.trans (X.since.mono hwr.size)) d7)
                              have g7w : wr.cell? ⟨W.heap.size, 7, none⟩ = some (.slice (some ⟨b, o, none⟩) x.e.K.len x.cK) := by rw [← hbo]; exact cell_of_row wr _ 7 _ _ _ e0
                              have g7 := (show ∀ X : Later wr, X.now.cell? ⟨W.heap.size, 7, none⟩ = some (.slice (some ⟨b, o, none⟩) x.e.K.len x.cK) from fun X => by rw [← hbo]; exact cell_of_row X.now _ 7 _ _ _ ((X.since.block _ (Nat.lt_of_lt_of_le H4.out.2.2.1 h7.size)).trans e0))
                              have k7 := (show ∀ X : Later wr, X.now.cell? ⟨wa.heap.size, 7, none⟩ = some (.slice (some ⟨b', o', none⟩) x.e.K.len y.cK) from fun X => by rw [← hbo']; exact cell_of_row X.now _ 7 _ _ _ ((X.since.block _ (Nat.lt_of_lt_of_le H4.out.2.2.2.1 h7.size)).trans f0))
                              have hps : p.e.bk ≤ s := by rw [hp]; simp only [Ex.enc, Dt.bk] at h3; simp only [Xp.bk, Xp.on, Dt.bk]; omega
                              have HE : Kpt (∀ X : Later wr, Calls Tryz.prog 30 #[.agg #[.int .i64 p.e.k, .string p.e.m, .string p.e.n, .string p.e.tx, .int .i64 p.e.num, .slice p.aT p.e.T.len p.cT, .slice p.aL p.e.L.length p.cL, .slice p.aK p.e.K.len p.cK], .agg #[.int .i64 q.e.k, .string q.e.m, .string q.e.n, .string q.e.tx, .int .i64 q.e.num, .slice q.aT q.e.T.len q.cT, .slice q.aL q.e.L.length q.cL, .slice q.aK q.e.K.len q.cK]] X.now fun e w'' => e = .returned (.bool (p.e.eq q.e)) ∧ ∃ y : Later wr, w'' = y.now) := hid (fun X => Calls.later_of (HI.out p q hps X.now (hwr.trans (X.since.mono hwr.size))))
                              have heq : Ex.eq (.node k m n tx num T1 L K nx) (.node k' m' n' tx' num' T2 L' K' nx') = (p.e.eq q.e && nx.eq nx') := by rw [hp, hq]; rfl
                              rw [heq] at h4
                              have hsn : nx.enc.bk ≤ s := by simp only [Ex.enc, Dt.bk] at h3; omega
                              simp only [Ex.len] at h1 h2
                              have HQ2 := hid (And.intro h4 (And.intro h7 (And.intro hr1 (And.intro hr2 (And.intro (show nx.len + (i + 1) = x.e.K.len by omega) (And.intro (show nx.len = nx'.len by omega) hsn))))))
                              clear h1 h2 h3 h4 h5 h6 h7 hwr hr1 hr2 heq hps hsn hp hq c0 c1 c2 c3 c4 c5 c6 c7 d0 d1 d2 d3 d4 d5 d6 d7 e0 f0 hbo hbo'
                              cases hpq : p.e.eq q.e with
                              | true =>
                                rw [hpq] at HE HQ2
                                clear hpq
                                go_wp2_with fail
                                refine wp_region_later (by kernel_rfl) (by kernel_rfl) ?_
                                repeat (go_big_quiet_step (first | (go_at_call 30; with_reducible exact HE.out _)))
                                refine wpQuiet_nil ?_
                                intro _ hw'
                                obtain ⟨X, hX⟩ := hw'
                                subst hX
                                go_wp2_with fail
                                go_roundw
                                case rel => exact ⟨i + 1, nx, nx', by go_num, HQ2.out.2.2.2.2.1, HQ2.out.2.2.2.2.2.1, HQ2.out.2.2.2.2.2.2, by rw [HQ2.out.1, Bool.true_and], HQ2.out.2.2.1, HQ2.out.2.2.2.1, HQ2.out.2.1.trans (X.since.mono HQ2.out.2.1.size)⟩
                                case measure => simp [intOf]; omega
                              | false =>
                                rw [hpq] at HE HQ2
                                clear hpq
                                go_wp2_with fail
                                refine wp_region_later (by kernel_rfl) (by kernel_rfl) ?_
                                repeat (go_big_quiet_step (first | (go_at_call 30; with_reducible exact HE.out _)))
                                refine wpQuiet_nil ?_
                                intro _ hw'
                                obtain ⟨X, hX⟩ := hw'
                                subst hX
                                go_wp2_with fail
                                go_ret
                                exact ⟨by rw [HAe.out, HQ.out.1, HQ2.out.1]; rfl, H4.out.2.1.trans ((HQ2.out.2.1.trans (X.since.mono HQ2.out.2.1.size)).mono H4.out.2.1.size)⟩
                    | cons lx r =>
                      cases r2 with
                      | nil => simp at h2
                      | cons ly r' =>
                        have hlt : i < x.e.L.length := by simp only [List.length_cons] at h1; omega
                        obtain ⟨b, o, p, hbo, hp, ⟨c0, c1, c2, c3, c4, c5, c6, c7⟩, hr1⟩ := rowD_lb h5
                        obtain ⟨b', o', q, hbo', hq, ⟨d0, d1, d2, d3, d4, d5, d6, d7⟩, hr2⟩ := rowD_lb h6
                        rw [hbo] at g6
                        rw [hbo'] at k6
                        have hwr := H3.out.1.trans (h7.mono H3.out.1.size)
                        replace c0 := old_cell hwr c0
                        replace d0 := old_cell hwr d0
                        replace c1 := old_cell hwr c1
                        replace d1 := old_cell hwr d1
                        replace c2 := old_cell hwr c2
                        replace d2 := old_cell hwr d2
                        replace c3 := old_cell hwr c3
                        replace d3 := old_cell hwr d3
                        replace c4 := old_cell hwr c4
                        replace d4 := old_cell hwr d4
                        replace c5 := old_cell hwr c5
                        replace d5 := old_cell hwr d5
                        replace c6 := old_cell hwr c6
                        replace d6 := old_cell hwr d6
                        replace c7 := old_cell hwr c7
                        replace d7 := old_cell hwr d7
                        have hsn : (encLb r).bk ≤ s ∧ lx.t.size ≤ 1099511627776 := by have h9 := lx.t.on_bk (.bool lx.op (encLb r)); simp only [encLb, Dt.bk] at h3 h9; omega
                        have heq : allEq Lb.eq (lx :: r) (ly :: r') = (lx.eq ly && allEq Lb.eq r r') := rfl
                        rw [heq] at h4
                        simp only [List.length_cons] at h1 h2
                        have HE : Kpt (∀ W' : World, Below w0.heap.size w0 W' → Calls Tryz.prog 28 #[.agg #[.int .i64 p.t.k, .string p.t.m, .string p.t.n, .slice p.aa p.t.A.len p.ca, .slice p.af p.t.F.len p.cf], .agg #[.int .i64 q.t.k, .string q.t.m, .string q.t.n, .slice q.aa q.t.A.len q.ca, .slice q.af q.t.F.len q.cf]] W' fun e W'' => e = .returned (.bool (lx.t.eq ly.t)) ∧ Below W'.heap.size W' W'') := hid (fun W' hW' => by rw [← hp, ← hq]; exact req_all w0 _ (by rw [hp]; exact hsn.2) p q (Nat.le_refl _) W' hW')
                        have HQ := hid (And.intro h4 (And.intro h7 (And.intro hwr (And.intro hr1 (And.intro hr2 (And.intro (show r.length + (i + 1) = x.e.L.length by omega) (And.intro (show r.length = r'.length by omega) hsn.1)))))))
                        clear h1 h2 h3 h4 h5 h6 h7 hr1 hr2 heq hsn hp hq hwr e0 f0 hbo hbo'
                        go_wp2_with fail
                        refine wp_region_noPanic ?_
                        refine region_G (S := fun w' => Below wr.heap.size wr w') (z := 13) (by kernel_rfl) ?_
                        change wpAnyG _ _ _ _ _ _ 14 _ _ _
                        refine G_take (i := 0) (v := .pointer (some ⟨W.heap.size, 6, none⟩)) rfl (by kernel_rfl) (by kernel_rfl) (by kernel_rfl) (by kernel_rfl) (by decide) (by kernel_rfl) (fun _ _ _ h => h) (.inl ⟨by simp [Region.wanted], fun w' hS => ?y0⟩) (Below.refl _ _).drew ?_
                        case y0 =>
                          simp [execOp, go_sem]
                        refine G_take (i := 1) (v := .slice (some ⟨b, o, none⟩) x.e.L.length x.cL) rfl (by kernel_rfl) (by kernel_rfl) (by kernel_rfl) (by kernel_rfl) (by decide) (by kernel_rfl) (fun _ _ _ h => h) (.inl ⟨by simp [Region.wanted], fun w' hS => ?y1⟩) (Below.refl _ _).drew ?_
                        case y1 =>
                          have h9 := old_cell hS g6
                          simp [execOp, go_sem, h9]
                        refine G_take (i := 2) (v := .int .i64 (i : Int)) rfl (by kernel_rfl) (by kernel_rfl) (by kernel_rfl) (by kernel_rfl) (by decide) (by kernel_rfl) (fun _ _ _ h => h) (.inl ⟨by simp [Region.wanted], fun w' hS => ?y2⟩) (Below.refl _ _).drew ?_
                        case y2 =>
                          simp [execOp, go_sem]
                        refine G_take (i := 3) (v := .pointer (some ⟨b, o + i * 8, none⟩)) rfl (by kernel_rfl) (by kernel_rfl) (by kernel_rfl) (by kernel_rfl) (by decide) (by kernel_rfl) (fun _ _ _ h => h) (.inl ⟨by simp [Region.wanted], fun w' hS => ?y3⟩) (Below.refl _ _).drew ?_
                        case y3 =>
                          simp [execOp, go_sem, hlt]
                        refine G_take (i := 4) (v := .agg #[.string lx.nm, .string lx.vr, .int .i64 p.t.k, .string p.t.m, .string p.t.n, .slice p.aa p.t.A.len p.ca, .slice p.af p.t.F.len p.cf, .bool lx.op]) rfl (by kernel_rfl) (by kernel_rfl) (by kernel_rfl) (by kernel_rfl) (by decide) (by kernel_rfl) (fun _ _ _ h => h) (.inl ⟨by simp [Region.wanted], fun w' hS => ?y4⟩) (Below.refl _ _).drew ?_
                        case y4 =>
                          have h0' := old_cell hS c0
                          have h1' := old_cell hS c1
                          have h2' := old_cell hS c2
                          have h3' := old_cell hS c3
                          have h4' := old_cell hS c4
                          have h5' := old_cell hS c5
                          have h6' := old_cell hS c6
                          have h7' := old_cell hS c7
                          simp [execOp, go_sem, h0', h1', h2', h3', h4', h5', h6', h7']
                        refine G_take (i := 5) (v := .pointer (some ⟨wa.heap.size, 6, none⟩)) rfl (by kernel_rfl) (by kernel_rfl) (by kernel_rfl) (by kernel_rfl) (by decide) (by kernel_rfl) (fun _ _ _ h => h) (.inl ⟨by simp [Region.wanted], fun w' hS => ?y5⟩) (Below.refl _ _).drew ?_
                        case y5 =>
                          simp [execOp, go_sem]
                        refine G_take (i := 6) (v := .slice (some ⟨b', o', none⟩) x.e.L.length y.cL) rfl (by kernel_rfl) (by kernel_rfl) (by kernel_rfl) (by kernel_rfl) (by decide) (by kernel_rfl) (fun _ _ _ h => h) (.inl ⟨by simp [Region.wanted], fun w' hS => ?y6⟩) (Below.refl _ _).drew ?_
                        case y6 =>
                          have h9 := old_cell hS k6
                          simp [execOp, go_sem, h9]
                        refine G_take (i := 7) (v := .int .i64 (i : Int)) rfl (by kernel_rfl) (by kernel_rfl) (by kernel_rfl) (by kernel_rfl) (by decide) (by kernel_rfl) (fun _ _ _ h => h) (.inl ⟨by simp [Region.wanted], fun w' hS => ?y7⟩) (Below.refl _ _).drew ?_
                        case y7 =>
                          simp [execOp, go_sem]
                        refine G_take (i := 8) (v := .pointer (some ⟨b', o' + i * 8, none⟩)) rfl (by kernel_rfl) (by kernel_rfl) (by kernel_rfl) (by kernel_rfl) (by decide) (by kernel_rfl) (fun _ _ _ h => h) (.inl ⟨by simp [Region.wanted], fun w' hS => ?y8⟩) (Below.refl _ _).drew ?_
                        case y8 =>
                          simp [execOp, go_sem, hlt]
                        refine G_take (i := 9) (v := .agg #[.string ly.nm, .string ly.vr, .int .i64 q.t.k, .string q.t.m, .string q.t.n, .slice q.aa q.t.A.len q.ca, .slice q.af q.t.F.len q.cf, .bool ly.op]) rfl (by kernel_rfl) (by kernel_rfl) (by kernel_rfl) (by kernel_rfl) (by decide) (by kernel_rfl) (fun _ _ _ h => h) (.inl ⟨by simp [Region.wanted], fun w' hS => ?y9⟩) (Below.refl _ _).drew ?_
                        case y9 =>
                          have h0' := old_cell hS d0
                          have h1' := old_cell hS d1
                          have h2' := old_cell hS d2
                          have h3' := old_cell hS d3
                          have h4' := old_cell hS d4
                          have h5' := old_cell hS d5
                          have h6' := old_cell hS d6
                          have h7' := old_cell hS d7
                          simp [execOp, go_sem, h0', h1', h2', h3', h4', h5', h6', h7']
                        simp only [Act.put, List.setIfInBounds_toArray, List.set_cons_succ, List.set_cons_zero]
                        refine G_two (i := 10) (j := 11) (by kernel_rfl) rfl rfl ?_ ?_
                        · go_wp2_with fail
                          refine ⟨((Below.refl _ wr).drew).alloc (Nat.le_refl _) _, ?_⟩
                          refine G_one (i := 11) (by kernel_rfl) rfl ?_
                          go_wp2_with fail
                          refine ⟨(((Below.refl _ wr).drew).alloc (Nat.le_refl _) _).alloc (alloc_le (Nat.le_refl _) _) _, ?_⟩
                          refine G_one (i := 12) (by kernel_rfl) rfl ?_
                          go_wp2_with fail
                          refine ⟨(((Below.refl _ wr).alloc (Nat.le_refl _) _).alloc (alloc_le (Nat.le_refl _) _) _).drew, ?_⟩
                          refine G_one (i := 13) (by kernel_rfl) rfl ?_
                          go_wp2_with fail
                          refine ⟨(((Below.refl _ wr).alloc (Nat.le_refl _) _).alloc (alloc_le (Nat.le_refl _) _) _).drew, ?_⟩
                          refine G_end (by kernel_rfl) (NoPanic.normal ?_)
                          have HV := hid (two_rows (w := wr) (.cells #[.string lx.nm, .string lx.vr, .int .i64 p.t.k, .string p.t.m, .string p.t.n, .slice p.aa p.t.A.len p.ca, .slice p.af p.t.F.len p.cf, .bool lx.op] 102) (.cells #[.string ly.nm, .string ly.vr, .int .i64 q.t.k, .string q.t.m, .string q.t.n, .slice q.aa q.t.A.len q.ca, .slice q.af q.t.F.len q.cf, .bool ly.op] 102))
                          generalize ((wr.alloc (.cells #[.string lx.nm, .string lx.vr, .int .i64 p.t.k, .string p.t.m, .string p.t.n, .slice p.aa p.t.A.len p.ca, .slice p.af p.t.F.len p.cf, .bool lx.op] 102)).alloc (.cells #[.string ly.nm, .string ly.vr, .int .i64 q.t.k, .string q.t.m, .string q.t.n, .slice q.aa q.t.A.len q.ca, .slice q.af q.t.F.len q.cf, .bool ly.op] 102)).drew = V at HV ⊢
                          have m0 := cell_of_row V _ 0 _ _ _ HV.out.2.1
                          have n0 := cell_of_row V _ 0 _ _ _ HV.out.2.2
                          have m1 := cell_of_row V _ 1 _ _ _ HV.out.2.1
                          have n1 := cell_of_row V _ 1 _ _ _ HV.out.2.2
                          have m2 := cell_of_row V _ 2 _ _ _ HV.out.2.1
                          have n2 := cell_of_row V _ 2 _ _ _ HV.out.2.2
                          have m3 := cell_of_row V _ 3 _ _ _ HV.out.2.1
                          have n3 := cell_of_row V _ 3 _ _ _ HV.out.2.2
                          have m4 := cell_of_row V _ 4 _ _ _ HV.out.2.1
                          have n4 := cell_of_row V _ 4 _ _ _ HV.out.2.2
                          have m5 := cell_of_row V _ 5 _ _ _ HV.out.2.1
                          have n5 := cell_of_row V _ 5 _ _ _ HV.out.2.2
                          have m6 := cell_of_row V _ 6 _ _ _ HV.out.2.1
                          have n6 := cell_of_row V _ 6 _ _ _ HV.out.2.2
                          have m7 := cell_of_row V _ 7 _ _ _ HV.out.2.1
                          have n7 := cell_of_row V _ 7 _ _ _ HV.out.2.2
                          clear c0 c1 c2 c3 c4 c5 c6 c7 d0 d1 d2 d3 d4 d5 d6 d7 g6 k6
                          by_cases v0 : lx.nm = ly.nm
                          · have q0 : (lx.nm.toList == ly.nm.toList) = true := by rw [v0]; simp
                            by_cases v1 : lx.vr = ly.vr
                            · have q1 : (lx.vr.toList == ly.vr.toList) = true := by rw [v1]; simp
                              by_cases v2 : lx.op = ly.op
                              · have q2 : (lx.op == ly.op) = true := by rw [v2]; simp
                                have u2 : (lx.op != ly.op) = false := by rw [v2]; simp
                                have HF := hid (show lx.eq ly = lx.t.eq ly.t by simp [Lb.eq, v0, v1, v2])
                                clear v0 v1 v2
                                go_wp2_with fail
                                refine (HE.out _ (HQ.out.2.2.1.trans (HV.out.1.mono HQ.out.2.2.1.size))).mono ?_
                                rintro e V2 ⟨rfl, hb⟩
                                have HZ := hid hb
                                clear hb m0 m1 m2 m3 m4 m5 m6 m7 n0 n1 n2 n3 n4 n5 n6 n7
                                cases ht : lx.t.eq ly.t with
                                | true =>
                                  rw [ht] at HF
                                  clear ht
                                  go_wp2_with fail
                                  go_roundw
                                  case rel => exact ⟨i + 1, r, r', by go_num, HQ.out.2.2.2.2.2.1, HQ.out.2.2.2.2.2.2.1, HQ.out.2.2.2.2.2.2.2, by rw [HQ.out.1, HF.out, Bool.true_and], HQ.out.2.2.2.1, HQ.out.2.2.2.2.1, HQ.out.2.1.trans ((HV.out.1.trans (HZ.out.mono HV.out.1.size)).mono HQ.out.2.1.size)⟩
                                  case measure => simp [intOf]; omega
                                | false =>
                                  rw [ht] at HF
                                  clear ht
                                  go_wp2_with fail
                                  go_ret
                                  exact ⟨by rw [HAe.out, HQ.out.1, HF.out]; rfl, H3.out.2.1.trans ((HQ.out.2.1.trans ((HV.out.1.trans (HZ.out.mono HV.out.1.size)).mono HQ.out.2.1.size)).mono H3.out.2.1.size)⟩
                              · have q2 : (lx.op == ly.op) = false := by simpa using v2
                                have u2 : (lx.op != ly.op) = true := by simpa using v2
                                clear v0 v1
                                have hf : lx.eq ly = false := by simp [Lb.eq, v2]
                                have HF := hid hf
                                clear hf v2
                                go_wp2_with fail
                                go_ret
                                exact ⟨by rw [HAe.out, HQ.out.1, HF.out]; rfl, H3.out.2.1.trans ((HQ.out.2.1.trans (HV.out.1.mono HQ.out.2.1.size)).mono H3.out.2.1.size)⟩
                            · have q1 := toList_ne v1
                              clear v0
                              have hf : lx.eq ly = false := by simp [Lb.eq, v1]
                              have HF := hid hf
                              clear hf v1
                              go_wp2_with fail
                              go_ret
                              exact ⟨by rw [HAe.out, HQ.out.1, HF.out]; rfl, H3.out.2.1.trans ((HQ.out.2.1.trans (HV.out.1.mono HQ.out.2.1.size)).mono H3.out.2.1.size)⟩
                          · have q0 := toList_ne v0
                            have hf : lx.eq ly = false := by simp [Lb.eq, v0]
                            have HF := hid hf
                            clear hf v0
                            go_wp2_with fail
                            go_ret
                            exact ⟨by rw [HAe.out, HQ.out.1, HF.out]; rfl, H3.out.2.1.trans ((HQ.out.2.1.trans (HV.out.1.mono HQ.out.2.1.size)).mono H3.out.2.1.size)⟩
                        · go_wp2_with fail
                          refine ⟨((Below.refl _ wr).drew).alloc (Nat.le_refl _) _, ?_⟩
                          refine G_one (i := 10) (by kernel_rfl) rfl ?_
                          go_wp2_with fail
                          refine ⟨(((Below.refl _ wr).drew).alloc (Nat.le_refl _) _).alloc (alloc_le (Nat.le_refl _) _) _, ?_⟩
                          refine G_one (i := 12) (by kernel_rfl) rfl ?_
                          go_wp2_with fail
                          refine ⟨(((Below.refl _ wr).alloc (Nat.le_refl _) _).alloc (alloc_le (Nat.le_refl _) _) _).drew, ?_⟩
                          refine G_one (i := 13) (by kernel_rfl) rfl ?_
                          go_wp2_with fail
                          refine ⟨(((Below.refl _ wr).alloc (Nat.le_refl _) _).alloc (alloc_le (Nat.le_refl _) _) _).drew, ?_⟩
                          refine G_end (by kernel_rfl) (NoPanic.normal ?_)
                          have HV := hid (two_rows (w := wr) (.cells #[.string ly.nm, .string ly.vr, .int .i64 q.t.k, .string q.t.m, .string q.t.n, .slice q.aa q.t.A.len q.ca, .slice q.af q.t.F.len q.cf, .bool ly.op] 102) (.cells #[.string lx.nm, .string lx.vr, .int .i64 p.t.k, .string p.t.m, .string p.t.n, .slice p.aa p.t.A.len p.ca, .slice p.af p.t.F.len p.cf, .bool lx.op] 102))
                          generalize ((wr.alloc (.cells #[.string ly.nm, .string ly.vr, .int .i64 q.t.k, .string q.t.m, .string q.t.n, .slice q.aa q.t.A.len q.ca, .slice q.af q.t.F.len q.cf, .bool ly.op] 102)).alloc (.cells #[.string lx.nm, .string lx.vr, .int .i64 p.t.k, .string p.t.m, .string p.t.n, .slice p.aa p.t.A.len p.ca, .slice p.af p.t.F.len p.cf, .bool lx.op] 102)).drew = V at HV ⊢
                          have m0 := cell_of_row V _ 0 _ _ _ HV.out.2.2
                          have n0 := cell_of_row V _ 0 _ _ _ HV.out.2.1
                          have m1 := cell_of_row V _ 1 _ _ _ HV.out.2.2
                          have n1 := cell_of_row V _ 1 _ _ _ HV.out.2.1
                          have m2 := cell_of_row V _ 2 _ _ _ HV.out.2.2
                          have n2 := cell_of_row V _ 2 _ _ _ HV.out.2.1
                          have m3 := cell_of_row V _ 3 _ _ _ HV.out.2.2
                          have n3 := cell_of_row V _ 3 _ _ _ HV.out.2.1
                          have m4 := cell_of_row V _ 4 _ _ _ HV.out.2.2
                          have n4 := cell_of_row V _ 4 _ _ _ HV.out.2.1
                          have m5 := cell_of_row V _ 5 _ _ _ HV.out.2.2
                          have n5 := cell_of_row V _ 5 _ _ _ HV.out.2.1
                          have m6 := cell_of_row V _ 6 _ _ _ HV.out.2.2
                          have n6 := cell_of_row V _ 6 _ _ _ HV.out.2.1
                          have m7 := cell_of_row V _ 7 _ _ _ HV.out.2.2
                          have n7 := cell_of_row V _ 7 _ _ _ HV.out.2.1
                          clear c0 c1 c2 c3 c4 c5 c6 c7 d0 d1 d2 d3 d4 d5 d6 d7 g6 k6
                          by_cases v0 : lx.nm = ly.nm
                          · have q0 : (lx.nm.toList == ly.nm.toList) = true := by rw [v0]; simp
                            by_cases v1 : lx.vr = ly.vr
                            · have q1 : (lx.vr.toList == ly.vr.toList) = true := by rw [v1]; simp
                              by_cases v2 : lx.op = ly.op
                              · have q2 : (lx.op == ly.op) = true := by rw [v2]; simp
                                have u2 : (lx.op != ly.op) = false := by rw [v2]; simp
                                have HF := hid (show lx.eq ly = lx.t.eq ly.t by simp [Lb.eq, v0, v1, v2])
                                clear v0 v1 v2
                                go_wp2_with fail
                                refine (HE.out _ (HQ.out.2.2.1.trans (HV.out.1.mono HQ.out.2.2.1.size))).mono ?_
                                rintro e V2 ⟨rfl, hb⟩
                                have HZ := hid hb
                                clear hb m0 m1 m2 m3 m4 m5 m6 m7 n0 n1 n2 n3 n4 n5 n6 n7
                                cases ht : lx.t.eq ly.t with
                                | true =>
                                  rw [ht] at HF
                                  clear ht
                                  go_wp2_with fail
                                  go_roundw
                                  case rel => exact ⟨i + 1, r, r', by go_num, HQ.out.2.2.2.2.2.1, HQ.out.2.2.2.2.2.2.1, HQ.out.2.2.2.2.2.2.2, by rw [HQ.out.1, HF.out, Bool.true_and], HQ.out.2.2.2.1, HQ.out.2.2.2.2.1, HQ.out.2.1.trans ((HV.out.1.trans (HZ.out.mono HV.out.1.size)).mono HQ.out.2.1.size)⟩
                                  case measure => simp [intOf]; omega
                                | false =>
                                  rw [ht] at HF
                                  clear ht
                                  go_wp2_with fail
                                  go_ret
                                  exact ⟨by rw [HAe.out, HQ.out.1, HF.out]; rfl, H3.out.2.1.trans ((HQ.out.2.1.trans ((HV.out.1.trans (HZ.out.mono HV.out.1.size)).mono HQ.out.2.1.size)).mono H3.out.2.1.size)⟩
                              · have q2 : (lx.op == ly.op) = false := by simpa using v2
                                have u2 : (lx.op != ly.op) = true := by simpa using v2
                                clear v0 v1
                                have hf : lx.eq ly = false := by simp [Lb.eq, v2]
                                have HF := hid hf
                                clear hf v2
                                go_wp2_with fail
                                go_ret
                                exact ⟨by rw [HAe.out, HQ.out.1, HF.out]; rfl, H3.out.2.1.trans ((HQ.out.2.1.trans (HV.out.1.mono HQ.out.2.1.size)).mono H3.out.2.1.size)⟩
                            · have q1 := toList_ne v1
                              clear v0
                              have hf : lx.eq ly = false := by simp [Lb.eq, v1]
                              have HF := hid hf
                              clear hf v1
                              go_wp2_with fail
                              go_ret
                              exact ⟨by rw [HAe.out, HQ.out.1, HF.out]; rfl, H3.out.2.1.trans ((HQ.out.2.1.trans (HV.out.1.mono HQ.out.2.1.size)).mono H3.out.2.1.size)⟩
                          · have q0 := toList_ne v0
                            have hf : lx.eq ly = false := by simp [Lb.eq, v0]
                            have HF := hid hf
                            clear hf v0
                            go_wp2_with fail
                            go_ret
                            exact ⟨by rw [HAe.out, HQ.out.1, HF.out]; rfl, H3.out.2.1.trans ((HQ.out.2.1.trans (HV.out.1.mono HQ.out.2.1.size)).mono H3.out.2.1.size)⟩

              · have q6 : ((x.e.K.len : Int) == (y.e.K.len : Int)) = false := by rw [beq_eq_false_iff_ne]; omega
                have u6 : ((x.e.K.len : Int) != (y.e.K.len : Int)) = true := by simp; omega
                have hf : x.e.K.eq y.e.K = false := by
                  cases h : x.e.K.eq y.e.K with
                  | false => rfl
                  | true => exact absurd (Ex.eq_len h) h6
                have q5 : ((x.e.L.length : Int) == (y.e.L.length : Int)) = true := by rw [h5]; simp
                have u5 : ((x.e.L.length : Int) != (y.e.L.length : Int)) = false := by rw [h5]; simp
                have hres : x.e.eq y.e = false := by simp [Xp.eq, hf]
                rw [hres]
                clear hres
                clear hf h0 h1 h2 h3 h4 h5 h6
                go_enter Tryz.func30, Tryz.ntmps30
                go_wp2_with fail
                go_ret
                exact ⟨rfl, HB.out.2.1⟩
            · have q5 : ((x.e.L.length : Int) == (y.e.L.length : Int)) = false := by rw [beq_eq_false_iff_ne]; omega
              have u5 : ((x.e.L.length : Int) != (y.e.L.length : Int)) = true := by simp; omega
              have hf : allEq Lb.eq x.e.L y.e.L = false := by
                cases h : allEq Lb.eq x.e.L y.e.L with
                | false => rfl
                | true => exact absurd (allEq_len h) h5
              have hres : x.e.eq y.e = false := by simp [Xp.eq, hf]
              rw [hres]
              clear hres
              clear hf h0 h1 h2 h3 h4 h5
              go_enter Tryz.func30, Tryz.ntmps30
              go_wp2_with fail
              go_ret
              exact ⟨rfl, HB.out.2.1⟩
          · have q4 : (x.e.num == y.e.num) = false := by rw [beq_eq_false_iff_ne]; exact h4
            have u4 : (x.e.num != y.e.num) = true := by simp [h4]
            have hres : x.e.eq y.e = false := by simp [Xp.eq, h4]
            rw [hres]
            clear hres
            clear h0 h1 h2 h3 h4
            go_enter Tryz.func30, Tryz.ntmps30
            go_wp2_with fail
            go_ret
            exact ⟨rfl, HB.out.2.1⟩
        · have q3 := toList_ne h3
          have hres : x.e.eq y.e = false := by simp [Xp.eq, h3]
          rw [hres]
          clear hres
          clear h0 h1 h2 h3
          go_enter Tryz.func30, Tryz.ntmps30
          go_wp2_with fail
          go_ret
          exact ⟨rfl, HB.out.2.1⟩
      · have q2 := toList_ne h2
        have hres : x.e.eq y.e = false := by simp [Xp.eq, h2]
        rw [hres]
        clear hres
        clear h0 h1 h2
        go_enter Tryz.func30, Tryz.ntmps30
        go_wp2_with fail
        go_ret
        exact ⟨rfl, HB.out.2.1⟩
    · have q1 := toList_ne h1
      have hres : x.e.eq y.e = false := by simp [Xp.eq, h1]
      rw [hres]
      clear hres
      clear h0 h1
      go_enter Tryz.func30, Tryz.ntmps30
      go_wp2_with fail
      go_ret
      exact ⟨rfl, HB.out.2.1⟩
  · have q0 : (x.e.k == y.e.k) = false := by rw [beq_eq_false_iff_ne]; exact h0
    have u0 : (x.e.k != y.e.k) = true := by simp [h0]
    have hres : x.e.eq y.e = false := by simp [Xp.eq, h0]
    rw [hres]
    clear hres
    clear h0
    go_enter Tryz.func30, Tryz.ntmps30
    go_wp2_with fail
    go_ret
    exact ⟨rfl, HB.out.2.1⟩
theorem rxq_all (w0 : World) : ∀ s, s ≤ 1099511627776 → RXq w0 s := by
  intro s
  induction s with
  | zero => intro _ x y hx; have := x.e.bk_eq; omega
  | succ s ih => intro hs x y hx W hW; exact rxq_step w0 s hs (ih (by omega)) x y hx W hW
end Go.Proofs.YtnkhebgjhipepaaGreatDoor

namespace Go.Proofs.YtnkhebgjhipepaaGreatDoor
open Go.RowKit Go.Shelf

set_option maxRecDepth 100000 in
set_option maxHeartbeats 8000000 in
theorem rq_params (w0 : World) (T U : List Pm) (hT : (encPm T).bk ≤ 1099511627776) (aa ab : Option Addr) (ca cb : Nat) (hA : RowD w0 (encPm T) aa (0 * 7)) (hB : RowD w0 (encPm U) ab (0 * 7)) (W : World) (hW : Below w0.heap.size w0 W) :
    Calls Tryz.prog 131 #[.slice aa T.length ca, .slice ab U.length cb] W
      fun e W' => e = .returned (.bool (allEq Pm.eq T U)) ∧ Below W.heap.size W W' := by
  have HA := hid (And.intro hA hB)
  have HW := hid hW
  have hlT := Pm.len_bk T
  clear hA hB hW
  by_cases hl : T.length = U.length
  · have hl2 : (U.length : Int) = (T.length : Int) := by rw [hl]
    rw [← hl]
    have HL := hid hl
    clear hl hl2
    go_enter Tryz.func131, Tryz.ntmps131
    go_wp2_with fail
    go_loopw [5] (fun a wr => ∃ (i : Nat) (r1 r2 : List Pm), a = .int .i64 (i : Int) ∧ r1.length + i = T.length ∧ r1.length = r2.length ∧ (encPm r1).bk ≤ 1099511627776 ∧ allEq Pm.eq T U = allEq Pm.eq r1 r2 ∧ RowD w0 (encPm r1) aa (i * 7) ∧ RowD w0 (encPm r2) ab (i * 7) ∧ Below W.heap.size W wr) (fun a _ => T.length - (intOf a).toNat)
    case atStart => exact ⟨0, T, U, rfl, by omega, HL.out, hT, rfl, HA.out.1, HA.out.2, Below.refl _ _⟩
    case round =>
      obtain ⟨i, r1, r2, rfl, h1, h2, h3, h4, h5, h6, h7⟩ := hrel
      cases r1 with
      | nil =>
        cases r2 with
        | cons => simp at h2
        | nil =>
          have hi : i = T.length := by simp at h1; omega
          subst hi
          have HQ := hid (And.intro h4 h7)
          clear h1 h2 h3 h4 h5 h6 h7
          go_wp2_with fail
          go_ret
          exact ⟨by rw [HQ.out.1]; rfl, HQ.out.2⟩
      | cons lx r =>
        cases r2 with
        | nil => simp at h2
        | cons ly r' =>
          have hlt : i < T.length := by simp only [List.length_cons] at h1; omega
          obtain ⟨b, o, p, rfl, hp, -, ⟨c0, c1, c2, c3, c4, c5, c6⟩, hr1⟩ := rowD_pm h5
          obtain ⟨b', o', q, rfl, hq, -, ⟨d0, d1, d2, d3, d4, d5, d6⟩, hr2⟩ := rowD_pm h6
          have hwr := HW.out.trans (h7.mono HW.out.size)
          have C0 := (show ∀ X : Later wr, X.now.cell? ⟨b, o + i * 7, none⟩ = _ from fun X => old_cell (hwr.trans (X.since.mono hwr.size)) c0)
          have C1 := (show ∀ X : Later wr, X.now.cell? ⟨b, o + i * 7 + 1, none⟩ = _ from fun X => old_cell (hwr.trans (X.since.mono hwr.size)) c1)
          have C2 := (show ∀ X : Later wr, X.now.cell? ⟨b, o + i * 7 + 2, none⟩ = _ from fun X => old_cell (hwr.trans (X.since.mono hwr.size)) c2)
          have C3 := (show ∀ X : Later wr, X.now.cell? ⟨b, o + i * 7 + 3, none⟩ = _ from fun X => old_cell (hwr.trans (X.since.mono hwr.size)) c3)
          have C4 := (show ∀ X : Later wr, X.now.cell? ⟨b, o + i * 7 + 4, none⟩ = _ from fun X => old_cell (hwr.trans (X.since.mono hwr.size)) c4)
          have C5 := (show ∀ X : Later wr, X.now.cell? ⟨b, o + i * 7 + 5, none⟩ = _ from fun X => old_cell (hwr.trans (X.since.mono hwr.size)) c5)
          have C6 := (show ∀ X : Later wr, X.now.cell? ⟨b, o + i * 7 + 6, none⟩ = _ from fun X => old_cell (hwr.trans (X.since.mono hwr.size)) c6)
          have D0 := (show ∀ X : Later wr, X.now.cell? ⟨b', o' + i * 7, none⟩ = _ from fun X => old_cell (hwr.trans (X.since.mono hwr.size)) d0)
          have D1 := (show ∀ X : Later wr, X.now.cell? ⟨b', o' + i * 7 + 1, none⟩ = _ from fun X => old_cell (hwr.trans (X.since.mono hwr.size)) d1)
          have D2 := (show ∀ X : Later wr, X.now.cell? ⟨b', o' + i * 7 + 2, none⟩ = _ from fun X => old_cell (hwr.trans (X.since.mono hwr.size)) d2)
          have D3 := (show ∀ X : Later wr, X.now.cell? ⟨b', o' + i * 7 + 3, none⟩ = _ from fun X => old_cell (hwr.trans (X.since.mono hwr.size)) d3)
          have D4 := (show ∀ X : Later wr, X.now.cell? ⟨b', o' + i * 7 + 4, none⟩ = _ from fun X => old_cell (hwr.trans (X.since.mono hwr.size)) d4)
          have D5 := (show ∀ X : Later wr, X.now.cell? ⟨b', o' + i * 7 + 5, none⟩ = _ from fun X => old_cell (hwr.trans (X.since.mono hwr.size)) d5)
          have D6 := (show ∀ X : Later wr, X.now.cell? ⟨b', o' + i * 7 + 6, none⟩ = _ from fun X => old_cell (hwr.trans (X.since.mono hwr.size)) d6)
          have hsn : (encPm r).bk ≤ 1099511627776 ∧ lx.t.size ≤ 1099511627776 := by have h9 := lx.t.on_bk (encPm r); simp only [encPm, Dt.bk] at h3 h9; omega
          have heq : allEq Pm.eq (lx :: r) (ly :: r') = (lx.eq ly && allEq Pm.eq r r') := rfl
          rw [heq] at h4
          simp only [List.length_cons] at h1 h2
          have HE : Kpt (∀ X : Later wr, Calls Tryz.prog 28 #[.agg #[.int .i64 p.t.k, .string p.t.m, .string p.t.n, .slice p.aa p.t.A.len p.ca, .slice p.af p.t.F.len p.cf], .agg #[.int .i64 q.t.k, .string q.t.m, .string q.t.n, .slice q.aa q.t.A.len q.ca, .slice q.af q.t.F.len q.cf]] X.now fun e w'' => e = .returned (.bool (lx.t.eq ly.t)) ∧ ∃ y : Later wr, w'' = y.now) := hid (fun X => Calls.later_of (by rw [← hp, ← hq]; exact req_all w0 _ (by rw [hp]; exact hsn.2) p q (Nat.le_refl _) X.now (hwr.trans (X.since.mono hwr.size))))
          have HQ := hid (And.intro h4 (And.intro h7 (And.intro hr1 (And.intro hr2 (And.intro (show r.length + (i + 1) = T.length by omega) (And.intro (show r.length = r'.length by omega) hsn.1))))))
          clear h1 h2 h3 h4 h5 h6 h7 hwr hr1 hr2 heq hsn hp hq c0 c1 c2 c3 c4 c5 c6 d0 d1 d2 d3 d4 d5 d6
          by_cases v0 : lx.nm = ly.nm
          · have q0 : (lx.nm.toList == ly.nm.toList) = true := by rw [v0]; simp
            by_cases v1 : lx.vr = ly.vr
            · have q1 : (lx.vr == ly.vr) = true := by rw [v1]; simp
              have u1 : (lx.vr != ly.vr) = false := by rw [v1]; simp
              have HF := hid (show lx.eq ly = lx.t.eq ly.t by simp [Pm.eq, v0, v1])
              clear v0 v1
              cases ht : lx.t.eq ly.t with
              | true =>
                rw [ht] at HE HF
                clear ht
                go_wp2_with fail
                refine wp_region_later (by kernel_rfl) (by kernel_rfl) ?_
                repeat (go_big_quiet_step (first | (go_at_call 28; with_reducible exact HE.out _)))
                refine wpQuiet_nil ?_
                intro _ hw'
                obtain ⟨X, hX⟩ := hw'
                subst hX
                go_wp2_with fail
                go_roundw
                case rel => exact ⟨i + 1, r, r', by go_num, HQ.out.2.2.2.2.1, HQ.out.2.2.2.2.2.1, HQ.out.2.2.2.2.2.2, by rw [HQ.out.1, HF.out, Bool.true_and], HQ.out.2.2.1, HQ.out.2.2.2.1, HQ.out.2.1.trans (X.since.mono HQ.out.2.1.size)⟩
                case measure => simp [intOf]; omega
              | false =>
                rw [ht] at HE HF
                clear ht
                go_wp2_with fail
                refine wp_region_later (by kernel_rfl) (by kernel_rfl) ?_
                repeat (go_big_quiet_step (first | (go_at_call 28; with_reducible exact HE.out _)))
                refine wpQuiet_nil ?_
                intro _ hw'
                obtain ⟨X, hX⟩ := hw'
                subst hX
                go_wp2_with fail
                go_ret
                exact ⟨by rw [HQ.out.1, HF.out]; rfl, HQ.out.2.1.trans (X.since.mono HQ.out.2.1.size)⟩
            · have q1 : (lx.vr == ly.vr) = false := by rw [beq_eq_false_iff_ne]; exact v1
              have u1 : (lx.vr != ly.vr) = true := by simp [v1]
              have HF := hid (show lx.eq ly = false by simp [Pm.eq, v1])
              clear v0 v1
              go_wp2_with fail
              refine wp_region_later (by kernel_rfl) (by kernel_rfl) ?_
              repeat (go_big_quiet_step (first | (go_at_call 28; with_reducible exact HE.out _)))
              refine wpQuiet_nil ?_
              intro _ hw'
              obtain ⟨X, hX⟩ := hw'
              subst hX
              go_wp2_with fail
              go_ret
              exact ⟨by rw [HQ.out.1, HF.out]; rfl, HQ.out.2.1.trans (X.since.mono HQ.out.2.1.size)⟩
          · have q0 := toList_ne v0
            have HF := hid (show lx.eq ly = false by simp [Pm.eq, v0])
            clear v0
            go_wp2_with fail
            refine wp_region_later (by kernel_rfl) (by kernel_rfl) ?_
            repeat (go_big_quiet_step (first | (go_at_call 28; with_reducible exact HE.out _)))
            refine wpQuiet_nil ?_
            intro _ hw'
            obtain ⟨X, hX⟩ := hw'
            subst hX
            go_wp2_with fail
            go_ret
            exact ⟨by rw [HQ.out.1, HF.out]; rfl, HQ.out.2.1.trans (X.since.mono HQ.out.2.1.size)⟩
  · have hne : ((T.length : Int) == (U.length : Int)) = false := by rw [beq_eq_false_iff_ne]; omega
    have hf : allEq Pm.eq T U = false := by
      cases h : allEq Pm.eq T U with
      | false => rfl
      | true => exact absurd (allEq_len h) hl
    have HF := hid hf
    clear hf
    go_enter Tryz.func131, Tryz.ntmps131
    go_wp2_with fail
    go_ret
    exact ⟨by rw [HF.out]; rfl, Below.refl _ _⟩
end Go.Proofs.YtnkhebgjhipepaaGreatDoor
