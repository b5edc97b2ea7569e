/- syntax: labels compared. | syntax: expressions compared. | syntax: parameters and imports compared. -/
import Derived.Test.YtnkhebgjhipepaaGreatDoorEv
import Derived.Test.YtnkhebgjhipepaaGreatDoorSyQ
namespace Go.Proofs.YtnkhebgjhipepaaGreatDoor
open Go.RowKit Go.Shelf

set_option maxRecDepth 100000 in
set_option maxHeartbeats 8000000 in
theorem lb_any (w0 : World) (x y : Lb) (p q : TyI w0) (hp : p.t = x.t) (hq : q.t = y.t) (hs : p.t.size ≤ 1099511627776) (W : World) (hW : Below w0.heap.size w0 W) :
    Calls Tryz.prog 78 #[.agg #[.string x.nm, .string x.vr, .int .i64 p.t.k, .string p.t.m, .string p.t.n, .slice p.aa p.t.A.len p.ca, .slice p.af p.t.F.len p.cf, .bool x.op], .agg #[.string y.nm, .string y.vr, .int .i64 q.t.k, .string q.t.m, .string q.t.n, .slice q.aa q.t.A.len q.ca, .slice q.af q.t.F.len q.cf, .bool y.op]] W fun e W' => e = .returned (.bool (x.eq y)) ∧ Below W.heap.size W W' := by
  have HK0 : Kpt (∀ W' : World, Below w0.heap.size w0 W' → Calls Tryz.prog 27 #[.agg #[.int .i64 p.t.k, .string p.t.m, .string p.t.n, .slice p.aa p.t.A.len p.ca, .slice p.af p.t.F.len p.cf], .agg #[.int .i64 q.t.k, .string q.t.m, .string q.t.n, .slice q.aa q.t.A.len q.ca, .slice q.af q.t.F.len q.cf]] W' fun e W'' => e = .returned (.bool (x.t.eq y.t)) ∧ Below W'.heap.size W' W'') := hid (fun W' hW' => by rw [← hp, ← hq]; exact eq_all w0 _ hs p q (Nat.le_refl _) W' hW')
  clear hs hp hq
  obtain ⟨wa, hwa⟩ : ∃ wa, W.alloc (.cells #[.string x.nm, .string x.vr, .int .i64 p.t.k, .string p.t.m, .string p.t.n, .slice p.aa p.t.A.len p.ca, .slice p.af p.t.F.len p.cf, .bool x.op] 102) = wa := ⟨_, rfl⟩
  have hba : Below W.heap.size W wa := by rw [← hwa]; exact (Below.refl _ W).alloc (Nat.le_refl _) _
  have hsa : W.heap.size + 1 = wa.heap.size := by rw [← hwa]; simp
  obtain ⟨wb, hwb⟩ : ∃ wb, wa.alloc (.cells #[.string y.nm, .string y.vr, .int .i64 q.t.k, .string q.t.m, .string q.t.n, .slice q.aa q.t.A.len q.ca, .slice q.af q.t.F.len q.cf, .bool y.op] 102) = wb := ⟨_, rfl⟩
  have hbb : Below wa.heap.size wa wb := by rw [← hwb]; exact (Below.refl _ wa).alloc (Nat.le_refl _) _
  have e0 : wb.heap[W.heap.size]? = some (.cells #[.string x.nm, .string x.vr, .int .i64 p.t.k, .string p.t.m, .string p.t.n, .slice p.aa p.t.A.len p.ca, .slice p.af p.t.F.len p.cf, .bool x.op] 102 (0, 0)) := (hbb.block _ (by omega)).trans (by rw [← hwa]; exact World.alloc_heap_new _ _)
  have f0 : wb.heap[wa.heap.size]? = some (.cells #[.string y.nm, .string y.vr, .int .i64 q.t.k, .string q.t.m, .string q.t.n, .slice q.aa q.t.A.len q.ca, .slice q.af q.t.F.len q.cf, .bool y.op] 102 (0, 0)) := by rw [← hwb]; exact World.alloc_heap_new _ _
  have hwrb : Below W.heap.size W wb := hba.trans (hbb.mono hba.size)
  have HB := hid (And.intro (hW.trans (hwrb.mono hW.size)) (And.intro hwrb (And.intro (Array.getElem?_eq_some_iff.1 e0).1 (Array.getElem?_eq_some_iff.1 f0).1)))
  have g0 := cell_of_row wb _ 0 _ _ _ e0
  have k0 := cell_of_row wb _ 0 _ _ _ f0
  have g1 := cell_of_row wb _ 1 _ _ _ e0
  have k1 := cell_of_row wb _ 1 _ _ _ f0
  have g2 := cell_of_row wb _ 2 _ _ _ e0
  have k2 := cell_of_row wb _ 2 _ _ _ f0
  have g3 := cell_of_row wb _ 3 _ _ _ e0
  have k3 := cell_of_row wb _ 3 _ _ _ f0
  have g4 := cell_of_row wb _ 4 _ _ _ e0
  have k4 := cell_of_row wb _ 4 _ _ _ f0
  have g5 := cell_of_row wb _ 5 _ _ _ e0
  have k5 := cell_of_row wb _ 5 _ _ _ f0
  have g6 := cell_of_row wb _ 6 _ _ _ e0
  have k6 := cell_of_row wb _ 6 _ _ _ f0
  have g7 := cell_of_row wb _ 7 _ _ _ e0
  have k7 := cell_of_row wb _ 7 _ _ _ f0
  have HC := hid (And.intro e0 f0)
  clear e0 f0 hba hsa hbb hwrb hW
  by_cases h0 : x.nm = y.nm
  · have q0 : (x.nm.toList == y.nm.toList) = true := by rw [h0]; simp
    by_cases h1 : x.vr = y.vr
    · have q1 : (x.vr.toList == y.vr.toList) = true := by rw [h1]; simp
      by_cases h2 : x.op = y.op
      · have q2 : (x.op == y.op) = true := by rw [h2]; simp
        have hres : (x.eq y) = x.t.eq y.t := by simp [Lb.eq, Bool.and_assoc, h0, h1, h2]
        rw [hres]
        clear hres h0 h1 h2
        go_enter Tryz.func78, Tryz.ntmps78
        go_wp2_with fail
        refine (HK0.out _ HB.out.1).mono ?_
        rintro e v0 ⟨rfl, hb⟩
        have HZ := hid hb
        clear hb
        go_wp2_with fail
        go_ret
        exact ⟨rfl, HB.out.2.1.trans (HZ.out.mono HB.out.2.1.size)⟩
      · have q2 : (x.op == y.op) = false := by rw [beq_eq_false_iff_ne]; exact h2
        have hres : (x.eq y) = false := by simp [Lb.eq, h2]
        rw [hres]
        clear hres h0 h1 h2
        go_enter Tryz.func78, Tryz.ntmps78
        go_wp2_with fail
        go_ret
        exact ⟨rfl, HB.out.2.1⟩
    · have q1 := toList_ne h1
      have hres : (x.eq y) = false := by simp [Lb.eq, h1]
      rw [hres]
      clear hres h0 h1
      go_enter Tryz.func78, Tryz.ntmps78
      go_wp2_with fail
      go_ret
      exact ⟨rfl, HB.out.2.1⟩
  · have q0 := toList_ne h0
    have hres : (x.eq y) = false := by simp [Lb.eq, h0]
    rw [hres]
    clear hres h0
    go_enter Tryz.func78, Tryz.ntmps78
    go_wp2_with fail
    go_ret
    exact ⟨rfl, HB.out.2.1⟩
set_option maxRecDepth 100000 in
set_option maxHeartbeats 8000000 in
theorem eqf_labels (w0 : World) (T U : List Lb) (hT : (encLb T).bk ≤ 1099511627776) (aa ab : Option Addr) (ca cb : Nat) (hA : RowD w0 (encLb T) aa (0 * 8)) (hB : RowD w0 (encLb U) ab (0 * 8)) (W : World) (hW : Below w0.heap.size w0 W) :
    Calls Tryz.prog 77 #[.slice aa T.length ca, .slice ab U.length cb, .func (.func 78) #[] #[]] W
      fun e W' => e = .returned (.bool (allEq Lb.eq T U)) ∧ Below W.heap.size W W' := by
  have HA := hid (And.intro hA hB)
  have HW := hid hW
  have hlT := Lb.len_bk T
  clear hA hB hW
  by_cases hl : T.length = U.length
  · have hl2 : (U.length : Int) = (T.length : Int) := by rw [hl]
    rw [← hl]
    have HL := hid hl
    clear hl hl2
    go_enter Tryz.func77, Tryz.ntmps77
    go_wp2_with fail
    go_loopw [17] (fun a wr => ∃ (i : Nat) (r1 r2 : List Lb), a = .int .i64 (i : Int) ∧ r1.length + i = T.length ∧ r1.length = r2.length ∧ (encLb r1).bk ≤ 1099511627776 ∧ allEq Lb.eq T U = allEq Lb.eq r1 r2 ∧ RowD w0 (encLb r1) aa (i * 8) ∧ RowD w0 (encLb r2) ab (i * 8) ∧ Below W.heap.size W wr) (fun a _ => T.length - (intOf a).toNat)
    case atStart => exact ⟨0, T, U, rfl, by omega, HL.out, hT, rfl, HA.out.1, HA.out.2, Below.refl _ _⟩
    case round =>
      obtain ⟨i, r1, r2, rfl, h1, h2, h3, h4, h5, h6, h7⟩ := hrel
      cases r1 with
      | nil =>
        cases r2 with
        | cons y r' => simp [List.length_cons, List.length_nil] at h2
        | nil =>
          have hi : i = T.length := by simp [List.length_cons, List.length_nil] at h1; omega
          subst hi
          have HQ := hid (And.intro h4 h7)
          clear h1 h2 h3 h4 h5 h6 h7
          go_wp2_with fail
          go_ret
          exact ⟨by rw [HQ.out.1]; rfl, HQ.out.2⟩
      | cons x r =>
        cases r2 with
        | nil => simp [List.length_cons, List.length_nil] at h2
        | cons y r' =>
          have hlt : i < T.length := by simp only [List.length_cons, List.length_nil] at h1; omega
          obtain ⟨b, o, p, rfl, hp, ⟨c0, c1, c2, c3, c4, c5, c6, c7⟩, hr1⟩ := rowD_lb h5
          obtain ⟨b', o', q, rfl, hq, ⟨d0, d1, d2, d3, d4, d5, d6, d7⟩, hr2⟩ := rowD_lb h6
          have hwr := HW.out.trans (h7.mono HW.out.size)
          replace c0 := old_cell hwr c0
          replace c1 := old_cell hwr c1
          replace c2 := old_cell hwr c2
          replace c3 := old_cell hwr c3
          replace c4 := old_cell hwr c4
          replace c5 := old_cell hwr c5
          replace c6 := old_cell hwr c6
          replace c7 := old_cell hwr c7
          obtain ⟨wa, hwa⟩ : ∃ wa, wr.alloc (.cells #[.string x.nm, .string x.vr, .int .i64 p.t.k, .string p.t.m, .string p.t.n, .slice p.aa p.t.A.len p.ca, .slice p.af p.t.F.len p.cf, .bool x.op] 102) = wa := ⟨_, rfl⟩
          have hba : Below wr.heap.size wr wa := by rw [← hwa]; exact (Below.refl _ wr).alloc (Nat.le_refl _) _
          have hsa : wr.heap.size + 1 = wa.heap.size := by rw [← hwa]; simp
          have hwra := hwr.trans (hba.mono hwr.size)
          replace d0 := old_cell hwra d0
          replace d1 := old_cell hwra d1
          replace d2 := old_cell hwra d2
          replace d3 := old_cell hwra d3
          replace d4 := old_cell hwra d4
          replace d5 := old_cell hwra d5
          replace d6 := old_cell hwra d6
          replace d7 := old_cell hwra d7
          obtain ⟨wb, hwb⟩ : ∃ wb, wa.alloc (.cells #[.string y.nm, .string y.vr, .int .i64 q.t.k, .string q.t.m, .string q.t.n, .slice q.aa q.t.A.len q.ca, .slice q.af q.t.F.len q.cf, .bool y.op] 102) = wb := ⟨_, rfl⟩
          have hbb : Below wa.heap.size wa wb := by rw [← hwb]; exact (Below.refl _ wa).alloc (Nat.le_refl _) _
          have e0 : wb.heap[wr.heap.size]? = some (.cells #[.string x.nm, .string x.vr, .int .i64 p.t.k, .string p.t.m, .string p.t.n, .slice p.aa p.t.A.len p.ca, .slice p.af p.t.F.len p.cf, .bool x.op] 102 (0, 0)) := (hbb.block _ (by omega)).trans (by rw [← hwa]; exact World.alloc_heap_new _ _)
          have f0 : wb.heap[wa.heap.size]? = some (.cells #[.string y.nm, .string y.vr, .int .i64 q.t.k, .string q.t.m, .string q.t.n, .slice q.aa q.t.A.len q.ca, .slice q.af q.t.F.len q.cf, .bool y.op] 102 (0, 0)) := by rw [← hwb]; exact World.alloc_heap_new _ _
          have g0 := cell_of_row wb _ 0 _ _ _ e0
          have k0 := cell_of_row wb _ 0 _ _ _ f0
          have g1 := cell_of_row wb _ 1 _ _ _ e0
          have k1 := cell_of_row wb _ 1 _ _ _ f0
          have g2 := cell_of_row wb _ 2 _ _ _ e0
          have k2 := cell_of_row wb _ 2 _ _ _ f0
          have g3 := cell_of_row wb _ 3 _ _ _ e0
          have k3 := cell_of_row wb _ 3 _ _ _ f0
          have g4 := cell_of_row wb _ 4 _ _ _ e0
          have k4 := cell_of_row wb _ 4 _ _ _ f0
          have g5 := cell_of_row wb _ 5 _ _ _ e0
          have k5 := cell_of_row wb _ 5 _ _ _ f0
          have g6 := cell_of_row wb _ 6 _ _ _ e0
          have k6 := cell_of_row wb _ 6 _ _ _ f0
          have g7 := cell_of_row wb _ 7 _ _ _ e0
          have k7 := cell_of_row wb _ 7 _ _ _ f0
          have hwrb : Below wr.heap.size wr wb := hba.trans (hbb.mono hba.size)
          clear e0 f0 hba hsa hbb
          have HE : Kpt (∀ W', Below w0.heap.size w0 W' → Calls Tryz.prog 78 #[.agg #[.string x.nm, .string x.vr, .int .i64 p.t.k, .string p.t.m, .string p.t.n, .slice p.aa p.t.A.len p.ca, .slice p.af p.t.F.len p.cf, .bool x.op], .agg #[.string y.nm, .string y.vr, .int .i64 q.t.k, .string q.t.m, .string q.t.n, .slice q.aa q.t.A.len q.ca, .slice q.af q.t.F.len q.cf, .bool y.op]] W'
            fun e W'' => e = .returned (.bool (x.eq y)) ∧ Below W'.heap.size W' W'') := hid (fun W' hW' => lb_any w0 x y p q hp hq (by have h9 := x.t.on_bk (.bool x.op (encLb r)); simp only [encLb, Dt.bk] at h3 h9; rw [hp]; omega) W' hW')
          have heq : allEq Lb.eq (x :: r) (y :: r') = (x.eq y && allEq Lb.eq r r') := rfl
          rw [heq] at h4
          have hsn : (encLb r).bk ≤ 1099511627776 := by have h9 := x.t.on_bk (.bool x.op (encLb r)); simp only [encLb, Dt.bk] at h3 h9; omega
          simp only [List.length_cons, List.length_nil] at h1 h2
          have HQ := hid (And.intro h4 (And.intro (h7.trans (hwrb.mono h7.size)) (And.intro (hwr.trans (hwrb.mono hwr.size)) (And.intro hr1 (And.intro hr2 (And.intro (show r.length + (i + 1) = T.length by omega) (And.intro (show r.length = r'.length by omega) hsn)))))))
          clear h1 h2 h3 h4 h5 h6 h7 hwr hr1 hr2 heq hsn hwra hwrb hp hq
          cases hxy : x.eq y with
          | true =>
            rw [hxy] at HE HQ
            clear hxy
            go_wp2_with fail
            refine (HE.out _ HQ.out.2.2.1).mono ?_
            rintro e w3 ⟨rfl, hb3⟩
            go_wp2_with fail
            go_roundw
            case rel => exact ⟨i + 1, r, r', by go_num, HQ.out.2.2.2.2.2.1, HQ.out.2.2.2.2.2.2.1, HQ.out.2.2.2.2.2.2.2, by rw [HQ.out.1, Bool.true_and], HQ.out.2.2.2.1, HQ.out.2.2.2.2.1, HQ.out.2.1.trans (hb3.mono HQ.out.2.1.size)⟩
            case measure => simp [intOf]; omega
          | false =>
            rw [hxy] at HE HQ
            clear hxy
            go_wp2_with fail
            refine (HE.out _ HQ.out.2.2.1).mono ?_
            rintro e w3 ⟨rfl, hb3⟩
            go_wp2_with fail
            go_ret
            exact ⟨by rw [HQ.out.1, Bool.false_and]; rfl, HQ.out.2.1.trans (hb3.mono HQ.out.2.1.size)⟩
  · have hne : ((T.length : Int) == (U.length : Int)) = false := by rw [beq_eq_false_iff_ne]; omega
    have hf : allEq Lb.eq T U = false := by
      cases h : allEq Lb.eq T U with
      | false => rfl
      | true => exact absurd (allEq_len h) hl
    have HF := hid hf
    clear hf
    go_enter Tryz.func77, Tryz.ntmps77
    go_wp2_with fail
    go_ret
    exact ⟨by rw [HF.out]; rfl, Below.refl _ _⟩
end Go.Proofs.YtnkhebgjhipepaaGreatDoor

namespace Go.Proofs.YtnkhebgjhipepaaGreatDoor
open Go.RowKit Go.Shelf

def EqX (w0 : World) (s : Nat) : Prop := ∀ x y : XpI w0, x.e.bk ≤ s → ∀ W, Below w0.heap.size w0 W → Calls Tryz.prog 29 #[.agg #[.int .i64 x.e.k, .string x.e.m, .string x.e.n, .string x.e.tx, .int .i64 x.e.num, .slice x.aT x.e.T.len x.cT, .slice x.aL x.e.L.length x.cL, .slice x.aK x.e.K.len x.cK], .agg #[.int .i64 y.e.k, .string y.e.m, .string y.e.n, .string y.e.tx, .int .i64 y.e.num, .slice y.aT y.e.T.len y.cT, .slice y.aL y.e.L.length y.cL, .slice y.aK y.e.K.len y.cK]] W fun e W' => e = .returned (.bool (x.e.eq y.e)) ∧ Below W.heap.size W W'
set_option maxRecDepth 100000 in
set_option maxHeartbeats 8000000 in
theorem eqf_exprs (w0 : World) (s : Nat) (ih : EqX w0 s) (hs : s ≤ 1099511627776) (T U : Ex) (hT : T.enc.bk ≤ s) (aa ab : Option Addr) (ca cb : Nat) (hA : RowD w0 T.enc aa (0 * 8)) (hB : RowD w0 U.enc ab (0 * 8)) (W : World) (hW : Below w0.heap.size w0 W) :
    Calls Tryz.prog 79 #[.slice aa T.len ca, .slice ab U.len cb, .func (.func 29) #[] #[]] W
      fun e W' => e = .returned (.bool (Ex.eq T U)) ∧ Below W.heap.size W W' := by
  have HA := hid (And.intro hA hB)
  have HW := hid hW
  have hlT := Ex.len_bk T
  have HI := hid ih
  clear ih
  clear hA hB hW
  by_cases hl : T.len = U.len
  · have hl2 : (U.len : Int) = (T.len : Int) := by rw [hl]
    rw [← hl]
    have HL := hid hl
    clear hl hl2
    go_enter Tryz.func79, Tryz.ntmps79
    go_wp2_with fail
    go_loopw [17] (fun a wr => ∃ (i : Nat) (r1 r2 : Ex), a = .int .i64 (i : Int) ∧ r1.len + i = T.len ∧ r1.len = r2.len ∧ r1.enc.bk ≤ s ∧ Ex.eq T U = Ex.eq r1 r2 ∧ RowD w0 r1.enc aa (i * 8) ∧ RowD w0 r2.enc ab (i * 8) ∧ Below W.heap.size W wr) (fun a _ => T.len - (intOf a).toNat)
    case atStart => exact ⟨0, T, U, rfl, by omega, HL.out, hT, rfl, HA.out.1, HA.out.2, Below.refl _ _⟩
    case round =>
      obtain ⟨i, r1, r2, rfl, h1, h2, h3, h4, h5, h6, h7⟩ := hrel
      cases r1 with
      | nil =>
        cases r2 with
        | node k' m' n' tx' num' T2 L' K' nx' => simp [Ex.len] at h2
        | nil =>
          have hi : i = T.len := by simp [Ex.len] at h1; omega
          subst hi
          have HQ := hid (And.intro h4 h7)
          clear h1 h2 h3 h4 h5 h6 h7
          go_wp2_with fail
          go_ret
          exact ⟨by rw [HQ.out.1]; rfl, HQ.out.2⟩
      | node k m n tx num T1 L K nx =>
        cases r2 with
        | nil => simp [Ex.len] at h2
        | node k' m' n' tx' num' T2 L' K' nx' =>
          have hlt : i < T.len := by simp only [Ex.len] at h1; omega
          obtain ⟨b, o, p, rfl, hp, ⟨c0, c1, c2, c3, c4, c5, c6, c7⟩, hr1⟩ := rowD_ex h5
          obtain ⟨b', o', q, rfl, hq, ⟨d0, d1, d2, d3, d4, d5, d6, d7⟩, hr2⟩ := rowD_ex h6
          have hwr := HW.out.trans (h7.mono HW.out.size)
          replace c0 := old_cell hwr c0
          replace c1 := old_cell hwr c1
          replace c2 := old_cell hwr c2
          replace c3 := old_cell hwr c3
          replace c4 := old_cell hwr c4
          replace c5 := old_cell hwr c5
          replace c6 := old_cell hwr c6
          replace c7 := old_cell hwr c7
          obtain ⟨wa, hwa⟩ : ∃ wa, wr.alloc (.cells #[.int .i64 p.e.k, .string p.e.m, .string p.e.n, .string p.e.tx, .int .i64 p.e.num, .slice p.aT p.e.T.len p.cT, .slice p.aL p.e.L.length p.cL, .slice p.aK p.e.K.len p.cK] 29) = wa := ⟨_, rfl⟩
          have hba : Below wr.heap.size wr wa := by rw [← hwa]; exact (Below.refl _ wr).alloc (Nat.le_refl _) _
          have hsa : wr.heap.size + 1 = wa.heap.size := by rw [← hwa]; simp
          have hwra := hwr.trans (hba.mono hwr.size)
          replace d0 := old_cell hwra d0
          replace d1 := old_cell hwra d1
          replace d2 := old_cell hwra d2
          replace d3 := old_cell hwra d3
          replace d4 := old_cell hwra d4
          replace d5 := old_cell hwra d5
          replace d6 := old_cell hwra d6
          replace d7 := old_cell hwra d7
          obtain ⟨wb, hwb⟩ : ∃ wb, wa.alloc (.cells #[.int .i64 q.e.k, .string q.e.m, .string q.e.n, .string q.e.tx, .int .i64 q.e.num, .slice q.aT q.e.T.len q.cT, .slice q.aL q.e.L.length q.cL, .slice q.aK q.e.K.len q.cK] 29) = wb := ⟨_, rfl⟩
          have hbb : Below wa.heap.size wa wb := by rw [← hwb]; exact (Below.refl _ wa).alloc (Nat.le_refl _) _
          have e0 : wb.heap[wr.heap.size]? = some (.cells #[.int .i64 p.e.k, .string p.e.m, .string p.e.n, .string p.e.tx, .int .i64 p.e.num, .slice p.aT p.e.T.len p.cT, .slice p.aL p.e.L.length p.cL, .slice p.aK p.e.K.len p.cK] 29 (0, 0)) := (hbb.block _ (by omega)).trans (by rw [← hwa]; exact World.alloc_heap_new _ _)
          have f0 : wb.heap[wa.heap.size]? = some (.cells #[.int .i64 q.e.k, .string q.e.m, .string q.e.n, .string q.e.tx, .int .i64 q.e.num, .slice q.aT q.e.T.len q.cT, .slice q.aL q.e.L.length q.cL, .slice q.aK q.e.K.len q.cK] 29 (0, 0)) := by rw [← hwb]; exact World.alloc_heap_new _ _
          have g0 := cell_of_row wb _ 0 _ _ _ e0
          have k0 := cell_of_row wb _ 0 _ _ _ f0
          have g1 := cell_of_row wb _ 1 _ _ _ e0
          have k1 := cell_of_row wb _ 1 _ _ _ f0
          have g2 := cell_of_row wb _ 2 _ _ _ e0
          have k2 := cell_of_row wb _ 2 _ _ _ f0
          have g3 := cell_of_row wb _ 3 _ _ _ e0
          have k3 := cell_of_row wb _ 3 _ _ _ f0
          have g4 := cell_of_row wb _ 4 _ _ _ e0
          have k4 := cell_of_row wb _ 4 _ _ _ f0
          have g5 := cell_of_row wb _ 5 _ _ _ e0
          have k5 := cell_of_row wb _ 5 _ _ _ f0
          have g6 := cell_of_row wb _ 6 _ _ _ e0
          have k6 := cell_of_row wb _ 6 _ _ _ f0
          have g7 := cell_of_row wb _ 7 _ _ _ e0
          have k7 := cell_of_row wb _ 7 _ _ _ f0
          have hwrb : Below wr.heap.size wr wb := hba.trans (hbb.mono hba.size)
          clear e0 f0 hba hsa hbb
          have HE : Kpt (∀ W', Below w0.heap.size w0 W' → Calls Tryz.prog 29 #[.agg #[.int .i64 p.e.k, .string p.e.m, .string p.e.n, .string p.e.tx, .int .i64 p.e.num, .slice p.aT p.e.T.len p.cT, .slice p.aL p.e.L.length p.cL, .slice p.aK p.e.K.len p.cK], .agg #[.int .i64 q.e.k, .string q.e.m, .string q.e.n, .string q.e.tx, .int .i64 q.e.num, .slice q.aT q.e.T.len q.cT, .slice q.aL q.e.L.length q.cL, .slice q.aK q.e.K.len q.cK]] W'
            fun e W'' => e = .returned (.bool (p.e.eq q.e)) ∧ Below W'.heap.size W' W'') := hid (fun W' hW' => HI.out p q (by rw [hp]; simp only [Ex.enc, Dt.bk] at h3; simp only [Xp.bk, Xp.on, Dt.bk]; omega) W' hW')
          have heq : Ex.eq (Ex.node k m n tx num T1 L K nx) (Ex.node k' m' n' tx' num' T2 L' K' nx') = (p.e.eq q.e && Ex.eq nx nx') := by rw [hp, hq]; rfl
          rw [heq] at h4
          have hsn : nx.enc.bk ≤ s := by simp only [Ex.enc, Dt.bk] at h3; omega
          simp only [Ex.len] at h1 h2
          have HQ := hid (And.intro h4 (And.intro (h7.trans (hwrb.mono h7.size)) (And.intro (hwr.trans (hwrb.mono hwr.size)) (And.intro hr1 (And.intro hr2 (And.intro (show nx.len + (i + 1) = T.len by omega) (And.intro (show nx.len = nx'.len by omega) hsn)))))))
          clear h1 h2 h3 h4 h5 h6 h7 hwr hr1 hr2 heq hsn hwra hwrb hp hq
          cases hxy : p.e.eq q.e with
          | true =>
            rw [hxy] at HE HQ
            clear hxy
            go_wp2_with fail
            refine (HE.out _ HQ.out.2.2.1).mono ?_
            rintro e w3 ⟨rfl, hb3⟩
            go_wp2_with fail
            go_roundw
            case rel => exact ⟨i + 1, nx, nx', by go_num, HQ.out.2.2.2.2.2.1, HQ.out.2.2.2.2.2.2.1, HQ.out.2.2.2.2.2.2.2, by rw [HQ.out.1, Bool.true_and], HQ.out.2.2.2.1, HQ.out.2.2.2.2.1, HQ.out.2.1.trans (hb3.mono HQ.out.2.1.size)⟩
            case measure => simp [intOf]; omega
          | false =>
            rw [hxy] at HE HQ
            clear hxy
            go_wp2_with fail
            refine (HE.out _ HQ.out.2.2.1).mono ?_
            rintro e w3 ⟨rfl, hb3⟩
            go_wp2_with fail
            go_ret
            exact ⟨by rw [HQ.out.1, Bool.false_and]; rfl, HQ.out.2.1.trans (hb3.mono HQ.out.2.1.size)⟩
  · have hne : ((T.len : Int) == (U.len : Int)) = false := by rw [beq_eq_false_iff_ne]; omega
    have hf : Ex.eq T U = false := by
      cases h : Ex.eq T U with
      | false => rfl
      | true => exact absurd (Ex.eq_len h) hl
    have HF := hid hf
    clear hf
    go_enter Tryz.func79, Tryz.ntmps79
    go_wp2_with fail
    go_ret
    exact ⟨by rw [HF.out]; rfl, Below.refl _ _⟩
set_option maxRecDepth 100000 in
set_option maxHeartbeats 8000000 in
theorem xp_step (w0 : World) (s : Nat) (hs : s + 1 ≤ 1099511627776) (ih : EqX w0 s) (x y : XpI w0) (hx : x.e.bk ≤ s + 1) (W : World) (hW : Below w0.heap.size w0 W) :
    Calls Tryz.prog 29 #[.agg #[.int .i64 x.e.k, .string x.e.m, .string x.e.n, .string x.e.tx, .int .i64 x.e.num, .slice x.aT x.e.T.len x.cT, .slice x.aL x.e.L.length x.cL, .slice x.aK x.e.K.len x.cK], .agg #[.int .i64 y.e.k, .string y.e.m, .string y.e.n, .string y.e.tx, .int .i64 y.e.num, .slice y.aT y.e.T.len y.cT, .slice y.aL y.e.L.length y.cL, .slice y.aK y.e.K.len y.cK]] W fun e W' => e = .returned (.bool (x.e.eq y.e)) ∧ Below W.heap.size W W' := by
  have hbk := x.e.bk_eq
  have hT0 := x.e.T.size_enc false
  have hsT : x.e.T.size ≤ 1099511627776 := by omega
  have HK0 : Kpt (∀ W' : World, Below w0.heap.size w0 W' → Calls Tryz.prog 73 #[.slice x.aT x.e.T.len x.cT, .slice y.aT y.e.T.len y.cT, .func (.func 27) #[] #[]] W' fun e W'' => e = .returned (.bool (x.e.T.eq false y.e.T)) ∧ Below W'.heap.size W' W'') := hid (fun W' hW' => eqf_types w0 _ (eq_all w0 _ hsT) hsT x.e.T y.e.T (Nat.le_refl _) x.aT y.aT x.cT y.cT (rowAt_zero x.hT) (rowAt_zero y.hT) W' hW')
  have HK1 : Kpt (∀ W' : World, Below w0.heap.size w0 W' → Calls Tryz.prog 77 #[.slice x.aL x.e.L.length x.cL, .slice y.aL y.e.L.length y.cL, .func (.func 78) #[] #[]] W' fun e W'' => e = .returned (.bool (allEq Lb.eq x.e.L y.e.L)) ∧ Below W'.heap.size W' W'') := hid (fun W' hW' => eqf_labels w0 x.e.L y.e.L (by omega) x.aL y.aL x.cL y.cL (rowD_zero x.hL) (rowD_zero y.hL) W' hW')
  have HK2 : Kpt (∀ W' : World, Below w0.heap.size w0 W' → Calls Tryz.prog 79 #[.slice x.aK x.e.K.len x.cK, .slice y.aK y.e.K.len y.cK, .func (.func 29) #[] #[]] W' fun e W'' => e = .returned (.bool (x.e.K.eq y.e.K)) ∧ Below W'.heap.size W' W'') := hid (fun W' hW' => eqf_exprs w0 s ih (by omega) x.e.K y.e.K (by omega) x.aK y.aK x.cK y.cK (rowD_zero x.hK) (rowD_zero y.hK) W' hW')
  clear hbk hT0 hsT ih hx
  obtain ⟨wa, hwa⟩ : ∃ wa, W.alloc (.cells #[.int .i64 x.e.k, .string x.e.m, .string x.e.n, .string x.e.tx, .int .i64 x.e.num, .slice x.aT x.e.T.len x.cT, .slice x.aL x.e.L.length x.cL, .slice x.aK x.e.K.len x.cK] 29) = wa := ⟨_, rfl⟩
  have hba : Below W.heap.size W wa := by rw [← hwa]; exact (Below.refl _ W).alloc (Nat.le_refl _) _
  have hsa : W.heap.size + 1 = wa.heap.size := by rw [← hwa]; simp
  obtain ⟨wb, hwb⟩ : ∃ wb, wa.alloc (.cells #[.int .i64 y.e.k, .string y.e.m, .string y.e.n, .string y.e.tx, .int .i64 y.e.num, .slice y.aT y.e.T.len y.cT, .slice y.aL y.e.L.length y.cL, .slice y.aK y.e.K.len y.cK] 29) = wb := ⟨_, rfl⟩
  have hbb : Below wa.heap.size wa wb := by rw [← hwb]; exact (Below.refl _ wa).alloc (Nat.le_refl _) _
  have e0 : wb.heap[W.heap.size]? = some (.cells #[.int .i64 x.e.k, .string x.e.m, .string x.e.n, .string x.e.tx, .int .i64 x.e.num, .slice x.aT x.e.T.len x.cT, .slice x.aL x.e.L.length x.cL, .slice x.aK x.e.K.len x.cK] 29 (0, 0)) := (hbb.block _ (by omega)).trans (by rw [← hwa]; exact World.alloc_heap_new _ _)
  have f0 : wb.heap[wa.heap.size]? = some (.cells #[.int .i64 y.e.k, .string y.e.m, .string y.e.n, .string y.e.tx, .int .i64 y.e.num, .slice y.aT y.e.T.len y.cT, .slice y.aL y.e.L.length y.cL, .slice y.aK y.e.K.len y.cK] 29 (0, 0)) := by rw [← hwb]; exact World.alloc_heap_new _ _
  have hwrb : Below W.heap.size W wb := hba.trans (hbb.mono hba.size)
  have HB := hid (And.intro (hW.trans (hwrb.mono hW.size)) (And.intro hwrb (And.intro (Array.getElem?_eq_some_iff.1 e0).1 (Array.getElem?_eq_some_iff.1 f0).1)))
  have g0 := cell_of_row wb _ 0 _ _ _ e0
  have k0 := cell_of_row wb _ 0 _ _ _ f0
  have g1 := cell_of_row wb _ 1 _ _ _ e0
  have k1 := cell_of_row wb _ 1 _ _ _ f0
  have g2 := cell_of_row wb _ 2 _ _ _ e0
  have k2 := cell_of_row wb _ 2 _ _ _ f0
  have g3 := cell_of_row wb _ 3 _ _ _ e0
  have k3 := cell_of_row wb _ 3 _ _ _ f0
  have g4 := cell_of_row wb _ 4 _ _ _ e0
  have k4 := cell_of_row wb _ 4 _ _ _ f0
  have g5 := cell_of_row wb _ 5 _ _ _ e0
  have k5 := cell_of_row wb _ 5 _ _ _ f0
  have g6 := cell_of_row wb _ 6 _ _ _ e0
  have k6 := cell_of_row wb _ 6 _ _ _ f0
  have g7 := cell_of_row wb _ 7 _ _ _ e0
  have k7 := cell_of_row wb _ 7 _ _ _ f0
  have HC := hid (And.intro e0 f0)
  clear e0 f0 hba hsa hbb hwrb hW
  by_cases h0 : x.e.k = y.e.k
  · have q0 : (x.e.k == y.e.k) = true := by rw [h0]; simp
    by_cases h1 : x.e.m = y.e.m
    · have q1 : (x.e.m.toList == y.e.m.toList) = true := by rw [h1]; simp
      by_cases h2 : x.e.n = y.e.n
      · have q2 : (x.e.n.toList == y.e.n.toList) = true := by rw [h2]; simp
        by_cases h3 : x.e.tx = y.e.tx
        · have q3 : (x.e.tx.toList == y.e.tx.toList) = true := by rw [h3]; simp
          by_cases h4 : x.e.num = y.e.num
          · have q4 : (x.e.num == y.e.num) = true := by rw [h4]; simp
            have hres : (x.e.eq y.e) = (x.e.T.eq false y.e.T && (allEq Lb.eq x.e.L y.e.L && x.e.K.eq y.e.K)) := by simp [Xp.eq, Bool.and_assoc, h0, h1, h2, h3, h4]
            rw [hres]
            clear hres h0 h1 h2 h3 h4
            go_enter Tryz.func29, Tryz.ntmps29
            go_wp2_with fail
            refine (HK0.out _ HB.out.1).mono ?_
            rintro e v0 ⟨rfl, hb⟩
            have e0 := (hb.block _ HB.out.2.2.1).trans HC.out.1
            have f0 := (hb.block _ HB.out.2.2.2).trans HC.out.2
            clear g0 k0 g1 k1 g2 k2 g3 k3 g4 k4 g5 k5 g6 k6 g7 k7
            have g6 := cell_of_row v0 _ 6 _ _ _ e0
            have k6 := cell_of_row v0 _ 6 _ _ _ f0
            have g7 := cell_of_row v0 _ 7 _ _ _ e0
            have k7 := cell_of_row v0 _ 7 _ _ _ f0
            have HB0 := hid (And.intro (HB.out.1.trans (hb.mono HB.out.1.size)) (And.intro (HB.out.2.1.trans (hb.mono HB.out.2.1.size)) (And.intro (Array.getElem?_eq_some_iff.1 e0).1 (Array.getElem?_eq_some_iff.1 f0).1)))
            have HC0 := hid (And.intro e0 f0)
            clear hb e0 f0
            cases hA0 : x.e.T.eq false y.e.T with
            | true =>
              go_wp2_with fail
              refine (HK1.out _ HB0.out.1).mono ?_
              rintro e v1 ⟨rfl, hb⟩
              have e0 := (hb.block _ HB0.out.2.2.1).trans HC0.out.1
              have f0 := (hb.block _ HB0.out.2.2.2).trans HC0.out.2
              clear g6 k6 g7 k7
              have g7 := cell_of_row v1 _ 7 _ _ _ e0
              have k7 := cell_of_row v1 _ 7 _ _ _ f0
              have HB1 := hid (And.intro (HB0.out.1.trans (hb.mono HB0.out.1.size)) (And.intro (HB0.out.2.1.trans (hb.mono HB0.out.2.1.size)) (And.intro (Array.getElem?_eq_some_iff.1 e0).1 (Array.getElem?_eq_some_iff.1 f0).1)))
              have HC1 := hid (And.intro e0 f0)
              clear hb e0 f0
              cases hA1 : allEq Lb.eq x.e.L y.e.L with
              | true =>
                go_wp2_with fail
                refine (HK2.out _ HB1.out.1).mono ?_
                rintro e v2 ⟨rfl, hb⟩
                have HZ := hid hb
                clear hb
                go_wp2_with fail
                go_ret
                exact ⟨by rw [hA0, hA1]; try rw [Bool.true_and]; try rw [Bool.true_and]; first | rfl | simp, HB1.out.2.1.trans (HZ.out.mono HB1.out.2.1.size)⟩
              | false =>
                go_wp2_with fail
                go_ret
                exact ⟨by rw [hA0, hA1]; simp, HB1.out.2.1⟩
            | false =>
              go_wp2_with fail
              go_ret
              exact ⟨by rw [hA0]; simp, HB0.out.2.1⟩
          · have q4 : (x.e.num == y.e.num) = false := by rw [beq_eq_false_iff_ne]; exact h4
            have hres : (x.e.eq y.e) = false := by simp [Xp.eq, h4]
            rw [hres]
            clear hres h0 h1 h2 h3 h4
            go_enter Tryz.func29, Tryz.ntmps29
            go_wp2_with fail
            go_ret
            exact ⟨rfl, HB.out.2.1⟩
        · have q3 := toList_ne h3
          have hres : (x.e.eq y.e) = false := by simp [Xp.eq, h3]
          rw [hres]
          clear hres h0 h1 h2 h3
          go_enter Tryz.func29, Tryz.ntmps29
          go_wp2_with fail
          go_ret
          exact ⟨rfl, HB.out.2.1⟩
      · have q2 := toList_ne h2
        have hres : (x.e.eq y.e) = false := by simp [Xp.eq, h2]
        rw [hres]
        clear hres h0 h1 h2
        go_enter Tryz.func29, Tryz.ntmps29
        go_wp2_with fail
        go_ret
        exact ⟨rfl, HB.out.2.1⟩
    · have q1 := toList_ne h1
      have hres : (x.e.eq y.e) = false := by simp [Xp.eq, h1]
      rw [hres]
      clear hres h0 h1
      go_enter Tryz.func29, Tryz.ntmps29
      go_wp2_with fail
      go_ret
      exact ⟨rfl, HB.out.2.1⟩
  · have q0 : (x.e.k == y.e.k) = false := by rw [beq_eq_false_iff_ne]; exact h0
    have hres : (x.e.eq y.e) = false := by simp [Xp.eq, h0]
    rw [hres]
    clear hres h0
    go_enter Tryz.func29, Tryz.ntmps29
    go_wp2_with fail
    go_ret
    exact ⟨rfl, HB.out.2.1⟩
theorem xp_all (w0 : World) : ∀ s, s ≤ 1099511627776 → EqX w0 s := by
  intro s
  induction s with
  | zero => intro _ x y hx; have := x.e.bk_eq; omega
  | succ s ih => intro hs x y hx W hW; exact xp_step w0 s hs (ih (by omega)) x y hx W hW
end Go.Proofs.YtnkhebgjhipepaaGreatDoor

namespace Go.Proofs.YtnkhebgjhipepaaGreatDoor
open Go.RowKit Go.Shelf

set_option maxRecDepth 100000 in
set_option maxHeartbeats 8000000 in
theorem pm_any (w0 : World) (x y : Pm) (p q : TyI w0) (hp : p.t = x.t) (hq : q.t = y.t) (hs : p.t.size ≤ 1099511627776) (W : World) (hW : Below w0.heap.size w0 W) :
    Calls Tryz.prog 130 #[.agg #[.string x.nm, .int .i64 x.vr, .int .i64 p.t.k, .string p.t.m, .string p.t.n, .slice p.aa p.t.A.len p.ca, .slice p.af p.t.F.len p.cf], .agg #[.string y.nm, .int .i64 y.vr, .int .i64 q.t.k, .string q.t.m, .string q.t.n, .slice q.aa q.t.A.len q.ca, .slice q.af q.t.F.len q.cf]] W fun e W' => e = .returned (.bool (x.eq y)) ∧ Below W.heap.size W W' := by
  have HK0 : Kpt (∀ W' : World, Below w0.heap.size w0 W' → Calls Tryz.prog 27 #[.agg #[.int .i64 p.t.k, .string p.t.m, .string p.t.n, .slice p.aa p.t.A.len p.ca, .slice p.af p.t.F.len p.cf], .agg #[.int .i64 q.t.k, .string q.t.m, .string q.t.n, .slice q.aa q.t.A.len q.ca, .slice q.af q.t.F.len q.cf]] W' fun e W'' => e = .returned (.bool (x.t.eq y.t)) ∧ Below W'.heap.size W' W'') := hid (fun W' hW' => by rw [← hp, ← hq]; exact eq_all w0 _ hs p q (Nat.le_refl _) W' hW')
  clear hs hp hq
  obtain ⟨wa, hwa⟩ : ∃ wa, W.alloc (.cells #[.string x.nm, .int .i64 x.vr, .int .i64 p.t.k, .string p.t.m, .string p.t.n, .slice p.aa p.t.A.len p.ca, .slice p.af p.t.F.len p.cf] 77) = wa := ⟨_, rfl⟩
  have hba : Below W.heap.size W wa := by rw [← hwa]; exact (Below.refl _ W).alloc (Nat.le_refl _) _
  have hsa : W.heap.size + 1 = wa.heap.size := by rw [← hwa]; simp
  obtain ⟨wb, hwb⟩ : ∃ wb, wa.alloc (.cells #[.string y.nm, .int .i64 y.vr, .int .i64 q.t.k, .string q.t.m, .string q.t.n, .slice q.aa q.t.A.len q.ca, .slice q.af q.t.F.len q.cf] 77) = wb := ⟨_, rfl⟩
  have hbb : Below wa.heap.size wa wb := by rw [← hwb]; exact (Below.refl _ wa).alloc (Nat.le_refl _) _
  have e0 : wb.heap[W.heap.size]? = some (.cells #[.string x.nm, .int .i64 x.vr, .int .i64 p.t.k, .string p.t.m, .string p.t.n, .slice p.aa p.t.A.len p.ca, .slice p.af p.t.F.len p.cf] 77 (0, 0)) := (hbb.block _ (by omega)).trans (by rw [← hwa]; exact World.alloc_heap_new _ _)
  have f0 : wb.heap[wa.heap.size]? = some (.cells #[.string y.nm, .int .i64 y.vr, .int .i64 q.t.k, .string q.t.m, .string q.t.n, .slice q.aa q.t.A.len q.ca, .slice q.af q.t.F.len q.cf] 77 (0, 0)) := by rw [← hwb]; exact World.alloc_heap_new _ _
  have hwrb : Below W.heap.size W wb := hba.trans (hbb.mono hba.size)
  have HB := hid (And.intro (hW.trans (hwrb.mono hW.size)) (And.intro hwrb (And.intro (Array.getElem?_eq_some_iff.1 e0).1 (Array.getElem?_eq_some_iff.1 f0).1)))
  have g0 := cell_of_row wb _ 0 _ _ _ e0
  have k0 := cell_of_row wb _ 0 _ _ _ f0
  have g1 := cell_of_row wb _ 1 _ _ _ e0
  have k1 := cell_of_row wb _ 1 _ _ _ f0
  have g2 := cell_of_row wb _ 2 _ _ _ e0
  have k2 := cell_of_row wb _ 2 _ _ _ f0
  have g3 := cell_of_row wb _ 3 _ _ _ e0
  have k3 := cell_of_row wb _ 3 _ _ _ f0
  have g4 := cell_of_row wb _ 4 _ _ _ e0
  have k4 := cell_of_row wb _ 4 _ _ _ f0
  have g5 := cell_of_row wb _ 5 _ _ _ e0
  have k5 := cell_of_row wb _ 5 _ _ _ f0
  have g6 := cell_of_row wb _ 6 _ _ _ e0
  have k6 := cell_of_row wb _ 6 _ _ _ f0
  have HC := hid (And.intro e0 f0)
  clear e0 f0 hba hsa hbb hwrb hW
  by_cases h0 : x.nm = y.nm
  · have q0 : (x.nm.toList == y.nm.toList) = true := by rw [h0]; simp
    by_cases h1 : x.vr = y.vr
    · have q1 : (x.vr == y.vr) = true := by rw [h1]; simp
      have hres : (x.eq y) = x.t.eq y.t := by simp [Pm.eq, Bool.and_assoc, h0, h1]
      rw [hres]
      clear hres h0 h1
      go_enter Tryz.func130, Tryz.ntmps130
      go_wp2_with fail
      refine (HK0.out _ HB.out.1).mono ?_
      rintro e v0 ⟨rfl, hb⟩
      have HZ := hid hb
      clear hb
      go_wp2_with fail
      go_ret
      exact ⟨rfl, HB.out.2.1.trans (HZ.out.mono HB.out.2.1.size)⟩
    · have q1 : (x.vr == y.vr) = false := by rw [beq_eq_false_iff_ne]; exact h1
      have hres : (x.eq y) = false := by simp [Pm.eq, h1]
      rw [hres]
      clear hres h0 h1
      go_enter Tryz.func130, Tryz.ntmps130
      go_wp2_with fail
      go_ret
      exact ⟨rfl, HB.out.2.1⟩
  · have q0 := toList_ne h0
    have hres : (x.eq y) = false := by simp [Pm.eq, h0]
    rw [hres]
    clear hres h0
    go_enter Tryz.func130, Tryz.ntmps130
    go_wp2_with fail
    go_ret
    exact ⟨rfl, HB.out.2.1⟩
set_option maxRecDepth 100000 in
set_option maxHeartbeats 8000000 in
theorem eqf_params (w0 : World) (T U : List Pm) (hT : (encPm T).bk ≤ 1099511627776) (aa ab : Option Addr) (ca cb : Nat) (hA : RowD w0 (encPm T) aa (0 * 7)) (hB : RowD w0 (encPm U) ab (0 * 7)) (W : World) (hW : Below w0.heap.size w0 W) :
    Calls Tryz.prog 129 #[.slice aa T.length ca, .slice ab U.length cb, .func (.func 130) #[] #[]] W
      fun e W' => e = .returned (.bool (allEq Pm.eq T U)) ∧ Below W.heap.size W W' := by
  have HA := hid (And.intro hA hB)
  have HW := hid hW
  have hlT := Pm.len_bk T
  clear hA hB hW
  by_cases hl : T.length = U.length
  · have hl2 : (U.length : Int) = (T.length : Int) := by rw [hl]
    rw [← hl]
    have HL := hid hl
    clear hl hl2
    go_enter Tryz.func129, Tryz.ntmps129
    go_wp2_with fail
    go_loopw [17] (fun a wr => ∃ (i : Nat) (r1 r2 : List Pm), a = .int .i64 (i : Int) ∧ r1.length + i = T.length ∧ r1.length = r2.length ∧ (encPm r1).bk ≤ 1099511627776 ∧ allEq Pm.eq T U = allEq Pm.eq r1 r2 ∧ RowD w0 (encPm r1) aa (i * 7) ∧ RowD w0 (encPm r2) ab (i * 7) ∧ Below W.heap.size W wr) (fun a _ => T.length - (intOf a).toNat)
    case atStart => exact ⟨0, T, U, rfl, by omega, HL.out, hT, rfl, HA.out.1, HA.out.2, Below.refl _ _⟩
    case round =>
      obtain ⟨i, r1, r2, rfl, h1, h2, h3, h4, h5, h6, h7⟩ := hrel
      cases r1 with
      | nil =>
        cases r2 with
        | cons y r' => simp [List.length_cons, List.length_nil] at h2
        | nil =>
          have hi : i = T.length := by simp [List.length_cons, List.length_nil] at h1; omega
          subst hi
          have HQ := hid (And.intro h4 h7)
          clear h1 h2 h3 h4 h5 h6 h7
          go_wp2_with fail
          go_ret
          exact ⟨by rw [HQ.out.1]; rfl, HQ.out.2⟩
      | cons x r =>
        cases r2 with
        | nil => simp [List.length_cons, List.length_nil] at h2
        | cons y r' =>
          have hlt : i < T.length := by simp only [List.length_cons, List.length_nil] at h1; omega
          obtain ⟨b, o, p, rfl, hp, -, ⟨c0, c1, c2, c3, c4, c5, c6⟩, hr1⟩ := rowD_pm h5
          obtain ⟨b', o', q, rfl, hq, -, ⟨d0, d1, d2, d3, d4, d5, d6⟩, hr2⟩ := rowD_pm h6
          have hwr := HW.out.trans (h7.mono HW.out.size)
          replace c0 := old_cell hwr c0
          replace c1 := old_cell hwr c1
          replace c2 := old_cell hwr c2
          replace c3 := old_cell hwr c3
          replace c4 := old_cell hwr c4
          replace c5 := old_cell hwr c5
          replace c6 := old_cell hwr c6
          obtain ⟨wa, hwa⟩ : ∃ wa, wr.alloc (.cells #[.string x.nm, .int .i64 x.vr, .int .i64 p.t.k, .string p.t.m, .string p.t.n, .slice p.aa p.t.A.len p.ca, .slice p.af p.t.F.len p.cf] 77) = wa := ⟨_, rfl⟩
          have hba : Below wr.heap.size wr wa := by rw [← hwa]; exact (Below.refl _ wr).alloc (Nat.le_refl _) _
          have hsa : wr.heap.size + 1 = wa.heap.size := by rw [← hwa]; simp
          have hwra := hwr.trans (hba.mono hwr.size)
          replace d0 := old_cell hwra d0
          replace d1 := old_cell hwra d1
          replace d2 := old_cell hwra d2
          replace d3 := old_cell hwra d3
          replace d4 := old_cell hwra d4
          replace d5 := old_cell hwra d5
          replace d6 := old_cell hwra d6
          obtain ⟨wb, hwb⟩ : ∃ wb, wa.alloc (.cells #[.string y.nm, .int .i64 y.vr, .int .i64 q.t.k, .string q.t.m, .string q.t.n, .slice q.aa q.t.A.len q.ca, .slice q.af q.t.F.len q.cf] 77) = wb := ⟨_, rfl⟩
          have hbb : Below wa.heap.size wa wb := by rw [← hwb]; exact (Below.refl _ wa).alloc (Nat.le_refl _) _
          have e0 : wb.heap[wr.heap.size]? = some (.cells #[.string x.nm, .int .i64 x.vr, .int .i64 p.t.k, .string p.t.m, .string p.t.n, .slice p.aa p.t.A.len p.ca, .slice p.af p.t.F.len p.cf] 77 (0, 0)) := (hbb.block _ (by omega)).trans (by rw [← hwa]; exact World.alloc_heap_new _ _)
          have f0 : wb.heap[wa.heap.size]? = some (.cells #[.string y.nm, .int .i64 y.vr, .int .i64 q.t.k, .string q.t.m, .string q.t.n, .slice q.aa q.t.A.len q.ca, .slice q.af q.t.F.len q.cf] 77 (0, 0)) := by rw [← hwb]; exact World.alloc_heap_new _ _
          have g0 := cell_of_row wb _ 0 _ _ _ e0
          have k0 := cell_of_row wb _ 0 _ _ _ f0
          have g1 := cell_of_row wb _ 1 _ _ _ e0
          have k1 := cell_of_row wb _ 1 _ _ _ f0
          have g2 := cell_of_row wb _ 2 _ _ _ e0
          have k2 := cell_of_row wb _ 2 _ _ _ f0
          have g3 := cell_of_row wb _ 3 _ _ _ e0
          have k3 := cell_of_row wb _ 3 _ _ _ f0
          have g4 := cell_of_row wb _ 4 _ _ _ e0
          have k4 := cell_of_row wb _ 4 _ _ _ f0
          have g5 := cell_of_row wb _ 5 _ _ _ e0
          have k5 := cell_of_row wb _ 5 _ _ _ f0
          have g6 := cell_of_row wb _ 6 _ _ _ e0
          have k6 := cell_of_row wb _ 6 _ _ _ f0
          have hwrb : Below wr.heap.size wr wb := hba.trans (hbb.mono hba.size)
          clear e0 f0 hba hsa hbb
          have HE : Kpt (∀ W', Below w0.heap.size w0 W' → Calls Tryz.prog 130 #[.agg #[.string x.nm, .int .i64 x.vr, .int .i64 p.t.k, .string p.t.m, .string p.t.n, .slice p.aa p.t.A.len p.ca, .slice p.af p.t.F.len p.cf], .agg #[.string y.nm, .int .i64 y.vr, .int .i64 q.t.k, .string q.t.m, .string q.t.n, .slice q.aa q.t.A.len q.ca, .slice q.af q.t.F.len q.cf]] W'
            fun e W'' => e = .returned (.bool (x.eq y)) ∧ Below W'.heap.size W' W'') := hid (fun W' hW' => pm_any w0 x y p q hp hq (by have h9 := x.t.on_bk (encPm r); simp only [encPm, Dt.bk] at h3 h9; rw [hp]; omega) W' hW')
          have heq : allEq Pm.eq (x :: r) (y :: r') = (x.eq y && allEq Pm.eq r r') := rfl
          rw [heq] at h4
          have hsn : (encPm r).bk ≤ 1099511627776 := by have h9 := x.t.on_bk (encPm r); simp only [encPm, Dt.bk] at h3 h9; omega
          simp only [List.length_cons, List.length_nil] at h1 h2
          have HQ := hid (And.intro h4 (And.intro (h7.trans (hwrb.mono h7.size)) (And.intro (hwr.trans (hwrb.mono hwr.size)) (And.intro hr1 (And.intro hr2 (And.intro (show r.length + (i + 1) = T.length by omega) (And.intro (show r.length = r'.length by omega) hsn)))))))
          clear h1 h2 h3 h4 h5 h6 h7 hwr hr1 hr2 heq hsn hwra hwrb hp hq
          cases hxy : x.eq y with
          | true =>
            rw [hxy] at HE HQ
            clear hxy
            go_wp2_with fail
            refine (HE.out _ HQ.out.2.2.1).mono ?_
            rintro e w3 ⟨rfl, hb3⟩
            go_wp2_with fail
            go_roundw
            case rel => exact ⟨i + 1, r, r', by go_num, HQ.out.2.2.2.2.2.1, HQ.out.2.2.2.2.2.2.1, HQ.out.2.2.2.2.2.2.2, by rw [HQ.out.1, Bool.true_and], HQ.out.2.2.2.1, HQ.out.2.2.2.2.1, HQ.out.2.1.trans (hb3.mono HQ.out.2.1.size)⟩
            case measure => simp [intOf]; omega
          | false =>
            rw [hxy] at HE HQ
            clear hxy
            go_wp2_with fail
            refine (HE.out _ HQ.out.2.2.1).mono ?_
            rintro e w3 ⟨rfl, hb3⟩
            go_wp2_with fail
            go_ret
            exact ⟨by rw [HQ.out.1, Bool.false_and]; rfl, HQ.out.2.1.trans (hb3.mono HQ.out.2.1.size)⟩
  · have hne : ((T.length : Int) == (U.length : Int)) = false := by rw [beq_eq_false_iff_ne]; omega
    have hf : allEq Pm.eq T U = false := by
      cases h : allEq Pm.eq T U with
      | false => rfl
      | true => exact absurd (allEq_len h) hl
    have HF := hid hf
    clear hf
    go_enter Tryz.func129, Tryz.ntmps129
    go_wp2_with fail
    go_ret
    exact ⟨by rw [HF.out]; rfl, Below.refl _ _⟩
set_option maxRecDepth 100000 in
set_option maxHeartbeats 8000000 in
theorem eq_imports (w0 : World) (T U : List Im) (hT : (encIm T).bk ≤ 1099511627776) (aa ab : Option Addr) (ca cb : Nat) (hA : RowD w0 (encIm T) aa (0 * 2)) (hB : RowD w0 (encIm U) ab (0 * 2)) (W : World) (hW : Below w0.heap.size w0 W) :
    Calls Tryz.prog 80 #[.slice aa T.length ca, .slice ab U.length cb] W
      fun e W' => e = .returned (.bool (allEq Im.eq T U)) ∧ Below W.heap.size W W' := by
  have HA := hid (And.intro hA hB)
  have HW := hid hW
  have hlT := Im.len_bk T
  clear hA hB hW
  by_cases hl : T.length = U.length
  · have hl2 : (U.length : Int) = (T.length : Int) := by rw [hl]
    rw [← hl]
    have HL := hid hl
    clear hl hl2
    go_enter Tryz.func80, Tryz.ntmps80
    go_wp2_with fail
    go_loopw [5, 13] (fun _ a wr => ∃ (i : Nat) (r1 r2 : List Im), a = .int .i64 (i : Int) ∧ r1.length + i = T.length ∧ r1.length = r2.length ∧ allEq Im.eq T U = allEq Im.eq r1 r2 ∧ RowD w0 (encIm r1) aa (i * 2) ∧ RowD w0 (encIm r2) ab (i * 2) ∧ Below W.heap.size W wr) (fun _ a _ => T.length - (intOf a).toNat)
    case atStart => exact ⟨0, T, U, rfl, by omega, HL.out, rfl, HA.out.1, HA.out.2, Below.refl _ _⟩
    case round =>
      obtain ⟨i, r1, r2, rfl, h1, h2, h4, h5, h6, h7⟩ := hrel
      cases r1 with
      | nil =>
        cases r2 with
        | cons y r' => simp at h2
        | nil =>
          have hi : i = T.length := by simp at h1; omega
          subst hi
          have HQ := hid (And.intro h4 h7)
          clear h1 h2 h4 h5 h6 h7
          go_wp2_with fail
          go_ret
          exact ⟨by rw [HQ.out.1]; rfl, HQ.out.2⟩
      | cons x r =>
        cases r2 with
        | nil => simp at h2
        | cons y r' =>
          have hlt : i < T.length := by simp only [List.length_cons] at h1; omega
          obtain ⟨b, o, rfl, ⟨c0, c1⟩, hr1⟩ := rowD_im h5
          obtain ⟨b', o', rfl, ⟨d0, d1⟩, hr2⟩ := rowD_im h6
          have hwr := HW.out.trans (h7.mono HW.out.size)
          replace c0 := old_cell hwr c0
          replace c1 := old_cell hwr c1
          replace d0 := old_cell hwr d0
          replace d1 := old_cell hwr d1
          have c00 := (show ∀ n, (wr.drewN n).cell? ⟨b, o + i * 2, none⟩ = _ from fun n => c0)
          have c11 := (show ∀ n, (wr.drewN n).cell? ⟨b, o + i * 2 + 1, none⟩ = _ from fun n => c1)
          have d00 := (show ∀ n, (wr.drewN n).cell? ⟨b', o' + i * 2, none⟩ = _ from fun n => d0)
          have d11 := (show ∀ n, (wr.drewN n).cell? ⟨b', o' + i * 2 + 1, none⟩ = _ from fun n => d1)
          have heq : allEq Im.eq (x :: r) (y :: r') = (x.eq y && allEq Im.eq r r') := rfl
          rw [heq] at h4
          simp only [List.length_cons] at h1 h2
          have HQ := hid (And.intro h4 (And.intro h7 (And.intro hr1 (And.intro hr2 (And.intro (show r.length + (i + 1) = T.length by omega) (show r.length = r'.length by omega))))))
          clear h1 h2 h4 h5 h6 h7 hr1 hr2 heq hwr
          cases hxy : x.eq y with
          | true =>
            rw [hxy] at HQ
            simp only [Im.eq, Bool.and_eq_true, decide_eq_true_eq] at hxy
            have q0 : (x.p.toList == y.p.toList) = true := by rw [hxy.1]; simp
            have q1 : (x.a.toList == y.a.toList) = true := by rw [hxy.2]; simp
            clear hxy
            go_wp2_with fail
            go_quiet (fail)
            go_wp2_with fail
            go_roundw
            case rel => exact ⟨i + 1, r, r', by go_num, HQ.out.2.2.2.2.1, HQ.out.2.2.2.2.2, by rw [HQ.out.1, Bool.true_and], HQ.out.2.2.1, HQ.out.2.2.2.1, below_drawn HQ.out.2.1 _⟩
            case measure => simp [intOf]; omega
          | false =>
            rw [hxy] at HQ
            have HF := hid (show allEq Im.eq T U = false by rw [HQ.out.1, Bool.false_and])
            by_cases hp : x.p = y.p
            · have hq : ¬ x.a = y.a := by intro h; simp [Im.eq, hp, h] at hxy
              have q0 : (x.p.toList == y.p.toList) = true := by rw [hp]; simp
              have q1 := toList_ne hq
              clear hxy hp hq
              go_wp2_with fail
              go_quiet (fail)
              go_wp2_with fail
              go_ret
              exact ⟨by rw [HF.out] <;> rfl, below_drawn HQ.out.2.1 _⟩
            · have q0 := toList_ne hp
              clear hxy hp
              go_wp2_with fail
              go_quiet (fail)
              go_wp2_with fail
              go_ret
              exact ⟨by rw [HF.out] <;> rfl, below_drawn HQ.out.2.1 _⟩
  · have hne : ((T.length : Int) == (U.length : Int)) = false := by rw [beq_eq_false_iff_ne]; omega
    have hf : allEq Im.eq T U = false := by
      cases h : allEq Im.eq T U with
      | false => rfl
      | true => exact absurd (allEq_len h) hl
    have HF := hid hf
    clear hf
    go_enter Tryz.func80, Tryz.ntmps80
    go_wp2_with fail
    go_ret
    exact ⟨by rw [HF.out]; rfl, Below.refl _ _⟩
end Go.Proofs.YtnkhebgjhipepaaGreatDoor
