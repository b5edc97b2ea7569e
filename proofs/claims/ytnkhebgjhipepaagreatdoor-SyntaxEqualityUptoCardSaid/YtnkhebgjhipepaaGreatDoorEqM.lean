/- Whole structs of many cells, as opaque rows: loaded out of a slice, copied into a fresh box, read out of it. | syntax: modules compared. -/
import Derived.Test.YtnkhebgjhipepaaGreatDoorArr
import Derived.Test.YtnkhebgjhipepaaGreatDoorEv
import Derived.Deep.MidRow
import Derived.BigQuiet
import Derived.Test.YtnkhebgjhipepaaGreatDoorQuietTail
import Derived.Test.YtnkhebgjhipepaaGreatDoorEqD
namespace Go.Proofs.YtnkhebgjhipepaaGreatDoor
open Go.RowKit

section
variable {P : Program} {ops : Array Oper} {rest : List Oper} {o : Oper} {a : Act} {Q : Exit → Act → World → Prop}
/-- A store into what was just made. -/
theorem wpList_store_fresh {w0 w1 : World} (hgd : o.guard = none) (ty : TypeId) (x y : Operand) (ho : o.op = .store ty x y) (n : Nat) (hn : w0.heap.size = n) (cells : Array Value)
    (hx : a.eval x = .pointer (some ⟨n, 0, none⟩)) (hy : a.eval y = .agg cells) (t : TypeId) (old : Array Value) (hi : (P.info? ty).map (·.size) = some cells.size) (hold : old.size = cells.size)
    (h1 : cells.all (·.oneCell') = true) (hw : w0.alloc (.cells cells t) = w1) (h : wpList P ops Q rest (a.put o.dst undef) w1) : wpList P ops Q (o :: rest) a (w0.alloc (.cells old t)) := by
  refine wpList_store_row hgd ty x y ho n cells hx hy t old (heap_alloc_new' w0 _ n hn) hi hold h1 ?_
  rw [alloc_setRow' w0 old cells t n hn, hw]
  exact h
end
section
variable {P : Program} {ops : Array Oper} {rest : List Oper} {o : Oper} {a : Act} {Q : Act → Prop} {C : World → Prop}
/-- A row is read in a region that draws its order. -/
theorem wpQuiet_load_mid (hw : Region.wanted o (yielded ops a.tmps) = true) (ty : TypeId) (x : Operand) (ho : o.op = .load ty x) (b off : Nat) (hx : a.eval x = .pointer (some ⟨b, off, none⟩)) (cs : List Value) (d : TypeDesc)
    (hS : ∀ w, C w → w.rangeAt b off cs) (hu : P.underlying ty = some d) (hd : d.isRow = true) (hi : (P.info? ty).map (·.size) = some cs.length)
    (h : wpQuiet P ops C Q rest (a.put o.dst (.agg cs.toArray))) : wpQuiet P ops C Q (o :: rest) a :=
  BigFrame.wpQuiet_want hw fun K hK => ⟨.agg cs.toArray, fun w hCw => by
    unfold Oper.quietAt execOp
    simp only [ho, hx, Instr.loadAt, Instr.sureAddr, Sem.run_bind, Sem.run_pure, Result.andThen_ok, run_loadVar_mid w b off ty cs d (hS w hCw) hu hd hi]
    exact ⟨rfl, rfl⟩, hK _ h⟩
end
theorem rangeAt_below {w w' : World} {b o : Nat} {cs : List Value} (h : w.rangeAt b o cs) (hb : Below w.heap.size w w') : w'.rangeAt b o cs := fun j v hv => (hb.cell (dt_lt (h j v hv))).trans (h j v hv)
theorem rangeAt_old {w0 w : World} {b o : Nat} {cs : List Value} (hb : Below w0.heap.size w0 w) (h : w0.rangeAt b o cs) : w.rangeAt b o cs := rangeAt_below h hb
theorem rangeAt_later {w : World} {b o : Nat} {cs : List Value} (h : w.rangeAt b o cs) : ∀ w', (∃ X : Later w, w' = X.now) → w'.rangeAt b o cs := fun w' ⟨X, hX⟩ => by subst hX; exact rangeAt_below h X.since
theorem DcI.size {w : World} (p : DcI w) : p.cells.toList.length = 31 := rfl
theorem DcI.one {w : World} (p : DcI w) : p.cells.all (·.oneCell') = true := by simp [DcI.cells, Value.oneCell']
theorem rowD_dcR {w : World} {x : Dc} {r : List Dc} {a : Option Addr} {i : Nat} (h : RowD w (encDc (x :: r)) a (i * 31)) :
    ∃ (b o : Nat) (p : DcI w), a = some ⟨b, o, none⟩ ∧ p.d = x ∧ w.rangeAt b (o + i * 31) p.cells.toList ∧ RowD w (encDc r) a ((i + 1) * 31) := by
  obtain ⟨b, o, p, h1, h2, h3, h4⟩ := rowD_dc h
  exact ⟨b, o, p, h1, h2, fun j v hv => h3 j v (by simpa using hv), h4⟩
end Go.Proofs.YtnkhebgjhipepaaGreatDoor

namespace Go.Proofs.YtnkhebgjhipepaaGreatDoor
open Go.RowKit Go.Shelf

def ZDc : Array Value := #[.int .i64 0, .string ⟨#[]⟩, .bool false, .bool false, .string ⟨#[]⟩, .slice none 0 0, .int .i64 0, .string ⟨#[]⟩, .string ⟨#[]⟩, .slice none 0 0, .slice none 0 0, .int .i64 0, .string ⟨#[]⟩, .string ⟨#[]⟩, .slice none 0 0, .slice none 0 0, .int .i64 0, .string ⟨#[]⟩, .string ⟨#[]⟩, .slice none 0 0, .slice none 0 0, .int .i64 0, .string ⟨#[]⟩, .string ⟨#[]⟩, .string ⟨#[]⟩, .int .i64 0, .slice none 0 0, .slice none 0 0, .slice none 0 0, .string ⟨#[]⟩, .string ⟨#[]⟩]
theorem ZDc_size : ZDc.size = 31 := rfl
set_option maxRecDepth 100000 in
set_option maxHeartbeats 8000000 in
theorem eqf_decls (w0 : World) (T U : List Dc) (hT : (encDc T).bk ≤ 1099511627776) (aa ab : Option Addr) (ca cb : Nat) (hA : RowD w0 (encDc T) aa (0 * 31)) (hB : RowD w0 (encDc U) ab (0 * 31)) (W : World) (hW : Below w0.heap.size w0 W) :
    Calls Tryz.prog 81 #[.slice aa T.length ca, .slice ab U.length cb, .func (.func 82) #[] #[]] W
      fun e W' => e = .returned (.bool (allEq Dc.eq T U)) ∧ Below W.heap.size W W' := by
  have HA := hid (And.intro hA hB)
  have HW := hid hW
  have hlT := Dc.len_bk T
  clear hA hB hW
  by_cases hl : T.length = U.length
  · have hl2 : (U.length : Int) = (T.length : Int) := by rw [hl]
    rw [← hl]
    have HL := hid hl
    clear hl hl2
    go_enter Tryz.func81, Tryz.ntmps81
    go_wp2_with fail
    go_loopw [17] (fun a wr => ∃ (i : Nat) (r1 r2 : List Dc), a = .int .i64 (i : Int) ∧ r1.length + i = T.length ∧ r1.length = r2.length ∧ (encDc r1).bk ≤ 1099511627776 ∧ allEq Dc.eq T U = allEq Dc.eq r1 r2 ∧ RowD w0 (encDc r1) aa (i * 31) ∧ RowD w0 (encDc r2) ab (i * 31) ∧ Below W.heap.size W wr) (fun a _ => T.length - (intOf a).toNat)
    case atStart => exact ⟨0, T, U, rfl, by omega, HL.out, hT, rfl, HA.out.1, HA.out.2, Below.refl _ _⟩
    case round =>
      obtain ⟨i, r1, r2, rfl, h1, h2, h3, h4, h5, h6, h7⟩ := hrel
      cases r1 with
      | nil =>
        cases r2 with
        | cons => simp at h2
        | nil =>
          have hi : i = T.length := by simp at h1; omega
          subst hi
          have HQ := hid (And.intro h4 h7)
          clear h1 h2 h3 h4 h5 h6 h7
          go_wp2_with fail
          go_ret
          exact ⟨by rw [HQ.out.1]; rfl, HQ.out.2⟩
      | cons x r =>
        cases r2 with
        | nil => simp at h2
        | cons y r' =>
          have hlt : i < T.length := by simp only [List.length_cons] at h1; omega
          obtain ⟨b, o, p, rfl, hp, hc, hr1⟩ := rowD_dcR h5
          subst hp
          obtain ⟨b', o', q, rfl, hq, hd, hr2⟩ := rowD_dcR h6
          subst hq
          have hwr := HW.out.trans (h7.mono HW.out.size)
          have HE : Kpt (∀ W', Below w0.heap.size w0 W' → Calls Tryz.prog 82 #[.agg p.cells, .agg q.cells] W' fun e W'' => e = .returned (.bool (p.d.eq q.d)) ∧ Below W'.heap.size W' W'') := hid (fun W' hW' => dc_any w0 p q r h3 W' hW')
          have hpl := p.size
          have hql := q.size
          have hpo := p.one
          have hqo := q.one
          have heq : allEq Dc.eq (p.d :: r) (q.d :: r') = (p.d.eq q.d && allEq Dc.eq r r') := rfl
          rw [heq] at h4
          have hsn : (encDc r).bk ≤ 1099511627776 := by have h9 := encDc_bk p.d r; omega
          simp only [List.length_cons] at h1 h2
          have hca := rangeAt_old hwr hc
          obtain ⟨pa, hpa⟩ : ∃ l, p.cells.toList = l := ⟨_, rfl⟩
          obtain ⟨qa, hqa⟩ : ∃ l, q.cells.toList = l := ⟨_, rfl⟩
          have hpc : p.cells = pa.toArray := by rw [← hpa, Array.toArray_toList]
          have hqc : q.cells = qa.toArray := by rw [← hqa, Array.toArray_toList]
          rw [hpa] at hpl hc hca
          rw [hqa] at hql hd
          rw [hpc] at HE hpo
          rw [hqc] at HE hqo
          clear hpa hqa hpc hqc
          generalize p.d.eq q.d = R at HE h4
          obtain ⟨wa, hwa⟩ : ∃ wa, wr.alloc (.cells pa.toArray 75) = wa := ⟨_, rfl⟩
          have hba : Below wr.heap.size wr wa := by rw [← hwa]; exact (Below.refl _ wr).alloc (Nat.le_refl _) _
          have hsa : wa.heap.size = wr.heap.size + 1 := by rw [← hwa]; simp
          have hda := rangeAt_old (hwr.trans (hba.mono hwr.size)) hd
          obtain ⟨wb, hwb⟩ : ∃ wb, wa.alloc (.cells qa.toArray 75) = wb := ⟨_, rfl⟩
          have hbb : Below wa.heap.size wa wb := by rw [← hwb]; exact (Below.refl _ wa).alloc (Nat.le_refl _) _
          have e0 : wb.heap[wr.heap.size]? = some (.cells pa.toArray 75 (0, 0)) := (hbb.block _ (by omega)).trans (by rw [← hwa]; exact World.alloc_heap_new _ _)
          have f0 : wb.heap[wa.heap.size]? = some (.cells qa.toArray 75 (0, 0)) := by rw [← hwb]; exact World.alloc_heap_new _ _
          have hwrb : Below wr.heap.size wr wb := hba.trans (hbb.mono hba.size)
          have HQ := hid (And.intro h4 (And.intro (h7.trans (hwrb.mono h7.size)) (And.intro (hwr.trans (hwrb.mono hwr.size)) (And.intro hr1 (And.intro hr2 (And.intro (show r.length + (i + 1) = T.length by omega) (And.intro (show r.length = r'.length by omega) hsn)))))))
          have HC := hid hca
          have HD := hid hda
          have HWA := hid (And.intro hwa hsa)
          have HWB := hid hwb
          have HPL := hid hpl
          have HQL := hid hql
          have HPO := hid hpo
          have HQO := hid hqo
          have HE0 := hid e0
          have HF0 := hid f0
          have hpz : 31 = pa.toArray.size := by simp [hpl]
          have hqz : 31 = qa.toArray.size := by simp [hql]
          have HPZ := hid hpz
          have HQZ := hid hqz
          clear h1 h2 h3 h4 h5 h6 h7 hwr hr1 hr2 heq hsn hwrb hba hbb hca hda hwa hwb hsa hpl hql hpo hqo e0 f0 hc hd hpz hqz
          go_wp2_with (first
            | (with_reducible refine wpList_load_mid rfl 75 _ rfl b (o + i * 31) rfl pa _ HC.out Tryz.underlying75 rfl (by rw [HPL.out]; kernel_rfl) ?_)
            | (with_reducible refine wpList_load_mid rfl 75 _ rfl b' (o' + i * 31) rfl qa _ HD.out Tryz.underlying75 rfl (by rw [HQL.out]; kernel_rfl) ?_)
            | (with_reducible refine wpList_load_row rfl 75 _ rfl wr.heap.size rfl 75 pa.toArray (0, 0) _ HE0.out Tryz.underlying75 rfl (by rw [← HPZ.out]; kernel_rfl) ?_)
            | (with_reducible refine wpList_load_row rfl 75 _ rfl wa.heap.size rfl 75 qa.toArray (0, 0) _ HF0.out Tryz.underlying75 rfl (by rw [← HQZ.out]; kernel_rfl) ?_)
            | (with_reducible refine wpList_run_alloc rfl 75 rfl ZDc (by kernel_rfl) ?_)
            | (with_reducible refine wpList_store_fresh rfl 75 _ _ rfl wr.heap.size rfl pa.toArray rfl rfl 75 _ (by rw [← HPZ.out]; kernel_rfl) (ZDc_size.trans HPZ.out) HPO.out HWA.out.1 ?_)
            | (with_reducible refine wpList_store_fresh rfl 75 _ _ rfl wa.heap.size rfl qa.toArray rfl rfl 75 _ (by rw [← HQZ.out]; kernel_rfl) (ZDc_size.trans HQZ.out) HQO.out HWB.out ?_))
          refine (HE.out _ HQ.out.2.2.1).mono ?_
          rintro e w3 ⟨rfl, hb3⟩
          have HZ := hid hb3
          clear hb3
          cases R with
          | true =>
            go_wp2_with fail
            go_roundw
            case rel => exact ⟨i + 1, r, r', by go_num, HQ.out.2.2.2.2.2.1, HQ.out.2.2.2.2.2.2.1, HQ.out.2.2.2.2.2.2.2, by rw [HQ.out.1, Bool.true_and], HQ.out.2.2.2.1, HQ.out.2.2.2.2.1, HQ.out.2.1.trans (HZ.out.mono HQ.out.2.1.size)⟩
            case measure => simp [intOf]; omega
          | false =>
            go_wp2_with fail
            go_ret
            exact ⟨by rw [HQ.out.1, Bool.false_and]; rfl, HQ.out.2.1.trans (HZ.out.mono HQ.out.2.1.size)⟩
  · have hne : ((T.length : Int) == (U.length : Int)) = false := by rw [beq_eq_false_iff_ne]; omega
    have hf : allEq Dc.eq T U = false := by
      cases h : allEq Dc.eq T U with
      | false => rfl
      | true => exact absurd (allEq_len h) hl
    have HF := hid hf
    clear hf
    go_enter Tryz.func81, Tryz.ntmps81
    go_wp2_with fail
    go_ret
    exact ⟨by rw [HF.out]; rfl, Below.refl _ _⟩
def Md.bk (m : Md) : Nat := (m.on .nil).bk
theorem Md.bk_eq (m : Md) : m.bk = m.p.size + (encIm m.I).bk + (encDc m.D).bk + 3 := by simp only [Md.bk, Md.on, Dt.bk]; omega
set_option maxRecDepth 100000 in
set_option maxHeartbeats 8000000 in
theorem md_all (w0 : World) (x y : MdI w0) (hs : x.m.bk ≤ 1099511627776) (W : World) (hW : Below w0.heap.size w0 W) :
    Calls Tryz.prog 31 #[.agg #[.string x.m.p, .slice x.aI x.m.I.length x.cI, .slice x.aD x.m.D.length x.cD], .agg #[.string y.m.p, .slice y.aI y.m.I.length y.cI, .slice y.aD y.m.D.length y.cD]] W fun e W' => e = .returned (.bool (x.m.eq y.m)) ∧ Below W.heap.size W W' := by
  have hbk := x.m.bk_eq
  have HK0 : Kpt (∀ W' : World, Below w0.heap.size w0 W' → Calls Tryz.prog 80 #[.slice x.aI x.m.I.length x.cI, .slice y.aI y.m.I.length y.cI] W' fun e W'' => e = .returned (.bool (allEq Im.eq x.m.I y.m.I)) ∧ Below W'.heap.size W' W'') := hid (fun W' hW' => eq_imports w0 x.m.I y.m.I (by omega) x.aI y.aI x.cI y.cI (rowD_zero x.hI) (rowD_zero y.hI) W' hW')
  have HK1 : Kpt (∀ W' : World, Below w0.heap.size w0 W' → Calls Tryz.prog 81 #[.slice x.aD x.m.D.length x.cD, .slice y.aD y.m.D.length y.cD, .func (.func 82) #[] #[]] W' fun e W'' => e = .returned (.bool (allEq Dc.eq x.m.D y.m.D)) ∧ Below W'.heap.size W' W'') := hid (fun W' hW' => eqf_decls w0 x.m.D y.m.D (by omega) x.aD y.aD x.cD y.cD (rowD_zero x.hD) (rowD_zero y.hD) W' hW')
  clear hbk hs
  obtain ⟨wa, hwa⟩ : ∃ wa, W.alloc (.cells #[.string x.m.p, .slice x.aI x.m.I.length x.cI, .slice x.aD x.m.D.length x.cD] 33) = wa := ⟨_, rfl⟩
  have hba : Below W.heap.size W wa := by rw [← hwa]; exact (Below.refl _ W).alloc (Nat.le_refl _) _
  have hsa : W.heap.size + 1 = wa.heap.size := by rw [← hwa]; simp
  obtain ⟨wb, hwb⟩ : ∃ wb, wa.alloc (.cells #[.string y.m.p, .slice y.aI y.m.I.length y.cI, .slice y.aD y.m.D.length y.cD] 33) = wb := ⟨_, rfl⟩
  have hbb : Below wa.heap.size wa wb := by rw [← hwb]; exact (Below.refl _ wa).alloc (Nat.le_refl _) _
  have e0 : wb.heap[W.heap.size]? = some (.cells #[.string x.m.p, .slice x.aI x.m.I.length x.cI, .slice x.aD x.m.D.length x.cD] 33 (0, 0)) := (hbb.block _ (by omega)).trans (by rw [← hwa]; exact World.alloc_heap_new _ _)
  have f0 : wb.heap[wa.heap.size]? = some (.cells #[.string y.m.p, .slice y.aI y.m.I.length y.cI, .slice y.aD y.m.D.length y.cD] 33 (0, 0)) := by rw [← hwb]; exact World.alloc_heap_new _ _
  have hwrb : Below W.heap.size W wb := hba.trans (hbb.mono hba.size)
  have HB := hid (And.intro (hW.trans (hwrb.mono hW.size)) (And.intro hwrb (And.intro (Array.getElem?_eq_some_iff.1 e0).1 (Array.getElem?_eq_some_iff.1 f0).1)))
  have g0 := cell_of_row wb _ 0 _ _ _ e0
  have k0 := cell_of_row wb _ 0 _ _ _ f0
  have g1 := cell_of_row wb _ 1 _ _ _ e0
  have k1 := cell_of_row wb _ 1 _ _ _ f0
  have g2 := cell_of_row wb _ 2 _ _ _ e0
  have k2 := cell_of_row wb _ 2 _ _ _ f0
  have HC := hid (And.intro e0 f0)
  clear e0 f0 hba hsa hbb hwrb hW
  by_cases h0 : x.m.p = y.m.p
  · have q0 : (x.m.p.toList == y.m.p.toList) = true := by rw [h0]; simp
    have hres : (x.m.eq y.m) = (allEq Im.eq x.m.I y.m.I && allEq Dc.eq x.m.D y.m.D) := by simp [Md.eq, Bool.and_assoc, h0]
    rw [hres]
    clear hres h0
    go_enter Tryz.func31, Tryz.ntmps31
    go_wp2_with fail
    refine (HK0.out _ HB.out.1).mono ?_
    rintro e v0 ⟨rfl, hb⟩
    have e0 := (hb.block _ HB.out.2.2.1).trans HC.out.1
    have f0 := (hb.block _ HB.out.2.2.2).trans HC.out.2
    clear g0 k0 g1 k1 g2 k2
    have g2 := cell_of_row v0 _ 2 _ _ _ e0
    have k2 := cell_of_row v0 _ 2 _ _ _ f0
    have HB0 := hid (And.intro (HB.out.1.trans (hb.mono HB.out.1.size)) (And.intro (HB.out.2.1.trans (hb.mono HB.out.2.1.size)) (And.intro (Array.getElem?_eq_some_iff.1 e0).1 (Array.getElem?_eq_some_iff.1 f0).1)))
    have HC0 := hid (And.intro e0 f0)
    clear hb e0 f0
    cases hA0 : allEq Im.eq x.m.I y.m.I with
    | true =>
      go_wp2_with fail
      refine (HK1.out _ HB0.out.1).mono ?_
      rintro e v1 ⟨rfl, hb⟩
      have HZ := hid hb
      clear hb
      go_wp2_with fail
      go_ret
      exact ⟨by rw [hA0]; try rw [Bool.true_and]; first | rfl | simp, HB0.out.2.1.trans (HZ.out.mono HB0.out.2.1.size)⟩
    | false =>
      go_wp2_with fail
      go_ret
      exact ⟨by rw [hA0]; simp, HB0.out.2.1⟩
  · have q0 := toList_ne h0
    have hres : (x.m.eq y.m) = false := by simp [Md.eq, h0]
    rw [hres]
    clear hres h0
    go_enter Tryz.func31, Tryz.ntmps31
    go_wp2_with fail
    go_ret
    exact ⟨rfl, HB.out.2.1⟩
end Go.Proofs.YtnkhebgjhipepaaGreatDoor
