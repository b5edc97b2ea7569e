/- syntax: the checks of an expression. -/
import Derived.Test.YtnkhebgjhipepaaGreatDoorEv
import Derived.Test.YtnkhebgjhipepaaGreatDoorSyC
import Derived.Test.YtnkhebgjhipepaaGreatDoorEqV
import Derived.Test.YtnkhebgjhipepaaGreatDoorXv
import Derived.Test.YtnkhebgjhipepaaGreatDoorOa
import Derived.Test.YtnkhebgjhipepaaGreatDoorXz
import Derived.OwnWalkIn
import Derived.Sort.BigQuietIn
import Derived.Test.YtnkhebgjhipepaaGreatDoorSyD
namespace Go.Proofs.YtnkhebgjhipepaaGreatDoor
open Go.RowKit Go.Shelf
attribute [local go_sem] Oper.semAt_some

/-- The number of Types that a kind asks for. -/
def xTC (k : Int) (lt : Nat) : Int := if k = 4 then lt else if 11 ≤ k ∧ k ≤ 15 then 1 else 0
/-- The number of operands of an operator. -/
def opC (s : ByteArray) : Int := if s = (⟨#[43]⟩ : ByteArray) ∨ s = (⟨#[45]⟩ : ByteArray) ∨ s = (⟨#[42]⟩ : ByteArray) ∨ s = (⟨#[60]⟩ : ByteArray) ∨ s = (⟨#[61, 61]⟩ : ByteArray) ∨ s = (⟨#[61, 61, 61]⟩ : ByteArray) ∨ s = (⟨#[43, 43]⟩ : ByteArray) ∨ s = (⟨#[97, 110, 100]⟩ : ByteArray) ∨ s = (⟨#[111, 114]⟩ : ByteArray) then 2 else if s = (⟨#[110, 111, 116]⟩ : ByteArray) ∨ s = (⟨#[108, 101, 110, 103, 116, 104]⟩ : ByteArray) then 1 else -1
def optC (L : List Lb) : Nat := (L.filter (·.op)).length

set_option maxRecDepth 100000 in
set_option maxHeartbeats 4000000 in
theorem tcount_any (k num : Int) (m n tx : ByteArray) (aT aL aK : Option Addr) (lt cT ll cL lk cK : Nat) (w : World) :
 Calls Tryz.prog 123 #[.agg #[.int .i64 k, .string m, .string n, .string tx, .int .i64 num, .slice aT lt cT, .slice aL ll cL, .slice aK lk cK]] w fun e w' => e = .returned (.int .i64 (xTC k lt)) ∧ Below w.heap.size w w' := by
 obtain ⟨wa, hwa⟩ : ∃ wa, w.alloc (.cells #[.int .i64 k, .string m, .string n, .string tx, .int .i64 num, .slice aT lt cT, .slice aL ll cL, .slice aK lk cK] 29) = wa := ⟨_, rfl⟩
 have hba : Below w.heap.size w wa := by rw [← hwa]; exact (Below.refl _ w).alloc (Nat.le_refl _) _
 have hea : wa.heap[w.heap.size]? = some (.cells #[.int .i64 k, .string m, .string n, .string tx, .int .i64 num, .slice aT lt cT, .slice aL ll cL, .slice aK lk cK] 29 (0, 0)) := by rw [← hwa]; exact World.alloc_heap_new _ _
 have k0 := cell_of_row wa _ 0 _ _ _ hea
 have k5 := cell_of_row wa _ 5 _ _ _ hea
 have HB := hid hba
 clear hba hea
 rcases (by omega : k = 0 ∨ k = 1 ∨ k = 2 ∨ k = 3 ∨ k = 4 ∨ k = 5 ∨ k = 6 ∨ k = 7 ∨ k = 8 ∨ k = 9 ∨ k = 10 ∨ k = 11 ∨ k = 12 ∨ k = 13 ∨ k = 14 ∨ k = 15 ∨ k = 16 ∨ (k ≠ 0 ∧ k ≠ 1 ∧ k ≠ 2 ∧ k ≠ 3 ∧ k ≠ 4 ∧ k ≠ 5 ∧ k ≠ 6 ∧ k ≠ 7 ∧ k ≠ 8 ∧ k ≠ 9 ∧ k ≠ 10 ∧ k ≠ 11 ∧ k ≠ 12 ∧ k ≠ 13 ∧ k ≠ 14 ∧ k ≠ 15 ∧ k ≠ 16)) with
  rfl | rfl | rfl | rfl | rfl | rfl | rfl | rfl | rfl | rfl | rfl | rfl | rfl | rfl | rfl | rfl | rfl | ⟨h0, h1, h2, h3, h4, h5, h6, h7, h8, h9, h10, h11, h12, h13, h14, h15, h16⟩
 iterate 17
  · go_enter Tryz.func123, Tryz.ntmps123
    go_wp2_with fail
    go_ret
    exact ⟨by simp [xTC], HB.out⟩
 have hr : xTC k lt = 0 := by unfold xTC; rw [if_neg (by omega), if_neg (by omega)]
 rw [hr]
 clear hr
 go_enter Tryz.func123, Tryz.ntmps123
 go_wp2_with fail
 go_ret
 exact ⟨rfl, HB.out⟩
set_option maxRecDepth 100000 in
set_option maxHeartbeats 4000000 in
theorem opcount_any (s : ByteArray) (w : World) : Calls Tryz.prog 182 #[.string s] w fun e w' => e = .returned (.int .i64 (opC s)) ∧ w' = w := by
 by_cases q0 : s = (⟨#[43]⟩ : ByteArray)
 · subst q0
   go_enter Tryz.func182, Tryz.ntmps182
   go_wp2_with fail
   go_ret
   exact ⟨by first | rfl | decide | simp [opC], rfl⟩
 by_cases q1 : s = (⟨#[45]⟩ : ByteArray)
 · subst q1
   go_enter Tryz.func182, Tryz.ntmps182
   go_wp2_with fail
   go_ret
   exact ⟨by first | rfl | decide | simp [opC], rfl⟩
 by_cases q2 : s = (⟨#[42]⟩ : ByteArray)
 · subst q2
   go_enter Tryz.func182, Tryz.ntmps182
   go_wp2_with fail
   go_ret
   exact ⟨by first | rfl | decide | simp [opC], rfl⟩
 by_cases q3 : s = (⟨#[60]⟩ : ByteArray)
 · subst q3
   go_enter Tryz.func182, Tryz.ntmps182
   go_wp2_with fail
   go_ret
   exact ⟨by first | rfl | decide | simp [opC], rfl⟩
 by_cases q4 : s = (⟨#[61, 61]⟩ : ByteArray)
 · subst q4
   go_enter Tryz.func182, Tryz.ntmps182
   go_wp2_with fail
   go_ret
   exact ⟨by first | rfl | decide | simp [opC], rfl⟩
 by_cases q5 : s = (⟨#[61, 61, 61]⟩ : ByteArray)
 · subst q5
   go_enter Tryz.func182, Tryz.ntmps182
   go_wp2_with fail
   go_ret
   exact ⟨by first | rfl | decide | simp [opC], rfl⟩
 by_cases q6 : s = (⟨#[43, 43]⟩ : ByteArray)
 · subst q6
   go_enter Tryz.func182, Tryz.ntmps182
   go_wp2_with fail
   go_ret
   exact ⟨by first | rfl | decide | simp [opC], rfl⟩
 by_cases q7 : s = (⟨#[97, 110, 100]⟩ : ByteArray)
 · subst q7
   go_enter Tryz.func182, Tryz.ntmps182
   go_wp2_with fail
   go_ret
   exact ⟨by first | rfl | decide | simp [opC], rfl⟩
 by_cases q8 : s = (⟨#[111, 114]⟩ : ByteArray)
 · subst q8
   go_enter Tryz.func182, Tryz.ntmps182
   go_wp2_with fail
   go_ret
   exact ⟨by first | rfl | decide | simp [opC], rfl⟩
 by_cases q9 : s = (⟨#[110, 111, 116]⟩ : ByteArray)
 · subst q9
   go_enter Tryz.func182, Tryz.ntmps182
   go_wp2_with fail
   go_ret
   exact ⟨by first | rfl | decide | simp [opC], rfl⟩
 by_cases q10 : s = (⟨#[108, 101, 110, 103, 116, 104]⟩ : ByteArray)
 · subst q10
   go_enter Tryz.func182, Tryz.ntmps182
   go_wp2_with fail
   go_ret
   exact ⟨by first | rfl | decide | simp [opC], rfl⟩
 have hr : opC s = -1 := by unfold opC; simp only [q0, q1, q2, q3, q4, q5, q6, q7, q8, q9, q10, or_self, if_false]
 rw [hr]
 have r0 : (s.toList == [43]) = false := by have h := toList_ne q0; simpa [ByteArray.toList_eq] using h
 have r1 : (s.toList == [45]) = false := by have h := toList_ne q1; simpa [ByteArray.toList_eq] using h
 have r2 : (s.toList == [42]) = false := by have h := toList_ne q2; simpa [ByteArray.toList_eq] using h
 have r3 : (s.toList == [60]) = false := by have h := toList_ne q3; simpa [ByteArray.toList_eq] using h
 have r4 : (s.toList == [61, 61]) = false := by have h := toList_ne q4; simpa [ByteArray.toList_eq] using h
 have r5 : (s.toList == [61, 61, 61]) = false := by have h := toList_ne q5; simpa [ByteArray.toList_eq] using h
 have r6 : (s.toList == [43, 43]) = false := by have h := toList_ne q6; simpa [ByteArray.toList_eq] using h
 have r7 : (s.toList == [97, 110, 100]) = false := by have h := toList_ne q7; simpa [ByteArray.toList_eq] using h
 have r8 : (s.toList == [111, 114]) = false := by have h := toList_ne q8; simpa [ByteArray.toList_eq] using h
 have r9 : (s.toList == [110, 111, 116]) = false := by have h := toList_ne q9; simpa [ByteArray.toList_eq] using h
 have r10 : (s.toList == [108, 101, 110, 103, 116, 104]) = false := by have h := toList_ne q10; simpa [ByteArray.toList_eq] using h
 clear hr q0 q1 q2 q3 q4 q5 q6 q7 q8 q9 q10
 go_enter Tryz.func182, Tryz.ntmps182
 go_wp2_with fail
 go_ret
 exact ⟨rfl, rfl⟩
set_option maxRecDepth 100000 in
set_option maxHeartbeats 4000000 in
theorem optcount_any (w0 : World) (L : List Lb) (aL : Option Addr) (cL : Nat) (hL : SlD w0 aL (encLb L)) (hl : L.length ≤ 1099511627776) (W : World) (hW : Below w0.heap.size w0 W) :
 Calls Tryz.prog 181 #[.slice aL L.length cL] W fun e W' => e = .returned (.int .i64 (optC L : Int)) ∧ Below W.heap.size W W' := by
 have HL := hid hL
 have HW := hid hW
 clear hL hW
 go_enter Tryz.func181, Tryz.ntmps181
 go_wp2_with fail
 go_loopw [3, 8] (fun q a wr => ∃ (i d : Nat) (r : List Lb), a = .int .i64 (i : Int) ∧ q = .int .i64 (d : Int) ∧ d ≤ i ∧ r.length + i = L.length ∧ Kpt (d + optC r = optC L) ∧ Kpt (RowD w0 (encLb r) aL (i * 8)) ∧ Below W.heap.size W wr) (fun _ a _ => L.length - (intOf a).toNat)
 case atStart => exact ⟨0, 0, L, rfl, rfl, Nat.le_refl _, by omega, ⟨by omega⟩, ⟨rowD_zero HL.out⟩, Below.refl _ _⟩
 case round =>
  obtain ⟨i, d, r, rfl, rfl, hdi, hri, hd, hR, hB⟩ := hrel
  cases r with
  | nil =>
   have hi9 : i = L.length := by simp only [List.length_nil] at hri; omega
   subst hi9
   have hdd : d = optC L := hd.out
   have HZ := hid (And.intro hdd hB)
   clear hdd hd hri hR hB
   go_wp2_with fail
   go_ret
   exact ⟨by rw [← HZ.out.1] <;> rfl, HZ.out.2⟩
  | cons lx r' =>
   have hlt : i < L.length := by simp only [List.length_cons] at hri; omega
   obtain ⟨bf, of, y, haf, hy, ⟨d0, d1, d2, d3, d4, d5, d6, d7⟩, hr1⟩ := rowD_lb hR.out
   have hWr := HW.out.trans (hB.mono HW.out.size)
   replace d0 := old_cell hWr d0
   replace d1 := old_cell hWr d1
   replace d2 := old_cell hWr d2
   replace d3 := old_cell hWr d3
   replace d4 := old_cell hWr d4
   replace d5 := old_cell hWr d5
   replace d6 := old_cell hWr d6
   replace d7 := old_cell hWr d7
   rw [haf]
   have hsum : optC (lx :: r') = (if lx.op = true then 1 else 0) + optC r' := by unfold optC; rw [List.filter_cons]; split <;> simp <;> omega
   have hri' : r'.length + (i + 1) = L.length := by simp only [List.length_cons] at hri; omega
   obtain ⟨wb, hwb⟩ : ∃ wb, wr.alloc (.cells #[.string lx.nm, .string lx.vr, .int .i64 y.t.k, .string y.t.m, .string y.t.n, .slice y.aa y.t.A.len y.ca, .slice y.af y.t.F.len y.cf, .bool lx.op] 102) = wb := ⟨_, rfl⟩
   have hbb : Below wr.heap.size wr wb := by rw [← hwb]; exact (Below.refl _ wr).alloc (Nat.le_refl _) _
   have heb : wb.heap[wr.heap.size]? = some (.cells #[.string lx.nm, .string lx.vr, .int .i64 y.t.k, .string y.t.m, .string y.t.n, .slice y.aa y.t.A.len y.ca, .slice y.af y.t.F.len y.cf, .bool lx.op] 102 (0, 0)) := by rw [← hwb]; exact World.alloc_heap_new _ _
   have g7 := cell_of_row wb _ 7 _ _ _ heb
   have HQ := hid (And.intro hr1 (And.intro (hB.trans (hbb.mono hB.size)) (And.intro hd.out (And.intro hsum hri'))))
   clear hr1 hB hd hsum hri' hri hbb heb hWr hR hy
   cases hop : lx.op with
   | true =>
    rw [hop] at g7 hwb d7
    have HS := hid (show d + 1 + optC r' = optC L by have h := HQ.out.2.2.1; rw [HQ.out.2.2.2.1, hop] at h; simp at h; omega)
    clear hop
    go_wp2_with fail
    go_roundw
    case rel => exact ⟨i + 1, d + 1, r', by go_num, by go_num, by omega, HQ.out.2.2.2.2, ⟨HS.out⟩, haf ▸ ⟨HQ.out.1⟩, HQ.out.2.1⟩
    case measure => simp [intOf]; omega
   | false =>
    rw [hop] at g7 hwb d7
    have HS := hid (show d + optC r' = optC L by have h := HQ.out.2.2.1; rw [HQ.out.2.2.2.1, hop] at h; simp at h; omega)
    clear hop
    subst hwb
    go_wp2_with fail
    go_roundw
    case rel => exact ⟨i + 1, d, r', by go_num, rfl, by omega, HQ.out.2.2.2.2, ⟨HS.out⟩, haf ▸ ⟨HQ.out.1⟩, HQ.out.2.1⟩
    case measure => simp [intOf]; omega
/-- The number of Kids that the form of an expression asks for. -/
def kidC (k : Int) (L : List Lb) (n : ByteArray) (lk : Nat) : Int :=
 if 0 ≤ k ∧ k ≤ 4 then 0 else if k = 6 ∨ k = 7 ∨ k = 11 then 1 else if k = 10 then 2 else if k = 12 ∨ k = 15 then 3 else if k = 5 then L.length else
 if k = 8 then optC L + 1 else if k = 9 ∨ k = 13 then L.length + 1 else if k = 14 then lk else if k = 16 then opC n else -1
theorem optC_le (L : List Lb) : optC L ≤ L.length := List.length_filter_le _ _
set_option maxRecDepth 100000 in
set_option maxHeartbeats 8000000 in
theorem kidcount_any {w0 : World} (x : XpI w0) (hl : x.e.L.length ≤ 1099511627776) (W : World) (hW : Below w0.heap.size w0 W) :
 Calls Tryz.prog 124 #[.agg #[.int .i64 x.e.k, .string x.e.m, .string x.e.n, .string x.e.tx, .int .i64 x.e.num, .slice x.aT x.e.T.len x.cT, .slice x.aL x.e.L.length x.cL, .slice x.aK x.e.K.len x.cK]] W fun e W' => e = .returned (.int .i64 (kidC x.e.k x.e.L x.e.n x.e.K.len)) ∧ Below W.heap.size W W' := by
 obtain ⟨wa, hwa⟩ : ∃ wa, W.alloc (.cells #[.int .i64 x.e.k, .string x.e.m, .string x.e.n, .string x.e.tx, .int .i64 x.e.num, .slice x.aT x.e.T.len x.cT, .slice x.aL x.e.L.length x.cL, .slice x.aK x.e.K.len x.cK] 29) = wa := ⟨_, rfl⟩
 have hba : Below W.heap.size W wa := by rw [← hwa]; exact (Below.refl _ W).alloc (Nat.le_refl _) _
 have hea : wa.heap[W.heap.size]? = some (.cells #[.int .i64 x.e.k, .string x.e.m, .string x.e.n, .string x.e.tx, .int .i64 x.e.num, .slice x.aT x.e.T.len x.cT, .slice x.aL x.e.L.length x.cL, .slice x.aK x.e.K.len x.cK] 29 (0, 0)) := by rw [← hwa]; exact World.alloc_heap_new _ _
 have k0 := cell_of_row wa _ 0 _ _ _ hea
 have k2 := cell_of_row wa _ 2 _ _ _ hea
 have k6 := cell_of_row wa _ 6 _ _ _ hea
 have k7 := cell_of_row wa _ 7 _ _ _ hea
 have HB := hid hba
 have HOC := hid (optcount_any w0 x.e.L x.aL x.cL x.hL hl wa (hW.trans (hba.mono hW.size)))
 have hol := optC_le x.e.L
 have HOP := hid (opcount_any x.e.n wa)
 have hww : wrap64 ((x.e.L.length : Int) + 1) = (x.e.L.length : Int) + 1 := by unfold wrap64; omega
 have hwo : wrap64 ((optC x.e.L : Int) + 1) = (optC x.e.L : Int) + 1 := by unfold wrap64; omega
 clear hba hea hW
 generalize x.e.k = k at *
 rcases (by omega : k = 0 ∨ k = 1 ∨ k = 2 ∨ k = 3 ∨ k = 4 ∨ k = 5 ∨ k = 6 ∨ k = 7 ∨ k = 8 ∨ k = 9 ∨ k = 10 ∨ k = 11 ∨ k = 12 ∨ k = 13 ∨ k = 14 ∨ k = 15 ∨ k = 16 ∨ (k ≠ 0 ∧ k ≠ 1 ∧ k ≠ 2 ∧ k ≠ 3 ∧ k ≠ 4 ∧ k ≠ 5 ∧ k ≠ 6 ∧ k ≠ 7 ∧ k ≠ 8 ∧ k ≠ 9 ∧ k ≠ 10 ∧ k ≠ 11 ∧ k ≠ 12 ∧ k ≠ 13 ∧ k ≠ 14 ∧ k ≠ 15 ∧ k ≠ 16)) with
  rfl | rfl | rfl | rfl | rfl | rfl | rfl | rfl | rfl | rfl | rfl | rfl | rfl | rfl | rfl | rfl | rfl | ⟨h0, h1, h2, h3, h4, h5, h6, h7, h8, h9, h10, h11, h12, h13, h14, h15, h16⟩
 iterate 8
  · go_enter Tryz.func124, Tryz.ntmps124
    go_wp2_with fail
    go_ret
    exact ⟨by simp [kidC], HB.out⟩
 · have hr : kidC 8 x.e.L x.e.n x.e.K.len = (optC x.e.L : Int) + 1 := by simp [kidC]
   rw [hr]
   go_enter Tryz.func124, Tryz.ntmps124
   go_wp2_with fail
   refine HOC.out.mono ?_
   rintro e w2 ⟨rfl, hb⟩
   have H2 := hid hb
   clear hb
   go_wp2_with fail
   go_ret
   exact ⟨rfl, HB.out.trans (H2.out.mono HB.out.size)⟩
 iterate 7
  · go_enter Tryz.func124, Tryz.ntmps124
    go_wp2_with fail
    go_ret
    exact ⟨by simp [kidC], HB.out⟩
 · have hr : kidC 16 x.e.L x.e.n x.e.K.len = opC x.e.n := by simp [kidC]
   rw [hr]
   go_enter Tryz.func124, Tryz.ntmps124
   go_wp2_with fail
   refine HOP.out.mono ?_
   rintro e w2 ⟨rfl, rfl⟩
   go_wp2_with fail
   go_ret
   exact ⟨rfl, HB.out⟩
 have hr : kidC k x.e.L x.e.n x.e.K.len = -1 := by unfold kidC; repeat rw [if_neg (by omega)]
 rw [hr]
 clear hr
 go_enter Tryz.func124, Tryz.ntmps124
 go_wp2_with fail
 go_ret
 exact ⟨rfl, HB.out⟩
end Go.Proofs.YtnkhebgjhipepaaGreatDoor

namespace Go.Proofs.YtnkhebgjhipepaaGreatDoor
open Go.RowKit Go.Shelf
attribute [local go_sem] Oper.semAt_some

/-- Whether a string is a name. -/
def nmB (s : ByteArray) : Bool := isWk s.data.toList 1
/-- Whether Module, Name and Text, and the variables of the arms, are as the kind asks. -/
def exN (e : Xp) : Bool :=
 if e.k = 3 ∨ e.k = 6 ∨ e.k = 7 ∨ e.k = 10 then nmB e.n else if e.k = 4 then orgB e.m && nmB e.n else if e.k = 15 then nmB e.n && nmB e.tx else
 if e.k = 13 then e.L.all (fun l => nmB l.vr) else true
set_option maxRecDepth 100000 in
set_option maxHeartbeats 8000000 in
theorem exnames_any {w0 : World} (x : XpI w0) (hl : x.e.L.length ≤ 1099511627776) (hs : x.e.m.size ≤ 9223372036854775807 ∧ x.e.n.size ≤ 9223372036854775807 ∧ x.e.tx.size ≤ 9223372036854775807 ∧ ∀ l ∈ x.e.L, l.vr.size ≤ 9223372036854775807) (W : World) (hW : Below w0.heap.size w0 W) (hE : Env W) :
 Calls Tryz.prog 127 #[.agg #[.int .i64 x.e.k, .string x.e.m, .string x.e.n, .string x.e.tx, .int .i64 x.e.num, .slice x.aT x.e.T.len x.cT, .slice x.aL x.e.L.length x.cL, .slice x.aK x.e.K.len x.cK]] W fun e W' => e = .returned (.bool (exN x.e)) ∧ Below W.heap.size W W' := by
 obtain ⟨wa, hwa⟩ : ∃ wa, W.alloc (.cells #[.int .i64 x.e.k, .string x.e.m, .string x.e.n, .string x.e.tx, .int .i64 x.e.num, .slice x.aT x.e.T.len x.cT, .slice x.aL x.e.L.length x.cL, .slice x.aK x.e.K.len x.cK] 29) = wa := ⟨_, rfl⟩
 have hba : Below W.heap.size W wa := by rw [← hwa]; exact (Below.refl _ W).alloc (Nat.le_refl _) _
 have hea : wa.heap[W.heap.size]? = some (.cells #[.int .i64 x.e.k, .string x.e.m, .string x.e.n, .string x.e.tx, .int .i64 x.e.num, .slice x.aT x.e.T.len x.cT, .slice x.aL x.e.L.length x.cL, .slice x.aK x.e.K.len x.cK] 29 (0, 0)) := by rw [← hwa]; exact World.alloc_heap_new _ _
 have k0 := cell_of_row wa _ 0 _ _ _ hea
 have k1 := cell_of_row wa _ 1 _ _ _ hea
 have k2 := cell_of_row wa _ 2 _ _ _ hea
 have k3 := cell_of_row wa _ 3 _ _ _ hea
 have k6 := cell_of_row wa _ 6 _ _ _ hea
 have HB := hid (And.intro hba hea)
 have HWa := hid (hW.trans (hba.mono hW.size))
 have HO := hid (isorigin_any x.e.m wa hs.1 (hE.below hba))
 have HN : Kpt (∀ w, Calls Tryz.prog 105 #[.string x.e.n] w fun e w' => e = .returned (.bool (nmB x.e.n)) ∧ w' = w) := hid (fun w => isname_any x.e.n w hs.2.1)
 have HT : Kpt (∀ w, Calls Tryz.prog 105 #[.string x.e.tx] w fun e w' => e = .returned (.bool (nmB x.e.tx)) ∧ w' = w) := hid (fun w => isname_any x.e.tx w hs.2.2.1)
 have HL : Kpt (∀ l ∈ x.e.L, ∀ w, Calls Tryz.prog 105 #[.string l.vr] w fun e w' => e = .returned (.bool (nmB l.vr)) ∧ w' = w) := hid (fun l hl' w => isname_any l.vr w (hs.2.2.2 l hl'))
 have HR : Kpt (exN x.e = if x.e.k = 3 ∨ x.e.k = 6 ∨ x.e.k = 7 ∨ x.e.k = 10 then nmB x.e.n else if x.e.k = 4 then orgB x.e.m && nmB x.e.n else if x.e.k = 15 then nmB x.e.n && nmB x.e.tx else if x.e.k = 13 then x.e.L.all (fun l => nmB l.vr) else true) := hid rfl
 clear hba hea hW hs hE
 generalize exN x.e = RES at HR ⊢
 by_cases q3 : x.e.k = 3
 · have hr : RES = nmB x.e.n := by rw [HR.out, if_pos (by omega)]
   rw [q3] at k0 hwa
   rw [hr, q3]
   clear HR hr
   go_enter Tryz.func127, Tryz.ntmps127
   go_wp2_with fail
   refine (HN.out _).mono ?_
   rintro e w2 ⟨rfl, rfl⟩
   go_wp2_with fail
   go_ret
   exact ⟨rfl, HB.out.1⟩
 by_cases q6 : x.e.k = 6
 · have hr : RES = nmB x.e.n := by rw [HR.out, if_pos (by omega)]
   rw [q6] at k0 hwa
   rw [hr, q6]
   clear HR hr
   go_enter Tryz.func127, Tryz.ntmps127
   go_wp2_with fail
   refine (HN.out _).mono ?_
   rintro e w2 ⟨rfl, rfl⟩
   go_wp2_with fail
   go_ret
   exact ⟨rfl, HB.out.1⟩
 by_cases q7 : x.e.k = 7
 · have hr : RES = nmB x.e.n := by rw [HR.out, if_pos (by omega)]
   rw [q7] at k0 hwa
   rw [hr, q7]
   clear HR hr
   go_enter Tryz.func127, Tryz.ntmps127
   go_wp2_with fail
   refine (HN.out _).mono ?_
   rintro e w2 ⟨rfl, rfl⟩
   go_wp2_with fail
   go_ret
   exact ⟨rfl, HB.out.1⟩
 by_cases q10 : x.e.k = 10
 · have hr : RES = nmB x.e.n := by rw [HR.out, if_pos (by omega)]
   rw [q10] at k0 hwa
   rw [hr, q10]
   clear HR hr
   go_enter Tryz.func127, Tryz.ntmps127
   go_wp2_with fail
   refine (HN.out _).mono ?_
   rintro e w2 ⟨rfl, rfl⟩
   go_wp2_with fail
   go_ret
   exact ⟨rfl, HB.out.1⟩
 by_cases q4 : x.e.k = 4
 · have hr : RES = (orgB x.e.m && nmB x.e.n) := by rw [HR.out, if_neg (by omega), if_pos q4]
   rw [q4] at k0 hwa
   rw [hr, q4]
   clear HR hr
   go_enter Tryz.func127, Tryz.ntmps127
   go_wp2_with fail
   refine HO.out.mono ?_
   rintro e w2 ⟨rfl, hb⟩
   have k2' := old_cell hb k2
   have H2 := hid hb
   clear hb
   cases hO : orgB x.e.m with
   | false =>
    go_wp2_with fail
    go_ret
    exact ⟨by simp [hO], HB.out.1.trans (H2.out.mono HB.out.1.size)⟩
   | true =>
    go_wp2_with fail
    refine (HN.out _).mono ?_
    rintro e w3 ⟨rfl, rfl⟩
    go_wp2_with fail
    go_ret
    exact ⟨by simp [hO], HB.out.1.trans (H2.out.mono HB.out.1.size)⟩
 by_cases q15 : x.e.k = 15
 · have hr : RES = (nmB x.e.n && nmB x.e.tx) := by rw [HR.out, if_neg (by omega), if_neg q4, if_pos q15]
   rw [q15] at k0 hwa
   rw [hr, q15]
   clear HR hr
   go_enter Tryz.func127, Tryz.ntmps127
   go_wp2_with fail
   refine (HN.out _).mono ?_
   rintro e w2 ⟨rfl, rfl⟩
   cases hO : nmB x.e.n with
   | false =>
    go_wp2_with fail
    go_ret
    exact ⟨by simp [hO], HB.out.1⟩
   | true =>
    go_wp2_with fail
    refine (HT.out _).mono ?_
    rintro e w3 ⟨rfl, rfl⟩
    go_wp2_with fail
    go_ret
    exact ⟨by simp [hO], HB.out.1⟩
 by_cases q13 : x.e.k = 13
 · have hr : RES = x.e.L.all (fun l => nmB l.vr) := by rw [HR.out, if_neg (by omega), if_neg q4, if_neg q15, if_pos q13]
   have hX := x.hL
   rw [q13] at k0 hwa
   rw [hr, q13]
   clear HR hr
   have HXL := hid hX
   clear hX
   go_enter Tryz.func127, Tryz.ntmps127
   go_wp2_with fail
   clear hwa
   go_loopw [40] (fun a wr => ∃ (i : Nat) (r : List Lb), a = .int .i64 (i : Int) ∧ r.length + i = x.e.L.length ∧ Kpt (r.all (fun l => nmB l.vr) = x.e.L.all (fun l => nmB l.vr)) ∧ Kpt (∀ l ∈ r, l ∈ x.e.L) ∧ Kpt (RowD w0 (encLb r) x.aL (i * 8)) ∧ Below wa.heap.size wa wr) (fun a _ => x.e.L.length - (intOf a).toNat)
   case atStart => exact ⟨0, x.e.L, rfl, by omega, ⟨rfl⟩, ⟨fun _ h => h⟩, ⟨rowD_zero HXL.out⟩, Below.refl _ _⟩
   case round =>
    obtain ⟨i, r, rfl, hri, hall, hmem, hR, hB⟩ := hrel
    cases r with
    | nil =>
     have hi9 : i = x.e.L.length := by simp only [List.length_nil] at hri; omega
     subst hi9
     have HZ := hid (And.intro hall.out hB)
     clear hri hR hB
     go_wp2_with fail
     go_ret
     exact ⟨by rw [← HZ.out.1]; rfl, HB.out.1.trans (HZ.out.2.mono HB.out.1.size)⟩
    | cons lx r' =>
     have hlt : i < x.e.L.length := by simp only [List.length_cons] at hri; omega
     obtain ⟨bf, of, y, haf, hy, ⟨d0, d1, d2, d3, d4, d5, d6, d7⟩, hr1⟩ := rowD_lb hR.out
     have hWr := HWa.out.trans (hB.mono HWa.out.size)
     replace d0 := old_cell hWr d0
     replace d1 := old_cell hWr d1
     replace d2 := old_cell hWr d2
     replace d3 := old_cell hWr d3
     replace d4 := old_cell hWr d4
     replace d5 := old_cell hWr d5
     replace d6 := old_cell hWr d6
     replace d7 := old_cell hWr d7
     rw [haf]
     have hri' : r'.length + (i + 1) = x.e.L.length := by simp only [List.length_cons] at hri; omega
     obtain ⟨wb, hwb⟩ : ∃ wb, wr.alloc (.cells #[.string lx.nm, .string lx.vr, .int .i64 y.t.k, .string y.t.m, .string y.t.n, .slice y.aa y.t.A.len y.ca, .slice y.af y.t.F.len y.cf, .bool lx.op] 102) = wb := ⟨_, rfl⟩
     have hbb : Below wr.heap.size wr wb := by rw [← hwb]; exact (Below.refl _ wr).alloc (Nat.le_refl _) _
     have heb : wb.heap[wr.heap.size]? = some (.cells #[.string lx.nm, .string lx.vr, .int .i64 y.t.k, .string y.t.m, .string y.t.n, .slice y.aa y.t.A.len y.ca, .slice y.af y.t.F.len y.cf, .bool lx.op] 102 (0, 0)) := by rw [← hwb]; exact World.alloc_heap_new _ _
     have g1 := cell_of_row wb _ 1 _ _ _ heb
     have HC := hid (HL.out lx (hmem.out lx List.mem_cons_self))
     have HQ := hid (And.intro hr1 (And.intro (hB.trans (hbb.mono hB.size)) (And.intro hall.out (And.intro hri' (fun l hl' => hmem.out l (List.mem_cons_of_mem _ hl'))))))
     clear hr1 hB hall hri' hri hbb heb hWr hR hy hmem
     go_wp2_with fail
     refine (HC.out _).mono ?_
     rintro e w4 ⟨rfl, rfl⟩
     cases hO : nmB lx.vr with
     | false =>
      have HF := hid (show x.e.L.all (fun l => nmB l.vr) = false by rw [← HQ.out.2.2.1, List.all_cons, hO]; rfl)
      clear hO
      go_wp2_with fail
      go_ret
      exact ⟨by rw [HF.out]; rfl, HB.out.1.trans (HQ.out.2.1.mono HB.out.1.size)⟩
     | true =>
      have HF := hid (show r'.all (fun l => nmB l.vr) = x.e.L.all (fun l => nmB l.vr) by rw [← HQ.out.2.2.1, List.all_cons, hO]; rfl)
      clear hO
      go_wp2_with fail
      go_roundw
      case rel => exact ⟨i + 1, r', by go_num, HQ.out.2.2.2.1, ⟨HF.out⟩, ⟨HQ.out.2.2.2.2⟩, haf ▸ ⟨HQ.out.1⟩, HQ.out.2.1⟩
      case measure => simp [intOf]; omega
 have hr : RES = true := by rw [HR.out, if_neg (by omega), if_neg q4, if_neg q15, if_neg q13]
 rw [hr]
 clear HR hr
 go_enter Tryz.func127, Tryz.ntmps127
 go_wp2_with fail
 go_ret
 exact ⟨rfl, HB.out.1⟩
end Go.Proofs.YtnkhebgjhipepaaGreatDoor

namespace Go.Proofs.YtnkhebgjhipepaaGreatDoor
open Go.RowKit Go.Shelf
attribute [local go_sem] Oper.semAt_some

def Ty0 : Ty := ⟨0, ⟨#[]⟩, ⟨#[]⟩, .nil, .nil⟩
def Lb0 : Lb := { nm := ⟨#[]⟩, vr := ⟨#[]⟩, t := Ty0, op := false }
/-- What is left of a label without what the kind names. -/
def restL (k : Int) (l : Lb) : Lb := if k = 8 then { nm := ⟨#[]⟩, vr := l.vr, t := Ty0, op := false } else if k = 13 then { nm := ⟨#[]⟩, vr := ⟨#[]⟩, t := l.t, op := l.op } else { nm := ⟨#[]⟩, vr := l.vr, t := l.t, op := l.op }
def TyI0 (w : World) : TyI w := { t := Ty0, aa := none, ca := 0, af := none, cf := 0, hk := by decide, ha := .inl rfl, hf := .inl rfl }
set_option maxRecDepth 100000 in
set_option maxHeartbeats 8000000 in
theorem labelparts_any {w0 : World} (x : XpI w0) (hl : x.e.L.length ≤ 1099511627776) (hts : ∀ l ∈ x.e.L, l.t.size ≤ 1099511627776) (W : World) (hW : Below w0.heap.size w0 W) :
 Calls Tryz.prog 126 #[.agg #[.int .i64 x.e.k, .string x.e.m, .string x.e.n, .string x.e.tx, .int .i64 x.e.num, .slice x.aT x.e.T.len x.cT, .slice x.aL x.e.L.length x.cL, .slice x.aK x.e.K.len x.cK]] W fun e W' => e = .returned (.bool (x.e.L.all fun l => (restL x.e.k l).eq Lb0)) ∧ Below W.heap.size W W' := by
 obtain ⟨wa, hwa⟩ : ∃ wa, W.alloc (.cells #[.int .i64 x.e.k, .string x.e.m, .string x.e.n, .string x.e.tx, .int .i64 x.e.num, .slice x.aT x.e.T.len x.cT, .slice x.aL x.e.L.length x.cL, .slice x.aK x.e.K.len x.cK] 29) = wa := ⟨_, rfl⟩
 have hba : Below W.heap.size W wa := by rw [← hwa]; exact (Below.refl _ W).alloc (Nat.le_refl _) _
 have hea : wa.heap[W.heap.size]? = some (.cells #[.int .i64 x.e.k, .string x.e.m, .string x.e.n, .string x.e.tx, .int .i64 x.e.num, .slice x.aT x.e.T.len x.cT, .slice x.aL x.e.L.length x.cL, .slice x.aK x.e.K.len x.cK] 29 (0, 0)) := by rw [← hwa]; exact World.alloc_heap_new _ _
 have k6 := cell_of_row wa _ 6 _ _ _ hea
 have HB := hid (And.intro hba hea)
 have HWa := hid (hW.trans (hba.mono hW.size))
 have HTS := hid hts
 clear hba hea hW hts
 have HXL := hid x.hL
 go_enter Tryz.func126, Tryz.ntmps126
 go_wp2_with fail
 clear hwa
 go_loopw [8] (fun a wr => ∃ (i : Nat) (r : List Lb), a = .int .i64 (i : Int) ∧ r.length + i = x.e.L.length ∧ Kpt (r.all (fun l => (restL x.e.k l).eq Lb0) = x.e.L.all (fun l => (restL x.e.k l).eq Lb0)) ∧ Kpt (∀ l ∈ r, l ∈ x.e.L) ∧ Kpt (RowD w0 (encLb r) x.aL (i * 8)) ∧ Below wa.heap.size wa wr) (fun a _ => x.e.L.length - (intOf a).toNat)
 case atStart => exact ⟨0, x.e.L, rfl, by omega, ⟨rfl⟩, ⟨fun _ h => h⟩, ⟨rowD_zero HXL.out⟩, Below.refl _ _⟩
 case round =>
  obtain ⟨i, r, rfl, hri, hall, hmem, hR, hB⟩ := hrel
  cases r with
  | nil =>
   have hi9 : i = x.e.L.length := by simp only [List.length_nil] at hri; omega
   subst hi9
   have HZ := hid (And.intro hall.out hB)
   clear hri hR hB k6 hall hmem
   go_wp2_with fail
   go_ret
   exact ⟨by rw [← HZ.out.1]; rfl, HB.out.1.trans (HZ.out.2.mono HB.out.1.size)⟩
  | cons lx r' =>
   have hlt : i < x.e.L.length := by simp only [List.length_cons] at hri; omega
   obtain ⟨bf, of, y, haf, hy, ⟨d0, d1, d2, d3, d4, d5, d6, d7⟩, hr1⟩ := rowD_lb hR.out
   have hWr := HWa.out.trans (hB.mono HWa.out.size)
   replace d0 := old_cell hWr d0
   replace d1 := old_cell hWr d1
   replace d2 := old_cell hWr d2
   replace d3 := old_cell hWr d3
   replace d4 := old_cell hWr d4
   replace d5 := old_cell hWr d5
   replace d6 := old_cell hWr d6
   replace d7 := old_cell hWr d7
   rw [haf]
   have hea := (hB.block _ (Array.getElem?_eq_some_iff.1 HB.out.2).1).trans HB.out.2
   have hri' : r'.length + (i + 1) = x.e.L.length := by simp only [List.length_cons] at hri; omega
   have hyt : y.t.size ≤ 1099511627776 := by rw [hy]; exact HTS.out lx (hmem.out lx List.mem_cons_self)
   have hba1 : Below wr.heap.size wr (wr.alloc (.cells #[.string ⟨#[]⟩, .string lx.vr, .int .i64 y.t.k, .string y.t.m, .string y.t.n, .slice y.aa y.t.A.len y.ca, .slice y.af y.t.F.len y.cf, .bool lx.op] 102)) := (Below.refl _ wr).alloc (Nat.le_refl _) _
   have m1 := cell_of_row _ _ 0 _ _ _ ((hba1.block _ (Array.getElem?_eq_some_iff.1 hea).1).trans hea)
   have HQ := hid (And.intro hr1 (And.intro hB (And.intro hall.out (And.intro hri' (And.intro (fun l hl' => hmem.out l (List.mem_cons_of_mem _ hl')) hWr)))))
   have HY := hid hy
   clear hr1 hB hall hri' hri hR hy hmem hea hba1 hWr k6

   by_cases qk : x.e.k = 8
   · obtain ⟨wb, hwb⟩ : ∃ wb, wr.alloc (.cells #[.string ⟨#[]⟩, .string lx.vr, .int .i64 0, .string ⟨#[]⟩, .string ⟨#[]⟩, .slice none 0 0, .slice none 0 0, .bool false] 102) = wb := ⟨_, rfl⟩
     have hbb : Below wr.heap.size wr wb := by rw [← hwb]; exact (Below.refl _ wr).alloc (Nat.le_refl _) _
     have heb : wb.heap[wr.heap.size]? = some (.cells #[.string ⟨#[]⟩, .string lx.vr, .int .i64 0, .string ⟨#[]⟩, .string ⟨#[]⟩, .slice none 0 0, .slice none 0 0, .bool false] 102 (0, 0)) := by rw [← hwb]; exact World.alloc_heap_new _ _
     have g0 := cell_of_row wb _ 0 _ _ _ heb
     have g1 := cell_of_row wb _ 1 _ _ _ heb
     have g2 := cell_of_row wb _ 2 _ _ _ heb
     have g3 := cell_of_row wb _ 3 _ _ _ heb
     have g4 := cell_of_row wb _ 4 _ _ _ heb
     have g5 := cell_of_row wb _ 5 _ _ _ heb
     have g6 := cell_of_row wb _ 6 _ _ _ heb
     have g7 := cell_of_row wb _ 7 _ _ _ heb
     have hres : restL x.e.k lx = { nm := ⟨#[]⟩, vr := lx.vr, t := Ty0, op := false } := by unfold restL; rw [if_pos qk]
     have HC : Kpt (Calls Tryz.prog 78 #[.agg #[.string ⟨#[]⟩, .string lx.vr, .int .i64 0, .string ⟨#[]⟩, .string ⟨#[]⟩, .slice none 0 0, .slice none 0 0, .bool false], .agg #[.string ⟨#[]⟩, .string ⟨#[]⟩, .int .i64 0, .string ⟨#[]⟩, .string ⟨#[]⟩, .slice none 0 0, .slice none 0 0, .bool false]] wb fun e W'' => e = .returned (.bool ((restL x.e.k lx).eq Lb0)) ∧ Below wb.heap.size wb W'') := hid (by rw [hres]; exact lb_any w0 { nm := ⟨#[]⟩, vr := lx.vr, t := Ty0, op := false } Lb0 (TyI0 w0) (TyI0 w0) rfl rfl (by show Ty.size Ty0 ≤ _; decide) wb (HQ.out.2.2.2.2.2.trans (hbb.mono HQ.out.2.2.2.2.2.size)))
     clear hres
     have H2 := hid (HQ.out.2.1.trans (hbb.mono HQ.out.2.1.size))
     clear hbb heb
     rw [qk] at m1
     clear qk
     go_wp2_with fail
     refine HC.out.mono ?_
     rintro e w4 ⟨rfl, hb4⟩
     have H4 := hid (H2.out.trans (hb4.mono H2.out.size))
     clear hb4
     cases hO : (restL x.e.k lx).eq Lb0 with
     | false =>
      have HF := hid (show x.e.L.all (fun l => (restL x.e.k l).eq Lb0) = false by rw [← HQ.out.2.2.1, List.all_cons, hO]; rfl)
      clear hO
      go_wp2_with fail
      go_ret
      exact ⟨by rw [HF.out]; rfl, HB.out.1.trans (H4.out.mono HB.out.1.size)⟩
     | true =>
      have HF := hid (show r'.all (fun l => (restL x.e.k l).eq Lb0) = x.e.L.all (fun l => (restL x.e.k l).eq Lb0) by rw [← HQ.out.2.2.1, List.all_cons, hO]; rfl)
      clear hO
      go_wp2_with fail
      go_roundw
      case rel => exact ⟨i + 1, r', by go_num, HQ.out.2.2.2.1, ⟨HF.out⟩, ⟨HQ.out.2.2.2.2.1⟩, haf ▸ ⟨HQ.out.1⟩, H4.out⟩
      case measure => simp [intOf]; omega

   have q8 := qk
   clear qk
   by_cases qk : x.e.k = 13
   · obtain ⟨wb, hwb⟩ : ∃ wb, wr.alloc (.cells #[.string ⟨#[]⟩, .string ⟨#[]⟩, .int .i64 y.t.k, .string y.t.m, .string y.t.n, .slice y.aa y.t.A.len y.ca, .slice y.af y.t.F.len y.cf, .bool lx.op] 102) = wb := ⟨_, rfl⟩
     have hbb : Below wr.heap.size wr wb := by rw [← hwb]; exact (Below.refl _ wr).alloc (Nat.le_refl _) _
     have heb : wb.heap[wr.heap.size]? = some (.cells #[.string ⟨#[]⟩, .string ⟨#[]⟩, .int .i64 y.t.k, .string y.t.m, .string y.t.n, .slice y.aa y.t.A.len y.ca, .slice y.af y.t.F.len y.cf, .bool lx.op] 102 (0, 0)) := by rw [← hwb]; exact World.alloc_heap_new _ _
     have g0 := cell_of_row wb _ 0 _ _ _ heb
     have g1 := cell_of_row wb _ 1 _ _ _ heb
     have g2 := cell_of_row wb _ 2 _ _ _ heb
     have g3 := cell_of_row wb _ 3 _ _ _ heb
     have g4 := cell_of_row wb _ 4 _ _ _ heb
     have g5 := cell_of_row wb _ 5 _ _ _ heb
     have g6 := cell_of_row wb _ 6 _ _ _ heb
     have g7 := cell_of_row wb _ 7 _ _ _ heb
     have hres : restL x.e.k lx = { nm := ⟨#[]⟩, vr := ⟨#[]⟩, t := lx.t, op := lx.op } := by unfold restL; rw [if_neg q8, if_pos qk]
     have HC : Kpt (Calls Tryz.prog 78 #[.agg #[.string ⟨#[]⟩, .string ⟨#[]⟩, .int .i64 y.t.k, .string y.t.m, .string y.t.n, .slice y.aa y.t.A.len y.ca, .slice y.af y.t.F.len y.cf, .bool lx.op], .agg #[.string ⟨#[]⟩, .string ⟨#[]⟩, .int .i64 0, .string ⟨#[]⟩, .string ⟨#[]⟩, .slice none 0 0, .slice none 0 0, .bool false]] wb fun e W'' => e = .returned (.bool ((restL x.e.k lx).eq Lb0)) ∧ Below wb.heap.size wb W'') := hid (by rw [hres]; exact lb_any w0 { nm := ⟨#[]⟩, vr := ⟨#[]⟩, t := lx.t, op := lx.op } Lb0 y (TyI0 w0) HY.out rfl hyt wb (HQ.out.2.2.2.2.2.trans (hbb.mono HQ.out.2.2.2.2.2.size)))
     clear hres
     have H2 := hid (HQ.out.2.1.trans (hbb.mono HQ.out.2.1.size))
     clear hbb heb
     rw [qk] at m1
     clear qk
     go_wp2_with fail
     refine HC.out.mono ?_
     rintro e w4 ⟨rfl, hb4⟩
     have H4 := hid (H2.out.trans (hb4.mono H2.out.size))
     clear hb4
     cases hO : (restL x.e.k lx).eq Lb0 with
     | false =>
      have HF := hid (show x.e.L.all (fun l => (restL x.e.k l).eq Lb0) = false by rw [← HQ.out.2.2.1, List.all_cons, hO]; rfl)
      clear hO
      go_wp2_with fail
      go_ret
      exact ⟨by rw [HF.out]; rfl, HB.out.1.trans (H4.out.mono HB.out.1.size)⟩
     | true =>
      have HF := hid (show r'.all (fun l => (restL x.e.k l).eq Lb0) = x.e.L.all (fun l => (restL x.e.k l).eq Lb0) by rw [← HQ.out.2.2.1, List.all_cons, hO]; rfl)
      clear hO
      go_wp2_with fail
      go_roundw
      case rel => exact ⟨i + 1, r', by go_num, HQ.out.2.2.2.1, ⟨HF.out⟩, ⟨HQ.out.2.2.2.2.1⟩, haf ▸ ⟨HQ.out.1⟩, H4.out⟩
      case measure => simp [intOf]; omega

   skip
   · obtain ⟨wb, hwb⟩ : ∃ wb, wr.alloc (.cells #[.string ⟨#[]⟩, .string lx.vr, .int .i64 y.t.k, .string y.t.m, .string y.t.n, .slice y.aa y.t.A.len y.ca, .slice y.af y.t.F.len y.cf, .bool lx.op] 102) = wb := ⟨_, rfl⟩
     have hbb : Below wr.heap.size wr wb := by rw [← hwb]; exact (Below.refl _ wr).alloc (Nat.le_refl _) _
     have heb : wb.heap[wr.heap.size]? = some (.cells #[.string ⟨#[]⟩, .string lx.vr, .int .i64 y.t.k, .string y.t.m, .string y.t.n, .slice y.aa y.t.A.len y.ca, .slice y.af y.t.F.len y.cf, .bool lx.op] 102 (0, 0)) := by rw [← hwb]; exact World.alloc_heap_new _ _
     have g0 := cell_of_row wb _ 0 _ _ _ heb
     have g1 := cell_of_row wb _ 1 _ _ _ heb
     have g2 := cell_of_row wb _ 2 _ _ _ heb
     have g3 := cell_of_row wb _ 3 _ _ _ heb
     have g4 := cell_of_row wb _ 4 _ _ _ heb
     have g5 := cell_of_row wb _ 5 _ _ _ heb
     have g6 := cell_of_row wb _ 6 _ _ _ heb
     have g7 := cell_of_row wb _ 7 _ _ _ heb
     have hres : restL x.e.k lx = { nm := ⟨#[]⟩, vr := lx.vr, t := lx.t, op := lx.op } := by unfold restL; rw [if_neg q8, if_neg qk]
     have HC : Kpt (Calls Tryz.prog 78 #[.agg #[.string ⟨#[]⟩, .string lx.vr, .int .i64 y.t.k, .string y.t.m, .string y.t.n, .slice y.aa y.t.A.len y.ca, .slice y.af y.t.F.len y.cf, .bool lx.op], .agg #[.string ⟨#[]⟩, .string ⟨#[]⟩, .int .i64 0, .string ⟨#[]⟩, .string ⟨#[]⟩, .slice none 0 0, .slice none 0 0, .bool false]] wb fun e W'' => e = .returned (.bool ((restL x.e.k lx).eq Lb0)) ∧ Below wb.heap.size wb W'') := hid (by rw [hres]; exact lb_any w0 { nm := ⟨#[]⟩, vr := lx.vr, t := lx.t, op := lx.op } Lb0 y (TyI0 w0) HY.out rfl hyt wb (HQ.out.2.2.2.2.2.trans (hbb.mono HQ.out.2.2.2.2.2.size)))
     clear hres
     have H2 := hid (HQ.out.2.1.trans (hbb.mono HQ.out.2.1.size))
     clear hbb heb
     rw [hwb] at m1
     go_wp2_with fail
     refine HC.out.mono ?_
     rintro e w4 ⟨rfl, hb4⟩
     have H4 := hid (H2.out.trans (hb4.mono H2.out.size))
     clear hb4
     cases hO : (restL x.e.k lx).eq Lb0 with
     | false =>
      have HF := hid (show x.e.L.all (fun l => (restL x.e.k l).eq Lb0) = false by rw [← HQ.out.2.2.1, List.all_cons, hO]; rfl)
      clear hO
      go_wp2_with fail
      go_ret
      exact ⟨by rw [HF.out]; rfl, HB.out.1.trans (H4.out.mono HB.out.1.size)⟩
     | true =>
      have HF := hid (show r'.all (fun l => (restL x.e.k l).eq Lb0) = x.e.L.all (fun l => (restL x.e.k l).eq Lb0) by rw [← HQ.out.2.2.1, List.all_cons, hO]; rfl)
      clear hO
      go_wp2_with fail
      go_roundw
      case rel => exact ⟨i + 1, r', by go_num, HQ.out.2.2.2.1, ⟨HF.out⟩, ⟨HQ.out.2.2.2.2.1⟩, haf ▸ ⟨HQ.out.1⟩, H4.out⟩
      case measure => simp [intOf]; omega

end Go.Proofs.YtnkhebgjhipepaaGreatDoor

namespace Go.Proofs.YtnkhebgjhipepaaGreatDoor
open Go.RowKit Go.Shelf
attribute [local go_sem] Oper.semAt_some

def Xp0 : Xp := { k := 0, m := ⟨#[]⟩, n := ⟨#[]⟩, tx := ⟨#[]⟩, num := 0, T := .nil, L := [], K := .nil }
def XpI0 (w : World) : XpI w := { e := Xp0, aT := none, cT := 0, aL := none, cL := 0, aK := none, cK := 0, hk := by decide, hnum := by decide, hT := .inl rfl, hL := .inl rfl, hK := .inl rfl }
/-- What is left of an expression without Types, Kids and what its kind names. -/
def restE (e : Xp) : Xp :=
 if e.k = 0 then { k := 0, m := e.m, n := e.n, tx := e.tx, num := 0, T := .nil, L := e.L, K := .nil } else if e.k = 1 then { k := 0, m := e.m, n := e.n, tx := ⟨#[]⟩, num := e.num, T := .nil, L := e.L, K := .nil } else
 if e.k = 2 then (if e.num = 1 then { k := 0, m := e.m, n := e.n, tx := e.tx, num := 0, T := .nil, L := e.L, K := .nil } else { k := 0, m := e.m, n := e.n, tx := e.tx, num := e.num, T := .nil, L := e.L, K := .nil }) else
 if e.k = 3 ∨ e.k = 6 ∨ e.k = 7 ∨ e.k = 10 ∨ e.k = 16 then { k := 0, m := e.m, n := ⟨#[]⟩, tx := e.tx, num := e.num, T := .nil, L := e.L, K := .nil } else if e.k = 4 then { k := 0, m := ⟨#[]⟩, n := ⟨#[]⟩, tx := e.tx, num := e.num, T := .nil, L := e.L, K := .nil } else
 if e.k = 5 ∨ e.k = 8 ∨ e.k = 9 ∨ e.k = 13 then { k := 0, m := e.m, n := e.n, tx := e.tx, num := e.num, T := .nil, L := [], K := .nil } else if e.k = 15 then { k := 0, m := e.m, n := ⟨#[]⟩, tx := ⟨#[]⟩, num := e.num, T := .nil, L := e.L, K := .nil } else { k := 0, m := e.m, n := e.n, tx := e.tx, num := e.num, T := .nil, L := e.L, K := .nil }
set_option maxRecDepth 100000 in
set_option maxHeartbeats 16000000 in
theorem exprparts_any {w0 : World} (x : XpI w0) (hb : x.e.bk ≤ 1099511627776) (W : World) (hW : Below w0.heap.size w0 W) :
 Calls Tryz.prog 125 #[.agg #[.int .i64 x.e.k, .string x.e.m, .string x.e.n, .string x.e.tx, .int .i64 x.e.num, .slice x.aT x.e.T.len x.cT, .slice x.aL x.e.L.length x.cL, .slice x.aK x.e.K.len x.cK]] W fun e W' => e = .returned (.bool ((restE x.e).eq Xp0)) ∧ Below W.heap.size W W' := by
 obtain ⟨wa, hwa⟩ : ∃ wa, W.alloc (.cells #[.int .i64 x.e.k, .string x.e.m, .string x.e.n, .string x.e.tx, .int .i64 x.e.num, .slice x.aT x.e.T.len x.cT, .slice x.aL x.e.L.length x.cL, .slice x.aK x.e.K.len x.cK] 29) = wa := ⟨_, rfl⟩
 have hba : Below W.heap.size W wa := by rw [← hwa]; exact (Below.refl _ W).alloc (Nat.le_refl _) _
 have hea : wa.heap[W.heap.size]? = some (.cells #[.int .i64 x.e.k, .string x.e.m, .string x.e.n, .string x.e.tx, .int .i64 x.e.num, .slice x.aT x.e.T.len x.cT, .slice x.aL x.e.L.length x.cL, .slice x.aK x.e.K.len x.cK] 29 (0, 0)) := by rw [← hwa]; exact World.alloc_heap_new _ _
 have k0 := cell_of_row wa _ 0 _ _ _ hea
 have k1 := cell_of_row wa _ 1 _ _ _ hea
 have k2 := cell_of_row wa _ 2 _ _ _ hea
 have k3 := cell_of_row wa _ 3 _ _ _ hea
 have k4 := cell_of_row wa _ 4 _ _ _ hea
 have k5 := cell_of_row wa _ 5 _ _ _ hea
 have k6 := cell_of_row wa _ 6 _ _ _ hea
 have k7 := cell_of_row wa _ 7 _ _ _ hea
 have hba1 : Below wa.heap.size wa (wa.alloc (.cells #[.int .i64 0, .string x.e.m, .string x.e.n, .string x.e.tx, .int .i64 x.e.num, .slice none 0 0, .slice x.aL x.e.L.length x.cL, .slice none 0 0] 29)) := (Below.refl _ wa).alloc (Nat.le_refl _) _
 have m0 := cell_of_row _ _ 0 _ _ _ ((hba1.block _ (Array.getElem?_eq_some_iff.1 hea).1).trans hea)
 have m4 := cell_of_row _ _ 4 _ _ _ ((hba1.block _ (Array.getElem?_eq_some_iff.1 hea).1).trans hea)
 have HB := hid (And.intro hba (hW.trans (hba.mono hW.size)))
 have HX := hid hb
 clear hba hea hW hba1 hb
 have HE := hid (fun (y z : XpI w0) (hy : y.e.bk ≤ 1099511627776) W hW => xp_all w0 _ (Nat.le_refl 1099511627776) y z hy W hW)
 have hbk := x.e.bk_eq
 by_cases q0 : x.e.k = 0
 · have hres : restE x.e = { k := 0, m := x.e.m, n := x.e.n, tx := x.e.tx, num := 0, T := .nil, L := x.e.L, K := .nil } := by unfold restE; rw [if_pos q0]
   obtain ⟨wb, hwb⟩ : ∃ wb, wa.alloc (.cells #[.int .i64 0, .string x.e.m, .string x.e.n, .string x.e.tx, .int .i64 0, .slice none 0 0, .slice x.aL x.e.L.length x.cL, .slice none 0 0] 29) = wb := ⟨_, rfl⟩
   have hbb : Below wa.heap.size wa wb := by rw [← hwb]; exact (Below.refl _ wa).alloc (Nat.le_refl _) _
   have heb : wb.heap[wa.heap.size]? = some (.cells #[.int .i64 0, .string x.e.m, .string x.e.n, .string x.e.tx, .int .i64 0, .slice none 0 0, .slice x.aL x.e.L.length x.cL, .slice none 0 0] 29 (0, 0)) := by rw [← hwb]; exact World.alloc_heap_new _ _
   have g0 := cell_of_row wb _ 0 _ _ _ heb
   have g1 := cell_of_row wb _ 1 _ _ _ heb
   have g2 := cell_of_row wb _ 2 _ _ _ heb
   have g3 := cell_of_row wb _ 3 _ _ _ heb
   have g4 := cell_of_row wb _ 4 _ _ _ heb
   have g5 := cell_of_row wb _ 5 _ _ _ heb
   have g6 := cell_of_row wb _ 6 _ _ _ heb
   have g7 := cell_of_row wb _ 7 _ _ _ heb
   have HC : Kpt (Calls Tryz.prog 29 #[.agg #[.int .i64 0, .string x.e.m, .string x.e.n, .string x.e.tx, .int .i64 0, .slice none 0 0, .slice x.aL x.e.L.length x.cL, .slice none 0 0], .agg #[.int .i64 0, .string ⟨#[]⟩, .string ⟨#[]⟩, .string ⟨#[]⟩, .int .i64 0, .slice none 0 0, .slice none 0 0, .slice none 0 0]] wb fun e W'' => e = .returned (.bool ((restE x.e).eq Xp0)) ∧ Below wb.heap.size wb W'') := hid (by rw [hres]; exact HE.out { e := { k := 0, m := x.e.m, n := x.e.n, tx := x.e.tx, num := 0, T := .nil, L := x.e.L, K := .nil }, aT := none, cT := 0, aL := x.aL, cL := x.cL, aK := none, cK := 0, hk := (rfl : (Lit.int .i64 0).wf = true), hnum := (rfl : (Lit.int .i64 0).wf = true), hT := .inl rfl, hL := x.hL, hK := .inl rfl } (XpI0 w0) (by have h := HX.out; rw [Xp.bk_eq] at h; rw [Xp.bk_eq]; simp only [Tr.enc, Ex.enc, Dt.bk] at h ⊢; have he0 : (⟨#[]⟩ : ByteArray).size = 0 := rfl; omega) wb (HB.out.2.trans (hbb.mono HB.out.2.size)))
   have H2 := hid (HB.out.1.trans (hbb.mono HB.out.1.size))
   clear hres hbb heb hbk
   rw [q0] at m0
   clear q0
   generalize (restE x.e).eq Xp0 = RES at HC ⊢
   go_enter Tryz.func125, Tryz.ntmps125
   go_wp2_with fail
   refine HC.out.mono ?_
   rintro e w4 ⟨rfl, hb4⟩
   have H4 := hid (H2.out.trans (hb4.mono H2.out.size))
   clear hb4
   go_wp2_with fail
   go_ret
   exact ⟨rfl, H4.out⟩
 by_cases q1 : x.e.k = 1
 · have hres : restE x.e = { k := 0, m := x.e.m, n := x.e.n, tx := ⟨#[]⟩, num := x.e.num, T := .nil, L := x.e.L, K := .nil } := by unfold restE; rw [if_neg q0, if_pos q1]
   obtain ⟨wb, hwb⟩ : ∃ wb, wa.alloc (.cells #[.int .i64 0, .string x.e.m, .string x.e.n, .string ⟨#[]⟩, .int .i64 x.e.num, .slice none 0 0, .slice x.aL x.e.L.length x.cL, .slice none 0 0] 29) = wb := ⟨_, rfl⟩
   have hbb : Below wa.heap.size wa wb := by rw [← hwb]; exact (Below.refl _ wa).alloc (Nat.le_refl _) _
   have heb : wb.heap[wa.heap.size]? = some (.cells #[.int .i64 0, .string x.e.m, .string x.e.n, .string ⟨#[]⟩, .int .i64 x.e.num, .slice none 0 0, .slice x.aL x.e.L.length x.cL, .slice none 0 0] 29 (0, 0)) := by rw [← hwb]; exact World.alloc_heap_new _ _
   have g0 := cell_of_row wb _ 0 _ _ _ heb
   have g1 := cell_of_row wb _ 1 _ _ _ heb
   have g2 := cell_of_row wb _ 2 _ _ _ heb
   have g3 := cell_of_row wb _ 3 _ _ _ heb
   have g4 := cell_of_row wb _ 4 _ _ _ heb
   have g5 := cell_of_row wb _ 5 _ _ _ heb
   have g6 := cell_of_row wb _ 6 _ _ _ heb
   have g7 := cell_of_row wb _ 7 _ _ _ heb
   have HC : Kpt (Calls Tryz.prog 29 #[.agg #[.int .i64 0, .string x.e.m, .string x.e.n, .string ⟨#[]⟩, .int .i64 x.e.num, .slice none 0 0, .slice x.aL x.e.L.length x.cL, .slice none 0 0], .agg #[.int .i64 0, .string ⟨#[]⟩, .string ⟨#[]⟩, .string ⟨#[]⟩, .int .i64 0, .slice none 0 0, .slice none 0 0, .slice none 0 0]] wb fun e W'' => e = .returned (.bool ((restE x.e).eq Xp0)) ∧ Below wb.heap.size wb W'') := hid (by rw [hres]; exact HE.out { e := { k := 0, m := x.e.m, n := x.e.n, tx := ⟨#[]⟩, num := x.e.num, T := .nil, L := x.e.L, K := .nil }, aT := none, cT := 0, aL := x.aL, cL := x.cL, aK := none, cK := 0, hk := (rfl : (Lit.int .i64 0).wf = true), hnum := x.hnum, hT := .inl rfl, hL := x.hL, hK := .inl rfl } (XpI0 w0) (by have h := HX.out; rw [Xp.bk_eq] at h; rw [Xp.bk_eq]; simp only [Tr.enc, Ex.enc, Dt.bk] at h ⊢; have he0 : (⟨#[]⟩ : ByteArray).size = 0 := rfl; omega) wb (HB.out.2.trans (hbb.mono HB.out.2.size)))
   have H2 := hid (HB.out.1.trans (hbb.mono HB.out.1.size))
   clear hres hbb heb hbk
   rw [q1] at m0
   clear q1
   generalize (restE x.e).eq Xp0 = RES at HC ⊢
   go_enter Tryz.func125, Tryz.ntmps125
   go_wp2_with fail
   refine HC.out.mono ?_
   rintro e w4 ⟨rfl, hb4⟩
   have H4 := hid (H2.out.trans (hb4.mono H2.out.size))
   clear hb4
   go_wp2_with fail
   go_ret
   exact ⟨rfl, H4.out⟩
 by_cases q2 : x.e.k = 2
 · by_cases qn : x.e.num = 1
   · have hres : restE x.e = { k := 0, m := x.e.m, n := x.e.n, tx := x.e.tx, num := 0, T := .nil, L := x.e.L, K := .nil } := by unfold restE; rw [if_neg q0, if_neg q1, if_pos q2, if_pos qn]
     obtain ⟨wb, hwb⟩ : ∃ wb, wa.alloc (.cells #[.int .i64 0, .string x.e.m, .string x.e.n, .string x.e.tx, .int .i64 0, .slice none 0 0, .slice x.aL x.e.L.length x.cL, .slice none 0 0] 29) = wb := ⟨_, rfl⟩
     have hbb : Below wa.heap.size wa wb := by rw [← hwb]; exact (Below.refl _ wa).alloc (Nat.le_refl _) _
     have heb : wb.heap[wa.heap.size]? = some (.cells #[.int .i64 0, .string x.e.m, .string x.e.n, .string x.e.tx, .int .i64 0, .slice none 0 0, .slice x.aL x.e.L.length x.cL, .slice none 0 0] 29 (0, 0)) := by rw [← hwb]; exact World.alloc_heap_new _ _
     have g0 := cell_of_row wb _ 0 _ _ _ heb
     have g1 := cell_of_row wb _ 1 _ _ _ heb
     have g2 := cell_of_row wb _ 2 _ _ _ heb
     have g3 := cell_of_row wb _ 3 _ _ _ heb
     have g4 := cell_of_row wb _ 4 _ _ _ heb
     have g5 := cell_of_row wb _ 5 _ _ _ heb
     have g6 := cell_of_row wb _ 6 _ _ _ heb
     have g7 := cell_of_row wb _ 7 _ _ _ heb
     have HC : Kpt (Calls Tryz.prog 29 #[.agg #[.int .i64 0, .string x.e.m, .string x.e.n, .string x.e.tx, .int .i64 0, .slice none 0 0, .slice x.aL x.e.L.length x.cL, .slice none 0 0], .agg #[.int .i64 0, .string ⟨#[]⟩, .string ⟨#[]⟩, .string ⟨#[]⟩, .int .i64 0, .slice none 0 0, .slice none 0 0, .slice none 0 0]] wb fun e W'' => e = .returned (.bool ((restE x.e).eq Xp0)) ∧ Below wb.heap.size wb W'') := hid (by rw [hres]; exact HE.out { e := { k := 0, m := x.e.m, n := x.e.n, tx := x.e.tx, num := 0, T := .nil, L := x.e.L, K := .nil }, aT := none, cT := 0, aL := x.aL, cL := x.cL, aK := none, cK := 0, hk := (rfl : (Lit.int .i64 0).wf = true), hnum := (rfl : (Lit.int .i64 0).wf = true), hT := .inl rfl, hL := x.hL, hK := .inl rfl } (XpI0 w0) (by have h := HX.out; rw [Xp.bk_eq] at h; rw [Xp.bk_eq]; simp only [Tr.enc, Ex.enc, Dt.bk] at h ⊢; have he0 : (⟨#[]⟩ : ByteArray).size = 0 := rfl; omega) wb (HB.out.2.trans (hbb.mono HB.out.2.size)))
     have H2 := hid (HB.out.1.trans (hbb.mono HB.out.1.size))
     clear hres hbb heb hbk
     rw [q2] at m0
     replace m4 := m4.trans (by rw [qn]; rfl : _ = some (Value.int .i64 1))
     clear q2 qn
     generalize (restE x.e).eq Xp0 = RES at HC ⊢
     go_enter Tryz.func125, Tryz.ntmps125
     go_wp2_with fail
     refine HC.out.mono ?_
     rintro e w4 ⟨rfl, hb4⟩
     have H4 := hid (H2.out.trans (hb4.mono H2.out.size))
     clear hb4
     go_wp2_with fail
     go_ret
     exact ⟨rfl, H4.out⟩
   · have hres : restE x.e = { k := 0, m := x.e.m, n := x.e.n, tx := x.e.tx, num := x.e.num, T := .nil, L := x.e.L, K := .nil } := by unfold restE; rw [if_neg q0, if_neg q1, if_pos q2, if_neg qn]
     obtain ⟨wb, hwb⟩ : ∃ wb, wa.alloc (.cells #[.int .i64 0, .string x.e.m, .string x.e.n, .string x.e.tx, .int .i64 x.e.num, .slice none 0 0, .slice x.aL x.e.L.length x.cL, .slice none 0 0] 29) = wb := ⟨_, rfl⟩
     have hbb : Below wa.heap.size wa wb := by rw [← hwb]; exact (Below.refl _ wa).alloc (Nat.le_refl _) _
     have heb : wb.heap[wa.heap.size]? = some (.cells #[.int .i64 0, .string x.e.m, .string x.e.n, .string x.e.tx, .int .i64 x.e.num, .slice none 0 0, .slice x.aL x.e.L.length x.cL, .slice none 0 0] 29 (0, 0)) := by rw [← hwb]; exact World.alloc_heap_new _ _
     have g0 := cell_of_row wb _ 0 _ _ _ heb
     have g1 := cell_of_row wb _ 1 _ _ _ heb
     have g2 := cell_of_row wb _ 2 _ _ _ heb
     have g3 := cell_of_row wb _ 3 _ _ _ heb
     have g4 := cell_of_row wb _ 4 _ _ _ heb
     have g5 := cell_of_row wb _ 5 _ _ _ heb
     have g6 := cell_of_row wb _ 6 _ _ _ heb
     have g7 := cell_of_row wb _ 7 _ _ _ heb
     have HC : Kpt (Calls Tryz.prog 29 #[.agg #[.int .i64 0, .string x.e.m, .string x.e.n, .string x.e.tx, .int .i64 x.e.num, .slice none 0 0, .slice x.aL x.e.L.length x.cL, .slice none 0 0], .agg #[.int .i64 0, .string ⟨#[]⟩, .string ⟨#[]⟩, .string ⟨#[]⟩, .int .i64 0, .slice none 0 0, .slice none 0 0, .slice none 0 0]] wb fun e W'' => e = .returned (.bool ((restE x.e).eq Xp0)) ∧ Below wb.heap.size wb W'') := hid (by rw [hres]; exact HE.out { e := { k := 0, m := x.e.m, n := x.e.n, tx := x.e.tx, num := x.e.num, T := .nil, L := x.e.L, K := .nil }, aT := none, cT := 0, aL := x.aL, cL := x.cL, aK := none, cK := 0, hk := (rfl : (Lit.int .i64 0).wf = true), hnum := x.hnum, hT := .inl rfl, hL := x.hL, hK := .inl rfl } (XpI0 w0) (by have h := HX.out; rw [Xp.bk_eq] at h; rw [Xp.bk_eq]; simp only [Tr.enc, Ex.enc, Dt.bk] at h ⊢; have he0 : (⟨#[]⟩ : ByteArray).size = 0 := rfl; omega) wb (HB.out.2.trans (hbb.mono HB.out.2.size)))
     have H2 := hid (HB.out.1.trans (hbb.mono HB.out.1.size))
     clear hres hbb heb hbk
     rw [q2] at m0
     clear q2
     rw [hwb] at m0 m4
     generalize (restE x.e).eq Xp0 = RES at HC ⊢
     go_enter Tryz.func125, Tryz.ntmps125
     go_wp2_with fail
     refine HC.out.mono ?_
     rintro e w4 ⟨rfl, hb4⟩
     have H4 := hid (H2.out.trans (hb4.mono H2.out.size))
     clear hb4
     go_wp2_with fail
     go_ret
     exact ⟨rfl, H4.out⟩
 by_cases q3 : x.e.k = 3
 · have hres : restE x.e = { k := 0, m := x.e.m, n := ⟨#[]⟩, tx := x.e.tx, num := x.e.num, T := .nil, L := x.e.L, K := .nil } := by unfold restE; rw [if_neg q0, if_neg q1, if_neg q2, if_pos (by omega)]
   obtain ⟨wb, hwb⟩ : ∃ wb, wa.alloc (.cells #[.int .i64 0, .string x.e.m, .string ⟨#[]⟩, .string x.e.tx, .int .i64 x.e.num, .slice none 0 0, .slice x.aL x.e.L.length x.cL, .slice none 0 0] 29) = wb := ⟨_, rfl⟩
   have hbb : Below wa.heap.size wa wb := by rw [← hwb]; exact (Below.refl _ wa).alloc (Nat.le_refl _) _
   have heb : wb.heap[wa.heap.size]? = some (.cells #[.int .i64 0, .string x.e.m, .string ⟨#[]⟩, .string x.e.tx, .int .i64 x.e.num, .slice none 0 0, .slice x.aL x.e.L.length x.cL, .slice none 0 0] 29 (0, 0)) := by rw [← hwb]; exact World.alloc_heap_new _ _
   have g0 := cell_of_row wb _ 0 _ _ _ heb
   have g1 := cell_of_row wb _ 1 _ _ _ heb
   have g2 := cell_of_row wb _ 2 _ _ _ heb
   have g3 := cell_of_row wb _ 3 _ _ _ heb
   have g4 := cell_of_row wb _ 4 _ _ _ heb
   have g5 := cell_of_row wb _ 5 _ _ _ heb
   have g6 := cell_of_row wb _ 6 _ _ _ heb
   have g7 := cell_of_row wb _ 7 _ _ _ heb
   have HC : Kpt (Calls Tryz.prog 29 #[.agg #[.int .i64 0, .string x.e.m, .string ⟨#[]⟩, .string x.e.tx, .int .i64 x.e.num, .slice none 0 0, .slice x.aL x.e.L.length x.cL, .slice none 0 0], .agg #[.int .i64 0, .string ⟨#[]⟩, .string ⟨#[]⟩, .string ⟨#[]⟩, .int .i64 0, .slice none 0 0, .slice none 0 0, .slice none 0 0]] wb fun e W'' => e = .returned (.bool ((restE x.e).eq Xp0)) ∧ Below wb.heap.size wb W'') := hid (by rw [hres]; exact HE.out { e := { k := 0, m := x.e.m, n := ⟨#[]⟩, tx := x.e.tx, num := x.e.num, T := .nil, L := x.e.L, K := .nil }, aT := none, cT := 0, aL := x.aL, cL := x.cL, aK := none, cK := 0, hk := (rfl : (Lit.int .i64 0).wf = true), hnum := x.hnum, hT := .inl rfl, hL := x.hL, hK := .inl rfl } (XpI0 w0) (by have h := HX.out; rw [Xp.bk_eq] at h; rw [Xp.bk_eq]; simp only [Tr.enc, Ex.enc, Dt.bk] at h ⊢; have he0 : (⟨#[]⟩ : ByteArray).size = 0 := rfl; omega) wb (HB.out.2.trans (hbb.mono HB.out.2.size)))
   have H2 := hid (HB.out.1.trans (hbb.mono HB.out.1.size))
   clear hres hbb heb hbk
   rw [q3] at m0
   clear q3
   generalize (restE x.e).eq Xp0 = RES at HC ⊢
   go_enter Tryz.func125, Tryz.ntmps125
   go_wp2_with fail
   refine HC.out.mono ?_
   rintro e w4 ⟨rfl, hb4⟩
   have H4 := hid (H2.out.trans (hb4.mono H2.out.size))
   clear hb4
   go_wp2_with fail
   go_ret
   exact ⟨rfl, H4.out⟩
 by_cases q6 : x.e.k = 6
 · have hres : restE x.e = { k := 0, m := x.e.m, n := ⟨#[]⟩, tx := x.e.tx, num := x.e.num, T := .nil, L := x.e.L, K := .nil } := by unfold restE; rw [if_neg q0, if_neg q1, if_neg q2, if_pos (by omega)]
   obtain ⟨wb, hwb⟩ : ∃ wb, wa.alloc (.cells #[.int .i64 0, .string x.e.m, .string ⟨#[]⟩, .string x.e.tx, .int .i64 x.e.num, .slice none 0 0, .slice x.aL x.e.L.length x.cL, .slice none 0 0] 29) = wb := ⟨_, rfl⟩
   have hbb : Below wa.heap.size wa wb := by rw [← hwb]; exact (Below.refl _ wa).alloc (Nat.le_refl _) _
   have heb : wb.heap[wa.heap.size]? = some (.cells #[.int .i64 0, .string x.e.m, .string ⟨#[]⟩, .string x.e.tx, .int .i64 x.e.num, .slice none 0 0, .slice x.aL x.e.L.length x.cL, .slice none 0 0] 29 (0, 0)) := by rw [← hwb]; exact World.alloc_heap_new _ _
   have g0 := cell_of_row wb _ 0 _ _ _ heb
   have g1 := cell_of_row wb _ 1 _ _ _ heb
   have g2 := cell_of_row wb _ 2 _ _ _ heb
   have g3 := cell_of_row wb _ 3 _ _ _ heb
   have g4 := cell_of_row wb _ 4 _ _ _ heb
   have g5 := cell_of_row wb _ 5 _ _ _ heb
   have g6 := cell_of_row wb _ 6 _ _ _ heb
   have g7 := cell_of_row wb _ 7 _ _ _ heb
   have HC : Kpt (Calls Tryz.prog 29 #[.agg #[.int .i64 0, .string x.e.m, .string ⟨#[]⟩, .string x.e.tx, .int .i64 x.e.num, .slice none 0 0, .slice x.aL x.e.L.length x.cL, .slice none 0 0], .agg #[.int .i64 0, .string ⟨#[]⟩, .string ⟨#[]⟩, .string ⟨#[]⟩, .int .i64 0, .slice none 0 0, .slice none 0 0, .slice none 0 0]] wb fun e W'' => e = .returned (.bool ((restE x.e).eq Xp0)) ∧ Below wb.heap.size wb W'') := hid (by rw [hres]; exact HE.out { e := { k := 0, m := x.e.m, n := ⟨#[]⟩, tx := x.e.tx, num := x.e.num, T := .nil, L := x.e.L, K := .nil }, aT := none, cT := 0, aL := x.aL, cL := x.cL, aK := none, cK := 0, hk := (rfl : (Lit.int .i64 0).wf = true), hnum := x.hnum, hT := .inl rfl, hL := x.hL, hK := .inl rfl } (XpI0 w0) (by have h := HX.out; rw [Xp.bk_eq] at h; rw [Xp.bk_eq]; simp only [Tr.enc, Ex.enc, Dt.bk] at h ⊢; have he0 : (⟨#[]⟩ : ByteArray).size = 0 := rfl; omega) wb (HB.out.2.trans (hbb.mono HB.out.2.size)))
   have H2 := hid (HB.out.1.trans (hbb.mono HB.out.1.size))
   clear hres hbb heb hbk
   rw [q6] at m0
   clear q6
   generalize (restE x.e).eq Xp0 = RES at HC ⊢
   go_enter Tryz.func125, Tryz.ntmps125
   go_wp2_with fail
   refine HC.out.mono ?_
   rintro e w4 ⟨rfl, hb4⟩
   have H4 := hid (H2.out.trans (hb4.mono H2.out.size))
   clear hb4
   go_wp2_with fail
   go_ret
   exact ⟨rfl, H4.out⟩
 by_cases q7 : x.e.k = 7
 · have hres : restE x.e = { k := 0, m := x.e.m, n := ⟨#[]⟩, tx := x.e.tx, num := x.e.num, T := .nil, L := x.e.L, K := .nil } := by unfold restE; rw [if_neg q0, if_neg q1, if_neg q2, if_pos (by omega)]
   obtain ⟨wb, hwb⟩ : ∃ wb, wa.alloc (.cells #[.int .i64 0, .string x.e.m, .string ⟨#[]⟩, .string x.e.tx, .int .i64 x.e.num, .slice none 0 0, .slice x.aL x.e.L.length x.cL, .slice none 0 0] 29) = wb := ⟨_, rfl⟩
   have hbb : Below wa.heap.size wa wb := by rw [← hwb]; exact (Below.refl _ wa).alloc (Nat.le_refl _) _
   have heb : wb.heap[wa.heap.size]? = some (.cells #[.int .i64 0, .string x.e.m, .string ⟨#[]⟩, .string x.e.tx, .int .i64 x.e.num, .slice none 0 0, .slice x.aL x.e.L.length x.cL, .slice none 0 0] 29 (0, 0)) := by rw [← hwb]; exact World.alloc_heap_new _ _
   have g0 := cell_of_row wb _ 0 _ _ _ heb
   have g1 := cell_of_row wb _ 1 _ _ _ heb
   have g2 := cell_of_row wb _ 2 _ _ _ heb
   have g3 := cell_of_row wb _ 3 _ _ _ heb
   have g4 := cell_of_row wb _ 4 _ _ _ heb
   have g5 := cell_of_row wb _ 5 _ _ _ heb
   have g6 := cell_of_row wb _ 6 _ _ _ heb
   have g7 := cell_of_row wb _ 7 _ _ _ heb
   have HC : Kpt (Calls Tryz.prog 29 #[.agg #[.int .i64 0, .string x.e.m, .string ⟨#[]⟩, .string x.e.tx, .int .i64 x.e.num, .slice none 0 0, .slice x.aL x.e.L.length x.cL, .slice none 0 0], .agg #[.int .i64 0, .string ⟨#[]⟩, .string ⟨#[]⟩, .string ⟨#[]⟩, .int .i64 0, .slice none 0 0, .slice none 0 0, .slice none 0 0]] wb fun e W'' => e = .returned (.bool ((restE x.e).eq Xp0)) ∧ Below wb.heap.size wb W'') := hid (by rw [hres]; exact HE.out { e := { k := 0, m := x.e.m, n := ⟨#[]⟩, tx := x.e.tx, num := x.e.num, T := .nil, L := x.e.L, K := .nil }, aT := none, cT := 0, aL := x.aL, cL := x.cL, aK := none, cK := 0, hk := (rfl : (Lit.int .i64 0).wf = true), hnum := x.hnum, hT := .inl rfl, hL := x.hL, hK := .inl rfl } (XpI0 w0) (by have h := HX.out; rw [Xp.bk_eq] at h; rw [Xp.bk_eq]; simp only [Tr.enc, Ex.enc, Dt.bk] at h ⊢; have he0 : (⟨#[]⟩ : ByteArray).size = 0 := rfl; omega) wb (HB.out.2.trans (hbb.mono HB.out.2.size)))
   have H2 := hid (HB.out.1.trans (hbb.mono HB.out.1.size))
   clear hres hbb heb hbk
   rw [q7] at m0
   clear q7
   generalize (restE x.e).eq Xp0 = RES at HC ⊢
   go_enter Tryz.func125, Tryz.ntmps125
   go_wp2_with fail
   refine HC.out.mono ?_
   rintro e w4 ⟨rfl, hb4⟩
   have H4 := hid (H2.out.trans (hb4.mono H2.out.size))
   clear hb4
   go_wp2_with fail
   go_ret
   exact ⟨rfl, H4.out⟩
 by_cases q10 : x.e.k = 10
 · have hres : restE x.e = { k := 0, m := x.e.m, n := ⟨#[]⟩, tx := x.e.tx, num := x.e.num, T := .nil, L := x.e.L, K := .nil } := by unfold restE; rw [if_neg q0, if_neg q1, if_neg q2, if_pos (by omega)]
   obtain ⟨wb, hwb⟩ : ∃ wb, wa.alloc (.cells #[.int .i64 0, .string x.e.m, .string ⟨#[]⟩, .string x.e.tx, .int .i64 x.e.num, .slice none 0 0, .slice x.aL x.e.L.length x.cL, .slice none 0 0] 29) = wb := ⟨_, rfl⟩
   have hbb : Below wa.heap.size wa wb := by rw [← hwb]; exact (Below.refl _ wa).alloc (Nat.le_refl _) _
   have heb : wb.heap[wa.heap.size]? = some (.cells #[.int .i64 0, .string x.e.m, .string ⟨#[]⟩, .string x.e.tx, .int .i64 x.e.num, .slice none 0 0, .slice x.aL x.e.L.length x.cL, .slice none 0 0] 29 (0, 0)) := by rw [← hwb]; exact World.alloc_heap_new _ _
   have g0 := cell_of_row wb _ 0 _ _ _ heb
   have g1 := cell_of_row wb _ 1 _ _ _ heb
   have g2 := cell_of_row wb _ 2 _ _ _ heb
   have g3 := cell_of_row wb _ 3 _ _ _ heb
   have g4 := cell_of_row wb _ 4 _ _ _ heb
   have g5 := cell_of_row wb _ 5 _ _ _ heb
   have g6 := cell_of_row wb _ 6 _ _ _ heb
   have g7 := cell_of_row wb _ 7 _ _ _ heb
   have HC : Kpt (Calls Tryz.prog 29 #[.agg #[.int .i64 0, .string x.e.m, .string ⟨#[]⟩, .string x.e.tx, .int .i64 x.e.num, .slice none 0 0, .slice x.aL x.e.L.length x.cL, .slice none 0 0], .agg #[.int .i64 0, .string ⟨#[]⟩, .string ⟨#[]⟩, .string ⟨#[]⟩, .int .i64 0, .slice none 0 0, .slice none 0 0, .slice none 0 0]] wb fun e W'' => e = .returned (.bool ((restE x.e).eq Xp0)) ∧ Below wb.heap.size wb W'') := hid (by rw [hres]; exact HE.out { e := { k := 0, m := x.e.m, n := ⟨#[]⟩, tx := x.e.tx, num := x.e.num, T := .nil, L := x.e.L, K := .nil }, aT := none, cT := 0, aL := x.aL, cL := x.cL, aK := none, cK := 0, hk := (rfl : (Lit.int .i64 0).wf = true), hnum := x.hnum, hT := .inl rfl, hL := x.hL, hK := .inl rfl } (XpI0 w0) (by have h := HX.out; rw [Xp.bk_eq] at h; rw [Xp.bk_eq]; simp only [Tr.enc, Ex.enc, Dt.bk] at h ⊢; have he0 : (⟨#[]⟩ : ByteArray).size = 0 := rfl; omega) wb (HB.out.2.trans (hbb.mono HB.out.2.size)))
   have H2 := hid (HB.out.1.trans (hbb.mono HB.out.1.size))
   clear hres hbb heb hbk
   rw [q10] at m0
   clear q10
   generalize (restE x.e).eq Xp0 = RES at HC ⊢
   go_enter Tryz.func125, Tryz.ntmps125
   go_wp2_with fail
   refine HC.out.mono ?_
   rintro e w4 ⟨rfl, hb4⟩
   have H4 := hid (H2.out.trans (hb4.mono H2.out.size))
   clear hb4
   go_wp2_with fail
   go_ret
   exact ⟨rfl, H4.out⟩
 by_cases q16 : x.e.k = 16
 · have hres : restE x.e = { k := 0, m := x.e.m, n := ⟨#[]⟩, tx := x.e.tx, num := x.e.num, T := .nil, L := x.e.L, K := .nil } := by unfold restE; rw [if_neg q0, if_neg q1, if_neg q2, if_pos (by omega)]
   obtain ⟨wb, hwb⟩ : ∃ wb, wa.alloc (.cells #[.int .i64 0, .string x.e.m, .string ⟨#[]⟩, .string x.e.tx, .int .i64 x.e.num, .slice none 0 0, .slice x.aL x.e.L.length x.cL, .slice none 0 0] 29) = wb := ⟨_, rfl⟩
   have hbb : Below wa.heap.size wa wb := by rw [← hwb]; exact (Below.refl _ wa).alloc (Nat.le_refl _) _
   have heb : wb.heap[wa.heap.size]? = some (.cells #[.int .i64 0, .string x.e.m, .string ⟨#[]⟩, .string x.e.tx, .int .i64 x.e.num, .slice none 0 0, .slice x.aL x.e.L.length x.cL, .slice none 0 0] 29 (0, 0)) := by rw [← hwb]; exact World.alloc_heap_new _ _
   have g0 := cell_of_row wb _ 0 _ _ _ heb
   have g1 := cell_of_row wb _ 1 _ _ _ heb
   have g2 := cell_of_row wb _ 2 _ _ _ heb
   have g3 := cell_of_row wb _ 3 _ _ _ heb
   have g4 := cell_of_row wb _ 4 _ _ _ heb
   have g5 := cell_of_row wb _ 5 _ _ _ heb
   have g6 := cell_of_row wb _ 6 _ _ _ heb
   have g7 := cell_of_row wb _ 7 _ _ _ heb
   have HC : Kpt (Calls Tryz.prog 29 #[.agg #[.int .i64 0, .string x.e.m, .string ⟨#[]⟩, .string x.e.tx, .int .i64 x.e.num, .slice none 0 0, .slice x.aL x.e.L.length x.cL, .slice none 0 0], .agg #[.int .i64 0, .string ⟨#[]⟩, .string ⟨#[]⟩, .string ⟨#[]⟩, .int .i64 0, .slice none 0 0, .slice none 0 0, .slice none 0 0]] wb fun e W'' => e = .returned (.bool ((restE x.e).eq Xp0)) ∧ Below wb.heap.size wb W'') := hid (by rw [hres]; exact HE.out { e := { k := 0, m := x.e.m, n := ⟨#[]⟩, tx := x.e.tx, num := x.e.num, T := .nil, L := x.e.L, K := .nil }, aT := none, cT := 0, aL := x.aL, cL := x.cL, aK := none, cK := 0, hk := (rfl : (Lit.int .i64 0).wf = true), hnum := x.hnum, hT := .inl rfl, hL := x.hL, hK := .inl rfl } (XpI0 w0) (by have h := HX.out; rw [Xp.bk_eq] at h; rw [Xp.bk_eq]; simp only [Tr.enc, Ex.enc, Dt.bk] at h ⊢; have he0 : (⟨#[]⟩ : ByteArray).size = 0 := rfl; omega) wb (HB.out.2.trans (hbb.mono HB.out.2.size)))
   have H2 := hid (HB.out.1.trans (hbb.mono HB.out.1.size))
   clear hres hbb heb hbk
   rw [q16] at m0
   clear q16
   generalize (restE x.e).eq Xp0 = RES at HC ⊢
   go_enter Tryz.func125, Tryz.ntmps125
   go_wp2_with fail
   refine HC.out.mono ?_
   rintro e w4 ⟨rfl, hb4⟩
   have H4 := hid (H2.out.trans (hb4.mono H2.out.size))
   clear hb4
   go_wp2_with fail
   go_ret
   exact ⟨rfl, H4.out⟩
 by_cases q4 : x.e.k = 4
 · have hres : restE x.e = { k := 0, m := ⟨#[]⟩, n := ⟨#[]⟩, tx := x.e.tx, num := x.e.num, T := .nil, L := x.e.L, K := .nil } := by unfold restE; rw [if_neg q0, if_neg q1, if_neg q2, if_neg (by omega), if_pos q4]
   obtain ⟨wb, hwb⟩ : ∃ wb, wa.alloc (.cells #[.int .i64 0, .string ⟨#[]⟩, .string ⟨#[]⟩, .string x.e.tx, .int .i64 x.e.num, .slice none 0 0, .slice x.aL x.e.L.length x.cL, .slice none 0 0] 29) = wb := ⟨_, rfl⟩
   have hbb : Below wa.heap.size wa wb := by rw [← hwb]; exact (Below.refl _ wa).alloc (Nat.le_refl _) _
   have heb : wb.heap[wa.heap.size]? = some (.cells #[.int .i64 0, .string ⟨#[]⟩, .string ⟨#[]⟩, .string x.e.tx, .int .i64 x.e.num, .slice none 0 0, .slice x.aL x.e.L.length x.cL, .slice none 0 0] 29 (0, 0)) := by rw [← hwb]; exact World.alloc_heap_new _ _
   have g0 := cell_of_row wb _ 0 _ _ _ heb
   have g1 := cell_of_row wb _ 1 _ _ _ heb
   have g2 := cell_of_row wb _ 2 _ _ _ heb
   have g3 := cell_of_row wb _ 3 _ _ _ heb
   have g4 := cell_of_row wb _ 4 _ _ _ heb
   have g5 := cell_of_row wb _ 5 _ _ _ heb
   have g6 := cell_of_row wb _ 6 _ _ _ heb
   have g7 := cell_of_row wb _ 7 _ _ _ heb
   have HC : Kpt (Calls Tryz.prog 29 #[.agg #[.int .i64 0, .string ⟨#[]⟩, .string ⟨#[]⟩, .string x.e.tx, .int .i64 x.e.num, .slice none 0 0, .slice x.aL x.e.L.length x.cL, .slice none 0 0], .agg #[.int .i64 0, .string ⟨#[]⟩, .string ⟨#[]⟩, .string ⟨#[]⟩, .int .i64 0, .slice none 0 0, .slice none 0 0, .slice none 0 0]] wb fun e W'' => e = .returned (.bool ((restE x.e).eq Xp0)) ∧ Below wb.heap.size wb W'') := hid (by rw [hres]; exact HE.out { e := { k := 0, m := ⟨#[]⟩, n := ⟨#[]⟩, tx := x.e.tx, num := x.e.num, T := .nil, L := x.e.L, K := .nil }, aT := none, cT := 0, aL := x.aL, cL := x.cL, aK := none, cK := 0, hk := (rfl : (Lit.int .i64 0).wf = true), hnum := x.hnum, hT := .inl rfl, hL := x.hL, hK := .inl rfl } (XpI0 w0) (by have h := HX.out; rw [Xp.bk_eq] at h; rw [Xp.bk_eq]; simp only [Tr.enc, Ex.enc, Dt.bk] at h ⊢; have he0 : (⟨#[]⟩ : ByteArray).size = 0 := rfl; omega) wb (HB.out.2.trans (hbb.mono HB.out.2.size)))
   have H2 := hid (HB.out.1.trans (hbb.mono HB.out.1.size))
   clear hres hbb heb hbk
   rw [q4] at m0
   clear q4
   generalize (restE x.e).eq Xp0 = RES at HC ⊢
   go_enter Tryz.func125, Tryz.ntmps125
   go_wp2_with fail
   refine HC.out.mono ?_
   rintro e w4 ⟨rfl, hb4⟩
   have H4 := hid (H2.out.trans (hb4.mono H2.out.size))
   clear hb4
   go_wp2_with fail
   go_ret
   exact ⟨rfl, H4.out⟩
 by_cases q5 : x.e.k = 5
 · have hres : restE x.e = { k := 0, m := x.e.m, n := x.e.n, tx := x.e.tx, num := x.e.num, T := .nil, L := [], K := .nil } := by unfold restE; rw [if_neg q0, if_neg q1, if_neg q2, if_neg (by omega), if_neg q4, if_pos (by omega)]
   obtain ⟨wb, hwb⟩ : ∃ wb, wa.alloc (.cells #[.int .i64 0, .string x.e.m, .string x.e.n, .string x.e.tx, .int .i64 x.e.num, .slice none 0 0, .slice none 0 0, .slice none 0 0] 29) = wb := ⟨_, rfl⟩
   have hbb : Below wa.heap.size wa wb := by rw [← hwb]; exact (Below.refl _ wa).alloc (Nat.le_refl _) _
   have heb : wb.heap[wa.heap.size]? = some (.cells #[.int .i64 0, .string x.e.m, .string x.e.n, .string x.e.tx, .int .i64 x.e.num, .slice none 0 0, .slice none 0 0, .slice none 0 0] 29 (0, 0)) := by rw [← hwb]; exact World.alloc_heap_new _ _
   have g0 := cell_of_row wb _ 0 _ _ _ heb
   have g1 := cell_of_row wb _ 1 _ _ _ heb
   have g2 := cell_of_row wb _ 2 _ _ _ heb
   have g3 := cell_of_row wb _ 3 _ _ _ heb
   have g4 := cell_of_row wb _ 4 _ _ _ heb
   have g5 := cell_of_row wb _ 5 _ _ _ heb
   have g6 := cell_of_row wb _ 6 _ _ _ heb
   have g7 := cell_of_row wb _ 7 _ _ _ heb
   have HC : Kpt (Calls Tryz.prog 29 #[.agg #[.int .i64 0, .string x.e.m, .string x.e.n, .string x.e.tx, .int .i64 x.e.num, .slice none 0 0, .slice none 0 0, .slice none 0 0], .agg #[.int .i64 0, .string ⟨#[]⟩, .string ⟨#[]⟩, .string ⟨#[]⟩, .int .i64 0, .slice none 0 0, .slice none 0 0, .slice none 0 0]] wb fun e W'' => e = .returned (.bool ((restE x.e).eq Xp0)) ∧ Below wb.heap.size wb W'') := hid (by rw [hres]; exact HE.out { e := { k := 0, m := x.e.m, n := x.e.n, tx := x.e.tx, num := x.e.num, T := .nil, L := [], K := .nil }, aT := none, cT := 0, aL := none, cL := 0, aK := none, cK := 0, hk := (rfl : (Lit.int .i64 0).wf = true), hnum := x.hnum, hT := .inl rfl, hL := .inl rfl, hK := .inl rfl } (XpI0 w0) (by have h := HX.out; rw [Xp.bk_eq] at h; rw [Xp.bk_eq]; simp only [Tr.enc, encLb, Ex.enc, Dt.bk] at h ⊢; have he0 : (⟨#[]⟩ : ByteArray).size = 0 := rfl; omega) wb (HB.out.2.trans (hbb.mono HB.out.2.size)))
   have H2 := hid (HB.out.1.trans (hbb.mono HB.out.1.size))
   clear hres hbb heb hbk
   rw [q5] at m0
   clear q5
   generalize (restE x.e).eq Xp0 = RES at HC ⊢
   go_enter Tryz.func125, Tryz.ntmps125
   go_wp2_with fail
   refine HC.out.mono ?_
   rintro e w4 ⟨rfl, hb4⟩
   have H4 := hid (H2.out.trans (hb4.mono H2.out.size))
   clear hb4
   go_wp2_with fail
   go_ret
   exact ⟨rfl, H4.out⟩
 by_cases q8 : x.e.k = 8
 · have hres : restE x.e = { k := 0, m := x.e.m, n := x.e.n, tx := x.e.tx, num := x.e.num, T := .nil, L := [], K := .nil } := by unfold restE; rw [if_neg q0, if_neg q1, if_neg q2, if_neg (by omega), if_neg q4, if_pos (by omega)]
   obtain ⟨wb, hwb⟩ : ∃ wb, wa.alloc (.cells #[.int .i64 0, .string x.e.m, .string x.e.n, .string x.e.tx, .int .i64 x.e.num, .slice none 0 0, .slice none 0 0, .slice none 0 0] 29) = wb := ⟨_, rfl⟩
   have hbb : Below wa.heap.size wa wb := by rw [← hwb]; exact (Below.refl _ wa).alloc (Nat.le_refl _) _
   have heb : wb.heap[wa.heap.size]? = some (.cells #[.int .i64 0, .string x.e.m, .string x.e.n, .string x.e.tx, .int .i64 x.e.num, .slice none 0 0, .slice none 0 0, .slice none 0 0] 29 (0, 0)) := by rw [← hwb]; exact World.alloc_heap_new _ _
   have g0 := cell_of_row wb _ 0 _ _ _ heb
   have g1 := cell_of_row wb _ 1 _ _ _ heb
   have g2 := cell_of_row wb _ 2 _ _ _ heb
   have g3 := cell_of_row wb _ 3 _ _ _ heb
   have g4 := cell_of_row wb _ 4 _ _ _ heb
   have g5 := cell_of_row wb _ 5 _ _ _ heb
   have g6 := cell_of_row wb _ 6 _ _ _ heb
   have g7 := cell_of_row wb _ 7 _ _ _ heb
   have HC : Kpt (Calls Tryz.prog 29 #[.agg #[.int .i64 0, .string x.e.m, .string x.e.n, .string x.e.tx, .int .i64 x.e.num, .slice none 0 0, .slice none 0 0, .slice none 0 0], .agg #[.int .i64 0, .string ⟨#[]⟩, .string ⟨#[]⟩, .string ⟨#[]⟩, .int .i64 0, .slice none 0 0, .slice none 0 0, .slice none 0 0]] wb fun e W'' => e = .returned (.bool ((restE x.e).eq Xp0)) ∧ Below wb.heap.size wb W'') := hid (by rw [hres]; exact HE.out { e := { k := 0, m := x.e.m, n := x.e.n, tx := x.e.tx, num := x.e.num, T := .nil, L := [], K := .nil }, aT := none, cT := 0, aL := none, cL := 0, aK := none, cK := 0, hk := (rfl : (Lit.int .i64 0).wf = true), hnum := x.hnum, hT := .inl rfl, hL := .inl rfl, hK := .inl rfl } (XpI0 w0) (by have h := HX.out; rw [Xp.bk_eq] at h; rw [Xp.bk_eq]; simp only [Tr.enc, encLb, Ex.enc, Dt.bk] at h ⊢; have he0 : (⟨#[]⟩ : ByteArray).size = 0 := rfl; omega) wb (HB.out.2.trans (hbb.mono HB.out.2.size)))
   have H2 := hid (HB.out.1.trans (hbb.mono HB.out.1.size))
   clear hres hbb heb hbk
   rw [q8] at m0
   clear q8
   generalize (restE x.e).eq Xp0 = RES at HC ⊢
   go_enter Tryz.func125, Tryz.ntmps125
   go_wp2_with fail
   refine HC.out.mono ?_
   rintro e w4 ⟨rfl, hb4⟩
   have H4 := hid (H2.out.trans (hb4.mono H2.out.size))
   clear hb4
   go_wp2_with fail
   go_ret
   exact ⟨rfl, H4.out⟩
 by_cases q9 : x.e.k = 9
 · have hres : restE x.e = { k := 0, m := x.e.m, n := x.e.n, tx := x.e.tx, num := x.e.num, T := .nil, L := [], K := .nil } := by unfold restE; rw [if_neg q0, if_neg q1, if_neg q2, if_neg (by omega), if_neg q4, if_pos (by omega)]
   obtain ⟨wb, hwb⟩ : ∃ wb, wa.alloc (.cells #[.int .i64 0, .string x.e.m, .string x.e.n, .string x.e.tx, .int .i64 x.e.num, .slice none 0 0, .slice none 0 0, .slice none 0 0] 29) = wb := ⟨_, rfl⟩
   have hbb : Below wa.heap.size wa wb := by rw [← hwb]; exact (Below.refl _ wa).alloc (Nat.le_refl _) _
   have heb : wb.heap[wa.heap.size]? = some (.cells #[.int .i64 0, .string x.e.m, .string x.e.n, .string x.e.tx, .int .i64 x.e.num, .slice none 0 0, .slice none 0 0, .slice none 0 0] 29 (0, 0)) := by rw [← hwb]; exact World.alloc_heap_new _ _
   have g0 := cell_of_row wb _ 0 _ _ _ heb
   have g1 := cell_of_row wb _ 1 _ _ _ heb
   have g2 := cell_of_row wb _ 2 _ _ _ heb
   have g3 := cell_of_row wb _ 3 _ _ _ heb
   have g4 := cell_of_row wb _ 4 _ _ _ heb
   have g5 := cell_of_row wb _ 5 _ _ _ heb
   have g6 := cell_of_row wb _ 6 _ _ _ heb
   have g7 := cell_of_row wb _ 7 _ _ _ heb
   have HC : Kpt (Calls Tryz.prog 29 #[.agg #[.int .i64 0, .string x.e.m, .string x.e.n, .string x.e.tx, .int .i64 x.e.num, .slice none 0 0, .slice none 0 0, .slice none 0 0], .agg #[.int .i64 0, .string ⟨#[]⟩, .string ⟨#[]⟩, .string ⟨#[]⟩, .int .i64 0, .slice none 0 0, .slice none 0 0, .slice none 0 0]] wb fun e W'' => e = .returned (.bool ((restE x.e).eq Xp0)) ∧ Below wb.heap.size wb W'') := hid (by rw [hres]; exact HE.out { e := { k := 0, m := x.e.m, n := x.e.n, tx := x.e.tx, num := x.e.num, T := .nil, L := [], K := .nil }, aT := none, cT := 0, aL := none, cL := 0, aK := none, cK := 0, hk := (rfl : (Lit.int .i64 0).wf = true), hnum := x.hnum, hT := .inl rfl, hL := .inl rfl, hK := .inl rfl } (XpI0 w0) (by have h := HX.out; rw [Xp.bk_eq] at h; rw [Xp.bk_eq]; simp only [Tr.enc, encLb, Ex.enc, Dt.bk] at h ⊢; have he0 : (⟨#[]⟩ : ByteArray).size = 0 := rfl; omega) wb (HB.out.2.trans (hbb.mono HB.out.2.size)))
   have H2 := hid (HB.out.1.trans (hbb.mono HB.out.1.size))
   clear hres hbb heb hbk
   rw [q9] at m0
   clear q9
   generalize (restE x.e).eq Xp0 = RES at HC ⊢
   go_enter Tryz.func125, Tryz.ntmps125
   go_wp2_with fail
   refine HC.out.mono ?_
   rintro e w4 ⟨rfl, hb4⟩
   have H4 := hid (H2.out.trans (hb4.mono H2.out.size))
   clear hb4
   go_wp2_with fail
   go_ret
   exact ⟨rfl, H4.out⟩
 by_cases q13 : x.e.k = 13
 · have hres : restE x.e = { k := 0, m := x.e.m, n := x.e.n, tx := x.e.tx, num := x.e.num, T := .nil, L := [], K := .nil } := by unfold restE; rw [if_neg q0, if_neg q1, if_neg q2, if_neg (by omega), if_neg q4, if_pos (by omega)]
   obtain ⟨wb, hwb⟩ : ∃ wb, wa.alloc (.cells #[.int .i64 0, .string x.e.m, .string x.e.n, .string x.e.tx, .int .i64 x.e.num, .slice none 0 0, .slice none 0 0, .slice none 0 0] 29) = wb := ⟨_, rfl⟩
   have hbb : Below wa.heap.size wa wb := by rw [← hwb]; exact (Below.refl _ wa).alloc (Nat.le_refl _) _
   have heb : wb.heap[wa.heap.size]? = some (.cells #[.int .i64 0, .string x.e.m, .string x.e.n, .string x.e.tx, .int .i64 x.e.num, .slice none 0 0, .slice none 0 0, .slice none 0 0] 29 (0, 0)) := by rw [← hwb]; exact World.alloc_heap_new _ _
   have g0 := cell_of_row wb _ 0 _ _ _ heb
   have g1 := cell_of_row wb _ 1 _ _ _ heb
   have g2 := cell_of_row wb _ 2 _ _ _ heb
   have g3 := cell_of_row wb _ 3 _ _ _ heb
   have g4 := cell_of_row wb _ 4 _ _ _ heb
   have g5 := cell_of_row wb _ 5 _ _ _ heb
   have g6 := cell_of_row wb _ 6 _ _ _ heb
   have g7 := cell_of_row wb _ 7 _ _ _ heb
   have HC : Kpt (Calls Tryz.prog 29 #[.agg #[.int .i64 0, .string x.e.m, .string x.e.n, .string x.e.tx, .int .i64 x.e.num, .slice none 0 0, .slice none 0 0, .slice none 0 0], .agg #[.int .i64 0, .string ⟨#[]⟩, .string ⟨#[]⟩, .string ⟨#[]⟩, .int .i64 0, .slice none 0 0, .slice none 0 0, .slice none 0 0]] wb fun e W'' => e = .returned (.bool ((restE x.e).eq Xp0)) ∧ Below wb.heap.size wb W'') := hid (by rw [hres]; exact HE.out { e := { k := 0, m := x.e.m, n := x.e.n, tx := x.e.tx, num := x.e.num, T := .nil, L := [], K := .nil }, aT := none, cT := 0, aL := none, cL := 0, aK := none, cK := 0, hk := (rfl : (Lit.int .i64 0).wf = true), hnum := x.hnum, hT := .inl rfl, hL := .inl rfl, hK := .inl rfl } (XpI0 w0) (by have h := HX.out; rw [Xp.bk_eq] at h; rw [Xp.bk_eq]; simp only [Tr.enc, encLb, Ex.enc, Dt.bk] at h ⊢; have he0 : (⟨#[]⟩ : ByteArray).size = 0 := rfl; omega) wb (HB.out.2.trans (hbb.mono HB.out.2.size)))
   have H2 := hid (HB.out.1.trans (hbb.mono HB.out.1.size))
   clear hres hbb heb hbk
   rw [q13] at m0
   clear q13
   generalize (restE x.e).eq Xp0 = RES at HC ⊢
   go_enter Tryz.func125, Tryz.ntmps125
   go_wp2_with fail
   refine HC.out.mono ?_
   rintro e w4 ⟨rfl, hb4⟩
   have H4 := hid (H2.out.trans (hb4.mono H2.out.size))
   clear hb4
   go_wp2_with fail
   go_ret
   exact ⟨rfl, H4.out⟩
 by_cases q15 : x.e.k = 15
 · have hres : restE x.e = { k := 0, m := x.e.m, n := ⟨#[]⟩, tx := ⟨#[]⟩, num := x.e.num, T := .nil, L := x.e.L, K := .nil } := by unfold restE; rw [if_neg q0, if_neg q1, if_neg q2, if_neg (by omega), if_neg q4, if_neg (by omega), if_pos q15]
   obtain ⟨wb, hwb⟩ : ∃ wb, wa.alloc (.cells #[.int .i64 0, .string x.e.m, .string ⟨#[]⟩, .string ⟨#[]⟩, .int .i64 x.e.num, .slice none 0 0, .slice x.aL x.e.L.length x.cL, .slice none 0 0] 29) = wb := ⟨_, rfl⟩
   have hbb : Below wa.heap.size wa wb := by rw [← hwb]; exact (Below.refl _ wa).alloc (Nat.le_refl _) _
   have heb : wb.heap[wa.heap.size]? = some (.cells #[.int .i64 0, .string x.e.m, .string ⟨#[]⟩, .string ⟨#[]⟩, .int .i64 x.e.num, .slice none 0 0, .slice x.aL x.e.L.length x.cL, .slice none 0 0] 29 (0, 0)) := by rw [← hwb]; exact World.alloc_heap_new _ _
   have g0 := cell_of_row wb _ 0 _ _ _ heb
   have g1 := cell_of_row wb _ 1 _ _ _ heb
   have g2 := cell_of_row wb _ 2 _ _ _ heb
   have g3 := cell_of_row wb _ 3 _ _ _ heb
   have g4 := cell_of_row wb _ 4 _ _ _ heb
   have g5 := cell_of_row wb _ 5 _ _ _ heb
   have g6 := cell_of_row wb _ 6 _ _ _ heb
   have g7 := cell_of_row wb _ 7 _ _ _ heb
   have HC : Kpt (Calls Tryz.prog 29 #[.agg #[.int .i64 0, .string x.e.m, .string ⟨#[]⟩, .string ⟨#[]⟩, .int .i64 x.e.num, .slice none 0 0, .slice x.aL x.e.L.length x.cL, .slice none 0 0], .agg #[.int .i64 0, .string ⟨#[]⟩, .string ⟨#[]⟩, .string ⟨#[]⟩, .int .i64 0, .slice none 0 0, .slice none 0 0, .slice none 0 0]] wb fun e W'' => e = .returned (.bool ((restE x.e).eq Xp0)) ∧ Below wb.heap.size wb W'') := hid (by rw [hres]; exact HE.out { e := { k := 0, m := x.e.m, n := ⟨#[]⟩, tx := ⟨#[]⟩, num := x.e.num, T := .nil, L := x.e.L, K := .nil }, aT := none, cT := 0, aL := x.aL, cL := x.cL, aK := none, cK := 0, hk := (rfl : (Lit.int .i64 0).wf = true), hnum := x.hnum, hT := .inl rfl, hL := x.hL, hK := .inl rfl } (XpI0 w0) (by have h := HX.out; rw [Xp.bk_eq] at h; rw [Xp.bk_eq]; simp only [Tr.enc, Ex.enc, Dt.bk] at h ⊢; have he0 : (⟨#[]⟩ : ByteArray).size = 0 := rfl; omega) wb (HB.out.2.trans (hbb.mono HB.out.2.size)))
   have H2 := hid (HB.out.1.trans (hbb.mono HB.out.1.size))
   clear hres hbb heb hbk
   rw [q15] at m0
   clear q15
   generalize (restE x.e).eq Xp0 = RES at HC ⊢
   go_enter Tryz.func125, Tryz.ntmps125
   go_wp2_with fail
   refine HC.out.mono ?_
   rintro e w4 ⟨rfl, hb4⟩
   have H4 := hid (H2.out.trans (hb4.mono H2.out.size))
   clear hb4
   go_wp2_with fail
   go_ret
   exact ⟨rfl, H4.out⟩
 have hres : restE x.e = { k := 0, m := x.e.m, n := x.e.n, tx := x.e.tx, num := x.e.num, T := .nil, L := x.e.L, K := .nil } := by unfold restE; rw [if_neg q0, if_neg q1, if_neg q2, if_neg (by omega), if_neg q4, if_neg (by omega), if_neg q15]
 obtain ⟨wb, hwb⟩ : ∃ wb, wa.alloc (.cells #[.int .i64 0, .string x.e.m, .string x.e.n, .string x.e.tx, .int .i64 x.e.num, .slice none 0 0, .slice x.aL x.e.L.length x.cL, .slice none 0 0] 29) = wb := ⟨_, rfl⟩
 have hbb : Below wa.heap.size wa wb := by rw [← hwb]; exact (Below.refl _ wa).alloc (Nat.le_refl _) _
 have heb : wb.heap[wa.heap.size]? = some (.cells #[.int .i64 0, .string x.e.m, .string x.e.n, .string x.e.tx, .int .i64 x.e.num, .slice none 0 0, .slice x.aL x.e.L.length x.cL, .slice none 0 0] 29 (0, 0)) := by rw [← hwb]; exact World.alloc_heap_new _ _
 have g0 := cell_of_row wb _ 0 _ _ _ heb
 have g1 := cell_of_row wb _ 1 _ _ _ heb
 have g2 := cell_of_row wb _ 2 _ _ _ heb
 have g3 := cell_of_row wb _ 3 _ _ _ heb
 have g4 := cell_of_row wb _ 4 _ _ _ heb
 have g5 := cell_of_row wb _ 5 _ _ _ heb
 have g6 := cell_of_row wb _ 6 _ _ _ heb
 have g7 := cell_of_row wb _ 7 _ _ _ heb
 have HC : Kpt (Calls Tryz.prog 29 #[.agg #[.int .i64 0, .string x.e.m, .string x.e.n, .string x.e.tx, .int .i64 x.e.num, .slice none 0 0, .slice x.aL x.e.L.length x.cL, .slice none 0 0], .agg #[.int .i64 0, .string ⟨#[]⟩, .string ⟨#[]⟩, .string ⟨#[]⟩, .int .i64 0, .slice none 0 0, .slice none 0 0, .slice none 0 0]] wb fun e W'' => e = .returned (.bool ((restE x.e).eq Xp0)) ∧ Below wb.heap.size wb W'') := hid (by rw [hres]; exact HE.out { e := { k := 0, m := x.e.m, n := x.e.n, tx := x.e.tx, num := x.e.num, T := .nil, L := x.e.L, K := .nil }, aT := none, cT := 0, aL := x.aL, cL := x.cL, aK := none, cK := 0, hk := (rfl : (Lit.int .i64 0).wf = true), hnum := x.hnum, hT := .inl rfl, hL := x.hL, hK := .inl rfl } (XpI0 w0) (by have h := HX.out; rw [Xp.bk_eq] at h; rw [Xp.bk_eq]; simp only [Tr.enc, Ex.enc, Dt.bk] at h ⊢; have he0 : (⟨#[]⟩ : ByteArray).size = 0 := rfl; omega) wb (HB.out.2.trans (hbb.mono HB.out.2.size)))
 have H2 := hid (HB.out.1.trans (hbb.mono HB.out.1.size))
 clear hres hbb heb hbk
 rw [hwb] at m0 m4
 generalize (restE x.e).eq Xp0 = RES at HC ⊢
 go_enter Tryz.func125, Tryz.ntmps125
 go_wp2_with fail
 refine HC.out.mono ?_
 rintro e w4 ⟨rfl, hb4⟩
 have H4 := hid (H2.out.trans (hb4.mono H2.out.size))
 clear hb4
 go_wp2_with fail
 go_ret
 exact ⟨rfl, H4.out⟩
end Go.Proofs.YtnkhebgjhipepaaGreatDoor

namespace Go.Proofs.YtnkhebgjhipepaaGreatDoor
open Go.ChangeShapes Go.WideShapes Go.ChangeAt Go.RowKit

/-- A type's strings are of at most N bytes. -/
def Ty.Up (N : Nat) (t : Ty) : Prop := t.m.size ≤ N ∧ t.n.size ≤ N ∧ ∀ s ∈ namesT t, s.size ≤ N
theorem Ty.Up.mono {N M : Nat} {t : Ty} (h : t.Up N) (hm : N ≤ M) : t.Up M := ⟨Nat.le_trans h.1 hm, Nat.le_trans h.2.1 hm, fun s hs => Nat.le_trans (h.2.2 s hs) hm⟩
theorem Tr.fds_bk (T : Tr) : ∀ q ∈ T.fds, q.1.size ≤ (T.enc true).bk := by
 induction T with
 | nil => intro q hq; cases hq
 | node fn op k m n A F nx ha hf hn =>
  intro q hq
  simp only [Tr.fds, List.mem_cons] at hq
  simp only [Tr.enc, Dt.bk]
  rcases hq with rfl | hq
  · show fn.size ≤ _; omega
  · have := hn q hq; omega
theorem names_bk {k : Int} {m n : ByteArray} {A F : Tr} : ∀ s ∈ namesT ⟨k, m, n, A, F⟩, s.size ≤ (F.enc true).bk := by
 intro s hs
 obtain ⟨q, hq, rfl⟩ := List.mem_map.1 hs
 exact F.fds_bk q hq
theorem Tr.up_nodes (T : Tr) : ∀ fl, ∀ p ∈ T.nodes, p.Up (T.enc fl).bk := by
 induction T with
 | nil => intro fl p hp; cases hp
 | node fn op k m n A F nx ha hf hn =>
  intro fl p hp
  simp only [Tr.nodes, List.mem_cons, List.mem_append] at hp
  have hb : m.size + n.size + (A.enc false).bk + (F.enc true).bk + (nx.enc fl).bk ≤ ((Tr.node fn op k m n A F nx).enc fl).bk := by
   cases fl <;> simp only [Tr.enc, Dt.bk] <;> omega
  rcases hp with rfl | ((h | h) | h)
  · exact ⟨by show m.size ≤ _; omega, by show n.size ≤ _; omega, fun s hs => by have := names_bk s hs; omega⟩
  · exact (ha false p h).mono (by omega)
  · exact (hf true p h).mono (by omega)
  · exact (hn fl p h).mono (by omega)
/-- A type's bulk. -/
def Ty.db (t : Ty) : Nat := (t.on .nil).bk
theorem Ty.on_db (t : Ty) (nx : Dt) : (t.on nx).bk = t.db + nx.bk := by simp only [Ty.db, Ty.on, Dt.bk]; omega
theorem Ty.db_eq (t : Ty) : t.db = t.m.size + t.n.size + (t.A.enc false).bk + (t.F.enc true).bk + 5 := by simp only [Ty.db, Ty.on, Dt.bk]; omega
theorem Ty.up_nodes (t : Ty) : ∀ p ∈ t.nodes, p.Up t.db := by
 intro p hp
 simp only [Ty.nodes, List.mem_cons, List.mem_append] at hp
 have hb := t.db_eq
 rcases hp with rfl | (h | h)
 · exact ⟨by omega, by omega, fun s hs => by have := names_bk s hs; omega⟩
 · exact (t.A.up_nodes false p h).mono (by omega)
 · exact (t.F.up_nodes true p h).mono (by omega)
theorem Ty.sh_nodes (t : Ty) (h : t.db ≤ 1099511627776) : ∀ p ∈ t.nodes, p.Sh := fun p hp => (t.up_nodes p hp).mono (by omega)
theorem Ty.size_db (t : Ty) : t.size ≤ t.db := by have h := t.on_bk .nil; simp only [Ty.db]; omega
theorem Tr.el_db (T : Tr) : ∀ fl, ∀ t ∈ T.els, t.db ≤ (T.enc fl).bk := by
 induction T with
 | nil => intro fl t ht; cases ht
 | node fn op k m n A F nx ha hf hn =>
  intro fl t ht
  simp only [Tr.els, List.mem_cons] at ht
  rcases ht with rfl | ht
  · rw [Ty.db_eq]; cases fl <;> simp only [Tr.enc, Dt.bk] <;> omega
  · have := hn fl t ht; cases fl <;> simp only [Tr.enc, Dt.bk] <;> omega
theorem Ty.part_db {t p : Ty} (h : p ∈ t.parts) : p.db < t.db := by
 have hb := t.db_eq
 rcases List.mem_append.1 h with h | h
 · have := t.A.el_db false p h; omega
 · have := t.F.el_db true p h; omega
theorem Lb.bk_mem : ∀ (L : List Lb) (l : Lb), l ∈ L → l.nm.size + l.vr.size + l.t.db ≤ (encLb L).bk := by
 intro L
 induction L with
 | nil => intro l hl; cases hl
 | cons x r ih =>
  intro l hl
  simp only [encLb, Dt.bk, Ty.on_db]
  rcases List.mem_cons.1 hl with rfl | hl
  · omega
  · have := ih l hl; omega
theorem Xp.ty_db {e : Xp} {t : Ty} (h : t ∈ e.tys) : t.db ≤ e.bk := by
 have hb := e.bk_eq
 rcases List.mem_append.1 h with h | h
 · have := e.T.el_db false t h; omega
 · split at h
   · obtain ⟨l, hl, rfl⟩ := List.mem_map.1 h
     have := Lb.bk_mem _ l hl; omega
   · cases h

section
variable {H : Type} {enc : TypeId × Value → H} {W : World} {base : Nat} {v : Value} {d : DataW H} {p : List MemPlace}
set_option maxRecDepth 100000 in
theorem open_tybA (hval : Value.okWide Tryz.prog W .any base 25 v) (h : DataW.Trod enc Tryz.prog W 0 (fun _ => true) true 25 v d p) : ∃ x : TyI W, v = x.v ∧ x.t.Can ∧ x.t.db ≤ Rows.uptoBulk d := by
 obtain ⟨cs, D, rfl, hr, hc, hb⟩ := open_argD Tryz.underlying25 (by kernel_rfl) hval h
 rw [flTy] at hc
 obtain ⟨t, nx, rfl, hcan, hn⟩ := conf_ty hc
 obtain rfl := conf_nil rfl hn
 obtain ⟨x, r, hx, hv, hr0⟩ := tyI_reads hr
 have hr1 : r = [] := hr0
 subst hr1 hx
 refine ⟨x, ?_, hcan, hb⟩
 show Value.agg cs = .agg x.cells
 rw [← Array.toArray_toList (xs := cs), hv]; rfl
end
end Go.Proofs.YtnkhebgjhipepaaGreatDoor

namespace Go.Proofs.YtnkhebgjhipepaaGreatDoor
open Go.RowKit Go.Shelf

/-- A region that draws its order, whose callees make memory and turn nothing that was there, inside a fence. -/
theorem wpIn_region_later {F : Fence} {n : Nat} {P : Program} {id : Nat} {Q : Exit → Act → World → Prop} {a : Act} {w : World} {l : List Oper} (hro : F.round = none) (hm : P.follows .mixedOrders = true) (hB : Region.lexB .any l.toArray = true)
 (h : wpQuietIn F n P l.toArray (fun w' => ∃ x : Later w, w' = x.now) (fun a' => ∀ w', (∃ x : Later w, w' = x.now) → Q .normal a' w') l a) : (Code.region id l.toArray true).wpIn F n P Q a w :=
 wpIn_region_quiet (C := fun w' => ∃ x : Later w, w' = x.now) hro hm hB ⟨⟨_, (Below.refl _ _).drew⟩, rfl⟩ (by simpa using h)

def namesL (L : List Lb) : List ByteArray := L.map (·.nm)
/-- The error of a node's form. -/
def chkE (e : Xp) : Int :=
 if (decide ((e.T.len : Int) ≠ xTC e.k e.T.len) || decide ((e.K.len : Int) ≠ kidC e.k e.L e.n e.K.len) || !(restE e).eq Xp0 || !e.L.all fun l => (restL e.k l).eq Lb0) = true then 1 else
 if (decide (32 < e.L.length) || decide (8 < e.T.len) || decide (65536 < e.tx.size)) = true then 7 else
 if (!exN e || !allN (namesL e.L)) = true then 4 else
 if ordN (namesL e.L) ≠ 0 then ordN (namesL e.L) else
 if e.k = 15 ∧ e.n = e.tx then 5 else fst0 (e.tys.map chkT)
/-- Where the check's memory lies. -/
structure CkE {w0 : World} (W : World) (x : XpI w0) (V : World) : Prop where
 row : V.heap[W.heap.size]? = some (.cells x.cells 29 (0, 0))
 box : Boxed V (W.heap.size + 1) 40 (.int .i64 0)
 below : Below W.heap.size W V
theorem CkE.later {w0 : World} {W V V' : World} {x : XpI w0} (h : CkE W x V) (hb : Below V.heap.size V V') : CkE W x V' :=
 ⟨(hb.block _ (Array.getElem?_eq_some_iff.1 h.row).1).trans h.row, (hb.block _ h.box.lt).trans h.box, h.below.trans (hb.mono h.below.size)⟩
theorem CkE.set {w0 : World} {W V : World} {x : XpI w0} (h : CkE W x V) (r : Int) : (V.setCell ⟨W.heap.size + 1, 0, none⟩ (.int .i64 r)).cell? ⟨W.heap.size + 1, 0, none⟩ = some (.int .i64 r) ∧ Below W.heap.size W (V.setCell ⟨W.heap.size + 1, 0, none⟩ (.int .i64 r)) :=
 ⟨(h.box.set (.int .i64 r)).cell, h.below.trans (below_set _ _ (by omega))⟩
theorem wide_fn (f : FuncId) : Fence.wide.fn f = True := rfl
attribute [local go_sem] Oper.semAt_some wide_fn
set_option maxRecDepth 100000 in
set_option maxHeartbeats 16000000 in
theorem checkexprnode_any {w0 : World} (x : XpI w0) (W : World) (hW : Below w0.heap.size w0 W) (hbig : x.e.bk ≤ 1099511627776) (hE : Env W) :
 Calls Tryz.prog 70 #[.agg #[.int .i64 x.e.k, .string x.e.m, .string x.e.n, .string x.e.tx, .int .i64 x.e.num, .slice x.aT x.e.T.len x.cT, .slice x.aL x.e.L.length x.cL, .slice x.aK x.e.K.len x.cK]] W fun e W' => e = .returned (.int .i64 (chkE x.e)) ∧ Below W.heap.size W W' := by
 obtain ⟨i0, hi, hz0, hz1, hz2⟩ := info_parts infoStr2
 obtain ⟨wa, hwa⟩ : ∃ wa, W.alloc (.cells #[.int .i64 x.e.k, .string x.e.m, .string x.e.n, .string x.e.tx, .int .i64 x.e.num, .slice x.aT x.e.T.len x.cT, .slice x.aL x.e.L.length x.cL, .slice x.aK x.e.K.len x.cK] 29) = wa := ⟨_, rfl⟩
 obtain ⟨wc, hwc⟩ : ∃ wc, wa.alloc (.cells #[.int .i64 0] 40) = wc := ⟨_, rfl⟩
 have hbk := x.e.bk_eq
 have hlL : x.e.L.length ≤ 1099511627776 := by have := Lb.len_bk x.e.L; omega
 have hlT : x.e.T.len ≤ 1099511627776 := by have := Tr.len_le x.e.T; have := x.e.T.size_enc false; omega
 have hlK : x.e.K.len ≤ 1099511627776 := by have := Ex.len_bk x.e.K; omega
 have hlX : x.e.tx.size ≤ 1099511627776 := by omega
 have hba : Below W.heap.size W wa := by rw [← hwa]; exact (Below.refl _ W).alloc (Nat.le_refl _) _
 have hsa : wa.heap.size = W.heap.size + 1 := by rw [← hwa]; simp
 have hsc : wc.heap.size = W.heap.size + 1 + 1 := by rw [← hwc]; simp [hsa]
 have hea : wa.heap[W.heap.size]? = some (.cells #[.int .i64 x.e.k, .string x.e.m, .string x.e.n, .string x.e.tx, .int .i64 x.e.num, .slice x.aT x.e.T.len x.cT, .slice x.aL x.e.L.length x.cL, .slice x.aK x.e.K.len x.cK] 29 (0, 0)) := by rw [← hwa]; exact World.alloc_heap_new _ _
 have hbc : Below wa.heap.size wa wc := by rw [← hwc]; exact (Below.refl _ wa).alloc (Nat.le_refl _) _
 have hec := (hbc.block _ (by omega)).trans hea
 have h2c : Boxed wc (W.heap.size + 1) 40 (.int .i64 0) := by rw [← hwc, ← hsa]; exact Boxed.new _ _ _
 have HC : Kpt (CkE W x wc) := hid ⟨hec, h2c, hba.trans (hbc.mono hba.size)⟩
 have HW := hid (And.intro hW (And.intro hbig hE))
 have k6 := cell_of_row wc _ 6 _ _ _ hec
 clear hba hea hbc hec h2c hW hE hbk hbig
 refine (callsIn_wide (n := 9)).1 ?_
 refine callsIn_of_wp_marks Tryz.func70 rfl trivial ?_ rfl
 simp only [Tryz.ntmps70, List.size_toArray, List.length_cons, List.length_nil, Nat.reduceAdd, Nat.reduceSub, Array.replicate_succ, Array.replicate_zero, List.push_toArray, List.append_toArray, List.nil_append, List.cons_append]
 gi_wp2_with (gi_at_make; refine wpListIn_make_own _ rfl _ _ 49 rfl (W.heap.size + 1 + 1) 9 i0 (.string ByteArray.empty) 1 Tryz.underlying49 hi hz0 hz1 _ _ _ x.e.L.length rfl rfl (by omega) ?b2 ?b3 ?b4 ?_)
 case b2 => rw [hz2]; omega
 case b3 => unfold maxLen; omega
 case b4 => omega
 intro w1 hown hgr
 have hb1 : Below wc.heap.size wc w1 := ⟨hgr.os, hgr.tape, hgr.output, hgr.size, fun i hi => hgr.block i hi (by simp)⟩
 have k66 := old_cell hb1 k6
 have H1 := hid (And.intro hown hb1)
 clear hgr hown hb1 hwa hwc k6
 gi_wp2_with fail
 clear k66
 gi_loopw [3, 16] (fun q a wr => ∃ (i : Nat) (p : Option Addr) (c : Nat), a = .int .i64 (i : Int) ∧ i ≤ x.e.L.length ∧ q = .slice p i c ∧ wr.ownsRow (W.heap.size + 1 + 1) 9 1 (.slice p i c) i (((namesL x.e.L).take i).map Value.string) ∧ Below (W.heap.size + 1 + 1) wc wr) (fun _ a _ => x.e.L.length - (intOf a).toNat)
 case atStart => exact ⟨0, _, _, rfl, Nat.zero_le _, rfl, H1.out.1, by rw [← hsc]; exact H1.out.2⟩
 case round =>
  clear H1
  obtain ⟨i, p, c, rfl, hi9, rfl, hrow, hB⟩ := hrel
  have HN := hid (And.intro hrow hB)
  have hwrs := hB.size
  clear hrow hB
  by_cases hlt : i < x.e.L.length
  · obtain ⟨bf, of, lx, y, haf, hlx, hyt, d0, d1, d2, d3, d4, d5, d6, d7⟩ := lies_lb x.e.L x.aL i 0 (by rw [Nat.zero_mul]; exact rowD_zero (m := 1) x.hL) hlt
    simp only [Nat.zero_add] at d0 d1 d2 d3 d4 d5 d6 d7
    have hWr := HW.out.1.trans ((HC.out.below.trans (HN.out.2.mono (by omega))).mono HW.out.1.size)
    have d0 := old_cell hWr d0
    have d1 := old_cell hWr d1
    have d2 := old_cell hWr d2
    have d3 := old_cell hWr d3
    have d4 := old_cell hWr d4
    have d5 := old_cell hWr d5
    have d6 := old_cell hWr d6
    have d7 := old_cell hWr d7
    have hsn : (namesL x.e.L).take (i + 1) = (namesL x.e.L).take i ++ [lx.nm] := by
     unfold namesL
     exact take_snoc (by rw [List.getElem?_map, hlx]; rfl)
    obtain ⟨wb, hwb⟩ : ∃ wb, wr.alloc (.cells #[.string lx.nm, .string lx.vr, .int .i64 y.t.k, .string y.t.m, .string y.t.n, .slice y.aa y.t.A.len y.ca, .slice y.af y.t.F.len y.cf, .bool lx.op] 102) = wb := ⟨_, rfl⟩
    have hbb : Below wr.heap.size wr wb := by rw [← hwb]; exact (Below.refl _ wr).alloc (Nat.le_refl _) _
    have heb : wb.heap[wr.heap.size]? = some (.cells #[.string lx.nm, .string lx.vr, .int .i64 y.t.k, .string y.t.m, .string y.t.n, .slice y.aa y.t.A.len y.ca, .slice y.af y.t.F.len y.cf, .bool lx.op] 102 (0, 0)) := by rw [← hwb]; exact World.alloc_heap_new _ _
    have e0 := cell_of_row wb _ 0 _ _ _ heb
    have hBb : Below (W.heap.size + 1 + 1) wc wb := HN.out.2.trans (hbb.mono (by omega))
    have hob := own_belowS HN.out.1 hbb
    have hsb := hBb.size
    have HS := hid (And.intro hsn (And.intro hob hBb))
    clear hsn hyt hlx hWr heb hbb hob hBb
    rw [haf]
    gi_wp2_with (gi_at_builtin; refine wpListIn_append_own _ rfl _ _ 49 rfl (W.heap.size + 1 + 1) 9 i0 _ 1 16 Tryz.underlying49 hi hz0 hz1 hz2 rfl (by decide) _ _ _ rfl (HS.out.2.1.alloc _) ⟨wb.heap.size, 0, none⟩ 1 1 [.string lx.nm] rfl rfl (cell_one_new _ _ _) (by simp [Value.oneCell']) (by unfold maxLen; omega) (by omega) (alloc_le (by omega) _) ?_; intro v' w3 hown3 hgrow3 _; obtain ⟨g', cap', rfl⟩ := ownsRow_succ hown3; have hgrow4 : World.grownBy _ w3 (Value.ownBlock (.slice p i c)) := hgrow3; have K3 := hid (And.intro hown3 hgrow4); clear hown3 hgrow3 hgrow4)
    go_roundw
    case rel => exact ⟨i + 1, _, _, by go_num, by omega, rfl, by rw [HS.out.1, List.map_append]; exact K3.out.1, Below.grown (HS.out.2.2.alloc (by omega) _) K3.out.2 (alloc_le (by omega) _) (own_base HS.out.2.1)⟩
    case measure => simp [intOf]; omega
  · obtain rfl : i = x.e.L.length := by omega
    have hnl : (namesL x.e.L).length = x.e.L.length := by unfold namesL; rw [List.length_map]
    have hrow : wr.ownsRow (W.heap.size + 1 + 1) 9 1 (.slice p x.e.L.length c) x.e.L.length ((namesL x.e.L).map Value.string) := by
     have h := HN.out.1
     rwa [List.take_of_length_le (by omega)] at h
    have hRS := rowS_own hnl hrow
    have HK : Kpt (CkE W x wr) := hid (HC.out.later (by rw [hsc]; exact HN.out.2))
    have hold : ∀ X : Later wr, Below w0.heap.size w0 X.now := fun X => HW.out.1.trans ((HK.out.later X.since).below.mono HW.out.1.size)
    have l0 : ∀ X : Later wr, X.now.cell? ⟨W.heap.size, 0, none⟩ = some (.int .i64 x.e.k) := fun X => cell_of_row X.now _ 0 _ _ _ (HK.out.later X.since).row
    have l1 : ∀ X : Later wr, X.now.cell? ⟨W.heap.size, 1, none⟩ = some (.string x.e.m) := fun X => cell_of_row X.now _ 1 _ _ _ (HK.out.later X.since).row
    have l2 : ∀ X : Later wr, X.now.cell? ⟨W.heap.size, 2, none⟩ = some (.string x.e.n) := fun X => cell_of_row X.now _ 2 _ _ _ (HK.out.later X.since).row
    have l3 : ∀ X : Later wr, X.now.cell? ⟨W.heap.size, 3, none⟩ = some (.string x.e.tx) := fun X => cell_of_row X.now _ 3 _ _ _ (HK.out.later X.since).row
    have l4 : ∀ X : Later wr, X.now.cell? ⟨W.heap.size, 4, none⟩ = some (.int .i64 x.e.num) := fun X => cell_of_row X.now _ 4 _ _ _ (HK.out.later X.since).row
    have l5 : ∀ X : Later wr, X.now.cell? ⟨W.heap.size, 5, none⟩ = some (.slice x.aT x.e.T.len x.cT) := fun X => cell_of_row X.now _ 5 _ _ _ (HK.out.later X.since).row
    have l6 : ∀ X : Later wr, X.now.cell? ⟨W.heap.size, 6, none⟩ = some (.slice x.aL x.e.L.length x.cL) := fun X => cell_of_row X.now _ 6 _ _ _ (HK.out.later X.since).row
    have l7 : ∀ X : Later wr, X.now.cell? ⟨W.heap.size, 7, none⟩ = some (.slice x.aK x.e.K.len x.cK) := fun X => cell_of_row X.now _ 7 _ _ _ (HK.out.later X.since).row
    have hta : ∀ X : Later wr, Calls Tryz.prog 123 #[.agg #[.int .i64 x.e.k, .string x.e.m, .string x.e.n, .string x.e.tx, .int .i64 x.e.num, .slice x.aT x.e.T.len x.cT, .slice x.aL x.e.L.length x.cL, .slice x.aK x.e.K.len x.cK]] X.now fun e w'' => e = .returned (.int .i64 (xTC x.e.k x.e.T.len)) ∧ ∃ y : Later wr, w'' = y.now := fun X =>
     Calls.later_of (tcount_any _ _ _ _ _ _ _ _ _ _ _ _ _ _ X.now)
    have hka : ∀ X : Later wr, Calls Tryz.prog 124 #[.agg #[.int .i64 x.e.k, .string x.e.m, .string x.e.n, .string x.e.tx, .int .i64 x.e.num, .slice x.aT x.e.T.len x.cT, .slice x.aL x.e.L.length x.cL, .slice x.aK x.e.K.len x.cK]] X.now fun e w'' => e = .returned (.int .i64 (kidC x.e.k x.e.L x.e.n x.e.K.len)) ∧ ∃ y : Later wr, w'' = y.now := fun X =>
     Calls.later_of (kidcount_any x hlL X.now (hold X))
    have hep : ∀ X : Later wr, Calls Tryz.prog 125 #[.agg #[.int .i64 x.e.k, .string x.e.m, .string x.e.n, .string x.e.tx, .int .i64 x.e.num, .slice x.aT x.e.T.len x.cT, .slice x.aL x.e.L.length x.cL, .slice x.aK x.e.K.len x.cK]] X.now fun e w'' => e = .returned (.bool ((restE x.e).eq Xp0)) ∧ ∃ y : Later wr, w'' = y.now := fun X =>
     Calls.later_of (exprparts_any x HW.out.2.1 X.now (hold X))
    have hlp : ∀ X : Later wr, Calls Tryz.prog 126 #[.agg #[.int .i64 x.e.k, .string x.e.m, .string x.e.n, .string x.e.tx, .int .i64 x.e.num, .slice x.aT x.e.T.len x.cT, .slice x.aL x.e.L.length x.cL, .slice x.aK x.e.K.len x.cK]] X.now fun e w'' => e = .returned (.bool (x.e.L.all fun l => (restL x.e.k l).eq Lb0)) ∧ ∃ y : Later wr, w'' = y.now := fun X =>
     Calls.later_of (labelparts_any x hlL (fun l hl => by have := Lb.bk_mem _ l hl; have := l.t.size_db; have := x.e.bk_eq; have := HW.out.2.1; omega) X.now (hold X))
    have hres : chkE x.e = if (decide ((x.e.T.len : Int) ≠ xTC x.e.k x.e.T.len) || decide ((x.e.K.len : Int) ≠ kidC x.e.k x.e.L x.e.n x.e.K.len) || !(restE x.e).eq Xp0 || !x.e.L.all fun l => (restL x.e.k l).eq Lb0) = true then 1 else
     if (decide (32 < x.e.L.length) || decide (8 < x.e.T.len) || decide (65536 < x.e.tx.size)) = true then 7 else
     if (!exN x.e || !allN (namesL x.e.L)) = true then 4 else if ordN (namesL x.e.L) ≠ 0 then ordN (namesL x.e.L) else if x.e.k = 15 ∧ x.e.n = x.e.tx then 5 else fst0 (x.e.tys.map chkT) := rfl
    have HTA := hid hta
    have HKA := hid hka
    have HEP := hid hep
    have HLP := hid hlp
    have HRS := hid (And.intro hRS hnl)
    have HRES := hid hres
    clear hta hka hep hlp hRS hnl hres hrow HN hold HC hi hz0 hz1 hz2 hsc hwrs
    generalize xTC x.e.k x.e.T.len = ta at HTA HRES
    generalize kidC x.e.k x.e.L x.e.n x.e.K.len = ka at HKA HRES
    generalize (restE x.e).eq Xp0 = ep at HEP HRES
    generalize (x.e.L.all fun l => (restL x.e.k l).eq Lb0) = lp at HLP HRES
    by_cases hne : (x.e.T.len : Int) = ta
    · by_cases hnk : (x.e.K.len : Int) = ka
      · cases ep with
        | false =>
         have HQ := hid (show chkE x.e = 1 by rw [HRES.out, if_pos (by simp)])
         clear HRES
         gi_wp2_with fail
         refine wpIn_region_later rfl (by kernel_rfl) (by kernel_rfl) ?_
         repeat (gi_big_quiet_step (first | (gi_at_call 123; with_reducible exact callsIn_wide.2 (HTA.out _)) | (gi_at_call 124; with_reducible exact callsIn_wide.2 (HKA.out _)) | (gi_at_call 125; with_reducible exact callsIn_wide.2 (HEP.out _)) | (gi_at_call 126; with_reducible exact callsIn_wide.2 (HLP.out _))))
         refine wpQuietIn_nil ?_
         intro _ hw'
         obtain ⟨X, hX⟩ := hw'
         subst hX
         have H := hid (HK.out.later X.since)
         have g0 := H.out.box.cell
         have g1 := H.out.box.frozen
         have HSET := hid (H.out.set 1)
         have m0 := HSET.out.1
         gi_wp2_with fail
         refine ⟨_, by simp [results, Tryz.results70, go_sem, m0]; rfl, by rw [HQ.out], HSET.out.2⟩
        | true =>
         cases lp with
         | false =>
          have HQ := hid (show chkE x.e = 1 by rw [HRES.out, if_pos (by simp)])
          clear HRES
          gi_wp2_with fail
          refine wpIn_region_later rfl (by kernel_rfl) (by kernel_rfl) ?_
          repeat (gi_big_quiet_step (first | (gi_at_call 123; with_reducible exact callsIn_wide.2 (HTA.out _)) | (gi_at_call 124; with_reducible exact callsIn_wide.2 (HKA.out _)) | (gi_at_call 125; with_reducible exact callsIn_wide.2 (HEP.out _)) | (gi_at_call 126; with_reducible exact callsIn_wide.2 (HLP.out _))))
          refine wpQuietIn_nil ?_
          intro _ hw'
          obtain ⟨X, hX⟩ := hw'
          subst hX
          have H := hid (HK.out.later X.since)
          have g0 := H.out.box.cell
          have g1 := H.out.box.frozen
          have HSET := hid (H.out.set 1)
          have m0 := HSET.out.1
          gi_wp2_with fail
          refine ⟨_, by simp [results, Tryz.results70, go_sem, m0]; rfl, by rw [HQ.out], HSET.out.2⟩
         | true =>
          have hres : chkE x.e = if (decide (32 < x.e.L.length) || decide (8 < x.e.T.len) || decide (65536 < x.e.tx.size)) = true then 7 else
           if (!exN x.e || !allN (namesL x.e.L)) = true then 4 else if ordN (namesL x.e.L) ≠ 0 then ordN (namesL x.e.L) else if x.e.k = 15 ∧ x.e.n = x.e.tx then 5 else fst0 (x.e.tys.map chkT) := by rw [HRES.out, if_neg (by simp [hne, hnk])]
          clear HRES
          gi_wp2_with fail
          refine wpIn_region_later rfl (by kernel_rfl) (by kernel_rfl) ?_
          repeat (gi_big_quiet_step (first | (gi_at_call 123; with_reducible exact callsIn_wide.2 (HTA.out _)) | (gi_at_call 124; with_reducible exact callsIn_wide.2 (HKA.out _)) | (gi_at_call 125; with_reducible exact callsIn_wide.2 (HEP.out _)) | (gi_at_call 126; with_reducible exact callsIn_wide.2 (HLP.out _))))
          refine wpQuietIn_nil ?_
          intro _ hw'
          obtain ⟨X, hX⟩ := hw'
          subst hX
          have H := hid (HK.out.later X.since)
          have c0 := l0 X
          have c1 := l1 X
          have c2 := l2 X
          have c3 := l3 X
          have c4 := l4 X
          have c5 := l5 X
          have c6 := l6 X
          have c7 := l7 X
          clear l0 l1 l2 l3 l4 l5 l6 l7 HTA HKA HEP HLP
          by_cases h32 : x.e.L.length ≤ 32
          · by_cases h8 : x.e.T.len ≤ 8
            · by_cases htx : x.e.tx.size ≤ 65536
              · have hres : chkE x.e = if (!exN x.e || !allN (namesL x.e.L)) = true then 4 else if ordN (namesL x.e.L) ≠ 0 then ordN (namesL x.e.L) else if x.e.k = 15 ∧ x.e.n = x.e.tx then 5 else fst0 (x.e.tys.map chkT) := by rw [hres, if_neg (by simp; omega)]
                have hbk := x.e.bk_eq
                have hbig := HW.out.2.1
                have hE := HW.out.2.2.below H.out.below
                have hold := HW.out.1.trans (H.out.below.mono HW.out.1.size)
                have HEN := hid (exnames_any x hlL ⟨by omega, by omega, by omega, fun l hl => by have := Lb.bk_mem _ l hl; omega⟩ X.now hold hE)
                have HRES := hid hres
                clear hbk hbig hE hold hres
                generalize exN x.e = en at HEN HRES
                cases en with
                | false =>
                 have HQ := hid (show chkE x.e = 4 by rw [HRES.out, if_pos (by simp)])
                 clear HRES
                 gi_wp2_with fail
                 first | refine ⟨trivial, callsIn_wide.2 (HEN.out.mono ?_)⟩ | refine callsIn_wide.2 (HEN.out.mono ?_)
                 rintro e w5 ⟨rfl, hb5⟩
                 have H5 := hid (H.out.later hb5)
                 clear hb5
                 have g0 := H5.out.box.cell
                 have g1 := H5.out.box.frozen
                 have HSET := hid (H5.out.set 4)
                 have m0 := HSET.out.1
                 gi_wp2_with fail
                 try (refine ⟨trivial, ?_⟩; gi_wp2_with fail)
                 refine ⟨_, by simp [results, Tryz.results70, go_sem, m0]; rfl, by rw [HQ.out], HSET.out.2⟩
                | true =>
                 gi_wp2_with fail
                 first | refine ⟨trivial, callsIn_wide.2 (HEN.out.mono ?_)⟩ | refine callsIn_wide.2 (HEN.out.mono ?_)
                 rintro e w5 ⟨rfl, hb5⟩
                 have H5 := hid (H.out.later hb5)
                 have hb5' := X.since.trans (hb5.mono X.since.size)
                 have han := allnames_any wr (namesL x.e.L) p c w5 HRS.out.1 hb5' (by rw [HRS.out.2]; exact hlL) (fun s hs => by obtain ⟨l, hl, rfl⟩ := List.mem_map.1 hs; have := Lb.bk_mem _ l hl; have := x.e.bk_eq; have := HW.out.2.1; omega)
                 have hor := order_any wr (namesL x.e.L) p c w5 HRS.out.1 hb5' (by rw [HRS.out.2]; exact hlL)
                 rw [HRS.out.2] at han hor
                 have HAN := hid han
                 have HOR := hid hor
                 clear hb5' han hor
                 have c0 := old_cell hb5 c0
                 have c1 := old_cell hb5 c1
                 have c2 := old_cell hb5 c2
                 have c3 := old_cell hb5 c3
                 have c4 := old_cell hb5 c4
                 have c5 := old_cell hb5 c5
                 have c6 := old_cell hb5 c6
                 have c7 := old_cell hb5 c7
                 clear hb5
                 generalize allN (namesL x.e.L) = an at HAN HRES
                 cases an with
                 | false =>
                  have HQ := hid (show chkE x.e = 4 by rw [HRES.out, if_pos (by simp)])
                  clear HRES
                  gi_wp2_with fail
                  first | refine ⟨trivial, callsIn_wide.2 (HAN.out.mono ?_)⟩ | refine callsIn_wide.2 (HAN.out.mono ?_)
                  rintro e w6 ⟨rfl, rfl⟩
                  have g0 := H5.out.box.cell
                  have g1 := H5.out.box.frozen
                  have HSET := hid (H5.out.set 4)
                  have m0 := HSET.out.1
                  gi_wp2_with fail
                  refine ⟨_, by simp [results, Tryz.results70, go_sem, m0]; rfl, by rw [HQ.out], HSET.out.2⟩
                 | true =>
                  have hres : chkE x.e = if ordN (namesL x.e.L) ≠ 0 then ordN (namesL x.e.L) else if x.e.k = 15 ∧ x.e.n = x.e.tx then 5 else fst0 (x.e.tys.map chkT) := by rw [HRES.out, if_neg (by simp)]
                  clear HRES
                  gi_wp2_with fail
                  first | refine ⟨trivial, callsIn_wide.2 (HAN.out.mono ?_)⟩ | refine callsIn_wide.2 (HAN.out.mono ?_)
                  rintro e w6 ⟨rfl, rfl⟩
                  have HRES := hid hres
                  clear hres
                  gi_wp2_with fail
                  first | refine ⟨trivial, callsIn_wide.2 (HOR.out.mono ?_)⟩ | refine callsIn_wide.2 (HOR.out.mono ?_)
                  rintro e w7 ⟨rfl, hb7⟩
                  have H7 := hid (H5.out.later hb7)
                  have c0 := old_cell hb7 c0
                  have c1 := old_cell hb7 c1
                  have c2 := old_cell hb7 c2
                  have c3 := old_cell hb7 c3
                  have c4 := old_cell hb7 c4
                  have c5 := old_cell hb7 c5
                  have c6 := old_cell hb7 c6
                  have c7 := old_cell hb7 c7
                  clear hb7 HOR HAN
                  generalize ordN (namesL x.e.L) = od at HRES
                  by_cases hod : od = 0
                  · subst hod
                    by_cases hft : x.e.k = 15 ∧ x.e.n = x.e.tx
                    · have HQ := hid (show chkE x.e = 5 by rw [HRES.out, if_neg (by simp), if_pos hft])
                      obtain ⟨hk15, hnt⟩ := hft
                      rw [hk15] at c0
                      rw [hnt] at c2
                      clear HRES hk15 hnt
                      have g0 := H7.out.box.cell
                      have g1 := H7.out.box.frozen
                      have HSET := hid (H7.out.set 5)
                      have m0 := HSET.out.1
                      gi_wp2_with fail
                      refine ⟨_, by simp [results, Tryz.results70, go_sem, m0]; rfl, by rw [HQ.out], HSET.out.2⟩
                    · have HQ := hid (show chkE x.e = fst0 (x.e.tys.map chkT) by rw [HRES.out, if_neg (by simp), if_neg hft])
                      clear HRES
                      have HTy : Kpt (∀ w, Calls Tryz.prog 102 #[.agg #[.int .i64 x.e.k, .string x.e.m, .string x.e.n, .string x.e.tx, .int .i64 x.e.num, .slice x.aT x.e.T.len x.cT, .slice x.aL x.e.L.length x.cL, .slice x.aK x.e.K.len x.cK]] w _) := hid (exprTypes_any x)
                      by_cases hk15 : x.e.k = 15
                      · have hnt : x.e.n ≠ x.e.tx := fun h => hft ⟨hk15, h⟩
                        have hnt2 := toList_ne hnt
                        rw [hk15] at c0 HTy
                        clear hk15 hft
                        gi_wp2_with fail
                        first | refine ⟨trivial, callsIn_wide.2 ((HTy.out _).mono ?_)⟩ | refine callsIn_wide.2 ((HTy.out _).mono ?_)
                        rintro e W9 ⟨rfl, hW9'⟩
                        have HW9 := hid hW9'
                        clear hW9'
                        gi_wp2_with fail
                        have hW9 := HW9.out
                        have hb9 : Below w7.heap.size w7 W9 := by rw [hW9]; exact (Below.refl _ w7).alloc (Nat.le_refl _) _
                        have hx9 : W9.heap[w7.heap.size]? = some (.cells x.cells 29 (0, 0)) := by rw [hW9]; exact World.alloc_heap_new _ _
                        have hs9 : W9.heap.size = w7.heap.size + 1 := by rw [hW9]; simp
                        have H9 := hid (H7.out.later hb9)
                        have hlt7 := H7.out.box.lt
                        have hw0 := HW.out.1.size
                        have h9 : Below w0.heap.size w0 W9 := HW.out.1.trans (H9.out.below.mono HW.out.1.size)
                        clear HW9 hW9 c0 c1 c2 c3 c4 c5 c6 c7 hb9
                        refine range_box 7 25 TyI.cells (gf := 160) (lb := #[.pointer (some ⟨w7.heap.size, 0, none⟩)]) rfl (enters_of Tryz.func160 (by kernel_rfl) rfl)
                         (types_seq w0 x HW.out.2.1 w7.heap.size W9 hx9 (KeepX.of_below h9) (fun i => i = W.heap.size + 1) (fun i hi => ⟨by omega, by omega⟩))
                         (fun i hi => by omega) (Below.refl _ _) (fun _ => rfl)
                         (fun pre V => fst0 (pre.map fun y => chkT y.t) = 0 ∧ Boxed V (W.heap.size + 1) 40 (.int .i64 0) ∧ Below W.heap.size W V)
                         (fun c pre V => c = .ret ∧ fst0 (pre.map fun y => chkT y.t) ≠ 0 ∧ Boxed V (W.heap.size + 1) 40 (.int .i64 (fst0 (pre.map fun y => chkT y.t))) ∧ Below W.heap.size W V)
                         ?hI ?hIx ⟨rfl, H9.out.box, H9.out.below⟩ ?assign ?body ?done ?stop
                        case hI =>
                         intro s A B hs hb
                         exact ⟨hs.1, (hb.block _ (by omega)).trans hs.2.1, hs.2.2.trans (hb.mono (by omega))⟩
                        case hIx =>
                         intro c s A B hs hb
                         exact ⟨hs.1, hs.2.1, (hb.block _ (by omega)).trans hs.2.2.1, hs.2.2.2.trans (hb.mono (by omega))⟩
                        case assign =>
                         intro m l' y W'
                         dsimp only [TyI.v, TyI.cells]
                         gi_wp2_with fail
                         exact ⟨trivial, by simp⟩
                        case body =>
                         rintro m l' Bx pre y V7 hl hlB hwB hBW hbx ⟨r, hr⟩ ⟨h1, h2, h3⟩ hv
                         rw [List.map_append] at hv
                         have hyn : y.t ∈ x.e.tys := hv.subset (by simp)
                         have hydb := Xp.ty_db hyn
                         have hysz := y.t.size_db
                         have hbg := HW.out.2.1
                         have hcall := checktype_any y.t y.v V7 (TyV_below y.tyV (HW.out.1.trans (h3.mono hw0))) (by omega) (y.t.sh_nodes (by omega)) (HW.out.2.2.below h3)
                         have e0 := cell_of_row V7 Bx 0 _ _ _ hbx
                         have e1 := cell_of_row V7 Bx 1 _ _ _ hbx
                         have e2 := cell_of_row V7 Bx 2 _ _ _ hbx
                         have e3 := cell_of_row V7 Bx 3 _ _ _ hbx
                         have e4 := cell_of_row V7 Bx 4 _ _ _ hbx
                         have hfs : fst0 ((pre ++ [y]).map fun y => chkT y.t) = chkT y.t := by
                          rw [List.map_append, fst0_append, if_pos h1]; simp only [List.map_cons, List.map_nil, fst0]; split <;> simp_all
                         have HZ := hid (And.intro h2 (And.intro h3 (And.intro (show Calls Tryz.prog 23 #[.agg #[.int .i64 y.t.k, .string y.t.m, .string y.t.n, .slice y.aa y.t.A.len y.ca, .slice y.af y.t.F.len y.cf]] V7 _ from hcall) hfs)))
                         clear h1 h2 h3 hv hcall hbx hfs hyn hydb hysz hbg
                         dsimp only [TyI.v, TyI.cells] at e0 e1 e2 e3 e4 ⊢
                         generalize chkT y.t = er at HZ
                         by_cases her : er = 0
                         · subst her
                           gi_wp2_with fail
                           first | refine ⟨trivial, fun h => (by cases h), CallsIn.inRound l' (callsIn_wide.2 (HZ.out.2.2.1.mono ?_))⟩ | refine ⟨fun h => (by cases h), CallsIn.inRound l' (callsIn_wide.2 (HZ.out.2.2.1.mono ?_))⟩ | refine CallsIn.inRound l' (callsIn_wide.2 (HZ.out.2.2.1.mono ?_))
                           rintro e w8 ⟨rfl, hb8⟩
                           have H8 := hid hb8
                           clear hb8
                           gi_wp2_with fail
                           exact ⟨KeepX.of_below H8.out, HZ.out.2.2.2, (H8.out.block _ HZ.out.1.lt).trans HZ.out.1, HZ.out.2.1.trans (H8.out.mono HZ.out.2.1.size)⟩
                         · have her2 : (er != 0) = true := by simp [her]
                           gi_wp2_with fail
                           first | refine ⟨trivial, fun h => (by cases h), CallsIn.inRound l' (callsIn_wide.2 (HZ.out.2.2.1.mono ?_))⟩ | refine ⟨fun h => (by cases h), CallsIn.inRound l' (callsIn_wide.2 (HZ.out.2.2.1.mono ?_))⟩ | refine CallsIn.inRound l' (callsIn_wide.2 (HZ.out.2.2.1.mono ?_))
                           rintro e w8 ⟨rfl, hb8⟩
                           have f8 : Boxed w8 _ _ _ := (hb8.block _ HZ.out.1.lt).trans HZ.out.1
                           have g0 := f8.cell
                           have g1 := f8.frozen
                           have H8 := hid (And.intro hb8 f8)
                           clear hb8 f8
                           gi_wp2_with fail
                           have hks := KeepX.set w8 (W.heap.size + 1) (.int .i64 er)
                           have hse := H8.out.2.set (.int .i64 er)
                           have hbS : Below W.heap.size w8 (w8.setCell ⟨W.heap.size + 1, 0, none⟩ (.int .i64 er)) := below_set _ _ (by omega)
                           generalize w8.setCell ⟨W.heap.size + 1, 0, none⟩ (.int .i64 er) = w10 at hks hse hbS ⊢
                           refine ⟨⟨Nat.le_trans H8.out.1.size hks.1, fun i hi hx => ?_⟩, rfl, by rw [HZ.out.2.2.2]; exact her, by rw [HZ.out.2.2.2]; exact hse, HZ.out.2.1.trans ((H8.out.1.mono HZ.out.2.1.size).trans hbS)⟩
                           have hx' : ¬ i < W9.heap.size := hx
                           rw [hks.2 i (Nat.lt_of_lt_of_le hi H8.out.1.size) (by omega), H8.out.1.block i hi]
                        case done =>
                         rintro D ys V9 hD hS ⟨h1, h2, h3⟩ hK
                         have f9 := h2
                         have g0 := f9.cell
                         have g1 := f9.frozen
                         have hDb : D ≠ W.heap.size + 1 := by omega
                         have HG := hid (And.intro hS (And.intro h1 (And.intro f9 (And.intro h3 hK))))
                         clear hS h1 h2 h3 f9 hK
                         gi_wp2_with fail
                         have hK1 : (V9.setCell ⟨W.heap.size + 1, 0, none⟩ (.int .i64 0)).heap[D]? = some (.deferred (some [])) := ((KeepX.set V9 _ _).2 D (Array.getElem?_eq_some_iff.1 HG.out.2.2.2.2).1 hDb).trans HG.out.2.2.2.2
                         have hf : Boxed (V9.setCell ⟨W.heap.size + 1, 0, none⟩ (.int .i64 0)) (W.heap.size + 1) 40 (.int .i64 0) := HG.out.2.2.1.set _
                         have hB9 : Below W.heap.size V9 ((V9.setCell ⟨W.heap.size + 1, 0, none⟩ (.int .i64 0)).putObj D (.deferred none)) := (below_set V9 _ (by omega)).trans (below_put (by omega) hK1)
                         refine ⟨by simp, .inl ⟨_, _, rfl, run_takeDeferred hK1, ?_⟩⟩
                         have m0 : ((V9.setCell ⟨W.heap.size + 1, 0, none⟩ (.int .i64 0)).putObj D (.deferred none)).cell? ⟨W.heap.size + 1, 0, none⟩ = some (.int .i64 0) := Boxed.cell (t := 40) ((World.putObj_heap_other (fun e => hDb e.symm)).trans hf)
                         generalize (V9.setCell ⟨W.heap.size + 1, 0, none⟩ (.int .i64 0)).putObj D (.deferred none) = W10 at m0 hB9 ⊢
                         have hr : chkE x.e = 0 := by
                          rw [HQ.out, ← HG.out.1, List.map_map]; exact HG.out.2.1
                         exact ⟨.int .i64 0, by simp [results, Tryz.results70, go_sem, m0], by rw [hr], HG.out.2.2.2.1.trans hB9⟩
                        case stop =>
                         rintro D c pre V9 hD hv ⟨rfl, h0, h1, h2⟩ hK
                         have c0 := h1.cell
                         have HG := hid (And.intro h0 (And.intro h1 (And.intro h2 (And.intro hK hv))))
                         clear h0 h1 h2 hK hv
                         gi_wp2_with fail
                         have hDb : D ≠ W.heap.size + 1 := by omega
                         have hB9 : Below W.heap.size V9 (V9.putObj D (.deferred none)) := below_put (by omega) HG.out.2.2.2.1
                         have m0 : (V9.putObj D (.deferred none)).cell? ⟨W.heap.size + 1, 0, none⟩ = some (.int .i64 (fst0 (pre.map fun y => chkT y.t))) := Boxed.cell (t := 40) ((World.putObj_heap_other (fun e => hDb e.symm)).trans HG.out.2.1)
                         refine ⟨by simp, .inl ⟨_, _, rfl, run_takeDeferred HG.out.2.2.2.1, ?_⟩⟩
                         generalize V9.putObj D (.deferred none) = W10 at m0 hB9 ⊢
                         have hr : chkE x.e = fst0 (pre.map fun y => chkT y.t) := by
                          rw [HQ.out]
                          have hp : (pre.map fun y => chkT y.t) <+: x.e.tys.map chkT := by
                           have h := HG.out.2.2.2.2.map chkT
                           rwa [List.map_map] at h
                          exact fst0_prefix hp HG.out.1
                         exact ⟨.int .i64 (fst0 (pre.map fun y => chkT y.t)), by simp [results, Tryz.results70, go_sem, m0], by rw [hr], HG.out.2.2.1.trans hB9⟩
                      · clear hft
                        gi_wp2_with fail
                        first | refine ⟨trivial, callsIn_wide.2 ((HTy.out _).mono ?_)⟩ | refine callsIn_wide.2 ((HTy.out _).mono ?_)
                        rintro e W9 ⟨rfl, hW9'⟩
                        have HW9 := hid hW9'
                        clear hW9'
                        gi_wp2_with fail
                        have hW9 := HW9.out
                        have hb9 : Below w7.heap.size w7 W9 := by rw [hW9]; exact (Below.refl _ w7).alloc (Nat.le_refl _) _
                        have hx9 : W9.heap[w7.heap.size]? = some (.cells x.cells 29 (0, 0)) := by rw [hW9]; exact World.alloc_heap_new _ _
                        have hs9 : W9.heap.size = w7.heap.size + 1 := by rw [hW9]; simp
                        have H9 := hid (H7.out.later hb9)
                        have hlt7 := H7.out.box.lt
                        have hw0 := HW.out.1.size
                        have h9 : Below w0.heap.size w0 W9 := HW.out.1.trans (H9.out.below.mono HW.out.1.size)
                        clear HW9 hW9 c0 c1 c2 c3 c4 c5 c6 c7 hb9
                        refine range_box 7 25 TyI.cells (gf := 160) (lb := #[.pointer (some ⟨w7.heap.size, 0, none⟩)]) rfl (enters_of Tryz.func160 (by kernel_rfl) rfl)
                         (types_seq w0 x HW.out.2.1 w7.heap.size W9 hx9 (KeepX.of_below h9) (fun i => i = W.heap.size + 1) (fun i hi => ⟨by omega, by omega⟩))
                         (fun i hi => by omega) (Below.refl _ _) (fun _ => rfl)
                         (fun pre V => fst0 (pre.map fun y => chkT y.t) = 0 ∧ Boxed V (W.heap.size + 1) 40 (.int .i64 0) ∧ Below W.heap.size W V)
                         (fun c pre V => c = .ret ∧ fst0 (pre.map fun y => chkT y.t) ≠ 0 ∧ Boxed V (W.heap.size + 1) 40 (.int .i64 (fst0 (pre.map fun y => chkT y.t))) ∧ Below W.heap.size W V)
                         ?hI ?hIx ⟨rfl, H9.out.box, H9.out.below⟩ ?assign ?body ?done ?stop
                        case hI =>
                         intro s A B hs hb
                         exact ⟨hs.1, (hb.block _ (by omega)).trans hs.2.1, hs.2.2.trans (hb.mono (by omega))⟩
                        case hIx =>
                         intro c s A B hs hb
                         exact ⟨hs.1, hs.2.1, (hb.block _ (by omega)).trans hs.2.2.1, hs.2.2.2.trans (hb.mono (by omega))⟩
                        case assign =>
                         intro m l' y W'
                         dsimp only [TyI.v, TyI.cells]
                         gi_wp2_with fail
                         exact ⟨trivial, by simp⟩
                        case body =>
                         rintro m l' Bx pre y V7 hl hlB hwB hBW hbx ⟨r, hr⟩ ⟨h1, h2, h3⟩ hv
                         rw [List.map_append] at hv
                         have hyn : y.t ∈ x.e.tys := hv.subset (by simp)
                         have hydb := Xp.ty_db hyn
                         have hysz := y.t.size_db
                         have hbg := HW.out.2.1
                         have hcall := checktype_any y.t y.v V7 (TyV_below y.tyV (HW.out.1.trans (h3.mono hw0))) (by omega) (y.t.sh_nodes (by omega)) (HW.out.2.2.below h3)
                         have e0 := cell_of_row V7 Bx 0 _ _ _ hbx
                         have e1 := cell_of_row V7 Bx 1 _ _ _ hbx
                         have e2 := cell_of_row V7 Bx 2 _ _ _ hbx
                         have e3 := cell_of_row V7 Bx 3 _ _ _ hbx
                         have e4 := cell_of_row V7 Bx 4 _ _ _ hbx
                         have hfs : fst0 ((pre ++ [y]).map fun y => chkT y.t) = chkT y.t := by
                          rw [List.map_append, fst0_append, if_pos h1]; simp only [List.map_cons, List.map_nil, fst0]; split <;> simp_all
                         have HZ := hid (And.intro h2 (And.intro h3 (And.intro (show Calls Tryz.prog 23 #[.agg #[.int .i64 y.t.k, .string y.t.m, .string y.t.n, .slice y.aa y.t.A.len y.ca, .slice y.af y.t.F.len y.cf]] V7 _ from hcall) hfs)))
                         clear h1 h2 h3 hv hcall hbx hfs hyn hydb hysz hbg
                         dsimp only [TyI.v, TyI.cells] at e0 e1 e2 e3 e4 ⊢
                         generalize chkT y.t = er at HZ
                         by_cases her : er = 0
                         · subst her
                           gi_wp2_with fail
                           first | refine ⟨trivial, fun h => (by cases h), CallsIn.inRound l' (callsIn_wide.2 (HZ.out.2.2.1.mono ?_))⟩ | refine ⟨fun h => (by cases h), CallsIn.inRound l' (callsIn_wide.2 (HZ.out.2.2.1.mono ?_))⟩ | refine CallsIn.inRound l' (callsIn_wide.2 (HZ.out.2.2.1.mono ?_))
                           rintro e w8 ⟨rfl, hb8⟩
                           have H8 := hid hb8
                           clear hb8
                           gi_wp2_with fail
                           exact ⟨KeepX.of_below H8.out, HZ.out.2.2.2, (H8.out.block _ HZ.out.1.lt).trans HZ.out.1, HZ.out.2.1.trans (H8.out.mono HZ.out.2.1.size)⟩
                         · have her2 : (er != 0) = true := by simp [her]
                           gi_wp2_with fail
                           first | refine ⟨trivial, fun h => (by cases h), CallsIn.inRound l' (callsIn_wide.2 (HZ.out.2.2.1.mono ?_))⟩ | refine ⟨fun h => (by cases h), CallsIn.inRound l' (callsIn_wide.2 (HZ.out.2.2.1.mono ?_))⟩ | refine CallsIn.inRound l' (callsIn_wide.2 (HZ.out.2.2.1.mono ?_))
                           rintro e w8 ⟨rfl, hb8⟩
                           have f8 : Boxed w8 _ _ _ := (hb8.block _ HZ.out.1.lt).trans HZ.out.1
                           have g0 := f8.cell
                           have g1 := f8.frozen
                           have H8 := hid (And.intro hb8 f8)
                           clear hb8 f8
                           gi_wp2_with fail
                           have hks := KeepX.set w8 (W.heap.size + 1) (.int .i64 er)
                           have hse := H8.out.2.set (.int .i64 er)
                           have hbS : Below W.heap.size w8 (w8.setCell ⟨W.heap.size + 1, 0, none⟩ (.int .i64 er)) := below_set _ _ (by omega)
                           generalize w8.setCell ⟨W.heap.size + 1, 0, none⟩ (.int .i64 er) = w10 at hks hse hbS ⊢
                           refine ⟨⟨Nat.le_trans H8.out.1.size hks.1, fun i hi hx => ?_⟩, rfl, by rw [HZ.out.2.2.2]; exact her, by rw [HZ.out.2.2.2]; exact hse, HZ.out.2.1.trans ((H8.out.1.mono HZ.out.2.1.size).trans hbS)⟩
                           have hx' : ¬ i < W9.heap.size := hx
                           rw [hks.2 i (Nat.lt_of_lt_of_le hi H8.out.1.size) (by omega), H8.out.1.block i hi]
                        case done =>
                         rintro D ys V9 hD hS ⟨h1, h2, h3⟩ hK
                         have f9 := h2
                         have g0 := f9.cell
                         have g1 := f9.frozen
                         have hDb : D ≠ W.heap.size + 1 := by omega
                         have HG := hid (And.intro hS (And.intro h1 (And.intro f9 (And.intro h3 hK))))
                         clear hS h1 h2 h3 f9 hK
                         gi_wp2_with fail
                         have hK1 : (V9.setCell ⟨W.heap.size + 1, 0, none⟩ (.int .i64 0)).heap[D]? = some (.deferred (some [])) := ((KeepX.set V9 _ _).2 D (Array.getElem?_eq_some_iff.1 HG.out.2.2.2.2).1 hDb).trans HG.out.2.2.2.2
                         have hf : Boxed (V9.setCell ⟨W.heap.size + 1, 0, none⟩ (.int .i64 0)) (W.heap.size + 1) 40 (.int .i64 0) := HG.out.2.2.1.set _
                         have hB9 : Below W.heap.size V9 ((V9.setCell ⟨W.heap.size + 1, 0, none⟩ (.int .i64 0)).putObj D (.deferred none)) := (below_set V9 _ (by omega)).trans (below_put (by omega) hK1)
                         refine ⟨by simp, .inl ⟨_, _, rfl, run_takeDeferred hK1, ?_⟩⟩
                         have m0 : ((V9.setCell ⟨W.heap.size + 1, 0, none⟩ (.int .i64 0)).putObj D (.deferred none)).cell? ⟨W.heap.size + 1, 0, none⟩ = some (.int .i64 0) := Boxed.cell (t := 40) ((World.putObj_heap_other (fun e => hDb e.symm)).trans hf)
                         generalize (V9.setCell ⟨W.heap.size + 1, 0, none⟩ (.int .i64 0)).putObj D (.deferred none) = W10 at m0 hB9 ⊢
                         have hr : chkE x.e = 0 := by
                          rw [HQ.out, ← HG.out.1, List.map_map]; exact HG.out.2.1
                         exact ⟨.int .i64 0, by simp [results, Tryz.results70, go_sem, m0], by rw [hr], HG.out.2.2.2.1.trans hB9⟩
                        case stop =>
                         rintro D c pre V9 hD hv ⟨rfl, h0, h1, h2⟩ hK
                         have c0 := h1.cell
                         have HG := hid (And.intro h0 (And.intro h1 (And.intro h2 (And.intro hK hv))))
                         clear h0 h1 h2 hK hv
                         gi_wp2_with fail
                         have hDb : D ≠ W.heap.size + 1 := by omega
                         have hB9 : Below W.heap.size V9 (V9.putObj D (.deferred none)) := below_put (by omega) HG.out.2.2.2.1
                         have m0 : (V9.putObj D (.deferred none)).cell? ⟨W.heap.size + 1, 0, none⟩ = some (.int .i64 (fst0 (pre.map fun y => chkT y.t))) := Boxed.cell (t := 40) ((World.putObj_heap_other (fun e => hDb e.symm)).trans HG.out.2.1)
                         refine ⟨by simp, .inl ⟨_, _, rfl, run_takeDeferred HG.out.2.2.2.1, ?_⟩⟩
                         generalize V9.putObj D (.deferred none) = W10 at m0 hB9 ⊢
                         have hr : chkE x.e = fst0 (pre.map fun y => chkT y.t) := by
                          rw [HQ.out]
                          have hp : (pre.map fun y => chkT y.t) <+: x.e.tys.map chkT := by
                           have h := HG.out.2.2.2.2.map chkT
                           rwa [List.map_map] at h
                          exact fst0_prefix hp HG.out.1
                         exact ⟨.int .i64 (fst0 (pre.map fun y => chkT y.t)), by simp [results, Tryz.results70, go_sem, m0], by rw [hr], HG.out.2.2.1.trans hB9⟩
                  · have HQ := hid (show chkE x.e = od by rw [HRES.out, if_pos hod])
                    have hod2 : (od != 0) = true := by simp [hod]
                    clear HRES
                    have g0 := H7.out.box.cell
                    have g1 := H7.out.box.frozen
                    have HSET := hid (H7.out.set od)
                    have m0 := HSET.out.1
                    gi_wp2_with fail
                    refine ⟨_, by simp [results, Tryz.results70, go_sem, m0]; rfl, by rw [HQ.out], HSET.out.2⟩
              · have HQ := hid (show chkE x.e = 7 by rw [hres, if_pos (by simp; omega)])
                clear hres
                have g0 := H.out.box.cell
                have g1 := H.out.box.frozen
                have HSET := hid (H.out.set 7)
                have m0 := HSET.out.1
                gi_wp2_with fail
                refine ⟨_, by simp [results, Tryz.results70, go_sem, m0]; rfl, by rw [HQ.out], HSET.out.2⟩
            · have HQ := hid (show chkE x.e = 7 by rw [hres, if_pos (by simp; omega)])
              clear hres
              have g0 := H.out.box.cell
              have g1 := H.out.box.frozen
              have HSET := hid (H.out.set 7)
              have m0 := HSET.out.1
              gi_wp2_with fail
              refine ⟨_, by simp [results, Tryz.results70, go_sem, m0]; rfl, by rw [HQ.out], HSET.out.2⟩
          · have HQ := hid (show chkE x.e = 7 by rw [hres, if_pos (by simp; omega)])
            clear hres
            have g0 := H.out.box.cell
            have g1 := H.out.box.frozen
            have HSET := hid (H.out.set 7)
            have m0 := HSET.out.1
            gi_wp2_with fail
            refine ⟨_, by simp [results, Tryz.results70, go_sem, m0]; rfl, by rw [HQ.out], HSET.out.2⟩
      · have hnk2 : ((x.e.K.len : Int) != ka) = true := by simp [hnk]
        have HQ := hid (show chkE x.e = 1 by rw [HRES.out, if_pos (by simp [hnk])])
        clear HRES
        gi_wp2_with fail
        refine wpIn_region_later rfl (by kernel_rfl) (by kernel_rfl) ?_
        repeat (gi_big_quiet_step (first | (gi_at_call 123; with_reducible exact callsIn_wide.2 (HTA.out _)) | (gi_at_call 124; with_reducible exact callsIn_wide.2 (HKA.out _)) | (gi_at_call 125; with_reducible exact callsIn_wide.2 (HEP.out _)) | (gi_at_call 126; with_reducible exact callsIn_wide.2 (HLP.out _))))
        refine wpQuietIn_nil ?_
        intro _ hw'
        obtain ⟨X, hX⟩ := hw'
        subst hX
        have H := hid (HK.out.later X.since)
        have g0 := H.out.box.cell
        have g1 := H.out.box.frozen
        have HSET := hid (H.out.set 1)
        have m0 := HSET.out.1
        gi_wp2_with fail
        refine ⟨_, by simp [results, Tryz.results70, go_sem, m0]; rfl, by rw [HQ.out], HSET.out.2⟩
    · have hne2 : ((x.e.T.len : Int) != ta) = true := by simp [hne]
      have HQ := hid (show chkE x.e = 1 by rw [HRES.out, if_pos (by simp [hne])])
      clear HRES
      gi_wp2_with fail
      refine wpIn_region_later rfl (by kernel_rfl) (by kernel_rfl) ?_
      repeat (gi_big_quiet_step (first | (gi_at_call 123; with_reducible exact callsIn_wide.2 (HTA.out _)) | (gi_at_call 124; with_reducible exact callsIn_wide.2 (HKA.out _)) | (gi_at_call 125; with_reducible exact callsIn_wide.2 (HEP.out _)) | (gi_at_call 126; with_reducible exact callsIn_wide.2 (HLP.out _))))
      refine wpQuietIn_nil ?_
      intro _ hw'
      obtain ⟨X, hX⟩ := hw'
      subst hX
      have H := hid (HK.out.later X.since)
      have g0 := H.out.box.cell
      have g1 := H.out.box.frozen
      have HSET := hid (H.out.set 1)
      have m0 := HSET.out.1
      gi_wp2_with fail
      refine ⟨_, by simp [results, Tryz.results70, go_sem, m0]; rfl, by rw [HQ.out], HSET.out.2⟩
end Go.Proofs.YtnkhebgjhipepaaGreatDoor

namespace Go.Proofs.YtnkhebgjhipepaaGreatDoor
open Go.RowKit Go.Shelf
attribute [local go_sem] Oper.semAt_some

def Ex.depth : Ex → Nat
 | .nil => 0
 | .node _ _ _ _ _ _ _ K nx => max (1 + K.depth) nx.depth
def Xp.depth (e : Xp) : Nat := 1 + e.K.depth
theorem Ex.depth_els (K : Ex) : K.depth = maxL (K.els.map Xp.depth) := by
 induction K with
 | nil => rfl
 | node k m n tx num T L K nx hk hn => simp only [Ex.depth, Ex.els, List.map_cons, maxL, List.foldr_cons, Xp.depth] at *; rw [hn]
theorem Xp.depth_kids (e : Xp) : e.depth = 1 + maxL (e.kids.map Xp.depth) := by
 simp only [Xp.depth, Xp.kids, Ex.depth_els]
theorem Ex.depth_bk (K : Ex) : K.depth ≤ K.enc.bk := by
 induction K with
 | nil => exact Nat.zero_le _
 | node k m n tx num T L K nx hk hn => simp only [Ex.depth, Ex.enc, Dt.bk] at *; omega
theorem Xp.depth_bk (e : Xp) : e.depth ≤ e.bk := by
 have := e.K.depth_bk
 have := e.bk_eq
 unfold Xp.depth
 omega
/-- depth on expressions of at most s steps. -/
def DepX (w0 : World) (s : Nat) : Prop := ∀ x : XpI w0, x.e.bk ≤ s → ∀ W, KeepX (fun _ => False) w0 W → Calls Tryz.prog 67 #[.agg #[.int .i64 x.e.k, .string x.e.m, .string x.e.n, .string x.e.tx, .int .i64 x.e.num, .slice x.aT x.e.T.len x.cT, .slice x.aL x.e.L.length x.cL, .slice x.aK x.e.K.len x.cK], .func (.func 68) #[] #[]] W
 fun e W' => e = .returned (.int .i64 (x.e.depth : Int)) ∧ Below W.heap.size W W'
set_option maxRecDepth 100000 in
set_option maxHeartbeats 8000000 in
theorem xdepth_step (w0 : World) (s : Nat) (hs : s + 1 ≤ 1099511627776) (ih : DepX w0 s) : DepX w0 (s + 1) := by
 intro x hx W hold
 have HI := hid ih
 have HT := hid (exprKids_any x)
 clear ih
 have HT' : Kpt (∀ w, Calls Tryz.prog 68 #[.agg #[.int .i64 x.e.k, .string x.e.m, .string x.e.n, .string x.e.tx, .int .i64 x.e.num, .slice x.aT x.e.T.len x.cT, .slice x.aL x.e.L.length x.cL, .slice x.aK x.e.K.len x.cK]] w
  fun e w' => e = .returned (.func (.func 178) #[] #[.pointer (some ⟨w.heap.size + 1, 0, none⟩)]) ∧ w' = (w.alloc (.cells x.cells 29)).alloc (.cells #[.slice x.aK x.e.K.len x.cK] 27)) := hid HT.out
 clear HT
 refine (callsIn_wide (n := 9)).1 ?_
 refine callsIn_of_wp_marks Tryz.func67 rfl trivial ?_ rfl
 simp only [Tryz.ntmps67, List.size_toArray, List.length_cons, List.length_nil, Nat.reduceAdd, Nat.reduceSub, Array.replicate_succ, Array.replicate_zero, List.push_toArray, List.append_toArray, List.nil_append, List.cons_append]
 gi_wp2_with fail
 refine ⟨trivial, callsIn_wide.2 ((HT'.out _).mono ?_)⟩
 rintro e W6 ⟨rfl, hW6⟩
 simp only [World.size_alloc] at hW6 ⊢
 gi_wp2_with fail
 have hxc : x.cells = #[.int .i64 x.e.k, .string x.e.m, .string x.e.n, .string x.e.tx, .int .i64 x.e.num, .slice x.aT x.e.T.len x.cT, .slice x.aL x.e.L.length x.cL, .slice x.aK x.e.K.len x.cK] := rfl
 rw [← hxc] at hW6
 have b0 : Boxed W6 (W.heap.size + 1) 91 (.func (.func 68) #[] #[]) := by
  rw [hW6]; have h := (((Boxed.new (W.alloc (.cells x.cells 29)) 91 (.func (.func 68) #[] #[])).alloc (.cells #[.int .i64 0] 3)).alloc (.cells x.cells 29)).alloc (.cells #[.slice x.aK x.e.K.len x.cK] 27)
  simpa only [World.size_alloc] using h
 have b1 : Boxed W6 (W.heap.size + 1 + 1) 3 (.int .i64 0) := by
  rw [hW6]; have h := ((Boxed.new ((W.alloc (.cells x.cells 29)).alloc (.cells #[.func (.func 68) #[] #[]] 91)) 3 (.int .i64 0)).alloc (.cells x.cells 29)).alloc (.cells #[.slice x.aK x.e.K.len x.cK] 27)
  simpa only [World.size_alloc] using h
 have b2 : W6.heap[W.heap.size + 1 + 1 + 1 + 1]? = some (.cells #[.slice x.aK x.e.K.len x.cK] 27 (0, 0)) := by
  rw [hW6]
  have h := World.alloc_heap_new ((((W.alloc (.cells x.cells 29)).alloc (.cells #[.func (.func 68) #[] #[]] 91)).alloc (.cells #[.int .i64 0] 3)).alloc (.cells x.cells 29)) (.cells #[.slice x.aK x.e.K.len x.cK] 27)
  simpa only [World.size_alloc] using h
 have hsz : W6.heap.size = W.heap.size + 5 := by rw [hW6]; simp
 have hB : Below W.heap.size W W6 := by
  rw [hW6]; exact (((((Below.refl _ W).alloc (Nat.le_refl _) _).alloc (by simp) _).alloc (by simp; omega) _).alloc (by simp; omega) _).alloc (by simp; omega) _
 clear hW6 hxc
 have hW0 := hold.1
 have hlenK := Ex.len_bk x.e.K
 have hxbk := x.e.bk_eq
 refine range_box 6 29 XpI.cells (gf := 178) (lb := #[.pointer (some ⟨W.heap.size + 1 + 1 + 1 + 1, 0, none⟩)]) rfl (enters_of Tryz.func178 (by kernel_rfl) rfl)
  (encs := fun y : XpI w0 => #[y.v]) (X := fun i => i = W.heap.size + 1 + 1) (S := fun ys => ys.map (·.e) = x.e.kids) (V := fun ys => ys.map (·.e) <+: x.e.kids) (w0 := W6) ?seq (fun i hi => by omega) (Below.refl _ _) (fun _ => rfl)
  (fun pre W' => Boxed W' (W.heap.size + 1 + 1) 3 (.int .i64 (maxL (pre.map (·.e.depth)) : Int)) ∧ Boxed W' (W.heap.size + 1) 91 (.func (.func 68) #[] #[]) ∧ Below W.heap.size W W')
  (fun _ _ _ => False) ?hI (fun c s A B h _ => h) ⟨b1, b0, hB⟩ ?assign ?body ?done ?stop
 case seq =>
  intro m l' J' Jx' W' hb hJ' hJx' hY' h0'
  exact kids1_in w0 x (by omega) (W.heap.size + 1 + 1 + 1 + 1) (fun i => i = W.heap.size + 1 + 1) (fun i hi => by omega) _ (fun _ h => h) l' m J' Jx' W' ((hb.block _ (by omega)).trans b2) ((hold.trans (KeepX.of_below hB)).trans (KeepX.of_below hb)) hJ' hY' h0'
 case hI =>
  intro s' A B hs hb
  exact ⟨(hb.block _ (by omega)).trans hs.1, (hb.block _ (by omega)).trans hs.2.1, hs.2.2.trans (hb.mono (by omega))⟩
 case assign =>
  intro m l' y W'
  dsimp only [XpI.v, XpI.cells]
  gi_wp2_with fail
  exact ⟨trivial, by simp⟩
 case body =>
  rintro m l' Bx pre y W7 hl hlB hwB hBW hbx ⟨r, hr⟩ ⟨h1, h2, h3⟩ hv
  rw [List.map_append] at hv
  have hyx : y.e.bk < x.e.bk := Xp.kid_bk (hv.subset (by simp))
  have hcall := HI.out y (by omega) W7.drew (hold.trans (KeepX.of_below h3.drew))
  have e0 := cell_of_row W7 Bx 0 _ _ _ hbx
  have e1 := cell_of_row W7 Bx 1 _ _ _ hbx
  have e2 := cell_of_row W7 Bx 2 _ _ _ hbx
  have e3 := cell_of_row W7 Bx 3 _ _ _ hbx
  have e4 := cell_of_row W7 Bx 4 _ _ _ hbx
  have e5 := cell_of_row W7 Bx 5 _ _ _ hbx
  have e6 := cell_of_row W7 Bx 6 _ _ _ hbx
  have e7 := cell_of_row W7 Bx 7 _ _ _ hbx
  have q5 := h1.cell
  have q6 := h2.cell
  have hd1 : maxL (pre.map (·.e.depth)) ≤ 1099511627776 := maxL_le fun a ha => by
   obtain ⟨z, hz, rfl⟩ := List.mem_map.1 ha
   have h9 : z.e ∈ x.e.kids := hv.subset (by simp; exact .inl ⟨z, hz, rfl⟩)
   have h8 := Xp.kid_bk h9
   have h7 := z.e.depth_bk
   omega
  have hd2 := y.e.depth_bk
  have HZ := hid (And.intro h1 (And.intro h2 (And.intro h3 hcall)))
  have HD := hid (And.intro hd1 hd2)
  clear h1 h2 h3 hv hcall hbx hd1 hd2
  dsimp only [XpI.v, XpI.cells] at e0 e1 e2 e3 e4 e5 e6 e7 ⊢
  gi_wp2_with fail
  have h1b : W.heap.size + 1 + 1 < W7.heap.size := by omega
  have HFIN : Kpt (∀ (w8 : World) (d : Int), Below W7.drew.heap.size W7.drew w8 → Boxed w8 (W.heap.size + 1 + 1) 3 (.int .i64 (maxL (pre.map (·.e.depth)) : Int)) → d = (maxL ((pre ++ [y]).map (·.e.depth)) : Int) →
   KeepX (fun i => i = W.heap.size + 1 + 1) W7 (w8.setCell ⟨W.heap.size + 1 + 1, 0, none⟩ (.int .i64 d)) ∧ Boxed (w8.setCell ⟨W.heap.size + 1 + 1, 0, none⟩ (.int .i64 d)) (W.heap.size + 1 + 1) 3 (.int .i64 (maxL ((pre ++ [y]).map (·.e.depth)) : Int)) ∧
   Boxed (w8.setCell ⟨W.heap.size + 1 + 1, 0, none⟩ (.int .i64 d)) (W.heap.size + 1) 91 (.func (.func 68) #[] #[]) ∧ Below W.heap.size W (w8.setCell ⟨W.heap.size + 1 + 1, 0, none⟩ (.int .i64 d))) := hid fun w8 d hb8 f8 hd => by
   have hsz7 : W7.drew.heap.size = W7.heap.size := rfl
   have hs8 := hb8.size
   have hk := KeepX.set w8 (W.heap.size + 1 + 1) (.int .i64 d)
   refine ⟨⟨by have := hk.1; omega, fun i hi hx => (hk.2 i (by omega) hx).trans (hb8.block i (by omega))⟩, by rw [hd]; exact f8.set _, Boxed.other (show Boxed w8 _ _ _ from (hb8.block _ (by omega)).trans HZ.out.2.1) (by omega) _, ?_⟩
   have h78 : Below W7.heap.size W7 w8 := ⟨hb8.os, hb8.tape, hb8.output, hb8.size, hb8.block⟩
   exact (HZ.out.2.2.1.trans (h78.mono HZ.out.2.2.1.size)).trans (below_set w8 _ (by omega))
  have HC := hid (show Calls Tryz.prog 67 #[.agg #[.int .i64 y.e.k, .string y.e.m, .string y.e.n, .string y.e.tx, .int .i64 y.e.num, .slice y.aT y.e.T.len y.cT, .slice y.aL y.e.L.length y.cL, .slice y.aK y.e.K.len y.cK], .func (.func 68) #[] #[]] W7.drew _ from HZ.out.2.2.2)
  refine wpIn_region_any (by kernel_rfl) ?_
  change wpAnyIn _ _ _ _ _ _ _ _ _ (World.drew _)
  refine wpAnyIn_ready (rs := [0, 1, 2]) (by kernel_rfl) (by simp) ?_
  refine AllReadyIn.cons rfl (fun K hK => ?_) ?_
  · go_simp
    refine hK _ _ ?_
    clear hK K
    refine wpAnyIn_ready (rs := [1, 2]) (by kernel_rfl) (by simp) ?_
    refine AllReadyIn.cons rfl (fun K hK => ?_) ?_
    · go_simp
      refine hK _ _ ?_
      clear hK K
      refine wpAnyIn_ready (rs := [2]) (by kernel_rfl) (by simp) ?_
      refine AllReadyIn.cons rfl (fun K hK => ?_) ?_
      · go_simp
        refine hK _ _ ?_
        clear hK K
        refine wpAnyIn_ready (rs := [3]) (by kernel_rfl) (by simp) ?_
        refine AllReadyIn.cons rfl (fun K hK => ?_) ?_
        · go_simp
          refine ⟨trivial, fun h => (by cases h), CallsIn.inRound l' (callsIn_wide.2 (HC.out.mono ?_))⟩
          rintro e w8 ⟨rfl, hb8⟩
          have e55 := (hb8.cell h1b).trans q5
          have f55 : Boxed w8 (W.heap.size + 1 + 1) _ _ := (hb8.block _ h1b).trans HZ.out.1
          have g55 := f55.frozen
          have H8 := hid (And.intro hb8 f55)
          clear hb8 f55
          refine hK _ _ ?_
          clear hK K
          refine wpAnyIn_ready (rs := [4]) (by kernel_rfl) (by simp) ?_
          refine AllReadyIn.cons rfl (fun K hK => ?_) ?_
          · go_simp
            refine hK _ _ ?_
            clear hK K
            refine wpAnyIn_ready (rs := [5]) (by kernel_rfl) (by simp) ?_
            refine AllReadyIn.cons rfl (fun K hK => ?_) ?_
            · go_simp
              refine hK _ _ ?_
              clear hK K
              refine wpAnyIn_done (by kernel_rfl) ?_ _
              gi_wp2_with fail
              all_goals exact HFIN.out w8 _ H8.out.1 H8.out.2 (by rw [List.map_append]; simp only [List.map_cons, List.map_nil, maxL_snoc]; omega)
            exact AllReadyIn.nil
          exact AllReadyIn.nil
        exact AllReadyIn.nil
      exact AllReadyIn.nil
    refine AllReadyIn.cons rfl (fun K hK => ?_) ?_
    · go_simp
      refine hK _ _ ?_
      clear hK K
      refine wpAnyIn_ready (rs := [1]) (by kernel_rfl) (by simp) ?_
      refine AllReadyIn.cons rfl (fun K hK => ?_) ?_
      · go_simp
        refine hK _ _ ?_
        clear hK K
        refine wpAnyIn_ready (rs := [3]) (by kernel_rfl) (by simp) ?_
        refine AllReadyIn.cons rfl (fun K hK => ?_) ?_
        · go_simp
          refine ⟨trivial, fun h => (by cases h), CallsIn.inRound l' (callsIn_wide.2 (HC.out.mono ?_))⟩
          rintro e w8 ⟨rfl, hb8⟩
          have e55 := (hb8.cell h1b).trans q5
          have f55 : Boxed w8 (W.heap.size + 1 + 1) _ _ := (hb8.block _ h1b).trans HZ.out.1
          have g55 := f55.frozen
          have H8 := hid (And.intro hb8 f55)
          clear hb8 f55
          refine hK _ _ ?_
          clear hK K
          refine wpAnyIn_ready (rs := [4]) (by kernel_rfl) (by simp) ?_
          refine AllReadyIn.cons rfl (fun K hK => ?_) ?_
          · go_simp
            refine hK _ _ ?_
            clear hK K
            refine wpAnyIn_ready (rs := [5]) (by kernel_rfl) (by simp) ?_
            refine AllReadyIn.cons rfl (fun K hK => ?_) ?_
            · go_simp
              refine hK _ _ ?_
              clear hK K
              refine wpAnyIn_done (by kernel_rfl) ?_ _
              gi_wp2_with fail
              all_goals exact HFIN.out w8 _ H8.out.1 H8.out.2 (by rw [List.map_append]; simp only [List.map_cons, List.map_nil, maxL_snoc]; omega)
            exact AllReadyIn.nil
          exact AllReadyIn.nil
        exact AllReadyIn.nil
      exact AllReadyIn.nil
    exact AllReadyIn.nil
  refine AllReadyIn.cons rfl (fun K hK => ?_) ?_
  · go_simp
    refine hK _ _ ?_
    clear hK K
    refine wpAnyIn_ready (rs := [0, 2]) (by kernel_rfl) (by simp) ?_
    refine AllReadyIn.cons rfl (fun K hK => ?_) ?_
    · go_simp
      refine hK _ _ ?_
      clear hK K
      refine wpAnyIn_ready (rs := [2]) (by kernel_rfl) (by simp) ?_
      refine AllReadyIn.cons rfl (fun K hK => ?_) ?_
      · go_simp
        refine hK _ _ ?_
        clear hK K
        refine wpAnyIn_ready (rs := [3]) (by kernel_rfl) (by simp) ?_
        refine AllReadyIn.cons rfl (fun K hK => ?_) ?_
        · go_simp
          refine ⟨trivial, fun h => (by cases h), CallsIn.inRound l' (callsIn_wide.2 (HC.out.mono ?_))⟩
          rintro e w8 ⟨rfl, hb8⟩
          have e55 := (hb8.cell h1b).trans q5
          have f55 : Boxed w8 (W.heap.size + 1 + 1) _ _ := (hb8.block _ h1b).trans HZ.out.1
          have g55 := f55.frozen
          have H8 := hid (And.intro hb8 f55)
          clear hb8 f55
          refine hK _ _ ?_
          clear hK K
          refine wpAnyIn_ready (rs := [4]) (by kernel_rfl) (by simp) ?_
          refine AllReadyIn.cons rfl (fun K hK => ?_) ?_
          · go_simp
            refine hK _ _ ?_
            clear hK K
            refine wpAnyIn_ready (rs := [5]) (by kernel_rfl) (by simp) ?_
            refine AllReadyIn.cons rfl (fun K hK => ?_) ?_
            · go_simp
              refine hK _ _ ?_
              clear hK K
              refine wpAnyIn_done (by kernel_rfl) ?_ _
              gi_wp2_with fail
              all_goals exact HFIN.out w8 _ H8.out.1 H8.out.2 (by rw [List.map_append]; simp only [List.map_cons, List.map_nil, maxL_snoc]; omega)
            exact AllReadyIn.nil
          exact AllReadyIn.nil
        exact AllReadyIn.nil
      exact AllReadyIn.nil
    refine AllReadyIn.cons rfl (fun K hK => ?_) ?_
    · go_simp
      refine hK _ _ ?_
      clear hK K
      refine wpAnyIn_ready (rs := [0, 3]) (by kernel_rfl) (by simp) ?_
      refine AllReadyIn.cons rfl (fun K hK => ?_) ?_
      · go_simp
        refine hK _ _ ?_
        clear hK K
        refine wpAnyIn_ready (rs := [3]) (by kernel_rfl) (by simp) ?_
        refine AllReadyIn.cons rfl (fun K hK => ?_) ?_
        · go_simp
          refine ⟨trivial, fun h => (by cases h), CallsIn.inRound l' (callsIn_wide.2 (HC.out.mono ?_))⟩
          rintro e w8 ⟨rfl, hb8⟩
          have e55 := (hb8.cell h1b).trans q5
          have f55 : Boxed w8 (W.heap.size + 1 + 1) _ _ := (hb8.block _ h1b).trans HZ.out.1
          have g55 := f55.frozen
          have H8 := hid (And.intro hb8 f55)
          clear hb8 f55
          refine hK _ _ ?_
          clear hK K
          refine wpAnyIn_ready (rs := [4]) (by kernel_rfl) (by simp) ?_
          refine AllReadyIn.cons rfl (fun K hK => ?_) ?_
          · go_simp
            refine hK _ _ ?_
            clear hK K
            refine wpAnyIn_ready (rs := [5]) (by kernel_rfl) (by simp) ?_
            refine AllReadyIn.cons rfl (fun K hK => ?_) ?_
            · go_simp
              refine hK _ _ ?_
              clear hK K
              refine wpAnyIn_done (by kernel_rfl) ?_ _
              gi_wp2_with fail
              all_goals exact HFIN.out w8 _ H8.out.1 H8.out.2 (by rw [List.map_append]; simp only [List.map_cons, List.map_nil, maxL_snoc]; omega)
            exact AllReadyIn.nil
          exact AllReadyIn.nil
        exact AllReadyIn.nil
      refine AllReadyIn.cons rfl (fun K hK => ?_) ?_
      · go_simp
        refine ⟨trivial, fun h => (by cases h), CallsIn.inRound l' (callsIn_wide.2 (HC.out.mono ?_))⟩
        rintro e w8 ⟨rfl, hb8⟩
        have e55 := (hb8.cell h1b).trans q5
        have f55 : Boxed w8 (W.heap.size + 1 + 1) _ _ := (hb8.block _ h1b).trans HZ.out.1
        have g55 := f55.frozen
        have H8 := hid (And.intro hb8 f55)
        clear hb8 f55
        refine hK _ _ ?_
        clear hK K
        refine wpAnyIn_ready (rs := [0]) (by kernel_rfl) (by simp) ?_
        refine AllReadyIn.cons rfl (fun K hK => ?_) ?_
        · go_simp
          refine hK _ _ ?_
          clear hK K
          refine wpAnyIn_ready (rs := [4]) (by kernel_rfl) (by simp) ?_
          refine AllReadyIn.cons rfl (fun K hK => ?_) ?_
          · go_simp
            refine hK _ _ ?_
            clear hK K
            refine wpAnyIn_ready (rs := [5]) (by kernel_rfl) (by simp) ?_
            refine AllReadyIn.cons rfl (fun K hK => ?_) ?_
            · go_simp
              refine hK _ _ ?_
              clear hK K
              refine wpAnyIn_done (by kernel_rfl) ?_ _
              gi_wp2_with fail
              all_goals exact HFIN.out w8 _ H8.out.1 H8.out.2 (by rw [List.map_append]; simp only [List.map_cons, List.map_nil, maxL_snoc]; omega)
            exact AllReadyIn.nil
          exact AllReadyIn.nil
        exact AllReadyIn.nil
      exact AllReadyIn.nil
    exact AllReadyIn.nil
  refine AllReadyIn.cons rfl (fun K hK => ?_) ?_
  · go_simp
    refine hK _ _ ?_
    clear hK K
    refine wpAnyIn_ready (rs := [0, 1]) (by kernel_rfl) (by simp) ?_
    refine AllReadyIn.cons rfl (fun K hK => ?_) ?_
    · go_simp
      refine hK _ _ ?_
      clear hK K
      refine wpAnyIn_ready (rs := [1]) (by kernel_rfl) (by simp) ?_
      refine AllReadyIn.cons rfl (fun K hK => ?_) ?_
      · go_simp
        refine hK _ _ ?_
        clear hK K
        refine wpAnyIn_ready (rs := [3]) (by kernel_rfl) (by simp) ?_
        refine AllReadyIn.cons rfl (fun K hK => ?_) ?_
        · go_simp
          refine ⟨trivial, fun h => (by cases h), CallsIn.inRound l' (callsIn_wide.2 (HC.out.mono ?_))⟩
          rintro e w8 ⟨rfl, hb8⟩
          have e55 := (hb8.cell h1b).trans q5
          have f55 : Boxed w8 (W.heap.size + 1 + 1) _ _ := (hb8.block _ h1b).trans HZ.out.1
          have g55 := f55.frozen
          have H8 := hid (And.intro hb8 f55)
          clear hb8 f55
          refine hK _ _ ?_
          clear hK K
          refine wpAnyIn_ready (rs := [4]) (by kernel_rfl) (by simp) ?_
          refine AllReadyIn.cons rfl (fun K hK => ?_) ?_
          · go_simp
            refine hK _ _ ?_
            clear hK K
            refine wpAnyIn_ready (rs := [5]) (by kernel_rfl) (by simp) ?_
            refine AllReadyIn.cons rfl (fun K hK => ?_) ?_
            · go_simp
              refine hK _ _ ?_
              clear hK K
              refine wpAnyIn_done (by kernel_rfl) ?_ _
              gi_wp2_with fail
              all_goals exact HFIN.out w8 _ H8.out.1 H8.out.2 (by rw [List.map_append]; simp only [List.map_cons, List.map_nil, maxL_snoc]; omega)
            exact AllReadyIn.nil
          exact AllReadyIn.nil
        exact AllReadyIn.nil
      exact AllReadyIn.nil
    refine AllReadyIn.cons rfl (fun K hK => ?_) ?_
    · go_simp
      refine hK _ _ ?_
      clear hK K
      refine wpAnyIn_ready (rs := [0, 3]) (by kernel_rfl) (by simp) ?_
      refine AllReadyIn.cons rfl (fun K hK => ?_) ?_
      · go_simp
        refine hK _ _ ?_
        clear hK K
        refine wpAnyIn_ready (rs := [3]) (by kernel_rfl) (by simp) ?_
        refine AllReadyIn.cons rfl (fun K hK => ?_) ?_
        · go_simp
          refine ⟨trivial, fun h => (by cases h), CallsIn.inRound l' (callsIn_wide.2 (HC.out.mono ?_))⟩
          rintro e w8 ⟨rfl, hb8⟩
          have e55 := (hb8.cell h1b).trans q5
          have f55 : Boxed w8 (W.heap.size + 1 + 1) _ _ := (hb8.block _ h1b).trans HZ.out.1
          have g55 := f55.frozen
          have H8 := hid (And.intro hb8 f55)
          clear hb8 f55
          refine hK _ _ ?_
          clear hK K
          refine wpAnyIn_ready (rs := [4]) (by kernel_rfl) (by simp) ?_
          refine AllReadyIn.cons rfl (fun K hK => ?_) ?_
          · go_simp
            refine hK _ _ ?_
            clear hK K
            refine wpAnyIn_ready (rs := [5]) (by kernel_rfl) (by simp) ?_
            refine AllReadyIn.cons rfl (fun K hK => ?_) ?_
            · go_simp
              refine hK _ _ ?_
              clear hK K
              refine wpAnyIn_done (by kernel_rfl) ?_ _
              gi_wp2_with fail
              all_goals exact HFIN.out w8 _ H8.out.1 H8.out.2 (by rw [List.map_append]; simp only [List.map_cons, List.map_nil, maxL_snoc]; omega)
            exact AllReadyIn.nil
          exact AllReadyIn.nil
        exact AllReadyIn.nil
      refine AllReadyIn.cons rfl (fun K hK => ?_) ?_
      · go_simp
        refine ⟨trivial, fun h => (by cases h), CallsIn.inRound l' (callsIn_wide.2 (HC.out.mono ?_))⟩
        rintro e w8 ⟨rfl, hb8⟩
        have e55 := (hb8.cell h1b).trans q5
        have f55 : Boxed w8 (W.heap.size + 1 + 1) _ _ := (hb8.block _ h1b).trans HZ.out.1
        have g55 := f55.frozen
        have H8 := hid (And.intro hb8 f55)
        clear hb8 f55
        refine hK _ _ ?_
        clear hK K
        refine wpAnyIn_ready (rs := [0]) (by kernel_rfl) (by simp) ?_
        refine AllReadyIn.cons rfl (fun K hK => ?_) ?_
        · go_simp
          refine hK _ _ ?_
          clear hK K
          refine wpAnyIn_ready (rs := [4]) (by kernel_rfl) (by simp) ?_
          refine AllReadyIn.cons rfl (fun K hK => ?_) ?_
          · go_simp
            refine hK _ _ ?_
            clear hK K
            refine wpAnyIn_ready (rs := [5]) (by kernel_rfl) (by simp) ?_
            refine AllReadyIn.cons rfl (fun K hK => ?_) ?_
            · go_simp
              refine hK _ _ ?_
              clear hK K
              refine wpAnyIn_done (by kernel_rfl) ?_ _
              gi_wp2_with fail
              all_goals exact HFIN.out w8 _ H8.out.1 H8.out.2 (by rw [List.map_append]; simp only [List.map_cons, List.map_nil, maxL_snoc]; omega)
            exact AllReadyIn.nil
          exact AllReadyIn.nil
        exact AllReadyIn.nil
      exact AllReadyIn.nil
    exact AllReadyIn.nil
  exact AllReadyIn.nil
 case done =>
  rintro D ys W9 hD hS ⟨h1, h2, h3⟩ hK
  have c0 := h1.cell
  have hdm : maxL (ys.map (·.e.depth)) + 1 = x.e.depth := by
   rw [Xp.depth_kids, ← hS, List.map_map]; simp only [Function.comp_def]; omega
  have hdl := x.e.depth_bk
  have HB := hid (And.intro h3 (And.intro hK hdm))
  have hlt : maxL (ys.map (·.e.depth)) ≤ 1099511627776 := by omega
  clear h1 h2 h3 hK hS hdm
  gi_wp2_with fail
  refine ⟨by simp, .inl ⟨_, _, rfl, run_takeDeferred HB.out.2.1, ?_⟩⟩
  refine ⟨_, results_tmp rfl _ _ _, ?_, HB.out.1.trans (below_put (by omega) HB.out.2.1)⟩
  rw [← HB.out.2.2]
  simp
  omega
 case stop =>
  rintro D c pre W hD hv h _
  exact h.elim
theorem xdepth_all (w0 : World) : ∀ s : Nat, s ≤ 1099511627776 → DepX w0 s := by
 intro s
 induction s with
 | zero => intro _ x hx; exact absurd hx (by rw [Xp.bk_eq]; omega)
 | succ s ih => intro hs; exact xdepth_step w0 s hs (ih (by omega))
end Go.Proofs.YtnkhebgjhipepaaGreatDoor

namespace Go.Proofs.YtnkhebgjhipepaaGreatDoor
open Go.RowKit Go.Shelf
attribute [local go_sem] Oper.semAt_some

def chkX (e : Xp) : Int := if 4096 < e.size ∨ 32 < e.depth then 7 else fst0 (e.nodes.map chkE)
set_option maxRecDepth 100000 in
set_option maxHeartbeats 8000000 in
theorem checkexpr_any {w0 : World} (x : XpI w0) (w : World) (hW : Below w0.heap.size w0 w) (hbig : x.e.bk ≤ 1099511627776) (hE : Env w) :
 Calls Tryz.prog 25 #[.agg #[.int .i64 x.e.k, .string x.e.m, .string x.e.n, .string x.e.tx, .int .i64 x.e.num, .slice x.aT x.e.T.len x.cT, .slice x.aL x.e.L.length x.cL, .slice x.aK x.e.K.len x.cK]] w fun e w' => e = .returned (.int .i64 (chkX x.e)) ∧ Below w.heap.size w w' := by
 obtain ⟨wa, hwa⟩ : ∃ wa, w.alloc (.cells #[.int .i64 x.e.k, .string x.e.m, .string x.e.n, .string x.e.tx, .int .i64 x.e.num, .slice x.aT x.e.T.len x.cT, .slice x.aL x.e.L.length x.cL, .slice x.aK x.e.K.len x.cK] 29) = wa := ⟨_, rfl⟩
 obtain ⟨wc, hwc⟩ : ∃ wc, wa.alloc (.cells #[.int .i64 0] 40) = wc := ⟨_, rfl⟩
 have hba : Below w.heap.size w wa := by rw [← hwa]; exact (Below.refl _ w).alloc (Nat.le_refl _) _
 have hsa : wa.heap.size = w.heap.size + 1 := by rw [← hwa]; simp
 have hsc : wc.heap.size = w.heap.size + 2 := by rw [← hwc]; simp [hsa]
 have hea : wa.heap[w.heap.size]? = some (.cells #[.int .i64 x.e.k, .string x.e.m, .string x.e.n, .string x.e.tx, .int .i64 x.e.num, .slice x.aT x.e.T.len x.cT, .slice x.aL x.e.L.length x.cL, .slice x.aK x.e.K.len x.cK] 29 (0, 0)) := by rw [← hwa]; exact World.alloc_heap_new _ _
 have hbc : Below (w.heap.size + 1) wa wc := by rw [← hwc, ← hsa]; exact (Below.refl _ wa).alloc (Nat.le_refl _) _
 have hec := (hbc.block _ (Nat.lt_succ_self _)).trans hea
 have h2c : Boxed wc (w.heap.size + 1) 40 (.int .i64 0) := by rw [← hwc, ← hsa]; exact Boxed.new _ _ _
 have hBc : Below w.heap.size w wc := hba.trans (hbc.mono (Nat.le_succ _))
 have hcall := exprSize_any x 4096 wc (hW.trans (hBc.mono hW.size)) hbig (by omega)
 have k0 := cell_of_row wc _ 0 _ _ _ hec
 have k1 := cell_of_row wc _ 1 _ _ _ hec
 have k2 := cell_of_row wc _ 2 _ _ _ hec
 have k3 := cell_of_row wc _ 3 _ _ _ hec
 have k4 := cell_of_row wc _ 4 _ _ _ hec
 have k5 := cell_of_row wc _ 5 _ _ _ hec
 have k6 := cell_of_row wc _ 6 _ _ _ hec
 have k7 := cell_of_row wc _ 7 _ _ _ hec
 have HN := hid (fun w => exprNodes_any x w)
 have HN' : Kpt (∀ w, Calls Tryz.prog 69 #[.agg #[.int .i64 x.e.k, .string x.e.m, .string x.e.n, .string x.e.tx, .int .i64 x.e.num, .slice x.aT x.e.T.len x.cT, .slice x.aL x.e.L.length x.cL, .slice x.aK x.e.K.len x.cK]] w _) := hid HN.out
 have HS := hid (show Calls Tryz.prog 57 #[.agg #[.int .i64 x.e.k, .string x.e.m, .string x.e.n, .string x.e.tx, .int .i64 x.e.num, .slice x.aT x.e.T.len x.cT, .slice x.aL x.e.L.length x.cL, .slice x.aK x.e.K.len x.cK], .int .i64 4096] wc _ from hcall)
 have HB := hid (And.intro hec (And.intro h2c (And.intro hBc (And.intro hW (And.intro hE hsc)))))
 clear hba hea hbc hec h2c hBc hcall HN hW hE
 have HX := hid (show chkX x.e = if 4096 < x.e.size ∨ 32 < x.e.depth then 7 else fst0 (x.e.nodes.map chkE) from rfl)
 show Calls Tryz.prog 25 #[.agg #[.int .i64 x.e.k, .string x.e.m, .string x.e.n, .string x.e.tx, .int .i64 x.e.num, .slice x.aT x.e.T.len x.cT, .slice x.aL x.e.L.length x.cL, .slice x.aK x.e.K.len x.cK]] w _
 refine (callsIn_wide (n := 9)).1 ?_
 refine callsIn_of_wp_marks Tryz.func25 rfl trivial ?_ rfl
 simp only [Tryz.ntmps25, List.size_toArray, List.length_cons, List.length_nil, Nat.reduceAdd, Nat.reduceSub, Array.replicate_succ, Array.replicate_zero, List.push_toArray, List.append_toArray, List.nil_append, List.cons_append]
 gi_wp2_with fail
 refine ⟨trivial, callsIn_wide.2 (HS.out.mono ?_)⟩
 rintro e w2 ⟨⟨r0, rfl, hr1, hnr⟩, hb2⟩
 by_cases h4 : x.e.size ≤ 4096
 · obtain rfl : r0 = (x.e.size : Int) := by obtain ⟨_, hn1, hn2⟩ := hnr; omega
   clear hnr hr1
   have hd := xdepth_all w0 x.e.bk hbig x (Nat.le_refl _) w2 (KeepX.of_below (HB.out.2.2.2.1.trans ((HB.out.2.2.1.trans (hb2.mono HB.out.2.2.1.size)).mono HB.out.2.2.2.1.size)))
   have k0 := old_cell hb2 k0
   have k1 := old_cell hb2 k1
   have k2 := old_cell hb2 k2
   have k3 := old_cell hb2 k3
   have k4 := old_cell hb2 k4
   have k5 := old_cell hb2 k5
   have k6 := old_cell hb2 k6
   have k7 := old_cell hb2 k7
   have H2 := hid hb2
   have HD := hid (show Calls Tryz.prog 67 #[.agg #[.int .i64 x.e.k, .string x.e.m, .string x.e.n, .string x.e.tx, .int .i64 x.e.num, .slice x.aT x.e.T.len x.cT, .slice x.aL x.e.L.length x.cL, .slice x.aK x.e.K.len x.cK], .func (.func 68) #[] #[]] w2 _ from hd)
   clear hb2 hd
   by_cases h5 : x.e.depth ≤ 32
   · gi_wp2_with fail
     refine ⟨trivial, callsIn_wide.2 (HD.out.mono ?_)⟩
     rintro e w3 ⟨rfl, hb3⟩
     have k0 := old_cell hb3 k0
     have k1 := old_cell hb3 k1
     have k2 := old_cell hb3 k2
     have k3 := old_cell hb3 k3
     have k4 := old_cell hb3 k4
     have k5 := old_cell hb3 k5
     have k6 := old_cell hb3 k6
     have k7 := old_cell hb3 k7
     have H3 := hid hb3
     clear hb3
     gi_wp2_with fail
     refine ⟨trivial, callsIn_wide.2 ((HN'.out _).mono ?_)⟩
     rintro e W6 ⟨rfl, hW6'⟩
     have HW6 := hid hW6'
     clear hW6'
     gi_wp2_with fail
     have hW6 := HW6.out
     clear HW6
     have hs6 : w3.heap.size + 3 = W6.heap.size := by rw [hW6]; simp
     have hB6 : Below w3.heap.size w3 W6 := by
      rw [hW6]; exact (((Below.refl _ w3).alloc (Nat.le_refl _) _).alloc (by simp) _).alloc (by simp; omega) _
     have b2 : W6.heap[w3.heap.size + 1]? = some (.cells x.cells 29 (0, 0)) := by
      rw [hW6]
      refine (Below.heap_alloc _ _ _ (by simp)).trans ?_
      have h := World.alloc_heap_new (w3.alloc (.cells x.cells 29)) (.cells x.cells 29)
      simpa only [World.size_alloc] using h
     have b3 : Boxed W6 (w3.heap.size + 2) 91 (.func (.func 68) #[] #[]) := by
      rw [hW6]; have h := Boxed.new ((w3.alloc (.cells x.cells 29)).alloc (.cells x.cells 29)) 91 (.func (.func 68) #[] #[])
      simpa only [World.size_alloc] using h
     have hs3 : wc.heap.size ≤ w3.heap.size := Nat.le_trans H2.out.size H3.out.size
     have hB3 : Below w.heap.size w w3 := HB.out.2.2.1.trans ((H2.out.trans (H3.out.mono H2.out.size)).mono HB.out.2.2.1.size)
     have hB : Below w.heap.size w W6 := hB3.trans (hB6.mono hB3.size)
     have hsc := HB.out.2.2.2.2.2
     have b1 : Boxed W6 (w.heap.size + 1) 40 (.int .i64 0) := (hB6.block _ (by omega)).trans ((H3.out.block _ (by have := H2.out.size; omega)).trans ((H2.out.block _ (by omega)).trans HB.out.2.1))
     clear hW6 k0 k1 k2 k3 k4 k5 k6 k7
     have hw0 := HB.out.2.2.2.1.size
     refine range_box 3 29 XpI.cells (gf := 179) (lb := #[.pointer (some ⟨w3.heap.size + 1, 0, none⟩), .pointer (some ⟨w3.heap.size + 2, 0, none⟩)]) rfl (enters_of Tryz.func179 (by kernel_rfl) rfl)
      (xnodes_seq w0 x hbig (w3.heap.size + 1) (w3.heap.size + 2) W6 b2 b3 (KeepX.of_below (HB.out.2.2.2.1.trans (hB.mono HB.out.2.2.2.1.size))) (fun i => i = w.heap.size + 1) (fun i hi => by omega))
      (fun i hi => by omega) (Below.refl _ _) (fun _ => rfl)
      (fun pre W => fst0 (pre.map fun y => chkE y.e) = 0 ∧ Boxed W (w.heap.size + 1) 40 (.int .i64 0) ∧ Below w.heap.size w W)
      (fun c pre W => c = .ret ∧ fst0 (pre.map fun y => chkE y.e) ≠ 0 ∧ Boxed W (w.heap.size + 1) 40 (.int .i64 (fst0 (pre.map fun y => chkE y.e))) ∧ Below w.heap.size w W)
      ?hI ?hIx ⟨rfl, b1, hB⟩ ?assign ?body ?done ?stop
     case hI =>
      intro s A B hs hb
      exact ⟨hs.1, (hb.block _ (by omega)).trans hs.2.1, hs.2.2.trans (hb.mono (by omega))⟩
     case hIx =>
      intro c s A B hs hb
      exact ⟨hs.1, hs.2.1, (hb.block _ (by omega)).trans hs.2.2.1, hs.2.2.2.trans (hb.mono (by omega))⟩
     case assign =>
      intro m l' y W'
      dsimp only [XpI.v, XpI.cells]
      gi_wp2_with fail
      exact ⟨trivial, by simp⟩
     case body =>
      rintro m l' Bx pre y W7 hl hlB hwB hBW hbx ⟨r, hr⟩ ⟨h1, h2, h3⟩ hv
      rw [List.map_append] at hv
      have hyn : y.e ∈ x.e.nodes := hv.subset (by simp)
      have hcall := checkexprnode_any y W7 (HB.out.2.2.2.1.trans (h3.mono hw0)) (Nat.le_trans (Xp.node_bk hyn) hbig) (HB.out.2.2.2.2.1.below h3)
      have e0 := cell_of_row W7 Bx 0 _ _ _ hbx
      have e1 := cell_of_row W7 Bx 1 _ _ _ hbx
      have e2 := cell_of_row W7 Bx 2 _ _ _ hbx
      have e3 := cell_of_row W7 Bx 3 _ _ _ hbx
      have e4 := cell_of_row W7 Bx 4 _ _ _ hbx
      have e5 := cell_of_row W7 Bx 5 _ _ _ hbx
      have e6 := cell_of_row W7 Bx 6 _ _ _ hbx
      have e7 := cell_of_row W7 Bx 7 _ _ _ hbx
      have hfs : fst0 ((pre ++ [y]).map fun y => chkE y.e) = chkE y.e := by
       rw [List.map_append, fst0_append, if_pos h1]; simp only [List.map_cons, List.map_nil, fst0]; split <;> simp_all
      have HZ := hid (And.intro h2 (And.intro h3 (And.intro hcall hfs)))
      clear h1 h2 h3 hv hcall hbx hfs hyn
      dsimp only [XpI.v, XpI.cells] at e0 e1 e2 e3 e4 e5 e6 e7 ⊢
      generalize chkE y.e = er at HZ
      by_cases her : er = 0
      · subst her
        gi_wp2_with fail
        refine ⟨trivial, fun h => (by cases h), CallsIn.inRound l' (callsIn_wide.2 (HZ.out.2.2.1.mono ?_))⟩
        rintro e w8 ⟨rfl, hb8⟩
        have H8 := hid hb8
        clear hb8
        gi_wp2_with fail
        exact ⟨KeepX.of_below H8.out, HZ.out.2.2.2, (H8.out.block _ HZ.out.1.lt).trans HZ.out.1, HZ.out.2.1.trans (H8.out.mono HZ.out.2.1.size)⟩
      · have her2 : (er != 0) = true := by simp [her]
        gi_wp2_with fail
        refine ⟨trivial, fun h => (by cases h), CallsIn.inRound l' (callsIn_wide.2 (HZ.out.2.2.1.mono ?_))⟩
        rintro e w8 ⟨rfl, hb8⟩
        have f8 : Boxed w8 _ _ _ := (hb8.block _ HZ.out.1.lt).trans HZ.out.1
        have g0 := f8.cell
        have g1 := f8.frozen
        have H8 := hid (And.intro hb8 f8)
        clear hb8 f8
        gi_wp2_with fail
        have hks := KeepX.set w8 (w.heap.size + 1) (.int .i64 er)
        have hse := H8.out.2.set (.int .i64 er)
        have hbS : Below w.heap.size w8 (w8.setCell ⟨w.heap.size + 1, 0, none⟩ (.int .i64 er)) := below_set _ _ (by omega)
        generalize w8.setCell ⟨w.heap.size + 1, 0, none⟩ (.int .i64 er) = w10 at hks hse hbS ⊢
        refine ⟨⟨Nat.le_trans H8.out.1.size hks.1, fun i hi hx => ?_⟩, rfl, by rw [HZ.out.2.2.2]; exact her, by rw [HZ.out.2.2.2]; exact hse, HZ.out.2.1.trans ((H8.out.1.mono HZ.out.2.1.size).trans hbS)⟩
        have hx' : ¬ i < W6.heap.size := hx
        rw [hks.2 i (Nat.lt_of_lt_of_le hi H8.out.1.size) (by omega), H8.out.1.block i hi]
     case done =>
      rintro D ys W9 hD hS ⟨h1, h2, h3⟩ hK
      have f9 := h2
      have g0 := f9.cell
      have g1 := f9.frozen
      have hDb : D ≠ w.heap.size + 1 := by omega
      have HG := hid (And.intro hS (And.intro h1 (And.intro f9 (And.intro h3 hK))))
      clear hS h1 h2 h3 f9 hK
      gi_wp2_with fail
      have hK1 : (W9.setCell ⟨w.heap.size + 1, 0, none⟩ (.int .i64 0)).heap[D]? = some (.deferred (some [])) := ((KeepX.set W9 _ _).2 D (Array.getElem?_eq_some_iff.1 HG.out.2.2.2.2).1 hDb).trans HG.out.2.2.2.2
      have hf : Boxed (W9.setCell ⟨w.heap.size + 1, 0, none⟩ (.int .i64 0)) (w.heap.size + 1) 40 (.int .i64 0) := HG.out.2.2.1.set _
      have hB9 : Below w.heap.size W9 ((W9.setCell ⟨w.heap.size + 1, 0, none⟩ (.int .i64 0)).putObj D (.deferred none)) := (below_set W9 _ (by omega)).trans (below_put (by omega) hK1)
      refine ⟨by simp, .inl ⟨_, _, rfl, run_takeDeferred hK1, ?_⟩⟩
      have m0 : ((W9.setCell ⟨w.heap.size + 1, 0, none⟩ (.int .i64 0)).putObj D (.deferred none)).cell? ⟨w.heap.size + 1, 0, none⟩ = some (.int .i64 0) := Boxed.cell (t := 40) ((World.putObj_heap_other (fun e => hDb e.symm)).trans hf)
      generalize (W9.setCell ⟨w.heap.size + 1, 0, none⟩ (.int .i64 0)).putObj D (.deferred none) = W10 at m0 hB9 ⊢
      have hr : chkX x.e = 0 := by
       rw [HX.out, if_neg (by omega), ← HG.out.1, List.map_map]; exact HG.out.2.1
      exact ⟨.int .i64 0, by simp [results, Tryz.results25, go_sem, m0], by rw [hr], HG.out.2.2.2.1.trans hB9⟩
     case stop =>
      rintro D c pre W9 hD hv ⟨rfl, h0, h1, h2⟩ hK
      have c0 := h1.cell
      have HG := hid (And.intro h0 (And.intro h1 (And.intro h2 (And.intro hK hv))))
      clear h0 h1 h2 hK hv
      gi_wp2_with fail
      have hDb : D ≠ w.heap.size + 1 := by omega
      have hB9 : Below w.heap.size W9 (W9.putObj D (.deferred none)) := below_put (by omega) HG.out.2.2.2.1
      have m0 : (W9.putObj D (.deferred none)).cell? ⟨w.heap.size + 1, 0, none⟩ = some (.int .i64 (fst0 (pre.map fun y => chkE y.e))) := Boxed.cell (t := 40) ((World.putObj_heap_other (fun e => hDb e.symm)).trans HG.out.2.1)
      refine ⟨by simp, .inl ⟨_, _, rfl, run_takeDeferred HG.out.2.2.2.1, ?_⟩⟩
      generalize W9.putObj D (.deferred none) = W10 at m0 hB9 ⊢
      have hr : chkX x.e = fst0 (pre.map fun y => chkE y.e) := by
       rw [HX.out, if_neg (by omega)]
       have hp : (pre.map fun y => chkE y.e) <+: x.e.nodes.map chkE := by
        have h := HG.out.2.2.2.2.map chkE
        rwa [List.map_map] at h
       exact fst0_prefix hp HG.out.1
      exact ⟨.int .i64 (fst0 (pre.map fun y => chkE y.e)), by simp [results, Tryz.results25, go_sem, m0], by rw [hr], HG.out.2.2.1.trans hB9⟩
   · gi_wp2_with fail
     refine ⟨trivial, callsIn_wide.2 (HD.out.mono ?_)⟩
     rintro e w3 ⟨rfl, hb3⟩
     have f3 : Boxed w3 _ _ _ := (hb3.block _ (by have := H2.out.size; have := HB.out.2.2.2.2.2; omega)).trans ((H2.out.block _ (by have := HB.out.2.2.2.2.2; omega)).trans HB.out.2.1)
     have g0 := f3.cell
     have g1 := f3.frozen
     have H3 := hid (And.intro hb3 f3)
     clear hb3 f3
     have hset := (H3.out.2.set (.int .i64 7))
     have m0 := hset.cell
     have hbS : Below w.heap.size w3 (World.setCell w3 ⟨w.heap.size + 1, 0, none⟩ (.int .i64 7)) := below_set _ _ (by omega)
     gi_wp2_with fail
     refine ⟨_, by simp [results, Tryz.results25, go_sem, m0]; rfl, by rw [HX.out, if_pos (.inr (by omega))], HB.out.2.2.1.trans (((H2.out.trans (H3.out.1.mono H2.out.size)).mono HB.out.2.2.1.size).trans hbS)⟩
 · have hr4 : 4096 < r0 := by obtain ⟨_, hn1, hn2⟩ := hnr; omega
   clear hnr hr1
   have f2 : Boxed w2 _ _ _ := (hb2.block _ (by have := HB.out.2.2.2.2.2; omega)).trans HB.out.2.1
   have g0 := f2.cell
   have g1 := f2.frozen
   have H2 := hid (And.intro hb2 f2)
   clear hb2 f2
   have hset := (H2.out.2.set (.int .i64 7))
   have m0 := hset.cell
   have hbS : Below w.heap.size w2 (World.setCell w2 ⟨w.heap.size + 1, 0, none⟩ (.int .i64 7)) := below_set _ _ (by omega)
   gi_wp2_with fail
   refine ⟨trivial, ?_⟩
   gi_wp2_with fail
   refine ⟨_, by simp [results, Tryz.results25, go_sem, m0]; rfl, by rw [HX.out, if_pos (.inl (by omega))], HB.out.2.2.1.trans ((H2.out.1.mono HB.out.2.2.1.size).trans hbS)⟩
end Go.Proofs.YtnkhebgjhipepaaGreatDoor

namespace Go.Proofs.YtnkhebgjhipepaaGreatDoor
open Go.RowKit

theorem fst0_zero {l : List Int} : fst0 l = 0 ↔ ∀ e ∈ l, e = 0 := by
 induction l with
 | nil => simp [fst0]
 | cons a l ih =>
  simp only [fst0, List.mem_cons, forall_eq_or_imp]
  by_cases h : a = 0
  · rw [if_pos h]; exact ⟨fun h2 => ⟨h, ih.1 h2⟩, fun h2 => ih.2 h2.2⟩
  · rw [if_neg h]; exact ⟨fun h2 => absurd h2 h, fun h2 => h2.1⟩
theorem le_maxL {n : Nat} : ∀ {l : List Nat}, n ∈ l → n ≤ maxL l := by
 intro l
 induction l with
 | nil => intro h; cases h
 | cons a l ih =>
  intro h
  simp only [maxL, List.foldr_cons] at *
  rcases List.mem_cons.1 h with rfl | h
  · omega
  · have := ih h; omega
theorem chkT_zero {t : Ty} : chkT t = 0 ↔ (t.size ≤ 4096 ∧ t.depth ≤ 32) ∧ ∀ p ∈ t.nodes, chkN p = 0 := by
 unfold chkT
 by_cases h : 4096 < t.size ∨ 32 < t.depth
 · rw [if_pos h]
   exact ⟨fun h2 => by omega, fun h2 => by have := h2.1; omega⟩
 · rw [if_neg h, fst0_zero]
   constructor
   · intro h2; exact ⟨by omega, fun p hp => h2 _ (List.mem_map.2 ⟨p, hp, rfl⟩)⟩
   · rintro ⟨_, h2⟩ e he
     obtain ⟨p, hp, rfl⟩ := List.mem_map.1 he
     exact h2 p hp
theorem Ty.part_depth {t p : Ty} (h : p ∈ t.parts) : p.depth < t.depth := by
 rw [t.depth_parts]
 have := le_maxL (List.mem_map.2 ⟨p, h, rfl⟩ : p.depth ∈ t.parts.map Ty.depth)
 omega
theorem Ty.part_nodes {t p q : Ty} (h : p ∈ t.parts) (hq : q ∈ p.nodes) : q ∈ t.nodes := by
 rw [t.nodes_parts]
 exact List.mem_cons_of_mem _ (List.mem_flatMap.2 ⟨p, h, hq⟩)
theorem chkT_part {t p : Ty} (h : chkT t = 0) (hp : p ∈ t.parts) : chkT p = 0 ∧ p.depth < t.depth := by
 obtain ⟨⟨h1, h2⟩, h3⟩ := chkT_zero.1 h
 have h4 := Ty.part_size hp
 have h5 := Ty.part_depth hp
 exact ⟨chkT_zero.2 ⟨⟨by omega, by omega⟩, fun q hq => h3 q (Ty.part_nodes hp hq)⟩, h5⟩
theorem chkX_zero {t : Xp} : chkX t = 0 ↔ (t.size ≤ 4096 ∧ t.depth ≤ 32) ∧ ∀ p ∈ t.nodes, chkE p = 0 := by
 unfold chkX
 by_cases h : 4096 < t.size ∨ 32 < t.depth
 · rw [if_pos h]
   exact ⟨fun h2 => by omega, fun h2 => by have := h2.1; omega⟩
 · rw [if_neg h, fst0_zero]
   constructor
   · intro h2; exact ⟨by omega, fun p hp => h2 _ (List.mem_map.2 ⟨p, hp, rfl⟩)⟩
   · rintro ⟨_, h2⟩ e he
     obtain ⟨p, hp, rfl⟩ := List.mem_map.1 he
     exact h2 p hp
theorem Xp.kid_depth {t p : Xp} (h : p ∈ t.kids) : p.depth < t.depth := by
 rw [t.depth_kids]
 have := le_maxL (List.mem_map.2 ⟨p, h, rfl⟩ : p.depth ∈ t.kids.map Xp.depth)
 omega
theorem Xp.kid_nodes {t p q : Xp} (h : p ∈ t.kids) (hq : q ∈ p.nodes) : q ∈ t.nodes := by
 rw [t.nodes_kids]
 exact List.mem_cons_of_mem _ (List.mem_flatMap.2 ⟨p, h, hq⟩)
theorem Ex.el_size {K : Ex} {p : Xp} (h : p ∈ K.els) : p.size ≤ K.size := by
 induction K with
 | nil => cases h
 | node k m n tx num T L K nx hk hn =>
  simp only [Ex.els, List.mem_cons] at h
  rcases h with rfl | h
  · simp only [Ex.size, Xp.size]; omega
  · have := hn h; simp only [Ex.size]; omega
theorem Xp.kid_size {t p : Xp} (h : p ∈ t.kids) : p.size < t.size := by
 have h1 := Ex.el_size h
 have h2 : t.size = 1 + t.T.size + (if t.k = 8 then (t.L.map (·.t.size)).sum else 0) + t.K.size := rfl
 omega
theorem chkX_kid {t p : Xp} (h : chkX t = 0) (hp : p ∈ t.kids) : chkX p = 0 ∧ p.size < t.size := by
 obtain ⟨⟨h1, h2⟩, h3⟩ := chkX_zero.1 h
 have h4 := Xp.kid_size hp
 have h5 := Xp.kid_depth hp
 exact ⟨chkX_zero.2 ⟨⟨by omega, by omega⟩, fun q hq => h3 q (Xp.kid_nodes hp hq)⟩, h4⟩
end Go.Proofs.YtnkhebgjhipepaaGreatDoor
