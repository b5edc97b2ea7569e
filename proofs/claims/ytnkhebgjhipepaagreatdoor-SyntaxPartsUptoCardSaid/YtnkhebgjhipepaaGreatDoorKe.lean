/- syntax: the checks of an expression's node: the numbers of its parts. | syntax: the names of an expression's node. | syntax: the labels of an expression's node have nothing beside what the kind names. | syntax: an expression has nothing beside what its kind names. -/
import Derived.Test.YtnkhebgjhipepaaGreatDoorEv
import Derived.Test.YtnkhebgjhipepaaGreatDoorSyC
import Derived.Test.YtnkhebgjhipepaaGreatDoorEqV
namespace Go.Proofs.YtnkhebgjhipepaaGreatDoor
open Go.RowKit Go.Shelf
attribute [local go_sem] Oper.semAt_some

/-- The number of Types that a kind asks for. -/
def xTC (k : Int) (lt : Nat) : Int := if k = 4 then lt else if 11 ≤ k ∧ k ≤ 15 then 1 else 0
/-- The number of operands of an operator. -/
def opC (s : ByteArray) : Int := if s = (⟨#[43]⟩ : ByteArray) ∨ s = (⟨#[45]⟩ : ByteArray) ∨ s = (⟨#[42]⟩ : ByteArray) ∨ s = (⟨#[60]⟩ : ByteArray) ∨ s = (⟨#[61, 61]⟩ : ByteArray) ∨ s = (⟨#[61, 61, 61]⟩ : ByteArray) ∨ s = (⟨#[43, 43]⟩ : ByteArray) ∨ s = (⟨#[97, 110, 100]⟩ : ByteArray) ∨ s = (⟨#[111, 114]⟩ : ByteArray) then 2 else if s = (⟨#[110, 111, 116]⟩ : ByteArray) ∨ s = (⟨#[108, 101, 110, 103, 116, 104]⟩ : ByteArray) then 1 else -1
def optC (L : List Lb) : Nat := (L.filter (·.op)).length

set_option maxRecDepth 100000 in
set_option maxHeartbeats 4000000 in
theorem tcount_any (k num : Int) (m n tx : ByteArray) (aT aL aK : Option Addr) (lt cT ll cL lk cK : Nat) (w : World) :
    Calls Tryz.prog 123 #[.agg #[.int .i64 k, .string m, .string n, .string tx, .int .i64 num, .slice aT lt cT, .slice aL ll cL, .slice aK lk cK]] w fun e w' => e = .returned (.int .i64 (xTC k lt)) ∧ Below w.heap.size w w' := by
  obtain ⟨wa, hwa⟩ : ∃ wa, w.alloc (.cells #[.int .i64 k, .string m, .string n, .string tx, .int .i64 num, .slice aT lt cT, .slice aL ll cL, .slice aK lk cK] 29) = wa := ⟨_, rfl⟩
  have hba : Below w.heap.size w wa := by rw [← hwa]; exact (Below.refl _ w).alloc (Nat.le_refl _) _
  have hea : wa.heap[w.heap.size]? = some (.cells #[.int .i64 k, .string m, .string n, .string tx, .int .i64 num, .slice aT lt cT, .slice aL ll cL, .slice aK lk cK] 29 (0, 0)) := by rw [← hwa]; exact World.alloc_heap_new _ _
  have k0 := cell_of_row wa _ 0 _ _ _ hea
  have k5 := cell_of_row wa _ 5 _ _ _ hea
  have HB := hid hba
  clear hba hea
  rcases (by omega : k = 0 ∨ k = 1 ∨ k = 2 ∨ k = 3 ∨ k = 4 ∨ k = 5 ∨ k = 6 ∨ k = 7 ∨ k = 8 ∨ k = 9 ∨ k = 10 ∨ k = 11 ∨ k = 12 ∨ k = 13 ∨ k = 14 ∨ k = 15 ∨ k = 16 ∨ (k ≠ 0 ∧ k ≠ 1 ∧ k ≠ 2 ∧ k ≠ 3 ∧ k ≠ 4 ∧ k ≠ 5 ∧ k ≠ 6 ∧ k ≠ 7 ∧ k ≠ 8 ∧ k ≠ 9 ∧ k ≠ 10 ∧ k ≠ 11 ∧ k ≠ 12 ∧ k ≠ 13 ∧ k ≠ 14 ∧ k ≠ 15 ∧ k ≠ 16)) with
    rfl | rfl | rfl | rfl | rfl | rfl | rfl | rfl | rfl | rfl | rfl | rfl | rfl | rfl | rfl | rfl | rfl | ⟨h0, h1, h2, h3, h4, h5, h6, h7, h8, h9, h10, h11, h12, h13, h14, h15, h16⟩
  iterate 17
    · go_enter Tryz.func123, Tryz.ntmps123
      go_wp2_with fail
      go_ret
      exact ⟨by simp [xTC], HB.out⟩
  have hr : xTC k lt = 0 := by unfold xTC; rw [if_neg (by omega), if_neg (by omega)]
  rw [hr]
  clear hr
  go_enter Tryz.func123, Tryz.ntmps123
  go_wp2_with fail
  go_ret
  exact ⟨rfl, HB.out⟩
set_option maxRecDepth 100000 in
set_option maxHeartbeats 4000000 in
theorem opcount_any (s : ByteArray) (w : World) : Calls Tryz.prog 182 #[.string s] w fun e w' => e = .returned (.int .i64 (opC s)) ∧ w' = w := by
  by_cases q0 : s = (⟨#[43]⟩ : ByteArray)
  · subst q0
    go_enter Tryz.func182, Tryz.ntmps182
    go_wp2_with fail
    go_ret
    exact ⟨by first | rfl | decide | simp [opC], rfl⟩
  by_cases q1 : s = (⟨#[45]⟩ : ByteArray)
  · subst q1
    go_enter Tryz.func182, Tryz.ntmps182
    go_wp2_with fail
    go_ret
    exact ⟨by first | rfl | decide | simp [opC], rfl⟩
  by_cases q2 : s = (⟨#[42]⟩ : ByteArray)
  · subst q2
    go_enter Tryz.func182, Tryz.ntmps182
    go_wp2_with fail
    go_ret
    exact ⟨by first | rfl | decide | simp [opC], rfl⟩
  by_cases q3 : s = (⟨#[60]⟩ : ByteArray)
  · subst q3
    go_enter Tryz.func182, Tryz.ntmps182
    go_wp2_with fail
    go_ret
    exact ⟨by first | rfl | decide | simp [opC], rfl⟩
  by_cases q4 : s = (⟨#[61, 61]⟩ : ByteArray)
  · subst q4
    go_enter Tryz.func182, Tryz.ntmps182
    go_wp2_with fail
    go_ret
    exact ⟨by first | rfl | decide | simp [opC], rfl⟩
  by_cases q5 : s = (⟨#[61, 61, 61]⟩ : ByteArray)
  · subst q5
    go_enter Tryz.func182, Tryz.ntmps182
    go_wp2_with fail
    go_ret
    exact ⟨by first | rfl | decide | simp [opC], rfl⟩
  by_cases q6 : s = (⟨#[43, 43]⟩ : ByteArray)
  · subst q6
    go_enter Tryz.func182, Tryz.ntmps182
    go_wp2_with fail
    go_ret
    exact ⟨by first | rfl | decide | simp [opC], rfl⟩
  by_cases q7 : s = (⟨#[97, 110, 100]⟩ : ByteArray)
  · subst q7
    go_enter Tryz.func182, Tryz.ntmps182
    go_wp2_with fail
    go_ret
    exact ⟨by first | rfl | decide | simp [opC], rfl⟩
  by_cases q8 : s = (⟨#[111, 114]⟩ : ByteArray)
  · subst q8
    go_enter Tryz.func182, Tryz.ntmps182
    go_wp2_with fail
    go_ret
    exact ⟨by first | rfl | decide | simp [opC], rfl⟩
  by_cases q9 : s = (⟨#[110, 111, 116]⟩ : ByteArray)
  · subst q9
    go_enter Tryz.func182, Tryz.ntmps182
    go_wp2_with fail
    go_ret
    exact ⟨by first | rfl | decide | simp [opC], rfl⟩
  by_cases q10 : s = (⟨#[108, 101, 110, 103, 116, 104]⟩ : ByteArray)
  · subst q10
    go_enter Tryz.func182, Tryz.ntmps182
    go_wp2_with fail
    go_ret
    exact ⟨by first | rfl | decide | simp [opC], rfl⟩
  have hr : opC s = -1 := by unfold opC; simp only [q0, q1, q2, q3, q4, q5, q6, q7, q8, q9, q10, or_self, if_false]
  rw [hr]
  have r0 : (s.toList == [43]) = false := by have h := toList_ne q0; simpa [ByteArray.toList_eq] using h
  have r1 : (s.toList == [45]) = false := by have h := toList_ne q1; simpa [ByteArray.toList_eq] using h
  have r2 : (s.toList == [42]) = false := by have h := toList_ne q2; simpa [ByteArray.toList_eq] using h
  have r3 : (s.toList == [60]) = false := by have h := toList_ne q3; simpa [ByteArray.toList_eq] using h
  have r4 : (s.toList == [61, 61]) = false := by have h := toList_ne q4; simpa [ByteArray.toList_eq] using h
  have r5 : (s.toList == [61, 61, 61]) = false := by have h := toList_ne q5; simpa [ByteArray.toList_eq] using h
  have r6 : (s.toList == [43, 43]) = false := by have h := toList_ne q6; simpa [ByteArray.toList_eq] using h
  have r7 : (s.toList == [97, 110, 100]) = false := by have h := toList_ne q7; simpa [ByteArray.toList_eq] using h
  have r8 : (s.toList == [111, 114]) = false := by have h := toList_ne q8; simpa [ByteArray.toList_eq] using h
  have r9 : (s.toList == [110, 111, 116]) = false := by have h := toList_ne q9; simpa [ByteArray.toList_eq] using h
  have r10 : (s.toList == [108, 101, 110, 103, 116, 104]) = false := by have h := toList_ne q10; simpa [ByteArray.toList_eq] using h
  clear hr q0 q1 q2 q3 q4 q5 q6 q7 q8 q9 q10
  go_enter Tryz.func182, Tryz.ntmps182
  go_wp2_with fail
  go_ret
  exact ⟨rfl, rfl⟩
set_option maxRecDepth 100000 in
set_option maxHeartbeats 4000000 in
theorem optcount_any (w0 : World) (L : List Lb) (aL : Option Addr) (cL : Nat) (hL : SlD w0 aL (encLb L)) (hl : L.length ≤ 1099511627776) (W : World) (hW : Below w0.heap.size w0 W) :
    Calls Tryz.prog 181 #[.slice aL L.length cL] W fun e W' => e = .returned (.int .i64 (optC L : Int)) ∧ Below W.heap.size W W' := by
  have HL := hid hL
  have HW := hid hW
  clear hL hW
  go_enter Tryz.func181, Tryz.ntmps181
  go_wp2_with fail
  go_loopw [3, 8] (fun q a wr => ∃ (i d : Nat) (r : List Lb), a = .int .i64 (i : Int) ∧ q = .int .i64 (d : Int) ∧ d ≤ i ∧ r.length + i = L.length ∧ Kpt (d + optC r = optC L) ∧ Kpt (RowD w0 (encLb r) aL (i * 8)) ∧ Below W.heap.size W wr) (fun _ a _ => L.length - (intOf a).toNat)
  case atStart => exact ⟨0, 0, L, rfl, rfl, Nat.le_refl _, by omega, ⟨by omega⟩, ⟨rowD_zero HL.out⟩, Below.refl _ _⟩
  case round =>
    obtain ⟨i, d, r, rfl, rfl, hdi, hri, hd, hR, hB⟩ := hrel
    cases r with
    | nil =>
      have hi9 : i = L.length := by simp only [List.length_nil] at hri; omega
      subst hi9
      have hdd : d = optC L := hd.out
      have HZ := hid (And.intro hdd hB)
      clear hdd hd hri hR hB
      go_wp2_with fail
      go_ret
      exact ⟨by rw [← HZ.out.1] <;> rfl, HZ.out.2⟩
    | cons lx r' =>
      have hlt : i < L.length := by simp only [List.length_cons] at hri; omega
      obtain ⟨bf, of, y, haf, hy, ⟨d0, d1, d2, d3, d4, d5, d6, d7⟩, hr1⟩ := rowD_lb hR.out
      have hWr := HW.out.trans (hB.mono HW.out.size)
      replace d0 := old_cell hWr d0
      replace d1 := old_cell hWr d1
      replace d2 := old_cell hWr d2
      replace d3 := old_cell hWr d3
      replace d4 := old_cell hWr d4
      replace d5 := old_cell hWr d5
      replace d6 := old_cell hWr d6
      replace d7 := old_cell hWr d7
      rw [haf]
      have hsum : optC (lx :: r') = (if lx.op = true then 1 else 0) + optC r' := by unfold optC; rw [List.filter_cons]; split <;> simp <;> omega
      have hri' : r'.length + (i + 1) = L.length := by simp only [List.length_cons] at hri; omega
      obtain ⟨wb, hwb⟩ : ∃ wb, wr.alloc (.cells #[.string lx.nm, .string lx.vr, .int .i64 y.t.k, .string y.t.m, .string y.t.n, .slice y.aa y.t.A.len y.ca, .slice y.af y.t.F.len y.cf, .bool lx.op] 102) = wb := ⟨_, rfl⟩
      have hbb : Below wr.heap.size wr wb := by rw [← hwb]; exact (Below.refl _ wr).alloc (Nat.le_refl _) _
      have heb : wb.heap[wr.heap.size]? = some (.cells #[.string lx.nm, .string lx.vr, .int .i64 y.t.k, .string y.t.m, .string y.t.n, .slice y.aa y.t.A.len y.ca, .slice y.af y.t.F.len y.cf, .bool lx.op] 102 (0, 0)) := by rw [← hwb]; exact World.alloc_heap_new _ _
      have g7 := cell_of_row wb _ 7 _ _ _ heb
      have HQ := hid (And.intro hr1 (And.intro (hB.trans (hbb.mono hB.size)) (And.intro hd.out (And.intro hsum hri'))))
      clear hr1 hB hd hsum hri' hri hbb heb hWr hR hy
      cases hop : lx.op with
      | true =>
        rw [hop] at g7 hwb d7
        have HS := hid (show d + 1 + optC r' = optC L by have h := HQ.out.2.2.1; rw [HQ.out.2.2.2.1, hop] at h; simp at h; omega)
        clear hop
        go_wp2_with fail
        go_roundw
        case rel => exact ⟨i + 1, d + 1, r', by go_num, by go_num, by omega, HQ.out.2.2.2.2, ⟨HS.out⟩, haf ▸ ⟨HQ.out.1⟩, HQ.out.2.1⟩
        case measure => simp [intOf]; omega
      | false =>
        rw [hop] at g7 hwb d7
        have HS := hid (show d + optC r' = optC L by have h := HQ.out.2.2.1; rw [HQ.out.2.2.2.1, hop] at h; simp at h; omega)
        clear hop
        subst hwb
        go_wp2_with fail
        go_roundw
        case rel => exact ⟨i + 1, d, r', by go_num, rfl, by omega, HQ.out.2.2.2.2, ⟨HS.out⟩, haf ▸ ⟨HQ.out.1⟩, HQ.out.2.1⟩
        case measure => simp [intOf]; omega
/-- The number of Kids that the form of an expression asks for. -/
def kidC (k : Int) (L : List Lb) (n : ByteArray) (lk : Nat) : Int :=
  if 0 ≤ k ∧ k ≤ 4 then 0 else if k = 6 ∨ k = 7 ∨ k = 11 then 1 else if k = 10 then 2 else if k = 12 ∨ k = 15 then 3 else if k = 5 then L.length else
  if k = 8 then optC L + 1 else if k = 9 ∨ k = 13 then L.length + 1 else if k = 14 then lk else if k = 16 then opC n else -1
theorem optC_le (L : List Lb) : optC L ≤ L.length := List.length_filter_le _ _
set_option maxRecDepth 100000 in
set_option maxHeartbeats 8000000 in
theorem kidcount_any {w0 : World} (x : XpI w0) (hl : x.e.L.length ≤ 1099511627776) (W : World) (hW : Below w0.heap.size w0 W) :
    Calls Tryz.prog 124 #[.agg #[.int .i64 x.e.k, .string x.e.m, .string x.e.n, .string x.e.tx, .int .i64 x.e.num, .slice x.aT x.e.T.len x.cT, .slice x.aL x.e.L.length x.cL, .slice x.aK x.e.K.len x.cK]] W fun e W' => e = .returned (.int .i64 (kidC x.e.k x.e.L x.e.n x.e.K.len)) ∧ Below W.heap.size W W' := by
  obtain ⟨wa, hwa⟩ : ∃ wa, W.alloc (.cells #[.int .i64 x.e.k, .string x.e.m, .string x.e.n, .string x.e.tx, .int .i64 x.e.num, .slice x.aT x.e.T.len x.cT, .slice x.aL x.e.L.length x.cL, .slice x.aK x.e.K.len x.cK] 29) = wa := ⟨_, rfl⟩
  have hba : Below W.heap.size W wa := by rw [← hwa]; exact (Below.refl _ W).alloc (Nat.le_refl _) _
  have hea : wa.heap[W.heap.size]? = some (.cells #[.int .i64 x.e.k, .string x.e.m, .string x.e.n, .string x.e.tx, .int .i64 x.e.num, .slice x.aT x.e.T.len x.cT, .slice x.aL x.e.L.length x.cL, .slice x.aK x.e.K.len x.cK] 29 (0, 0)) := by rw [← hwa]; exact World.alloc_heap_new _ _
  have k0 := cell_of_row wa _ 0 _ _ _ hea
  have k2 := cell_of_row wa _ 2 _ _ _ hea
  have k6 := cell_of_row wa _ 6 _ _ _ hea
  have k7 := cell_of_row wa _ 7 _ _ _ hea
  have HB := hid hba
  have HOC := hid (optcount_any w0 x.e.L x.aL x.cL x.hL hl wa (hW.trans (hba.mono hW.size)))
  have hol := optC_le x.e.L
  have HOP := hid (opcount_any x.e.n wa)
  have hww : wrap64 ((x.e.L.length : Int) + 1) = (x.e.L.length : Int) + 1 := by unfold wrap64; omega
  have hwo : wrap64 ((optC x.e.L : Int) + 1) = (optC x.e.L : Int) + 1 := by unfold wrap64; omega
  clear hba hea hW
  generalize x.e.k = k at *
  rcases (by omega : k = 0 ∨ k = 1 ∨ k = 2 ∨ k = 3 ∨ k = 4 ∨ k = 5 ∨ k = 6 ∨ k = 7 ∨ k = 8 ∨ k = 9 ∨ k = 10 ∨ k = 11 ∨ k = 12 ∨ k = 13 ∨ k = 14 ∨ k = 15 ∨ k = 16 ∨ (k ≠ 0 ∧ k ≠ 1 ∧ k ≠ 2 ∧ k ≠ 3 ∧ k ≠ 4 ∧ k ≠ 5 ∧ k ≠ 6 ∧ k ≠ 7 ∧ k ≠ 8 ∧ k ≠ 9 ∧ k ≠ 10 ∧ k ≠ 11 ∧ k ≠ 12 ∧ k ≠ 13 ∧ k ≠ 14 ∧ k ≠ 15 ∧ k ≠ 16)) with
    rfl | rfl | rfl | rfl | rfl | rfl | rfl | rfl | rfl | rfl | rfl | rfl | rfl | rfl | rfl | rfl | rfl | ⟨h0, h1, h2, h3, h4, h5, h6, h7, h8, h9, h10, h11, h12, h13, h14, h15, h16⟩
  · go_enter Tryz.func124, Tryz.ntmps124
    go_wp2_with fail
    go_ret
    exact ⟨by simp [kidC], HB.out⟩
  · go_enter Tryz.func124, Tryz.ntmps124
    go_wp2_with fail
    go_ret
    exact ⟨by simp [kidC], HB.out⟩
  · go_enter Tryz.func124, Tryz.ntmps124
    go_wp2_with fail
    go_ret
    exact ⟨by simp [kidC], HB.out⟩
  · go_enter Tryz.func124, Tryz.ntmps124
    go_wp2_with fail
    go_ret
    exact ⟨by simp [kidC], HB.out⟩
  · go_enter Tryz.func124, Tryz.ntmps124
    go_wp2_with fail
    go_ret
    exact ⟨by simp [kidC], HB.out⟩
  · go_enter Tryz.func124, Tryz.ntmps124
    go_wp2_with fail
    go_ret
    exact ⟨by simp [kidC], HB.out⟩
  · go_enter Tryz.func124, Tryz.ntmps124
    go_wp2_with fail
    go_ret
    exact ⟨by simp [kidC], HB.out⟩
  · go_enter Tryz.func124, Tryz.ntmps124
    go_wp2_with fail
    go_ret
    exact ⟨by simp [kidC], HB.out⟩
  · have hr : kidC 8 x.e.L x.e.n x.e.K.len = (optC x.e.L : Int) + 1 := by simp [kidC]
    rw [hr]
    go_enter Tryz.func124, Tryz.ntmps124
    go_wp2_with fail
    refine HOC.out.mono ?_
    rintro e w2 ⟨rfl, hb⟩
    have H2 := hid hb
    clear hb
    go_wp2_with fail
    go_ret
    exact ⟨rfl, HB.out.trans (H2.out.mono HB.out.size)⟩
  · go_enter Tryz.func124, Tryz.ntmps124
    go_wp2_with fail
    go_ret
    exact ⟨by simp [kidC], HB.out⟩
  · go_enter Tryz.func124, Tryz.ntmps124
    go_wp2_with fail
    go_ret
    exact ⟨by simp [kidC], HB.out⟩
  · go_enter Tryz.func124, Tryz.ntmps124
    go_wp2_with fail
    go_ret
    exact ⟨by simp [kidC], HB.out⟩
  · go_enter Tryz.func124, Tryz.ntmps124
    go_wp2_with fail
    go_ret
    exact ⟨by simp [kidC], HB.out⟩
  · go_enter Tryz.func124, Tryz.ntmps124
    go_wp2_with fail
    go_ret
    exact ⟨by simp [kidC], HB.out⟩
  · go_enter Tryz.func124, Tryz.ntmps124
    go_wp2_with fail
    go_ret
    exact ⟨by simp [kidC], HB.out⟩
  · go_enter Tryz.func124, Tryz.ntmps124
    go_wp2_with fail
    go_ret
    exact ⟨by simp [kidC], HB.out⟩
  · have hr : kidC 16 x.e.L x.e.n x.e.K.len = opC x.e.n := by simp [kidC]
    rw [hr]
    go_enter Tryz.func124, Tryz.ntmps124
    go_wp2_with fail
    refine HOP.out.mono ?_
    rintro e w2 ⟨rfl, rfl⟩
    go_wp2_with fail
    go_ret
    exact ⟨rfl, HB.out⟩
  have hr : kidC k x.e.L x.e.n x.e.K.len = -1 := by unfold kidC; repeat rw [if_neg (by omega)]
  rw [hr]
  clear hr
  go_enter Tryz.func124, Tryz.ntmps124
  go_wp2_with fail
  go_ret
  exact ⟨rfl, HB.out⟩
end Go.Proofs.YtnkhebgjhipepaaGreatDoor

namespace Go.Proofs.YtnkhebgjhipepaaGreatDoor
open Go.RowKit Go.Shelf
attribute [local go_sem] Oper.semAt_some

/-- Whether a string is a name. -/
def nmB (s : ByteArray) : Bool := isWk s.data.toList 1
/-- Whether Module, Name and Text, and the variables of the arms, are as the kind asks. -/
def exN (e : Xp) : Bool :=
  if e.k = 3 ∨ e.k = 6 ∨ e.k = 7 ∨ e.k = 10 then nmB e.n else if e.k = 4 then orgB e.m && nmB e.n else if e.k = 15 then nmB e.n && nmB e.tx else
  if e.k = 13 then e.L.all (fun l => nmB l.vr) else true
set_option maxRecDepth 100000 in
set_option maxHeartbeats 8000000 in
theorem exnames_any {w0 : World} (x : XpI w0) (hl : x.e.L.length ≤ 1099511627776) (hs : x.e.m.size ≤ 9223372036854775807 ∧ x.e.n.size ≤ 9223372036854775807 ∧ x.e.tx.size ≤ 9223372036854775807 ∧ ∀ l ∈ x.e.L, l.vr.size ≤ 9223372036854775807) (W : World) (hW : Below w0.heap.size w0 W) (hE : Env W) :
    Calls Tryz.prog 127 #[.agg #[.int .i64 x.e.k, .string x.e.m, .string x.e.n, .string x.e.tx, .int .i64 x.e.num, .slice x.aT x.e.T.len x.cT, .slice x.aL x.e.L.length x.cL, .slice x.aK x.e.K.len x.cK]] W fun e W' => e = .returned (.bool (exN x.e)) ∧ Below W.heap.size W W' := by
  obtain ⟨wa, hwa⟩ : ∃ wa, W.alloc (.cells #[.int .i64 x.e.k, .string x.e.m, .string x.e.n, .string x.e.tx, .int .i64 x.e.num, .slice x.aT x.e.T.len x.cT, .slice x.aL x.e.L.length x.cL, .slice x.aK x.e.K.len x.cK] 29) = wa := ⟨_, rfl⟩
  have hba : Below W.heap.size W wa := by rw [← hwa]; exact (Below.refl _ W).alloc (Nat.le_refl _) _
  have hea : wa.heap[W.heap.size]? = some (.cells #[.int .i64 x.e.k, .string x.e.m, .string x.e.n, .string x.e.tx, .int .i64 x.e.num, .slice x.aT x.e.T.len x.cT, .slice x.aL x.e.L.length x.cL, .slice x.aK x.e.K.len x.cK] 29 (0, 0)) := by rw [← hwa]; exact World.alloc_heap_new _ _
  have k0 := cell_of_row wa _ 0 _ _ _ hea
  have k1 := cell_of_row wa _ 1 _ _ _ hea
  have k2 := cell_of_row wa _ 2 _ _ _ hea
  have k3 := cell_of_row wa _ 3 _ _ _ hea
  have k6 := cell_of_row wa _ 6 _ _ _ hea
  have HB := hid (And.intro hba hea)
  have HWa := hid (hW.trans (hba.mono hW.size))
  have HO := hid (isorigin_any x.e.m wa hs.1 (hE.below hba))
  have HN : Kpt (∀ w, Calls Tryz.prog 105 #[.string x.e.n] w fun e w' => e = .returned (.bool (nmB x.e.n)) ∧ w' = w) := hid (fun w => isname_any x.e.n w hs.2.1)
  have HT : Kpt (∀ w, Calls Tryz.prog 105 #[.string x.e.tx] w fun e w' => e = .returned (.bool (nmB x.e.tx)) ∧ w' = w) := hid (fun w => isname_any x.e.tx w hs.2.2.1)
  have HL : Kpt (∀ l ∈ x.e.L, ∀ w, Calls Tryz.prog 105 #[.string l.vr] w fun e w' => e = .returned (.bool (nmB l.vr)) ∧ w' = w) := hid (fun l hl' w => isname_any l.vr w (hs.2.2.2 l hl'))
  have HR : Kpt (exN x.e = if x.e.k = 3 ∨ x.e.k = 6 ∨ x.e.k = 7 ∨ x.e.k = 10 then nmB x.e.n else if x.e.k = 4 then orgB x.e.m && nmB x.e.n else if x.e.k = 15 then nmB x.e.n && nmB x.e.tx else if x.e.k = 13 then x.e.L.all (fun l => nmB l.vr) else true) := hid rfl
  clear hba hea hW hs hE
  generalize exN x.e = RES at HR ⊢
  by_cases q3 : x.e.k = 3
  · have hr : RES = nmB x.e.n := by rw [HR.out, if_pos (by omega)]
    rw [q3] at k0 hwa
    rw [hr, q3]
    clear HR hr
    go_enter Tryz.func127, Tryz.ntmps127
    go_wp2_with fail
    refine (HN.out _).mono ?_
    rintro e w2 ⟨rfl, rfl⟩
    go_wp2_with fail
    go_ret
    exact ⟨rfl, HB.out.1⟩
  by_cases q6 : x.e.k = 6
  · have hr : RES = nmB x.e.n := by rw [HR.out, if_pos (by omega)]
    rw [q6] at k0 hwa
    rw [hr, q6]
    clear HR hr
    go_enter Tryz.func127, Tryz.ntmps127
    go_wp2_with fail
    refine (HN.out _).mono ?_
    rintro e w2 ⟨rfl, rfl⟩
    go_wp2_with fail
    go_ret
    exact ⟨rfl, HB.out.1⟩
  by_cases q7 : x.e.k = 7
  · have hr : RES = nmB x.e.n := by rw [HR.out, if_pos (by omega)]
    rw [q7] at k0 hwa
    rw [hr, q7]
    clear HR hr
    go_enter Tryz.func127, Tryz.ntmps127
    go_wp2_with fail
    refine (HN.out _).mono ?_
    rintro e w2 ⟨rfl, rfl⟩
    go_wp2_with fail
    go_ret
    exact ⟨rfl, HB.out.1⟩
  by_cases q10 : x.e.k = 10
  · have hr : RES = nmB x.e.n := by rw [HR.out, if_pos (by omega)]
    rw [q10] at k0 hwa
    rw [hr, q10]
    clear HR hr
    go_enter Tryz.func127, Tryz.ntmps127
    go_wp2_with fail
    refine (HN.out _).mono ?_
    rintro e w2 ⟨rfl, rfl⟩
    go_wp2_with fail
    go_ret
    exact ⟨rfl, HB.out.1⟩
  by_cases q4 : x.e.k = 4
  · have hr : RES = (orgB x.e.m && nmB x.e.n) := by rw [HR.out, if_neg (by omega), if_pos q4]
    rw [q4] at k0 hwa
    rw [hr, q4]
    clear HR hr
    go_enter Tryz.func127, Tryz.ntmps127
    go_wp2_with fail
    refine HO.out.mono ?_
    rintro e w2 ⟨rfl, hb⟩
    have k2' := old_cell hb k2
    have H2 := hid hb
    clear hb
    cases hO : orgB x.e.m with
    | false =>
      go_wp2_with fail
      go_ret
      exact ⟨by simp [hO], HB.out.1.trans (H2.out.mono HB.out.1.size)⟩
    | true =>
      go_wp2_with fail
      refine (HN.out _).mono ?_
      rintro e w3 ⟨rfl, rfl⟩
      go_wp2_with fail
      go_ret
      exact ⟨by simp [hO], HB.out.1.trans (H2.out.mono HB.out.1.size)⟩
  by_cases q15 : x.e.k = 15
  · have hr : RES = (nmB x.e.n && nmB x.e.tx) := by rw [HR.out, if_neg (by omega), if_neg q4, if_pos q15]
    rw [q15] at k0 hwa
    rw [hr, q15]
    clear HR hr
    go_enter Tryz.func127, Tryz.ntmps127
    go_wp2_with fail
    refine (HN.out _).mono ?_
    rintro e w2 ⟨rfl, rfl⟩
    cases hO : nmB x.e.n with
    | false =>
      go_wp2_with fail
      go_ret
      exact ⟨by simp [hO], HB.out.1⟩
    | true =>
      go_wp2_with fail
      refine (HT.out _).mono ?_
      rintro e w3 ⟨rfl, rfl⟩
      go_wp2_with fail
      go_ret
      exact ⟨by simp [hO], HB.out.1⟩
  by_cases q13 : x.e.k = 13
  · have hr : RES = x.e.L.all (fun l => nmB l.vr) := by rw [HR.out, if_neg (by omega), if_neg q4, if_neg q15, if_pos q13]
    have hX := x.hL
    rw [q13] at k0 hwa
    rw [hr, q13]
    clear HR hr
    have HXL := hid hX
    clear hX
    go_enter Tryz.func127, Tryz.ntmps127
    go_wp2_with fail
    clear hwa
    go_loopw [40] (fun a wr => ∃ (i : Nat) (r : List Lb), a = .int .i64 (i : Int) ∧ r.length + i = x.e.L.length ∧ Kpt (r.all (fun l => nmB l.vr) = x.e.L.all (fun l => nmB l.vr)) ∧ Kpt (∀ l ∈ r, l ∈ x.e.L) ∧ Kpt (RowD w0 (encLb r) x.aL (i * 8)) ∧ Below wa.heap.size wa wr) (fun a _ => x.e.L.length - (intOf a).toNat)
    case atStart => exact ⟨0, x.e.L, rfl, by omega, ⟨rfl⟩, ⟨fun _ h => h⟩, ⟨rowD_zero HXL.out⟩, Below.refl _ _⟩
    case round =>
      obtain ⟨i, r, rfl, hri, hall, hmem, hR, hB⟩ := hrel
      cases r with
      | nil =>
        have hi9 : i = x.e.L.length := by simp only [List.length_nil] at hri; omega
        subst hi9
        have HZ := hid (And.intro hall.out hB)
        clear hri hR hB
        go_wp2_with fail
        go_ret
        exact ⟨by rw [← HZ.out.1]; rfl, HB.out.1.trans (HZ.out.2.mono HB.out.1.size)⟩
      | cons lx r' =>
        have hlt : i < x.e.L.length := by simp only [List.length_cons] at hri; omega
        obtain ⟨bf, of, y, haf, hy, ⟨d0, d1, d2, d3, d4, d5, d6, d7⟩, hr1⟩ := rowD_lb hR.out
        have hWr := HWa.out.trans (hB.mono HWa.out.size)
        replace d0 := old_cell hWr d0
        replace d1 := old_cell hWr d1
        replace d2 := old_cell hWr d2
        replace d3 := old_cell hWr d3
        replace d4 := old_cell hWr d4
        replace d5 := old_cell hWr d5
        replace d6 := old_cell hWr d6
        replace d7 := old_cell hWr d7
        rw [haf]
        have hri' : r'.length + (i + 1) = x.e.L.length := by simp only [List.length_cons] at hri; omega
        obtain ⟨wb, hwb⟩ : ∃ wb, wr.alloc (.cells #[.string lx.nm, .string lx.vr, .int .i64 y.t.k, .string y.t.m, .string y.t.n, .slice y.aa y.t.A.len y.ca, .slice y.af y.t.F.len y.cf, .bool lx.op] 102) = wb := ⟨_, rfl⟩
        have hbb : Below wr.heap.size wr wb := by rw [← hwb]; exact (Below.refl _ wr).alloc (Nat.le_refl _) _
        have heb : wb.heap[wr.heap.size]? = some (.cells #[.string lx.nm, .string lx.vr, .int .i64 y.t.k, .string y.t.m, .string y.t.n, .slice y.aa y.t.A.len y.ca, .slice y.af y.t.F.len y.cf, .bool lx.op] 102 (0, 0)) := by rw [← hwb]; exact World.alloc_heap_new _ _
        have g1 := cell_of_row wb _ 1 _ _ _ heb
        have HC := hid (HL.out lx (hmem.out lx List.mem_cons_self))
        have HQ := hid (And.intro hr1 (And.intro (hB.trans (hbb.mono hB.size)) (And.intro hall.out (And.intro hri' (fun l hl' => hmem.out l (List.mem_cons_of_mem _ hl'))))))
        clear hr1 hB hall hri' hri hbb heb hWr hR hy hmem
        go_wp2_with fail
        refine (HC.out _).mono ?_
        rintro e w4 ⟨rfl, rfl⟩
        cases hO : nmB lx.vr with
        | false =>
          have HF := hid (show x.e.L.all (fun l => nmB l.vr) = false by rw [← HQ.out.2.2.1, List.all_cons, hO]; rfl)
          clear hO
          go_wp2_with fail
          go_ret
          exact ⟨by rw [HF.out]; rfl, HB.out.1.trans (HQ.out.2.1.mono HB.out.1.size)⟩
        | true =>
          have HF := hid (show r'.all (fun l => nmB l.vr) = x.e.L.all (fun l => nmB l.vr) by rw [← HQ.out.2.2.1, List.all_cons, hO]; rfl)
          clear hO
          go_wp2_with fail
          go_roundw
          case rel => exact ⟨i + 1, r', by go_num, HQ.out.2.2.2.1, ⟨HF.out⟩, ⟨HQ.out.2.2.2.2⟩, haf ▸ ⟨HQ.out.1⟩, HQ.out.2.1⟩
          case measure => simp [intOf]; omega
  have hr : RES = true := by rw [HR.out, if_neg (by omega), if_neg q4, if_neg q15, if_neg q13]
  rw [hr]
  clear HR hr
  go_enter Tryz.func127, Tryz.ntmps127
  go_wp2_with fail
  go_ret
  exact ⟨rfl, HB.out.1⟩
end Go.Proofs.YtnkhebgjhipepaaGreatDoor

namespace Go.Proofs.YtnkhebgjhipepaaGreatDoor
open Go.RowKit Go.Shelf
attribute [local go_sem] Oper.semAt_some

def Ty0 : Ty := ⟨0, ⟨#[]⟩, ⟨#[]⟩, .nil, .nil⟩
def Lb0 : Lb := { nm := ⟨#[]⟩, vr := ⟨#[]⟩, t := Ty0, op := false }
/-- What is left of a label without what the kind names. -/
def restL (k : Int) (l : Lb) : Lb := if k = 8 then { nm := ⟨#[]⟩, vr := l.vr, t := Ty0, op := false } else if k = 13 then { nm := ⟨#[]⟩, vr := ⟨#[]⟩, t := l.t, op := l.op } else { nm := ⟨#[]⟩, vr := l.vr, t := l.t, op := l.op }
def TyI0 (w : World) : TyI w := { t := Ty0, aa := none, ca := 0, af := none, cf := 0, hk := by decide, ha := .inl rfl, hf := .inl rfl }
set_option maxRecDepth 100000 in
set_option maxHeartbeats 8000000 in
theorem labelparts_any {w0 : World} (x : XpI w0) (hl : x.e.L.length ≤ 1099511627776) (hts : ∀ l ∈ x.e.L, l.t.size ≤ 1099511627776) (W : World) (hW : Below w0.heap.size w0 W) :
    Calls Tryz.prog 126 #[.agg #[.int .i64 x.e.k, .string x.e.m, .string x.e.n, .string x.e.tx, .int .i64 x.e.num, .slice x.aT x.e.T.len x.cT, .slice x.aL x.e.L.length x.cL, .slice x.aK x.e.K.len x.cK]] W fun e W' => e = .returned (.bool (x.e.L.all fun l => (restL x.e.k l).eq Lb0)) ∧ Below W.heap.size W W' := by
  obtain ⟨wa, hwa⟩ : ∃ wa, W.alloc (.cells #[.int .i64 x.e.k, .string x.e.m, .string x.e.n, .string x.e.tx, .int .i64 x.e.num, .slice x.aT x.e.T.len x.cT, .slice x.aL x.e.L.length x.cL, .slice x.aK x.e.K.len x.cK] 29) = wa := ⟨_, rfl⟩
  have hba : Below W.heap.size W wa := by rw [← hwa]; exact (Below.refl _ W).alloc (Nat.le_refl _) _
  have hea : wa.heap[W.heap.size]? = some (.cells #[.int .i64 x.e.k, .string x.e.m, .string x.e.n, .string x.e.tx, .int .i64 x.e.num, .slice x.aT x.e.T.len x.cT, .slice x.aL x.e.L.length x.cL, .slice x.aK x.e.K.len x.cK] 29 (0, 0)) := by rw [← hwa]; exact World.alloc_heap_new _ _
  have k6 := cell_of_row wa _ 6 _ _ _ hea
  have HB := hid (And.intro hba hea)
  have HWa := hid (hW.trans (hba.mono hW.size))
  have HTS := hid hts
  clear hba hea hW hts
  have HXL := hid x.hL
  go_enter Tryz.func126, Tryz.ntmps126
  go_wp2_with fail
  clear hwa
  go_loopw [8] (fun a wr => ∃ (i : Nat) (r : List Lb), a = .int .i64 (i : Int) ∧ r.length + i = x.e.L.length ∧ Kpt (r.all (fun l => (restL x.e.k l).eq Lb0) = x.e.L.all (fun l => (restL x.e.k l).eq Lb0)) ∧ Kpt (∀ l ∈ r, l ∈ x.e.L) ∧ Kpt (RowD w0 (encLb r) x.aL (i * 8)) ∧ Below wa.heap.size wa wr) (fun a _ => x.e.L.length - (intOf a).toNat)
  case atStart => exact ⟨0, x.e.L, rfl, by omega, ⟨rfl⟩, ⟨fun _ h => h⟩, ⟨rowD_zero HXL.out⟩, Below.refl _ _⟩
  case round =>
    obtain ⟨i, r, rfl, hri, hall, hmem, hR, hB⟩ := hrel
    cases r with
    | nil =>
      have hi9 : i = x.e.L.length := by simp only [List.length_nil] at hri; omega
      subst hi9
      have HZ := hid (And.intro hall.out hB)
      clear hri hR hB k6 hall hmem
      go_wp2_with fail
      go_ret
      exact ⟨by rw [← HZ.out.1]; rfl, HB.out.1.trans (HZ.out.2.mono HB.out.1.size)⟩
    | cons lx r' =>
      have hlt : i < x.e.L.length := by simp only [List.length_cons] at hri; omega
      obtain ⟨bf, of, y, haf, hy, ⟨d0, d1, d2, d3, d4, d5, d6, d7⟩, hr1⟩ := rowD_lb hR.out
      have hWr := HWa.out.trans (hB.mono HWa.out.size)
      replace d0 := old_cell hWr d0
      replace d1 := old_cell hWr d1
      replace d2 := old_cell hWr d2
      replace d3 := old_cell hWr d3
      replace d4 := old_cell hWr d4
      replace d5 := old_cell hWr d5
      replace d6 := old_cell hWr d6
      replace d7 := old_cell hWr d7
      rw [haf]
      have hea := (hB.block _ (Array.getElem?_eq_some_iff.1 HB.out.2).1).trans HB.out.2
      have hri' : r'.length + (i + 1) = x.e.L.length := by simp only [List.length_cons] at hri; omega
      have hyt : y.t.size ≤ 1099511627776 := by rw [hy]; exact HTS.out lx (hmem.out lx List.mem_cons_self)
      have hba1 : Below wr.heap.size wr (wr.alloc (.cells #[.string ⟨#[]⟩, .string lx.vr, .int .i64 y.t.k, .string y.t.m, .string y.t.n, .slice y.aa y.t.A.len y.ca, .slice y.af y.t.F.len y.cf, .bool lx.op] 102)) := (Below.refl _ wr).alloc (Nat.le_refl _) _
      have m1 := cell_of_row _ _ 0 _ _ _ ((hba1.block _ (Array.getElem?_eq_some_iff.1 hea).1).trans hea)
      have HQ := hid (And.intro hr1 (And.intro hB (And.intro hall.out (And.intro hri' (And.intro (fun l hl' => hmem.out l (List.mem_cons_of_mem _ hl')) hWr)))))
      have HY := hid hy
      clear hr1 hB hall hri' hri hR hy hmem hea hba1 hWr k6

      by_cases qk : x.e.k = 8
      · obtain ⟨wb, hwb⟩ : ∃ wb, wr.alloc (.cells #[.string ⟨#[]⟩, .string lx.vr, .int .i64 0, .string ⟨#[]⟩, .string ⟨#[]⟩, .slice none 0 0, .slice none 0 0, .bool false] 102) = wb := ⟨_, rfl⟩
        have hbb : Below wr.heap.size wr wb := by rw [← hwb]; exact (Below.refl _ wr).alloc (Nat.le_refl _) _
        have heb : wb.heap[wr.heap.size]? = some (.cells #[.string ⟨#[]⟩, .string lx.vr, .int .i64 0, .string ⟨#[]⟩, .string ⟨#[]⟩, .slice none 0 0, .slice none 0 0, .bool false] 102 (0, 0)) := by rw [← hwb]; exact World.alloc_heap_new _ _
        have g0 := cell_of_row wb _ 0 _ _ _ heb
        have g1 := cell_of_row wb _ 1 _ _ _ heb
        have g2 := cell_of_row wb _ 2 _ _ _ heb
        have g3 := cell_of_row wb _ 3 _ _ _ heb
        have g4 := cell_of_row wb _ 4 _ _ _ heb
        have g5 := cell_of_row wb _ 5 _ _ _ heb
        have g6 := cell_of_row wb _ 6 _ _ _ heb
        have g7 := cell_of_row wb _ 7 _ _ _ heb
        have hres : restL x.e.k lx = { nm := ⟨#[]⟩, vr := lx.vr, t := Ty0, op := false } := by unfold restL; rw [if_pos qk]
        have HC : Kpt (Calls Tryz.prog 78 #[.agg #[.string ⟨#[]⟩, .string lx.vr, .int .i64 0, .string ⟨#[]⟩, .string ⟨#[]⟩, .slice none 0 0, .slice none 0 0, .bool false], .agg #[.string ⟨#[]⟩, .string ⟨#[]⟩, .int .i64 0, .string ⟨#[]⟩, .string ⟨#[]⟩, .slice none 0 0, .slice none 0 0, .bool false]] wb fun e W'' => e = .returned (.bool ((restL x.e.k lx).eq Lb0)) ∧ Below wb.heap.size wb W'') := hid (by rw [hres]; exact lb_any w0 { nm := ⟨#[]⟩, vr := lx.vr, t := Ty0, op := false } Lb0 (TyI0 w0) (TyI0 w0) rfl rfl (by show Ty.size Ty0 ≤ _; decide) wb (HQ.out.2.2.2.2.2.trans (hbb.mono HQ.out.2.2.2.2.2.size)))
        clear hres
        have H2 := hid (HQ.out.2.1.trans (hbb.mono HQ.out.2.1.size))
        clear hbb heb
        rw [qk] at m1
        clear qk
        go_wp2_with fail
        refine HC.out.mono ?_
        rintro e w4 ⟨rfl, hb4⟩
        have H4 := hid (H2.out.trans (hb4.mono H2.out.size))
        clear hb4
        cases hO : (restL x.e.k lx).eq Lb0 with
        | false =>
          have HF := hid (show x.e.L.all (fun l => (restL x.e.k l).eq Lb0) = false by rw [← HQ.out.2.2.1, List.all_cons, hO]; rfl)
          clear hO
          go_wp2_with fail
          go_ret
          exact ⟨by rw [HF.out]; rfl, HB.out.1.trans (H4.out.mono HB.out.1.size)⟩
        | true =>
          have HF := hid (show r'.all (fun l => (restL x.e.k l).eq Lb0) = x.e.L.all (fun l => (restL x.e.k l).eq Lb0) by rw [← HQ.out.2.2.1, List.all_cons, hO]; rfl)
          clear hO
          go_wp2_with fail
          go_roundw
          case rel => exact ⟨i + 1, r', by go_num, HQ.out.2.2.2.1, ⟨HF.out⟩, ⟨HQ.out.2.2.2.2.1⟩, haf ▸ ⟨HQ.out.1⟩, H4.out⟩
          case measure => simp [intOf]; omega

      have q8 := qk
      clear qk
      by_cases qk : x.e.k = 13
      · obtain ⟨wb, hwb⟩ : ∃ wb, wr.alloc (.cells #[.string ⟨#[]⟩, .string ⟨#[]⟩, .int .i64 y.t.k, .string y.t.m, .string y.t.n, .slice y.aa y.t.A.len y.ca, .slice y.af y.t.F.len y.cf, .bool lx.op] 102) = wb := ⟨_, rfl⟩
        have hbb : Below wr.heap.size wr wb := by rw [← hwb]; exact (Below.refl _ wr).alloc (Nat.le_refl _) _
        have heb : wb.heap[wr.heap.size]? = some (.cells #[.string ⟨#[]⟩, .string ⟨#[]⟩, .int .i64 y.t.k, .string y.t.m, .string y.t.n, .slice y.aa y.t.A.len y.ca, .slice y.af y.t.F.len y.cf, .bool lx.op] 102 (0, 0)) := by rw [← hwb]; exact World.alloc_heap_new _ _
        have g0 := cell_of_row wb _ 0 _ _ _ heb
        have g1 := cell_of_row wb _ 1 _ _ _ heb
        have g2 := cell_of_row wb _ 2 _ _ _ heb
        have g3 := cell_of_row wb _ 3 _ _ _ heb
        have g4 := cell_of_row wb _ 4 _ _ _ heb
        have g5 := cell_of_row wb _ 5 _ _ _ heb
        have g6 := cell_of_row wb _ 6 _ _ _ heb
        have g7 := cell_of_row wb _ 7 _ _ _ heb
        have hres : restL x.e.k lx = { nm := ⟨#[]⟩, vr := ⟨#[]⟩, t := lx.t, op := lx.op } := by unfold restL; rw [if_neg q8, if_pos qk]
        have HC : Kpt (Calls Tryz.prog 78 #[.agg #[.string ⟨#[]⟩, .string ⟨#[]⟩, .int .i64 y.t.k, .string y.t.m, .string y.t.n, .slice y.aa y.t.A.len y.ca, .slice y.af y.t.F.len y.cf, .bool lx.op], .agg #[.string ⟨#[]⟩, .string ⟨#[]⟩, .int .i64 0, .string ⟨#[]⟩, .string ⟨#[]⟩, .slice none 0 0, .slice none 0 0, .bool false]] wb fun e W'' => e = .returned (.bool ((restL x.e.k lx).eq Lb0)) ∧ Below wb.heap.size wb W'') := hid (by rw [hres]; exact lb_any w0 { nm := ⟨#[]⟩, vr := ⟨#[]⟩, t := lx.t, op := lx.op } Lb0 y (TyI0 w0) HY.out rfl hyt wb (HQ.out.2.2.2.2.2.trans (hbb.mono HQ.out.2.2.2.2.2.size)))
        clear hres
        have H2 := hid (HQ.out.2.1.trans (hbb.mono HQ.out.2.1.size))
        clear hbb heb
        rw [qk] at m1
        clear qk
        go_wp2_with fail
        refine HC.out.mono ?_
        rintro e w4 ⟨rfl, hb4⟩
        have H4 := hid (H2.out.trans (hb4.mono H2.out.size))
        clear hb4
        cases hO : (restL x.e.k lx).eq Lb0 with
        | false =>
          have HF := hid (show x.e.L.all (fun l => (restL x.e.k l).eq Lb0) = false by rw [← HQ.out.2.2.1, List.all_cons, hO]; rfl)
          clear hO
          go_wp2_with fail
          go_ret
          exact ⟨by rw [HF.out]; rfl, HB.out.1.trans (H4.out.mono HB.out.1.size)⟩
        | true =>
          have HF := hid (show r'.all (fun l => (restL x.e.k l).eq Lb0) = x.e.L.all (fun l => (restL x.e.k l).eq Lb0) by rw [← HQ.out.2.2.1, List.all_cons, hO]; rfl)
          clear hO
          go_wp2_with fail
          go_roundw
          case rel => exact ⟨i + 1, r', by go_num, HQ.out.2.2.2.1, ⟨HF.out⟩, ⟨HQ.out.2.2.2.2.1⟩, haf ▸ ⟨HQ.out.1⟩, H4.out⟩
          case measure => simp [intOf]; omega

      skip
      · obtain ⟨wb, hwb⟩ : ∃ wb, wr.alloc (.cells #[.string ⟨#[]⟩, .string lx.vr, .int .i64 y.t.k, .string y.t.m, .string y.t.n, .slice y.aa y.t.A.len y.ca, .slice y.af y.t.F.len y.cf, .bool lx.op] 102) = wb := ⟨_, rfl⟩
        have hbb : Below wr.heap.size wr wb := by rw [← hwb]; exact (Below.refl _ wr).alloc (Nat.le_refl _) _
        have heb : wb.heap[wr.heap.size]? = some (.cells #[.string ⟨#[]⟩, .string lx.vr, .int .i64 y.t.k, .string y.t.m, .string y.t.n, .slice y.aa y.t.A.len y.ca, .slice y.af y.t.F.len y.cf, .bool lx.op] 102 (0, 0)) := by rw [← hwb]; exact World.alloc_heap_new _ _
        have g0 := cell_of_row wb _ 0 _ _ _ heb
        have g1 := cell_of_row wb _ 1 _ _ _ heb
        have g2 := cell_of_row wb _ 2 _ _ _ heb
        have g3 := cell_of_row wb _ 3 _ _ _ heb
        have g4 := cell_of_row wb _ 4 _ _ _ heb
        have g5 := cell_of_row wb _ 5 _ _ _ heb
        have g6 := cell_of_row wb _ 6 _ _ _ heb
        have g7 := cell_of_row wb _ 7 _ _ _ heb
        have hres : restL x.e.k lx = { nm := ⟨#[]⟩, vr := lx.vr, t := lx.t, op := lx.op } := by unfold restL; rw [if_neg q8, if_neg qk]
        have HC : Kpt (Calls Tryz.prog 78 #[.agg #[.string ⟨#[]⟩, .string lx.vr, .int .i64 y.t.k, .string y.t.m, .string y.t.n, .slice y.aa y.t.A.len y.ca, .slice y.af y.t.F.len y.cf, .bool lx.op], .agg #[.string ⟨#[]⟩, .string ⟨#[]⟩, .int .i64 0, .string ⟨#[]⟩, .string ⟨#[]⟩, .slice none 0 0, .slice none 0 0, .bool false]] wb fun e W'' => e = .returned (.bool ((restL x.e.k lx).eq Lb0)) ∧ Below wb.heap.size wb W'') := hid (by rw [hres]; exact lb_any w0 { nm := ⟨#[]⟩, vr := lx.vr, t := lx.t, op := lx.op } Lb0 y (TyI0 w0) HY.out rfl hyt wb (HQ.out.2.2.2.2.2.trans (hbb.mono HQ.out.2.2.2.2.2.size)))
        clear hres
        have H2 := hid (HQ.out.2.1.trans (hbb.mono HQ.out.2.1.size))
        clear hbb heb
        rw [hwb] at m1
        go_wp2_with fail
        refine HC.out.mono ?_
        rintro e w4 ⟨rfl, hb4⟩
        have H4 := hid (H2.out.trans (hb4.mono H2.out.size))
        clear hb4
        cases hO : (restL x.e.k lx).eq Lb0 with
        | false =>
          have HF := hid (show x.e.L.all (fun l => (restL x.e.k l).eq Lb0) = false by rw [← HQ.out.2.2.1, List.all_cons, hO]; rfl)
          clear hO
          go_wp2_with fail
          go_ret
          exact ⟨by rw [HF.out]; rfl, HB.out.1.trans (H4.out.mono HB.out.1.size)⟩
        | true =>
          have HF := hid (show r'.all (fun l => (restL x.e.k l).eq Lb0) = x.e.L.all (fun l => (restL x.e.k l).eq Lb0) by rw [← HQ.out.2.2.1, List.all_cons, hO]; rfl)
          clear hO
          go_wp2_with fail
          go_roundw
          case rel => exact ⟨i + 1, r', by go_num, HQ.out.2.2.2.1, ⟨HF.out⟩, ⟨HQ.out.2.2.2.2.1⟩, haf ▸ ⟨HQ.out.1⟩, H4.out⟩
          case measure => simp [intOf]; omega

end Go.Proofs.YtnkhebgjhipepaaGreatDoor

namespace Go.Proofs.YtnkhebgjhipepaaGreatDoor
open Go.RowKit Go.Shelf
attribute [local go_sem] Oper.semAt_some

def Xp0 : Xp := { k := 0, m := ⟨#[]⟩, n := ⟨#[]⟩, tx := ⟨#[]⟩, num := 0, T := .nil, L := [], K := .nil }
def XpI0 (w : World) : XpI w := { e := Xp0, aT := none, cT := 0, aL := none, cL := 0, aK := none, cK := 0, hk := by decide, hnum := by decide, hT := .inl rfl, hL := .inl rfl, hK := .inl rfl }
/-- What is left of an expression without Types, Kids and what its kind names. -/
def restE (e : Xp) : Xp :=
  if e.k = 0 then { k := 0, m := e.m, n := e.n, tx := e.tx, num := 0, T := .nil, L := e.L, K := .nil } else if e.k = 1 then { k := 0, m := e.m, n := e.n, tx := ⟨#[]⟩, num := e.num, T := .nil, L := e.L, K := .nil } else
  if e.k = 2 then (if e.num = 1 then { k := 0, m := e.m, n := e.n, tx := e.tx, num := 0, T := .nil, L := e.L, K := .nil } else { k := 0, m := e.m, n := e.n, tx := e.tx, num := e.num, T := .nil, L := e.L, K := .nil }) else
  if e.k = 3 ∨ e.k = 6 ∨ e.k = 7 ∨ e.k = 10 ∨ e.k = 16 then { k := 0, m := e.m, n := ⟨#[]⟩, tx := e.tx, num := e.num, T := .nil, L := e.L, K := .nil } else if e.k = 4 then { k := 0, m := ⟨#[]⟩, n := ⟨#[]⟩, tx := e.tx, num := e.num, T := .nil, L := e.L, K := .nil } else
  if e.k = 5 ∨ e.k = 8 ∨ e.k = 9 ∨ e.k = 13 then { k := 0, m := e.m, n := e.n, tx := e.tx, num := e.num, T := .nil, L := [], K := .nil } else if e.k = 15 then { k := 0, m := e.m, n := ⟨#[]⟩, tx := ⟨#[]⟩, num := e.num, T := .nil, L := e.L, K := .nil } else { k := 0, m := e.m, n := e.n, tx := e.tx, num := e.num, T := .nil, L := e.L, K := .nil }
set_option maxRecDepth 100000 in
set_option maxHeartbeats 16000000 in
theorem exprparts_any {w0 : World} (x : XpI w0) (hb : x.e.bk ≤ 1099511627776) (W : World) (hW : Below w0.heap.size w0 W) :
    Calls Tryz.prog 125 #[.agg #[.int .i64 x.e.k, .string x.e.m, .string x.e.n, .string x.e.tx, .int .i64 x.e.num, .slice x.aT x.e.T.len x.cT, .slice x.aL x.e.L.length x.cL, .slice x.aK x.e.K.len x.cK]] W fun e W' => e = .returned (.bool ((restE x.e).eq Xp0)) ∧ Below W.heap.size W W' := by
  obtain ⟨wa, hwa⟩ : ∃ wa, W.alloc (.cells #[.int .i64 x.e.k, .string x.e.m, .string x.e.n, .string x.e.tx, .int .i64 x.e.num, .slice x.aT x.e.T.len x.cT, .slice x.aL x.e.L.length x.cL, .slice x.aK x.e.K.len x.cK] 29) = wa := ⟨_, rfl⟩
  have hba : Below W.heap.size W wa := by rw [← hwa]; exact (Below.refl _ W).alloc (Nat.le_refl _) _
  have hea : wa.heap[W.heap.size]? = some (.cells #[.int .i64 x.e.k, .string x.e.m, .string x.e.n, .string x.e.tx, .int .i64 x.e.num, .slice x.aT x.e.T.len x.cT, .slice x.aL x.e.L.length x.cL, .slice x.aK x.e.K.len x.cK] 29 (0, 0)) := by rw [← hwa]; exact World.alloc_heap_new _ _
  have k0 := cell_of_row wa _ 0 _ _ _ hea
  have k1 := cell_of_row wa _ 1 _ _ _ hea
  have k2 := cell_of_row wa _ 2 _ _ _ hea
  have k3 := cell_of_row wa _ 3 _ _ _ hea
  have k4 := cell_of_row wa _ 4 _ _ _ hea
  have k5 := cell_of_row wa _ 5 _ _ _ hea
  have k6 := cell_of_row wa _ 6 _ _ _ hea
  have k7 := cell_of_row wa _ 7 _ _ _ hea
  have hba1 : Below wa.heap.size wa (wa.alloc (.cells #[.int .i64 0, .string x.e.m, .string x.e.n, .string x.e.tx, .int .i64 x.e.num, .slice none 0 0, .slice x.aL x.e.L.length x.cL, .slice none 0 0] 29)) := (Below.refl _ wa).alloc (Nat.le_refl _) _
  have m0 := cell_of_row _ _ 0 _ _ _ ((hba1.block _ (Array.getElem?_eq_some_iff.1 hea).1).trans hea)
  have m4 := cell_of_row _ _ 4 _ _ _ ((hba1.block _ (Array.getElem?_eq_some_iff.1 hea).1).trans hea)
  have HB := hid (And.intro hba (hW.trans (hba.mono hW.size)))
  have HX := hid hb
  clear hba hea hW hba1 hb
  have HE := hid (fun (y z : XpI w0) (hy : y.e.bk ≤ 1099511627776) W hW => xp_all w0 _ (Nat.le_refl 1099511627776) y z hy W hW)
  have hbk := x.e.bk_eq
  by_cases q0 : x.e.k = 0
  · have hres : restE x.e = { k := 0, m := x.e.m, n := x.e.n, tx := x.e.tx, num := 0, T := .nil, L := x.e.L, K := .nil } := by unfold restE; rw [if_pos q0]
    obtain ⟨wb, hwb⟩ : ∃ wb, wa.alloc (.cells #[.int .i64 0, .string x.e.m, .string x.e.n, .string x.e.tx, .int .i64 0, .slice none 0 0, .slice x.aL x.e.L.length x.cL, .slice none 0 0] 29) = wb := ⟨_, rfl⟩
    have hbb : Below wa.heap.size wa wb := by rw [← hwb]; exact (Below.refl _ wa).alloc (Nat.le_refl _) _
    have heb : wb.heap[wa.heap.size]? = some (.cells #[.int .i64 0, .string x.e.m, .string x.e.n, .string x.e.tx, .int .i64 0, .slice none 0 0, .slice x.aL x.e.L.length x.cL, .slice none 0 0] 29 (0, 0)) := by rw [← hwb]; exact World.alloc_heap_new _ _
    have g0 := cell_of_row wb _ 0 _ _ _ heb
    have g1 := cell_of_row wb _ 1 _ _ _ heb
    have g2 := cell_of_row wb _ 2 _ _ _ heb
    have g3 := cell_of_row wb _ 3 _ _ _ heb
    have g4 := cell_of_row wb _ 4 _ _ _ heb
    have g5 := cell_of_row wb _ 5 _ _ _ heb
    have g6 := cell_of_row wb _ 6 _ _ _ heb
    have g7 := cell_of_row wb _ 7 _ _ _ heb
    have HC : Kpt (Calls Tryz.prog 29 #[.agg #[.int .i64 0, .string x.e.m, .string x.e.n, .string x.e.tx, .int .i64 0, .slice none 0 0, .slice x.aL x.e.L.length x.cL, .slice none 0 0], .agg #[.int .i64 0, .string ⟨#[]⟩, .string ⟨#[]⟩, .string ⟨#[]⟩, .int .i64 0, .slice none 0 0, .slice none 0 0, .slice none 0 0]] wb fun e W'' => e = .returned (.bool ((restE x.e).eq Xp0)) ∧ Below wb.heap.size wb W'') := hid (by rw [hres]; exact HE.out { e := { k := 0, m := x.e.m, n := x.e.n, tx := x.e.tx, num := 0, T := .nil, L := x.e.L, K := .nil }, aT := none, cT := 0, aL := x.aL, cL := x.cL, aK := none, cK := 0, hk := (rfl : (Lit.int .i64 0).wf = true), hnum := (rfl : (Lit.int .i64 0).wf = true), hT := .inl rfl, hL := x.hL, hK := .inl rfl } (XpI0 w0) (by have h := HX.out; rw [Xp.bk_eq] at h; rw [Xp.bk_eq]; simp only [Tr.enc, encLb, Ex.enc, Dt.bk] at h ⊢; have he0 : (⟨#[]⟩ : ByteArray).size = 0 := rfl; omega) wb (HB.out.2.trans (hbb.mono HB.out.2.size)))
    have H2 := hid (HB.out.1.trans (hbb.mono HB.out.1.size))
    clear hres hbb heb hbk
    rw [q0] at m0
    clear q0
    generalize (restE x.e).eq Xp0 = RES at HC ⊢
    go_enter Tryz.func125, Tryz.ntmps125
    go_wp2_with fail
    refine HC.out.mono ?_
    rintro e w4 ⟨rfl, hb4⟩
    have H4 := hid (H2.out.trans (hb4.mono H2.out.size))
    clear hb4
    go_wp2_with fail
    go_ret
    exact ⟨rfl, H4.out⟩
  by_cases q1 : x.e.k = 1
  · have hres : restE x.e = { k := 0, m := x.e.m, n := x.e.n, tx := ⟨#[]⟩, num := x.e.num, T := .nil, L := x.e.L, K := .nil } := by unfold restE; rw [if_neg q0, if_pos q1]
    obtain ⟨wb, hwb⟩ : ∃ wb, wa.alloc (.cells #[.int .i64 0, .string x.e.m, .string x.e.n, .string ⟨#[]⟩, .int .i64 x.e.num, .slice none 0 0, .slice x.aL x.e.L.length x.cL, .slice none 0 0] 29) = wb := ⟨_, rfl⟩
    have hbb : Below wa.heap.size wa wb := by rw [← hwb]; exact (Below.refl _ wa).alloc (Nat.le_refl _) _
    have heb : wb.heap[wa.heap.size]? = some (.cells #[.int .i64 0, .string x.e.m, .string x.e.n, .string ⟨#[]⟩, .int .i64 x.e.num, .slice none 0 0, .slice x.aL x.e.L.length x.cL, .slice none 0 0] 29 (0, 0)) := by rw [← hwb]; exact World.alloc_heap_new _ _
    have g0 := cell_of_row wb _ 0 _ _ _ heb
    have g1 := cell_of_row wb _ 1 _ _ _ heb
    have g2 := cell_of_row wb _ 2 _ _ _ heb
    have g3 := cell_of_row wb _ 3 _ _ _ heb
    have g4 := cell_of_row wb _ 4 _ _ _ heb
    have g5 := cell_of_row wb _ 5 _ _ _ heb
    have g6 := cell_of_row wb _ 6 _ _ _ heb
    have g7 := cell_of_row wb _ 7 _ _ _ heb
    have HC : Kpt (Calls Tryz.prog 29 #[.agg #[.int .i64 0, .string x.e.m, .string x.e.n, .string ⟨#[]⟩, .int .i64 x.e.num, .slice none 0 0, .slice x.aL x.e.L.length x.cL, .slice none 0 0], .agg #[.int .i64 0, .string ⟨#[]⟩, .string ⟨#[]⟩, .string ⟨#[]⟩, .int .i64 0, .slice none 0 0, .slice none 0 0, .slice none 0 0]] wb fun e W'' => e = .returned (.bool ((restE x.e).eq Xp0)) ∧ Below wb.heap.size wb W'') := hid (by rw [hres]; exact HE.out { e := { k := 0, m := x.e.m, n := x.e.n, tx := ⟨#[]⟩, num := x.e.num, T := .nil, L := x.e.L, K := .nil }, aT := none, cT := 0, aL := x.aL, cL := x.cL, aK := none, cK := 0, hk := (rfl : (Lit.int .i64 0).wf = true), hnum := x.hnum, hT := .inl rfl, hL := x.hL, hK := .inl rfl } (XpI0 w0) (by have h := HX.out; rw [Xp.bk_eq] at h; rw [Xp.bk_eq]; simp only [Tr.enc, encLb, Ex.enc, Dt.bk] at h ⊢; have he0 : (⟨#[]⟩ : ByteArray).size = 0 := rfl; omega) wb (HB.out.2.trans (hbb.mono HB.out.2.size)))
    have H2 := hid (HB.out.1.trans (hbb.mono HB.out.1.size))
    clear hres hbb heb hbk
    rw [q1] at m0
    clear q1
    generalize (restE x.e).eq Xp0 = RES at HC ⊢
    go_enter Tryz.func125, Tryz.ntmps125
    go_wp2_with fail
    refine HC.out.mono ?_
    rintro e w4 ⟨rfl, hb4⟩
    have H4 := hid (H2.out.trans (hb4.mono H2.out.size))
    clear hb4
    go_wp2_with fail
    go_ret
    exact ⟨rfl, H4.out⟩
  by_cases q2 : x.e.k = 2
  · by_cases qn : x.e.num = 1
    · have hres : restE x.e = { k := 0, m := x.e.m, n := x.e.n, tx := x.e.tx, num := 0, T := .nil, L := x.e.L, K := .nil } := by unfold restE; rw [if_neg q0, if_neg q1, if_pos q2, if_pos qn]
      obtain ⟨wb, hwb⟩ : ∃ wb, wa.alloc (.cells #[.int .i64 0, .string x.e.m, .string x.e.n, .string x.e.tx, .int .i64 0, .slice none 0 0, .slice x.aL x.e.L.length x.cL, .slice none 0 0] 29) = wb := ⟨_, rfl⟩
      have hbb : Below wa.heap.size wa wb := by rw [← hwb]; exact (Below.refl _ wa).alloc (Nat.le_refl _) _
      have heb : wb.heap[wa.heap.size]? = some (.cells #[.int .i64 0, .string x.e.m, .string x.e.n, .string x.e.tx, .int .i64 0, .slice none 0 0, .slice x.aL x.e.L.length x.cL, .slice none 0 0] 29 (0, 0)) := by rw [← hwb]; exact World.alloc_heap_new _ _
      have g0 := cell_of_row wb _ 0 _ _ _ heb
      have g1 := cell_of_row wb _ 1 _ _ _ heb
      have g2 := cell_of_row wb _ 2 _ _ _ heb
      have g3 := cell_of_row wb _ 3 _ _ _ heb
      have g4 := cell_of_row wb _ 4 _ _ _ heb
      have g5 := cell_of_row wb _ 5 _ _ _ heb
      have g6 := cell_of_row wb _ 6 _ _ _ heb
      have g7 := cell_of_row wb _ 7 _ _ _ heb
      have HC : Kpt (Calls Tryz.prog 29 #[.agg #[.int .i64 0, .string x.e.m, .string x.e.n, .string x.e.tx, .int .i64 0, .slice none 0 0, .slice x.aL x.e.L.length x.cL, .slice none 0 0], .agg #[.int .i64 0, .string ⟨#[]⟩, .string ⟨#[]⟩, .string ⟨#[]⟩, .int .i64 0, .slice none 0 0, .slice none 0 0, .slice none 0 0]] wb fun e W'' => e = .returned (.bool ((restE x.e).eq Xp0)) ∧ Below wb.heap.size wb W'') := hid (by rw [hres]; exact HE.out { e := { k := 0, m := x.e.m, n := x.e.n, tx := x.e.tx, num := 0, T := .nil, L := x.e.L, K := .nil }, aT := none, cT := 0, aL := x.aL, cL := x.cL, aK := none, cK := 0, hk := (rfl : (Lit.int .i64 0).wf = true), hnum := (rfl : (Lit.int .i64 0).wf = true), hT := .inl rfl, hL := x.hL, hK := .inl rfl } (XpI0 w0) (by have h := HX.out; rw [Xp.bk_eq] at h; rw [Xp.bk_eq]; simp only [Tr.enc, encLb, Ex.enc, Dt.bk] at h ⊢; have he0 : (⟨#[]⟩ : ByteArray).size = 0 := rfl; omega) wb (HB.out.2.trans (hbb.mono HB.out.2.size)))
      have H2 := hid (HB.out.1.trans (hbb.mono HB.out.1.size))
      clear hres hbb heb hbk
      rw [q2] at m0
      replace m4 := m4.trans (by rw [qn]; rfl : _ = some (Value.int .i64 1))
      clear q2 qn
      generalize (restE x.e).eq Xp0 = RES at HC ⊢
      go_enter Tryz.func125, Tryz.ntmps125
      go_wp2_with fail
      refine HC.out.mono ?_
      rintro e w4 ⟨rfl, hb4⟩
      have H4 := hid (H2.out.trans (hb4.mono H2.out.size))
      clear hb4
      go_wp2_with fail
      go_ret
      exact ⟨rfl, H4.out⟩
    · have hres : restE x.e = { k := 0, m := x.e.m, n := x.e.n, tx := x.e.tx, num := x.e.num, T := .nil, L := x.e.L, K := .nil } := by unfold restE; rw [if_neg q0, if_neg q1, if_pos q2, if_neg qn]
      obtain ⟨wb, hwb⟩ : ∃ wb, wa.alloc (.cells #[.int .i64 0, .string x.e.m, .string x.e.n, .string x.e.tx, .int .i64 x.e.num, .slice none 0 0, .slice x.aL x.e.L.length x.cL, .slice none 0 0] 29) = wb := ⟨_, rfl⟩
      have hbb : Below wa.heap.size wa wb := by rw [← hwb]; exact (Below.refl _ wa).alloc (Nat.le_refl _) _
      have heb : wb.heap[wa.heap.size]? = some (.cells #[.int .i64 0, .string x.e.m, .string x.e.n, .string x.e.tx, .int .i64 x.e.num, .slice none 0 0, .slice x.aL x.e.L.length x.cL, .slice none 0 0] 29 (0, 0)) := by rw [← hwb]; exact World.alloc_heap_new _ _
      have g0 := cell_of_row wb _ 0 _ _ _ heb
      have g1 := cell_of_row wb _ 1 _ _ _ heb
      have g2 := cell_of_row wb _ 2 _ _ _ heb
      have g3 := cell_of_row wb _ 3 _ _ _ heb
      have g4 := cell_of_row wb _ 4 _ _ _ heb
      have g5 := cell_of_row wb _ 5 _ _ _ heb
      have g6 := cell_of_row wb _ 6 _ _ _ heb
      have g7 := cell_of_row wb _ 7 _ _ _ heb
      have HC : Kpt (Calls Tryz.prog 29 #[.agg #[.int .i64 0, .string x.e.m, .string x.e.n, .string x.e.tx, .int .i64 x.e.num, .slice none 0 0, .slice x.aL x.e.L.length x.cL, .slice none 0 0], .agg #[.int .i64 0, .string ⟨#[]⟩, .string ⟨#[]⟩, .string ⟨#[]⟩, .int .i64 0, .slice none 0 0, .slice none 0 0, .slice none 0 0]] wb fun e W'' => e = .returned (.bool ((restE x.e).eq Xp0)) ∧ Below wb.heap.size wb W'') := hid (by rw [hres]; exact HE.out { e := { k := 0, m := x.e.m, n := x.e.n, tx := x.e.tx, num := x.e.num, T := .nil, L := x.e.L, K := .nil }, aT := none, cT := 0, aL := x.aL, cL := x.cL, aK := none, cK := 0, hk := (rfl : (Lit.int .i64 0).wf = true), hnum := x.hnum, hT := .inl rfl, hL := x.hL, hK := .inl rfl } (XpI0 w0) (by have h := HX.out; rw [Xp.bk_eq] at h; rw [Xp.bk_eq]; simp only [Tr.enc, encLb, Ex.enc, Dt.bk] at h ⊢; have he0 : (⟨#[]⟩ : ByteArray).size = 0 := rfl; omega) wb (HB.out.2.trans (hbb.mono HB.out.2.size)))
      have H2 := hid (HB.out.1.trans (hbb.mono HB.out.1.size))
      clear hres hbb heb hbk
      rw [q2] at m0
      clear q2
      rw [hwb] at m0 m4
      generalize (restE x.e).eq Xp0 = RES at HC ⊢
      go_enter Tryz.func125, Tryz.ntmps125
      go_wp2_with fail
      refine HC.out.mono ?_
      rintro e w4 ⟨rfl, hb4⟩
      have H4 := hid (H2.out.trans (hb4.mono H2.out.size))
      clear hb4
      go_wp2_with fail
      go_ret
      exact ⟨rfl, H4.out⟩
  by_cases q3 : x.e.k = 3
  · have hres : restE x.e = { k := 0, m := x.e.m, n := ⟨#[]⟩, tx := x.e.tx, num := x.e.num, T := .nil, L := x.e.L, K := .nil } := by unfold restE; rw [if_neg q0, if_neg q1, if_neg q2, if_pos (by omega)]
    obtain ⟨wb, hwb⟩ : ∃ wb, wa.alloc (.cells #[.int .i64 0, .string x.e.m, .string ⟨#[]⟩, .string x.e.tx, .int .i64 x.e.num, .slice none 0 0, .slice x.aL x.e.L.length x.cL, .slice none 0 0] 29) = wb := ⟨_, rfl⟩
    have hbb : Below wa.heap.size wa wb := by rw [← hwb]; exact (Below.refl _ wa).alloc (Nat.le_refl _) _
    have heb : wb.heap[wa.heap.size]? = some (.cells #[.int .i64 0, .string x.e.m, .string ⟨#[]⟩, .string x.e.tx, .int .i64 x.e.num, .slice none 0 0, .slice x.aL x.e.L.length x.cL, .slice none 0 0] 29 (0, 0)) := by rw [← hwb]; exact World.alloc_heap_new _ _
    have g0 := cell_of_row wb _ 0 _ _ _ heb
    have g1 := cell_of_row wb _ 1 _ _ _ heb
    have g2 := cell_of_row wb _ 2 _ _ _ heb
    have g3 := cell_of_row wb _ 3 _ _ _ heb
    have g4 := cell_of_row wb _ 4 _ _ _ heb
    have g5 := cell_of_row wb _ 5 _ _ _ heb
    have g6 := cell_of_row wb _ 6 _ _ _ heb
    have g7 := cell_of_row wb _ 7 _ _ _ heb
    have HC : Kpt (Calls Tryz.prog 29 #[.agg #[.int .i64 0, .string x.e.m, .string ⟨#[]⟩, .string x.e.tx, .int .i64 x.e.num, .slice none 0 0, .slice x.aL x.e.L.length x.cL, .slice none 0 0], .agg #[.int .i64 0, .string ⟨#[]⟩, .string ⟨#[]⟩, .string ⟨#[]⟩, .int .i64 0, .slice none 0 0, .slice none 0 0, .slice none 0 0]] wb fun e W'' => e = .returned (.bool ((restE x.e).eq Xp0)) ∧ Below wb.heap.size wb W'') := hid (by rw [hres]; exact HE.out { e := { k := 0, m := x.e.m, n := ⟨#[]⟩, tx := x.e.tx, num := x.e.num, T := .nil, L := x.e.L, K := .nil }, aT := none, cT := 0, aL := x.aL, cL := x.cL, aK := none, cK := 0, hk := (rfl : (Lit.int .i64 0).wf = true), hnum := x.hnum, hT := .inl rfl, hL := x.hL, hK := .inl rfl } (XpI0 w0) (by have h := HX.out; rw [Xp.bk_eq] at h; rw [Xp.bk_eq]; simp only [Tr.enc, encLb, Ex.enc, Dt.bk] at h ⊢; have he0 : (⟨#[]⟩ : ByteArray).size = 0 := rfl; omega) wb (HB.out.2.trans (hbb.mono HB.out.2.size)))
    have H2 := hid (HB.out.1.trans (hbb.mono HB.out.1.size))
    clear hres hbb heb hbk
    rw [q3] at m0
    clear q3
    generalize (restE x.e).eq Xp0 = RES at HC ⊢
    go_enter Tryz.func125, Tryz.ntmps125
    go_wp2_with fail
    refine HC.out.mono ?_
    rintro e w4 ⟨rfl, hb4⟩
    have H4 := hid (H2.out.trans (hb4.mono H2.out.size))
    clear hb4
    go_wp2_with fail
    go_ret
    exact ⟨rfl, H4.out⟩
  by_cases q6 : x.e.k = 6
  · have hres : restE x.e = { k := 0, m := x.e.m, n := ⟨#[]⟩, tx := x.e.tx, num := x.e.num, T := .nil, L := x.e.L, K := .nil } := by unfold restE; rw [if_neg q0, if_neg q1, if_neg q2, if_pos (by omega)]
    obtain ⟨wb, hwb⟩ : ∃ wb, wa.alloc (.cells #[.int .i64 0, .string x.e.m, .string ⟨#[]⟩, .string x.e.tx, .int .i64 x.e.num, .slice none 0 0, .slice x.aL x.e.L.length x.cL, .slice none 0 0] 29) = wb := ⟨_, rfl⟩
    have hbb : Below wa.heap.size wa wb := by rw [← hwb]; exact (Below.refl _ wa).alloc (Nat.le_refl _) _
    have heb : wb.heap[wa.heap.size]? = some (.cells #[.int .i64 0, .string x.e.m, .string ⟨#[]⟩, .string x.e.tx, .int .i64 x.e.num, .slice none 0 0, .slice x.aL x.e.L.length x.cL, .slice none 0 0] 29 (0, 0)) := by rw [← hwb]; exact World.alloc_heap_new _ _
    have g0 := cell_of_row wb _ 0 _ _ _ heb
    have g1 := cell_of_row wb _ 1 _ _ _ heb
    have g2 := cell_of_row wb _ 2 _ _ _ heb
    have g3 := cell_of_row wb _ 3 _ _ _ heb
    have g4 := cell_of_row wb _ 4 _ _ _ heb
    have g5 := cell_of_row wb _ 5 _ _ _ heb
    have g6 := cell_of_row wb _ 6 _ _ _ heb
    have g7 := cell_of_row wb _ 7 _ _ _ heb
    have HC : Kpt (Calls Tryz.prog 29 #[.agg #[.int .i64 0, .string x.e.m, .string ⟨#[]⟩, .string x.e.tx, .int .i64 x.e.num, .slice none 0 0, .slice x.aL x.e.L.length x.cL, .slice none 0 0], .agg #[.int .i64 0, .string ⟨#[]⟩, .string ⟨#[]⟩, .string ⟨#[]⟩, .int .i64 0, .slice none 0 0, .slice none 0 0, .slice none 0 0]] wb fun e W'' => e = .returned (.bool ((restE x.e).eq Xp0)) ∧ Below wb.heap.size wb W'') := hid (by rw [hres]; exact HE.out { e := { k := 0, m := x.e.m, n := ⟨#[]⟩, tx := x.e.tx, num := x.e.num, T := .nil, L := x.e.L, K := .nil }, aT := none, cT := 0, aL := x.aL, cL := x.cL, aK := none, cK := 0, hk := (rfl : (Lit.int .i64 0).wf = true), hnum := x.hnum, hT := .inl rfl, hL := x.hL, hK := .inl rfl } (XpI0 w0) (by have h := HX.out; rw [Xp.bk_eq] at h; rw [Xp.bk_eq]; simp only [Tr.enc, encLb, Ex.enc, Dt.bk] at h ⊢; have he0 : (⟨#[]⟩ : ByteArray).size = 0 := rfl; omega) wb (HB.out.2.trans (hbb.mono HB.out.2.size)))
    have H2 := hid (HB.out.1.trans (hbb.mono HB.out.1.size))
    clear hres hbb heb hbk
    rw [q6] at m0
    clear q6
    generalize (restE x.e).eq Xp0 = RES at HC ⊢
    go_enter Tryz.func125, Tryz.ntmps125
    go_wp2_with fail
    refine HC.out.mono ?_
    rintro e w4 ⟨rfl, hb4⟩
    have H4 := hid (H2.out.trans (hb4.mono H2.out.size))
    clear hb4
    go_wp2_with fail
    go_ret
    exact ⟨rfl, H4.out⟩
  by_cases q7 : x.e.k = 7
  · have hres : restE x.e = { k := 0, m := x.e.m, n := ⟨#[]⟩, tx := x.e.tx, num := x.e.num, T := .nil, L := x.e.L, K := .nil } := by unfold restE; rw [if_neg q0, if_neg q1, if_neg q2, if_pos (by omega)]
    obtain ⟨wb, hwb⟩ : ∃ wb, wa.alloc (.cells #[.int .i64 0, .string x.e.m, .string ⟨#[]⟩, .string x.e.tx, .int .i64 x.e.num, .slice none 0 0, .slice x.aL x.e.L.length x.cL, .slice none 0 0] 29) = wb := ⟨_, rfl⟩
    have hbb : Below wa.heap.size wa wb := by rw [← hwb]; exact (Below.refl _ wa).alloc (Nat.le_refl _) _
    have heb : wb.heap[wa.heap.size]? = some (.cells #[.int .i64 0, .string x.e.m, .string ⟨#[]⟩, .string x.e.tx, .int .i64 x.e.num, .slice none 0 0, .slice x.aL x.e.L.length x.cL, .slice none 0 0] 29 (0, 0)) := by rw [← hwb]; exact World.alloc_heap_new _ _
    have g0 := cell_of_row wb _ 0 _ _ _ heb
    have g1 := cell_of_row wb _ 1 _ _ _ heb
    have g2 := cell_of_row wb _ 2 _ _ _ heb
    have g3 := cell_of_row wb _ 3 _ _ _ heb
    have g4 := cell_of_row wb _ 4 _ _ _ heb
    have g5 := cell_of_row wb _ 5 _ _ _ heb
    have g6 := cell_of_row wb _ 6 _ _ _ heb
    have g7 := cell_of_row wb _ 7 _ _ _ heb
    have HC : Kpt (Calls Tryz.prog 29 #[.agg #[.int .i64 0, .string x.e.m, .string ⟨#[]⟩, .string x.e.tx, .int .i64 x.e.num, .slice none 0 0, .slice x.aL x.e.L.length x.cL, .slice none 0 0], .agg #[.int .i64 0, .string ⟨#[]⟩, .string ⟨#[]⟩, .string ⟨#[]⟩, .int .i64 0, .slice none 0 0, .slice none 0 0, .slice none 0 0]] wb fun e W'' => e = .returned (.bool ((restE x.e).eq Xp0)) ∧ Below wb.heap.size wb W'') := hid (by rw [hres]; exact HE.out { e := { k := 0, m := x.e.m, n := ⟨#[]⟩, tx := x.e.tx, num := x.e.num, T := .nil, L := x.e.L, K := .nil }, aT := none, cT := 0, aL := x.aL, cL := x.cL, aK := none, cK := 0, hk := (rfl : (Lit.int .i64 0).wf = true), hnum := x.hnum, hT := .inl rfl, hL := x.hL, hK := .inl rfl } (XpI0 w0) (by have h := HX.out; rw [Xp.bk_eq] at h; rw [Xp.bk_eq]; simp only [Tr.enc, encLb, Ex.enc, Dt.bk] at h ⊢; have he0 : (⟨#[]⟩ : ByteArray).size = 0 := rfl; omega) wb (HB.out.2.trans (hbb.mono HB.out.2.size)))
    have H2 := hid (HB.out.1.trans (hbb.mono HB.out.1.size))
    clear hres hbb heb hbk
    rw [q7] at m0
    clear q7
    generalize (restE x.e).eq Xp0 = RES at HC ⊢
    go_enter Tryz.func125, Tryz.ntmps125
    go_wp2_with fail
    refine HC.out.mono ?_
    rintro e w4 ⟨rfl, hb4⟩
    have H4 := hid (H2.out.trans (hb4.mono H2.out.size))
    clear hb4
    go_wp2_with fail
    go_ret
    exact ⟨rfl, H4.out⟩
  by_cases q10 : x.e.k = 10
  · have hres : restE x.e = { k := 0, m := x.e.m, n := ⟨#[]⟩, tx := x.e.tx, num := x.e.num, T := .nil, L := x.e.L, K := .nil } := by unfold restE; rw [if_neg q0, if_neg q1, if_neg q2, if_pos (by omega)]
    obtain ⟨wb, hwb⟩ : ∃ wb, wa.alloc (.cells #[.int .i64 0, .string x.e.m, .string ⟨#[]⟩, .string x.e.tx, .int .i64 x.e.num, .slice none 0 0, .slice x.aL x.e.L.length x.cL, .slice none 0 0] 29) = wb := ⟨_, rfl⟩
    have hbb : Below wa.heap.size wa wb := by rw [← hwb]; exact (Below.refl _ wa).alloc (Nat.le_refl _) _
    have heb : wb.heap[wa.heap.size]? = some (.cells #[.int .i64 0, .string x.e.m, .string ⟨#[]⟩, .string x.e.tx, .int .i64 x.e.num, .slice none 0 0, .slice x.aL x.e.L.length x.cL, .slice none 0 0] 29 (0, 0)) := by rw [← hwb]; exact World.alloc_heap_new _ _
    have g0 := cell_of_row wb _ 0 _ _ _ heb
    have g1 := cell_of_row wb _ 1 _ _ _ heb
    have g2 := cell_of_row wb _ 2 _ _ _ heb
    have g3 := cell_of_row wb _ 3 _ _ _ heb
    have g4 := cell_of_row wb _ 4 _ _ _ heb
    have g5 := cell_of_row wb _ 5 _ _ _ heb
    have g6 := cell_of_row wb _ 6 _ _ _ heb
    have g7 := cell_of_row wb _ 7 _ _ _ heb
    have HC : Kpt (Calls Tryz.prog 29 #[.agg #[.int .i64 0, .string x.e.m, .string ⟨#[]⟩, .string x.e.tx, .int .i64 x.e.num, .slice none 0 0, .slice x.aL x.e.L.length x.cL, .slice none 0 0], .agg #[.int .i64 0, .string ⟨#[]⟩, .string ⟨#[]⟩, .string ⟨#[]⟩, .int .i64 0, .slice none 0 0, .slice none 0 0, .slice none 0 0]] wb fun e W'' => e = .returned (.bool ((restE x.e).eq Xp0)) ∧ Below wb.heap.size wb W'') := hid (by rw [hres]; exact HE.out { e := { k := 0, m := x.e.m, n := ⟨#[]⟩, tx := x.e.tx, num := x.e.num, T := .nil, L := x.e.L, K := .nil }, aT := none, cT := 0, aL := x.aL, cL := x.cL, aK := none, cK := 0, hk := (rfl : (Lit.int .i64 0).wf = true), hnum := x.hnum, hT := .inl rfl, hL := x.hL, hK := .inl rfl } (XpI0 w0) (by have h := HX.out; rw [Xp.bk_eq] at h; rw [Xp.bk_eq]; simp only [Tr.enc, encLb, Ex.enc, Dt.bk] at h ⊢; have he0 : (⟨#[]⟩ : ByteArray).size = 0 := rfl; omega) wb (HB.out.2.trans (hbb.mono HB.out.2.size)))
    have H2 := hid (HB.out.1.trans (hbb.mono HB.out.1.size))
    clear hres hbb heb hbk
    rw [q10] at m0
    clear q10
    generalize (restE x.e).eq Xp0 = RES at HC ⊢
    go_enter Tryz.func125, Tryz.ntmps125
    go_wp2_with fail
    refine HC.out.mono ?_
    rintro e w4 ⟨rfl, hb4⟩
    have H4 := hid (H2.out.trans (hb4.mono H2.out.size))
    clear hb4
    go_wp2_with fail
    go_ret
    exact ⟨rfl, H4.out⟩
  by_cases q16 : x.e.k = 16
  · have hres : restE x.e = { k := 0, m := x.e.m, n := ⟨#[]⟩, tx := x.e.tx, num := x.e.num, T := .nil, L := x.e.L, K := .nil } := by unfold restE; rw [if_neg q0, if_neg q1, if_neg q2, if_pos (by omega)]
    obtain ⟨wb, hwb⟩ : ∃ wb, wa.alloc (.cells #[.int .i64 0, .string x.e.m, .string ⟨#[]⟩, .string x.e.tx, .int .i64 x.e.num, .slice none 0 0, .slice x.aL x.e.L.length x.cL, .slice none 0 0] 29) = wb := ⟨_, rfl⟩
    have hbb : Below wa.heap.size wa wb := by rw [← hwb]; exact (Below.refl _ wa).alloc (Nat.le_refl _) _
    have heb : wb.heap[wa.heap.size]? = some (.cells #[.int .i64 0, .string x.e.m, .string ⟨#[]⟩, .string x.e.tx, .int .i64 x.e.num, .slice none 0 0, .slice x.aL x.e.L.length x.cL, .slice none 0 0] 29 (0, 0)) := by rw [← hwb]; exact World.alloc_heap_new _ _
    have g0 := cell_of_row wb _ 0 _ _ _ heb
    have g1 := cell_of_row wb _ 1 _ _ _ heb
    have g2 := cell_of_row wb _ 2 _ _ _ heb
    have g3 := cell_of_row wb _ 3 _ _ _ heb
    have g4 := cell_of_row wb _ 4 _ _ _ heb
    have g5 := cell_of_row wb _ 5 _ _ _ heb
    have g6 := cell_of_row wb _ 6 _ _ _ heb
    have g7 := cell_of_row wb _ 7 _ _ _ heb
    have HC : Kpt (Calls Tryz.prog 29 #[.agg #[.int .i64 0, .string x.e.m, .string ⟨#[]⟩, .string x.e.tx, .int .i64 x.e.num, .slice none 0 0, .slice x.aL x.e.L.length x.cL, .slice none 0 0], .agg #[.int .i64 0, .string ⟨#[]⟩, .string ⟨#[]⟩, .string ⟨#[]⟩, .int .i64 0, .slice none 0 0, .slice none 0 0, .slice none 0 0]] wb fun e W'' => e = .returned (.bool ((restE x.e).eq Xp0)) ∧ Below wb.heap.size wb W'') := hid (by rw [hres]; exact HE.out { e := { k := 0, m := x.e.m, n := ⟨#[]⟩, tx := x.e.tx, num := x.e.num, T := .nil, L := x.e.L, K := .nil }, aT := none, cT := 0, aL := x.aL, cL := x.cL, aK := none, cK := 0, hk := (rfl : (Lit.int .i64 0).wf = true), hnum := x.hnum, hT := .inl rfl, hL := x.hL, hK := .inl rfl } (XpI0 w0) (by have h := HX.out; rw [Xp.bk_eq] at h; rw [Xp.bk_eq]; simp only [Tr.enc, encLb, Ex.enc, Dt.bk] at h ⊢; have he0 : (⟨#[]⟩ : ByteArray).size = 0 := rfl; omega) wb (HB.out.2.trans (hbb.mono HB.out.2.size)))
    have H2 := hid (HB.out.1.trans (hbb.mono HB.out.1.size))
    clear hres hbb heb hbk
    rw [q16] at m0
    clear q16
    generalize (restE x.e).eq Xp0 = RES at HC ⊢
    go_enter Tryz.func125, Tryz.ntmps125
    go_wp2_with fail
    refine HC.out.mono ?_
    rintro e w4 ⟨rfl, hb4⟩
    have H4 := hid (H2.out.trans (hb4.mono H2.out.size))
    clear hb4
    go_wp2_with fail
    go_ret
    exact ⟨rfl, H4.out⟩
  by_cases q4 : x.e.k = 4
  · have hres : restE x.e = { k := 0, m := ⟨#[]⟩, n := ⟨#[]⟩, tx := x.e.tx, num := x.e.num, T := .nil, L := x.e.L, K := .nil } := by unfold restE; rw [if_neg q0, if_neg q1, if_neg q2, if_neg (by omega), if_pos q4]
    obtain ⟨wb, hwb⟩ : ∃ wb, wa.alloc (.cells #[.int .i64 0, .string ⟨#[]⟩, .string ⟨#[]⟩, .string x.e.tx, .int .i64 x.e.num, .slice none 0 0, .slice x.aL x.e.L.length x.cL, .slice none 0 0] 29) = wb := ⟨_, rfl⟩
    have hbb : Below wa.heap.size wa wb := by rw [← hwb]; exact (Below.refl _ wa).alloc (Nat.le_refl _) _
    have heb : wb.heap[wa.heap.size]? = some (.cells #[.int .i64 0, .string ⟨#[]⟩, .string ⟨#[]⟩, .string x.e.tx, .int .i64 x.e.num, .slice none 0 0, .slice x.aL x.e.L.length x.cL, .slice none 0 0] 29 (0, 0)) := by rw [← hwb]; exact World.alloc_heap_new _ _
    have g0 := cell_of_row wb _ 0 _ _ _ heb
    have g1 := cell_of_row wb _ 1 _ _ _ heb
    have g2 := cell_of_row wb _ 2 _ _ _ heb
    have g3 := cell_of_row wb _ 3 _ _ _ heb
    have g4 := cell_of_row wb _ 4 _ _ _ heb
    have g5 := cell_of_row wb _ 5 _ _ _ heb
    have g6 := cell_of_row wb _ 6 _ _ _ heb
    have g7 := cell_of_row wb _ 7 _ _ _ heb
    have HC : Kpt (Calls Tryz.prog 29 #[.agg #[.int .i64 0, .string ⟨#[]⟩, .string ⟨#[]⟩, .string x.e.tx, .int .i64 x.e.num, .slice none 0 0, .slice x.aL x.e.L.length x.cL, .slice none 0 0], .agg #[.int .i64 0, .string ⟨#[]⟩, .string ⟨#[]⟩, .string ⟨#[]⟩, .int .i64 0, .slice none 0 0, .slice none 0 0, .slice none 0 0]] wb fun e W'' => e = .returned (.bool ((restE x.e).eq Xp0)) ∧ Below wb.heap.size wb W'') := hid (by rw [hres]; exact HE.out { e := { k := 0, m := ⟨#[]⟩, n := ⟨#[]⟩, tx := x.e.tx, num := x.e.num, T := .nil, L := x.e.L, K := .nil }, aT := none, cT := 0, aL := x.aL, cL := x.cL, aK := none, cK := 0, hk := (rfl : (Lit.int .i64 0).wf = true), hnum := x.hnum, hT := .inl rfl, hL := x.hL, hK := .inl rfl } (XpI0 w0) (by have h := HX.out; rw [Xp.bk_eq] at h; rw [Xp.bk_eq]; simp only [Tr.enc, encLb, Ex.enc, Dt.bk] at h ⊢; have he0 : (⟨#[]⟩ : ByteArray).size = 0 := rfl; omega) wb (HB.out.2.trans (hbb.mono HB.out.2.size)))
    have H2 := hid (HB.out.1.trans (hbb.mono HB.out.1.size))
    clear hres hbb heb hbk
    rw [q4] at m0
    clear q4
    generalize (restE x.e).eq Xp0 = RES at HC ⊢
    go_enter Tryz.func125, Tryz.ntmps125
    go_wp2_with fail
    refine HC.out.mono ?_
    rintro e w4 ⟨rfl, hb4⟩
    have H4 := hid (H2.out.trans (hb4.mono H2.out.size))
    clear hb4
    go_wp2_with fail
    go_ret
    exact ⟨rfl, H4.out⟩
  by_cases q5 : x.e.k = 5
  · have hres : restE x.e = { k := 0, m := x.e.m, n := x.e.n, tx := x.e.tx, num := x.e.num, T := .nil, L := [], K := .nil } := by unfold restE; rw [if_neg q0, if_neg q1, if_neg q2, if_neg (by omega), if_neg q4, if_pos (by omega)]
    obtain ⟨wb, hwb⟩ : ∃ wb, wa.alloc (.cells #[.int .i64 0, .string x.e.m, .string x.e.n, .string x.e.tx, .int .i64 x.e.num, .slice none 0 0, .slice none 0 0, .slice none 0 0] 29) = wb := ⟨_, rfl⟩
    have hbb : Below wa.heap.size wa wb := by rw [← hwb]; exact (Below.refl _ wa).alloc (Nat.le_refl _) _
    have heb : wb.heap[wa.heap.size]? = some (.cells #[.int .i64 0, .string x.e.m, .string x.e.n, .string x.e.tx, .int .i64 x.e.num, .slice none 0 0, .slice none 0 0, .slice none 0 0] 29 (0, 0)) := by rw [← hwb]; exact World.alloc_heap_new _ _
    have g0 := cell_of_row wb _ 0 _ _ _ heb
    have g1 := cell_of_row wb _ 1 _ _ _ heb
    have g2 := cell_of_row wb _ 2 _ _ _ heb
    have g3 := cell_of_row wb _ 3 _ _ _ heb
    have g4 := cell_of_row wb _ 4 _ _ _ heb
    have g5 := cell_of_row wb _ 5 _ _ _ heb
    have g6 := cell_of_row wb _ 6 _ _ _ heb
    have g7 := cell_of_row wb _ 7 _ _ _ heb
    have HC : Kpt (Calls Tryz.prog 29 #[.agg #[.int .i64 0, .string x.e.m, .string x.e.n, .string x.e.tx, .int .i64 x.e.num, .slice none 0 0, .slice none 0 0, .slice none 0 0], .agg #[.int .i64 0, .string ⟨#[]⟩, .string ⟨#[]⟩, .string ⟨#[]⟩, .int .i64 0, .slice none 0 0, .slice none 0 0, .slice none 0 0]] wb fun e W'' => e = .returned (.bool ((restE x.e).eq Xp0)) ∧ Below wb.heap.size wb W'') := hid (by rw [hres]; exact HE.out { e := { k := 0, m := x.e.m, n := x.e.n, tx := x.e.tx, num := x.e.num, T := .nil, L := [], K := .nil }, aT := none, cT := 0, aL := none, cL := 0, aK := none, cK := 0, hk := (rfl : (Lit.int .i64 0).wf = true), hnum := x.hnum, hT := .inl rfl, hL := .inl rfl, hK := .inl rfl } (XpI0 w0) (by have h := HX.out; rw [Xp.bk_eq] at h; rw [Xp.bk_eq]; simp only [Tr.enc, encLb, Ex.enc, Dt.bk] at h ⊢; have he0 : (⟨#[]⟩ : ByteArray).size = 0 := rfl; omega) wb (HB.out.2.trans (hbb.mono HB.out.2.size)))
    have H2 := hid (HB.out.1.trans (hbb.mono HB.out.1.size))
    clear hres hbb heb hbk
    rw [q5] at m0
    clear q5
    generalize (restE x.e).eq Xp0 = RES at HC ⊢
    go_enter Tryz.func125, Tryz.ntmps125
    go_wp2_with fail
    refine HC.out.mono ?_
    rintro e w4 ⟨rfl, hb4⟩
    have H4 := hid (H2.out.trans (hb4.mono H2.out.size))
    clear hb4
    go_wp2_with fail
    go_ret
    exact ⟨rfl, H4.out⟩
  by_cases q8 : x.e.k = 8
  · have hres : restE x.e = { k := 0, m := x.e.m, n := x.e.n, tx := x.e.tx, num := x.e.num, T := .nil, L := [], K := .nil } := by unfold restE; rw [if_neg q0, if_neg q1, if_neg q2, if_neg (by omega), if_neg q4, if_pos (by omega)]
    obtain ⟨wb, hwb⟩ : ∃ wb, wa.alloc (.cells #[.int .i64 0, .string x.e.m, .string x.e.n, .string x.e.tx, .int .i64 x.e.num, .slice none 0 0, .slice none 0 0, .slice none 0 0] 29) = wb := ⟨_, rfl⟩
    have hbb : Below wa.heap.size wa wb := by rw [← hwb]; exact (Below.refl _ wa).alloc (Nat.le_refl _) _
    have heb : wb.heap[wa.heap.size]? = some (.cells #[.int .i64 0, .string x.e.m, .string x.e.n, .string x.e.tx, .int .i64 x.e.num, .slice none 0 0, .slice none 0 0, .slice none 0 0] 29 (0, 0)) := by rw [← hwb]; exact World.alloc_heap_new _ _
    have g0 := cell_of_row wb _ 0 _ _ _ heb
    have g1 := cell_of_row wb _ 1 _ _ _ heb
    have g2 := cell_of_row wb _ 2 _ _ _ heb
    have g3 := cell_of_row wb _ 3 _ _ _ heb
    have g4 := cell_of_row wb _ 4 _ _ _ heb
    have g5 := cell_of_row wb _ 5 _ _ _ heb
    have g6 := cell_of_row wb _ 6 _ _ _ heb
    have g7 := cell_of_row wb _ 7 _ _ _ heb
    have HC : Kpt (Calls Tryz.prog 29 #[.agg #[.int .i64 0, .string x.e.m, .string x.e.n, .string x.e.tx, .int .i64 x.e.num, .slice none 0 0, .slice none 0 0, .slice none 0 0], .agg #[.int .i64 0, .string ⟨#[]⟩, .string ⟨#[]⟩, .string ⟨#[]⟩, .int .i64 0, .slice none 0 0, .slice none 0 0, .slice none 0 0]] wb fun e W'' => e = .returned (.bool ((restE x.e).eq Xp0)) ∧ Below wb.heap.size wb W'') := hid (by rw [hres]; exact HE.out { e := { k := 0, m := x.e.m, n := x.e.n, tx := x.e.tx, num := x.e.num, T := .nil, L := [], K := .nil }, aT := none, cT := 0, aL := none, cL := 0, aK := none, cK := 0, hk := (rfl : (Lit.int .i64 0).wf = true), hnum := x.hnum, hT := .inl rfl, hL := .inl rfl, hK := .inl rfl } (XpI0 w0) (by have h := HX.out; rw [Xp.bk_eq] at h; rw [Xp.bk_eq]; simp only [Tr.enc, encLb, Ex.enc, Dt.bk] at h ⊢; have he0 : (⟨#[]⟩ : ByteArray).size = 0 := rfl; omega) wb (HB.out.2.trans (hbb.mono HB.out.2.size)))
    have H2 := hid (HB.out.1.trans (hbb.mono HB.out.1.size))
    clear hres hbb heb hbk
    rw [q8] at m0
    clear q8
    generalize (restE x.e).eq Xp0 = RES at HC ⊢
    go_enter Tryz.func125, Tryz.ntmps125
    go_wp2_with fail
    refine HC.out.mono ?_
    rintro e w4 ⟨rfl, hb4⟩
    have H4 := hid (H2.out.trans (hb4.mono H2.out.size))
    clear hb4
    go_wp2_with fail
    go_ret
    exact ⟨rfl, H4.out⟩
  by_cases q9 : x.e.k = 9
  · have hres : restE x.e = { k := 0, m := x.e.m, n := x.e.n, tx := x.e.tx, num := x.e.num, T := .nil, L := [], K := .nil } := by unfold restE; rw [if_neg q0, if_neg q1, if_neg q2, if_neg (by omega), if_neg q4, if_pos (by omega)]
    obtain ⟨wb, hwb⟩ : ∃ wb, wa.alloc (.cells #[.int .i64 0, .string x.e.m, .string x.e.n, .string x.e.tx, .int .i64 x.e.num, .slice none 0 0, .slice none 0 0, .slice none 0 0] 29) = wb := ⟨_, rfl⟩
    have hbb : Below wa.heap.size wa wb := by rw [← hwb]; exact (Below.refl _ wa).alloc (Nat.le_refl _) _
    have heb : wb.heap[wa.heap.size]? = some (.cells #[.int .i64 0, .string x.e.m, .string x.e.n, .string x.e.tx, .int .i64 x.e.num, .slice none 0 0, .slice none 0 0, .slice none 0 0] 29 (0, 0)) := by rw [← hwb]; exact World.alloc_heap_new _ _
    have g0 := cell_of_row wb _ 0 _ _ _ heb
    have g1 := cell_of_row wb _ 1 _ _ _ heb
    have g2 := cell_of_row wb _ 2 _ _ _ heb
    have g3 := cell_of_row wb _ 3 _ _ _ heb
    have g4 := cell_of_row wb _ 4 _ _ _ heb
    have g5 := cell_of_row wb _ 5 _ _ _ heb
    have g6 := cell_of_row wb _ 6 _ _ _ heb
    have g7 := cell_of_row wb _ 7 _ _ _ heb
    have HC : Kpt (Calls Tryz.prog 29 #[.agg #[.int .i64 0, .string x.e.m, .string x.e.n, .string x.e.tx, .int .i64 x.e.num, .slice none 0 0, .slice none 0 0, .slice none 0 0], .agg #[.int .i64 0, .string ⟨#[]⟩, .string ⟨#[]⟩, .string ⟨#[]⟩, .int .i64 0, .slice none 0 0, .slice none 0 0, .slice none 0 0]] wb fun e W'' => e = .returned (.bool ((restE x.e).eq Xp0)) ∧ Below wb.heap.size wb W'') := hid (by rw [hres]; exact HE.out { e := { k := 0, m := x.e.m, n := x.e.n, tx := x.e.tx, num := x.e.num, T := .nil, L := [], K := .nil }, aT := none, cT := 0, aL := none, cL := 0, aK := none, cK := 0, hk := (rfl : (Lit.int .i64 0).wf = true), hnum := x.hnum, hT := .inl rfl, hL := .inl rfl, hK := .inl rfl } (XpI0 w0) (by have h := HX.out; rw [Xp.bk_eq] at h; rw [Xp.bk_eq]; simp only [Tr.enc, encLb, Ex.enc, Dt.bk] at h ⊢; have he0 : (⟨#[]⟩ : ByteArray).size = 0 := rfl; omega) wb (HB.out.2.trans (hbb.mono HB.out.2.size)))
    have H2 := hid (HB.out.1.trans (hbb.mono HB.out.1.size))
    clear hres hbb heb hbk
    rw [q9] at m0
    clear q9
    generalize (restE x.e).eq Xp0 = RES at HC ⊢
    go_enter Tryz.func125, Tryz.ntmps125
    go_wp2_with fail
    refine HC.out.mono ?_
    rintro e w4 ⟨rfl, hb4⟩
    have H4 := hid (H2.out.trans (hb4.mono H2.out.size))
    clear hb4
    go_wp2_with fail
    go_ret
    exact ⟨rfl, H4.out⟩
  by_cases q13 : x.e.k = 13
  · have hres : restE x.e = { k := 0, m := x.e.m, n := x.e.n, tx := x.e.tx, num := x.e.num, T := .nil, L := [], K := .nil } := by unfold restE; rw [if_neg q0, if_neg q1, if_neg q2, if_neg (by omega), if_neg q4, if_pos (by omega)]
    obtain ⟨wb, hwb⟩ : ∃ wb, wa.alloc (.cells #[.int .i64 0, .string x.e.m, .string x.e.n, .string x.e.tx, .int .i64 x.e.num, .slice none 0 0, .slice none 0 0, .slice none 0 0] 29) = wb := ⟨_, rfl⟩
    have hbb : Below wa.heap.size wa wb := by rw [← hwb]; exact (Below.refl _ wa).alloc (Nat.le_refl _) _
    have heb : wb.heap[wa.heap.size]? = some (.cells #[.int .i64 0, .string x.e.m, .string x.e.n, .string x.e.tx, .int .i64 x.e.num, .slice none 0 0, .slice none 0 0, .slice none 0 0] 29 (0, 0)) := by rw [← hwb]; exact World.alloc_heap_new _ _
    have g0 := cell_of_row wb _ 0 _ _ _ heb
    have g1 := cell_of_row wb _ 1 _ _ _ heb
    have g2 := cell_of_row wb _ 2 _ _ _ heb
    have g3 := cell_of_row wb _ 3 _ _ _ heb
    have g4 := cell_of_row wb _ 4 _ _ _ heb
    have g5 := cell_of_row wb _ 5 _ _ _ heb
    have g6 := cell_of_row wb _ 6 _ _ _ heb
    have g7 := cell_of_row wb _ 7 _ _ _ heb
    have HC : Kpt (Calls Tryz.prog 29 #[.agg #[.int .i64 0, .string x.e.m, .string x.e.n, .string x.e.tx, .int .i64 x.e.num, .slice none 0 0, .slice none 0 0, .slice none 0 0], .agg #[.int .i64 0, .string ⟨#[]⟩, .string ⟨#[]⟩, .string ⟨#[]⟩, .int .i64 0, .slice none 0 0, .slice none 0 0, .slice none 0 0]] wb fun e W'' => e = .returned (.bool ((restE x.e).eq Xp0)) ∧ Below wb.heap.size wb W'') := hid (by rw [hres]; exact HE.out { e := { k := 0, m := x.e.m, n := x.e.n, tx := x.e.tx, num := x.e.num, T := .nil, L := [], K := .nil }, aT := none, cT := 0, aL := none, cL := 0, aK := none, cK := 0, hk := (rfl : (Lit.int .i64 0).wf = true), hnum := x.hnum, hT := .inl rfl, hL := .inl rfl, hK := .inl rfl } (XpI0 w0) (by have h := HX.out; rw [Xp.bk_eq] at h; rw [Xp.bk_eq]; simp only [Tr.enc, encLb, Ex.enc, Dt.bk] at h ⊢; have he0 : (⟨#[]⟩ : ByteArray).size = 0 := rfl; omega) wb (HB.out.2.trans (hbb.mono HB.out.2.size)))
    have H2 := hid (HB.out.1.trans (hbb.mono HB.out.1.size))
    clear hres hbb heb hbk
    rw [q13] at m0
    clear q13
    generalize (restE x.e).eq Xp0 = RES at HC ⊢
    go_enter Tryz.func125, Tryz.ntmps125
    go_wp2_with fail
    refine HC.out.mono ?_
    rintro e w4 ⟨rfl, hb4⟩
    have H4 := hid (H2.out.trans (hb4.mono H2.out.size))
    clear hb4
    go_wp2_with fail
    go_ret
    exact ⟨rfl, H4.out⟩
  by_cases q15 : x.e.k = 15
  · have hres : restE x.e = { k := 0, m := x.e.m, n := ⟨#[]⟩, tx := ⟨#[]⟩, num := x.e.num, T := .nil, L := x.e.L, K := .nil } := by unfold restE; rw [if_neg q0, if_neg q1, if_neg q2, if_neg (by omega), if_neg q4, if_neg (by omega), if_pos q15]
    obtain ⟨wb, hwb⟩ : ∃ wb, wa.alloc (.cells #[.int .i64 0, .string x.e.m, .string ⟨#[]⟩, .string ⟨#[]⟩, .int .i64 x.e.num, .slice none 0 0, .slice x.aL x.e.L.length x.cL, .slice none 0 0] 29) = wb := ⟨_, rfl⟩
    have hbb : Below wa.heap.size wa wb := by rw [← hwb]; exact (Below.refl _ wa).alloc (Nat.le_refl _) _
    have heb : wb.heap[wa.heap.size]? = some (.cells #[.int .i64 0, .string x.e.m, .string ⟨#[]⟩, .string ⟨#[]⟩, .int .i64 x.e.num, .slice none 0 0, .slice x.aL x.e.L.length x.cL, .slice none 0 0] 29 (0, 0)) := by rw [← hwb]; exact World.alloc_heap_new _ _
    have g0 := cell_of_row wb _ 0 _ _ _ heb
    have g1 := cell_of_row wb _ 1 _ _ _ heb
    have g2 := cell_of_row wb _ 2 _ _ _ heb
    have g3 := cell_of_row wb _ 3 _ _ _ heb
    have g4 := cell_of_row wb _ 4 _ _ _ heb
    have g5 := cell_of_row wb _ 5 _ _ _ heb
    have g6 := cell_of_row wb _ 6 _ _ _ heb
    have g7 := cell_of_row wb _ 7 _ _ _ heb
    have HC : Kpt (Calls Tryz.prog 29 #[.agg #[.int .i64 0, .string x.e.m, .string ⟨#[]⟩, .string ⟨#[]⟩, .int .i64 x.e.num, .slice none 0 0, .slice x.aL x.e.L.length x.cL, .slice none 0 0], .agg #[.int .i64 0, .string ⟨#[]⟩, .string ⟨#[]⟩, .string ⟨#[]⟩, .int .i64 0, .slice none 0 0, .slice none 0 0, .slice none 0 0]] wb fun e W'' => e = .returned (.bool ((restE x.e).eq Xp0)) ∧ Below wb.heap.size wb W'') := hid (by rw [hres]; exact HE.out { e := { k := 0, m := x.e.m, n := ⟨#[]⟩, tx := ⟨#[]⟩, num := x.e.num, T := .nil, L := x.e.L, K := .nil }, aT := none, cT := 0, aL := x.aL, cL := x.cL, aK := none, cK := 0, hk := (rfl : (Lit.int .i64 0).wf = true), hnum := x.hnum, hT := .inl rfl, hL := x.hL, hK := .inl rfl } (XpI0 w0) (by have h := HX.out; rw [Xp.bk_eq] at h; rw [Xp.bk_eq]; simp only [Tr.enc, encLb, Ex.enc, Dt.bk] at h ⊢; have he0 : (⟨#[]⟩ : ByteArray).size = 0 := rfl; omega) wb (HB.out.2.trans (hbb.mono HB.out.2.size)))
    have H2 := hid (HB.out.1.trans (hbb.mono HB.out.1.size))
    clear hres hbb heb hbk
    rw [q15] at m0
    clear q15
    generalize (restE x.e).eq Xp0 = RES at HC ⊢
    go_enter Tryz.func125, Tryz.ntmps125
    go_wp2_with fail
    refine HC.out.mono ?_
    rintro e w4 ⟨rfl, hb4⟩
    have H4 := hid (H2.out.trans (hb4.mono H2.out.size))
    clear hb4
    go_wp2_with fail
    go_ret
    exact ⟨rfl, H4.out⟩
  have hres : restE x.e = { k := 0, m := x.e.m, n := x.e.n, tx := x.e.tx, num := x.e.num, T := .nil, L := x.e.L, K := .nil } := by unfold restE; rw [if_neg q0, if_neg q1, if_neg q2, if_neg (by omega), if_neg q4, if_neg (by omega), if_neg q15]
  obtain ⟨wb, hwb⟩ : ∃ wb, wa.alloc (.cells #[.int .i64 0, .string x.e.m, .string x.e.n, .string x.e.tx, .int .i64 x.e.num, .slice none 0 0, .slice x.aL x.e.L.length x.cL, .slice none 0 0] 29) = wb := ⟨_, rfl⟩
  have hbb : Below wa.heap.size wa wb := by rw [← hwb]; exact (Below.refl _ wa).alloc (Nat.le_refl _) _
  have heb : wb.heap[wa.heap.size]? = some (.cells #[.int .i64 0, .string x.e.m, .string x.e.n, .string x.e.tx, .int .i64 x.e.num, .slice none 0 0, .slice x.aL x.e.L.length x.cL, .slice none 0 0] 29 (0, 0)) := by rw [← hwb]; exact World.alloc_heap_new _ _
  have g0 := cell_of_row wb _ 0 _ _ _ heb
  have g1 := cell_of_row wb _ 1 _ _ _ heb
  have g2 := cell_of_row wb _ 2 _ _ _ heb
  have g3 := cell_of_row wb _ 3 _ _ _ heb
  have g4 := cell_of_row wb _ 4 _ _ _ heb
  have g5 := cell_of_row wb _ 5 _ _ _ heb
  have g6 := cell_of_row wb _ 6 _ _ _ heb
  have g7 := cell_of_row wb _ 7 _ _ _ heb
  have HC : Kpt (Calls Tryz.prog 29 #[.agg #[.int .i64 0, .string x.e.m, .string x.e.n, .string x.e.tx, .int .i64 x.e.num, .slice none 0 0, .slice x.aL x.e.L.length x.cL, .slice none 0 0], .agg #[.int .i64 0, .string ⟨#[]⟩, .string ⟨#[]⟩, .string ⟨#[]⟩, .int .i64 0, .slice none 0 0, .slice none 0 0, .slice none 0 0]] wb fun e W'' => e = .returned (.bool ((restE x.e).eq Xp0)) ∧ Below wb.heap.size wb W'') := hid (by rw [hres]; exact HE.out { e := { k := 0, m := x.e.m, n := x.e.n, tx := x.e.tx, num := x.e.num, T := .nil, L := x.e.L, K := .nil }, aT := none, cT := 0, aL := x.aL, cL := x.cL, aK := none, cK := 0, hk := (rfl : (Lit.int .i64 0).wf = true), hnum := x.hnum, hT := .inl rfl, hL := x.hL, hK := .inl rfl } (XpI0 w0) (by have h := HX.out; rw [Xp.bk_eq] at h; rw [Xp.bk_eq]; simp only [Tr.enc, encLb, Ex.enc, Dt.bk] at h ⊢; have he0 : (⟨#[]⟩ : ByteArray).size = 0 := rfl; omega) wb (HB.out.2.trans (hbb.mono HB.out.2.size)))
  have H2 := hid (HB.out.1.trans (hbb.mono HB.out.1.size))
  clear hres hbb heb hbk
  rw [hwb] at m0 m4
  generalize (restE x.e).eq Xp0 = RES at HC ⊢
  go_enter Tryz.func125, Tryz.ntmps125
  go_wp2_with fail
  refine HC.out.mono ?_
  rintro e w4 ⟨rfl, hb4⟩
  have H4 := hid (H2.out.trans (hb4.mono H2.out.size))
  clear hb4
  go_wp2_with fail
  go_ret
  exact ⟨rfl, H4.out⟩
end Go.Proofs.YtnkhebgjhipepaaGreatDoor
