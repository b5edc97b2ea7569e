/- syntax: a declaration, a module and a head are checked. -/
import Derived.Test.YtnkhebgjhipepaaGreatDoorKc
import Derived.Test.YtnkhebgjhipepaaGreatDoorXm
import Derived.Test.YtnkhebgjhipepaaGreatDoorEqD
import Derived.Test.YtnkhebgjhipepaaGreatDoorSyFr
import Derived.Test.YtnkhebgjhipepaaGreatDoorEqM
import Derived.Deep.MidRow
import Derived.Test.YtnkhebgjhipepaaGreatDoorFlow
namespace Go.Proofs.YtnkhebgjhipepaaGreatDoor
open Go.RowKit Go.Shelf
attribute [local go_sem] Oper.semAt_some

def Pm0 : Pm := { nm := ⟨#[]⟩, vr := 0, t := Ty0 }
/-- What is left of a parameter without what the kind names. -/
def restP (k : Int) (l : Pm) : Pm := if k = 0 then { nm := ⟨#[]⟩, vr := if 0 ≤ l.vr ∧ l.vr ≤ 2 then 0 else l.vr, t := l.t } else if k = 1 then { nm := ⟨#[]⟩, vr := l.vr, t := Ty0 } else { nm := ⟨#[]⟩, vr := l.vr, t := l.t }
set_option maxRecDepth 100000 in
theorem isvariance_any (n : Int) (w : World) : Calls Tryz.prog 164 #[.int .i64 n] w fun e w' => e = .returned (.bool (decide (0 ≤ n ∧ n ≤ 2))) ∧ w' = w := by
 rcases (by omega : n = 0 ∨ n = 1 ∨ n = 2 ∨ (n ≠ 0 ∧ n ≠ 1 ∧ n ≠ 2)) with rfl | rfl | rfl | ⟨h0, h1, h2⟩
 iterate 3
  · go_enter Tryz.func164, Tryz.ntmps164
    go_wp2_with fail
    go_ret
    exact ⟨rfl, rfl⟩
 have hr : decide (0 ≤ n ∧ n ≤ 2) = false := by simp; omega
 rw [hr]
 clear hr
 have e0 : (n == 0) = false := by simp [h0]
 have e1 : (n == 1) = false := by simp [h1]
 have e2 : (n == 2) = false := by simp [h2]
 clear h0 h1 h2
 go_enter Tryz.func164, Tryz.ntmps164
 go_wp2_with fail
 go_ret
 exact ⟨rfl, rfl⟩
set_option maxRecDepth 100000 in
set_option maxHeartbeats 8000000 in
theorem paramparts_any {w0 : World} (p : DcI w0) (hl : p.d.P.length ≤ 1099511627776) (hts : ∀ l ∈ p.d.P, l.t.size ≤ 1099511627776) (W : World) (hW : Below w0.heap.size w0 W) :
 Calls Tryz.prog 107 #[.agg #[.int .i64 p.d.k, .string p.d.nm, .bool p.d.ex, .bool p.d.dp, .string p.d.note, .slice p.aP p.d.P.length p.cP, .int .i64 p.lo.t.k, .string p.lo.t.m, .string p.lo.t.n, .slice p.lo.aa p.lo.t.A.len p.lo.ca, .slice p.lo.af p.lo.t.F.len p.lo.cf, .int .i64 p.up.t.k, .string p.up.t.m, .string p.up.t.n, .slice p.up.aa p.up.t.A.len p.up.ca, .slice p.up.af p.up.t.F.len p.up.cf, .int .i64 p.t.t.k, .string p.t.t.m, .string p.t.t.n, .slice p.t.aa p.t.t.A.len p.t.ca, .slice p.t.af p.t.t.F.len p.t.cf, .int .i64 p.e.e.k, .string p.e.e.m, .string p.e.e.n, .string p.e.e.tx, .int .i64 p.e.e.num, .slice p.e.aT p.e.e.T.len p.e.cT, .slice p.e.aL p.e.e.L.length p.e.cL, .slice p.e.aK p.e.e.K.len p.e.cK, .string p.d.m, .string p.d.tg]] W fun e W' => e = .returned (.bool (p.d.P.all fun l => (restP p.d.k l).eq Pm0)) ∧ Below W.heap.size W W' := by
 obtain ⟨wa, hwa⟩ : ∃ wa, W.alloc (.cells #[.int .i64 p.d.k, .string p.d.nm, .bool p.d.ex, .bool p.d.dp, .string p.d.note, .slice p.aP p.d.P.length p.cP, .int .i64 p.lo.t.k, .string p.lo.t.m, .string p.lo.t.n, .slice p.lo.aa p.lo.t.A.len p.lo.ca, .slice p.lo.af p.lo.t.F.len p.lo.cf, .int .i64 p.up.t.k, .string p.up.t.m, .string p.up.t.n, .slice p.up.aa p.up.t.A.len p.up.ca, .slice p.up.af p.up.t.F.len p.up.cf, .int .i64 p.t.t.k, .string p.t.t.m, .string p.t.t.n, .slice p.t.aa p.t.t.A.len p.t.ca, .slice p.t.af p.t.t.F.len p.t.cf, .int .i64 p.e.e.k, .string p.e.e.m, .string p.e.e.n, .string p.e.e.tx, .int .i64 p.e.e.num, .slice p.e.aT p.e.e.T.len p.e.cT, .slice p.e.aL p.e.e.L.length p.e.cL, .slice p.e.aK p.e.e.K.len p.e.cK, .string p.d.m, .string p.d.tg] 75) = wa := ⟨_, rfl⟩
 have hba : Below W.heap.size W wa := by rw [← hwa]; exact (Below.refl _ W).alloc (Nat.le_refl _) _
 have hea : wa.heap[W.heap.size]? = some (.cells #[.int .i64 p.d.k, .string p.d.nm, .bool p.d.ex, .bool p.d.dp, .string p.d.note, .slice p.aP p.d.P.length p.cP, .int .i64 p.lo.t.k, .string p.lo.t.m, .string p.lo.t.n, .slice p.lo.aa p.lo.t.A.len p.lo.ca, .slice p.lo.af p.lo.t.F.len p.lo.cf, .int .i64 p.up.t.k, .string p.up.t.m, .string p.up.t.n, .slice p.up.aa p.up.t.A.len p.up.ca, .slice p.up.af p.up.t.F.len p.up.cf, .int .i64 p.t.t.k, .string p.t.t.m, .string p.t.t.n, .slice p.t.aa p.t.t.A.len p.t.ca, .slice p.t.af p.t.t.F.len p.t.cf, .int .i64 p.e.e.k, .string p.e.e.m, .string p.e.e.n, .string p.e.e.tx, .int .i64 p.e.e.num, .slice p.e.aT p.e.e.T.len p.e.cT, .slice p.e.aL p.e.e.L.length p.e.cL, .slice p.e.aK p.e.e.K.len p.e.cK, .string p.d.m, .string p.d.tg] 75 (0, 0)) := by rw [← hwa]; exact World.alloc_heap_new _ _
 have k5 := cell_of_row wa _ 5 _ _ _ hea
 have k0 : ∀ w : World, Below wa.heap.size wa w → w.cell? ⟨W.heap.size, 0, none⟩ = some (.int .i64 p.d.k) := fun w hb => cell_of_row w _ 0 _ _ _ ((hb.block _ (Array.getElem?_eq_some_iff.1 hea).1).trans hea)
 have HB := hid hba
 have HK0 := hid k0
 have HWa := hid (hW.trans (hba.mono hW.size))
 have HTS := hid hts
 clear hba hea hW hts k0
 have HXL := hid p.hP
 go_enter Tryz.func107, Tryz.ntmps107
 go_wp2_with fail
 clear hwa
 go_loopw [8] (fun a wr => ∃ (i : Nat) (r : List Pm), a = .int .i64 (i : Int) ∧ r.length + i = p.d.P.length ∧ Kpt (r.all (fun l => (restP p.d.k l).eq Pm0) = (p.d.P.all fun l => (restP p.d.k l).eq Pm0)) ∧ Kpt (∀ l ∈ r, l ∈ p.d.P) ∧ Kpt (RowD w0 (encPm r) p.aP (i * 7)) ∧ Below wa.heap.size wa wr) (fun a _ => p.d.P.length - (intOf a).toNat)
 case atStart => exact ⟨0, p.d.P, rfl, by omega, ⟨rfl⟩, ⟨fun _ h => h⟩, ⟨rowD_zero HXL.out⟩, Below.refl _ _⟩
 case round =>
  obtain ⟨i, r, rfl, hri, hall, hmem, hR, hB⟩ := hrel
  cases r with
  | nil =>
   have hi9 : i = p.d.P.length := by simp only [List.length_nil] at hri; omega
   subst hi9
   have HZ := hid (And.intro hall.out hB)
   clear hri hR hB k5 hall hmem
   go_wp2_with fail
   go_ret
   exact ⟨by rw [← HZ.out.1]; rfl, HB.out.trans (HZ.out.2.mono HB.out.size)⟩
  | cons lx r' =>
   have hlt : i < p.d.P.length := by simp only [List.length_cons] at hri; omega
   obtain ⟨bf, of, y, haf, hy, hvw, ⟨d0, d1, d2, d3, d4, d5, d6⟩, hr1⟩ := rowD_pm hR.out
   have hWr := HWa.out.trans (hB.mono HWa.out.size)
   replace d0 := old_cell hWr d0
   replace d1 := old_cell hWr d1
   replace d2 := old_cell hWr d2
   replace d3 := old_cell hWr d3
   replace d4 := old_cell hWr d4
   replace d5 := old_cell hWr d5
   replace d6 := old_cell hWr d6
   rw [haf]
   have hri' : r'.length + (i + 1) = p.d.P.length := by simp only [List.length_cons] at hri; omega
   have hyt : y.t.size ≤ 1099511627776 := by rw [hy]; exact HTS.out lx (hmem.out lx List.mem_cons_self)
   have hba1 : Below wr.heap.size wr (wr.alloc (.cells #[.string ⟨#[]⟩, .int .i64 lx.vr, .int .i64 y.t.k, .string y.t.m, .string y.t.n, .slice y.aa y.t.A.len y.ca, .slice y.af y.t.F.len y.cf] 77)) := (Below.refl _ wr).alloc (Nat.le_refl _) _
   have m1 := HK0.out _ (hB.trans (hba1.mono hB.size))
   have HQ := hid (And.intro hr1 (And.intro hB (And.intro hall.out (And.intro hri' (And.intro (fun l hl' => hmem.out l (List.mem_cons_of_mem _ hl')) hWr)))))
   have HY := hid hy
   have HV := hid (isvariance_any lx.vr)
   clear hr1 hB hall hri' hri hR hy hmem hba1 hWr k5 hvw
   by_cases qk : p.d.k = 0
   · by_cases qv : 0 ≤ lx.vr ∧ lx.vr ≤ 2
     · have hd : decide (0 ≤ lx.vr ∧ lx.vr ≤ 2) = true := decide_eq_true qv
       rw [hd] at HV
       clear hd
       obtain ⟨wb, hwb⟩ : ∃ wb, wr.alloc (.cells #[.string ⟨#[]⟩, .int .i64 0, .int .i64 y.t.k, .string y.t.m, .string y.t.n, .slice y.aa y.t.A.len y.ca, .slice y.af y.t.F.len y.cf] 77) = wb := ⟨_, rfl⟩
       have hbb : Below wr.heap.size wr wb := by rw [← hwb]; exact (Below.refl _ wr).alloc (Nat.le_refl _) _
       have heb : wb.heap[wr.heap.size]? = some (.cells #[.string ⟨#[]⟩, .int .i64 0, .int .i64 y.t.k, .string y.t.m, .string y.t.n, .slice y.aa y.t.A.len y.ca, .slice y.af y.t.F.len y.cf] 77 (0, 0)) := by rw [← hwb]; exact World.alloc_heap_new _ _
       have g0 := cell_of_row wb _ 0 _ _ _ heb
       have g1 := cell_of_row wb _ 1 _ _ _ heb
       have g2 := cell_of_row wb _ 2 _ _ _ heb
       have g3 := cell_of_row wb _ 3 _ _ _ heb
       have g4 := cell_of_row wb _ 4 _ _ _ heb
       have g5 := cell_of_row wb _ 5 _ _ _ heb
       have g6 := cell_of_row wb _ 6 _ _ _ heb
       have hres : restP p.d.k lx = { nm := ⟨#[]⟩, vr := 0, t := lx.t } := by unfold restP; rw [if_pos qk, if_pos qv]
       have HC : Kpt (Calls Tryz.prog 130 #[.agg #[.string ⟨#[]⟩, .int .i64 0, .int .i64 y.t.k, .string y.t.m, .string y.t.n, .slice y.aa y.t.A.len y.ca, .slice y.af y.t.F.len y.cf], .agg #[.string ⟨#[]⟩, .int .i64 0, .int .i64 0, .string ⟨#[]⟩, .string ⟨#[]⟩, .slice none 0 0, .slice none 0 0]] wb fun e W'' => e = .returned (.bool ((restP p.d.k lx).eq Pm0)) ∧ Below wb.heap.size wb W'') := hid (by rw [hres]; exact pm_any w0 { nm := ⟨#[]⟩, vr := 0, t := lx.t } Pm0 y (TyI0 w0) HY.out rfl hyt wb (HQ.out.2.2.2.2.2.trans (hbb.mono HQ.out.2.2.2.2.2.size)))
       clear hres
       have H2 := hid (HQ.out.2.1.trans (hbb.mono HQ.out.2.1.size))
       clear hbb heb
       rw [qk] at m1
       clear qk qv
       go_wp2_with fail
       refine (HV.out _).mono ?_
       rintro e w9 ⟨rfl, rfl⟩
       go_wp2_with fail
       refine HC.out.mono ?_
       rintro e w4 ⟨rfl, hb4⟩
       have H4 := hid (H2.out.trans (hb4.mono H2.out.size))
       clear hb4
       cases hO : (restP p.d.k lx).eq Pm0 with
       | false =>
        have HF := hid (show (p.d.P.all fun l => (restP p.d.k l).eq Pm0) = false by rw [← HQ.out.2.2.1, List.all_cons, hO]; rfl)
        clear hO
        go_wp2_with fail
        go_ret
        exact ⟨by rw [HF.out]; rfl, HB.out.trans (H4.out.mono HB.out.size)⟩
       | true =>
        have HF := hid (show r'.all (fun l => (restP p.d.k l).eq Pm0) = (p.d.P.all fun l => (restP p.d.k l).eq Pm0) by rw [← HQ.out.2.2.1, List.all_cons, hO]; rfl)
        clear hO
        go_wp2_with fail
        go_roundw
        case rel => exact ⟨i + 1, r', by go_num, HQ.out.2.2.2.1, ⟨HF.out⟩, ⟨HQ.out.2.2.2.2.1⟩, haf ▸ ⟨HQ.out.1⟩, H4.out⟩
        case measure => simp [intOf]; omega
     · have hd : decide (0 ≤ lx.vr ∧ lx.vr ≤ 2) = false := decide_eq_false qv
       rw [hd] at HV
       clear hd
       obtain ⟨wb, hwb⟩ : ∃ wb, wr.alloc (.cells #[.string ⟨#[]⟩, .int .i64 lx.vr, .int .i64 y.t.k, .string y.t.m, .string y.t.n, .slice y.aa y.t.A.len y.ca, .slice y.af y.t.F.len y.cf] 77) = wb := ⟨_, rfl⟩
       have hbb : Below wr.heap.size wr wb := by rw [← hwb]; exact (Below.refl _ wr).alloc (Nat.le_refl _) _
       have heb : wb.heap[wr.heap.size]? = some (.cells #[.string ⟨#[]⟩, .int .i64 lx.vr, .int .i64 y.t.k, .string y.t.m, .string y.t.n, .slice y.aa y.t.A.len y.ca, .slice y.af y.t.F.len y.cf] 77 (0, 0)) := by rw [← hwb]; exact World.alloc_heap_new _ _
       have g0 := cell_of_row wb _ 0 _ _ _ heb
       have g1 := cell_of_row wb _ 1 _ _ _ heb
       have g2 := cell_of_row wb _ 2 _ _ _ heb
       have g3 := cell_of_row wb _ 3 _ _ _ heb
       have g4 := cell_of_row wb _ 4 _ _ _ heb
       have g5 := cell_of_row wb _ 5 _ _ _ heb
       have g6 := cell_of_row wb _ 6 _ _ _ heb
       have hres : restP p.d.k lx = { nm := ⟨#[]⟩, vr := lx.vr, t := lx.t } := by unfold restP; rw [if_pos qk, if_neg qv]
       have HC : Kpt (Calls Tryz.prog 130 #[.agg #[.string ⟨#[]⟩, .int .i64 lx.vr, .int .i64 y.t.k, .string y.t.m, .string y.t.n, .slice y.aa y.t.A.len y.ca, .slice y.af y.t.F.len y.cf], .agg #[.string ⟨#[]⟩, .int .i64 0, .int .i64 0, .string ⟨#[]⟩, .string ⟨#[]⟩, .slice none 0 0, .slice none 0 0]] wb fun e W'' => e = .returned (.bool ((restP p.d.k lx).eq Pm0)) ∧ Below wb.heap.size wb W'') := hid (by rw [hres]; exact pm_any w0 { nm := ⟨#[]⟩, vr := lx.vr, t := lx.t } Pm0 y (TyI0 w0) HY.out rfl hyt wb (HQ.out.2.2.2.2.2.trans (hbb.mono HQ.out.2.2.2.2.2.size)))
       clear hres
       have H2 := hid (HQ.out.2.1.trans (hbb.mono HQ.out.2.1.size))
       clear hbb heb
       rw [qk] at m1
       clear qk qv
       rw [hwb] at m1
       go_wp2_with fail
       refine (HV.out _).mono ?_
       rintro e w9 ⟨rfl, rfl⟩
       go_wp2_with fail
       refine HC.out.mono ?_
       rintro e w4 ⟨rfl, hb4⟩
       have H4 := hid (H2.out.trans (hb4.mono H2.out.size))
       clear hb4
       cases hO : (restP p.d.k lx).eq Pm0 with
       | false =>
        have HF := hid (show (p.d.P.all fun l => (restP p.d.k l).eq Pm0) = false by rw [← HQ.out.2.2.1, List.all_cons, hO]; rfl)
        clear hO
        go_wp2_with fail
        go_ret
        exact ⟨by rw [HF.out]; rfl, HB.out.trans (H4.out.mono HB.out.size)⟩
       | true =>
        have HF := hid (show r'.all (fun l => (restP p.d.k l).eq Pm0) = (p.d.P.all fun l => (restP p.d.k l).eq Pm0) by rw [← HQ.out.2.2.1, List.all_cons, hO]; rfl)
        clear hO
        go_wp2_with fail
        go_roundw
        case rel => exact ⟨i + 1, r', by go_num, HQ.out.2.2.2.1, ⟨HF.out⟩, ⟨HQ.out.2.2.2.2.1⟩, haf ▸ ⟨HQ.out.1⟩, H4.out⟩
        case measure => simp [intOf]; omega
   by_cases q1 : p.d.k = 1
   · skip
     obtain ⟨wb, hwb⟩ : ∃ wb, wr.alloc (.cells #[.string ⟨#[]⟩, .int .i64 lx.vr, .int .i64 0, .string ⟨#[]⟩, .string ⟨#[]⟩, .slice none 0 0, .slice none 0 0] 77) = wb := ⟨_, rfl⟩
     have hbb : Below wr.heap.size wr wb := by rw [← hwb]; exact (Below.refl _ wr).alloc (Nat.le_refl _) _
     have heb : wb.heap[wr.heap.size]? = some (.cells #[.string ⟨#[]⟩, .int .i64 lx.vr, .int .i64 0, .string ⟨#[]⟩, .string ⟨#[]⟩, .slice none 0 0, .slice none 0 0] 77 (0, 0)) := by rw [← hwb]; exact World.alloc_heap_new _ _
     have g0 := cell_of_row wb _ 0 _ _ _ heb
     have g1 := cell_of_row wb _ 1 _ _ _ heb
     have g2 := cell_of_row wb _ 2 _ _ _ heb
     have g3 := cell_of_row wb _ 3 _ _ _ heb
     have g4 := cell_of_row wb _ 4 _ _ _ heb
     have g5 := cell_of_row wb _ 5 _ _ _ heb
     have g6 := cell_of_row wb _ 6 _ _ _ heb
     have hres : restP p.d.k lx = { nm := ⟨#[]⟩, vr := lx.vr, t := Ty0 } := by unfold restP; rw [if_neg qk, if_pos q1]
     have HC : Kpt (Calls Tryz.prog 130 #[.agg #[.string ⟨#[]⟩, .int .i64 lx.vr, .int .i64 0, .string ⟨#[]⟩, .string ⟨#[]⟩, .slice none 0 0, .slice none 0 0], .agg #[.string ⟨#[]⟩, .int .i64 0, .int .i64 0, .string ⟨#[]⟩, .string ⟨#[]⟩, .slice none 0 0, .slice none 0 0]] wb fun e W'' => e = .returned (.bool ((restP p.d.k lx).eq Pm0)) ∧ Below wb.heap.size wb W'') := hid (by rw [hres]; exact pm_any w0 { nm := ⟨#[]⟩, vr := lx.vr, t := Ty0 } Pm0 (TyI0 w0) (TyI0 w0) rfl rfl (by show Ty.size Ty0 ≤ _; decide) wb (HQ.out.2.2.2.2.2.trans (hbb.mono HQ.out.2.2.2.2.2.size)))
     clear hres
     have H2 := hid (HQ.out.2.1.trans (hbb.mono HQ.out.2.1.size))
     clear hbb heb
     rw [q1] at m1
     clear qk q1
     go_wp2_with fail
     refine HC.out.mono ?_
     rintro e w4 ⟨rfl, hb4⟩
     have H4 := hid (H2.out.trans (hb4.mono H2.out.size))
     clear hb4
     cases hO : (restP p.d.k lx).eq Pm0 with
     | false =>
      have HF := hid (show (p.d.P.all fun l => (restP p.d.k l).eq Pm0) = false by rw [← HQ.out.2.2.1, List.all_cons, hO]; rfl)
      clear hO
      go_wp2_with fail
      go_ret
      exact ⟨by rw [HF.out]; rfl, HB.out.trans (H4.out.mono HB.out.size)⟩
     | true =>
      have HF := hid (show r'.all (fun l => (restP p.d.k l).eq Pm0) = (p.d.P.all fun l => (restP p.d.k l).eq Pm0) by rw [← HQ.out.2.2.1, List.all_cons, hO]; rfl)
      clear hO
      go_wp2_with fail
      go_roundw
      case rel => exact ⟨i + 1, r', by go_num, HQ.out.2.2.2.1, ⟨HF.out⟩, ⟨HQ.out.2.2.2.2.1⟩, haf ▸ ⟨HQ.out.1⟩, H4.out⟩
      case measure => simp [intOf]; omega
   · skip
     obtain ⟨wb, hwb⟩ : ∃ wb, wr.alloc (.cells #[.string ⟨#[]⟩, .int .i64 lx.vr, .int .i64 y.t.k, .string y.t.m, .string y.t.n, .slice y.aa y.t.A.len y.ca, .slice y.af y.t.F.len y.cf] 77) = wb := ⟨_, rfl⟩
     have hbb : Below wr.heap.size wr wb := by rw [← hwb]; exact (Below.refl _ wr).alloc (Nat.le_refl _) _
     have heb : wb.heap[wr.heap.size]? = some (.cells #[.string ⟨#[]⟩, .int .i64 lx.vr, .int .i64 y.t.k, .string y.t.m, .string y.t.n, .slice y.aa y.t.A.len y.ca, .slice y.af y.t.F.len y.cf] 77 (0, 0)) := by rw [← hwb]; exact World.alloc_heap_new _ _
     have g0 := cell_of_row wb _ 0 _ _ _ heb
     have g1 := cell_of_row wb _ 1 _ _ _ heb
     have g2 := cell_of_row wb _ 2 _ _ _ heb
     have g3 := cell_of_row wb _ 3 _ _ _ heb
     have g4 := cell_of_row wb _ 4 _ _ _ heb
     have g5 := cell_of_row wb _ 5 _ _ _ heb
     have g6 := cell_of_row wb _ 6 _ _ _ heb
     have hres : restP p.d.k lx = { nm := ⟨#[]⟩, vr := lx.vr, t := lx.t } := by unfold restP; rw [if_neg qk, if_neg q1]
     have HC : Kpt (Calls Tryz.prog 130 #[.agg #[.string ⟨#[]⟩, .int .i64 lx.vr, .int .i64 y.t.k, .string y.t.m, .string y.t.n, .slice y.aa y.t.A.len y.ca, .slice y.af y.t.F.len y.cf], .agg #[.string ⟨#[]⟩, .int .i64 0, .int .i64 0, .string ⟨#[]⟩, .string ⟨#[]⟩, .slice none 0 0, .slice none 0 0]] wb fun e W'' => e = .returned (.bool ((restP p.d.k lx).eq Pm0)) ∧ Below wb.heap.size wb W'') := hid (by rw [hres]; exact pm_any w0 { nm := ⟨#[]⟩, vr := lx.vr, t := lx.t } Pm0 y (TyI0 w0) HY.out rfl hyt wb (HQ.out.2.2.2.2.2.trans (hbb.mono HQ.out.2.2.2.2.2.size)))
     clear hres
     have H2 := hid (HQ.out.2.1.trans (hbb.mono HQ.out.2.1.size))
     clear hbb heb
     rw [hwb] at m1
     go_wp2_with fail
     refine HC.out.mono ?_
     rintro e w4 ⟨rfl, hb4⟩
     have H4 := hid (H2.out.trans (hb4.mono H2.out.size))
     clear hb4
     cases hO : (restP p.d.k lx).eq Pm0 with
     | false =>
      have HF := hid (show (p.d.P.all fun l => (restP p.d.k l).eq Pm0) = false by rw [← HQ.out.2.2.1, List.all_cons, hO]; rfl)
      clear hO
      go_wp2_with fail
      go_ret
      exact ⟨by rw [HF.out]; rfl, HB.out.trans (H4.out.mono HB.out.size)⟩
     | true =>
      have HF := hid (show r'.all (fun l => (restP p.d.k l).eq Pm0) = (p.d.P.all fun l => (restP p.d.k l).eq Pm0) by rw [← HQ.out.2.2.1, List.all_cons, hO]; rfl)
      clear hO
      go_wp2_with fail
      go_roundw
      case rel => exact ⟨i + 1, r', by go_num, HQ.out.2.2.2.1, ⟨HF.out⟩, ⟨HQ.out.2.2.2.2.1⟩, haf ▸ ⟨HQ.out.1⟩, H4.out⟩
      case measure => simp [intOf]; omega
end Go.Proofs.YtnkhebgjhipepaaGreatDoor

namespace Go.Proofs.YtnkhebgjhipepaaGreatDoor
open Go.RowKit Go.Shelf
attribute [local go_sem] Oper.semAt_some

/-- Whether a string is a name of a type. -/
def tyB (s : ByteArray) : Bool := isWk s.data.toList 2
def dcN (d : Dc) : Bool := (d.P.all fun l => tyB l.nm) && (if d.k = 0 then tyB d.nm else if d.k = 1 then nmB d.nm else modB d.m && (nmB d.nm && nmB d.tg || tyB d.nm && tyB d.tg))
set_option maxRecDepth 100000 in
set_option maxHeartbeats 8000000 in
theorem declnames_any {w0 : World} (p : DcI w0) (hl : p.d.P.length ≤ 1099511627776) (hs : p.d.nm.size ≤ 9223372036854775807 ∧ p.d.m.size ≤ 9223372036854775807 ∧ p.d.tg.size ≤ 9223372036854775807 ∧ ∀ l ∈ p.d.P, l.nm.size ≤ 9223372036854775807) (W : World) (hW : Below w0.heap.size w0 W) (hE : Env W) :
 Calls Tryz.prog 108 #[.agg #[.int .i64 p.d.k, .string p.d.nm, .bool p.d.ex, .bool p.d.dp, .string p.d.note, .slice p.aP p.d.P.length p.cP, .int .i64 p.lo.t.k, .string p.lo.t.m, .string p.lo.t.n, .slice p.lo.aa p.lo.t.A.len p.lo.ca, .slice p.lo.af p.lo.t.F.len p.lo.cf, .int .i64 p.up.t.k, .string p.up.t.m, .string p.up.t.n, .slice p.up.aa p.up.t.A.len p.up.ca, .slice p.up.af p.up.t.F.len p.up.cf, .int .i64 p.t.t.k, .string p.t.t.m, .string p.t.t.n, .slice p.t.aa p.t.t.A.len p.t.ca, .slice p.t.af p.t.t.F.len p.t.cf, .int .i64 p.e.e.k, .string p.e.e.m, .string p.e.e.n, .string p.e.e.tx, .int .i64 p.e.e.num, .slice p.e.aT p.e.e.T.len p.e.cT, .slice p.e.aL p.e.e.L.length p.e.cL, .slice p.e.aK p.e.e.K.len p.e.cK, .string p.d.m, .string p.d.tg]] W fun e W' => e = .returned (.bool (dcN p.d)) ∧ Below W.heap.size W W' := by
 obtain ⟨wa, hwa⟩ : ∃ wa, W.alloc (.cells #[.int .i64 p.d.k, .string p.d.nm, .bool p.d.ex, .bool p.d.dp, .string p.d.note, .slice p.aP p.d.P.length p.cP, .int .i64 p.lo.t.k, .string p.lo.t.m, .string p.lo.t.n, .slice p.lo.aa p.lo.t.A.len p.lo.ca, .slice p.lo.af p.lo.t.F.len p.lo.cf, .int .i64 p.up.t.k, .string p.up.t.m, .string p.up.t.n, .slice p.up.aa p.up.t.A.len p.up.ca, .slice p.up.af p.up.t.F.len p.up.cf, .int .i64 p.t.t.k, .string p.t.t.m, .string p.t.t.n, .slice p.t.aa p.t.t.A.len p.t.ca, .slice p.t.af p.t.t.F.len p.t.cf, .int .i64 p.e.e.k, .string p.e.e.m, .string p.e.e.n, .string p.e.e.tx, .int .i64 p.e.e.num, .slice p.e.aT p.e.e.T.len p.e.cT, .slice p.e.aL p.e.e.L.length p.e.cL, .slice p.e.aK p.e.e.K.len p.e.cK, .string p.d.m, .string p.d.tg] 75) = wa := ⟨_, rfl⟩
 have hba : Below W.heap.size W wa := by rw [← hwa]; exact (Below.refl _ W).alloc (Nat.le_refl _) _
 have hea : wa.heap[W.heap.size]? = some (.cells #[.int .i64 p.d.k, .string p.d.nm, .bool p.d.ex, .bool p.d.dp, .string p.d.note, .slice p.aP p.d.P.length p.cP, .int .i64 p.lo.t.k, .string p.lo.t.m, .string p.lo.t.n, .slice p.lo.aa p.lo.t.A.len p.lo.ca, .slice p.lo.af p.lo.t.F.len p.lo.cf, .int .i64 p.up.t.k, .string p.up.t.m, .string p.up.t.n, .slice p.up.aa p.up.t.A.len p.up.ca, .slice p.up.af p.up.t.F.len p.up.cf, .int .i64 p.t.t.k, .string p.t.t.m, .string p.t.t.n, .slice p.t.aa p.t.t.A.len p.t.ca, .slice p.t.af p.t.t.F.len p.t.cf, .int .i64 p.e.e.k, .string p.e.e.m, .string p.e.e.n, .string p.e.e.tx, .int .i64 p.e.e.num, .slice p.e.aT p.e.e.T.len p.e.cT, .slice p.e.aL p.e.e.L.length p.e.cL, .slice p.e.aK p.e.e.K.len p.e.cK, .string p.d.m, .string p.d.tg] 75 (0, 0)) := by rw [← hwa]; exact World.alloc_heap_new _ _
 have k5 := cell_of_row wa _ 5 _ _ _ hea
 have hlt0 := (Array.getElem?_eq_some_iff.1 hea).1
 have HK0 := hid (show ∀ w : World, Below wa.heap.size wa w → w.heap[W.heap.size]? = _ from fun w hb => (hb.block _ hlt0).trans hea)
 have HB := hid hba
 have HWa := hid (hW.trans (hba.mono hW.size))
 have HN : Kpt (∀ w, Calls Tryz.prog 105 #[.string p.d.nm] w fun e w' => e = .returned (.bool (nmB p.d.nm)) ∧ w' = w) := hid (fun w => isname_any p.d.nm w hs.1)
 have HN2 : Kpt (∀ w, Calls Tryz.prog 105 #[.string p.d.tg] w fun e w' => e = .returned (.bool (nmB p.d.tg)) ∧ w' = w) := hid (fun w => isname_any p.d.tg w hs.2.2.1)
 have HT : Kpt (∀ w, Calls Tryz.prog 84 #[.string p.d.nm] w fun e w' => e = .returned (.bool (tyB p.d.nm)) ∧ w' = w) := hid (fun w => istype_any p.d.nm w hs.1)
 have HT2 : Kpt (∀ w, Calls Tryz.prog 84 #[.string p.d.tg] w fun e w' => e = .returned (.bool (tyB p.d.tg)) ∧ w' = w) := hid (fun w => istype_any p.d.tg w hs.2.2.1)
 have HTP : Kpt (∀ l ∈ p.d.P, ∀ w, Calls Tryz.prog 84 #[.string l.nm] w fun e w' => e = .returned (.bool (tyB l.nm)) ∧ w' = w) := hid (fun l hl' w => istype_any l.nm w (hs.2.2.2 l hl'))
 have HM : Kpt (∀ w, Below W.heap.size W w → Calls Tryz.prog 165 #[.string p.d.m] w fun e w' => e = .returned (.bool (modB p.d.m)) ∧ Below w.heap.size w w') := hid (fun w hw => ismodule_any p.d.m w hs.2.1 (hE.below hw))
 have HRES : Kpt (dcN p.d = ((p.d.P.all fun l => tyB l.nm) && (if p.d.k = 0 then tyB p.d.nm else if p.d.k = 1 then nmB p.d.nm else modB p.d.m && (nmB p.d.nm && nmB p.d.tg || tyB p.d.nm && tyB p.d.tg)))) := hid rfl
 clear hba hea hW hs hE hlt0
 generalize dcN p.d = RES at HRES ⊢
 have HXL := hid p.hP
 go_enter Tryz.func108, Tryz.ntmps108
 go_wp2_with fail
 clear hwa
 go_loopw [10] (fun a wr => ∃ (i : Nat) (r : List Pm), a = .int .i64 (i : Int) ∧ r.length + i = p.d.P.length ∧ Kpt (r.all (fun l => tyB l.nm) = (p.d.P.all fun l => tyB l.nm)) ∧ Kpt (∀ l ∈ r, l ∈ p.d.P) ∧ Kpt (RowD w0 (encPm r) p.aP (i * 7)) ∧ Below wa.heap.size wa wr) (fun a _ => p.d.P.length - (intOf a).toNat)
 case atStart => exact ⟨0, p.d.P, rfl, by omega, ⟨rfl⟩, ⟨fun _ h => h⟩, ⟨rowD_zero HXL.out⟩, Below.refl _ _⟩
 case round =>
  obtain ⟨i, r, rfl, hri, hall, hmem, hR, hB⟩ := hrel
  cases r with
  | cons lx r' =>
   have hlt : i < p.d.P.length := by simp only [List.length_cons] at hri; omega
   obtain ⟨bf, of, y, haf, hy, hvw, ⟨d0, d1, d2, d3, d4, d5, d6⟩, hr1⟩ := rowD_pm hR.out
   have hWr := HWa.out.trans (hB.mono HWa.out.size)
   replace d0 := old_cell hWr d0
   replace d1 := old_cell hWr d1
   replace d2 := old_cell hWr d2
   replace d3 := old_cell hWr d3
   replace d4 := old_cell hWr d4
   replace d5 := old_cell hWr d5
   replace d6 := old_cell hWr d6
   rw [haf]
   have hri' : r'.length + (i + 1) = p.d.P.length := by simp only [List.length_cons] at hri; omega
   obtain ⟨wb, hwb⟩ : ∃ wb, wr.alloc (.cells #[.string lx.nm, .int .i64 lx.vr, .int .i64 y.t.k, .string y.t.m, .string y.t.n, .slice y.aa y.t.A.len y.ca, .slice y.af y.t.F.len y.cf] 77) = wb := ⟨_, rfl⟩
   have hbb : Below wr.heap.size wr wb := by rw [← hwb]; exact (Below.refl _ wr).alloc (Nat.le_refl _) _
   have heb : wb.heap[wr.heap.size]? = some (.cells #[.string lx.nm, .int .i64 lx.vr, .int .i64 y.t.k, .string y.t.m, .string y.t.n, .slice y.aa y.t.A.len y.ca, .slice y.af y.t.F.len y.cf] 77 (0, 0)) := by rw [← hwb]; exact World.alloc_heap_new _ _
   have g0 := cell_of_row wb _ 0 _ _ _ heb
   have HQ := hid (And.intro hr1 (And.intro (hB.trans (hbb.mono hB.size)) (And.intro hall.out (And.intro hri' (fun l hl' => hmem.out l (List.mem_cons_of_mem _ hl'))))))
   have HC := hid (HTP.out lx (hmem.out lx List.mem_cons_self))
   clear hr1 hB hall hri' hri hR hy hmem hbb heb hWr k5 hvw
   go_wp2_with fail
   refine (HC.out _).mono ?_
   rintro e w9 ⟨rfl, rfl⟩
   cases hO : tyB lx.nm with
   | false =>
    have HF := hid (show RES = false by rw [HRES.out, ← HQ.out.2.2.1, List.all_cons, hO]; simp)
    clear hO
    go_wp2_with fail
    go_ret
    exact ⟨by rw [HF.out]; rfl, HB.out.trans (HQ.out.2.1.mono HB.out.size)⟩
   | true =>
    have HF := hid (show r'.all (fun l => tyB l.nm) = (p.d.P.all fun l => tyB l.nm) by rw [← HQ.out.2.2.1, List.all_cons, hO]; rfl)
    clear hO
    go_wp2_with fail
    go_roundw
    case rel => exact ⟨i + 1, r', by go_num, HQ.out.2.2.2.1, ⟨HF.out⟩, ⟨HQ.out.2.2.2.2⟩, haf ▸ ⟨HQ.out.1⟩, HQ.out.2.1⟩
    case measure => simp [intOf]; omega
  | nil =>
   have hi9 : i = p.d.P.length := by simp only [List.length_nil] at hri; omega
   subst hi9
   have hres : RES = if p.d.k = 0 then tyB p.d.nm else if p.d.k = 1 then nmB p.d.nm else modB p.d.m && (nmB p.d.nm && nmB p.d.tg || tyB p.d.nm && tyB p.d.tg) := by rw [HRES.out, ← hall.out]; simp
   have hrow := HK0.out wr hB
   have k0 := cell_of_row wr _ 0 _ _ _ hrow
   have k1 := cell_of_row wr _ 1 _ _ _ hrow
   have k29 := cell_of_row wr _ 29 _ _ _ hrow
   have k30 := cell_of_row wr _ 30 _ _ _ hrow
   have HZ := hid (HB.out.trans (hB.mono HB.out.size))
   clear hri hR hB k5 hall hmem hrow HRES
   by_cases q0 : p.d.k = 0
   · have HF := hid (show RES = tyB p.d.nm by rw [hres, if_pos q0])
     rw [q0] at k0
     clear hres q0
     go_wp2_with fail
     refine (HT.out _).mono ?_
     rintro e w9 ⟨rfl, rfl⟩
     go_wp2_with fail
     go_ret
     exact ⟨by rw [HF.out]; rfl, HZ.out⟩
   by_cases q1 : p.d.k = 1
   · have HF := hid (show RES = nmB p.d.nm by rw [hres, if_neg q0, if_pos q1])
     rw [q1] at k0
     clear hres q1 q0
     go_wp2_with fail
     refine (HN.out _).mono ?_
     rintro e w9 ⟨rfl, rfl⟩
     go_wp2_with fail
     go_ret
     exact ⟨by rw [HF.out]; rfl, HZ.out⟩
   have HF := hid (show RES = (modB p.d.m && (nmB p.d.nm && nmB p.d.tg || tyB p.d.nm && tyB p.d.tg)) by rw [hres, if_neg q0, if_neg q1])
   have HM2 := hid (HM.out wr HZ.out)
   clear hres HM
   generalize nmB p.d.nm = a1 at HN HF
   generalize nmB p.d.tg = a2 at HN2 HF
   generalize tyB p.d.nm = b1 at HT HF
   generalize tyB p.d.tg = b2 at HT2 HF
   generalize modB p.d.m = mo at HM2 HF
   cases a1 with
   | true =>
    go_wp2_with fail
    refine (HN.out _).mono ?_
    rintro e w9 ⟨rfl, rfl⟩
    go_wp2_with fail
    refine (HN2.out _).mono ?_
    rintro e w9 ⟨rfl, rfl⟩
    cases a2 with
    | true =>
     cases b1 with
     | true =>
      go_wp2_with fail
      refine (HT.out _).mono ?_
      rintro e w9 ⟨rfl, rfl⟩
      go_wp2_with fail
      refine (HT2.out _).mono ?_
      rintro e w9 ⟨rfl, rfl⟩
      cases b2 with
      | true =>
       have k29' := k29
       go_wp2_with fail
       refine HM2.out.mono ?_
       rintro e w9 ⟨rfl, hb9⟩
       have H9 := hid (HZ.out.trans (hb9.mono HZ.out.size))
       clear hb9 k29'
       cases mo with
       | false =>
        go_wp2_with fail
        go_ret
        exact ⟨by rw [HF.out] <;> rfl, H9.out⟩
       | true =>
        go_wp2_with fail
        go_ret
        exact ⟨by rw [HF.out] <;> rfl, H9.out⟩
      | false =>
       have k29' := k29
       go_wp2_with fail
       refine HM2.out.mono ?_
       rintro e w9 ⟨rfl, hb9⟩
       have H9 := hid (HZ.out.trans (hb9.mono HZ.out.size))
       clear hb9 k29'
       cases mo with
       | false =>
        go_wp2_with fail
        go_ret
        exact ⟨by rw [HF.out] <;> rfl, H9.out⟩
       | true =>
        go_wp2_with fail
        go_ret
        exact ⟨by rw [HF.out] <;> rfl, H9.out⟩
     | false =>
      go_wp2_with fail
      refine (HT.out _).mono ?_
      rintro e w9 ⟨rfl, rfl⟩
      have k29' := k29
      go_wp2_with fail
      refine HM2.out.mono ?_
      rintro e w9 ⟨rfl, hb9⟩
      have H9 := hid (HZ.out.trans (hb9.mono HZ.out.size))
      clear hb9 k29'
      cases mo with
      | false =>
       go_wp2_with fail
       go_ret
       exact ⟨by rw [HF.out] <;> rfl, H9.out⟩
      | true =>
       go_wp2_with fail
       go_ret
       exact ⟨by rw [HF.out] <;> rfl, H9.out⟩
    | false =>
     cases b1 with
     | true =>
      go_wp2_with fail
      refine (HT.out _).mono ?_
      rintro e w9 ⟨rfl, rfl⟩
      go_wp2_with fail
      refine (HT2.out _).mono ?_
      rintro e w9 ⟨rfl, rfl⟩
      cases b2 with
      | true =>
       have k29' := k29
       go_wp2_with fail
       refine HM2.out.mono ?_
       rintro e w9 ⟨rfl, hb9⟩
       have H9 := hid (HZ.out.trans (hb9.mono HZ.out.size))
       clear hb9 k29'
       cases mo with
       | false =>
        go_wp2_with fail
        go_ret
        exact ⟨by rw [HF.out] <;> rfl, H9.out⟩
       | true =>
        go_wp2_with fail
        go_ret
        exact ⟨by rw [HF.out] <;> rfl, H9.out⟩
      | false =>
       have k29' := k29
       go_wp2_with fail
       refine HM2.out.mono ?_
       rintro e w9 ⟨rfl, hb9⟩
       have H9 := hid (HZ.out.trans (hb9.mono HZ.out.size))
       clear hb9 k29'
       cases mo with
       | false =>
        go_wp2_with fail
        go_ret
        exact ⟨by rw [HF.out] <;> rfl, H9.out⟩
       | true =>
        go_wp2_with fail
        go_ret
        exact ⟨by rw [HF.out] <;> rfl, H9.out⟩
     | false =>
      go_wp2_with fail
      refine (HT.out _).mono ?_
      rintro e w9 ⟨rfl, rfl⟩
      have k29' := k29
      go_wp2_with fail
      refine HM2.out.mono ?_
      rintro e w9 ⟨rfl, hb9⟩
      have H9 := hid (HZ.out.trans (hb9.mono HZ.out.size))
      clear hb9 k29'
      cases mo with
      | false =>
       go_wp2_with fail
       go_ret
       exact ⟨by rw [HF.out] <;> rfl, H9.out⟩
      | true =>
       go_wp2_with fail
       go_ret
       exact ⟨by rw [HF.out] <;> rfl, H9.out⟩
   | false =>
    go_wp2_with fail
    refine (HN.out _).mono ?_
    rintro e w9 ⟨rfl, rfl⟩
    cases b1 with
    | true =>
     go_wp2_with fail
     refine (HT.out _).mono ?_
     rintro e w9 ⟨rfl, rfl⟩
     go_wp2_with fail
     refine (HT2.out _).mono ?_
     rintro e w9 ⟨rfl, rfl⟩
     cases b2 with
     | true =>
      have k29' := k29
      go_wp2_with fail
      refine HM2.out.mono ?_
      rintro e w9 ⟨rfl, hb9⟩
      have H9 := hid (HZ.out.trans (hb9.mono HZ.out.size))
      clear hb9 k29'
      cases mo with
      | false =>
       go_wp2_with fail
       go_ret
       exact ⟨by rw [HF.out] <;> rfl, H9.out⟩
      | true =>
       go_wp2_with fail
       go_ret
       exact ⟨by rw [HF.out] <;> rfl, H9.out⟩
     | false =>
      have k29' := k29
      go_wp2_with fail
      refine HM2.out.mono ?_
      rintro e w9 ⟨rfl, hb9⟩
      have H9 := hid (HZ.out.trans (hb9.mono HZ.out.size))
      clear hb9 k29'
      cases mo with
      | false =>
       go_wp2_with fail
       go_ret
       exact ⟨by rw [HF.out] <;> rfl, H9.out⟩
      | true =>
       go_wp2_with fail
       go_ret
       exact ⟨by rw [HF.out] <;> rfl, H9.out⟩
    | false =>
     go_wp2_with fail
     refine (HT.out _).mono ?_
     rintro e w9 ⟨rfl, rfl⟩
     have k29' := k29
     go_wp2_with fail
     refine HM2.out.mono ?_
     rintro e w9 ⟨rfl, hb9⟩
     have H9 := hid (HZ.out.trans (hb9.mono HZ.out.size))
     clear hb9 k29'
     cases mo with
     | false =>
      go_wp2_with fail
      go_ret
      exact ⟨by rw [HF.out] <;> rfl, H9.out⟩
     | true =>
      go_wp2_with fail
      go_ret
      exact ⟨by rw [HF.out] <;> rfl, H9.out⟩
end Go.Proofs.YtnkhebgjhipepaaGreatDoor

namespace Go.Proofs.YtnkhebgjhipepaaGreatDoor
open Go.RowKit Go.Shelf Go.Maps

section
variable {H : Type} {k : Lit} {z u : DataW H}
theorem at_fold_not : ∀ (acc : List Lit) (m : DataW H), k ∉ acc → (acc.foldl (fun m x => m.put x u) m).atKey k z = m.atKey k z
 | [], _, _ => rfl
 | x :: r, m, h => by
  rw [List.foldl_cons, at_fold_not r _ (fun h2 => h (List.mem_cons_of_mem _ h2)), atKey_put_other (fun e => h (by rw [e]; exact List.mem_cons_self))]
theorem at_fold_mem : ∀ (acc : List Lit) (m : DataW H), IsMap m → (∀ x ∈ acc, WideAt.IsKeyLit x) → k ∈ acc → (acc.foldl (fun m x => m.put x u) m).atKey k z = u
 | x :: r, m, hm, hk, h => by
  rw [List.foldl_cons]
  by_cases h2 : k ∈ r
  · exact at_fold_mem r _ (hm.put x u) (fun y hy => hk y (List.mem_cons_of_mem _ hy)) h2
  · obtain rfl : k = x := (List.mem_cons.1 h).resolve_right h2
    rw [at_fold_not r _ h2, atKey_put_same hm (hk k List.mem_cons_self)]
end
/-- The set of some names, as a datum. -/
def setD (S : List (List UInt8)) : DataW Unit := setOf (.lit (.bool true)) (S.map .string)
theorem setD_snoc (S : List (List UInt8)) (s : List UInt8) : setD (S ++ [s]) = (setD S).put (.string s) (.lit (.bool true)) := by
 unfold setD; rw [List.map_append]; exact setOf_snoc _ _ _
theorem mem_strs {S : List (List UInt8)} {s : List UInt8} : Lit.string s ∈ S.map Lit.string ↔ s ∈ S := by
 constructor
 · intro h; obtain ⟨x, hx, e⟩ := List.mem_map.1 h; cases e; exact hx
 · intro h; exact List.mem_map.2 ⟨s, h, rfl⟩
theorem setD_at (S : List (List UInt8)) (s : List UInt8) : (setD S).atKey (.string s) (.lit (.bool false)) = .lit (.bool (decide (s ∈ S))) := by
 by_cases h : s ∈ S
 · rw [decide_eq_true h]
   exact at_fold_mem _ _ isMap_empty (fun y hy => by obtain ⟨x, _, rfl⟩ := List.mem_map.1 hy; trivial) (mem_strs.2 h)
 · rw [decide_eq_false h]
   exact at_fold_not _ _ (fun h2 => h (mem_strs.1 h2))
/-- A block is the map of a set of names. -/
def SetM (w : World) (b n : Nat) (S : List (List UInt8)) : Prop := w.ownsMap Tryz.prog 9 (plainElem (H := Unit) Tryz.prog 4) b n (setD S)
theorem SetM.made (w : World) : SetM (w.alloc (.map #[] 0)) w.heap.size 0 [] := World.ownsMap_made w Tryz.prog 9 _
theorem SetM.below {A B : World} {b c n : Nat} {S : List (List UInt8)} (h : SetM A c n S) (hc : c < b) (hb : RowKit.Below b A B) : SetM B c n S := own_mapB h hc hb
theorem zeroBool (w : World) : (zeroValue 4).run Tryz.prog w = .ok (.bool false) w := by kernel_rfl
set_option maxRecDepth 100000 in
theorem SetM.look {w : World} {b n : Nat} {S : List (List UInt8)} (h : SetM w b n S) {s : ByteArray} (hs : s.size ≤ maxLen) : (Instr.lookup 85 (.map (some b)) (.string s) false).run Tryz.prog w = .ok (.bool (decide (s.data.toList ∈ S))) w := by
 obtain ⟨v, ps, hrun, hv⟩ := World.ownsMap.lookup h (Maps.string_keyed Tryz.underlying9) Tryz.underlying85 (zeroBool w) (plainElem_bool Tryz.underlying4 false) (WideMaps.keyOf_string_mk Tryz.underlying9 hs)
 rw [setD_at] at hv
 have hb : v = .bool (decide (s.data.toList ∈ S)) := by
  unfold plainElem at hv
  simp only [Tryz.underlying4] at hv
  cases v <;> simp at hv
  rw [hv.1]
 rw [hrun, hb]
theorem wpList_lookup_set {ops : Array Oper} {rest : List Oper} {o : Oper} {a : Act} {Q : Exit → Act → World → Prop} (w : World) (hg : o.guard = none) (m x : Operand) (hop : o.op = Op.lookup 85 m x false) (b n : Nat) (S : List (List UInt8))
 (hm : a.eval m = .map (some b)) (hown : SetM w b n S) (s : ByteArray) (hx : a.eval x = .string s) (hs : s.size ≤ maxLen)
 (hK : wpList Tryz.prog ops Q rest (a.put o.dst (.bool (decide (s.data.toList ∈ S)))) w) : wpList Tryz.prog ops Q (o :: rest) a w := by
 refine wpList_plain hg fun K' hK' => ?_
 have hrun := hown.look hs
 unfold Oper.wp
 simp [execOp, hop, hm, hx, hrun, Result.andThen]
 exact hK' _ _ hK
theorem wpList_update_set {ops : Array Oper} {rest : List Oper} {o : Oper} {a : Act} {Q : Exit → Act → World → Prop} (w : World) (hg : o.guard = none) (m x v : Operand) (hop : o.op = Op.mapUpdate 85 m x v) (b n : Nat) (S : List (List UInt8))
 (hm : a.eval m = .map (some b)) (hown : SetM w b n S) (hn : n < maxLen) (s : ByteArray) (hx : a.eval x = .string s) (hs : s.size ≤ maxLen) (hv : a.eval v = .bool true)
 (hK : ∀ w', SetM w' b (n + 1) (S ++ [s.data.toList]) → w.grownBy w' (some b) → wpList Tryz.prog ops Q rest (a.put o.dst undef) w') : wpList Tryz.prog ops Q (o :: rest) a w :=
 wpList_mapUpdate_own w hg m x v 85 hop 9 4 (Maps.string_keyed Tryz.underlying9) Tryz.underlying85 _ b n _ hm hown hn _ _ _ hx hv (WideMaps.keyOf_string_mk Tryz.underlying9 hs) _ [] (plainElem_bool Tryz.underlying4 true)
  (fun w' h1 h2 => hK w' (by unfold SetM; rw [setD_snoc]; exact h1) h2)
/-- Whether one of some names is in a set, or repeats another one. -/
def repF : List (List UInt8) → List ByteArray → Bool
 | _, [] => false
 | S, x :: r => decide (x.data.toList ∈ S) || repF (S ++ [x.data.toList]) r
end Go.Proofs.YtnkhebgjhipepaaGreatDoor

namespace Go.Proofs.YtnkhebgjhipepaaGreatDoor
open Go.RowKit Go.Shelf
attribute [local go_sem] Oper.semAt_some

set_option maxRecDepth 100000 in
set_option maxHeartbeats 8000000 in
theorem repeated_any (w0 : World) (L : List Pm) (a : Option Addr) (c : Nat) (hL : SlD w0 a (encPm L)) (hl : L.length ≤ 1099511627776) (hs : ∀ l ∈ L, l.nm.size ≤ 9223372036854775807) (W : World) (hW : Below w0.heap.size w0 W) :
 Calls Tryz.prog 109 #[.slice a L.length c] W fun e W' => e = .returned (.bool (repF [] (L.map (·.nm)))) ∧ Below W.heap.size W W' := by
 obtain ⟨wa, hwa⟩ : ∃ wa, W.alloc (.map #[] 0) = wa := ⟨_, rfl⟩
 have hba : Below W.heap.size W wa := by rw [← hwa]; exact (Below.refl _ W).alloc (Nat.le_refl _) _
 have hm0 : SetM wa W.heap.size 0 [] := by rw [← hwa]; exact SetM.made W
 have hsa : wa.heap.size = W.heap.size + 1 := by rw [← hwa]; simp
 have HB := hid (And.intro hba (And.intro hm0 hsa))
 have HW := hid hW
 have HLs := hid hL
 have HS := hid hs
 clear hba hm0 hW hL hs
 have hmm := @run_makeMap Tryz.prog
 go_enter Tryz.func109, Tryz.ntmps109
 go_wp2_with fail
 clear hmm
 go_loopw [9] (fun q wr => ∃ (i : Nat) (r : List Pm) (S : List (List UInt8)), q = .int .i64 (i : Int) ∧ r.length + i = L.length ∧ Kpt (repF S (r.map (·.nm)) = repF [] (L.map (·.nm))) ∧ Kpt (∀ l ∈ r, l ∈ L) ∧ Kpt (RowD w0 (encPm r) a (i * 7)) ∧ Kpt (SetM wr W.heap.size i S) ∧ Below W.heap.size W wr ∧ W.heap.size < wr.heap.size) (fun q _ => L.length - (intOf q).toNat)
 case atStart => exact ⟨0, L, [], rfl, by omega, ⟨rfl⟩, ⟨fun _ h => h⟩, ⟨rowD_zero HLs.out⟩, ⟨HB.out.2.1⟩, HB.out.1, by omega⟩
 case round =>
  clear hsa
  obtain ⟨i, r, S, rfl, hri, hrep, hmem, hR, hM, hB, hwl⟩ := hrel
  cases r with
  | nil =>
   have hi9 : i = L.length := by simp only [List.length_nil] at hri; omega
   subst hi9
   have HZ := hid (And.intro hrep.out hB)
   clear hri hR hB hrep hmem hM hwl hwa
   go_wp2_with fail
   go_ret
   exact ⟨by rw [← HZ.out.1]; rfl, HZ.out.2⟩
  | cons lx r' =>
   have hlt : i < L.length := by simp only [List.length_cons] at hri; omega
   obtain ⟨bf, of, y, haf, hy, hvw, ⟨d0, d1, d2, d3, d4, d5, d6⟩, hr1⟩ := rowD_pm hR.out
   have hWr := HW.out.trans (hB.mono HW.out.size)
   replace d0 := old_cell hWr d0
   replace d1 := old_cell hWr d1
   replace d2 := old_cell hWr d2
   replace d3 := old_cell hWr d3
   replace d4 := old_cell hWr d4
   replace d5 := old_cell hWr d5
   replace d6 := old_cell hWr d6
   rw [haf]
   have hri' : r'.length + (i + 1) = L.length := by simp only [List.length_cons] at hri; omega
   have hnm := HS.out lx (hmem.out lx List.mem_cons_self)
   have hnl : lx.nm.size ≤ maxLen := hnm
   obtain ⟨wb, hwb⟩ : ∃ wb, wr.alloc (.cells #[.string lx.nm, .int .i64 lx.vr, .int .i64 y.t.k, .string y.t.m, .string y.t.n, .slice y.aa y.t.A.len y.ca, .slice y.af y.t.F.len y.cf] 77) = wb := ⟨_, rfl⟩
   have hbb : Below wr.heap.size wr wb := by rw [← hwb]; exact (Below.refl _ wr).alloc (Nat.le_refl _) _
   have heb : wb.heap[wr.heap.size]? = some (.cells #[.string lx.nm, .int .i64 lx.vr, .int .i64 y.t.k, .string y.t.m, .string y.t.n, .slice y.aa y.t.A.len y.ca, .slice y.af y.t.F.len y.cf] 77 (0, 0)) := by rw [← hwb]; exact World.alloc_heap_new _ _
   have g0 := cell_of_row wb _ 0 _ _ _ heb
   have hMb := hid (hM.out.below hwl hbb)
   have hBb := hB.trans (hbb.mono hB.size)
   have hwlb : W.heap.size < wb.heap.size := Nat.lt_of_lt_of_le hwl hbb.size
   have hrp : repF [] (L.map (·.nm)) = (decide (lx.nm.data.toList ∈ S) || repF (S ++ [lx.nm.data.toList]) (r'.map (·.nm))) := by rw [← hrep.out]; rfl
   have HQ := hid (And.intro hr1 (And.intro hBb (And.intro hrp (And.intro hri' (And.intro (fun l hl' => hmem.out l (List.mem_cons_of_mem _ hl')) hwlb)))))
   clear hr1 hB hrep hri' hri hR hy hmem hbb heb hWr hvw hM hwl hBb hwlb hrp
   obtain ⟨B, hBd⟩ : ∃ B, decide (lx.nm.data.toList ∈ S) = B := ⟨_, rfl⟩
   cases B with
   | true =>
    have HF := hid (show repF [] (L.map (·.nm)) = true by rw [HQ.out.2.2.1, hBd]; rfl)
    go_wp2_with (at_lookup; refine wpList_lookup_set _ rfl _ _ rfl W.heap.size i S rfl hMb.out _ rfl hnl ?_; rw [hBd])
    go_ret
    exact ⟨by rw [HF.out]; rfl, HQ.out.2.1⟩
   | false =>
    have HF := hid (show repF (S ++ [lx.nm.data.toList]) (r'.map (·.nm)) = repF [] (L.map (·.nm)) by rw [HQ.out.2.2.1, hBd]; rfl)
    have hil : i < maxLen := by unfold maxLen; omega
    go_wp2_with (first | (at_lookup; refine wpList_lookup_set _ rfl _ _ rfl W.heap.size i S rfl hMb.out _ rfl hnl ?_; rw [hBd]) | (at_mapUpdate; refine wpList_update_set _ rfl _ _ _ rfl W.heap.size i S rfl hMb.out hil _ rfl hnl rfl ?_; intro w1 hown1 hgrow1; have hO1 := hid (And.intro hown1 hgrow1); clear hown1 hgrow1))
    go_roundw
    case rel =>
     have hg := hO1.out.2
     have hbw : Below W.heap.size wb w1 := (RowKit.Below.refl _ wb).grown hg (Nat.le_of_lt HQ.out.2.2.2.2.2) (fun k e => by cases e; omega)
     exact ⟨i + 1, r', S ++ [lx.nm.data.toList], by go_num, HQ.out.2.2.2.1, ⟨HF.out⟩, ⟨HQ.out.2.2.2.2.1⟩, haf ▸ ⟨HQ.out.1⟩, ⟨hO1.out.1⟩, HQ.out.2.1.trans hbw, Nat.lt_of_lt_of_le HQ.out.2.2.2.2.2 hbw.size⟩
    case measure => simp [intOf]; omega
end Go.Proofs.YtnkhebgjhipepaaGreatDoor

namespace Go.Proofs.YtnkhebgjhipepaaGreatDoor
open Go.RowKit Go.Shelf
section
variable {P : Program} {ops : Array Oper} {rest : List Oper} {o : Oper} {a : Act} {Q : Exit → Act → World → Prop}
/-- Cells put into a row from a place on. -/
def putC (c : Array Value) : Nat → List Value → Array Value
 | _, [] => c
 | i, v :: r => putC (c.setIfInBounds i v) (i + 1) r
theorem setCells_alloc (w0 : World) (t : TypeId) : ∀ (vs : List Value) (i : Nat) (c : Array Value), (w0.alloc (.cells c t)).setCells w0.heap.size i vs = w0.alloc (.cells (putC c i vs) t)
 | [], _, _ => rfl
 | v :: r, i, c => by
  unfold World.setCells putC
  rw [World.setCell_alloc_new]
  exact setCells_alloc w0 t r (i + 1) _
theorem run_storeVar_part (w : World) (b i : Nat) (ty : TypeId) (v : Value) (cells : Array Value) (hvc : v.cells = cells) (ht : w.there b i cells.size) (hi : (P.info? ty).map (·.size) = some cells.size) (h1 : cells.all (·.oneCell') = true) :
 (storeVar ty ⟨b, i, none⟩ v).run P w = .ok () (w.setCells b i cells.toList) := by
 have := run_storeCells_cells (P := P) b i cells.toList 0 w (fun j hj => by simpa using (ht j (by simpa using hj)).1) (fun j hj => by simpa using (ht j (by simpa using hj)).2)
  (fun v hv => (Array.all_eq_true_iff_forall_mem.1 h1) v (by simpa using hv))
 cases hq : P.info? ty with
 | none => simp [hq] at hi
 | some i0 =>
  have hs : cells.size = i0.size := by simp [hq] at hi; omega
  simp only [Nat.add_zero] at this
  simp [storeVar, sizeOf, typeInfo, hq, hvc, hs, this]
theorem there_new (w0 : World) (c : Array Value) (t : TypeId) (i n : Nat) (h : i + n ≤ c.size) : (w0.alloc (.cells c t)).there w0.heap.size i n := fun j hj => by
 refine ⟨?_, World.frozen?_alloc_at c t _ _ rfl⟩
 rw [World.cell?_alloc_new, Array.getElem?_eq_getElem (by omega)]
 rfl
/-- A part of what was just made is written. -/
theorem wpList_store_new {w0 : World} (hgd : o.guard = none) (ty : TypeId) (x y : Operand) (ho : o.op = .store ty x y) (n : Nat) (hn : w0.heap.size = n) (i : Nat) (v : Value) (cells : Array Value) (hvc : v.cells = cells)
 (hx : a.eval x = .pointer (some ⟨n, i, none⟩)) (hy : a.eval y = v) (t : TypeId) (old : Array Value) (hsz : i + cells.size ≤ old.size) (hi : (P.info? ty).map (·.size) = some cells.size) (h1 : cells.all (·.oneCell') = true)
 (new : Array Value) (hnew : putC old i cells.toList = new) (h : wpList P ops Q rest (a.put o.dst undef) (w0.alloc (.cells new t))) : wpList P ops Q (o :: rest) a (w0.alloc (.cells old t)) := by
 subst hn
 refine wpList_plain hgd fun K hK => ?_
 unfold Oper.wp execOp
 simp only [ho, hx, hy, Instr.storeAt, Instr.sureAddr, Sem.run_bind, Sem.run_pure, Result.andThen_ok, run_storeVar_part _ _ i ty v cells hvc (there_new w0 old t i cells.size hsz) hi h1, setCells_alloc, hnew]
 exact hK _ _ h
/-- What was just made is read whole. -/
theorem wpList_load_new {w0 : World} (hgd : o.guard = none) (ty : TypeId) (x : Operand) (ho : o.op = .load ty x) (n : Nat) (hn : w0.heap.size = n) (hx : a.eval x = .pointer (some ⟨n, 0, none⟩)) (t : TypeId) (c : Array Value) (d : TypeDesc)
 (hu : P.underlying ty = some d) (hd : d.isRow = true) (hi : (P.info? ty).map (·.size) = some c.toList.length) (h : wpList P ops Q rest (a.put o.dst (.agg c)) (w0.alloc (.cells c t))) : wpList P ops Q (o :: rest) a (w0.alloc (.cells c t)) := by
 subst hn
 refine wpList_load_mid hgd ty x ho w0.heap.size 0 hx c.toList d (fun j v hv => ?_) hu hd hi (by simpa using h)
 rw [Nat.zero_add, World.cell?_alloc_new]
 simpa using hv
end
attribute [local go_sem] Oper.semAt_some

def Dc0 : Dc := { k := 0, nm := ⟨#[]⟩, ex := false, dp := false, note := ⟨#[]⟩, P := [], lo := Ty0, up := Ty0, t := Ty0, e := Xp0, m := ⟨#[]⟩, tg := ⟨#[]⟩ }
def DcI0 (w : World) : DcI w := { d := Dc0, aP := none, cP := 0, lo := TyI0 w, up := TyI0 w, t := TyI0 w, e := XpI0 w, hk := by decide, hP := .inl rfl, hlo := rfl, hup := rfl, ht := rfl, he := rfl }
/-- What is left of a declaration without what its kind names. -/
def restD (d : Dc) : Dc := if d.k = 0 then { k := 0, nm := ⟨#[]⟩, ex := false, dp := false, note := ⟨#[]⟩, P := [], lo := Ty0, up := Ty0, t := Ty0, e := d.e, m := d.m, tg := d.tg } else if d.k = 1 then { k := 0, nm := ⟨#[]⟩, ex := false, dp := false, note := ⟨#[]⟩, P := [], lo := d.lo, up := d.up, t := Ty0, e := Xp0, m := d.m, tg := d.tg } else { k := 0, nm := ⟨#[]⟩, ex := false, dp := false, note := ⟨#[]⟩, P := d.P, lo := d.lo, up := d.up, t := d.t, e := d.e, m := ⟨#[]⟩, tg := ⟨#[]⟩ }
def dcP (d : Dc) : Bool := decide (0 ≤ d.k ∧ d.k ≤ 2) && (restD d).eq Dc0
abbrev DrL {w0 : World} (p : DcI w0) : List Value := [.int .i64 p.d.k, .string p.d.nm, .bool p.d.ex, .bool p.d.dp, .string p.d.note, .slice p.aP p.d.P.length p.cP, .int .i64 p.lo.t.k, .string p.lo.t.m, .string p.lo.t.n, .slice p.lo.aa p.lo.t.A.len p.lo.ca, .slice p.lo.af p.lo.t.F.len p.lo.cf, .int .i64 p.up.t.k, .string p.up.t.m, .string p.up.t.n, .slice p.up.aa p.up.t.A.len p.up.ca, .slice p.up.af p.up.t.F.len p.up.cf, .int .i64 p.t.t.k, .string p.t.t.m, .string p.t.t.n, .slice p.t.aa p.t.t.A.len p.t.ca, .slice p.t.af p.t.t.F.len p.t.cf, .int .i64 p.e.e.k, .string p.e.e.m, .string p.e.e.n, .string p.e.e.tx, .int .i64 p.e.e.num, .slice p.e.aT p.e.e.T.len p.e.cT, .slice p.e.aL p.e.e.L.length p.e.cL, .slice p.e.aK p.e.e.K.len p.e.cK, .string p.d.m, .string p.d.tg]
abbrev Dr0 {w0 : World} (p : DcI w0) : Array Value := #[.int .i64 p.d.k, .string p.d.nm, .bool p.d.ex, .bool p.d.dp, .string p.d.note, .slice p.aP p.d.P.length p.cP, .int .i64 p.lo.t.k, .string p.lo.t.m, .string p.lo.t.n, .slice p.lo.aa p.lo.t.A.len p.lo.ca, .slice p.lo.af p.lo.t.F.len p.lo.cf, .int .i64 p.up.t.k, .string p.up.t.m, .string p.up.t.n, .slice p.up.aa p.up.t.A.len p.up.ca, .slice p.up.af p.up.t.F.len p.up.cf, .int .i64 p.t.t.k, .string p.t.t.m, .string p.t.t.n, .slice p.t.aa p.t.t.A.len p.t.ca, .slice p.t.af p.t.t.F.len p.t.cf, .int .i64 p.e.e.k, .string p.e.e.m, .string p.e.e.n, .string p.e.e.tx, .int .i64 p.e.e.num, .slice p.e.aT p.e.e.T.len p.e.cT, .slice p.e.aL p.e.e.L.length p.e.cL, .slice p.e.aK p.e.e.K.len p.e.cK, .string p.d.m, .string p.d.tg]
abbrev Dr1 {w0 : World} (p : DcI w0) : Array Value := #[.int .i64 0, .string p.d.nm, .bool p.d.ex, .bool p.d.dp, .string p.d.note, .slice p.aP p.d.P.length p.cP, .int .i64 p.lo.t.k, .string p.lo.t.m, .string p.lo.t.n, .slice p.lo.aa p.lo.t.A.len p.lo.ca, .slice p.lo.af p.lo.t.F.len p.lo.cf, .int .i64 p.up.t.k, .string p.up.t.m, .string p.up.t.n, .slice p.up.aa p.up.t.A.len p.up.ca, .slice p.up.af p.up.t.F.len p.up.cf, .int .i64 p.t.t.k, .string p.t.t.m, .string p.t.t.n, .slice p.t.aa p.t.t.A.len p.t.ca, .slice p.t.af p.t.t.F.len p.t.cf, .int .i64 p.e.e.k, .string p.e.e.m, .string p.e.e.n, .string p.e.e.tx, .int .i64 p.e.e.num, .slice p.e.aT p.e.e.T.len p.e.cT, .slice p.e.aL p.e.e.L.length p.e.cL, .slice p.e.aK p.e.e.K.len p.e.cK, .string p.d.m, .string p.d.tg]
abbrev Dr2 {w0 : World} (p : DcI w0) : Array Value := #[.int .i64 0, .string ⟨#[]⟩, .bool p.d.ex, .bool p.d.dp, .string p.d.note, .slice p.aP p.d.P.length p.cP, .int .i64 p.lo.t.k, .string p.lo.t.m, .string p.lo.t.n, .slice p.lo.aa p.lo.t.A.len p.lo.ca, .slice p.lo.af p.lo.t.F.len p.lo.cf, .int .i64 p.up.t.k, .string p.up.t.m, .string p.up.t.n, .slice p.up.aa p.up.t.A.len p.up.ca, .slice p.up.af p.up.t.F.len p.up.cf, .int .i64 p.t.t.k, .string p.t.t.m, .string p.t.t.n, .slice p.t.aa p.t.t.A.len p.t.ca, .slice p.t.af p.t.t.F.len p.t.cf, .int .i64 p.e.e.k, .string p.e.e.m, .string p.e.e.n, .string p.e.e.tx, .int .i64 p.e.e.num, .slice p.e.aT p.e.e.T.len p.e.cT, .slice p.e.aL p.e.e.L.length p.e.cL, .slice p.e.aK p.e.e.K.len p.e.cK, .string p.d.m, .string p.d.tg]
abbrev Dr3 {w0 : World} (p : DcI w0) : Array Value := #[.int .i64 0, .string ⟨#[]⟩, .bool false, .bool p.d.dp, .string p.d.note, .slice p.aP p.d.P.length p.cP, .int .i64 p.lo.t.k, .string p.lo.t.m, .string p.lo.t.n, .slice p.lo.aa p.lo.t.A.len p.lo.ca, .slice p.lo.af p.lo.t.F.len p.lo.cf, .int .i64 p.up.t.k, .string p.up.t.m, .string p.up.t.n, .slice p.up.aa p.up.t.A.len p.up.ca, .slice p.up.af p.up.t.F.len p.up.cf, .int .i64 p.t.t.k, .string p.t.t.m, .string p.t.t.n, .slice p.t.aa p.t.t.A.len p.t.ca, .slice p.t.af p.t.t.F.len p.t.cf, .int .i64 p.e.e.k, .string p.e.e.m, .string p.e.e.n, .string p.e.e.tx, .int .i64 p.e.e.num, .slice p.e.aT p.e.e.T.len p.e.cT, .slice p.e.aL p.e.e.L.length p.e.cL, .slice p.e.aK p.e.e.K.len p.e.cK, .string p.d.m, .string p.d.tg]
abbrev Dr4 {w0 : World} (p : DcI w0) : Array Value := #[.int .i64 0, .string ⟨#[]⟩, .bool false, .bool false, .string p.d.note, .slice p.aP p.d.P.length p.cP, .int .i64 p.lo.t.k, .string p.lo.t.m, .string p.lo.t.n, .slice p.lo.aa p.lo.t.A.len p.lo.ca, .slice p.lo.af p.lo.t.F.len p.lo.cf, .int .i64 p.up.t.k, .string p.up.t.m, .string p.up.t.n, .slice p.up.aa p.up.t.A.len p.up.ca, .slice p.up.af p.up.t.F.len p.up.cf, .int .i64 p.t.t.k, .string p.t.t.m, .string p.t.t.n, .slice p.t.aa p.t.t.A.len p.t.ca, .slice p.t.af p.t.t.F.len p.t.cf, .int .i64 p.e.e.k, .string p.e.e.m, .string p.e.e.n, .string p.e.e.tx, .int .i64 p.e.e.num, .slice p.e.aT p.e.e.T.len p.e.cT, .slice p.e.aL p.e.e.L.length p.e.cL, .slice p.e.aK p.e.e.K.len p.e.cK, .string p.d.m, .string p.d.tg]
abbrev Dr5 {w0 : World} (p : DcI w0) : Array Value := #[.int .i64 0, .string ⟨#[]⟩, .bool false, .bool false, .string ⟨#[]⟩, .slice p.aP p.d.P.length p.cP, .int .i64 p.lo.t.k, .string p.lo.t.m, .string p.lo.t.n, .slice p.lo.aa p.lo.t.A.len p.lo.ca, .slice p.lo.af p.lo.t.F.len p.lo.cf, .int .i64 p.up.t.k, .string p.up.t.m, .string p.up.t.n, .slice p.up.aa p.up.t.A.len p.up.ca, .slice p.up.af p.up.t.F.len p.up.cf, .int .i64 p.t.t.k, .string p.t.t.m, .string p.t.t.n, .slice p.t.aa p.t.t.A.len p.t.ca, .slice p.t.af p.t.t.F.len p.t.cf, .int .i64 p.e.e.k, .string p.e.e.m, .string p.e.e.n, .string p.e.e.tx, .int .i64 p.e.e.num, .slice p.e.aT p.e.e.T.len p.e.cT, .slice p.e.aL p.e.e.L.length p.e.cL, .slice p.e.aK p.e.e.K.len p.e.cK, .string p.d.m, .string p.d.tg]
abbrev Dr6 {w0 : World} (p : DcI w0) : Array Value := #[.int .i64 0, .string ⟨#[]⟩, .bool false, .bool false, .string ⟨#[]⟩, .slice none 0 0, .int .i64 p.lo.t.k, .string p.lo.t.m, .string p.lo.t.n, .slice p.lo.aa p.lo.t.A.len p.lo.ca, .slice p.lo.af p.lo.t.F.len p.lo.cf, .int .i64 p.up.t.k, .string p.up.t.m, .string p.up.t.n, .slice p.up.aa p.up.t.A.len p.up.ca, .slice p.up.af p.up.t.F.len p.up.cf, .int .i64 p.t.t.k, .string p.t.t.m, .string p.t.t.n, .slice p.t.aa p.t.t.A.len p.t.ca, .slice p.t.af p.t.t.F.len p.t.cf, .int .i64 p.e.e.k, .string p.e.e.m, .string p.e.e.n, .string p.e.e.tx, .int .i64 p.e.e.num, .slice p.e.aT p.e.e.T.len p.e.cT, .slice p.e.aL p.e.e.L.length p.e.cL, .slice p.e.aK p.e.e.K.len p.e.cK, .string p.d.m, .string p.d.tg]
abbrev Dr7 {w0 : World} (p : DcI w0) : Array Value := #[.int .i64 0, .string ⟨#[]⟩, .bool false, .bool false, .string ⟨#[]⟩, .slice none 0 0, .int .i64 0, .string ⟨#[]⟩, .string ⟨#[]⟩, .slice none 0 0, .slice none 0 0, .int .i64 p.up.t.k, .string p.up.t.m, .string p.up.t.n, .slice p.up.aa p.up.t.A.len p.up.ca, .slice p.up.af p.up.t.F.len p.up.cf, .int .i64 p.t.t.k, .string p.t.t.m, .string p.t.t.n, .slice p.t.aa p.t.t.A.len p.t.ca, .slice p.t.af p.t.t.F.len p.t.cf, .int .i64 p.e.e.k, .string p.e.e.m, .string p.e.e.n, .string p.e.e.tx, .int .i64 p.e.e.num, .slice p.e.aT p.e.e.T.len p.e.cT, .slice p.e.aL p.e.e.L.length p.e.cL, .slice p.e.aK p.e.e.K.len p.e.cK, .string p.d.m, .string p.d.tg]
abbrev Dr8 {w0 : World} (p : DcI w0) : Array Value := #[.int .i64 0, .string ⟨#[]⟩, .bool false, .bool false, .string ⟨#[]⟩, .slice none 0 0, .int .i64 0, .string ⟨#[]⟩, .string ⟨#[]⟩, .slice none 0 0, .slice none 0 0, .int .i64 0, .string ⟨#[]⟩, .string ⟨#[]⟩, .slice none 0 0, .slice none 0 0, .int .i64 p.t.t.k, .string p.t.t.m, .string p.t.t.n, .slice p.t.aa p.t.t.A.len p.t.ca, .slice p.t.af p.t.t.F.len p.t.cf, .int .i64 p.e.e.k, .string p.e.e.m, .string p.e.e.n, .string p.e.e.tx, .int .i64 p.e.e.num, .slice p.e.aT p.e.e.T.len p.e.cT, .slice p.e.aL p.e.e.L.length p.e.cL, .slice p.e.aK p.e.e.K.len p.e.cK, .string p.d.m, .string p.d.tg]
abbrev Dr9 {w0 : World} (p : DcI w0) : Array Value := #[.int .i64 0, .string ⟨#[]⟩, .bool false, .bool false, .string ⟨#[]⟩, .slice none 0 0, .int .i64 0, .string ⟨#[]⟩, .string ⟨#[]⟩, .slice none 0 0, .slice none 0 0, .int .i64 0, .string ⟨#[]⟩, .string ⟨#[]⟩, .slice none 0 0, .slice none 0 0, .int .i64 0, .string ⟨#[]⟩, .string ⟨#[]⟩, .slice none 0 0, .slice none 0 0, .int .i64 p.e.e.k, .string p.e.e.m, .string p.e.e.n, .string p.e.e.tx, .int .i64 p.e.e.num, .slice p.e.aT p.e.e.T.len p.e.cT, .slice p.e.aL p.e.e.L.length p.e.cL, .slice p.e.aK p.e.e.K.len p.e.cK, .string p.d.m, .string p.d.tg]
abbrev Dr10 {w0 : World} (p : DcI w0) : Array Value := #[.int .i64 0, .string ⟨#[]⟩, .bool false, .bool false, .string ⟨#[]⟩, .slice none 0 0, .int .i64 p.lo.t.k, .string p.lo.t.m, .string p.lo.t.n, .slice p.lo.aa p.lo.t.A.len p.lo.ca, .slice p.lo.af p.lo.t.F.len p.lo.cf, .int .i64 p.up.t.k, .string p.up.t.m, .string p.up.t.n, .slice p.up.aa p.up.t.A.len p.up.ca, .slice p.up.af p.up.t.F.len p.up.cf, .int .i64 0, .string ⟨#[]⟩, .string ⟨#[]⟩, .slice none 0 0, .slice none 0 0, .int .i64 p.e.e.k, .string p.e.e.m, .string p.e.e.n, .string p.e.e.tx, .int .i64 p.e.e.num, .slice p.e.aT p.e.e.T.len p.e.cT, .slice p.e.aL p.e.e.L.length p.e.cL, .slice p.e.aK p.e.e.K.len p.e.cK, .string p.d.m, .string p.d.tg]
abbrev Dr11 {w0 : World} (p : DcI w0) : Array Value := #[.int .i64 0, .string ⟨#[]⟩, .bool false, .bool false, .string ⟨#[]⟩, .slice none 0 0, .int .i64 p.lo.t.k, .string p.lo.t.m, .string p.lo.t.n, .slice p.lo.aa p.lo.t.A.len p.lo.ca, .slice p.lo.af p.lo.t.F.len p.lo.cf, .int .i64 p.up.t.k, .string p.up.t.m, .string p.up.t.n, .slice p.up.aa p.up.t.A.len p.up.ca, .slice p.up.af p.up.t.F.len p.up.cf, .int .i64 0, .string ⟨#[]⟩, .string ⟨#[]⟩, .slice none 0 0, .slice none 0 0, .int .i64 0, .string ⟨#[]⟩, .string ⟨#[]⟩, .string ⟨#[]⟩, .int .i64 0, .slice none 0 0, .slice none 0 0, .slice none 0 0, .string p.d.m, .string p.d.tg]
abbrev Dr12 {w0 : World} (p : DcI w0) : Array Value := #[.int .i64 0, .string ⟨#[]⟩, .bool false, .bool false, .string ⟨#[]⟩, .slice p.aP p.d.P.length p.cP, .int .i64 p.lo.t.k, .string p.lo.t.m, .string p.lo.t.n, .slice p.lo.aa p.lo.t.A.len p.lo.ca, .slice p.lo.af p.lo.t.F.len p.lo.cf, .int .i64 p.up.t.k, .string p.up.t.m, .string p.up.t.n, .slice p.up.aa p.up.t.A.len p.up.ca, .slice p.up.af p.up.t.F.len p.up.cf, .int .i64 p.t.t.k, .string p.t.t.m, .string p.t.t.n, .slice p.t.aa p.t.t.A.len p.t.ca, .slice p.t.af p.t.t.F.len p.t.cf, .int .i64 p.e.e.k, .string p.e.e.m, .string p.e.e.n, .string p.e.e.tx, .int .i64 p.e.e.num, .slice p.e.aT p.e.e.T.len p.e.cT, .slice p.e.aL p.e.e.L.length p.e.cL, .slice p.e.aK p.e.e.K.len p.e.cK, .string ⟨#[]⟩, .string p.d.tg]
abbrev Dr13 {w0 : World} (p : DcI w0) : Array Value := #[.int .i64 0, .string ⟨#[]⟩, .bool false, .bool false, .string ⟨#[]⟩, .slice p.aP p.d.P.length p.cP, .int .i64 p.lo.t.k, .string p.lo.t.m, .string p.lo.t.n, .slice p.lo.aa p.lo.t.A.len p.lo.ca, .slice p.lo.af p.lo.t.F.len p.lo.cf, .int .i64 p.up.t.k, .string p.up.t.m, .string p.up.t.n, .slice p.up.aa p.up.t.A.len p.up.ca, .slice p.up.af p.up.t.F.len p.up.cf, .int .i64 p.t.t.k, .string p.t.t.m, .string p.t.t.n, .slice p.t.aa p.t.t.A.len p.t.ca, .slice p.t.af p.t.t.F.len p.t.cf, .int .i64 p.e.e.k, .string p.e.e.m, .string p.e.e.n, .string p.e.e.tx, .int .i64 p.e.e.num, .slice p.e.aT p.e.e.T.len p.e.cT, .slice p.e.aL p.e.e.L.length p.e.cL, .slice p.e.aK p.e.e.K.len p.e.cK, .string ⟨#[]⟩, .string ⟨#[]⟩]
set_option maxRecDepth 100000 in
set_option maxHeartbeats 16000000 in
theorem declparts_any {w0 : World} (p : DcI w0) (hs : (encDc [p.d]).bk ≤ 1099511627776) (W : World) (hW : Below w0.heap.size w0 W) :
 Calls Tryz.prog 106 #[.agg #[.int .i64 p.d.k, .string p.d.nm, .bool p.d.ex, .bool p.d.dp, .string p.d.note, .slice p.aP p.d.P.length p.cP, .int .i64 p.lo.t.k, .string p.lo.t.m, .string p.lo.t.n, .slice p.lo.aa p.lo.t.A.len p.lo.ca, .slice p.lo.af p.lo.t.F.len p.lo.cf, .int .i64 p.up.t.k, .string p.up.t.m, .string p.up.t.n, .slice p.up.aa p.up.t.A.len p.up.ca, .slice p.up.af p.up.t.F.len p.up.cf, .int .i64 p.t.t.k, .string p.t.t.m, .string p.t.t.n, .slice p.t.aa p.t.t.A.len p.t.ca, .slice p.t.af p.t.t.F.len p.t.cf, .int .i64 p.e.e.k, .string p.e.e.m, .string p.e.e.n, .string p.e.e.tx, .int .i64 p.e.e.num, .slice p.e.aT p.e.e.T.len p.e.cT, .slice p.e.aL p.e.e.L.length p.e.cL, .slice p.e.aK p.e.e.K.len p.e.cK, .string p.d.m, .string p.d.tg]] W fun e W' => e = .returned (.bool (dcP p.d)) ∧ Below W.heap.size W W' := by
 show Calls Tryz.prog 106 #[.agg (Dr0 p)] W _
 have hbk := encDc_bk p.d []
 have hlo := p.d.lo.on_bk .nil
 have hup := p.d.up.on_bk .nil
 have ht := p.d.t.on_bk .nil
 have he := p.d.e.bk_eq
 have hz1 : (Ty0.on .nil).bk = 5 := by decide
 have hz2 : Xp0.bk = 8 := by decide
 have hz3 : (encPm []).bk = 0 := rfl
 have hz4 : (⟨#[]⟩ : ByteArray).size = 0 := rfl
 have hty : 1 ≤ p.d.lo.size := by unfold Ty.size; omega
 have hty2 : 1 ≤ p.d.up.size := by unfold Ty.size; omega
 have hty3 : 1 ≤ p.d.t.size := by unfold Ty.size; omega
 simp only [Dt.bk] at hlo hup ht
 obtain ⟨wa, hwa⟩ : ∃ wa, W.alloc (.cells (Dr0 p) 75) = wa := ⟨_, rfl⟩
 have hba : Below W.heap.size W wa := by rw [← hwa]; exact (Below.refl _ W).alloc (Nat.le_refl _) _
 have hea : wa.heap[W.heap.size]? = some (.cells (Dr0 p) 75 (0, 0)) := by rw [← hwa]; exact World.alloc_heap_new _ _
 have hrg : wa.rangeAt W.heap.size 0 (DrL p) := fun j v hv => by rw [Nat.zero_add, cell_of_row wa _ j _ _ _ hea]; simpa using hv
 have HRG := hid hrg
 clear hrg
 have hba1 : Below wa.heap.size wa (wa.alloc (.cells (Dr5 p) 75)) := (Below.refl _ wa).alloc (Nat.le_refl _) _
 have m0 : (wa.alloc (.cells (Dr5 p) 75)).cell? ⟨W.heap.size, 0, none⟩ = some (.int .i64 p.d.k) := cell_of_row _ _ 0 _ _ _ ((hba1.block _ (Array.getElem?_eq_some_iff.1 hea).1).trans hea)
 have HB := hid hba
 have HWa := hid (hW.trans (hba.mono hW.size))
 clear hba hea hba1 hW
 by_cases q0 : p.d.k = 0
 · skip
   obtain ⟨wb, hwb⟩ : ∃ wb, wa.alloc (.cells (Dr9 p) 75) = wb := ⟨_, rfl⟩
   have hbb : Below wa.heap.size wa wb := by rw [← hwb]; exact (Below.refl _ wa).alloc (Nat.le_refl _) _
   have heb : wb.heap[wa.heap.size]? = some (.cells (Dr9 p) 75 (0, 0)) := by rw [← hwb]; exact World.alloc_heap_new _ _
   have hr : restD p.d = { k := 0, nm := ⟨#[]⟩, ex := false, dp := false, note := ⟨#[]⟩, P := [], lo := Ty0, up := Ty0, t := Ty0, e := p.d.e, m := p.d.m, tg := p.d.tg } := by unfold restD; rw [if_pos q0]
   have hsb : (encDc [restD p.d]).bk ≤ 1099511627776 := by rw [hr, encDc_bk]; simp only [hz1, hz2, hz3, hz4]; omega
   have HC : Kpt (Calls Tryz.prog 82 #[.agg (Dr9 p), .agg ZDc] wb fun e W' => e = .returned (.bool ((restD p.d).eq Dc0)) ∧ Below wb.heap.size wb W') := hid (by rw [hr] at hsb ⊢; exact dc_any w0 { d := { k := 0, nm := ⟨#[]⟩, ex := false, dp := false, note := ⟨#[]⟩, P := [], lo := Ty0, up := Ty0, t := Ty0, e := p.d.e, m := p.d.m, tg := p.d.tg }, aP := none, cP := 0, lo := TyI0 w0, up := TyI0 w0, t := TyI0 w0, e := p.e, hk := (show (Lit.int .i64 0).wf = true by decide), hP := .inl rfl, hlo := rfl, hup := rfl, ht := rfl, he := p.he } (DcI0 w0) [] hsb wb (HWa.out.trans (hbb.mono HWa.out.size)))
   have HQ := hid (show dcP p.d = (restD p.d).eq Dc0 by unfold dcP; rw [decide_eq_true (by omega : 0 ≤ p.d.k ∧ p.d.k ≤ 2)]; rfl)
   have H2 := hid (HB.out.trans (hbb.mono HB.out.size))
   clear hr hsb hbk hlo hup ht he hz1 hz2 hz3 hz4 hty hty2 hty3 hbb heb
   rw [q0] at m0
   clear q0
   go_enter Tryz.func106, Tryz.ntmps106
   subst hwb
   go_wp2_with (first | (with_reducible refine wpList_run_alloc rfl 75 rfl ZDc (by kernel_rfl) ?_) | (with_reducible refine wpList_run_build rfl 75 _ rfl (.agg ZDc) (by kernel_rfl) ?_) | (with_reducible refine wpList_load_mid rfl 75 _ rfl W.heap.size 0 rfl (DrL p) _ HRG.out Tryz.underlying75 rfl (by kernel_rfl) ?_) | (with_reducible refine wpList_store_fresh rfl 75 _ _ rfl wa.heap.size rfl (Dr0 p) rfl rfl 75 ZDc (by kernel_rfl) (by kernel_rfl) (by kernel_rfl) rfl ?_) | (with_reducible refine wpList_store_new rfl _ _ _ rfl wa.heap.size rfl 0 _ #[.int .i64 0] (by kernel_rfl) rfl rfl 75 (Dr0 p) (Nat.le_of_ble_eq_true (by kernel_rfl)) (by kernel_rfl) (by kernel_rfl) (Dr1 p) (by kernel_rfl) ?_) | (with_reducible refine wpList_store_new rfl _ _ _ rfl wa.heap.size rfl 1 _ #[.string ⟨#[]⟩] (by kernel_rfl) rfl rfl 75 (Dr1 p) (Nat.le_of_ble_eq_true (by kernel_rfl)) (by kernel_rfl) (by kernel_rfl) (Dr2 p) (by kernel_rfl) ?_) | (with_reducible refine wpList_store_new rfl _ _ _ rfl wa.heap.size rfl 2 _ #[.bool false] (by kernel_rfl) rfl rfl 75 (Dr2 p) (Nat.le_of_ble_eq_true (by kernel_rfl)) (by kernel_rfl) (by kernel_rfl) (Dr3 p) (by kernel_rfl) ?_) | (with_reducible refine wpList_store_new rfl _ _ _ rfl wa.heap.size rfl 3 _ #[.bool false] (by kernel_rfl) rfl rfl 75 (Dr3 p) (Nat.le_of_ble_eq_true (by kernel_rfl)) (by kernel_rfl) (by kernel_rfl) (Dr4 p) (by kernel_rfl) ?_) | (with_reducible refine wpList_store_new rfl _ _ _ rfl wa.heap.size rfl 4 _ #[.string ⟨#[]⟩] (by kernel_rfl) rfl rfl 75 (Dr4 p) (Nat.le_of_ble_eq_true (by kernel_rfl)) (by kernel_rfl) (by kernel_rfl) (Dr5 p) (by kernel_rfl) ?_) | (with_reducible refine wpList_store_new rfl _ _ _ rfl wa.heap.size rfl 5 _ #[.slice none 0 0] (by kernel_rfl) rfl rfl 75 (Dr5 p) (Nat.le_of_ble_eq_true (by kernel_rfl)) (by kernel_rfl) (by kernel_rfl) (Dr6 p) (by kernel_rfl) ?_) | (with_reducible refine wpList_store_new rfl _ _ _ rfl wa.heap.size rfl 6 _ #[.int .i64 0, .string ⟨#[]⟩, .string ⟨#[]⟩, .slice none 0 0, .slice none 0 0] (by kernel_rfl) rfl rfl 75 (Dr6 p) (Nat.le_of_ble_eq_true (by kernel_rfl)) (by kernel_rfl) (by kernel_rfl) (Dr7 p) (by kernel_rfl) ?_) | (with_reducible refine wpList_store_new rfl _ _ _ rfl wa.heap.size rfl 11 _ #[.int .i64 0, .string ⟨#[]⟩, .string ⟨#[]⟩, .slice none 0 0, .slice none 0 0] (by kernel_rfl) rfl rfl 75 (Dr7 p) (Nat.le_of_ble_eq_true (by kernel_rfl)) (by kernel_rfl) (by kernel_rfl) (Dr8 p) (by kernel_rfl) ?_) | (with_reducible refine wpList_store_new rfl _ _ _ rfl wa.heap.size rfl 16 _ #[.int .i64 0, .string ⟨#[]⟩, .string ⟨#[]⟩, .slice none 0 0, .slice none 0 0] (by kernel_rfl) rfl rfl 75 (Dr8 p) (Nat.le_of_ble_eq_true (by kernel_rfl)) (by kernel_rfl) (by kernel_rfl) (Dr9 p) (by kernel_rfl) ?_) | (with_reducible refine wpList_load_new rfl 75 _ rfl wa.heap.size rfl rfl 75 (Dr9 p) _ Tryz.underlying75 rfl (by kernel_rfl) ?_))
   refine HC.out.mono ?_
   rintro e w4 ⟨rfl, hb4⟩
   have H4 := hid (H2.out.trans (hb4.mono H2.out.size))
   clear hb4
   go_wp2_with fail
   go_ret
   exact ⟨by rw [HQ.out] <;> rfl, H4.out⟩
 by_cases q1 : p.d.k = 1
 · skip
   obtain ⟨wb, hwb⟩ : ∃ wb, wa.alloc (.cells (Dr11 p) 75) = wb := ⟨_, rfl⟩
   have hbb : Below wa.heap.size wa wb := by rw [← hwb]; exact (Below.refl _ wa).alloc (Nat.le_refl _) _
   have heb : wb.heap[wa.heap.size]? = some (.cells (Dr11 p) 75 (0, 0)) := by rw [← hwb]; exact World.alloc_heap_new _ _
   have hr : restD p.d = { k := 0, nm := ⟨#[]⟩, ex := false, dp := false, note := ⟨#[]⟩, P := [], lo := p.d.lo, up := p.d.up, t := Ty0, e := Xp0, m := p.d.m, tg := p.d.tg } := by unfold restD; rw [if_neg q0, if_pos q1]
   have hsb : (encDc [restD p.d]).bk ≤ 1099511627776 := by rw [hr, encDc_bk]; simp only [hz1, hz2, hz3, hz4]; omega
   have HC : Kpt (Calls Tryz.prog 82 #[.agg (Dr11 p), .agg ZDc] wb fun e W' => e = .returned (.bool ((restD p.d).eq Dc0)) ∧ Below wb.heap.size wb W') := hid (by rw [hr] at hsb ⊢; exact dc_any w0 { d := { k := 0, nm := ⟨#[]⟩, ex := false, dp := false, note := ⟨#[]⟩, P := [], lo := p.d.lo, up := p.d.up, t := Ty0, e := Xp0, m := p.d.m, tg := p.d.tg }, aP := none, cP := 0, lo := p.lo, up := p.up, t := TyI0 w0, e := XpI0 w0, hk := (show (Lit.int .i64 0).wf = true by decide), hP := .inl rfl, hlo := p.hlo, hup := p.hup, ht := rfl, he := rfl } (DcI0 w0) [] hsb wb (HWa.out.trans (hbb.mono HWa.out.size)))
   have HQ := hid (show dcP p.d = (restD p.d).eq Dc0 by unfold dcP; rw [decide_eq_true (by omega : 0 ≤ p.d.k ∧ p.d.k ≤ 2)]; rfl)
   have H2 := hid (HB.out.trans (hbb.mono HB.out.size))
   clear hr hsb hbk hlo hup ht he hz1 hz2 hz3 hz4 hty hty2 hty3 hbb heb
   rw [q1] at m0
   clear q1 q0
   go_enter Tryz.func106, Tryz.ntmps106
   subst hwb
   go_wp2_with (first | (with_reducible refine wpList_run_alloc rfl 75 rfl ZDc (by kernel_rfl) ?_) | (with_reducible refine wpList_run_build rfl 75 _ rfl (.agg ZDc) (by kernel_rfl) ?_) | (with_reducible refine wpList_load_mid rfl 75 _ rfl W.heap.size 0 rfl (DrL p) _ HRG.out Tryz.underlying75 rfl (by kernel_rfl) ?_) | (with_reducible refine wpList_store_fresh rfl 75 _ _ rfl wa.heap.size rfl (Dr0 p) rfl rfl 75 ZDc (by kernel_rfl) (by kernel_rfl) (by kernel_rfl) rfl ?_) | (with_reducible refine wpList_store_new rfl _ _ _ rfl wa.heap.size rfl 0 _ #[.int .i64 0] (by kernel_rfl) rfl rfl 75 (Dr0 p) (Nat.le_of_ble_eq_true (by kernel_rfl)) (by kernel_rfl) (by kernel_rfl) (Dr1 p) (by kernel_rfl) ?_) | (with_reducible refine wpList_store_new rfl _ _ _ rfl wa.heap.size rfl 1 _ #[.string ⟨#[]⟩] (by kernel_rfl) rfl rfl 75 (Dr1 p) (Nat.le_of_ble_eq_true (by kernel_rfl)) (by kernel_rfl) (by kernel_rfl) (Dr2 p) (by kernel_rfl) ?_) | (with_reducible refine wpList_store_new rfl _ _ _ rfl wa.heap.size rfl 2 _ #[.bool false] (by kernel_rfl) rfl rfl 75 (Dr2 p) (Nat.le_of_ble_eq_true (by kernel_rfl)) (by kernel_rfl) (by kernel_rfl) (Dr3 p) (by kernel_rfl) ?_) | (with_reducible refine wpList_store_new rfl _ _ _ rfl wa.heap.size rfl 3 _ #[.bool false] (by kernel_rfl) rfl rfl 75 (Dr3 p) (Nat.le_of_ble_eq_true (by kernel_rfl)) (by kernel_rfl) (by kernel_rfl) (Dr4 p) (by kernel_rfl) ?_) | (with_reducible refine wpList_store_new rfl _ _ _ rfl wa.heap.size rfl 4 _ #[.string ⟨#[]⟩] (by kernel_rfl) rfl rfl 75 (Dr4 p) (Nat.le_of_ble_eq_true (by kernel_rfl)) (by kernel_rfl) (by kernel_rfl) (Dr5 p) (by kernel_rfl) ?_) | (with_reducible refine wpList_store_new rfl _ _ _ rfl wa.heap.size rfl 5 _ #[.slice none 0 0] (by kernel_rfl) rfl rfl 75 (Dr5 p) (Nat.le_of_ble_eq_true (by kernel_rfl)) (by kernel_rfl) (by kernel_rfl) (Dr6 p) (by kernel_rfl) ?_) | (with_reducible refine wpList_store_new rfl _ _ _ rfl wa.heap.size rfl 16 _ #[.int .i64 0, .string ⟨#[]⟩, .string ⟨#[]⟩, .slice none 0 0, .slice none 0 0] (by kernel_rfl) rfl rfl 75 (Dr6 p) (Nat.le_of_ble_eq_true (by kernel_rfl)) (by kernel_rfl) (by kernel_rfl) (Dr10 p) (by kernel_rfl) ?_) | (with_reducible refine wpList_store_new rfl _ _ _ rfl wa.heap.size rfl 21 _ #[.int .i64 0, .string ⟨#[]⟩, .string ⟨#[]⟩, .string ⟨#[]⟩, .int .i64 0, .slice none 0 0, .slice none 0 0, .slice none 0 0] (by kernel_rfl) rfl rfl 75 (Dr10 p) (Nat.le_of_ble_eq_true (by kernel_rfl)) (by kernel_rfl) (by kernel_rfl) (Dr11 p) (by kernel_rfl) ?_) | (with_reducible refine wpList_load_new rfl 75 _ rfl wa.heap.size rfl rfl 75 (Dr11 p) _ Tryz.underlying75 rfl (by kernel_rfl) ?_))
   refine HC.out.mono ?_
   rintro e w4 ⟨rfl, hb4⟩
   have H4 := hid (H2.out.trans (hb4.mono H2.out.size))
   clear hb4
   go_wp2_with fail
   go_ret
   exact ⟨by rw [HQ.out] <;> rfl, H4.out⟩
 by_cases q2 : p.d.k = 2
 · skip
   obtain ⟨wb, hwb⟩ : ∃ wb, wa.alloc (.cells (Dr13 p) 75) = wb := ⟨_, rfl⟩
   have hbb : Below wa.heap.size wa wb := by rw [← hwb]; exact (Below.refl _ wa).alloc (Nat.le_refl _) _
   have heb : wb.heap[wa.heap.size]? = some (.cells (Dr13 p) 75 (0, 0)) := by rw [← hwb]; exact World.alloc_heap_new _ _
   have hr : restD p.d = { k := 0, nm := ⟨#[]⟩, ex := false, dp := false, note := ⟨#[]⟩, P := p.d.P, lo := p.d.lo, up := p.d.up, t := p.d.t, e := p.d.e, m := ⟨#[]⟩, tg := ⟨#[]⟩ } := by unfold restD; rw [if_neg q0, if_neg q1]
   have hsb : (encDc [restD p.d]).bk ≤ 1099511627776 := by rw [hr, encDc_bk]; simp only [hz1, hz2, hz3, hz4]; omega
   have HC : Kpt (Calls Tryz.prog 82 #[.agg (Dr13 p), .agg ZDc] wb fun e W' => e = .returned (.bool ((restD p.d).eq Dc0)) ∧ Below wb.heap.size wb W') := hid (by rw [hr] at hsb ⊢; exact dc_any w0 { d := { k := 0, nm := ⟨#[]⟩, ex := false, dp := false, note := ⟨#[]⟩, P := p.d.P, lo := p.d.lo, up := p.d.up, t := p.d.t, e := p.d.e, m := ⟨#[]⟩, tg := ⟨#[]⟩ }, aP := p.aP, cP := p.cP, lo := p.lo, up := p.up, t := p.t, e := p.e, hk := (show (Lit.int .i64 0).wf = true by decide), hP := p.hP, hlo := p.hlo, hup := p.hup, ht := p.ht, he := p.he } (DcI0 w0) [] hsb wb (HWa.out.trans (hbb.mono HWa.out.size)))
   have HQ := hid (show dcP p.d = (restD p.d).eq Dc0 by unfold dcP; rw [decide_eq_true (by omega : 0 ≤ p.d.k ∧ p.d.k ≤ 2)]; rfl)
   have H2 := hid (HB.out.trans (hbb.mono HB.out.size))
   clear hr hsb hbk hlo hup ht he hz1 hz2 hz3 hz4 hty hty2 hty3 hbb heb
   rw [q2] at m0
   clear q2 q1 q0
   go_enter Tryz.func106, Tryz.ntmps106
   subst hwb
   go_wp2_with (first | (with_reducible refine wpList_run_alloc rfl 75 rfl ZDc (by kernel_rfl) ?_) | (with_reducible refine wpList_run_build rfl 75 _ rfl (.agg ZDc) (by kernel_rfl) ?_) | (with_reducible refine wpList_load_mid rfl 75 _ rfl W.heap.size 0 rfl (DrL p) _ HRG.out Tryz.underlying75 rfl (by kernel_rfl) ?_) | (with_reducible refine wpList_store_fresh rfl 75 _ _ rfl wa.heap.size rfl (Dr0 p) rfl rfl 75 ZDc (by kernel_rfl) (by kernel_rfl) (by kernel_rfl) rfl ?_) | (with_reducible refine wpList_store_new rfl _ _ _ rfl wa.heap.size rfl 0 _ #[.int .i64 0] (by kernel_rfl) rfl rfl 75 (Dr0 p) (Nat.le_of_ble_eq_true (by kernel_rfl)) (by kernel_rfl) (by kernel_rfl) (Dr1 p) (by kernel_rfl) ?_) | (with_reducible refine wpList_store_new rfl _ _ _ rfl wa.heap.size rfl 1 _ #[.string ⟨#[]⟩] (by kernel_rfl) rfl rfl 75 (Dr1 p) (Nat.le_of_ble_eq_true (by kernel_rfl)) (by kernel_rfl) (by kernel_rfl) (Dr2 p) (by kernel_rfl) ?_) | (with_reducible refine wpList_store_new rfl _ _ _ rfl wa.heap.size rfl 2 _ #[.bool false] (by kernel_rfl) rfl rfl 75 (Dr2 p) (Nat.le_of_ble_eq_true (by kernel_rfl)) (by kernel_rfl) (by kernel_rfl) (Dr3 p) (by kernel_rfl) ?_) | (with_reducible refine wpList_store_new rfl _ _ _ rfl wa.heap.size rfl 3 _ #[.bool false] (by kernel_rfl) rfl rfl 75 (Dr3 p) (Nat.le_of_ble_eq_true (by kernel_rfl)) (by kernel_rfl) (by kernel_rfl) (Dr4 p) (by kernel_rfl) ?_) | (with_reducible refine wpList_store_new rfl _ _ _ rfl wa.heap.size rfl 4 _ #[.string ⟨#[]⟩] (by kernel_rfl) rfl rfl 75 (Dr4 p) (Nat.le_of_ble_eq_true (by kernel_rfl)) (by kernel_rfl) (by kernel_rfl) (Dr5 p) (by kernel_rfl) ?_) | (with_reducible refine wpList_store_new rfl _ _ _ rfl wa.heap.size rfl 29 _ #[.string ⟨#[]⟩] (by kernel_rfl) rfl rfl 75 (Dr5 p) (Nat.le_of_ble_eq_true (by kernel_rfl)) (by kernel_rfl) (by kernel_rfl) (Dr12 p) (by kernel_rfl) ?_) | (with_reducible refine wpList_store_new rfl _ _ _ rfl wa.heap.size rfl 30 _ #[.string ⟨#[]⟩] (by kernel_rfl) rfl rfl 75 (Dr12 p) (Nat.le_of_ble_eq_true (by kernel_rfl)) (by kernel_rfl) (by kernel_rfl) (Dr13 p) (by kernel_rfl) ?_) | (with_reducible refine wpList_load_new rfl 75 _ rfl wa.heap.size rfl rfl 75 (Dr13 p) _ Tryz.underlying75 rfl (by kernel_rfl) ?_))
   refine HC.out.mono ?_
   rintro e w4 ⟨rfl, hb4⟩
   have H4 := hid (H2.out.trans (hb4.mono H2.out.size))
   clear hb4
   go_wp2_with fail
   go_ret
   exact ⟨by rw [HQ.out] <;> rfl, H4.out⟩
 have HQ := hid (show dcP p.d = false by unfold dcP; rw [decide_eq_false (by omega : ¬ (0 ≤ p.d.k ∧ p.d.k ≤ 2))]; rfl)
 have e0 : (p.d.k == 0) = false := by simp [q0]
 have e1 : (p.d.k == 1) = false := by simp [q1]
 have e2 : (p.d.k == 2) = false := by simp [q2]
 clear q0 q1 q2
 clear hbk hlo hup ht he hz1 hz2 hz3 hz4 hty hty2 hty3
 obtain ⟨wb, hwb⟩ : ∃ wb, wa.alloc (.cells (Dr5 p) 75) = wb := ⟨_, rfl⟩
 have hbb : Below wa.heap.size wa wb := by rw [← hwb]; exact (Below.refl _ wa).alloc (Nat.le_refl _) _
 rw [hwb] at m0
 have H2 := hid (HB.out.trans (hbb.mono HB.out.size))
 clear hbb
 go_enter Tryz.func106, Tryz.ntmps106
 go_wp2_with (first | (with_reducible refine wpList_run_alloc rfl 75 rfl ZDc (by kernel_rfl) ?_) | (with_reducible refine wpList_run_build rfl 75 _ rfl (.agg ZDc) (by kernel_rfl) ?_) | (with_reducible refine wpList_load_mid rfl 75 _ rfl W.heap.size 0 rfl (DrL p) _ HRG.out Tryz.underlying75 rfl (by kernel_rfl) ?_) | (with_reducible refine wpList_store_fresh rfl 75 _ _ rfl wa.heap.size rfl (Dr0 p) rfl rfl 75 ZDc (by kernel_rfl) (by kernel_rfl) (by kernel_rfl) rfl ?_) | (with_reducible refine wpList_store_new rfl _ _ _ rfl wa.heap.size rfl 0 _ #[.int .i64 0] (by kernel_rfl) rfl rfl 75 (Dr0 p) (Nat.le_of_ble_eq_true (by kernel_rfl)) (by kernel_rfl) (by kernel_rfl) (Dr1 p) (by kernel_rfl) ?_) | (with_reducible refine wpList_store_new rfl _ _ _ rfl wa.heap.size rfl 1 _ #[.string ⟨#[]⟩] (by kernel_rfl) rfl rfl 75 (Dr1 p) (Nat.le_of_ble_eq_true (by kernel_rfl)) (by kernel_rfl) (by kernel_rfl) (Dr2 p) (by kernel_rfl) ?_) | (with_reducible refine wpList_store_new rfl _ _ _ rfl wa.heap.size rfl 2 _ #[.bool false] (by kernel_rfl) rfl rfl 75 (Dr2 p) (Nat.le_of_ble_eq_true (by kernel_rfl)) (by kernel_rfl) (by kernel_rfl) (Dr3 p) (by kernel_rfl) ?_) | (with_reducible refine wpList_store_new rfl _ _ _ rfl wa.heap.size rfl 3 _ #[.bool false] (by kernel_rfl) rfl rfl 75 (Dr3 p) (Nat.le_of_ble_eq_true (by kernel_rfl)) (by kernel_rfl) (by kernel_rfl) (Dr4 p) (by kernel_rfl) ?_) | (with_reducible refine wpList_store_new rfl _ _ _ rfl wa.heap.size rfl 4 _ #[.string ⟨#[]⟩] (by kernel_rfl) rfl rfl 75 (Dr4 p) (Nat.le_of_ble_eq_true (by kernel_rfl)) (by kernel_rfl) (by kernel_rfl) (Dr5 p) (by kernel_rfl) ?_))
 go_ret
 exact ⟨by rw [HQ.out] <;> rfl, H2.out⟩
end Go.Proofs.YtnkhebgjhipepaaGreatDoor

namespace Go.Proofs.YtnkhebgjhipepaaGreatDoor
open Go.RowKit Go.Shelf
attribute [local go_sem] Oper.semAt_some

section
variable {P : Program} {ops : Array Oper} {rest : List Oper} {op : Oper} {a : Act} {w : World} {Q : Exit → Act → World → Prop}
theorem wpList_load_midG (hw : Region.wanted op (yielded ops a.tmps) = true) (ty : TypeId) (x : Operand) (ho : op.op = .load ty x) (b i : Nat) (hx : a.eval x = .pointer (some ⟨b, i, none⟩)) (cs : List Value) (d : TypeDesc) (hc : w.rangeAt b i cs)
 (hu : P.underlying ty = some d) (hd : d.isRow = true) (hi : (P.info? ty).map (·.size) = some cs.length) (h : wpList P ops Q rest (a.put op.dst (.agg cs.toArray)) w) : wpList P ops Q (op :: rest) a w :=
 BigFrame.wpList_want hw fun _ hK => wp_load_mid ty x ho b i hx cs d hc hu hd hi (hK _ _ h)
end
theorem Pm.bk_mem : ∀ (L : List Pm) (l : Pm), l ∈ L → l.nm.size + l.t.db ≤ (encPm L).bk := by
 intro L
 induction L with
 | nil => intro l hl; cases hl
 | cons x r ih =>
  intro l hl
  simp only [encPm, Dt.bk, Ty.on_db]
  rcases List.mem_cons.1 hl with rfl | hl
  · omega
  · have := ih l hl; omega
/-- The types of a declaration, as they are checked. -/
def Dc.tps (d : Dc) : List Ty := [d.lo, d.up, d.t] ++ d.P.map (·.t)
/-- The error of a declaration's form, behind those whose names are in S. -/
def chkD (d : Dc) (S : List (List UInt8)) : Int :=
 if (!dcP d || !(d.P.all fun l => (restP d.k l).eq Pm0) || (d.dp && !d.ex) || (decide (d.note ≠ ⟨#[]⟩) && !d.dp)) = true then 1 else
 if (decide (8 < d.P.length) || decide (65536 < d.note.size)) = true then 7 else
 if (!dcN d) = true then 4 else
 if (decide (d.nm.data.toList ∈ S) || repF [] (d.P.map (·.nm))) = true then 5 else
 if fst0 (d.tps.map chkT) ≠ 0 then fst0 (d.tps.map chkT) else chkX d.e
set_option maxRecDepth 100000 in
set_option maxHeartbeats 32000000 in
theorem checkdecl_any {w0 : World} (p : DcI w0) (hbig : (encDc [p.d]).bk ≤ 1099511627776) (W : World) (hW : Below w0.heap.size w0 W) (hE : Env W) (b n : Nat) (S : List (List UInt8)) (hS : SetM W b n S) :
 Calls Tryz.prog 60 #[.agg p.cells, .map (some b)] W fun e W' => e = .returned (.int .i64 (chkD p.d S)) ∧ Below W.heap.size W W' := by
 obtain ⟨i0, hi, hz0, hz1, hz2⟩ := info_parts infoTy
 obtain ⟨pa, hpc⟩ : ∃ pa : List Value, p.cells = pa.toArray := ⟨p.cells.toList, by simp⟩
 have hpl : pa.length = 31 := by have h := congrArg Array.size hpc; simpa [DcI.cells] using h.symm
 have hbk := encDc_bk p.d []
 have hz : (encDc []).bk = 0 := rfl
 have hlo : (p.d.lo.on .nil).bk = p.d.lo.db := rfl
 have hup : (p.d.up.on .nil).bk = p.d.up.db := rfl
 have hty : (p.d.t.on .nil).bk = p.d.t.db := rfl
 rw [hz, hlo, hup, hty] at hbk
 have hlP : p.d.P.length ≤ 1099511627776 := by have := Pm.len_bk p.d.P; omega
 have hnm : p.d.nm.size ≤ maxLen := by unfold maxLen; omega
 have hnt : p.d.note.size ≤ 1099511627776 := by omega
 obtain ⟨wa, hwa⟩ : ∃ wa, W.alloc (.cells pa.toArray 75) = wa := ⟨_, rfl⟩
 have hba : Below W.heap.size W wa := by rw [← hwa]; exact (Below.refl _ W).alloc (Nat.le_refl _) _
 have hea : wa.heap[W.heap.size]? = some (.cells pa.toArray 75 (0, 0)) := by rw [← hwa]; exact World.alloc_heap_new _ _
 have hlt0 := (Array.getElem?_eq_some_iff.1 hea).1
 have HR : Kpt (∀ w, Below wa.heap.size wa w → w.heap[W.heap.size]? = some (.cells pa.toArray 75 (0, 0))) := hid fun w hb => (hb.block _ hlt0).trans hea
 have HRG : Kpt (∀ w, Below wa.heap.size wa w → w.rangeAt W.heap.size 0 pa) := hid fun w hb j v hv => by rw [Nat.zero_add, cell_of_row w _ j _ _ _ (HR.out w hb)]; simpa using hv
 have HCE : Kpt (∀ (w : World) (j : Nat) (v : Value), Below wa.heap.size wa w → p.cells[j]? = some v → w.cell? ⟨W.heap.size, j, none⟩ = some v) := hid fun w j v hb hv => (cell_of_row w _ j _ _ _ (HR.out w hb)).trans (by rw [← hpc]; exact hv)
 have HC16 : Kpt (∀ w, Below wa.heap.size wa w → w.cell? ⟨W.heap.size, 5, none⟩ = some (.slice p.aP p.d.P.length p.cP) ∧ w.cell? ⟨W.heap.size, 6, none⟩ = some (.int .i64 p.lo.t.k) ∧ w.cell? ⟨W.heap.size, 7, none⟩ = some (.string p.lo.t.m) ∧ w.cell? ⟨W.heap.size, 8, none⟩ = some (.string p.lo.t.n) ∧ w.cell? ⟨W.heap.size, 9, none⟩ = some (.slice p.lo.aa p.lo.t.A.len p.lo.ca) ∧ w.cell? ⟨W.heap.size, 10, none⟩ = some (.slice p.lo.af p.lo.t.F.len p.lo.cf) ∧ w.cell? ⟨W.heap.size, 11, none⟩ = some (.int .i64 p.up.t.k) ∧ w.cell? ⟨W.heap.size, 12, none⟩ = some (.string p.up.t.m) ∧ w.cell? ⟨W.heap.size, 13, none⟩ = some (.string p.up.t.n) ∧ w.cell? ⟨W.heap.size, 14, none⟩ = some (.slice p.up.aa p.up.t.A.len p.up.ca) ∧ w.cell? ⟨W.heap.size, 15, none⟩ = some (.slice p.up.af p.up.t.F.len p.up.cf) ∧ w.cell? ⟨W.heap.size, 16, none⟩ = some (.int .i64 p.t.t.k) ∧ w.cell? ⟨W.heap.size, 17, none⟩ = some (.string p.t.t.m) ∧ w.cell? ⟨W.heap.size, 18, none⟩ = some (.string p.t.t.n) ∧ w.cell? ⟨W.heap.size, 19, none⟩ = some (.slice p.t.aa p.t.t.A.len p.t.ca) ∧ w.cell? ⟨W.heap.size, 20, none⟩ = some (.slice p.t.af p.t.t.F.len p.t.cf)) := hid fun w hb => ⟨HCE.out w 5 _ hb rfl, HCE.out w 6 _ hb rfl, HCE.out w 7 _ hb rfl, HCE.out w 8 _ hb rfl, HCE.out w 9 _ hb rfl, HCE.out w 10 _ hb rfl, HCE.out w 11 _ hb rfl, HCE.out w 12 _ hb rfl, HCE.out w 13 _ hb rfl, HCE.out w 14 _ hb rfl, HCE.out w 15 _ hb rfl, HCE.out w 16 _ hb rfl, HCE.out w 17 _ hb rfl, HCE.out w 18 _ hb rfl, HCE.out w 19 _ hb rfl, HCE.out w 20 _ hb rfl⟩
 have HC8 : Kpt (∀ w, Below wa.heap.size wa w → w.cell? ⟨W.heap.size, 21, none⟩ = some (.int .i64 p.e.e.k) ∧ w.cell? ⟨W.heap.size, 22, none⟩ = some (.string p.e.e.m) ∧ w.cell? ⟨W.heap.size, 23, none⟩ = some (.string p.e.e.n) ∧ w.cell? ⟨W.heap.size, 24, none⟩ = some (.string p.e.e.tx) ∧ w.cell? ⟨W.heap.size, 25, none⟩ = some (.int .i64 p.e.e.num) ∧ w.cell? ⟨W.heap.size, 26, none⟩ = some (.slice p.e.aT p.e.e.T.len p.e.cT) ∧ w.cell? ⟨W.heap.size, 27, none⟩ = some (.slice p.e.aL p.e.e.L.length p.e.cL) ∧ w.cell? ⟨W.heap.size, 28, none⟩ = some (.slice p.e.aK p.e.e.K.len p.e.cK)) := hid fun w hb => ⟨HCE.out w 21 _ hb rfl, HCE.out w 22 _ hb rfl, HCE.out w 23 _ hb rfl, HCE.out w 24 _ hb rfl, HCE.out w 25 _ hb rfl, HCE.out w 26 _ hb rfl, HCE.out w 27 _ hb rfl, HCE.out w 28 _ hb rfl⟩
 have HOLD : Kpt (∀ w, Below wa.heap.size wa w → Below w0.heap.size w0 w) := hid fun w hb => hW.trans ((hba.trans (hb.mono hba.size)).mono hW.size)
 have HEW : Kpt (∀ w, Below wa.heap.size wa w → Env w) := hid fun w hb => hE.below (hba.trans (hb.mono hba.size))
 have HSM : Kpt (∀ w, Below wa.heap.size wa w → SetM w b n S) := hid fun w hb => hS.below (World.ownsMap.lt hS) (hba.trans (hb.mono hba.size))
 have HFIN : Kpt (∀ w, Below wa.heap.size wa w → Below W.heap.size W w) := hid fun w hb => hba.trans (hb.mono hba.size)
 have HDP : Kpt (∀ w, Below wa.heap.size wa w → Calls Tryz.prog 106 #[.agg pa.toArray] w fun e w' => e = .returned (.bool (dcP p.d)) ∧ Below w.heap.size w w') := hid fun w hb => by rw [← hpc]; exact declparts_any p hbig w (HOLD.out w hb)
 have HPP : Kpt (∀ w, Below wa.heap.size wa w → Calls Tryz.prog 107 #[.agg pa.toArray] w fun e w' => e = .returned (.bool (p.d.P.all fun l => (restP p.d.k l).eq Pm0)) ∧ Below w.heap.size w w') := hid fun w hb => by rw [← hpc]; exact paramparts_any p hlP (fun l hl => by have := Pm.bk_mem _ l hl; have := l.t.size_db; omega) w (HOLD.out w hb)
 have HDN : Kpt (∀ w, Below wa.heap.size wa w → Calls Tryz.prog 108 #[.agg pa.toArray] w fun e w' => e = .returned (.bool (dcN p.d)) ∧ Below w.heap.size w w') := hid fun w hb => by rw [← hpc]; exact declnames_any p hlP ⟨by omega, by omega, by omega, fun l hl => by have := Pm.bk_mem _ l hl; omega⟩ w (HOLD.out w hb) (HEW.out w hb)
 have HRP : Kpt (∀ w, Below wa.heap.size wa w → Calls Tryz.prog 109 #[.slice p.aP p.d.P.length p.cP] w fun e w' => e = .returned (.bool (repF [] (p.d.P.map (·.nm)))) ∧ Below w.heap.size w w') := hid fun w hb => repeated_any w0 p.d.P p.aP p.cP p.hP hlP (fun l hl => by have := Pm.bk_mem _ l hl; omega) w (HOLD.out w hb)
 have HCT : Kpt (∀ (y : TyI w0), y.t.db ≤ 1099511627776 → ∀ w, Below wa.heap.size wa w → Calls Tryz.prog 23 #[.agg #[.int .i64 y.t.k, .string y.t.m, .string y.t.n, .slice y.aa y.t.A.len y.ca, .slice y.af y.t.F.len y.cf]] w fun e w' => e = .returned (.int .i64 (chkT y.t)) ∧ Below w.heap.size w w') := hid fun y hy w hb => checktype_any y.t y.v w (TyV_below y.tyV (HOLD.out w hb)) (by have := y.t.size_db; omega) (y.t.sh_nodes hy) (HEW.out w hb)
 have HCX : Kpt (∀ w, Below wa.heap.size wa w → Calls Tryz.prog 25 #[.agg #[.int .i64 p.e.e.k, .string p.e.e.m, .string p.e.e.n, .string p.e.e.tx, .int .i64 p.e.e.num, .slice p.e.aT p.e.e.T.len p.e.cT, .slice p.e.aL p.e.e.L.length p.e.cL, .slice p.e.aK p.e.e.K.len p.e.cK]] w fun e w' => e = .returned (.int .i64 (chkX p.d.e)) ∧ Below w.heap.size w w') := hid fun w hb => by rw [← p.he]; exact checkexpr_any p.e w (HOLD.out w hb) (by rw [p.he]; omega) (HEW.out w hb)
 have HTB : Kpt (∀ t ∈ p.d.tps, t.db ≤ 1099511627776) := hid fun t ht => by
  rcases List.mem_append.1 ht with h | h
  · simp only [List.mem_cons, List.not_mem_nil, or_false] at h
    rcases h with rfl | rfl | rfl <;> omega
  · obtain ⟨l, hl, rfl⟩ := List.mem_map.1 h
    have := Pm.bk_mem _ l hl; omega
 have HRES : Kpt (chkD p.d S = if (!dcP p.d || !(p.d.P.all fun l => (restP p.d.k l).eq Pm0) || (p.d.dp && !p.d.ex) || (decide (p.d.note ≠ ⟨#[]⟩) && !p.d.dp)) = true then 1 else
  if (decide (8 < p.d.P.length) || decide (65536 < p.d.note.size)) = true then 7 else if (!dcN p.d) = true then 4 else
  if (decide (p.d.nm.data.toList ∈ S) || repF [] (p.d.P.map (·.nm))) = true then 5 else if fst0 (p.d.tps.map chkT) ≠ 0 then fst0 (p.d.tps.map chkT) else chkX p.d.e) := hid rfl
 have HPL := hid hpl
 have HSD := hid (And.intro p.hP (And.intro p.hlo (And.intro p.hup p.ht)))
 have H0 : Kpt (Below wa.heap.size wa wa) := hid (Below.refl _ _)
 rw [hpc]
 clear hpc hpl hbk hz hlo hup hty hba hea hlt0 hW hE hS hbig
 generalize dcP p.d = b0 at HDP HRES
 generalize (p.d.P.all fun l => (restP p.d.k l).eq Pm0) = b1 at HPP HRES
 generalize chkD p.d S = RES at HRES ⊢
 obtain ⟨ex, hex⟩ : ∃ ex, p.d.ex = ex := ⟨_, rfl⟩
 obtain ⟨dp, hdp⟩ : ∃ dp, p.d.dp = dp := ⟨_, rfl⟩
 obtain ⟨nz, hnz⟩ : ∃ nz, (p.d.note.toList == ([] : List UInt8)) = nz := ⟨_, rfl⟩
 have hno : decide (p.d.note ≠ ⟨#[]⟩) = !nz := by
  rw [← hnz]
  by_cases h : p.d.note = ⟨#[]⟩
  · rw [h]; simp [ByteArray.toList_eq]
  · have h2 := toList_ne h
    have h3 : (p.d.note.toList == ([] : List UInt8)) = false := by simpa [ByteArray.toList_eq] using h2
    rw [h3]; simp [h]
 rw [hno, hex, hdp] at HRES
 clear hno
 go_enter Tryz.func60, Tryz.ntmps60
 go_wp2_with (with_reducible refine wpList_load_midG rfl 75 _ rfl W.heap.size 0 rfl pa _ (HRG.out wa H0.out) Tryz.underlying75 rfl (by rw [HPL.out]; kernel_rfl) ?_)
 refine (HDP.out wa H0.out).mono ?_
 rintro e w1 ⟨rfl, hb⟩
 have H1 := hid (H0.out.trans (hb.mono H0.out.size))
 clear hb
 clear hwa
 cases b0 with
 | false =>
  have HQ := hid (show RES = 1 by rw [HRES.out, if_pos (by simp)])
  clear HRES
  go_wp2_with fail
  go_ret
  exact ⟨by rw [HQ.out] <;> rfl, HFIN.out _ H1.out⟩
 | true =>
  go_wp2_with (with_reducible refine wpList_load_midG rfl 75 _ rfl W.heap.size 0 rfl pa _ (HRG.out w1 H1.out) Tryz.underlying75 rfl (by rw [HPL.out]; kernel_rfl) ?_)
  refine (HPP.out w1 H1.out).mono ?_
  rintro e w2 ⟨rfl, hb⟩
  have H2 := hid (H1.out.trans (hb.mono H1.out.size))
  clear hb
  cases b1 with
  | false =>
   have HQ := hid (show RES = 1 by rw [HRES.out, if_pos (by simp)])
   clear HRES
   go_wp2_with fail
   go_ret
   exact ⟨by rw [HQ.out] <;> rfl, HFIN.out _ H2.out⟩
  | true =>
   have k2 := HCE.out w2 2 (.bool p.d.ex) H2.out rfl
   have k3 := HCE.out w2 3 (.bool p.d.dp) H2.out rfl
   have k4 := HCE.out w2 4 (.string p.d.note) H2.out rfl
   have k5 := HCE.out w2 5 (.slice p.aP p.d.P.length p.cP) H2.out rfl
   simp only [hex] at k2
   simp only [hdp] at k3
   cases dp with
   | true =>
    cases ex with
    | false =>
     have HQ := hid (show RES = 1 by rw [HRES.out, if_pos (by simp)])
     clear HRES
     go_wp2_with fail
     go_ret
     exact ⟨by rw [HQ.out] <;> rfl, HFIN.out _ H2.out⟩
    | true =>
     cases nz with
     | true =>
      have hres : RES = if (decide (8 < p.d.P.length) || decide (65536 < p.d.note.size)) = true then 7 else if (!dcN p.d) = true then 4 else if (decide (p.d.nm.data.toList ∈ S) || repF [] (p.d.P.map (·.nm))) = true then 5 else if fst0 (p.d.tps.map chkT) ≠ 0 then fst0 (p.d.tps.map chkT) else chkX p.d.e := by rw [HRES.out, if_neg (by simp)]
      clear HRES
      by_cases h8 : p.d.P.length ≤ 8
      · by_cases h6 : p.d.note.size ≤ 65536
        · have HRES := hid (show RES = if (!dcN p.d) = true then 4 else if (decide (p.d.nm.data.toList ∈ S) || repF [] (p.d.P.map (·.nm))) = true then 5 else if fst0 (p.d.tps.map chkT) ≠ 0 then fst0 (p.d.tps.map chkT) else chkX p.d.e by rw [hres, if_neg (by simp; omega)])
          clear hres
          generalize dcN p.d = b2 at HDN HRES
          go_wp2_with (with_reducible refine wpList_load_midG rfl 75 _ rfl W.heap.size 0 rfl pa _ (HRG.out w2 H2.out) Tryz.underlying75 rfl (by rw [HPL.out]; kernel_rfl) ?_)
          refine (HDN.out w2 H2.out).mono ?_
          rintro e w3 ⟨rfl, hb⟩
          have H3 := hid (H2.out.trans (hb.mono H2.out.size))
          clear hb
          clear k2 k3 k4 k5
          cases b2 with
          | false =>
           have HQ := hid (show RES = 4 by rw [HRES.out, if_pos (by simp)])
           clear HRES
           go_wp2_with fail
           go_ret
           exact ⟨by rw [HQ.out] <;> rfl, HFIN.out _ H3.out⟩
          | true =>
           have k1 := HCE.out w3 1 (.string p.d.nm) H3.out rfl
           have k5 := HCE.out w3 5 (.slice p.aP p.d.P.length p.cP) H3.out rfl
           obtain ⟨B, hBd⟩ : ∃ B, decide (p.d.nm.data.toList ∈ S) = B := ⟨_, rfl⟩
           rw [hBd] at HRES
           have HSw := hid (HSM.out w3 H3.out)
           cases B with
           | true =>
            have HQ := hid (show RES = 5 by rw [HRES.out, if_neg (by simp), if_pos (by simp)])
            clear HRES
            go_wp2_with (at_lookup; refine wpList_lookup_set _ rfl _ _ rfl b n S rfl HSw.out _ rfl hnm ?_; rw [hBd])
            go_ret
            exact ⟨by rw [HQ.out] <;> rfl, HFIN.out _ H3.out⟩
           | false =>
            generalize repF [] (p.d.P.map (·.nm)) = b3 at HRP HRES
            go_wp2_with (at_lookup; refine wpList_lookup_set _ rfl _ _ rfl b n S rfl HSw.out _ rfl hnm ?_; rw [hBd])
            refine (HRP.out w3 H3.out).mono ?_
            rintro e w4 ⟨rfl, hb⟩
            have H4 := hid (H3.out.trans (hb.mono H3.out.size))
            clear hb k1 k5 HSw
            cases b3 with
            | true =>
             have HQ := hid (show RES = 5 by rw [HRES.out, if_neg (by simp), if_pos (by simp)])
             clear HRES
             go_wp2_with fail
             go_ret
             exact ⟨by rw [HQ.out] <;> rfl, HFIN.out _ H4.out⟩
            | false =>
             have hres : RES = if fst0 (p.d.tps.map chkT) ≠ 0 then fst0 (p.d.tps.map chkT) else chkX p.d.e := by rw [HRES.out, if_neg (by simp), if_neg (by simp)]
             have HRES := hid hres
             clear hres
             obtain ⟨k5, k6, k7, k8, k9, k10, k11, k12, k13, k14, k15, k16, k17, k18, k19, k20⟩ := HC16.out w4 H4.out
             obtain ⟨w5, hw5⟩ : ∃ w5, w4.alloc (.cells #[.int .i64 p.lo.t.k, .string p.lo.t.m, .string p.lo.t.n, .slice p.lo.aa p.lo.t.A.len p.lo.ca, .slice p.lo.af p.lo.t.F.len p.lo.cf, .int .i64 p.up.t.k, .string p.up.t.m, .string p.up.t.n, .slice p.up.aa p.up.t.A.len p.up.ca, .slice p.up.af p.up.t.F.len p.up.cf, .int .i64 p.t.t.k, .string p.t.t.m, .string p.t.t.n, .slice p.t.aa p.t.t.A.len p.t.ca, .slice p.t.af p.t.t.F.len p.t.cf] 25) = w5 := ⟨_, rfl⟩
             have hb5 : Below w4.heap.size w4 w5 := by rw [← hw5]; exact (Below.refl _ w4).alloc (Nat.le_refl _) _
             have ho5 : w5.ownsRow wa.heap.size 25 5 (.slice (some ⟨w4.heap.size, 0, none⟩) 3 3) 3 ([p.lo, p.up, p.t].flatMap fun y => y.cells.toList) := by rw [← hw5]; exact World.ownsRow_lit w4 #[.int .i64 p.lo.t.k, .string p.lo.t.m, .string p.lo.t.n, .slice p.lo.aa p.lo.t.A.len p.lo.ca, .slice p.lo.af p.lo.t.F.len p.lo.cf, .int .i64 p.up.t.k, .string p.up.t.m, .string p.up.t.n, .slice p.up.aa p.up.t.A.len p.up.ca, .slice p.up.af p.up.t.F.len p.up.cf, .int .i64 p.t.t.k, .string p.t.t.m, .string p.t.t.n, .slice p.t.aa p.t.t.A.len p.t.ca, .slice p.t.af p.t.t.F.len p.t.cf] 3 H4.out.size (by unfold maxLen; omega) rfl
             have H5 := hid (H4.out.trans (hb5.mono H4.out.size))
             have HO5 := hid ho5
             have k5 := HCE.out w5 5 (.slice p.aP p.d.P.length p.cP) H5.out rfl
             clear hb5 ho5
             go_wp2_with fail
             clear hw5 k5 k6 k7 k8 k9 k10 k11 k12 k13 k14 k15 k16 k17 k18 k19 k20
             go_loopw [5, 74] (fun q a wr => ∃ (i m : Nat) (r : List Pm) (ys : List (TyI w0)) (pt : Option Addr) (ct : Nat), a = .int .i64 (i : Int) ∧ m = ys.length ∧ q = .slice pt m ct ∧ r.length + i = p.d.P.length ∧ m = 3 + i ∧ Kpt (ys.map (·.t) ++ r.map (·.t) = p.d.tps) ∧ Kpt (RowD w0 (encPm r) p.aP (i * 7)) ∧ Kpt (wr.ownsRow wa.heap.size 25 5 (.slice pt m ct) m (ys.flatMap fun y => y.cells.toList)) ∧ Kpt (Below wa.heap.size wa wr)) (fun _ a _ => p.d.P.length - (intOf a).toNat)
             case atStart => exact ⟨0, 3, p.d.P, [p.lo, p.up, p.t], _, _, rfl, rfl, rfl, by omega, rfl, ⟨by unfold Dc.tps; simp only [List.map_cons, List.map_nil, HSD.out.2.1, HSD.out.2.2.1, HSD.out.2.2.2]⟩, ⟨rowD_zero HSD.out.1⟩, HO5, H5⟩
             case round =>
              clear HO5 H5
              obtain ⟨i, m, r, ys, pt, ct, rfl, hml, rfl, hri, hm3, hys, hR, hO, hB⟩ := hrel
              cases r with
              | cons lx r' =>
               have hlt : i < p.d.P.length := by simp only [List.length_cons] at hri; omega
               obtain ⟨bf, of, y, haf, hy, hvw, ⟨d0, d1, d2, d3, d4, d5, d6⟩, hr1⟩ := rowD_pm hR.out
               have hWr := HOLD.out wr hB.out
               replace d0 := old_cell hWr d0
               replace d1 := old_cell hWr d1
               replace d2 := old_cell hWr d2
               replace d3 := old_cell hWr d3
               replace d4 := old_cell hWr d4
               replace d5 := old_cell hWr d5
               replace d6 := old_cell hWr d6
               rw [haf]
               have hri' : r'.length + (i + 1) = p.d.P.length := by simp only [List.length_cons] at hri; omega
               obtain ⟨wb, hwb⟩ : ∃ wb, wr.alloc (.cells #[.string lx.nm, .int .i64 lx.vr, .int .i64 y.t.k, .string y.t.m, .string y.t.n, .slice y.aa y.t.A.len y.ca, .slice y.af y.t.F.len y.cf] 77) = wb := ⟨_, rfl⟩
               have hbb : Below wr.heap.size wr wb := by rw [← hwb]; exact (Below.refl _ wr).alloc (Nat.le_refl _) _
               have heb : wb.heap[wr.heap.size]? = some (.cells #[.string lx.nm, .int .i64 lx.vr, .int .i64 y.t.k, .string y.t.m, .string y.t.n, .slice y.aa y.t.A.len y.ca, .slice y.af y.t.F.len y.cf] 77 (0, 0)) := by rw [← hwb]; exact World.alloc_heap_new _ _
               have g2 := cell_of_row wb _ 2 _ _ _ heb
               have g3 := cell_of_row wb _ 3 _ _ _ heb
               have g4 := cell_of_row wb _ 4 _ _ _ heb
               have g5 := cell_of_row wb _ 5 _ _ _ heb
               have g6 := cell_of_row wb _ 6 _ _ _ heb
               obtain ⟨wd, hwd⟩ : ∃ wd, wb.alloc (.cells #[.int .i64 y.t.k, .string y.t.m, .string y.t.n, .slice y.aa y.t.A.len y.ca, .slice y.af y.t.F.len y.cf] 25) = wd := ⟨_, rfl⟩
               have hbd : Below wb.heap.size wb wd := by rw [← hwd]; exact (Below.refl _ wb).alloc (Nat.le_refl _) _
               have hed : wd.heap[wb.heap.size]? = some (.cells #[.int .i64 y.t.k, .string y.t.m, .string y.t.n, .slice y.aa y.t.A.len y.ca, .slice y.af y.t.F.len y.cf] 25 (0, 0)) := by rw [← hwd]; exact World.alloc_heap_new _ _
               have hbr := hbb.trans (hbd.mono hbb.size)
               have hWs : wa.heap.size ≤ wd.heap.size := Nat.le_trans hB.out.size hbr.size
               have HO := hid (And.intro (own_belowS hO.out hbr) (And.intro (World.news_of_block hed) (hB.out.trans (hbr.mono hB.out.size))))
               have hsn : (ys ++ [y]).map (·.t) ++ r'.map (·.t) = p.d.tps := by rw [← hys.out, List.map_append, List.append_assoc]; simp [hy]
               have HQ := hid (And.intro hsn (And.intro hr1 (And.intro hri' (show m + 1 = (ys ++ [y]).length by rw [List.length_append, hml]; rfl))))
               have hm9 : m + 1 ≤ 1099511627776 := by omega
               have hm4 := hid (show m + 1 = 3 + (i + 1) by omega)
               clear hbb heb hbd hed hbr hsn hr1 hri' hri hy hvw hys hR hO hB hWr hml hm3
               go_wp2_with (at_builtin; refine wpList_append_own _ rfl _ _ 22 rfl wa.heap.size 25 i0 _ 5 88 Tryz.underlying22 hi hz0 hz1 hz2 rfl (by decide) _ _ _ rfl HO.out.1 ⟨wb.heap.size, 0, none⟩ 1 1 [.int .i64 y.t.k, .string y.t.m, .string y.t.n, .slice y.aa y.t.A.len y.ca, .slice y.af y.t.F.len y.cf] rfl rfl HO.out.2.1 (by simp [Value.oneCell']) (by unfold maxLen; omega) (by omega) hWs ?_; intro v' w6 hown3 hgrow3 _; obtain ⟨g', cap', rfl⟩ := ownsRow_succ hown3; have hgrow4 : World.grownBy _ w6 (Value.ownBlock (.slice pt m ct)) := hgrow3; have K3 := hid (And.intro hown3 hgrow4); clear hown3 hgrow3 hgrow4)
               go_roundw
               case rel => exact ⟨i + 1, m + 1, r', ys ++ [y], some ⟨g', 0, none⟩, cap', by go_num, HQ.out.2.2.2, rfl, HQ.out.2.2.1, hm4.out, ⟨HQ.out.1⟩, haf ▸ ⟨HQ.out.2.1⟩, ⟨by rw [List.flatMap_append]; exact K3.out.1⟩, ⟨Below.grown HO.out.2.2 K3.out.2 hWs (own_base HO.out.1)⟩⟩
               case measure => simp [intOf]; omega
              | nil =>
               have hi9 : i = p.d.P.length := by simp only [List.length_nil] at hri; omega
               subst hi9
               have hyt : ys.map (·.t) = p.d.tps := by have h := hys.out; simpa using h
               have hmb : m ≤ 2199023255552 := by omega
               obtain ⟨wz, hwz⟩ : ∃ wz, wz = wr := ⟨_, rfl⟩
               subst hwz
               have HN := hid (And.intro hyt (And.intro hml (And.intro hO.out hB.out)))
               clear hri hm3 hys hR hO hB hyt hml k5
               go_wp2_with fail
               go_loopw [86] (fun a wq => ∃ i : Nat, a = .int .i64 (i : Int) ∧ i ≤ m ∧ Kpt (fst0 ((ys.take i).map fun y => chkT y.t) = 0) ∧ Kpt (Below wz.heap.size wz wq)) (fun a _ => m - (intOf a).toNat)
               case atStart => exact ⟨0, rfl, Nat.zero_le _, ⟨rfl⟩, ⟨Below.refl _ _⟩⟩
               case round =>
                obtain ⟨i, rfl, hi9, hf, hB⟩ := hrel
                have HBZ := hid (HN.out.2.2.2.trans (hB.out.mono HN.out.2.2.2.size))
                by_cases hlt : i < m
                · obtain ⟨g, cap, hv, _, _⟩ := HN.out.2.2.1.form (by omega)
                  cases hv
                  obtain ⟨y, hy⟩ : ∃ y, ys[i]? = some y := ⟨_, List.getElem?_eq_getElem (by rw [← HN.out.2.1]; exact hlt)⟩
                  have hc : ∀ j u, y.cells.toList[j]? = some u → j < 5 → wr.cell? ⟨g, i * 5 + j, none⟩ = some u := fun j u hu hj => by
                   refine old_cell hB.out ?_
                   rw [HN.out.2.2.1.cellAt (i * 5 + j) (by omega)]
                   exact flat_at (fun y : TyI w0 => y.cells.toList) 5 (fun _ => rfl) ys i j y u hy hu
                  have d0 := hc 0 _ rfl (by omega)
                  have d1 := hc 1 _ rfl (by omega)
                  have d2 := hc 2 _ rfl (by omega)
                  have d3 := hc 3 _ rfl (by omega)
                  have d4 := hc 4 _ rfl (by omega)
                  have hyp : p.d.tps[i]? = some y.t := by rw [← HN.out.1, List.getElem?_map, hy]; rfl
                  have htk : (ys.take (i + 1)).map (fun y => chkT y.t) = (ys.take i).map (fun y => chkT y.t) ++ [chkT y.t] := by rw [take_snoc hy, List.map_append]; rfl
                  have hfs : fst0 ((ys.take (i + 1)).map fun y => chkT y.t) = chkT y.t := by
                   rw [htk, fst0_append, if_pos hf.out]; simp only [fst0]; split <;> simp_all
                  have hpf : (ys.take (i + 1)).map (fun y => chkT y.t) <+: p.d.tps.map chkT := by rw [← HN.out.1, List.map_map]; exact (List.take_prefix _ _).map _
                  obtain ⟨wb, hwb⟩ : ∃ wb, wr.alloc (.cells #[.int .i64 y.t.k, .string y.t.m, .string y.t.n, .slice y.aa y.t.A.len y.ca, .slice y.af y.t.F.len y.cf] 25) = wb := ⟨_, rfl⟩
                  have hbb : Below wr.heap.size wr wb := by rw [← hwb]; exact (Below.refl _ wr).alloc (Nat.le_refl _) _
                  have heb : wb.heap[wr.heap.size]? = some (.cells #[.int .i64 y.t.k, .string y.t.m, .string y.t.n, .slice y.aa y.t.A.len y.ca, .slice y.af y.t.F.len y.cf] 25 (0, 0)) := by rw [← hwb]; exact World.alloc_heap_new _ _
                  have a0 := cell_of_row wb _ 0 _ _ _ heb
                  have a1 := cell_of_row wb _ 1 _ _ _ heb
                  have a2 := cell_of_row wb _ 2 _ _ _ heb
                  have a3 := cell_of_row wb _ 3 _ _ _ heb
                  have a4 := cell_of_row wb _ 4 _ _ _ heb
                  have HBB := hid (hB.out.trans (hbb.mono hB.out.size))
                  have HC := hid (HCT.out y (HTB.out _ (List.mem_of_getElem? hyp)) wb (HBZ.out.trans (hbb.mono HBZ.out.size)))
                  have HZ := hid (And.intro hfs hpf)
                  simp only [Nat.add_zero] at d0
                  clear hc hy hyp htk hfs hpf hbb heb hf hB
                  generalize chkT y.t = er at HC HZ
                  by_cases her : er = 0
                  · subst her
                    go_wp2_with fail
                    refine HC.out.mono ?_
                    rintro e w8 ⟨rfl, hb8⟩
                    have H8 := hid (HBB.out.trans (hb8.mono HBB.out.size))
                    clear hb8
                    go_wp2_with fail
                    go_roundw
                    case rel => exact ⟨i + 1, by go_num, by omega, ⟨HZ.out.1⟩, H8⟩
                    case measure => simp [intOf]; omega
                  · have her2 : (er != 0) = true := by simp [her]
                    have hfe : fst0 (p.d.tps.map chkT) = er := by rw [fst0_prefix HZ.out.2 (by rw [HZ.out.1]; exact her), HZ.out.1]
                    have HQ := hid (show RES = er by rw [HRES.out, hfe, if_pos her])
                    clear HRES hfe
                    go_wp2_with fail
                    refine HC.out.mono ?_
                    rintro e w8 ⟨rfl, hb8⟩
                    have H8 := hid (HBB.out.trans (hb8.mono HBB.out.size))
                    clear hb8
                    go_wp2_with fail
                    go_ret
                    exact ⟨by rw [HQ.out] <;> rfl, HFIN.out _ (HN.out.2.2.2.trans (H8.out.mono HN.out.2.2.2.size))⟩
                · obtain rfl : i = m := by omega
                  have hfz : fst0 (p.d.tps.map chkT) = 0 := by
                   have h := hf.out
                   rw [List.take_of_length_le (by rw [← HN.out.2.1]; exact Nat.le_refl _)] at h
                   rw [← HN.out.1, List.map_map]; exact h
                  have HQ := hid (show RES = chkX p.d.e by rw [HRES.out, hfz, if_neg (by simp)])
                  have HC := hid (HCX.out wr HBZ.out)
                  clear HRES hfz hf hB
                  obtain ⟨k21, k22, k23, k24, k25, k26, k27, k28⟩ := HC8.out wr HBZ.out
                  go_wp2_with fail
                  refine HC.out.mono ?_
                  rintro e w8 ⟨rfl, hb8⟩
                  have H8 := hid (HBZ.out.trans (hb8.mono HBZ.out.size))
                  clear hb8
                  go_wp2_with fail
                  go_ret
                  exact ⟨by rw [HQ.out] <;> rfl, HFIN.out _ H8.out⟩
        · skip
          have HQ := hid (show RES = 7 by rw [hres, if_pos (by simp; omega)])
          clear hres
          go_wp2_with fail
          go_ret
          exact ⟨by rw [HQ.out] <;> rfl, HFIN.out _ H2.out⟩
      · skip
        have HQ := hid (show RES = 7 by rw [hres, if_pos (by simp; omega)])
        clear hres
        go_wp2_with fail
        go_ret
        exact ⟨by rw [HQ.out] <;> rfl, HFIN.out _ H2.out⟩
     | false =>
      have hres : RES = if (decide (8 < p.d.P.length) || decide (65536 < p.d.note.size)) = true then 7 else if (!dcN p.d) = true then 4 else if (decide (p.d.nm.data.toList ∈ S) || repF [] (p.d.P.map (·.nm))) = true then 5 else if fst0 (p.d.tps.map chkT) ≠ 0 then fst0 (p.d.tps.map chkT) else chkX p.d.e := by rw [HRES.out, if_neg (by simp)]
      clear HRES
      by_cases h8 : p.d.P.length ≤ 8
      · by_cases h6 : p.d.note.size ≤ 65536
        · have HRES := hid (show RES = if (!dcN p.d) = true then 4 else if (decide (p.d.nm.data.toList ∈ S) || repF [] (p.d.P.map (·.nm))) = true then 5 else if fst0 (p.d.tps.map chkT) ≠ 0 then fst0 (p.d.tps.map chkT) else chkX p.d.e by rw [hres, if_neg (by simp; omega)])
          clear hres
          generalize dcN p.d = b2 at HDN HRES
          go_wp2_with (with_reducible refine wpList_load_midG rfl 75 _ rfl W.heap.size 0 rfl pa _ (HRG.out w2 H2.out) Tryz.underlying75 rfl (by rw [HPL.out]; kernel_rfl) ?_)
          refine (HDN.out w2 H2.out).mono ?_
          rintro e w3 ⟨rfl, hb⟩
          have H3 := hid (H2.out.trans (hb.mono H2.out.size))
          clear hb
          clear k2 k3 k4 k5
          cases b2 with
          | false =>
           have HQ := hid (show RES = 4 by rw [HRES.out, if_pos (by simp)])
           clear HRES
           go_wp2_with fail
           go_ret
           exact ⟨by rw [HQ.out] <;> rfl, HFIN.out _ H3.out⟩
          | true =>
           have k1 := HCE.out w3 1 (.string p.d.nm) H3.out rfl
           have k5 := HCE.out w3 5 (.slice p.aP p.d.P.length p.cP) H3.out rfl
           obtain ⟨B, hBd⟩ : ∃ B, decide (p.d.nm.data.toList ∈ S) = B := ⟨_, rfl⟩
           rw [hBd] at HRES
           have HSw := hid (HSM.out w3 H3.out)
           cases B with
           | true =>
            have HQ := hid (show RES = 5 by rw [HRES.out, if_neg (by simp), if_pos (by simp)])
            clear HRES
            go_wp2_with (at_lookup; refine wpList_lookup_set _ rfl _ _ rfl b n S rfl HSw.out _ rfl hnm ?_; rw [hBd])
            go_ret
            exact ⟨by rw [HQ.out] <;> rfl, HFIN.out _ H3.out⟩
           | false =>
            generalize repF [] (p.d.P.map (·.nm)) = b3 at HRP HRES
            go_wp2_with (at_lookup; refine wpList_lookup_set _ rfl _ _ rfl b n S rfl HSw.out _ rfl hnm ?_; rw [hBd])
            refine (HRP.out w3 H3.out).mono ?_
            rintro e w4 ⟨rfl, hb⟩
            have H4 := hid (H3.out.trans (hb.mono H3.out.size))
            clear hb k1 k5 HSw
            cases b3 with
            | true =>
             have HQ := hid (show RES = 5 by rw [HRES.out, if_neg (by simp), if_pos (by simp)])
             clear HRES
             go_wp2_with fail
             go_ret
             exact ⟨by rw [HQ.out] <;> rfl, HFIN.out _ H4.out⟩
            | false =>
             have hres : RES = if fst0 (p.d.tps.map chkT) ≠ 0 then fst0 (p.d.tps.map chkT) else chkX p.d.e := by rw [HRES.out, if_neg (by simp), if_neg (by simp)]
             have HRES := hid hres
             clear hres
             obtain ⟨k5, k6, k7, k8, k9, k10, k11, k12, k13, k14, k15, k16, k17, k18, k19, k20⟩ := HC16.out w4 H4.out
             obtain ⟨w5, hw5⟩ : ∃ w5, w4.alloc (.cells #[.int .i64 p.lo.t.k, .string p.lo.t.m, .string p.lo.t.n, .slice p.lo.aa p.lo.t.A.len p.lo.ca, .slice p.lo.af p.lo.t.F.len p.lo.cf, .int .i64 p.up.t.k, .string p.up.t.m, .string p.up.t.n, .slice p.up.aa p.up.t.A.len p.up.ca, .slice p.up.af p.up.t.F.len p.up.cf, .int .i64 p.t.t.k, .string p.t.t.m, .string p.t.t.n, .slice p.t.aa p.t.t.A.len p.t.ca, .slice p.t.af p.t.t.F.len p.t.cf] 25) = w5 := ⟨_, rfl⟩
             have hb5 : Below w4.heap.size w4 w5 := by rw [← hw5]; exact (Below.refl _ w4).alloc (Nat.le_refl _) _
             have ho5 : w5.ownsRow wa.heap.size 25 5 (.slice (some ⟨w4.heap.size, 0, none⟩) 3 3) 3 ([p.lo, p.up, p.t].flatMap fun y => y.cells.toList) := by rw [← hw5]; exact World.ownsRow_lit w4 #[.int .i64 p.lo.t.k, .string p.lo.t.m, .string p.lo.t.n, .slice p.lo.aa p.lo.t.A.len p.lo.ca, .slice p.lo.af p.lo.t.F.len p.lo.cf, .int .i64 p.up.t.k, .string p.up.t.m, .string p.up.t.n, .slice p.up.aa p.up.t.A.len p.up.ca, .slice p.up.af p.up.t.F.len p.up.cf, .int .i64 p.t.t.k, .string p.t.t.m, .string p.t.t.n, .slice p.t.aa p.t.t.A.len p.t.ca, .slice p.t.af p.t.t.F.len p.t.cf] 3 H4.out.size (by unfold maxLen; omega) rfl
             have H5 := hid (H4.out.trans (hb5.mono H4.out.size))
             have HO5 := hid ho5
             have k5 := HCE.out w5 5 (.slice p.aP p.d.P.length p.cP) H5.out rfl
             clear hb5 ho5
             go_wp2_with fail
             clear hw5 k5 k6 k7 k8 k9 k10 k11 k12 k13 k14 k15 k16 k17 k18 k19 k20
             go_loopw [5, 74] (fun q a wr => ∃ (i m : Nat) (r : List Pm) (ys : List (TyI w0)) (pt : Option Addr) (ct : Nat), a = .int .i64 (i : Int) ∧ m = ys.length ∧ q = .slice pt m ct ∧ r.length + i = p.d.P.length ∧ m = 3 + i ∧ Kpt (ys.map (·.t) ++ r.map (·.t) = p.d.tps) ∧ Kpt (RowD w0 (encPm r) p.aP (i * 7)) ∧ Kpt (wr.ownsRow wa.heap.size 25 5 (.slice pt m ct) m (ys.flatMap fun y => y.cells.toList)) ∧ Kpt (Below wa.heap.size wa wr)) (fun _ a _ => p.d.P.length - (intOf a).toNat)
             case atStart => exact ⟨0, 3, p.d.P, [p.lo, p.up, p.t], _, _, rfl, rfl, rfl, by omega, rfl, ⟨by unfold Dc.tps; simp only [List.map_cons, List.map_nil, HSD.out.2.1, HSD.out.2.2.1, HSD.out.2.2.2]⟩, ⟨rowD_zero HSD.out.1⟩, HO5, H5⟩
             case round =>
              clear HO5 H5
              obtain ⟨i, m, r, ys, pt, ct, rfl, hml, rfl, hri, hm3, hys, hR, hO, hB⟩ := hrel
              cases r with
              | cons lx r' =>
               have hlt : i < p.d.P.length := by simp only [List.length_cons] at hri; omega
               obtain ⟨bf, of, y, haf, hy, hvw, ⟨d0, d1, d2, d3, d4, d5, d6⟩, hr1⟩ := rowD_pm hR.out
               have hWr := HOLD.out wr hB.out
               replace d0 := old_cell hWr d0
               replace d1 := old_cell hWr d1
               replace d2 := old_cell hWr d2
               replace d3 := old_cell hWr d3
               replace d4 := old_cell hWr d4
               replace d5 := old_cell hWr d5
               replace d6 := old_cell hWr d6
               rw [haf]
               have hri' : r'.length + (i + 1) = p.d.P.length := by simp only [List.length_cons] at hri; omega
               obtain ⟨wb, hwb⟩ : ∃ wb, wr.alloc (.cells #[.string lx.nm, .int .i64 lx.vr, .int .i64 y.t.k, .string y.t.m, .string y.t.n, .slice y.aa y.t.A.len y.ca, .slice y.af y.t.F.len y.cf] 77) = wb := ⟨_, rfl⟩
               have hbb : Below wr.heap.size wr wb := by rw [← hwb]; exact (Below.refl _ wr).alloc (Nat.le_refl _) _
               have heb : wb.heap[wr.heap.size]? = some (.cells #[.string lx.nm, .int .i64 lx.vr, .int .i64 y.t.k, .string y.t.m, .string y.t.n, .slice y.aa y.t.A.len y.ca, .slice y.af y.t.F.len y.cf] 77 (0, 0)) := by rw [← hwb]; exact World.alloc_heap_new _ _
               have g2 := cell_of_row wb _ 2 _ _ _ heb
               have g3 := cell_of_row wb _ 3 _ _ _ heb
               have g4 := cell_of_row wb _ 4 _ _ _ heb
               have g5 := cell_of_row wb _ 5 _ _ _ heb
               have g6 := cell_of_row wb _ 6 _ _ _ heb
               obtain ⟨wd, hwd⟩ : ∃ wd, wb.alloc (.cells #[.int .i64 y.t.k, .string y.t.m, .string y.t.n, .slice y.aa y.t.A.len y.ca, .slice y.af y.t.F.len y.cf] 25) = wd := ⟨_, rfl⟩
               have hbd : Below wb.heap.size wb wd := by rw [← hwd]; exact (Below.refl _ wb).alloc (Nat.le_refl _) _
               have hed : wd.heap[wb.heap.size]? = some (.cells #[.int .i64 y.t.k, .string y.t.m, .string y.t.n, .slice y.aa y.t.A.len y.ca, .slice y.af y.t.F.len y.cf] 25 (0, 0)) := by rw [← hwd]; exact World.alloc_heap_new _ _
               have hbr := hbb.trans (hbd.mono hbb.size)
               have hWs : wa.heap.size ≤ wd.heap.size := Nat.le_trans hB.out.size hbr.size
               have HO := hid (And.intro (own_belowS hO.out hbr) (And.intro (World.news_of_block hed) (hB.out.trans (hbr.mono hB.out.size))))
               have hsn : (ys ++ [y]).map (·.t) ++ r'.map (·.t) = p.d.tps := by rw [← hys.out, List.map_append, List.append_assoc]; simp [hy]
               have HQ := hid (And.intro hsn (And.intro hr1 (And.intro hri' (show m + 1 = (ys ++ [y]).length by rw [List.length_append, hml]; rfl))))
               have hm9 : m + 1 ≤ 1099511627776 := by omega
               have hm4 := hid (show m + 1 = 3 + (i + 1) by omega)
               clear hbb heb hbd hed hbr hsn hr1 hri' hri hy hvw hys hR hO hB hWr hml hm3
               go_wp2_with (at_builtin; refine wpList_append_own _ rfl _ _ 22 rfl wa.heap.size 25 i0 _ 5 88 Tryz.underlying22 hi hz0 hz1 hz2 rfl (by decide) _ _ _ rfl HO.out.1 ⟨wb.heap.size, 0, none⟩ 1 1 [.int .i64 y.t.k, .string y.t.m, .string y.t.n, .slice y.aa y.t.A.len y.ca, .slice y.af y.t.F.len y.cf] rfl rfl HO.out.2.1 (by simp [Value.oneCell']) (by unfold maxLen; omega) (by omega) hWs ?_; intro v' w6 hown3 hgrow3 _; obtain ⟨g', cap', rfl⟩ := ownsRow_succ hown3; have hgrow4 : World.grownBy _ w6 (Value.ownBlock (.slice pt m ct)) := hgrow3; have K3 := hid (And.intro hown3 hgrow4); clear hown3 hgrow3 hgrow4)
               go_roundw
               case rel => exact ⟨i + 1, m + 1, r', ys ++ [y], some ⟨g', 0, none⟩, cap', by go_num, HQ.out.2.2.2, rfl, HQ.out.2.2.1, hm4.out, ⟨HQ.out.1⟩, haf ▸ ⟨HQ.out.2.1⟩, ⟨by rw [List.flatMap_append]; exact K3.out.1⟩, ⟨Below.grown HO.out.2.2 K3.out.2 hWs (own_base HO.out.1)⟩⟩
               case measure => simp [intOf]; omega
              | nil =>
               have hi9 : i = p.d.P.length := by simp only [List.length_nil] at hri; omega
               subst hi9
               have hyt : ys.map (·.t) = p.d.tps := by have h := hys.out; simpa using h
               have hmb : m ≤ 2199023255552 := by omega
               obtain ⟨wz, hwz⟩ : ∃ wz, wz = wr := ⟨_, rfl⟩
               subst hwz
               have HN := hid (And.intro hyt (And.intro hml (And.intro hO.out hB.out)))
               clear hri hm3 hys hR hO hB hyt hml k5
               go_wp2_with fail
               go_loopw [86] (fun a wq => ∃ i : Nat, a = .int .i64 (i : Int) ∧ i ≤ m ∧ Kpt (fst0 ((ys.take i).map fun y => chkT y.t) = 0) ∧ Kpt (Below wz.heap.size wz wq)) (fun a _ => m - (intOf a).toNat)
               case atStart => exact ⟨0, rfl, Nat.zero_le _, ⟨rfl⟩, ⟨Below.refl _ _⟩⟩
               case round =>
                obtain ⟨i, rfl, hi9, hf, hB⟩ := hrel
                have HBZ := hid (HN.out.2.2.2.trans (hB.out.mono HN.out.2.2.2.size))
                by_cases hlt : i < m
                · obtain ⟨g, cap, hv, _, _⟩ := HN.out.2.2.1.form (by omega)
                  cases hv
                  obtain ⟨y, hy⟩ : ∃ y, ys[i]? = some y := ⟨_, List.getElem?_eq_getElem (by rw [← HN.out.2.1]; exact hlt)⟩
                  have hc : ∀ j u, y.cells.toList[j]? = some u → j < 5 → wr.cell? ⟨g, i * 5 + j, none⟩ = some u := fun j u hu hj => by
                   refine old_cell hB.out ?_
                   rw [HN.out.2.2.1.cellAt (i * 5 + j) (by omega)]
                   exact flat_at (fun y : TyI w0 => y.cells.toList) 5 (fun _ => rfl) ys i j y u hy hu
                  have d0 := hc 0 _ rfl (by omega)
                  have d1 := hc 1 _ rfl (by omega)
                  have d2 := hc 2 _ rfl (by omega)
                  have d3 := hc 3 _ rfl (by omega)
                  have d4 := hc 4 _ rfl (by omega)
                  have hyp : p.d.tps[i]? = some y.t := by rw [← HN.out.1, List.getElem?_map, hy]; rfl
                  have htk : (ys.take (i + 1)).map (fun y => chkT y.t) = (ys.take i).map (fun y => chkT y.t) ++ [chkT y.t] := by rw [take_snoc hy, List.map_append]; rfl
                  have hfs : fst0 ((ys.take (i + 1)).map fun y => chkT y.t) = chkT y.t := by
                   rw [htk, fst0_append, if_pos hf.out]; simp only [fst0]; split <;> simp_all
                  have hpf : (ys.take (i + 1)).map (fun y => chkT y.t) <+: p.d.tps.map chkT := by rw [← HN.out.1, List.map_map]; exact (List.take_prefix _ _).map _
                  obtain ⟨wb, hwb⟩ : ∃ wb, wr.alloc (.cells #[.int .i64 y.t.k, .string y.t.m, .string y.t.n, .slice y.aa y.t.A.len y.ca, .slice y.af y.t.F.len y.cf] 25) = wb := ⟨_, rfl⟩
                  have hbb : Below wr.heap.size wr wb := by rw [← hwb]; exact (Below.refl _ wr).alloc (Nat.le_refl _) _
                  have heb : wb.heap[wr.heap.size]? = some (.cells #[.int .i64 y.t.k, .string y.t.m, .string y.t.n, .slice y.aa y.t.A.len y.ca, .slice y.af y.t.F.len y.cf] 25 (0, 0)) := by rw [← hwb]; exact World.alloc_heap_new _ _
                  have a0 := cell_of_row wb _ 0 _ _ _ heb
                  have a1 := cell_of_row wb _ 1 _ _ _ heb
                  have a2 := cell_of_row wb _ 2 _ _ _ heb
                  have a3 := cell_of_row wb _ 3 _ _ _ heb
                  have a4 := cell_of_row wb _ 4 _ _ _ heb
                  have HBB := hid (hB.out.trans (hbb.mono hB.out.size))
                  have HC := hid (HCT.out y (HTB.out _ (List.mem_of_getElem? hyp)) wb (HBZ.out.trans (hbb.mono HBZ.out.size)))
                  have HZ := hid (And.intro hfs hpf)
                  simp only [Nat.add_zero] at d0
                  clear hc hy hyp htk hfs hpf hbb heb hf hB
                  generalize chkT y.t = er at HC HZ
                  by_cases her : er = 0
                  · subst her
                    go_wp2_with fail
                    refine HC.out.mono ?_
                    rintro e w8 ⟨rfl, hb8⟩
                    have H8 := hid (HBB.out.trans (hb8.mono HBB.out.size))
                    clear hb8
                    go_wp2_with fail
                    go_roundw
                    case rel => exact ⟨i + 1, by go_num, by omega, ⟨HZ.out.1⟩, H8⟩
                    case measure => simp [intOf]; omega
                  · have her2 : (er != 0) = true := by simp [her]
                    have hfe : fst0 (p.d.tps.map chkT) = er := by rw [fst0_prefix HZ.out.2 (by rw [HZ.out.1]; exact her), HZ.out.1]
                    have HQ := hid (show RES = er by rw [HRES.out, hfe, if_pos her])
                    clear HRES hfe
                    go_wp2_with fail
                    refine HC.out.mono ?_
                    rintro e w8 ⟨rfl, hb8⟩
                    have H8 := hid (HBB.out.trans (hb8.mono HBB.out.size))
                    clear hb8
                    go_wp2_with fail
                    go_ret
                    exact ⟨by rw [HQ.out] <;> rfl, HFIN.out _ (HN.out.2.2.2.trans (H8.out.mono HN.out.2.2.2.size))⟩
                · obtain rfl : i = m := by omega
                  have hfz : fst0 (p.d.tps.map chkT) = 0 := by
                   have h := hf.out
                   rw [List.take_of_length_le (by rw [← HN.out.2.1]; exact Nat.le_refl _)] at h
                   rw [← HN.out.1, List.map_map]; exact h
                  have HQ := hid (show RES = chkX p.d.e by rw [HRES.out, hfz, if_neg (by simp)])
                  have HC := hid (HCX.out wr HBZ.out)
                  clear HRES hfz hf hB
                  obtain ⟨k21, k22, k23, k24, k25, k26, k27, k28⟩ := HC8.out wr HBZ.out
                  go_wp2_with fail
                  refine HC.out.mono ?_
                  rintro e w8 ⟨rfl, hb8⟩
                  have H8 := hid (HBZ.out.trans (hb8.mono HBZ.out.size))
                  clear hb8
                  go_wp2_with fail
                  go_ret
                  exact ⟨by rw [HQ.out] <;> rfl, HFIN.out _ H8.out⟩
        · skip
          have HQ := hid (show RES = 7 by rw [hres, if_pos (by simp; omega)])
          clear hres
          go_wp2_with fail
          go_ret
          exact ⟨by rw [HQ.out] <;> rfl, HFIN.out _ H2.out⟩
      · skip
        have HQ := hid (show RES = 7 by rw [hres, if_pos (by simp; omega)])
        clear hres
        go_wp2_with fail
        go_ret
        exact ⟨by rw [HQ.out] <;> rfl, HFIN.out _ H2.out⟩
   | false =>
    cases nz with
    | false =>
     have HQ := hid (show RES = 1 by rw [HRES.out, if_pos (by simp)])
     clear HRES
     go_wp2_with fail
     go_ret
     exact ⟨by rw [HQ.out] <;> rfl, HFIN.out _ H2.out⟩
    | true =>
     have hres : RES = if (decide (8 < p.d.P.length) || decide (65536 < p.d.note.size)) = true then 7 else if (!dcN p.d) = true then 4 else if (decide (p.d.nm.data.toList ∈ S) || repF [] (p.d.P.map (·.nm))) = true then 5 else if fst0 (p.d.tps.map chkT) ≠ 0 then fst0 (p.d.tps.map chkT) else chkX p.d.e := by rw [HRES.out, if_neg (by simp)]
     clear HRES
     by_cases h8 : p.d.P.length ≤ 8
     · by_cases h6 : p.d.note.size ≤ 65536
       · have HRES := hid (show RES = if (!dcN p.d) = true then 4 else if (decide (p.d.nm.data.toList ∈ S) || repF [] (p.d.P.map (·.nm))) = true then 5 else if fst0 (p.d.tps.map chkT) ≠ 0 then fst0 (p.d.tps.map chkT) else chkX p.d.e by rw [hres, if_neg (by simp; omega)])
         clear hres
         generalize dcN p.d = b2 at HDN HRES
         go_wp2_with (with_reducible refine wpList_load_midG rfl 75 _ rfl W.heap.size 0 rfl pa _ (HRG.out w2 H2.out) Tryz.underlying75 rfl (by rw [HPL.out]; kernel_rfl) ?_)
         refine (HDN.out w2 H2.out).mono ?_
         rintro e w3 ⟨rfl, hb⟩
         have H3 := hid (H2.out.trans (hb.mono H2.out.size))
         clear hb
         clear k2 k3 k4 k5
         cases b2 with
         | false =>
          have HQ := hid (show RES = 4 by rw [HRES.out, if_pos (by simp)])
          clear HRES
          go_wp2_with fail
          go_ret
          exact ⟨by rw [HQ.out] <;> rfl, HFIN.out _ H3.out⟩
         | true =>
          have k1 := HCE.out w3 1 (.string p.d.nm) H3.out rfl
          have k5 := HCE.out w3 5 (.slice p.aP p.d.P.length p.cP) H3.out rfl
          obtain ⟨B, hBd⟩ : ∃ B, decide (p.d.nm.data.toList ∈ S) = B := ⟨_, rfl⟩
          rw [hBd] at HRES
          have HSw := hid (HSM.out w3 H3.out)
          cases B with
          | true =>
           have HQ := hid (show RES = 5 by rw [HRES.out, if_neg (by simp), if_pos (by simp)])
           clear HRES
           go_wp2_with (at_lookup; refine wpList_lookup_set _ rfl _ _ rfl b n S rfl HSw.out _ rfl hnm ?_; rw [hBd])
           go_ret
           exact ⟨by rw [HQ.out] <;> rfl, HFIN.out _ H3.out⟩
          | false =>
           generalize repF [] (p.d.P.map (·.nm)) = b3 at HRP HRES
           go_wp2_with (at_lookup; refine wpList_lookup_set _ rfl _ _ rfl b n S rfl HSw.out _ rfl hnm ?_; rw [hBd])
           refine (HRP.out w3 H3.out).mono ?_
           rintro e w4 ⟨rfl, hb⟩
           have H4 := hid (H3.out.trans (hb.mono H3.out.size))
           clear hb k1 k5 HSw
           cases b3 with
           | true =>
            have HQ := hid (show RES = 5 by rw [HRES.out, if_neg (by simp), if_pos (by simp)])
            clear HRES
            go_wp2_with fail
            go_ret
            exact ⟨by rw [HQ.out] <;> rfl, HFIN.out _ H4.out⟩
           | false =>
            have hres : RES = if fst0 (p.d.tps.map chkT) ≠ 0 then fst0 (p.d.tps.map chkT) else chkX p.d.e := by rw [HRES.out, if_neg (by simp), if_neg (by simp)]
            have HRES := hid hres
            clear hres
            obtain ⟨k5, k6, k7, k8, k9, k10, k11, k12, k13, k14, k15, k16, k17, k18, k19, k20⟩ := HC16.out w4 H4.out
            obtain ⟨w5, hw5⟩ : ∃ w5, w4.alloc (.cells #[.int .i64 p.lo.t.k, .string p.lo.t.m, .string p.lo.t.n, .slice p.lo.aa p.lo.t.A.len p.lo.ca, .slice p.lo.af p.lo.t.F.len p.lo.cf, .int .i64 p.up.t.k, .string p.up.t.m, .string p.up.t.n, .slice p.up.aa p.up.t.A.len p.up.ca, .slice p.up.af p.up.t.F.len p.up.cf, .int .i64 p.t.t.k, .string p.t.t.m, .string p.t.t.n, .slice p.t.aa p.t.t.A.len p.t.ca, .slice p.t.af p.t.t.F.len p.t.cf] 25) = w5 := ⟨_, rfl⟩
            have hb5 : Below w4.heap.size w4 w5 := by rw [← hw5]; exact (Below.refl _ w4).alloc (Nat.le_refl _) _
            have ho5 : w5.ownsRow wa.heap.size 25 5 (.slice (some ⟨w4.heap.size, 0, none⟩) 3 3) 3 ([p.lo, p.up, p.t].flatMap fun y => y.cells.toList) := by rw [← hw5]; exact World.ownsRow_lit w4 #[.int .i64 p.lo.t.k, .string p.lo.t.m, .string p.lo.t.n, .slice p.lo.aa p.lo.t.A.len p.lo.ca, .slice p.lo.af p.lo.t.F.len p.lo.cf, .int .i64 p.up.t.k, .string p.up.t.m, .string p.up.t.n, .slice p.up.aa p.up.t.A.len p.up.ca, .slice p.up.af p.up.t.F.len p.up.cf, .int .i64 p.t.t.k, .string p.t.t.m, .string p.t.t.n, .slice p.t.aa p.t.t.A.len p.t.ca, .slice p.t.af p.t.t.F.len p.t.cf] 3 H4.out.size (by unfold maxLen; omega) rfl
            have H5 := hid (H4.out.trans (hb5.mono H4.out.size))
            have HO5 := hid ho5
            have k5 := HCE.out w5 5 (.slice p.aP p.d.P.length p.cP) H5.out rfl
            clear hb5 ho5
            go_wp2_with fail
            clear hw5 k5 k6 k7 k8 k9 k10 k11 k12 k13 k14 k15 k16 k17 k18 k19 k20
            go_loopw [5, 74] (fun q a wr => ∃ (i m : Nat) (r : List Pm) (ys : List (TyI w0)) (pt : Option Addr) (ct : Nat), a = .int .i64 (i : Int) ∧ m = ys.length ∧ q = .slice pt m ct ∧ r.length + i = p.d.P.length ∧ m = 3 + i ∧ Kpt (ys.map (·.t) ++ r.map (·.t) = p.d.tps) ∧ Kpt (RowD w0 (encPm r) p.aP (i * 7)) ∧ Kpt (wr.ownsRow wa.heap.size 25 5 (.slice pt m ct) m (ys.flatMap fun y => y.cells.toList)) ∧ Kpt (Below wa.heap.size wa wr)) (fun _ a _ => p.d.P.length - (intOf a).toNat)
            case atStart => exact ⟨0, 3, p.d.P, [p.lo, p.up, p.t], _, _, rfl, rfl, rfl, by omega, rfl, ⟨by unfold Dc.tps; simp only [List.map_cons, List.map_nil, HSD.out.2.1, HSD.out.2.2.1, HSD.out.2.2.2]⟩, ⟨rowD_zero HSD.out.1⟩, HO5, H5⟩
            case round =>
             clear HO5 H5
             obtain ⟨i, m, r, ys, pt, ct, rfl, hml, rfl, hri, hm3, hys, hR, hO, hB⟩ := hrel
             cases r with
             | cons lx r' =>
              have hlt : i < p.d.P.length := by simp only [List.length_cons] at hri; omega
              obtain ⟨bf, of, y, haf, hy, hvw, ⟨d0, d1, d2, d3, d4, d5, d6⟩, hr1⟩ := rowD_pm hR.out
              have hWr := HOLD.out wr hB.out
              replace d0 := old_cell hWr d0
              replace d1 := old_cell hWr d1
              replace d2 := old_cell hWr d2
              replace d3 := old_cell hWr d3
              replace d4 := old_cell hWr d4
              replace d5 := old_cell hWr d5
              replace d6 := old_cell hWr d6
              rw [haf]
              have hri' : r'.length + (i + 1) = p.d.P.length := by simp only [List.length_cons] at hri; omega
              obtain ⟨wb, hwb⟩ : ∃ wb, wr.alloc (.cells #[.string lx.nm, .int .i64 lx.vr, .int .i64 y.t.k, .string y.t.m, .string y.t.n, .slice y.aa y.t.A.len y.ca, .slice y.af y.t.F.len y.cf] 77) = wb := ⟨_, rfl⟩
              have hbb : Below wr.heap.size wr wb := by rw [← hwb]; exact (Below.refl _ wr).alloc (Nat.le_refl _) _
              have heb : wb.heap[wr.heap.size]? = some (.cells #[.string lx.nm, .int .i64 lx.vr, .int .i64 y.t.k, .string y.t.m, .string y.t.n, .slice y.aa y.t.A.len y.ca, .slice y.af y.t.F.len y.cf] 77 (0, 0)) := by rw [← hwb]; exact World.alloc_heap_new _ _
              have g2 := cell_of_row wb _ 2 _ _ _ heb
              have g3 := cell_of_row wb _ 3 _ _ _ heb
              have g4 := cell_of_row wb _ 4 _ _ _ heb
              have g5 := cell_of_row wb _ 5 _ _ _ heb
              have g6 := cell_of_row wb _ 6 _ _ _ heb
              obtain ⟨wd, hwd⟩ : ∃ wd, wb.alloc (.cells #[.int .i64 y.t.k, .string y.t.m, .string y.t.n, .slice y.aa y.t.A.len y.ca, .slice y.af y.t.F.len y.cf] 25) = wd := ⟨_, rfl⟩
              have hbd : Below wb.heap.size wb wd := by rw [← hwd]; exact (Below.refl _ wb).alloc (Nat.le_refl _) _
              have hed : wd.heap[wb.heap.size]? = some (.cells #[.int .i64 y.t.k, .string y.t.m, .string y.t.n, .slice y.aa y.t.A.len y.ca, .slice y.af y.t.F.len y.cf] 25 (0, 0)) := by rw [← hwd]; exact World.alloc_heap_new _ _
              have hbr := hbb.trans (hbd.mono hbb.size)
              have hWs : wa.heap.size ≤ wd.heap.size := Nat.le_trans hB.out.size hbr.size
              have HO := hid (And.intro (own_belowS hO.out hbr) (And.intro (World.news_of_block hed) (hB.out.trans (hbr.mono hB.out.size))))
              have hsn : (ys ++ [y]).map (·.t) ++ r'.map (·.t) = p.d.tps := by rw [← hys.out, List.map_append, List.append_assoc]; simp [hy]
              have HQ := hid (And.intro hsn (And.intro hr1 (And.intro hri' (show m + 1 = (ys ++ [y]).length by rw [List.length_append, hml]; rfl))))
              have hm9 : m + 1 ≤ 1099511627776 := by omega
              have hm4 := hid (show m + 1 = 3 + (i + 1) by omega)
              clear hbb heb hbd hed hbr hsn hr1 hri' hri hy hvw hys hR hO hB hWr hml hm3
              go_wp2_with (at_builtin; refine wpList_append_own _ rfl _ _ 22 rfl wa.heap.size 25 i0 _ 5 88 Tryz.underlying22 hi hz0 hz1 hz2 rfl (by decide) _ _ _ rfl HO.out.1 ⟨wb.heap.size, 0, none⟩ 1 1 [.int .i64 y.t.k, .string y.t.m, .string y.t.n, .slice y.aa y.t.A.len y.ca, .slice y.af y.t.F.len y.cf] rfl rfl HO.out.2.1 (by simp [Value.oneCell']) (by unfold maxLen; omega) (by omega) hWs ?_; intro v' w6 hown3 hgrow3 _; obtain ⟨g', cap', rfl⟩ := ownsRow_succ hown3; have hgrow4 : World.grownBy _ w6 (Value.ownBlock (.slice pt m ct)) := hgrow3; have K3 := hid (And.intro hown3 hgrow4); clear hown3 hgrow3 hgrow4)
              go_roundw
              case rel => exact ⟨i + 1, m + 1, r', ys ++ [y], some ⟨g', 0, none⟩, cap', by go_num, HQ.out.2.2.2, rfl, HQ.out.2.2.1, hm4.out, ⟨HQ.out.1⟩, haf ▸ ⟨HQ.out.2.1⟩, ⟨by rw [List.flatMap_append]; exact K3.out.1⟩, ⟨Below.grown HO.out.2.2 K3.out.2 hWs (own_base HO.out.1)⟩⟩
              case measure => simp [intOf]; omega
             | nil =>
              have hi9 : i = p.d.P.length := by simp only [List.length_nil] at hri; omega
              subst hi9
              have hyt : ys.map (·.t) = p.d.tps := by have h := hys.out; simpa using h
              have hmb : m ≤ 2199023255552 := by omega
              obtain ⟨wz, hwz⟩ : ∃ wz, wz = wr := ⟨_, rfl⟩
              subst hwz
              have HN := hid (And.intro hyt (And.intro hml (And.intro hO.out hB.out)))
              clear hri hm3 hys hR hO hB hyt hml k5
              go_wp2_with fail
              go_loopw [86] (fun a wq => ∃ i : Nat, a = .int .i64 (i : Int) ∧ i ≤ m ∧ Kpt (fst0 ((ys.take i).map fun y => chkT y.t) = 0) ∧ Kpt (Below wz.heap.size wz wq)) (fun a _ => m - (intOf a).toNat)
              case atStart => exact ⟨0, rfl, Nat.zero_le _, ⟨rfl⟩, ⟨Below.refl _ _⟩⟩
              case round =>
               obtain ⟨i, rfl, hi9, hf, hB⟩ := hrel
               have HBZ := hid (HN.out.2.2.2.trans (hB.out.mono HN.out.2.2.2.size))
               by_cases hlt : i < m
               · obtain ⟨g, cap, hv, _, _⟩ := HN.out.2.2.1.form (by omega)
                 cases hv
                 obtain ⟨y, hy⟩ : ∃ y, ys[i]? = some y := ⟨_, List.getElem?_eq_getElem (by rw [← HN.out.2.1]; exact hlt)⟩
                 have hc : ∀ j u, y.cells.toList[j]? = some u → j < 5 → wr.cell? ⟨g, i * 5 + j, none⟩ = some u := fun j u hu hj => by
                  refine old_cell hB.out ?_
                  rw [HN.out.2.2.1.cellAt (i * 5 + j) (by omega)]
                  exact flat_at (fun y : TyI w0 => y.cells.toList) 5 (fun _ => rfl) ys i j y u hy hu
                 have d0 := hc 0 _ rfl (by omega)
                 have d1 := hc 1 _ rfl (by omega)
                 have d2 := hc 2 _ rfl (by omega)
                 have d3 := hc 3 _ rfl (by omega)
                 have d4 := hc 4 _ rfl (by omega)
                 have hyp : p.d.tps[i]? = some y.t := by rw [← HN.out.1, List.getElem?_map, hy]; rfl
                 have htk : (ys.take (i + 1)).map (fun y => chkT y.t) = (ys.take i).map (fun y => chkT y.t) ++ [chkT y.t] := by rw [take_snoc hy, List.map_append]; rfl
                 have hfs : fst0 ((ys.take (i + 1)).map fun y => chkT y.t) = chkT y.t := by
                  rw [htk, fst0_append, if_pos hf.out]; simp only [fst0]; split <;> simp_all
                 have hpf : (ys.take (i + 1)).map (fun y => chkT y.t) <+: p.d.tps.map chkT := by rw [← HN.out.1, List.map_map]; exact (List.take_prefix _ _).map _
                 obtain ⟨wb, hwb⟩ : ∃ wb, wr.alloc (.cells #[.int .i64 y.t.k, .string y.t.m, .string y.t.n, .slice y.aa y.t.A.len y.ca, .slice y.af y.t.F.len y.cf] 25) = wb := ⟨_, rfl⟩
                 have hbb : Below wr.heap.size wr wb := by rw [← hwb]; exact (Below.refl _ wr).alloc (Nat.le_refl _) _
                 have heb : wb.heap[wr.heap.size]? = some (.cells #[.int .i64 y.t.k, .string y.t.m, .string y.t.n, .slice y.aa y.t.A.len y.ca, .slice y.af y.t.F.len y.cf] 25 (0, 0)) := by rw [← hwb]; exact World.alloc_heap_new _ _
                 have a0 := cell_of_row wb _ 0 _ _ _ heb
                 have a1 := cell_of_row wb _ 1 _ _ _ heb
                 have a2 := cell_of_row wb _ 2 _ _ _ heb
                 have a3 := cell_of_row wb _ 3 _ _ _ heb
                 have a4 := cell_of_row wb _ 4 _ _ _ heb
                 have HBB := hid (hB.out.trans (hbb.mono hB.out.size))
                 have HC := hid (HCT.out y (HTB.out _ (List.mem_of_getElem? hyp)) wb (HBZ.out.trans (hbb.mono HBZ.out.size)))
                 have HZ := hid (And.intro hfs hpf)
                 simp only [Nat.add_zero] at d0
                 clear hc hy hyp htk hfs hpf hbb heb hf hB
                 generalize chkT y.t = er at HC HZ
                 by_cases her : er = 0
                 · subst her
                   go_wp2_with fail
                   refine HC.out.mono ?_
                   rintro e w8 ⟨rfl, hb8⟩
                   have H8 := hid (HBB.out.trans (hb8.mono HBB.out.size))
                   clear hb8
                   go_wp2_with fail
                   go_roundw
                   case rel => exact ⟨i + 1, by go_num, by omega, ⟨HZ.out.1⟩, H8⟩
                   case measure => simp [intOf]; omega
                 · have her2 : (er != 0) = true := by simp [her]
                   have hfe : fst0 (p.d.tps.map chkT) = er := by rw [fst0_prefix HZ.out.2 (by rw [HZ.out.1]; exact her), HZ.out.1]
                   have HQ := hid (show RES = er by rw [HRES.out, hfe, if_pos her])
                   clear HRES hfe
                   go_wp2_with fail
                   refine HC.out.mono ?_
                   rintro e w8 ⟨rfl, hb8⟩
                   have H8 := hid (HBB.out.trans (hb8.mono HBB.out.size))
                   clear hb8
                   go_wp2_with fail
                   go_ret
                   exact ⟨by rw [HQ.out] <;> rfl, HFIN.out _ (HN.out.2.2.2.trans (H8.out.mono HN.out.2.2.2.size))⟩
               · obtain rfl : i = m := by omega
                 have hfz : fst0 (p.d.tps.map chkT) = 0 := by
                  have h := hf.out
                  rw [List.take_of_length_le (by rw [← HN.out.2.1]; exact Nat.le_refl _)] at h
                  rw [← HN.out.1, List.map_map]; exact h
                 have HQ := hid (show RES = chkX p.d.e by rw [HRES.out, hfz, if_neg (by simp)])
                 have HC := hid (HCX.out wr HBZ.out)
                 clear HRES hfz hf hB
                 obtain ⟨k21, k22, k23, k24, k25, k26, k27, k28⟩ := HC8.out wr HBZ.out
                 go_wp2_with fail
                 refine HC.out.mono ?_
                 rintro e w8 ⟨rfl, hb8⟩
                 have H8 := hid (HBZ.out.trans (hb8.mono HBZ.out.size))
                 clear hb8
                 go_wp2_with fail
                 go_ret
                 exact ⟨by rw [HQ.out] <;> rfl, HFIN.out _ H8.out⟩
       · skip
         have HQ := hid (show RES = 7 by rw [hres, if_pos (by simp; omega)])
         clear hres
         go_wp2_with fail
         go_ret
         exact ⟨by rw [HQ.out] <;> rfl, HFIN.out _ H2.out⟩
     · skip
       have HQ := hid (show RES = 7 by rw [hres, if_pos (by simp; omega)])
       clear hres
       go_wp2_with fail
       go_ret
       exact ⟨by rw [HQ.out] <;> rfl, HFIN.out _ H2.out⟩
end Go.Proofs.YtnkhebgjhipepaaGreatDoor

namespace Go.Proofs.YtnkhebgjhipepaaGreatDoor
open Go.RowKit Go.Shelf
attribute [local go_sem] Oper.semAt_some

theorem Dc.bk_mem : ∀ (L : List Dc) (d : Dc), d ∈ L → (encDc [d]).bk ≤ (encDc L).bk := by
 intro L
 induction L with
 | nil => intro d hd; cases hd
 | cons x r ih =>
  intro d hd
  have h0 : (encDc []).bk = 0 := rfl
  have h1 := encDc_bk x r
  have h2 := encDc_bk x []
  rcases List.mem_cons.1 hd with rfl | hd
  · omega
  · have := ih d hd; omega
/-- The first error of some declarations, behind those whose names are in S, and its index. -/
def decF : Nat → List (List UInt8) → List Dc → Int × Int
 | _, _, [] => (0, 0)
 | i, S, d :: r => if chkD d S ≠ 0 then ((i : Int), chkD d S) else decF (i + 1) (S ++ [d.nm.data.toList]) r
set_option maxRecDepth 100000 in
set_option maxHeartbeats 16000000 in
theorem checkmodule_of {w0 : World} (x : MdI w0) (hd : Int) (hbig : x.m.bk ≤ 1099511627776) (W : World) (hW : Below w0.heap.size w0 W) (hE : Env W)
 (hhead : ∀ w, Below W.heap.size W w → Calls Tryz.prog 59 #[.agg #[.string x.m.p, .slice x.aI x.m.I.length x.cI, .slice x.aD x.m.D.length x.cD]] w fun e w' => e = .returned (.int .i64 hd) ∧ Below w.heap.size w w') :
 Calls Tryz.prog 21 #[.agg #[.string x.m.p, .slice x.aI x.m.I.length x.cI, .slice x.aD x.m.D.length x.cD]] W fun e W' => e = .returned (.tuple #[.int .i64 (if hd ≠ 0 then (-1, hd) else decF 0 [] x.m.D).1, .int .i64 (if hd ≠ 0 then (-1, hd) else decF 0 [] x.m.D).2]) ∧ Below W.heap.size W W' := by
 have hbk := x.m.bk_eq
 have hlD : x.m.D.length ≤ 1099511627776 := by have := Dc.len_bk x.m.D; omega
 obtain ⟨wa, hwa⟩ : ∃ wa, W.alloc (.cells #[.string x.m.p, .slice x.aI x.m.I.length x.cI, .slice x.aD x.m.D.length x.cD] 33) = wa := ⟨_, rfl⟩
 have hba : Below W.heap.size W wa := by rw [← hwa]; exact (Below.refl _ W).alloc (Nat.le_refl _) _
 have hea : wa.heap[W.heap.size]? = some (.cells #[.string x.m.p, .slice x.aI x.m.I.length x.cI, .slice x.aD x.m.D.length x.cD] 33 (0, 0)) := by rw [← hwa]; exact World.alloc_heap_new _ _
 have hlt0 := (Array.getElem?_eq_some_iff.1 hea).1
 have k0 := cell_of_row wa _ 0 _ _ _ hea
 have k1 := cell_of_row wa _ 1 _ _ _ hea
 have k2 := cell_of_row wa _ 2 _ _ _ hea
 have HH := hid (hhead wa hba)
 have HB := hid (And.intro hba hea)
 have HOLD : Kpt (∀ w, Below wa.heap.size wa w → Below w0.heap.size w0 w) := hid fun w hb => hW.trans ((hba.trans (hb.mono hba.size)).mono hW.size)
 have HEW : Kpt (∀ w, Below wa.heap.size wa w → Env w) := hid fun w hb => hE.below (hba.trans (hb.mono hba.size))
 have HFIN : Kpt (∀ w, Below wa.heap.size wa w → Below W.heap.size W w) := hid fun w hb => hba.trans (hb.mono hba.size)
 have HDB : Kpt (∀ d ∈ x.m.D, (encDc [d]).bk ≤ 1099511627776) := hid fun d hd => by have := Dc.bk_mem _ d hd; omega
 have HXD := hid x.hD
 obtain ⟨RES, hres⟩ : ∃ RES, (if hd ≠ 0 then (-1, hd) else decF 0 [] x.m.D) = RES := ⟨_, rfl⟩
 rw [hres]
 have HRES := hid hres.symm
 have hmm := @run_makeMap Tryz.prog
 clear hba hea hW hE hhead hres hbk
 go_enter Tryz.func21, Tryz.ntmps21
 go_wp2_with fail
 refine HH.out.mono ?_
 rintro e w1 ⟨rfl, hb⟩
 have H1 := hid hb
 have k22 := old_cell hb k2
 clear hb hwa k0 k1 k2
 by_cases hz : hd = 0
 · subst hz
   have HR := hid (show RES = decF 0 [] x.m.D by rw [HRES.out, if_neg (by simp)])
   clear HRES
   obtain ⟨wm, hwm⟩ : ∃ wm, w1.alloc (.map #[] 0) = wm := ⟨_, rfl⟩
   have hbm : Below w1.heap.size w1 wm := by rw [← hwm]; exact (Below.refl _ w1).alloc (Nat.le_refl _) _
   have hsm : SetM wm w1.heap.size 0 [] := by rw [← hwm]; exact SetM.made w1
   have hlm : w1.heap.size < wm.heap.size := by rw [← hwm]; simp
   have k2 := old_cell hbm k22
   have HM := hid (And.intro (H1.out.trans (hbm.mono H1.out.size)) (And.intro hsm hlm))
   have hw1 := H1.out.size
   clear hbm hsm hlm k22
   go_wp2_with fail
   clear hmm
   go_loopw [18] (fun a wr => ∃ (i : Nat) (r : List Dc) (S : List (List UInt8)), a = .int .i64 (i : Int) ∧ r.length + i = x.m.D.length ∧ Kpt (decF i S r = decF 0 [] x.m.D) ∧ Kpt (∀ d ∈ r, d ∈ x.m.D) ∧ Kpt (RowD w0 (encDc r) x.aD (i * 31)) ∧ Kpt (SetM wr w1.heap.size i S) ∧ Kpt (Below wa.heap.size wa wr) ∧ w1.heap.size < wr.heap.size) (fun a _ => x.m.D.length - (intOf a).toNat)
   case atStart => exact ⟨0, x.m.D, [], rfl, by omega, ⟨rfl⟩, ⟨fun _ h => h⟩, ⟨rowD_zero HXD.out⟩, ⟨HM.out.2.1⟩, ⟨HM.out.1⟩, HM.out.2.2⟩
   case round =>
    clear HM hwm k2
    obtain ⟨i, r, S, rfl, hri, hdf, hmem, hR, hM, hB, hwl⟩ := hrel
    cases r with
    | nil =>
     have hi9 : i = x.m.D.length := by simp only [List.length_nil] at hri; omega
     subst hi9
     have HZ := hid (show RES = (0, 0) by rw [HR.out, ← hdf.out]; rfl)
     have HBZ := hid (HFIN.out wr hB.out)
     clear hri hdf hmem hR hM hB HR hwl
     go_wp2_with fail
     go_ret2
     exact ⟨by rw [HZ.out] <;> rfl, HBZ.out⟩
    | cons dx r' =>
     have hlt : i < x.m.D.length := by simp only [List.length_cons] at hri; omega
     obtain ⟨bd, od, q, haD, hq, hrg, hr1⟩ := rowD_dcR hR.out
     subst hq
     have hrg2 := rangeAt_old (HOLD.out wr hB.out) hrg
     have hpl := q.size
     have hpo := q.one
     obtain ⟨pa, hpa⟩ : ∃ l, q.cells.toList = l := ⟨_, rfl⟩
     have hpc : q.cells = pa.toArray := by rw [← hpa, Array.toArray_toList]
     rw [haD]
     have hri' : r'.length + (i + 1) = x.m.D.length := by simp only [List.length_cons] at hri; omega
     have hqb := HDB.out q.d (hmem.out q.d List.mem_cons_self)
     have hnm : q.d.nm.size ≤ maxLen := by have h := encDc_bk q.d []; unfold maxLen; omega
     obtain ⟨wb, hwb⟩ : ∃ wb, wr.alloc (.cells pa.toArray 75) = wb := ⟨_, rfl⟩
     have hbb : Below wr.heap.size wr wb := by rw [← hwb]; exact (Below.refl _ wr).alloc (Nat.le_refl _) _
     have heb : wb.heap[wr.heap.size]? = some (.cells pa.toArray 75 (0, 0)) := by rw [← hwb]; exact World.alloc_heap_new _ _
     have hblt := (Array.getElem?_eq_some_iff.1 heb).1
     have hrb : wb.rangeAt wr.heap.size 0 pa := fun j v hv => by rw [Nat.zero_add, cell_of_row wb _ j _ _ _ heb]; simpa using hv
     have HBB := hid (hB.out.trans (hbb.mono hB.out.size))
     have HSB := hid (hM.out.below hwl hbb)
     have hwlb : w1.heap.size < wb.heap.size := Nat.lt_of_lt_of_le hwl hbb.size
     have HCD := hid (show Calls Tryz.prog 60 #[.agg pa.toArray, .map (some w1.heap.size)] wb _ from by rw [← hpc]; exact checkdecl_any q hqb wb (HOLD.out wb HBB.out) (HEW.out wb HBB.out) w1.heap.size i S HSB.out)
     have g1 : ∀ w, Below wb.heap.size wb w → w.cell? ⟨wr.heap.size, 1, none⟩ = some (.string q.d.nm) := fun w hb => (cell_of_row w _ 1 _ _ _ ((hb.block _ hblt).trans heb)).trans (by rw [← hpc]; rfl)
     have HG1 := hid g1
     rw [hpa] at hrg2 hpl
     rw [hpc] at hpo
     have HPL := hid (hpl : pa.length = 31)
     have HPZ := hid (show 31 = pa.toArray.size by simp [HPL.out])
     have HPO := hid (hpo : pa.toArray.all (·.oneCell') = true)
     have HC := hid hrg2
     have HRB := hid hrb
     have HWB := hid hwb
     have hdr : decF 0 [] x.m.D = if chkD q.d S ≠ 0 then ((i : Int), chkD q.d S) else decF (i + 1) (S ++ [q.d.nm.data.toList]) r' := by rw [← hdf.out]; rfl
     have HQ := hid (And.intro hr1 (And.intro hri' (And.intro hdr (fun l hl' => hmem.out l (List.mem_cons_of_mem _ hl')))))
     clear hpl hpo hrg hrg2 hpa hpc hrb hdr hr1 hri' hri hdf hR hM hB hwl hmem heb hbb hblt g1 hqb hwb
     generalize chkD q.d S = er at HCD HQ
     go_wp2_with (first
      | (with_reducible refine wpList_load_midG rfl 75 _ rfl bd (od + i * 31) rfl pa _ HC.out Tryz.underlying75 rfl (by rw [HPL.out]; kernel_rfl) ?_)
      | (with_reducible refine wpList_load_midG rfl 75 _ rfl wr.heap.size 0 rfl pa _ HRB.out Tryz.underlying75 rfl (by rw [HPL.out]; kernel_rfl) ?_)
      | (with_reducible refine wpList_run_alloc rfl 75 rfl ZDc (by kernel_rfl) ?_)
      | (with_reducible refine wpList_store_fresh rfl 75 _ _ rfl wr.heap.size rfl pa.toArray rfl rfl 75 _ (by rw [← HPZ.out]; kernel_rfl) (ZDc_size.trans HPZ.out) HPO.out HWB.out ?_))
     refine HCD.out.mono ?_
     rintro e w3 ⟨rfl, hb3⟩
     have H3 := hid (HBB.out.trans (hb3.mono HBB.out.size))
     have k1 := HG1.out w3 hb3
     have HS3 := hid (HSB.out.below hwlb hb3)
     have hwl3 : w1.heap.size < w3.heap.size := Nat.lt_of_lt_of_le hwlb hb3.size
     clear hb3
     by_cases her : er = 0
     · subst her
       have hil : i < maxLen := by unfold maxLen; omega
       have hdn : decF (i + 1) (S ++ [q.d.nm.data.toList]) r' = decF 0 [] x.m.D := by rw [HQ.out.2.2.1, if_neg (by simp)]
       have HDN := hid hdn
       clear hdn
       go_wp2_with (at_mapUpdate; refine wpList_update_set _ rfl _ _ _ rfl w1.heap.size i S rfl HS3.out hil _ rfl hnm rfl ?_; intro w5 hown1 hgrow1; have hO1 := hid (And.intro hown1 hgrow1); clear hown1 hgrow1)
       go_roundw
       case rel =>
        have hg := hO1.out.2
        have hbw : Below wa.heap.size w3 w5 := (RowKit.Below.refl _ w3).grown hg H3.out.size (fun k e => by cases e; exact hw1)
        exact ⟨i + 1, r', S ++ [q.d.nm.data.toList], by go_num, HQ.out.2.1, ⟨HDN.out⟩, ⟨HQ.out.2.2.2⟩, haD ▸ ⟨HQ.out.1⟩, ⟨hO1.out.1⟩, ⟨H3.out.trans hbw⟩, Nat.lt_of_lt_of_le hwl3 hg.size⟩
       case measure => simp [intOf]; omega
     · have her2 : (er != 0) = true := by simp [her]
       have HZ := hid (show RES = ((i : Int), er) by rw [HR.out, HQ.out.2.2.1, if_pos her])
       clear HR HQ
       go_wp2_with fail
       go_ret2
       exact ⟨by rw [HZ.out] <;> rfl, HFIN.out w3 H3.out⟩
 · have hz2 : (hd != 0) = true := by simp [hz]
   have HZ := hid (show RES = (-1, hd) by rw [HRES.out, if_pos hz])
   clear HRES
   go_wp2_with fail
   go_ret2
   exact ⟨by rw [HZ.out] <;> rfl, HFIN.out w1 H1.out⟩
end Go.Proofs.YtnkhebgjhipepaaGreatDoor

namespace Go.Proofs.YtnkhebgjhipepaaGreatDoor
open Go.RowKit Go.Shelf

section
variable {P : Program} {ops : Array Oper} {Q : Exit → Act → World → Prop} {md : Region.Mode}
/-- As wpAny_flow, where edges that do not bind may lead forward. -/
theorem wpAny_flow2 {n : Nat} {Fact : Nat → Value → World → Prop} {Fx : Act → Prop} {G : World → Prop} {Rel : Array Bool → Act → World → Prop} (hn : ops.size = n + 1)
 (hback : ∀ (i : Nat) (o : Oper), ops[i]? = some o → ∀ e ∈ o.after, Region.binds md e = true → e.on < i) (hlast : ∀ i, i < n → Region.waitsFor md ops n i = true)
 (hstep : ∀ i, i < n → ∀ listed a w, listed.size = n + 1 → listed.getD i true = false → Rel listed a w → Fx a → G w → (∀ j, Region.waitsFor md ops i j = true → Fact j (slotV ops j a) w) →
  wpOp P ops Q i (fun a' w' => Fx a' ∧ G w' ∧ Fact i (slotV ops i a') w' ∧ (∀ j, j < n → j ≠ i → slotV ops j a' = slotV ops j a) ∧ (∀ j v, Fact j v w → Fact j v w') ∧ Rel (listed.setIfInBounds i true) a' w') a w)
 (hend : ∀ listed a w, (∀ i, i < n → listed.getD i false = true) → Rel listed a w → Fx a → G w → (∀ i, i < n → Fact i (slotV ops i a) w) → wpOp P ops Q n (Q .normal) a w) :
 ∀ (f : Nat) (listed : Array Bool) (a : Act) (w : World), FlowInv ops n Fact Fx G Rel listed a w → unl n listed ≤ f → wpAny P md ops Q f listed a w := by
 intro f
 induction f with
 | zero =>
  intro listed a w inv hu
  have h1 : n ∈ (List.range (n + 1)).filter fun j => !listed.getD j true := List.mem_filter.2 ⟨List.mem_range.2 (by omega), by rw [inv.last]; rfl⟩
  have h2 : (List.range (n + 1)).filter (fun j => !listed.getD j true) = [] := List.eq_nil_of_length_eq_zero (by unfold unl at hu; omega)
  rw [h2] at h1
  cases h1
 | succ f ih =>
  intro listed a w inv hu
  refine ⟨fun h0 => ?_, fun i hi => ?_⟩
  · obtain ⟨i, h1, h2, h3⟩ := least_false (fun j => listed.getD j true) n inv.last
    have hio : ops[i]? = some ops[i] := Array.getElem?_eq_getElem (by omega)
    have hr : i ∈ Region.ready md ops listed := mem_ready.2 ⟨h2, _, hio, fun e he hbd => by
     have h4 := hback i _ hio e he hbd
     have h5 := h3 e.on h4
     rw [← getD_in (by rw [inv.size]; omega)]; exact h5⟩
    rw [h0] at hr
    cases hr
  · obtain ⟨hun, o, ho, hall⟩ := mem_ready.1 hi
    have hin : i < n + 1 := by rw [← hn]; exact (Array.getElem?_eq_some_iff.1 ho).1
    have hw : ∀ j, Region.waitsFor md ops i j = true → j < n ∧ listed.getD j false = true := fun j hj => by
     obtain ⟨oj, hoj, e, he, hb, hon⟩ := Region.waitsFor_spec hj
     rw [ho] at hoj
     cases hoj
     have h4 := hback i _ ho e he hb
     rw [hon] at h4
     have h5 := hall e he hb
     rw [hon] at h5
     exact ⟨by omega, h5⟩
    by_cases hlt : i < n
    · refine wpOp_mono (fun a' w' h => ?_) (hstep i hlt listed a w inv.size hun inv.rel inv.fx inv.g fun j hj => inv.facts j (hw j hj).1 (hw j hj).2)
      obtain ⟨h1, h2, h3, h4, h5, h6⟩ := h
      refine ih _ a' w' ⟨by simpa using inv.size, by rw [getD_set_ne true (by omega)]; exact inv.last, h1, h2, h6, fun j hj hl => ?_⟩ ?_
      · by_cases hji : j = i
        · subst hji; exact h3
        · rw [getD_set_ne false (fun e => hji e.symm)] at hl
          rw [h4 j hj hji]
          exact h5 j _ (inv.facts j hj hl)
      · have hlt2 : unl n (listed.setIfInBounds i true) < unl n listed := by
         refine filter_lt (fun x hx => ?_) (List.mem_range.2 hin) (by rw [hun]; rfl) ?_
         · by_cases hxi : x = i
           · subst hxi; rw [hun]; rfl
           · rwa [getD_set_ne true (fun e => hxi e.symm)] at hx
         · have : i < listed.size := by rw [inv.size]; exact hin
           simp [this]
        omega
    · obtain rfl : i = n := by omega
      have hallf : ∀ j, j < i → Fact j (slotV ops j a) w := fun j hj => inv.facts j hj (hw j (hlast j hj)).2
      refine wpOp_mono (fun a' w' h => ?_) (hend listed a w (fun j hj => (hw j (hlast j hj)).2) inv.rel inv.fx inv.g hallf)
      have hr : Region.ready md ops (listed.setIfInBounds i true) = [] := by
       refine List.eq_nil_iff_forall_not_mem.2 fun j hj => ?_
       obtain ⟨hju, oj, hoj, _⟩ := mem_ready.1 hj
       have hjn : j < i + 1 := by rw [← hn]; exact (Array.getElem?_eq_some_iff.1 hoj).1
       by_cases hji : j = i
       · subst hji
         have : j < listed.size := by rw [inv.size]; exact hin
         simp [this] at hju
       · rw [getD_set_ne true (fun e => hji e.symm)] at hju
         have h6 := (hw j (hlast j (by omega))).2
         rw [getD_in (by rw [inv.size]; omega), h6] at hju
         cases hju
      cases f with
      | zero => exact ⟨hr, h⟩
      | succ f => exact ⟨fun _ => h, fun j hj => by rw [hr] at hj; cases hj⟩
def backB2 (md : Region.Mode) (ops : Array Oper) : Bool := (List.range ops.size).all fun i => match ops[i]? with
 | some o => o.after.toList.all fun e => !Region.binds md e || decide (e.on < i)
 | none => true
theorem flow_back2_of (h : backB2 md ops = true) : ∀ (i : Nat) (o : Oper), ops[i]? = some o → ∀ e ∈ o.after, Region.binds md e = true → e.on < i := by
 intro i o ho e he hb
 have hi : i < ops.size := (Array.getElem?_eq_some_iff.1 ho).1
 have h1 := List.all_eq_true.1 h i (List.mem_range.2 hi)
 simp only [ho] at h1
 have h2 := List.all_eq_true.1 h1 e (by simpa using he)
 rw [hb] at h2
 exact of_decide_eq_true (by simpa using h2)
end
theorem wpList_lookup_setG {ops : Array Oper} {rest : List Oper} {o : Oper} {a : Act} {Q : Exit → Act → World → Prop} (w : World) (hw : Region.wanted o (yielded ops a.tmps) = true) (m x : Operand) (hop : o.op = Op.lookup 85 m x false) (b n : Nat) (S : List (List UInt8))
 (hm : a.eval m = .map (some b)) (hown : SetM w b n S) (s : ByteArray) (hx : a.eval x = .string s) (hs : s.size ≤ maxLen)
 (hK : wpList Tryz.prog ops Q rest (a.put o.dst (.bool (decide (s.data.toList ∈ S)))) w) : wpList Tryz.prog ops Q (o :: rest) a w := by
 refine BigFrame.wpList_want hw fun K' hK' => ?_
 have hrun := hown.look hs
 unfold Oper.wp
 simp [execOp, hop, hm, hx, hrun, Result.andThen]
 exact hK' _ _ hK
attribute [local go_sem] Oper.semAt_some

def impF (p : ByteArray) : List (List UInt8) → List (List UInt8) → List Im → Int
 | _, _, [] => 0
 | S, A, x :: r => if (!pathB x.p.data.toList || !nmB x.a) = true then 4 else if x.p = p then 14 else if (decide (x.p.data.toList ∈ S) || decide (x.a.data.toList ∈ A)) = true then 5 else impF p (S ++ [x.p.data.toList]) (A ++ [x.a.data.toList]) r
def chkH (m : Md) : Int := if (!pathB m.p.data.toList) = true then 4 else if (decide (16 < m.I.length) || decide (64 < m.D.length) || decide (4096 < m.size)) = true then 7 else impF m.p [] [] m.I
theorem Im.bk_mem : ∀ (L : List Im) (l : Im), l ∈ L → l.p.size + l.a.size ≤ (encIm L).bk := by
 intro L
 induction L with
 | nil => intro l hl; cases hl
 | cons x r ih =>
  intro l hl
  simp only [encIm, Dt.bk]
  rcases List.mem_cons.1 hl with rfl | hl
  · omega
  · have := ih l hl; omega
/-- The frame while the two sets are written. -/
def FxH (v0 v1 v2 v3 v4 v5 v6 v7 v8 v9 v10 v11 v12 v13 v14 v15 v16 v17 v18 v19 v20 v21 v22 v23 v24 v25 v26 v27 v28 v29 v30 v31 v32 v33 v34 v35 v36 v37 v38 v39 v40 v41 v42 v43 v44 v45 v46 v47 v48 v49 v50 v51 v52 v53 v54 v55 v56 v57 v58 v59 v60 v61 v62 v69 : Value) (a : Act) : Prop := ∃ u63 u64 u65 u66 u67 u68, a = { tmps := #[v0, v1, v2, v3, v4, v5, v6, v7, v8, v9, v10, v11, v12, v13, v14, v15, v16, v17, v18, v19, v20, v21, v22, v23, v24, v25, v26, v27, v28, v29, v30, v31, v32, v33, v34, v35, v36, v37, v38, v39, v40, v41, v42, v43, v44, v45, v46, v47, v48, v49, v50, v51, v52, v53, v54, v55, v56, v57, v58, v59, v60, v61, v62, u63, u64, u65, u66, u67, u68, v69], defers := [] }
def FactH (b1 b2 bx : Nat) (px ax : ByteArray) : Nat → Value → World → Prop
 | 0, v, _ => v = .map (some b1)
 | 1, v, _ => v = .pointer (some ⟨bx, 0, none⟩)
 | 2, v, _ => v = .string px
 | 3, v, _ => v = .map (some b2)
 | 4, v, _ => v = .pointer (some ⟨bx, 1, none⟩)
 | 5, v, _ => v = .string ax
 | _, _, _ => True
theorem FactH.any {b1 b2 bx : Nat} {px ax : ByteArray} (j : Nat) (v : Value) (w w' : World) (h : FactH b1 b2 bx px ax j v w) : FactH b1 b2 bx px ax j v w' := by
 unfold FactH at h ⊢
 split <;> simp_all
structure GoH (wa : World) (bx : Nat) (px ax : ByteArray) (b2 : Nat) (w : World) : Prop where
 below : Below wa.heap.size wa w
 row : w.heap[bx]? = some (.cells #[.string px, .string ax] 107 (0, 0))
 lt : b2 < bx
def RelH (b1 b2 i : Nat) (S A : List (List UInt8)) (px : ByteArray) (listed : Array Bool) (_ : Act) (w : World) : Prop :=
 (if listed.getD 6 false = true then SetM w b1 (i + 1) (S ++ [px.data.toList]) else SetM w b1 i S) ∧ SetM w b2 i A
theorem RelH.step {b1 b2 i j : Nat} {S A : List (List UInt8)} {px : ByteArray} {listed : Array Bool} {a a' : Act} {w : World} (h : RelH b1 b2 i S A px listed a w) (hj : j ≠ 6) : RelH b1 b2 i S A px (listed.setIfInBounds j true) a' w := by
 unfold RelH at h ⊢
 rw [getD_set_ne false hj]
 exact h
theorem SetM.drew {w : World} {b n : Nat} {S : List (List UInt8)} (h : SetM w b n S) : SetM w.drew b n S := h
theorem SetM.kept {w w' : World} {b c n : Nat} {S : List (List UInt8)} (h : SetM w b n S) (hg : w.grownBy w' (some c)) (hne : b ≠ c) : SetM w' b n S := World.ownsMap.kept h hg (by simpa using hne)
set_option maxRecDepth 100000 in
set_option maxHeartbeats 32000000 in
theorem checkhead_any {w0 : World} (x : MdI w0) (hbig : x.m.bk ≤ 1099511627776) (W : World) (hW : Below w0.heap.size w0 W) (hE : Env W) :
 Calls Tryz.prog 59 #[.agg #[.string x.m.p, .slice x.aI x.m.I.length x.cI, .slice x.aD x.m.D.length x.cD]] W fun e W' => e = .returned (.int .i64 (chkH x.m)) ∧ Below W.heap.size W W' := by
 have hbk := x.m.bk_eq
 have hsb := x.m.size_bk
 have hlD : x.m.D.length ≤ 1099511627776 := by have := Dc.len_bk x.m.D; omega
 have hlI : x.m.I.length ≤ 1099511627776 := by have := Im.len_bk x.m.I; omega
 obtain ⟨wa, hwa⟩ : ∃ wa, W.alloc (.cells #[.string x.m.p, .slice x.aI x.m.I.length x.cI, .slice x.aD x.m.D.length x.cD] 33) = wa := ⟨_, rfl⟩
 have hba : Below W.heap.size W wa := by rw [← hwa]; exact (Below.refl _ W).alloc (Nat.le_refl _) _
 have hea : wa.heap[W.heap.size]? = some (.cells #[.string x.m.p, .slice x.aI x.m.I.length x.cI, .slice x.aD x.m.D.length x.cD] 33 (0, 0)) := by rw [← hwa]; exact World.alloc_heap_new _ _
 have hlt0 := (Array.getElem?_eq_some_iff.1 hea).1
 have HR : Kpt (∀ w, Below wa.heap.size wa w → w.heap[W.heap.size]? = some (.cells #[.string x.m.p, .slice x.aI x.m.I.length x.cI, .slice x.aD x.m.D.length x.cD] 33 (0, 0))) := hid fun w hb => (hb.block _ hlt0).trans hea
 have HOLD : Kpt (∀ w, Below wa.heap.size wa w → Below w0.heap.size w0 w) := hid fun w hb => hW.trans ((hba.trans (hb.mono hba.size)).mono hW.size)
 have HEW : Kpt (∀ w, Below wa.heap.size wa w → Env w) := hid fun w hb => hE.below (hba.trans (hb.mono hba.size))
 have HFIN : Kpt (∀ w, Below wa.heap.size wa w → Below W.heap.size W w) := hid fun w hb => hba.trans (hb.mono hba.size)
 have HXI := hid x.hI
 have HIB : Kpt (∀ l ∈ x.m.I, l.p.size ≤ maxLen ∧ l.a.size ≤ maxLen) := hid fun l hl => by have := Im.bk_mem _ l hl; unfold maxLen; omega
 have HP0 := hid (ispath_any x.m.p wa (HEW.out wa (Below.refl _ _)))
 have HSZ : Kpt (∀ w, Below wa.heap.size wa w → Calls Tryz.prog 58 #[.agg #[.string x.m.p, .slice x.aI x.m.I.length x.cI, .slice x.aD x.m.D.length x.cD], .int .i64 4096] w fun e w' => (∃ r : Int, e = .returned (.int .i64 r) ∧ Near 4096 r x.m.size) ∧ Below w.heap.size w w') := hid fun w hb => moduleSize_any x 4096 w (HOLD.out w hb) hbig (by omega)
 have HRES : Kpt (chkH x.m = if (!pathB x.m.p.data.toList) = true then 4 else if (decide (16 < x.m.I.length) || decide (64 < x.m.D.length) || decide (4096 < x.m.size)) = true then 7 else impF x.m.p [] [] x.m.I) := hid rfl
 have hmm := @run_makeMap Tryz.prog
 have k0 := cell_of_row wa _ 0 _ _ _ hea
 clear hba hea hW hE hbk hsb hlt0 hbig
 generalize chkH x.m = RES at HRES ⊢
 generalize pathB x.m.p.data.toList = b0 at HP0 HRES
 go_enter Tryz.func59, Tryz.ntmps59
 go_wp2_with fail
 refine HP0.out.mono ?_
 rintro e w1 ⟨rfl, hb⟩
 have H1 := hid hb
 clear hb hwa k0
 cases b0 with
 | false =>
  have HQ := hid (show RES = 4 by rw [HRES.out, if_pos (by simp)])
  clear HRES
  go_wp2_with fail
  go_ret
  exact ⟨by rw [HQ.out] <;> rfl, HFIN.out w1 H1.out⟩
 | true =>
  have hr1 := HR.out w1 H1.out
  have k0 := cell_of_row w1 _ 0 _ _ _ hr1
  have k1 := cell_of_row w1 _ 1 _ _ _ hr1
  have k2 := cell_of_row w1 _ 2 _ _ _ hr1
  have hres : RES = if (decide (16 < x.m.I.length) || decide (64 < x.m.D.length) || decide (4096 < x.m.size)) = true then 7 else impF x.m.p [] [] x.m.I := by rw [HRES.out, if_neg (by simp)]
  clear HRES hr1
  by_cases hI : x.m.I.length ≤ 16
  · by_cases hD : x.m.D.length ≤ 64
    · go_wp2_with fail
      refine (HSZ.out w1 H1.out).mono ?_
      rintro e w2 ⟨⟨sz, rfl, hnr⟩, hb⟩
      have H2 := hid (H1.out.trans (hb.mono H1.out.size))
      clear hb k0 k1 k2
      by_cases hS : x.m.size ≤ 4096
      · obtain rfl : sz = (x.m.size : Int) := by obtain ⟨_, hn1, hn2⟩ := hnr; omega
        have HRES := hid (show RES = impF x.m.p [] [] x.m.I by rw [hres, if_neg (by simp; omega)])
        have hr2 := HR.out w2 H2.out
        obtain ⟨wm, hwm⟩ : ∃ wm, w2.alloc (.map #[] 0) = wm := ⟨_, rfl⟩
        obtain ⟨wn, hwn⟩ : ∃ wn, wm.alloc (.map #[] 0) = wn := ⟨_, rfl⟩
        have hbm : Below w2.heap.size w2 wm := by rw [← hwm]; exact (Below.refl _ w2).alloc (Nat.le_refl _) _
        have hbn : Below wm.heap.size wm wn := by rw [← hwn]; exact (Below.refl _ wm).alloc (Nat.le_refl _) _
        have hm1 : SetM wm w2.heap.size 0 [] := by rw [← hwm]; exact SetM.made w2
        have hm2 : SetM wn wm.heap.size 0 [] := by rw [← hwn]; exact SetM.made wm
        have hlm : w2.heap.size < wm.heap.size := by rw [← hwm]; simp
        have hln : wm.heap.size < wn.heap.size := by rw [← hwn]; simp
        have HM := hid (And.intro (hm1.below hlm hbn) (And.intro hm2 (H2.out.trans ((hbm.trans (hbn.mono hbm.size)).mono H2.out.size))))
        have hw2 := H2.out.size
        have k1 := cell_of_row wn _ 1 _ _ _ (HR.out wn HM.out.2.2)
        clear hres hnr hbm hbn hm1 hm2 hr2
        go_wp2_with fail
        clear hmm k1
        go_loopw [31] (fun a wr => ∃ (i : Nat) (r : List Im) (S A : List (List UInt8)), a = .int .i64 (i : Int) ∧ r.length + i = x.m.I.length ∧ Kpt (impF x.m.p S A r = impF x.m.p [] [] x.m.I) ∧ Kpt (∀ l ∈ r, l ∈ x.m.I) ∧ Kpt (RowD w0 (encIm r) x.aI (i * 2)) ∧ Kpt (SetM wr w2.heap.size i S) ∧ Kpt (SetM wr wm.heap.size i A) ∧ Kpt (Below wa.heap.size wa wr) ∧ wm.heap.size < wr.heap.size) (fun a _ => x.m.I.length - (intOf a).toNat)
        case atStart => exact ⟨0, x.m.I, [], [], rfl, by omega, ⟨rfl⟩, ⟨fun _ h => h⟩, ⟨rowD_zero HXI.out⟩, ⟨HM.out.1⟩, ⟨HM.out.2.1⟩, ⟨HM.out.2.2⟩, hln⟩
        case round =>
         clear HM hwm hwn hln
         obtain ⟨i, r, S, A, rfl, hri, hdf, hmem, hR, hM1, hM2, hB, hwl⟩ := hrel
         cases r with
         | nil =>
          have hi9 : i = x.m.I.length := by simp only [List.length_nil] at hri; omega
          subst hi9
          have HQ := hid (show RES = 0 by rw [HRES.out, ← hdf.out]; rfl)
          have HBZ := hid (HFIN.out wr hB.out)
          clear hri hdf hmem hR hM1 hM2 hB HRES hwl
          go_wp2_with fail
          go_ret
          exact ⟨by rw [HQ.out] <;> rfl, HBZ.out⟩
         | cons lx r' =>
          have hlt : i < x.m.I.length := by simp only [List.length_cons] at hri; omega
          obtain ⟨bd, od, haD, ⟨d0, d1⟩, hr1⟩ := rowD_im hR.out
          have hWr := HOLD.out wr hB.out
          replace d0 := old_cell hWr d0
          replace d1 := old_cell hWr d1
          rw [haD]
          have hri' : r'.length + (i + 1) = x.m.I.length := by simp only [List.length_cons] at hri; omega
          obtain ⟨hps, has⟩ := HIB.out lx (hmem.out lx List.mem_cons_self)
          obtain ⟨wb, hwb⟩ : ∃ wb, wr.alloc (.cells #[.string lx.p, .string lx.a] 107) = wb := ⟨_, rfl⟩
          have hbb : Below wr.heap.size wr wb := by rw [← hwb]; exact (Below.refl _ wr).alloc (Nat.le_refl _) _
          have heb : wb.heap[wr.heap.size]? = some (.cells #[.string lx.p, .string lx.a] 107 (0, 0)) := by rw [← hwb]; exact World.alloc_heap_new _ _
          have hblt := (Array.getElem?_eq_some_iff.1 heb).1
          have g0 := cell_of_row wb _ 0 _ _ _ heb
          have HBB := hid (hB.out.trans (hbb.mono hB.out.size))
          have HPA := hid (ispath_any lx.p wb (HEW.out wb HBB.out))
          have HNA : Kpt (∀ w, Calls Tryz.prog 105 #[.string lx.a] w fun e w' => e = .returned (.bool (nmB lx.a)) ∧ w' = w) := hid (fun w => isname_any lx.a w has)
          have HROW : Kpt (∀ w, Below wb.heap.size wb w → w.heap[wr.heap.size]? = some (.cells #[.string lx.p, .string lx.a] 107 (0, 0))) := hid fun w hb => (hb.block _ hblt).trans heb
          have HM1 : Kpt (∀ w, Below wb.heap.size wb w → SetM w w2.heap.size i S) := hid fun w hb => (hM1.out.below (by omega) hbb).below (by omega) hb
          have HM2 : Kpt (∀ w, Below wb.heap.size wb w → SetM w wm.heap.size i A) := hid fun w hb => (hM2.out.below hwl hbb).below (by omega) hb
          have hdr : impF x.m.p [] [] x.m.I = if (!pathB lx.p.data.toList || !nmB lx.a) = true then 4 else if lx.p = x.m.p then 14 else if (decide (lx.p.data.toList ∈ S) || decide (lx.a.data.toList ∈ A)) = true then 5 else impF x.m.p (S ++ [lx.p.data.toList]) (A ++ [lx.a.data.toList]) r' := by rw [← hdf.out]; rfl
          rw [hdr] at HRES
          have HQ := hid (And.intro hr1 (And.intro hri' (And.intro hdr (And.intro (fun l hl' => hmem.out l (List.mem_cons_of_mem _ hl')) hwl))))
          clear hr1 hri' hri hdf hR hM1 hM2 hB hmem heb hbb hdr
          generalize pathB lx.p.data.toList = c0 at HPA HRES HQ
          generalize nmB lx.a = c1 at HNA HRES HQ
          go_wp2_with fail
          refine HPA.out.mono ?_
          rintro e w3 ⟨rfl, hb3⟩
          have H3 := hid (HBB.out.trans (hb3.mono HBB.out.size))
          have HM13 := hid (HM1.out w3 hb3)
          have HM23 := hid (HM2.out w3 hb3)
          have hrow := HROW.out w3 hb3
          have HROW3 := hid hrow
          have g0 := cell_of_row w3 _ 0 _ _ _ hrow
          have g1 := cell_of_row w3 _ 1 _ _ _ hrow
          have k0 := cell_of_row w3 _ 0 _ _ _ (HR.out w3 H3.out)
          clear hb3 hrow hwb d0 d1 HPA HROW HM1 HM2
          cases c0 with
          | false =>
           have HZ := hid (show RES = 4 by rw [HRES.out, if_pos (by simp)])
           clear HRES HQ
           go_wp2_with fail
           go_ret
           exact ⟨by rw [HZ.out] <;> rfl, HFIN.out _ H3.out⟩
          | true =>
           go_wp2_with fail
           refine (HNA.out _).mono ?_
           rintro e w9 ⟨rfl, rfl⟩
           cases c1 with
           | false =>
            have HZ := hid (show RES = 4 by rw [HRES.out, if_pos (by simp)])
            clear HRES HQ
            go_wp2_with fail
            go_ret
            exact ⟨by rw [HZ.out] <;> rfl, HFIN.out _ H3.out⟩
           | true =>
            by_cases hpp : lx.p = x.m.p
            · have HZ := hid (show RES = 14 by rw [HRES.out, if_neg (by simp), if_pos hpp])
              have hpe : (lx.p.toList == x.m.p.toList) = true := by rw [hpp]; simp
              clear HRES HQ hpp
              go_wp2_with fail
              go_ret
              exact ⟨by rw [HZ.out] <;> rfl, HFIN.out _ H3.out⟩
            · have hpe := toList_ne hpp
              obtain ⟨B1, hB1⟩ : ∃ B, decide (lx.p.data.toList ∈ S) = B := ⟨_, rfl⟩
              obtain ⟨B2, hB2⟩ : ∃ B, decide (lx.a.data.toList ∈ A) = B := ⟨_, rfl⟩
              cases B1 with
              | true =>
               have HZ := hid (show RES = 5 by rw [HRES.out, if_neg (by simp), if_neg hpp, hB1, if_pos (by simp)])
               clear HRES HQ hpp hB2
               go_wp2_with (at_lookup; refine wpList_lookup_setG _ rfl _ _ rfl w2.heap.size i S rfl HM13.out _ rfl hps ?_; rw [hB1])
               go_ret
               exact ⟨by rw [HZ.out] <;> rfl, HFIN.out _ H3.out⟩
              | false =>
               cases B2 with
               | true =>
                have HZ := hid (show RES = 5 by rw [HRES.out, if_neg (by simp), if_neg hpp, hB1, hB2, if_pos (by simp)])
                clear HRES HQ hpp
                go_wp2_with (at_lookup; first | (refine wpList_lookup_setG _ rfl _ _ rfl w2.heap.size i S rfl HM13.out _ rfl hps ?_; rw [hB1]) | (refine wpList_lookup_setG _ rfl _ _ rfl wm.heap.size i A rfl HM23.out _ rfl has ?_; rw [hB2]))
                go_ret
                exact ⟨by rw [HZ.out] <;> rfl, HFIN.out _ H3.out⟩
               | false =>
                have HDN := hid (show impF x.m.p (S ++ [lx.p.data.toList]) (A ++ [lx.a.data.toList]) r' = impF x.m.p [] [] x.m.I by rw [HQ.out.2.2.1, if_neg (by simp), if_neg hpp, hB1, hB2, if_neg (by simp)])
                have HR2 := hid (show RES = impF x.m.p [] [] x.m.I by rw [HRES.out, ← HQ.out.2.2.1])
                clear hpp HRES
                go_wp2_with (at_lookup; first | (refine wpList_lookup_setG _ rfl _ _ rfl w2.heap.size i S rfl HM13.out _ rfl hps ?_; rw [hB1]) | (refine wpList_lookup_setG _ rfl _ _ rfl wm.heap.size i A rfl HM23.out _ rfl has ?_; rw [hB2]))
                clear g0 g1 k0 hB1 hB2 hpe
                refine wp_region_any (by kernel_rfl) ?_
                change wpAny _ _ _ _ 8 _ _ (World.drew _)
                have hil : i < maxLen := by unfold maxLen; omega
                have hG0 : GoH wa wr.heap.size lx.p lx.a wm.heap.size w9.drew := ⟨H3.out.trans ((Below.refl _ w9).drew.mono H3.out.size), HROW3.out, HQ.out.2.2.2.2⟩
                have hR1 : SetM w9.drew w2.heap.size i S := HM13.out.drew
                have hR2 : SetM w9.drew wm.heap.size i A := HM23.out.drew
                generalize w9.drew = V0 at hG0 hR1 hR2 ⊢
                refine wpAny_flow2 (n := 7) (Fact := FactH w2.heap.size wm.heap.size wr.heap.size lx.p lx.a) (Fx := FxH _ _ _ _ _ _ _ _ _ _ _ _ _ _ _ _ _ _ _ _ _ _ _ _ _ _ _ _ _ _ _ _ _ _ _ _ _ _ _ _ _ _ _ _ _ _ _ _ _ _ _ _ _ _ _ _ _ _ _ _ _ _ _ _) (G := GoH wa wr.heap.size lx.p lx.a wm.heap.size) (Rel := RelH w2.heap.size wm.heap.size i S A lx.p) (by kernel_rfl) ?back ?last ?step ?tail 8 _ _ _ ⟨rfl, rfl, ⟨_, _, _, _, _, _, rfl⟩, hG0, ⟨by rw [if_neg (by decide)]; exact hR1, hR2⟩, fun j hj hl => ?l0⟩ (by decide)
                case back => exact flow_back2_of (by kernel_rfl)
                case last => exact flow_last_of (by kernel_rfl)
                case l0 => rw [getD_replicate_false] at hl; cases hl
                case step =>
                 clear hG0 hR1 hR2
                 rintro j hj listed a w hls hun hRl ⟨u63, u64, u65, u66, u67, u68, rfl⟩ hG hw
                 rcases (by omega : j = 0 ∨ j = 1 ∨ j = 2 ∨ j = 3 ∨ j = 4 ∨ j = 5 ∨ j = 6) with rfl | rfl | rfl | rfl | rfl | rfl | rfl
                 · skip
                   refine wpOp_of_list (i := 0) rfl ?_
                   go_wp2_with fail
                   exact ⟨⟨_, _, _, _, _, _, rfl⟩, hG, rfl, (fun j hj hne => by rcases (by omega : j = 0 ∨ j = 1 ∨ j = 2 ∨ j = 3 ∨ j = 4 ∨ j = 5 ∨ j = 6) with rfl | rfl | rfl | rfl | rfl | rfl | rfl <;> first | exact absurd rfl hne | rfl), fun j v h => FactH.any j v _ _ h, hRl.step (by decide)⟩
                 · skip
                   refine wpOp_of_list (i := 1) rfl ?_
                   go_wp2_with fail
                   exact ⟨⟨_, _, _, _, _, _, rfl⟩, hG, rfl, (fun j hj hne => by rcases (by omega : j = 0 ∨ j = 1 ∨ j = 2 ∨ j = 3 ∨ j = 4 ∨ j = 5 ∨ j = 6) with rfl | rfl | rfl | rfl | rfl | rfl | rfl <;> first | exact absurd rfl hne | rfl), fun j v h => FactH.any j v _ _ h, hRl.step (by decide)⟩
                 · skip
                   obtain rfl : u64 = .pointer (some ⟨wr.heap.size, 0, none⟩) := hw 1 (by kernel_rfl)
                   have c0 := cell_of_row w _ 0 _ _ _ hG.row
                   refine wpOp_of_list (i := 2) rfl ?_
                   go_wp2_with fail
                   exact ⟨⟨_, _, _, _, _, _, rfl⟩, hG, rfl, (fun j hj hne => by rcases (by omega : j = 0 ∨ j = 1 ∨ j = 2 ∨ j = 3 ∨ j = 4 ∨ j = 5 ∨ j = 6) with rfl | rfl | rfl | rfl | rfl | rfl | rfl <;> first | exact absurd rfl hne | rfl), fun j v h => FactH.any j v _ _ h, hRl.step (by decide)⟩
                 · skip
                   refine wpOp_of_list (i := 3) rfl ?_
                   go_wp2_with fail
                   exact ⟨⟨_, _, _, _, _, _, rfl⟩, hG, rfl, (fun j hj hne => by rcases (by omega : j = 0 ∨ j = 1 ∨ j = 2 ∨ j = 3 ∨ j = 4 ∨ j = 5 ∨ j = 6) with rfl | rfl | rfl | rfl | rfl | rfl | rfl <;> first | exact absurd rfl hne | rfl), fun j v h => FactH.any j v _ _ h, hRl.step (by decide)⟩
                 · skip
                   refine wpOp_of_list (i := 4) rfl ?_
                   go_wp2_with fail
                   exact ⟨⟨_, _, _, _, _, _, rfl⟩, hG, rfl, (fun j hj hne => by rcases (by omega : j = 0 ∨ j = 1 ∨ j = 2 ∨ j = 3 ∨ j = 4 ∨ j = 5 ∨ j = 6) with rfl | rfl | rfl | rfl | rfl | rfl | rfl <;> first | exact absurd rfl hne | rfl), fun j v h => FactH.any j v _ _ h, hRl.step (by decide)⟩
                 · skip
                   obtain rfl : u67 = .pointer (some ⟨wr.heap.size, 1, none⟩) := hw 4 (by kernel_rfl)
                   have c1 := cell_of_row w _ 1 _ _ _ hG.row
                   refine wpOp_of_list (i := 5) rfl ?_
                   go_wp2_with fail
                   exact ⟨⟨_, _, _, _, _, _, rfl⟩, hG, rfl, (fun j hj hne => by rcases (by omega : j = 0 ∨ j = 1 ∨ j = 2 ∨ j = 3 ∨ j = 4 ∨ j = 5 ∨ j = 6) with rfl | rfl | rfl | rfl | rfl | rfl | rfl <;> first | exact absurd rfl hne | rfl), fun j v h => FactH.any j v _ _ h, hRl.step (by decide)⟩
                 · obtain rfl : u63 = .map (some w2.heap.size) := hw 0 (by kernel_rfl)
                   obtain rfl : u65 = .string lx.p := hw 2 (by kernel_rfl)
                   have h6 : SetM w w2.heap.size i S := by have h := hRl.1; rw [← getD_in (by rw [hls]; omega), hun] at h; simpa using h
                   have hbl := (Array.getElem?_eq_some_iff.1 hG.row).1
                   refine wpOp_of_list (i := 6) rfl ?_
                   refine wpList_update_set _ rfl _ _ _ rfl w2.heap.size i S rfl h6 hil _ rfl hps rfl ?_; intro w5 hown1 hgrow1; have hO1 := hid (And.intro hown1 hgrow1); clear hown1 hgrow1
                   have hg := hO1.out.2
                   have hbw : Below wa.heap.size w w5 := (RowKit.Below.refl _ w).grown hg hG.below.size (fun k e => by cases e; exact hw2)
                   have hlt2 := hG.lt
                   exact ⟨⟨_, _, _, _, _, _, rfl⟩, ⟨hG.below.trans hbw, (hg.block _ hbl (by simp only [ne_eq, Option.some.injEq]; omega)).trans hG.row, hlt2⟩, trivial, (fun j hj hne => by rcases (by omega : j = 0 ∨ j = 1 ∨ j = 2 ∨ j = 3 ∨ j = 4 ∨ j = 5 ∨ j = 6) with rfl | rfl | rfl | rfl | rfl | rfl | rfl <;> first | exact absurd rfl hne | rfl), fun j v h => FactH.any j v _ _ h, ⟨by rw [if_pos (by simp [hls])]; exact hO1.out.1, hRl.2.kept hg (by omega)⟩⟩
                case tail =>
                 clear hG0 hR1 hR2
                 rintro listed a w hall hRl ⟨u63, u64, u65, u66, u67, u68, rfl⟩ hG hf
                 obtain rfl : u66 = .map (some wm.heap.size) := hf 3 (by omega)
                 obtain rfl : u68 = .string lx.a := hf 5 (by omega)
                 have h6 : SetM w w2.heap.size (i + 1) (S ++ [lx.p.data.toList]) := by have h := hRl.1; rw [hall 6 (by omega)] at h; simpa using h
                 have hA := hRl.2
                 have hbl := (Array.getElem?_eq_some_iff.1 hG.row).1
                 have HGB := hid hG.below
                 have H6 := hid (And.intro h6 hA)
                 have hwml := HQ.out.2.2.2.2
                 clear h6 hA hRl hf hall hG
                 refine wpOp_of_list (i := 7) rfl ?_
                 refine wpList_update_set _ rfl _ _ _ rfl wm.heap.size i A rfl H6.out.2 hil _ rfl has rfl ?_; intro w5 hown1 hgrow1; have hO1 := hid (And.intro hown1 hgrow1); clear hown1 hgrow1
                 go_wp2_with fail
                 go_roundw
                 case rel =>
                  have hg := hO1.out.2
                  have hbw : Below wa.heap.size w w5 := (RowKit.Below.refl _ w).grown hg HGB.out.size (fun k e => by cases e; omega)
                  exact ⟨i + 1, r', S ++ [lx.p.data.toList], A ++ [lx.a.data.toList], by go_num, HQ.out.2.1, ⟨HDN.out⟩, ⟨HQ.out.2.2.2.1⟩, haD ▸ ⟨HQ.out.1⟩, ⟨H6.out.1.kept hg (by omega)⟩, ⟨hO1.out.1⟩, ⟨HGB.out.trans hbw⟩, by have := hg.size; omega⟩
                 case measure => simp [intOf]; omega
      · have HQ := hid (show RES = 7 by rw [hres, if_pos (by simp; omega)])
        have hs9 : 4096 < sz := by obtain ⟨_, hn1, hn2⟩ := hnr; omega
        clear hres hnr
        go_wp2_with fail
        go_ret
        exact ⟨by rw [HQ.out] <;> rfl, HFIN.out w2 H2.out⟩
    · have HQ := hid (show RES = 7 by rw [hres, if_pos (by simp; omega)])
      clear hres
      go_wp2_with fail
      go_ret
      exact ⟨by rw [HQ.out] <;> rfl, HFIN.out w1 H1.out⟩
  · have HQ := hid (show RES = 7 by rw [hres, if_pos (by simp; omega)])
    clear hres
    go_wp2_with fail
    go_ret
    exact ⟨by rw [HQ.out] <;> rfl, HFIN.out w1 H1.out⟩
end Go.Proofs.YtnkhebgjhipepaaGreatDoor
