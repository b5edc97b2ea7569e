/- syntax: transparent declarations; sizes. -/
import Derived.Test.YtnkhebgjhipepaaGreatDoorRzM
import Derived.Test.YtnkhebgjhipepaaGreatDoorSyQ
import Derived.Test.YtnkhebgjhipepaaGreatDoorXd
import Derived.Test.YtnkhebgjhipepaaGreatDoorXz
namespace Go.Proofs.YtnkhebgjhipepaaGreatDoor
open Go.RowKit Go.Shelf
attribute [local go_sem] Oper.semAt_some
set_option maxRecDepth 100000 in
set_option maxHeartbeats 8000000 in
theorem tr_any (w0 : World) (p : DcI w0) (r : List Dc) (hs : (encDc (p.d :: r)).bk ≤ 1099511627776) (W : World) (hW : KeepX (fun _ => False) w0 W) :
 Calls Tryz.prog 162 #[.agg p.cells] W fun e W' => e = .returned (.bool p.d.tr) ∧ Below W.heap.size W W' := by
 show Calls Tryz.prog 162 #[.agg #[.int .i64 p.d.k, .string p.d.nm, .bool p.d.ex, .bool p.d.dp, .string p.d.note, .slice p.aP p.d.P.length p.cP, .int .i64 p.lo.t.k, .string p.lo.t.m, .string p.lo.t.n, .slice p.lo.aa p.lo.t.A.len p.lo.ca, .slice p.lo.af p.lo.t.F.len p.lo.cf, .int .i64 p.up.t.k, .string p.up.t.m, .string p.up.t.n, .slice p.up.aa p.up.t.A.len p.up.ca, .slice p.up.af p.up.t.F.len p.up.cf, .int .i64 p.t.t.k, .string p.t.t.m, .string p.t.t.n, .slice p.t.aa p.t.t.A.len p.t.ca, .slice p.t.af p.t.t.F.len p.t.cf, .int .i64 p.e.e.k, .string p.e.e.m, .string p.e.e.n, .string p.e.e.tx, .int .i64 p.e.e.num, .slice p.e.aT p.e.e.T.len p.e.cT, .slice p.e.aL p.e.e.L.length p.e.cL, .slice p.e.aK p.e.e.K.len p.e.cK, .string p.d.m, .string p.d.tg]] W _
 have hbk := encDc_bk p.d r
 have hlo := p.d.lo.on_bk .nil
 have hup := p.d.up.on_bk .nil
 simp only [Dt.bk] at hlo hup
 have HK0 : Kpt (∀ W' : World, KeepX (fun _ => False) w0 W' → Calls Tryz.prog 27 #[.agg #[.int .i64 p.lo.t.k, .string p.lo.t.m, .string p.lo.t.n, .slice p.lo.aa p.lo.t.A.len p.lo.ca, .slice p.lo.af p.lo.t.F.len p.lo.cf], .agg #[.int .i64 p.t.t.k, .string p.t.t.m, .string p.t.t.n, .slice p.t.aa p.t.t.A.len p.t.ca, .slice p.t.af p.t.t.F.len p.t.cf]] W' fun e W'' => e = .returned (.bool (p.d.lo.eq p.d.t)) ∧ Below W'.heap.size W' W'') := hid (fun W' hW' => by rw [← p.hlo, ← p.ht]; exact eq_any (TyV_keep p.lo.tyV hW') (TyV_keep p.t.tyV hW') (by rw [p.hlo]; omega))
 have HK1 : Kpt (∀ W' : World, KeepX (fun _ => False) w0 W' → Calls Tryz.prog 27 #[.agg #[.int .i64 p.up.t.k, .string p.up.t.m, .string p.up.t.n, .slice p.up.aa p.up.t.A.len p.up.ca, .slice p.up.af p.up.t.F.len p.up.cf], .agg #[.int .i64 p.t.t.k, .string p.t.t.m, .string p.t.t.n, .slice p.t.aa p.t.t.A.len p.t.ca, .slice p.t.af p.t.t.F.len p.t.cf]] W' fun e W'' => e = .returned (.bool (p.d.up.eq p.d.t)) ∧ Below W'.heap.size W' W'') := hid (fun W' hW' => by rw [← p.hup, ← p.ht]; exact eq_any (TyV_keep p.up.tyV hW') (TyV_keep p.t.tyV hW') (by rw [p.hup]; omega))
 clear hbk hlo hup hs
 obtain ⟨wa, hwa⟩ : ∃ wa, W.alloc (.cells #[.int .i64 p.d.k, .string p.d.nm, .bool p.d.ex, .bool p.d.dp, .string p.d.note, .slice p.aP p.d.P.length p.cP, .int .i64 p.lo.t.k, .string p.lo.t.m, .string p.lo.t.n, .slice p.lo.aa p.lo.t.A.len p.lo.ca, .slice p.lo.af p.lo.t.F.len p.lo.cf, .int .i64 p.up.t.k, .string p.up.t.m, .string p.up.t.n, .slice p.up.aa p.up.t.A.len p.up.ca, .slice p.up.af p.up.t.F.len p.up.cf, .int .i64 p.t.t.k, .string p.t.t.m, .string p.t.t.n, .slice p.t.aa p.t.t.A.len p.t.ca, .slice p.t.af p.t.t.F.len p.t.cf, .int .i64 p.e.e.k, .string p.e.e.m, .string p.e.e.n, .string p.e.e.tx, .int .i64 p.e.e.num, .slice p.e.aT p.e.e.T.len p.e.cT, .slice p.e.aL p.e.e.L.length p.e.cL, .slice p.e.aK p.e.e.K.len p.e.cK, .string p.d.m, .string p.d.tg] 75) = wa := ⟨_, rfl⟩
 have hba : Below W.heap.size W wa := by rw [← hwa]; exact (Below.refl _ W).alloc (Nat.le_refl _) _
 have hea : wa.heap[W.heap.size]? = some (.cells #[.int .i64 p.d.k, .string p.d.nm, .bool p.d.ex, .bool p.d.dp, .string p.d.note, .slice p.aP p.d.P.length p.cP, .int .i64 p.lo.t.k, .string p.lo.t.m, .string p.lo.t.n, .slice p.lo.aa p.lo.t.A.len p.lo.ca, .slice p.lo.af p.lo.t.F.len p.lo.cf, .int .i64 p.up.t.k, .string p.up.t.m, .string p.up.t.n, .slice p.up.aa p.up.t.A.len p.up.ca, .slice p.up.af p.up.t.F.len p.up.cf, .int .i64 p.t.t.k, .string p.t.t.m, .string p.t.t.n, .slice p.t.aa p.t.t.A.len p.t.ca, .slice p.t.af p.t.t.F.len p.t.cf, .int .i64 p.e.e.k, .string p.e.e.m, .string p.e.e.n, .string p.e.e.tx, .int .i64 p.e.e.num, .slice p.e.aT p.e.e.T.len p.e.cT, .slice p.e.aL p.e.e.L.length p.e.cL, .slice p.e.aK p.e.e.K.len p.e.cK, .string p.d.m, .string p.d.tg] 75 (0, 0)) := by rw [← hwa]; exact World.alloc_heap_new _ _
 have k6 := cell_of_row wa _ 6 _ _ _ hea
 have k7 := cell_of_row wa _ 7 _ _ _ hea
 have k8 := cell_of_row wa _ 8 _ _ _ hea
 have k9 := cell_of_row wa _ 9 _ _ _ hea
 have k10 := cell_of_row wa _ 10 _ _ _ hea
 have k16 := cell_of_row wa _ 16 _ _ _ hea
 have k17 := cell_of_row wa _ 17 _ _ _ hea
 have k18 := cell_of_row wa _ 18 _ _ _ hea
 have k19 := cell_of_row wa _ 19 _ _ _ hea
 have k20 := cell_of_row wa _ 20 _ _ _ hea
 have HB := hid (And.intro (hW.trans (KeepX.of_below hba)) (And.intro hba (And.intro hea (Array.getElem?_eq_some_iff.1 hea).1)))
 clear hea hba hW
 have HR := hid (show p.d.tr = (p.d.lo.eq p.d.t && p.d.up.eq p.d.t) from rfl)
 go_enter Tryz.func162, Tryz.ntmps162
 go_wp2_with fail
 refine (HK0.out _ HB.out.1).mono ?_
 rintro e v0 ⟨rfl, hb⟩
 have e0 := (hb.block _ HB.out.2.2.2).trans HB.out.2.2.1
 clear k6 k7 k8 k9 k10 k16 k17 k18 k19 k20
 have k11 := cell_of_row v0 _ 11 _ _ _ e0
 have k12 := cell_of_row v0 _ 12 _ _ _ e0
 have k13 := cell_of_row v0 _ 13 _ _ _ e0
 have k14 := cell_of_row v0 _ 14 _ _ _ e0
 have k15 := cell_of_row v0 _ 15 _ _ _ e0
 have k16 := cell_of_row v0 _ 16 _ _ _ e0
 have k17 := cell_of_row v0 _ 17 _ _ _ e0
 have k18 := cell_of_row v0 _ 18 _ _ _ e0
 have k19 := cell_of_row v0 _ 19 _ _ _ e0
 have k20 := cell_of_row v0 _ 20 _ _ _ e0
 have HB0 := hid (And.intro (HB.out.1.trans (KeepX.of_below hb)) (HB.out.2.1.trans (hb.mono HB.out.2.1.size)))
 clear hb e0
 cases hA : p.d.lo.eq p.d.t with
 | false =>
  go_wp2_with fail
  go_ret
  exact ⟨by rw [HR.out, hA]; rfl, HB0.out.2⟩
 | true =>
  go_wp2_with fail
  refine (HK1.out _ HB0.out.1).mono ?_
  rintro e v1 ⟨rfl, hb⟩
  have HZ := hid hb
  clear hb
  go_wp2_with fail
  go_ret
  exact ⟨by rw [HR.out, hA, Bool.true_and]; rfl, HB0.out.2.trans (HZ.out.mono HB0.out.2.size)⟩
end Go.Proofs.YtnkhebgjhipepaaGreatDoor

namespace Go.Proofs.YtnkhebgjhipepaaGreatDoor
open Go.RowKit Go.Shelf
attribute [local go_sem] Oper.semAt_some

theorem wrap_ok {z : Int} (h0 : 0 ≤ z) (h1 : z ≤ 4398046511104) : wrap64 z = z := by unfold wrap64; omega
theorem bound_head {s : Int} {N0 P dsz rest tot : Nat} (h0 : 0 ≤ s) (h1 : s ≤ N0) (h2 : P ≤ dsz) (h3 : N0 + dsz + rest = tot) (h4 : tot ≤ 1099511627776) : 0 ≤ s + (1 + (P : Int)) ∧ s + (1 + (P : Int)) ≤ 4398046511104 := by omega
theorem bound_len {N0 P dsz rest tot : Nat} (h2 : P ≤ dsz) (h3 : N0 + dsz + rest = tot) (h4 : tot ≤ 1099511627776) : 0 ≤ 1 + (P : Int) ∧ 1 + (P : Int) ≤ 4398046511104 := by omega
theorem Near.join {most s r : Int} {n k : Nat} (h : Near most s n) (h2 : Near (most - s) r k) : Near most (s + r) (n + k) := by
 obtain ⟨h0, h1, h3⟩ := h
 obtain ⟨g0, g1, g3⟩ := h2
 exact ⟨by omega, by omega, by omega⟩
theorem Dc.size_tys (d : Dc) : d.size = 1 + d.P.length + (d.tys.map Ty.size).sum + (if d.k = 1 then d.e.size else 0) := by
 unfold Dc.size Dc.tys Dc.tr
 by_cases h0 : d.k = 0
 · have h1 : ¬ d.k = 1 := by omega
   simp only [if_pos h0, if_neg h1]
   cases hT : (d.lo.eq d.t && d.up.eq d.t) <;> simp <;> omega
 · simp only [if_neg h0]
   by_cases h1 : d.k = 1
   · simp only [if_pos h1]
     rw [List.map_append, List.sum_append, List.map_map]
     simp only [Function.comp_def, List.map_cons, List.map_nil, List.sum_cons, List.sum_nil]
     omega
   · simp [if_neg h1]
def FxM (sb mb rb Bz : Nat) (a : Act) : Prop := ∃ u0 u1 u2 u6 u7 u9 u10 u11 u12 u13 u14 u15 u16 u17 u18 u19 u20 u21 u22 u23 u24 u25 u26 u27 u28 u29 u30 u31 u32 u33 u34 u35 u36 u37 u38 u39 u40 u41 u42 u43 u44 u45 u46 u47 u48 u49 u50 u51 u52, a = { tmps := #[u0, u1, u2, .pointer (some ⟨mb, 0, none⟩), .pointer (some ⟨rb, 0, none⟩), .pointer (some ⟨sb, 0, none⟩), u6, u7, .pointer (some ⟨Bz, 0, none⟩), u9, u10, u11, u12, u13, u14, u15, u16, u17, u18, u19, u20, u21, u22, u23, u24, u25, u26, u27, u28, u29, u30, u31, u32, u33, u34, u35, u36, u37, u38, u39, u40, u41, u42, u43, u44, u45, u46, u47, u48, u49, u50, u51, u52], defers := [] }
def FxE (sb mb rb db : Nat) (vd vl vi : Value) (ds : List Deferred) (a : Act) : Prop := ∃ u0 u1 u2 u6 u8 u9 u10 u11 u12 u13 u17 u18 u19 u20 u21 u22 u23 u24 u25 u26 u27 u28 u29 u30 u31 u32 u33 u34 u35 u36 u37 u38 u39 u40 u41 u42 u43 u44 u45 u46 u47 u48 u49 u50 u51 u52, a = { tmps := #[u0, u1, u2, .pointer (some ⟨mb, 0, none⟩), .pointer (some ⟨rb, 0, none⟩), .pointer (some ⟨sb, 0, none⟩), u6, .pointer (some ⟨db, 0, none⟩), u8, u9, u10, u11, u12, u13, vd, vl, vi, u17, u18, u19, u20, u21, u22, u23, u24, u25, u26, u27, u28, u29, u30, u31, u32, u33, u34, u35, u36, u37, u38, u39, u40, u41, u42, u43, u44, u45, u46, u47, u48, u49, u50, u51, u52], defers := ds }
/-- The region size += exprSize(d.Expr, most - size). -/
def FactE (s most : Int) (db : Nat) {w0 : World} (y : XpI w0) : Nat → Value → World → Prop
 | 0, v, _ => v = .int .i64 s
 | 1, v, _ => v = .pointer (some ⟨db, 21, none⟩)
 | 2, v, _ => v = .agg #[.int .i64 y.e.k, .string y.e.m, .string y.e.n, .string y.e.tx, .int .i64 y.e.num, .slice y.aT y.e.T.len y.cT, .slice y.aL y.e.L.length y.cL, .slice y.aK y.e.K.len y.cK]
 | 3, v, _ => v = .int .i64 most
 | 4, v, _ => v = .int .i64 s
 | 5, v, _ => v = .int .i64 (most - s)
 | 6, v, _ => ∃ r : Int, v = .int .i64 r ∧ Near (most - s) r y.e.size
 | 7, v, _ => ∃ r : Int, v = .int .i64 (s + r) ∧ Near (most - s) r y.e.size
 | _, _, _ => False
theorem FactE.any {s most : Int} {db : Nat} {w0 : World} {y : XpI w0} (j : Nat) (v : Value) (w w' : World) (h : FactE s most db y j v w) : FactE s most db y j v w' := by
 unfold FactE at *
 split at h <;> exact h
structure GoE (V0 : World) (sb mb db : Nat) (s most : Int) {w0 : World} (y : XpI w0) (W : World) : Prop where
 size : Boxed W sb 3 (.int .i64 s)
 most : Boxed W mb 3 (.int .i64 most)
 row : ∀ j v, y.cells[j]? = some v → W.cell? ⟨db, 21 + j, none⟩ = some v
 keep : Below w0.heap.size w0 W
 below : Below V0.heap.size V0 W
theorem GoE.later {V0 W W' : World} {sb mb db : Nat} {s most : Int} {w0 : World} {y : XpI w0} (h : GoE V0 sb mb db s most y W) (hb : Below W.heap.size W W') : GoE V0 sb mb db s most y W' :=
 ⟨(hb.block _ h.size.lt).trans h.size, (hb.block _ h.most.lt).trans h.most, fun j v hj => old_cell hb (h.row j v hj), h.keep.trans (hb.mono h.keep.size), h.below.trans (hb.mono h.below.size)⟩

set_option maxRecDepth 100000 in
set_option maxHeartbeats 16000000 in
theorem moduleSize_any {w0 : World} (x : MdI w0) (most : Int) (w : World) (hold : Below w0.heap.size w0 w) (hbig : x.m.bk ≤ 1099511627776) (hm : -1099511627776 ≤ most ∧ most ≤ 9223372036854775807) :
 Calls Tryz.prog 58 #[x.v, .int .i64 most] w fun e w' => (∃ r : Int, e = .returned (.int .i64 r) ∧ Near most r x.m.size) ∧ Below w.heap.size w w' := by
 have hbk := x.m.bk_eq
 have hsb := x.m.size_bk
 have hsz : x.m.size ≤ 1099511627776 := by omega
 have hsd : x.m.size = (1 + x.m.I.length) + (x.m.D.map Dc.size).sum := rfl
 have hDs : (encDc x.m.D).bk ≤ 1099511627776 := by omega
 have hlD := Dc.len_bk x.m.D
 have hlDb : x.m.D.length ≤ 1099511627776 := by omega
 have HO := hid hold
 have ho := hold.size
 have HM := hid hm
 clear hold hm hbk hsb hlD hbig
 have hw0 : wrap64 (1 + (x.m.I.length : Int)) = 1 + (x.m.I.length : Int) := by unfold wrap64; omega
 show Calls Tryz.prog 58 #[.agg #[.string x.m.p, .slice x.aI x.m.I.length x.cI, .slice x.aD x.m.D.length x.cD], .int .i64 most] w _
 refine (callsIn_wide (n := 9)).1 ?_
 refine callsIn_of_wp_marks Tryz.func58 rfl trivial ?_ rfl
 simp only [Tryz.ntmps58, List.size_toArray, List.length_cons, List.length_nil, Nat.reduceAdd, Nat.reduceSub, Array.replicate_succ, Array.replicate_zero, List.push_toArray, List.append_toArray, List.nil_append, List.cons_append]
 gi_wp2_with fail
 obtain ⟨V0, hV0⟩ : ∃ V0, ((((w.alloc (.cells #[.string x.m.p, .slice x.aI x.m.I.length x.cI, .slice x.aD x.m.D.length x.cD] 33)).alloc (.cells #[.int .i64 most] 3)).alloc (.cells #[.int .i64 0] 3)).alloc (.cells #[.int .i64 (1 + (x.m.I.length : Int))] 3)) = V0 := ⟨_, rfl⟩
 have b0 : Boxed V0 (w.heap.size + 1) 3 (.int .i64 most) := by
  rw [← hV0]; have h := ((Boxed.new (w.alloc (.cells #[.string x.m.p, .slice x.aI x.m.I.length x.cI, .slice x.aD x.m.D.length x.cD] 33)) 3 (.int .i64 most)).alloc (.cells #[.int .i64 0] 3)).alloc (.cells #[.int .i64 (1 + (x.m.I.length : Int))] 3)
  simpa only [World.size_alloc] using h
 have b1 : Boxed V0 (w.heap.size + 1 + 1) 3 (.int .i64 0) := by
  rw [← hV0]; have h := (Boxed.new ((w.alloc (.cells #[.string x.m.p, .slice x.aI x.m.I.length x.cI, .slice x.aD x.m.D.length x.cD] 33)).alloc (.cells #[.int .i64 most] 3)) 3 (.int .i64 0)).alloc (.cells #[.int .i64 (1 + (x.m.I.length : Int))] 3)
  simpa only [World.size_alloc] using h
 have b2 : Boxed V0 (w.heap.size + 1 + 1 + 1) 3 (.int .i64 (1 + (x.m.I.length : Int))) := by
  rw [← hV0]; have h := Boxed.new (((w.alloc (.cells #[.string x.m.p, .slice x.aI x.m.I.length x.cI, .slice x.aD x.m.D.length x.cD] 33)).alloc (.cells #[.int .i64 most] 3)).alloc (.cells #[.int .i64 0] 3)) 3 (.int .i64 (1 + (x.m.I.length : Int)))
  simpa only [World.size_alloc] using h
 have hBV : Below w.heap.size w V0 := by
  rw [← hV0]; exact ((((Below.refl _ w).alloc (Nat.le_refl _) _).alloc (by simp) _).alloc (by simp; omega) _).alloc (by simp; omega) _
 rw [hV0]
 clear hV0
 have hNr0 : Near most (1 + (x.m.I.length : Int)) (1 + x.m.I.length) := ⟨by omega, by omega, .inr (by omega)⟩
 refine wpIn_loop (fun a' W => ∃ (Ds : List Nat) (i : Nat) (r : List Dc) (ad : Option Addr) (s : Int) (N0 : Nat) (u0 u1 u2 u6 u7 u8 u9 u10 u11 u12 u13 u17 u18 u19 u20 u21 u22 u23 u24 u25 u26 u27 u28 u29 u30 u31 u32 u33 u34 u35 u36 u37 u38 u39 u40 u41 u42 u43 u44 u45 u46 u47 u48 u49 u50 u51 u52 : Value), a' = { tmps := #[u0, u1, u2, .pointer (some ⟨w.heap.size + 1, 0, none⟩), .pointer (some ⟨w.heap.size + 1 + 1, 0, none⟩), .pointer (some ⟨w.heap.size + 1 + 1 + 1, 0, none⟩), u6, u7, u8, u9, u10, u11, u12, u13, .slice ad x.m.D.length x.cD, .int .i64 (x.m.D.length : Int), .int .i64 (i : Int), u17, u18, u19, u20, u21, u22, u23, u24, u25, u26, u27, u28, u29, u30, u31, u32, u33, u34, u35, u36, u37, u38, u39, u40, u41, u42, u43, u44, u45, u46, u47, u48, u49, u50, u51, u52], defers := marksOf Ds } ∧ Kpt (ad = x.aD) ∧ r.length + i = x.m.D.length ∧ (encDc r).bk ≤ 1099511627776 ∧ Kpt (RowD w0 (encDc r) x.aD (i * 31)) ∧ Near most s N0 ∧ N0 + (r.map Dc.size).sum = x.m.size ∧
  Boxed W (w.heap.size + 1 + 1 + 1) 3 (.int .i64 s) ∧ Boxed W (w.heap.size + 1) 3 (.int .i64 most) ∧ Boxed W (w.heap.size + 1 + 1) 3 (.int .i64 0) ∧ Below w.heap.size w W ∧ w.heap.size + 4 ≤ W.heap.size ∧ Marks (w.heap.size + 4) Ds W) (fun a' _ => x.m.D.length - (intOf (a'.tmps.getD 16 undef)).toNat) ?start ?round
 case start => exact ⟨[], 0, x.m.D, x.aD, _, _, _, _, _, _, _, _, _, _, _, _, _, _, _, _, _, _, _, _, _, _, _, _, _, _, _, _, _, _, _, _, _, _, _, _, _, _, _, _, _, _, _, _, _, _, _, _, _, rfl, ⟨rfl⟩, by omega, hDs, ⟨rowD_zero x.hD⟩, hNr0, hsd.symm, b2, b0, b1, hBV, by have := b2.lt; omega, Marks.nil _ _⟩
 case round =>
  rintro a' W ⟨Ds, i, r, ad, s, N0, u0, u1, u2, u6, u7, u8, u9, u10, u11, u12, u13, u17, u18, u19, u20, u21, u22, u23, u24, u25, u26, u27, u28, u29, u30, u31, u32, u33, u34, u35, u36, u37, u38, u39, u40, u41, u42, u43, u44, u45, u46, u47, u48, u49, u50, u51, u52, rfl, had, hri, hrs, hRL, hN, hNs, h1, h2, h3, hB, hsw, hM⟩
  clear b0 b1 b2 hBV hNr0 hsd hDs hw0
  cases r with
  | nil =>
   have hi9 : i = x.m.D.length := by simp only [List.length_nil] at hri; omega
   subst hi9
   have hN9 : N0 = x.m.size := by simpa using hNs
   rw [hN9] at hN
   have c0 := h1.cell
   have c1 := h3.cell
   have c2 := h3.frozen
   have HH := hid (And.intro h1 (And.intro h3 (And.intro hB (And.intro hM hN))))
   clear h1 h2 h3 hB hM hN hN9 hNs hRL hrs hri
   gi_wp2_with fail
   have hkr := KeepX.set W (w.heap.size + 1 + 1) (.int .i64 s)
   have m1 : Boxed (W.setCell ⟨w.heap.size + 1 + 1, 0, none⟩ (.int .i64 s)) (w.heap.size + 1 + 1) 3 (.int .i64 s) := HH.out.2.1.set _
   have hbr : Below (w.heap.size + 1 + 1) W (W.setCell ⟨w.heap.size + 1 + 1, 0, none⟩ (.int .i64 s)) := below_set W _ (Nat.le_refl _)
   refine leaves_marks (b := w.heap.size + 4) Ds _ (HH.out.2.2.2.1.keepX hkr (fun i hi => by omega)) fun w' hb' => ?_
   have m0 := Boxed.cell (t := 3) ((hb'.block _ (by omega)).trans m1)
   exact ⟨.int .i64 s, by simp [results, Tryz.results58, go_sem, m0], ⟨s, rfl, HH.out.2.2.2.2⟩, HH.out.2.2.1.trans ((hbr.mono (by omega)).trans (hb'.mono (by omega)))⟩
  | cons y r' =>
   have hlt : i < x.m.D.length := by simp only [List.length_cons] at hri; omega
   obtain ⟨b, o, p, haD, hp, hc, hr1⟩ := rowD_dcR hRL.out
   subst hp
   obtain rfl : ad = some ⟨b, o, none⟩ := had.out.trans haD
   have HAD := hid haD
   clear had
   have hwr := HO.out.trans (hB.mono ho)
   have hca := rangeAt_old hwr hc
   have hpl := p.size
   have hpo := p.one
   obtain ⟨pa, hpa⟩ : ∃ l, p.cells.toList = l := ⟨_, rfl⟩
   have hpc : p.cells = pa.toArray := by rw [← hpa, Array.toArray_toList]
   obtain ⟨wb, hwb⟩ : ∃ wb, W.alloc (.cells pa.toArray 75) = wb := ⟨_, rfl⟩
   have hbb : Below W.heap.size W wb := by rw [← hwb]; exact (Below.refl _ W).alloc (Nat.le_refl _) _
   have hsb1 : wb.heap.size = W.heap.size + 1 := by rw [← hwb]; simp
   have hebo : wb.heap[W.heap.size]? = some (.cells pa.toArray 75 (0, 0)) := by rw [← hwb]; exact World.alloc_heap_new _ _
   have hlit : (Obj.cells pa.toArray 75 (0, 0)) = .cells #[.int .i64 p.d.k, .string p.d.nm, .bool p.d.ex, .bool p.d.dp, .string p.d.note, .slice p.aP p.d.P.length p.cP, .int .i64 p.lo.t.k, .string p.lo.t.m, .string p.lo.t.n, .slice p.lo.aa p.lo.t.A.len p.lo.ca, .slice p.lo.af p.lo.t.F.len p.lo.cf, .int .i64 p.up.t.k, .string p.up.t.m, .string p.up.t.n, .slice p.up.aa p.up.t.A.len p.up.ca, .slice p.up.af p.up.t.F.len p.up.cf, .int .i64 p.t.t.k, .string p.t.t.m, .string p.t.t.n, .slice p.t.aa p.t.t.A.len p.t.ca, .slice p.t.af p.t.t.F.len p.t.cf, .int .i64 p.e.e.k, .string p.e.e.m, .string p.e.e.n, .string p.e.e.tx, .int .i64 p.e.e.num, .slice p.e.aT p.e.e.T.len p.e.cT, .slice p.e.aL p.e.e.L.length p.e.cL, .slice p.e.aK p.e.e.K.len p.e.cK, .string p.d.m, .string p.d.tg] 75 (0, 0) := by rw [← hpc]; rfl
   have g5 := cell_of_row wb _ 5 _ _ _ (hebo.trans (congrArg some hlit))
   have hsz1 : N0 + p.d.size + (r'.map Dc.size).sum = x.m.size := by simp only [List.map_cons, List.sum_cons] at hNs; omega
   have hdz := p.d.size_tys
   have hPs : p.d.P.length ≤ p.d.size := by omega
   have hN00 := hN.1
   have hN01 := hN.2.1
   have hrs' : (encDc r').bk ≤ 1099511627776 ∧ p.d.e.bk ≤ 1099511627776 := by have h := encDc_bk p.d r'; have h2 := p.d.e.bk_eq; exact ⟨by omega, by omega⟩
   have q1 : Boxed wb (w.heap.size + 1 + 1 + 1) 3 (.int .i64 s) := (hbb.block _ (by omega)).trans h1
   have q2 : Boxed wb (w.heap.size + 1) 3 (.int .i64 most) := (hbb.block _ (by omega)).trans h2
   have q3 : Boxed wb (w.heap.size + 1 + 1) 3 (.int .i64 0) := (hbb.block _ (by omega)).trans h3
   have c0 := q1.cell
   have c1 := q1.frozen
   have hN1 : Near most (s + (1 + (p.d.P.length : Int))) (N0 + (1 + p.d.P.length)) := by have h := hN.one (1 + p.d.P.length); simpa using h
   obtain ⟨wc, hwc⟩ : ∃ wc, wb.setCell ⟨w.heap.size + 1 + 1 + 1, 0, none⟩ (.int .i64 (s + (1 + (p.d.P.length : Int)))) = wc := ⟨_, rfl⟩
   have hkc : KeepX (fun i => i = w.heap.size + 1 + 1 + 1) wb wc := by rw [← hwc]; exact KeepX.set wb _ _
   have hbc : Below (w.heap.size + 1 + 1) wb wc := by rw [← hwc]; exact below_set wb _ (by omega)
   have k1 : Boxed wc (w.heap.size + 1 + 1 + 1) 3 (.int .i64 (s + (1 + (p.d.P.length : Int)))) := by rw [← hwc]; exact q1.set _
   have k2 : Boxed wc (w.heap.size + 1) 3 (.int .i64 most) := (hkc.2 _ q2.lt (by omega)).trans q2
   have k3 : Boxed wc (w.heap.size + 1 + 1) 3 (.int .i64 0) := (hkc.2 _ q3.lt (by omega)).trans q3
   have hsc := hkc.1
   have hebc : wc.heap[W.heap.size]? = some (.cells pa.toArray 75 (0, 0)) := (hkc.2 _ (by omega) (by omega)).trans hebo
   have hBc : Below w.heap.size w wc := hB.trans ((hbb.mono hB.size).trans (hbc.mono (by omega)))
   have hMc : Marks (w.heap.size + 4) Ds wc := (hM.below hbb).keepX hkc (fun i hi => by omega)
   have hwl1 : wrap64 (1 + (p.d.P.length : Int)) = 1 + (p.d.P.length : Int) := wrap_ok (bound_len hPs hsz1 hsz).1 (bound_len hPs hsz1 hsz).2
   have hwl2 : wrap64 (s + (1 + (p.d.P.length : Int))) = s + (1 + (p.d.P.length : Int)) := wrap_ok (bound_head hN00 hN01 hPs hsz1 hsz).1 (bound_head hN00 hN01 hPs hsz1 hsz).2
   have HDT : Kpt (∀ W, Calls Tryz.prog 103 #[.agg pa.toArray] W _) := hid (fun W => by rw [← hpc]; exact declTypes_any p W)
   have HTR : Kpt (∀ W, KeepX (fun _ => False) w0 W → Calls Tryz.prog 162 #[.agg pa.toArray] W fun e W' => e = .returned (.bool (p.d.lo.eq p.d.t && p.d.up.eq p.d.t)) ∧ Below W.heap.size W W') := hid (fun W hk => by rw [← hpc]; exact tr_any w0 p r' hrs W hk)
   have HZ := hid (And.intro k1 (And.intro k2 (And.intro k3 (And.intro hBc (And.intro hMc (And.intro hebc (And.intro hN1 (And.intro hr1 (And.intro hrs' (And.intro hsz1 hdz))))))))))
   have HC := hid hca
   rw [hpa] at HC hpl
   rw [hpc] at hpo
   have HPL := hid (hpl : pa.length = 31)
   have HPZ := hid (show 31 = pa.toArray.size by simp [HPL.out])
   have HPO := hid (hpo : pa.toArray.all (·.oneCell') = true)
   have HWB := hid hwb
   have HLIT := hid hlit
   have HPC := hid hpc
   have HR9 := hid hri
   have HRG : Kpt (wc.rangeAt W.heap.size 0 pa) := hid (range_of_row hebc)
   clear h1 h2 h3 hB hM hN hNs hRL hrs hri hc hr1 hca hpl hpo hpa hpc hwb hbb hebo hlit hsz1 hdz q1 q2 q3 hN1 hkc hbc k1 k2 k3 hebc hBc hMc hwr haD hrs' hPs hN00 hN01
   gi_wp2_with (first
    | (with_reducible refine wpListIn_load_mid rfl 75 _ rfl b (o + i * 31) rfl pa _ HC.out Tryz.underlying75 rfl (by rw [HPL.out]; kernel_rfl) ?_)
    | (with_reducible refine wpListIn_load_mid rfl 75 _ rfl W.heap.size 0 rfl pa _ HRG.out Tryz.underlying75 rfl (by rw [HPL.out]; kernel_rfl) ?_)
    | (with_reducible refine wpListIn_run_alloc rfl 75 rfl ZDc (by kernel_rfl) ?_)
    | (with_reducible refine wpListIn_store_fresh rfl 75 _ _ rfl rfl W.heap.size rfl pa.toArray rfl rfl 75 _ (by rw [← HPZ.out]; kernel_rfl) (ZDc_size.trans HPZ.out) HPO.out HWB.out ?_))
   refine ⟨trivial, callsIn_wide.2 ((HDT.out wc).mono ?_)⟩
   rintro e Wd ⟨rfl, hWd'⟩
   rw [HPC.out] at hWd'
   have HWd := hid hWd'
   clear hWd' hwc
   gi_wp2_with fail
   have hWd := HWd.out
   have hbd : Below wc.heap.size wc Wd := by rw [hWd]; exact (Below.refl _ wc).alloc (Nat.le_refl _) _
   have hxd : Wd.heap[wc.heap.size]? = some (.cells pa.toArray 75 (0, 0)) := by rw [hWd]; exact World.alloc_heap_new _ _
   have hsd1 : Wd.heap.size = wc.heap.size + 1 := by rw [hWd]; simp
   clear HWd hWd
   have d1 : Boxed Wd (w.heap.size + 1 + 1 + 1) 3 (.int .i64 (s + (1 + (p.d.P.length : Int)))) := (hbd.block _ (by omega)).trans HZ.out.1
   have d2 : Boxed Wd (w.heap.size + 1) 3 (.int .i64 most) := (hbd.block _ (by omega)).trans HZ.out.2.1
   have d3 : Boxed Wd (w.heap.size + 1 + 1) 3 (.int .i64 0) := (hbd.block _ (by omega)).trans HZ.out.2.2.1
   have hBd : Below w.heap.size w Wd := HZ.out.2.2.2.1.trans (hbd.mono (by omega))
   have hOd : KeepX (fun _ => False) w0 Wd := KeepX.of_below (HO.out.trans (hBd.mono ho))
   have hMd : Marks (w.heap.size + 4) Ds Wd := HZ.out.2.2.2.2.1.below hbd
   have hed : Wd.heap[W.heap.size]? = some (.cells pa.toArray 75 (0, 0)) := (hbd.block _ (by omega)).trans HZ.out.2.2.2.2.2.1
   have hN1 := HZ.out.2.2.2.2.2.2.1
   have hrs' := HZ.out.2.2.2.2.2.2.2.2.1
   have hsz1 := HZ.out.2.2.2.2.2.2.2.2.2.1
   have hdz := HZ.out.2.2.2.2.2.2.2.2.2.2
   have hPle : p.d.P.length < 9223372036854775807 := by omega
   have htot : N0 + (1 + p.d.P.length) + (p.d.tys.map Ty.size).sum ≤ x.m.size := by omega
   obtain ⟨N1, hN1e⟩ : ∃ N1, N0 + (1 + p.d.P.length) = N1 := ⟨_, rfl⟩
   rw [hN1e] at hN1 htot
   have H9 := hid (And.intro hbd (And.intro d1 (And.intro d2 (And.intro d3 (And.intro hMd hed)))))
   have HD9 := hid (And.intro hsz1 (And.intro hdz (And.intro hrs' hN1e)))
   clear hbd hMd hed d2 d3 hsz1 hdz hrs' hN1e g5 c0 c1
   refine range_box 8 25 (fun z : TyI w0 => z.cells) (gf := 161) (lb := #[.pointer (some ⟨wc.heap.size, 0, none⟩)]) rfl (enters_of Tryz.func161 (by kernel_rfl) rfl)
    (decl_seq w0 p hPle pa HPL.out HPC.out HTR.out wc.heap.size Wd hxd hOd (fun i => i = w.heap.size + 1 + 1 + 1) (fun i hi => ⟨by omega, by omega⟩)) (fun i hi => by omega) (Below.refl _ _) (fun _ => rfl)
    (fun pre2 W' => KeepX (fun i => i = w.heap.size + 1 + 1 + 1) Wd W' ∧ Below w.heap.size w W' ∧ ∃ r2 : Int, Boxed W' (w.heap.size + 1 + 1 + 1) 3 (.int .i64 r2) ∧ Near most r2 (N1 + ((pre2.map (·.t)).map Ty.size).sum))
    (fun c _ W' => c = .ret ∧ KeepX (fun i => i = w.heap.size + 1 + 1 + 1 ∨ i = w.heap.size + 1 + 1) Wd W' ∧ Below w.heap.size w W' ∧ ∃ r2 : Int, Boxed W' (w.heap.size + 1 + 1) 3 (.int .i64 r2) ∧ Near most r2 x.m.size)
    ?hI ?hIx ⟨KeepX.refl _ _, hBd, _, d1, hN1⟩ ?assign ?body ?done ?stop
   case hI =>
    rintro s2 A B ⟨g1, g0, r2, g2, g3⟩ hb
    exact ⟨⟨Nat.le_trans g1.1 hb.size, fun i hi hx => (hb.block i hi).trans (g1.2 i hi hx)⟩, g0.trans (hb.mono (by omega)), r2, (hb.block _ (by omega)).trans g2, g3⟩
   case hIx =>
    rintro c s2 A B ⟨g, g1, g0, r2, g2, g3⟩ hb
    exact ⟨g, ⟨Nat.le_trans g1.1 hb.size, fun i hi hx => (hb.block i hi).trans (g1.2 i hi hx)⟩, g0.trans (hb.mono (by omega)), r2, (hb.block _ (by omega)).trans g2, g3⟩
   case assign =>
    intro m2 l2 z W2
    dsimp only [TyI.v, TyI.cells]
    gi_wp2_with fail
    exact ⟨trivial, by simp⟩
   case body =>
    rintro m2 l2 Bz pre2 z W10 hl2 hlB2 hwB2 hBW2 hbz ⟨rl, hrl⟩ ⟨g1, hB10, r2, g2, g4⟩ hv2
    gi_wp2_with fail
    refine wpIn_region_any (by kernel_rfl) ?_
    change wpAnyIn _ _ _ _ _ _ 8 _ _ (World.drew _)
    have hkz : Below w0.heap.size w0 W10 := HO.out.trans (hB10.mono ho)
    have hmz : Boxed W10 (w.heap.size + 1) 3 (.int .i64 most) := (g1.2 _ (by omega) (by omega)).trans H9.out.2.2.1
    have hrz : Boxed W10 (w.heap.size + 1 + 1) 3 (.int .i64 0) := (g1.2 _ (by omega) (by omega)).trans H9.out.2.2.2.1
    have hG0 : GoZ W10 (w.heap.size + 1 + 1 + 1) (w.heap.size + 1) Bz r2 most z W10.drew := GoZ.later ⟨g2, hmz, hbz, hkz, Below.refl _ _⟩ (Below.refl _ W10).drew
    have htz : z.t.size ≤ (p.d.tys.map Ty.size).sum := mem_sum (List.mem_map_of_mem (mem_of_snoc (by rw [← List.map_singleton (f := TyI.t), ← List.map_append]; exact hv2)))
    have hsz2 : ((pre2.map (·.t)).map Ty.size).sum + z.t.size ≤ (p.d.tys.map Ty.size).sum := by
     have h := sum_prefix (hv2.map Ty.size)
     simp only [List.map_append, List.sum_append, List.map_cons, List.map_nil, List.sum_cons, List.sum_nil] at h
     omega
    have hg42 := g4.2.1
    have hg41 := g4.1
    have hzs : (((pre2 ++ [z]).map (·.t)).map Ty.size).sum = ((pre2.map (·.t)).map Ty.size).sum + z.t.size := by
     simp only [List.map_append, List.sum_append, List.map_cons, List.map_nil, List.sum_cons, List.sum_nil]
     omega
    have hN2 : Near most (r2 + tsz z.t.size (most - r2)) (N1 + (((pre2 ++ [z]).map (·.t)).map Ty.size).sum) := by rw [hzs, ← Nat.add_assoc]; exact g4.add z.t.size_pos
    have hN21 := hN2.2.1
    have hN20 := hN2.1
    have hlt1 : 1 ≤ tsz z.t.size (most - r2) := by unfold tsz; have := z.t.size_pos; split <;> omega
    have hw1 : wrap64 (most - r2) = most - r2 := by have := HM.out; unfold wrap64; omega
    have hw2 : wrap64 (r2 + tsz z.t.size (most - r2)) = r2 + tsz z.t.size (most - r2) := wrap_ok (by omega) (by omega)
    have hNle : N1 + (((pre2 ++ [z]).map (·.t)).map Ty.size).sum ≤ x.m.size := by omega
    have HFin := hid (And.intro g1 (And.intro hN2 (And.intro hB10 (And.intro hrz hNle))))
    have hbt : z.t.size ≤ 1099511627776 := by omega
    have HCall : Kpt (∀ W, Below w0.heap.size w0 W → Calls Tryz.prog 54 #[.agg #[.int .i64 z.t.k, .string z.t.m, .string z.t.n, .slice z.aa z.t.A.len z.ca, .slice z.af z.t.F.len z.cf], .int .i64 (most - r2)] W _) := hid (fun W hk => typeSize0_any z.t z.v (most - r2) W (TyV_below z.tyV hk) hbt)
    have HG0 := hid hG0
    have HV1 := hid (Below.refl W10.heap.size W10).drew
    clear hG0 hkz hmz htz hsz2 hg42 hg41 hzs hN2 hbt g1 g2 g4 hbz hrl hrz
    generalize W10.drew = V1 at HG0 HV1 ⊢
    refine wpAnyIn_flow (n := 7) (Fact := FactZ r2 most z) (Fx := FxM (w.heap.size + 1 + 1 + 1) (w.heap.size + 1) (w.heap.size + 1 + 1) Bz) (G := GoZ W10 (w.heap.size + 1 + 1 + 1) (w.heap.size + 1) Bz r2 most z) (Rel := fun _ _ _ => True) (by kernel_rfl) ?back ?last ?step ?tail 8 _ _ _ ⟨rfl, rfl, ⟨_, _, _, _, _, _, _, _, _, _, _, _, _, _, _, _, _, _, _, _, _, _, _, _, _, _, _, _, _, _, _, _, _, _, _, _, _, _, _, _, _, _, _, _, _, _, _, _, _, rfl⟩, HG0.out, trivial, fun i hi hl => ?l0⟩ ?un
    case back => exact flow_back_of (by kernel_rfl)
    case last => exact flow_last_of (by kernel_rfl)
    case l0 => rw [getD_replicate_false] at hl; cases hl
    case un => decide
    case step =>
     rintro i hi listed a W hls hun hR ⟨u0, u1, u2, u6, u7, u9, u10, u11, u12, u13, u14, u15, u16, u17, u18, u19, u20, u21, u22, u23, u24, u25, u26, u27, u28, u29, u30, u31, u32, u33, u34, u35, u36, u37, u38, u39, u40, u41, u42, u43, u44, u45, u46, u47, u48, u49, u50, u51, u52, rfl⟩ hG hw
     rcases (by omega : i = 0 ∨ i = 1 ∨ i = 2 ∨ i = 3 ∨ i = 4 ∨ i = 5 ∨ i = 6) with rfl | rfl | rfl | rfl | rfl | rfl | rfl
     · have c0 := hG.size.cell
       refine wpOpIn_of_list (i := 0) rfl ?_
       gi_wp2_with fail
       first | exact ⟨⟨_, _, _, _, _, _, _, _, _, _, _, _, _, _, _, _, _, _, _, _, _, _, _, _, _, _, _, _, _, _, _, _, _, _, _, _, _, _, _, _, _, _, _, _, _, _, _, _, _, rfl⟩, hG, (by first | exact rfl | rfl), (fun j hj hne => by rcases (by omega : j = 0 ∨ j = 1 ∨ j = 2 ∨ j = 3 ∨ j = 4 ∨ j = 5 ∨ j = 6) with rfl | rfl | rfl | rfl | rfl | rfl | rfl <;> first | exact absurd rfl hne | rfl), fun j v h => FactZ.any j v _ _ h⟩ | exact ⟨⟨_, _, _, _, _, _, _, _, _, _, _, _, _, _, _, _, _, _, _, _, _, _, _, _, _, _, _, _, _, _, _, _, _, _, _, _, _, _, _, _, _, _, _, _, _, _, _, _, _, rfl⟩, hG, (by first | exact rfl | rfl), (fun j hj hne => by rcases (by omega : j = 0 ∨ j = 1 ∨ j = 2 ∨ j = 3 ∨ j = 4 ∨ j = 5 ∨ j = 6) with rfl | rfl | rfl | rfl | rfl | rfl | rfl <;> first | exact absurd rfl hne | rfl), fun j v h => FactZ.any j v _ _ h, trivial⟩
     · have c0 := cell_of_row W Bz 0 _ _ _ hG.row
       have c1 := cell_of_row W Bz 1 _ _ _ hG.row
       have c2 := cell_of_row W Bz 2 _ _ _ hG.row
       have c3 := cell_of_row W Bz 3 _ _ _ hG.row
       have c4 := cell_of_row W Bz 4 _ _ _ hG.row
       refine wpOpIn_of_list (i := 1) rfl ?_
       gi_wp2_with fail
       first | exact ⟨⟨_, _, _, _, _, _, _, _, _, _, _, _, _, _, _, _, _, _, _, _, _, _, _, _, _, _, _, _, _, _, _, _, _, _, _, _, _, _, _, _, _, _, _, _, _, _, _, _, _, rfl⟩, hG, (by first | exact rfl | rfl), (fun j hj hne => by rcases (by omega : j = 0 ∨ j = 1 ∨ j = 2 ∨ j = 3 ∨ j = 4 ∨ j = 5 ∨ j = 6) with rfl | rfl | rfl | rfl | rfl | rfl | rfl <;> first | exact absurd rfl hne | rfl), fun j v h => FactZ.any j v _ _ h⟩ | exact ⟨⟨_, _, _, _, _, _, _, _, _, _, _, _, _, _, _, _, _, _, _, _, _, _, _, _, _, _, _, _, _, _, _, _, _, _, _, _, _, _, _, _, _, _, _, _, _, _, _, _, _, rfl⟩, hG, (by first | exact rfl | rfl), (fun j hj hne => by rcases (by omega : j = 0 ∨ j = 1 ∨ j = 2 ∨ j = 3 ∨ j = 4 ∨ j = 5 ∨ j = 6) with rfl | rfl | rfl | rfl | rfl | rfl | rfl <;> first | exact absurd rfl hne | rfl), fun j v h => FactZ.any j v _ _ h, trivial⟩
     · have c0 := hG.most.cell
       refine wpOpIn_of_list (i := 2) rfl ?_
       gi_wp2_with fail
       first | exact ⟨⟨_, _, _, _, _, _, _, _, _, _, _, _, _, _, _, _, _, _, _, _, _, _, _, _, _, _, _, _, _, _, _, _, _, _, _, _, _, _, _, _, _, _, _, _, _, _, _, _, _, rfl⟩, hG, (by first | exact rfl | rfl), (fun j hj hne => by rcases (by omega : j = 0 ∨ j = 1 ∨ j = 2 ∨ j = 3 ∨ j = 4 ∨ j = 5 ∨ j = 6) with rfl | rfl | rfl | rfl | rfl | rfl | rfl <;> first | exact absurd rfl hne | rfl), fun j v h => FactZ.any j v _ _ h⟩ | exact ⟨⟨_, _, _, _, _, _, _, _, _, _, _, _, _, _, _, _, _, _, _, _, _, _, _, _, _, _, _, _, _, _, _, _, _, _, _, _, _, _, _, _, _, _, _, _, _, _, _, _, _, rfl⟩, hG, (by first | exact rfl | rfl), (fun j hj hne => by rcases (by omega : j = 0 ∨ j = 1 ∨ j = 2 ∨ j = 3 ∨ j = 4 ∨ j = 5 ∨ j = 6) with rfl | rfl | rfl | rfl | rfl | rfl | rfl <;> first | exact absurd rfl hne | rfl), fun j v h => FactZ.any j v _ _ h, trivial⟩
     · have c0 := hG.size.cell
       refine wpOpIn_of_list (i := 3) rfl ?_
       gi_wp2_with fail
       first | exact ⟨⟨_, _, _, _, _, _, _, _, _, _, _, _, _, _, _, _, _, _, _, _, _, _, _, _, _, _, _, _, _, _, _, _, _, _, _, _, _, _, _, _, _, _, _, _, _, _, _, _, _, rfl⟩, hG, (by first | exact rfl | rfl), (fun j hj hne => by rcases (by omega : j = 0 ∨ j = 1 ∨ j = 2 ∨ j = 3 ∨ j = 4 ∨ j = 5 ∨ j = 6) with rfl | rfl | rfl | rfl | rfl | rfl | rfl <;> first | exact absurd rfl hne | rfl), fun j v h => FactZ.any j v _ _ h⟩ | exact ⟨⟨_, _, _, _, _, _, _, _, _, _, _, _, _, _, _, _, _, _, _, _, _, _, _, _, _, _, _, _, _, _, _, _, _, _, _, _, _, _, _, _, _, _, _, _, _, _, _, _, _, rfl⟩, hG, (by first | exact rfl | rfl), (fun j hj hne => by rcases (by omega : j = 0 ∨ j = 1 ∨ j = 2 ∨ j = 3 ∨ j = 4 ∨ j = 5 ∨ j = 6) with rfl | rfl | rfl | rfl | rfl | rfl | rfl <;> first | exact absurd rfl hne | rfl), fun j v h => FactZ.any j v _ _ h, trivial⟩
     · obtain rfl : u31 = .int .i64 most := hw 2 (by kernel_rfl)
       obtain rfl : u32 = .int .i64 r2 := hw 3 (by kernel_rfl)
       refine wpOpIn_of_list (i := 4) rfl ?_
       gi_wp2_with fail
       first | exact ⟨⟨_, _, _, _, _, _, _, _, _, _, _, _, _, _, _, _, _, _, _, _, _, _, _, _, _, _, _, _, _, _, _, _, _, _, _, _, _, _, _, _, _, _, _, _, _, _, _, _, _, rfl⟩, hG, (by first | exact congrArg (Value.int .i64) hw1 | rfl), (fun j hj hne => by rcases (by omega : j = 0 ∨ j = 1 ∨ j = 2 ∨ j = 3 ∨ j = 4 ∨ j = 5 ∨ j = 6) with rfl | rfl | rfl | rfl | rfl | rfl | rfl <;> first | exact absurd rfl hne | rfl), fun j v h => FactZ.any j v _ _ h⟩ | exact ⟨⟨_, _, _, _, _, _, _, _, _, _, _, _, _, _, _, _, _, _, _, _, _, _, _, _, _, _, _, _, _, _, _, _, _, _, _, _, _, _, _, _, _, _, _, _, _, _, _, _, _, rfl⟩, hG, (by first | exact congrArg (Value.int .i64) hw1 | rfl), (fun j hj hne => by rcases (by omega : j = 0 ∨ j = 1 ∨ j = 2 ∨ j = 3 ∨ j = 4 ∨ j = 5 ∨ j = 6) with rfl | rfl | rfl | rfl | rfl | rfl | rfl <;> first | exact absurd rfl hne | rfl), fun j v h => FactZ.any j v _ _ h, trivial⟩
     · obtain rfl : u30 = .agg #[.int .i64 z.t.k, .string z.t.m, .string z.t.n, .slice z.aa z.t.A.len z.ca, .slice z.af z.t.F.len z.cf] := hw 1 (by kernel_rfl)
       obtain rfl : u33 = .int .i64 (most - r2) := hw 4 (by kernel_rfl)
       refine wpOpIn_of_list (i := 5) rfl ?_
       gi_wp2_with fail
       refine ⟨trivial, fun h => (by cases h), CallsIn.inRound l2 (callsIn_wide.2 ((HCall.out W hG.keep).mono ?_))⟩
       rintro e W2 ⟨rfl, hb2⟩
       have HB2 := hid hb2
       clear hb2
       gi_wp2_with fail
       first | exact ⟨⟨_, _, _, _, _, _, _, _, _, _, _, _, _, _, _, _, _, _, _, _, _, _, _, _, _, _, _, _, _, _, _, _, _, _, _, _, _, _, _, _, _, _, _, _, _, _, _, _, _, rfl⟩, hG.later HB2.out, rfl, (fun j hj hne => by rcases (by omega : j = 0 ∨ j = 1 ∨ j = 2 ∨ j = 3 ∨ j = 4 ∨ j = 5 ∨ j = 6) with rfl | rfl | rfl | rfl | rfl | rfl | rfl <;> first | exact absurd rfl hne | rfl), fun j v h => FactZ.any j v _ _ h⟩ | exact ⟨⟨_, _, _, _, _, _, _, _, _, _, _, _, _, _, _, _, _, _, _, _, _, _, _, _, _, _, _, _, _, _, _, _, _, _, _, _, _, _, _, _, _, _, _, _, _, _, _, _, _, rfl⟩, hG.later HB2.out, rfl, (fun j hj hne => by rcases (by omega : j = 0 ∨ j = 1 ∨ j = 2 ∨ j = 3 ∨ j = 4 ∨ j = 5 ∨ j = 6) with rfl | rfl | rfl | rfl | rfl | rfl | rfl <;> first | exact absurd rfl hne | rfl), fun j v h => FactZ.any j v _ _ h, trivial⟩
     · obtain rfl : u29 = .int .i64 r2 := hw 0 (by kernel_rfl)
       obtain rfl : u34 = .int .i64 (tsz z.t.size (most - r2)) := hw 5 (by kernel_rfl)
       refine wpOpIn_of_list (i := 6) rfl ?_
       gi_wp2_with fail
       first | exact ⟨⟨_, _, _, _, _, _, _, _, _, _, _, _, _, _, _, _, _, _, _, _, _, _, _, _, _, _, _, _, _, _, _, _, _, _, _, _, _, _, _, _, _, _, _, _, _, _, _, _, _, rfl⟩, hG, (by first | exact congrArg (Value.int .i64) hw2 | rfl), (fun j hj hne => by rcases (by omega : j = 0 ∨ j = 1 ∨ j = 2 ∨ j = 3 ∨ j = 4 ∨ j = 5 ∨ j = 6) with rfl | rfl | rfl | rfl | rfl | rfl | rfl <;> first | exact absurd rfl hne | rfl), fun j v h => FactZ.any j v _ _ h⟩ | exact ⟨⟨_, _, _, _, _, _, _, _, _, _, _, _, _, _, _, _, _, _, _, _, _, _, _, _, _, _, _, _, _, _, _, _, _, _, _, _, _, _, _, _, _, _, _, _, _, _, _, _, _, rfl⟩, hG, (by first | exact congrArg (Value.int .i64) hw2 | rfl), (fun j hj hne => by rcases (by omega : j = 0 ∨ j = 1 ∨ j = 2 ∨ j = 3 ∨ j = 4 ∨ j = 5 ∨ j = 6) with rfl | rfl | rfl | rfl | rfl | rfl | rfl <;> first | exact absurd rfl hne | rfl), fun j v h => FactZ.any j v _ _ h, trivial⟩
    case tail =>
     rintro listed a W hall hR ⟨u0, u1, u2, u6, u7, u9, u10, u11, u12, u13, u14, u15, u16, u17, u18, u19, u20, u21, u22, u23, u24, u25, u26, u27, u28, u29, u30, u31, u32, u33, u34, u35, u36, u37, u38, u39, u40, u41, u42, u43, u44, u45, u46, u47, u48, u49, u50, u51, u52, rfl⟩ hG hw
     obtain rfl : u35 = .int .i64 (r2 + tsz z.t.size (most - r2)) := hw 6 (by omega)
     have c0 := hG.size.cell
     have c1 := hG.size.frozen
     have HGk := hid hG
     obtain ⟨Ws, hWs⟩ : ∃ Ws, W.setCell ⟨w.heap.size + 1 + 1 + 1, 0, none⟩ (.int .i64 (r2 + tsz z.t.size (most - r2))) = Ws := ⟨_, rfl⟩
     have hks : KeepX (fun i => i = w.heap.size + 1 + 1 + 1) W Ws := by rw [← hWs]; exact KeepX.set W _ _
     have hbs : Below (w.heap.size + 1 + 1) W Ws := by rw [← hWs]; exact below_set W _ (by omega)
     have hss : Boxed Ws (w.heap.size + 1 + 1 + 1) 3 (.int .i64 (r2 + tsz z.t.size (most - r2))) := by rw [← hWs]; exact hG.size.set _
     have hkk : KeepX (fun i => i = w.heap.size + 1 + 1 + 1) W10 Ws := (KeepX.of_below hG.below).trans hks
     have hBs : Below w.heap.size w Ws := HFin.out.2.2.1.trans ((hG.below.mono (by omega)).trans (hbs.mono (by omega)))
     have hms : Boxed Ws (w.heap.size + 1) 3 (.int .i64 most) := (hks.2 _ hG.most.lt (by omega)).trans hG.most
     have hrs : Boxed Ws (w.heap.size + 1 + 1) 3 (.int .i64 0) := (hkk.2 _ (by have := HFin.out.2.2.2.1.lt; omega) (by omega)).trans HFin.out.2.2.2.1
     have q1 := hss.cell
     have q2 := hms.cell
     have q3 := hrs.cell
     have q4 := hrs.frozen
     have HS := hid (And.intro hss (And.intro hkk (And.intro hBs hrs)))
     clear hG hw hks hbs hss hkk hBs hms hrs
     refine wpOpIn_of_list (i := 7) rfl ?_
     by_cases hgt : most < r2 + tsz z.t.size (most - r2)
     · gi_wp2_with fail
       clear hWs
       have hkr := KeepX.set Ws (w.heap.size + 1 + 1) (.int .i64 (r2 + tsz z.t.size (most - r2)))
       have hbr : Below (w.heap.size + 1 + 1) Ws (Ws.setCell ⟨w.heap.size + 1 + 1, 0, none⟩ (.int .i64 (r2 + tsz z.t.size (most - r2)))) := below_set Ws _ (Nat.le_refl _)
       exact ⟨(HS.out.2.1.mono (fun i hi => by show i < Wd.heap.size; omega)).trans (hkr.mono (fun i hi => by show i < Wd.heap.size; omega)), rfl, (HFin.out.1.mono (fun i hi => .inl hi)).trans ((HS.out.2.1.mono (fun i hi => .inl hi)).trans (hkr.mono (fun i hi => .inr hi))), HS.out.2.2.1.trans (hbr.mono (by omega)), _, HS.out.2.2.2.set _, HFin.out.2.1.more hgt HFin.out.2.2.2.2⟩
     · gi_wp2_with fail
       exact ⟨HS.out.2.1, HFin.out.1.trans HS.out.2.1, HS.out.2.2.1, _, HS.out.1, by first | exact HFin.out.2.1 | (have h := HFin.out.2.1; rw [List.map_map] at h; exact h)⟩
   case done =>
    rintro D xs W9 hD hS ⟨g1, hB9, r2, h91, hN9⟩ hK
    rw [hS] at hN9
    have hn : D ∉ Ds := fun h => by have := (H9.out.2.2.2.2.1.all D h).2.1; omega
    have hM9 : Marks (w.heap.size + 4) (D :: Ds) W9 := (H9.out.2.2.2.2.1.keepX g1 (fun i hi => by omega)).cons (by omega) hn hK
    have h92 : Boxed W9 (w.heap.size + 1) 3 (.int .i64 most) := (g1.2 _ (by omega) (by omega)).trans H9.out.2.2.1
    have h93 : Boxed W9 (w.heap.size + 1 + 1) 3 (.int .i64 0) := (g1.2 _ (by omega) (by omega)).trans H9.out.2.2.2.1
    have heb9 : W9.heap[W.heap.size]? = some (.cells pa.toArray 75 (0, 0)) := (g1.2 _ (by omega) (by omega)).trans H9.out.2.2.2.2.2
    have f0 := cell_of_row W9 _ 0 _ _ _ (heb9.trans (congrArg some HLIT.out))
    have e0 := cell_of_row W9 _ 21 _ _ _ (heb9.trans (congrArg some HLIT.out))
    have e1 := cell_of_row W9 _ 22 _ _ _ (heb9.trans (congrArg some HLIT.out))
    have e2 := cell_of_row W9 _ 23 _ _ _ (heb9.trans (congrArg some HLIT.out))
    have e3 := cell_of_row W9 _ 24 _ _ _ (heb9.trans (congrArg some HLIT.out))
    have e4 := cell_of_row W9 _ 25 _ _ _ (heb9.trans (congrArg some HLIT.out))
    have e5 := cell_of_row W9 _ 26 _ _ _ (heb9.trans (congrArg some HLIT.out))
    have e6 := cell_of_row W9 _ 27 _ _ _ (heb9.trans (congrArg some HLIT.out))
    have e7 := cell_of_row W9 _ 28 _ _ _ (heb9.trans (congrArg some HLIT.out))
    have hrw9 : ∀ j v, p.e.cells[j]? = some v → W9.cell? ⟨W.heap.size, 21 + j, none⟩ = some v := by
     intro j v hj
     have hj8 : j < 8 := (Array.getElem?_eq_some_iff.1 hj).1
     rcases (by omega : j = 0 ∨ j = 1 ∨ j = 2 ∨ j = 3 ∨ j = 4 ∨ j = 5 ∨ j = 6 ∨ j = 7) with rfl | rfl | rfl | rfl | rfl | rfl | rfl | rfl <;> cases hj <;> assumption
    clear e0 e1 e2 e3 e4 e5 e6 e7 heb9
    have hs9 := g1.1
    have hr20 := hN9.1
    have hr21 := hN9.2.1
    have H99 := hid (And.intro h93 (And.intro hB9 hM9))
    have hO9 := hid (HO.out.trans (hB9.mono ho))
    have HN9 := hid hN9
    have hdz := HD9.out.2.1
    have hsz1 := HD9.out.1
    have hN1e := HD9.out.2.2.2
    have heb2 := HD9.out.2.2.1.2
    clear h93 hB9 hM9 hN9 hn hK hS hN1 d1 hBd
    by_cases hk1 : p.d.k = 1
    · rw [if_pos hk1] at hdz
      rw [hk1] at f0
      clear g1
      gi_wp2_with fail
      refine wpIn_region_any (by kernel_rfl) ?_
      change wpAnyIn _ _ _ _ _ _ 9 _ _ (World.drew _)
      have hG0 : GoE W9 (w.heap.size + 1 + 1 + 1) (w.heap.size + 1) W.heap.size r2 most p.e W9.drew := GoE.later ⟨h91, h92, hrw9, hO9.out, Below.refl _ _⟩ (Below.refl _ W9).drew
      have hw1 : wrap64 (most - r2) = most - r2 := by have := HM.out; unfold wrap64; omega
      have hw2 : ∀ r : Int, Near (most - r2) r p.e.e.size → wrap64 (r2 + r) = r2 + r := fun r h => by have h1 := h.1; have h3 := h.2.1; rw [p.he] at h3; exact wrap_ok (by omega) (by omega)
      have HCall : Kpt (∀ W, Below w0.heap.size w0 W → Calls Tryz.prog 57 #[.agg #[.int .i64 p.e.e.k, .string p.e.e.m, .string p.e.e.n, .string p.e.e.tx, .int .i64 p.e.e.num, .slice p.e.aT p.e.e.T.len p.e.cT, .slice p.e.aL p.e.e.L.length p.e.cL, .slice p.e.aK p.e.e.K.len p.e.cK], .int .i64 (most - r2)] W _) := hid (fun W hk => exprSize_any p.e (most - r2) W hk (by rw [p.he]; omega) (by have := HM.out; omega))
      have HG0 := hid hG0
      clear hG0 h91 h92 hrw9
      generalize W9.drew = V1 at HG0 ⊢
      refine wpAnyIn_flow (n := 8) (Fact := FactE r2 most W.heap.size p.e) (Fx := FxE (w.heap.size + 1 + 1 + 1) (w.heap.size + 1) (w.heap.size + 1 + 1) W.heap.size (.slice (some ⟨b, o, none⟩) x.m.D.length x.cD) (.int .i64 (x.m.D.length : Int)) (.int .i64 (i : Int)) (marksOf (D :: Ds))) (G := GoE W9 (w.heap.size + 1 + 1 + 1) (w.heap.size + 1) W.heap.size r2 most p.e) (Rel := fun _ _ _ => True) (by kernel_rfl) ?back ?last ?step ?tail 9 _ _ _ ⟨rfl, rfl, ⟨_, _, _, _, _, _, _, _, _, _, _, _, _, _, _, _, _, _, _, _, _, _, _, _, _, _, _, _, _, _, _, _, _, _, _, _, _, _, _, _, _, _, _, _, _, _, rfl⟩, HG0.out, trivial, fun i hi hl => ?l0⟩ ?un
      case back => exact flow_back_of (by kernel_rfl)
      case last => exact flow_last_of (by kernel_rfl)
      case l0 => rw [getD_replicate_false] at hl; cases hl
      case un => decide
      case step =>
       rintro i' hi' listed a W2 hls hun hR ⟨u0, u1, u2, u6, u8, u9, u10, u11, u12, u13, u17, u18, u19, u20, u21, u22, u23, u24, u25, u26, u27, u28, u29, u30, u31, u32, u33, u34, u35, u36, u37, u38, u39, u40, u41, u42, u43, u44, u45, u46, u47, u48, u49, u50, u51, u52, rfl⟩ hG hw
       rcases (by omega : i' = 0 ∨ i' = 1 ∨ i' = 2 ∨ i' = 3 ∨ i' = 4 ∨ i' = 5 ∨ i' = 6 ∨ i' = 7) with rfl | rfl | rfl | rfl | rfl | rfl | rfl | rfl
       · have c0 := hG.size.cell
         refine wpOpIn_of_list (i := 0) rfl ?_
         gi_wp2_with fail
         first | exact ⟨⟨_, _, _, _, _, _, _, _, _, _, _, _, _, _, _, _, _, _, _, _, _, _, _, _, _, _, _, _, _, _, _, _, _, _, _, _, _, _, _, _, _, _, _, _, _, _, rfl⟩, hG, (by first | exact rfl | rfl), (fun j hj hne => by rcases (by omega : j = 0 ∨ j = 1 ∨ j = 2 ∨ j = 3 ∨ j = 4 ∨ j = 5 ∨ j = 6 ∨ j = 7) with rfl | rfl | rfl | rfl | rfl | rfl | rfl | rfl <;> first | exact absurd rfl hne | rfl), fun j v h => FactE.any j v _ _ h⟩ | exact ⟨⟨_, _, _, _, _, _, _, _, _, _, _, _, _, _, _, _, _, _, _, _, _, _, _, _, _, _, _, _, _, _, _, _, _, _, _, _, _, _, _, _, _, _, _, _, _, _, rfl⟩, hG, (by first | exact rfl | rfl), (fun j hj hne => by rcases (by omega : j = 0 ∨ j = 1 ∨ j = 2 ∨ j = 3 ∨ j = 4 ∨ j = 5 ∨ j = 6 ∨ j = 7) with rfl | rfl | rfl | rfl | rfl | rfl | rfl | rfl <;> first | exact absurd rfl hne | rfl), fun j v h => FactE.any j v _ _ h, trivial⟩
       · skip
         refine wpOpIn_of_list (i := 1) rfl ?_
         gi_wp2_with fail
         first | exact ⟨⟨_, _, _, _, _, _, _, _, _, _, _, _, _, _, _, _, _, _, _, _, _, _, _, _, _, _, _, _, _, _, _, _, _, _, _, _, _, _, _, _, _, _, _, _, _, _, rfl⟩, hG, (by first | exact rfl | rfl), (fun j hj hne => by rcases (by omega : j = 0 ∨ j = 1 ∨ j = 2 ∨ j = 3 ∨ j = 4 ∨ j = 5 ∨ j = 6 ∨ j = 7) with rfl | rfl | rfl | rfl | rfl | rfl | rfl | rfl <;> first | exact absurd rfl hne | rfl), fun j v h => FactE.any j v _ _ h⟩ | exact ⟨⟨_, _, _, _, _, _, _, _, _, _, _, _, _, _, _, _, _, _, _, _, _, _, _, _, _, _, _, _, _, _, _, _, _, _, _, _, _, _, _, _, _, _, _, _, _, _, rfl⟩, hG, (by first | exact rfl | rfl), (fun j hj hne => by rcases (by omega : j = 0 ∨ j = 1 ∨ j = 2 ∨ j = 3 ∨ j = 4 ∨ j = 5 ∨ j = 6 ∨ j = 7) with rfl | rfl | rfl | rfl | rfl | rfl | rfl | rfl <;> first | exact absurd rfl hne | rfl), fun j v h => FactE.any j v _ _ h, trivial⟩
       · obtain rfl : u44 = .pointer (some ⟨W.heap.size, 21, none⟩) := hw 1 (by kernel_rfl)
         have c0 := hG.row 0 _ rfl
         have c1 := hG.row 1 _ rfl
         have c2 := hG.row 2 _ rfl
         have c3 := hG.row 3 _ rfl
         have c4 := hG.row 4 _ rfl
         have c5 := hG.row 5 _ rfl
         have c6 := hG.row 6 _ rfl
         have c7 := hG.row 7 _ rfl
         refine wpOpIn_of_list (i := 2) rfl ?_
         gi_wp2_with fail
         first | exact ⟨⟨_, _, _, _, _, _, _, _, _, _, _, _, _, _, _, _, _, _, _, _, _, _, _, _, _, _, _, _, _, _, _, _, _, _, _, _, _, _, _, _, _, _, _, _, _, _, rfl⟩, hG, (by first | exact rfl | rfl), (fun j hj hne => by rcases (by omega : j = 0 ∨ j = 1 ∨ j = 2 ∨ j = 3 ∨ j = 4 ∨ j = 5 ∨ j = 6 ∨ j = 7) with rfl | rfl | rfl | rfl | rfl | rfl | rfl | rfl <;> first | exact absurd rfl hne | rfl), fun j v h => FactE.any j v _ _ h⟩ | exact ⟨⟨_, _, _, _, _, _, _, _, _, _, _, _, _, _, _, _, _, _, _, _, _, _, _, _, _, _, _, _, _, _, _, _, _, _, _, _, _, _, _, _, _, _, _, _, _, _, rfl⟩, hG, (by first | exact rfl | rfl), (fun j hj hne => by rcases (by omega : j = 0 ∨ j = 1 ∨ j = 2 ∨ j = 3 ∨ j = 4 ∨ j = 5 ∨ j = 6 ∨ j = 7) with rfl | rfl | rfl | rfl | rfl | rfl | rfl | rfl <;> first | exact absurd rfl hne | rfl), fun j v h => FactE.any j v _ _ h, trivial⟩
       · have c0 := hG.most.cell
         refine wpOpIn_of_list (i := 3) rfl ?_
         gi_wp2_with fail
         first | exact ⟨⟨_, _, _, _, _, _, _, _, _, _, _, _, _, _, _, _, _, _, _, _, _, _, _, _, _, _, _, _, _, _, _, _, _, _, _, _, _, _, _, _, _, _, _, _, _, _, rfl⟩, hG, (by first | exact rfl | rfl), (fun j hj hne => by rcases (by omega : j = 0 ∨ j = 1 ∨ j = 2 ∨ j = 3 ∨ j = 4 ∨ j = 5 ∨ j = 6 ∨ j = 7) with rfl | rfl | rfl | rfl | rfl | rfl | rfl | rfl <;> first | exact absurd rfl hne | rfl), fun j v h => FactE.any j v _ _ h⟩ | exact ⟨⟨_, _, _, _, _, _, _, _, _, _, _, _, _, _, _, _, _, _, _, _, _, _, _, _, _, _, _, _, _, _, _, _, _, _, _, _, _, _, _, _, _, _, _, _, _, _, rfl⟩, hG, (by first | exact rfl | rfl), (fun j hj hne => by rcases (by omega : j = 0 ∨ j = 1 ∨ j = 2 ∨ j = 3 ∨ j = 4 ∨ j = 5 ∨ j = 6 ∨ j = 7) with rfl | rfl | rfl | rfl | rfl | rfl | rfl | rfl <;> first | exact absurd rfl hne | rfl), fun j v h => FactE.any j v _ _ h, trivial⟩
       · have c0 := hG.size.cell
         refine wpOpIn_of_list (i := 4) rfl ?_
         gi_wp2_with fail
         first | exact ⟨⟨_, _, _, _, _, _, _, _, _, _, _, _, _, _, _, _, _, _, _, _, _, _, _, _, _, _, _, _, _, _, _, _, _, _, _, _, _, _, _, _, _, _, _, _, _, _, rfl⟩, hG, (by first | exact rfl | rfl), (fun j hj hne => by rcases (by omega : j = 0 ∨ j = 1 ∨ j = 2 ∨ j = 3 ∨ j = 4 ∨ j = 5 ∨ j = 6 ∨ j = 7) with rfl | rfl | rfl | rfl | rfl | rfl | rfl | rfl <;> first | exact absurd rfl hne | rfl), fun j v h => FactE.any j v _ _ h⟩ | exact ⟨⟨_, _, _, _, _, _, _, _, _, _, _, _, _, _, _, _, _, _, _, _, _, _, _, _, _, _, _, _, _, _, _, _, _, _, _, _, _, _, _, _, _, _, _, _, _, _, rfl⟩, hG, (by first | exact rfl | rfl), (fun j hj hne => by rcases (by omega : j = 0 ∨ j = 1 ∨ j = 2 ∨ j = 3 ∨ j = 4 ∨ j = 5 ∨ j = 6 ∨ j = 7) with rfl | rfl | rfl | rfl | rfl | rfl | rfl | rfl <;> first | exact absurd rfl hne | rfl), fun j v h => FactE.any j v _ _ h, trivial⟩
       · obtain rfl : u46 = .int .i64 most := hw 3 (by kernel_rfl)
         obtain rfl : u47 = .int .i64 r2 := hw 4 (by kernel_rfl)
         refine wpOpIn_of_list (i := 5) rfl ?_
         gi_wp2_with fail
         first | exact ⟨⟨_, _, _, _, _, _, _, _, _, _, _, _, _, _, _, _, _, _, _, _, _, _, _, _, _, _, _, _, _, _, _, _, _, _, _, _, _, _, _, _, _, _, _, _, _, _, rfl⟩, hG, (by first | exact congrArg (Value.int .i64) hw1 | rfl), (fun j hj hne => by rcases (by omega : j = 0 ∨ j = 1 ∨ j = 2 ∨ j = 3 ∨ j = 4 ∨ j = 5 ∨ j = 6 ∨ j = 7) with rfl | rfl | rfl | rfl | rfl | rfl | rfl | rfl <;> first | exact absurd rfl hne | rfl), fun j v h => FactE.any j v _ _ h⟩ | exact ⟨⟨_, _, _, _, _, _, _, _, _, _, _, _, _, _, _, _, _, _, _, _, _, _, _, _, _, _, _, _, _, _, _, _, _, _, _, _, _, _, _, _, _, _, _, _, _, _, rfl⟩, hG, (by first | exact congrArg (Value.int .i64) hw1 | rfl), (fun j hj hne => by rcases (by omega : j = 0 ∨ j = 1 ∨ j = 2 ∨ j = 3 ∨ j = 4 ∨ j = 5 ∨ j = 6 ∨ j = 7) with rfl | rfl | rfl | rfl | rfl | rfl | rfl | rfl <;> first | exact absurd rfl hne | rfl), fun j v h => FactE.any j v _ _ h, trivial⟩
       · obtain rfl : u45 = .agg #[.int .i64 p.e.e.k, .string p.e.e.m, .string p.e.e.n, .string p.e.e.tx, .int .i64 p.e.e.num, .slice p.e.aT p.e.e.T.len p.e.cT, .slice p.e.aL p.e.e.L.length p.e.cL, .slice p.e.aK p.e.e.K.len p.e.cK] := hw 2 (by kernel_rfl)
         obtain rfl : u48 = .int .i64 (most - r2) := hw 5 (by kernel_rfl)
         refine wpOpIn_of_list (i := 6) rfl ?_
         gi_wp2_with fail
         refine ⟨trivial, callsIn_wide.2 ((HCall.out W2 hG.keep).mono ?_)⟩
         rintro e W3 ⟨⟨r, rfl, hr1, hr2⟩, hb2⟩
         have HB2 := hid (And.intro hb2 hr2)
         clear hb2 hr2
         gi_wp2_with fail
         first | exact ⟨⟨_, _, _, _, _, _, _, _, _, _, _, _, _, _, _, _, _, _, _, _, _, _, _, _, _, _, _, _, _, _, _, _, _, _, _, _, _, _, _, _, _, _, _, _, _, _, rfl⟩, hG.later HB2.out.1, ⟨r, rfl, HB2.out.2⟩, (fun j hj hne => by rcases (by omega : j = 0 ∨ j = 1 ∨ j = 2 ∨ j = 3 ∨ j = 4 ∨ j = 5 ∨ j = 6 ∨ j = 7) with rfl | rfl | rfl | rfl | rfl | rfl | rfl | rfl <;> first | exact absurd rfl hne | rfl), fun j v h => FactE.any j v _ _ h⟩ | exact ⟨⟨_, _, _, _, _, _, _, _, _, _, _, _, _, _, _, _, _, _, _, _, _, _, _, _, _, _, _, _, _, _, _, _, _, _, _, _, _, _, _, _, _, _, _, _, _, _, rfl⟩, hG.later HB2.out.1, ⟨r, rfl, HB2.out.2⟩, (fun j hj hne => by rcases (by omega : j = 0 ∨ j = 1 ∨ j = 2 ∨ j = 3 ∨ j = 4 ∨ j = 5 ∨ j = 6 ∨ j = 7) with rfl | rfl | rfl | rfl | rfl | rfl | rfl | rfl <;> first | exact absurd rfl hne | rfl), fun j v h => FactE.any j v _ _ h, trivial⟩
       · obtain rfl : u43 = .int .i64 r2 := hw 0 (by kernel_rfl)
         obtain ⟨r, rfl, hr⟩ : ∃ r : Int, u49 = .int .i64 r ∧ Near (most - r2) r p.e.e.size := hw 6 (by kernel_rfl)
         have hw3 := hw2 r hr
         have HR3 := hid hr
         clear hr
         refine wpOpIn_of_list (i := 7) rfl ?_
         gi_wp2_with fail
         first | exact ⟨⟨_, _, _, _, _, _, _, _, _, _, _, _, _, _, _, _, _, _, _, _, _, _, _, _, _, _, _, _, _, _, _, _, _, _, _, _, _, _, _, _, _, _, _, _, _, _, rfl⟩, hG, (by first | (first | exact ⟨r, congrArg (Value.int .i64) hw3, HR3.out⟩ | exact ⟨r, rfl, HR3.out⟩) | rfl), (fun j hj hne => by rcases (by omega : j = 0 ∨ j = 1 ∨ j = 2 ∨ j = 3 ∨ j = 4 ∨ j = 5 ∨ j = 6 ∨ j = 7) with rfl | rfl | rfl | rfl | rfl | rfl | rfl | rfl <;> first | exact absurd rfl hne | rfl), fun j v h => FactE.any j v _ _ h⟩ | exact ⟨⟨_, _, _, _, _, _, _, _, _, _, _, _, _, _, _, _, _, _, _, _, _, _, _, _, _, _, _, _, _, _, _, _, _, _, _, _, _, _, _, _, _, _, _, _, _, _, rfl⟩, hG, (by first | (first | exact ⟨r, congrArg (Value.int .i64) hw3, HR3.out⟩ | exact ⟨r, rfl, HR3.out⟩) | rfl), (fun j hj hne => by rcases (by omega : j = 0 ∨ j = 1 ∨ j = 2 ∨ j = 3 ∨ j = 4 ∨ j = 5 ∨ j = 6 ∨ j = 7) with rfl | rfl | rfl | rfl | rfl | rfl | rfl | rfl <;> first | exact absurd rfl hne | rfl), fun j v h => FactE.any j v _ _ h, trivial⟩
      case tail =>
       rintro listed a W2 hall hR ⟨u0, u1, u2, u6, u8, u9, u10, u11, u12, u13, u17, u18, u19, u20, u21, u22, u23, u24, u25, u26, u27, u28, u29, u30, u31, u32, u33, u34, u35, u36, u37, u38, u39, u40, u41, u42, u43, u44, u45, u46, u47, u48, u49, u50, u51, u52, rfl⟩ hG hw
       obtain ⟨r, rfl, hr⟩ : ∃ r : Int, u50 = .int .i64 (r2 + r) ∧ Near (most - r2) r p.e.e.size := hw 7 (by omega)
       have c0 := hG.size.cell
       have c1 := hG.size.frozen
       obtain ⟨Ws, hWs⟩ : ∃ Ws, W2.setCell ⟨w.heap.size + 1 + 1 + 1, 0, none⟩ (.int .i64 (r2 + r)) = Ws := ⟨_, rfl⟩
       have hks : KeepX (fun i => i = w.heap.size + 1 + 1 + 1) W2 Ws := by rw [← hWs]; exact KeepX.set W2 _ _
       have hbs : Below (w.heap.size + 1 + 1) W2 Ws := by rw [← hWs]; exact below_set W2 _ (by omega)
       have hss : Boxed Ws (w.heap.size + 1 + 1 + 1) 3 (.int .i64 (r2 + r)) := by rw [← hWs]; exact hG.size.set _
       have hkk : KeepX (fun i => i = w.heap.size + 1 + 1 + 1) W9 Ws := (KeepX.of_below hG.below).trans hks
       have hms : Boxed Ws (w.heap.size + 1) 3 (.int .i64 most) := (hks.2 _ hG.most.lt (by omega)).trans hG.most
       have hrs : Boxed Ws (w.heap.size + 1 + 1) 3 (.int .i64 0) := (hkk.2 _ H99.out.1.lt (by omega)).trans H99.out.1
       have hBs : Below w.heap.size w Ws := H99.out.2.1.trans ((hG.below.mono (by have := H99.out.2.1.size; omega)).trans (hbs.mono (by omega)))
       have hMs : Marks (w.heap.size + 4) (D :: Ds) Ws := H99.out.2.2.keepX hkk (fun i hi => by omega)
       have hNj : Near most (r2 + r) (N1 + (p.d.tys.map Ty.size).sum + p.d.e.size) := by rw [← p.he]; exact HN9.out.join hr
       have HS := hid (And.intro hss (And.intro hms (And.intro hrs (And.intro hBs (And.intro hMs hNj)))))
       clear hG hw hks hbs hss hkk hBs hms hrs hMs hNj hr
       refine wpOpIn_of_list (i := 8) rfl ?_
       gi_wp2_with fail
       simp only [gQ, Exit.inBlock, Exit.then]
       gi_wp2_with fail
       exact ⟨⟨D :: Ds, i + 1, r', some ⟨b, o, none⟩, r2 + r, N1 + (p.d.tys.map Ty.size).sum + p.d.e.size, _, _, _, _, _, _, _, _, _, _, _, _, _, _, _, _, _, _, _, _, _, _, _, _, _, _, _, _, _, _, _, _, _, _, _, _, _, _, _, _, _, _, _, _, _, _, _, (by go_num), ⟨HAD.out.symm⟩, (by have := HR9.out; simp only [List.length_cons] at this; omega), HD9.out.2.2.1.1, ⟨HZ.out.2.2.2.2.2.2.2.1⟩, HS.out.2.2.2.2.2, (by omega), HS.out.1, HS.out.2.1, HS.out.2.2.1, HS.out.2.2.2.1, (by have := HS.out.1.lt; omega), HS.out.2.2.2.2.1⟩, (by simp [intOf]; omega)⟩

    · have q1 : (p.d.k == 1) = false := by rw [beq_eq_false_iff_ne]; exact hk1
      rw [if_neg hk1] at hdz
      gi_wp2_with fail
      exact ⟨⟨D :: Ds, i + 1, r', some ⟨b, o, none⟩, r2, N1 + (p.d.tys.map Ty.size).sum, _, _, _, _, _, _, _, _, _, _, _, _, _, _, _, _, _, _, _, _, _, _, _, _, _, _, _, _, _, _, _, _, _, _, _, _, _, _, _, _, _, _, _, _, _, _, _, (by go_num), ⟨HAD.out.symm⟩, (by have := HR9.out; simp only [List.length_cons] at this; omega), HD9.out.2.2.1.1, ⟨HZ.out.2.2.2.2.2.2.2.1⟩, HN9.out, (by omega), h91, h92, H99.out.1, H99.out.2.1, (by omega), H99.out.2.2⟩, (by simp [intOf]; omega)⟩
   case stop =>
    rintro D c pre W9 hD hv ⟨rfl, g1, hB9, r2, h9, hN9⟩ hK
    have hn : D ∉ Ds := fun h => by have := (H9.out.2.2.2.2.1.all D h).2.1; omega
    have hM9 : Marks (w.heap.size + 4) (D :: Ds) W9 := (H9.out.2.2.2.2.1.keepX g1 (fun i hi => by omega)).cons (by omega) hn hK
    have H99 := hid (And.intro h9 (And.intro hB9 (And.intro hM9 hN9)))
    clear h9 hB9 hM9 hN9 hK hn g1 hv hN1 d1 hBd
    gi_wp2_with fail
    refine leaves_marks (b := w.heap.size + 4) (D :: Ds) _ H99.out.2.2.1 fun w' hb' => ?_
    have m0 := Boxed.cell (t := 3) ((hb'.block _ (by omega)).trans H99.out.1)
    exact ⟨.int .i64 r2, by simp [results, Tryz.results58, go_sem, m0], ⟨r2, rfl, H99.out.2.2.2⟩, H99.out.2.1.trans (hb'.mono (by omega))⟩
end Go.Proofs.YtnkhebgjhipepaaGreatDoor

namespace Go.Proofs.YtnkhebgjhipepaaGreatDoor
open Go.RowKit Go.Shelf

attribute [local go_sem] Oper.semAt_some
set_option maxRecDepth 100000 in
set_option maxHeartbeats 8000000 in
theorem ExprSize_any {w0 : World} (x : XpI w0) (hbig : x.e.bk ≤ 1099511627776) (w : World) (hold : Below w0.heap.size w0 w) : Calls Tryz.prog 19 #[.agg #[.int .i64 x.e.k, .string x.e.m, .string x.e.n, .string x.e.tx, .int .i64 x.e.num, .slice x.aT x.e.T.len x.cT, .slice x.aL x.e.L.length x.cL, .slice x.aK x.e.K.len x.cK]] w fun e w' => e = .returned (.int .i64 (x.e.size : Int)) ∧ Below w.heap.size w w' := by
 obtain ⟨wa, hwa⟩ : ∃ wa, w.alloc (.cells #[.int .i64 x.e.k, .string x.e.m, .string x.e.n, .string x.e.tx, .int .i64 x.e.num, .slice x.aT x.e.T.len x.cT, .slice x.aL x.e.L.length x.cL, .slice x.aK x.e.K.len x.cK] 29) = wa := ⟨_, rfl⟩
 have hba : Below w.heap.size w wa := by rw [← hwa]; exact (Below.refl _ w).alloc (Nat.le_refl _) _
 have hea : wa.heap[w.heap.size]? = some (.cells #[.int .i64 x.e.k, .string x.e.m, .string x.e.n, .string x.e.tx, .int .i64 x.e.num, .slice x.aT x.e.T.len x.cT, .slice x.aL x.e.L.length x.cL, .slice x.aK x.e.K.len x.cK] 29 (0, 0)) := by rw [← hwa]; exact World.alloc_heap_new _ _
 have e0 := cell_of_row wa _ 0 _ _ _ hea
 have e1 := cell_of_row wa _ 1 _ _ _ hea
 have e2 := cell_of_row wa _ 2 _ _ _ hea
 have e3 := cell_of_row wa _ 3 _ _ _ hea
 have e4 := cell_of_row wa _ 4 _ _ _ hea
 have e5 := cell_of_row wa _ 5 _ _ _ hea
 have e6 := cell_of_row wa _ 6 _ _ _ hea
 have e7 := cell_of_row wa _ 7 _ _ _ hea
 have HC := hid ((exprSize_any x 9223372036854775807 wa (hold.trans (hba.mono hold.size)) hbig (by omega)).mono (R' := fun e w' => (∃ r : Int, e = .returned (.int .i64 r) ∧ Near 9223372036854775807 r x.e.size) ∧ Below wa.heap.size wa w') (fun e w' h => ⟨by obtain ⟨⟨r, h1, _, h3⟩, _⟩ := h; exact ⟨r, h1, h3⟩, h.2⟩))
 have HB := hid hba
 have hsb := x.e.size_bk
 have HS := hid hsb
 have HL := hid hbig
 clear hba hea hold hsb hbig
 go_enter Tryz.func19, Tryz.ntmps19
 go_wp2_with fail
 refine HC.out.mono ?_
 rintro e w' ⟨⟨r, rfl, hr⟩, hb⟩
 have hrs : r = (x.e.size : Int) := by obtain ⟨h0, h1, h2⟩ := hr; have := HS.out; have := HL.out; omega
 have H2 := hid (And.intro hrs hb)
 clear hrs hr hb
 go_wp2_with fail
 go_ret
 exact ⟨by rw [← H2.out.1]; rfl, HB.out.trans (H2.out.2.mono HB.out.size)⟩
set_option maxRecDepth 100000 in
set_option maxHeartbeats 8000000 in
theorem ModuleSize_any {w0 : World} (x : MdI w0) (hbig : x.m.bk ≤ 1099511627776) (w : World) (hold : Below w0.heap.size w0 w) : Calls Tryz.prog 20 #[.agg #[.string x.m.p, .slice x.aI x.m.I.length x.cI, .slice x.aD x.m.D.length x.cD]] w fun e w' => e = .returned (.int .i64 (x.m.size : Int)) ∧ Below w.heap.size w w' := by
 obtain ⟨wa, hwa⟩ : ∃ wa, w.alloc (.cells #[.string x.m.p, .slice x.aI x.m.I.length x.cI, .slice x.aD x.m.D.length x.cD] 33) = wa := ⟨_, rfl⟩
 have hba : Below w.heap.size w wa := by rw [← hwa]; exact (Below.refl _ w).alloc (Nat.le_refl _) _
 have hea : wa.heap[w.heap.size]? = some (.cells #[.string x.m.p, .slice x.aI x.m.I.length x.cI, .slice x.aD x.m.D.length x.cD] 33 (0, 0)) := by rw [← hwa]; exact World.alloc_heap_new _ _
 have e0 := cell_of_row wa _ 0 _ _ _ hea
 have e1 := cell_of_row wa _ 1 _ _ _ hea
 have e2 := cell_of_row wa _ 2 _ _ _ hea
 have HC := hid (moduleSize_any x 9223372036854775807 wa (hold.trans (hba.mono hold.size)) hbig (by omega))
 have HB := hid hba
 have hsb := x.m.size_bk
 have HS := hid hsb
 have HL := hid hbig
 clear hba hea hold hsb hbig
 go_enter Tryz.func20, Tryz.ntmps20
 go_wp2_with fail
 refine HC.out.mono ?_
 rintro e w' ⟨⟨r, rfl, hr⟩, hb⟩
 have hrs : r = (x.m.size : Int) := by obtain ⟨h0, h1, h2⟩ := hr; have := HS.out; have := HL.out; omega
 have H2 := hid (And.intro hrs hb)
 clear hrs hr hb
 go_wp2_with fail
 go_ret
 exact ⟨by rw [← H2.out.1]; rfl, HB.out.trans (H2.out.2.mono HB.out.size)⟩
end Go.Proofs.YtnkhebgjhipepaaGreatDoor
