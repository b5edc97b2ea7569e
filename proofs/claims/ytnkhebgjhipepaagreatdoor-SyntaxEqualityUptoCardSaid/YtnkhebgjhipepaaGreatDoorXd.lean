/- Whole structs of many cells as opaque rows, in the calculus of bounded calls. | A function that ranges over functions within a loop: the marks among its deferred calls, a list of them. | syntax: the types that belong to a declaration: their iterator. -/
import Derived.Test.YtnkhebgjhipepaaGreatDoorArr
import Derived.Deep.MidRow
import Derived.BigFrameIn
import Derived.Test.YtnkhebgjhipepaaGreatDoorSyR
import Derived.Test.YtnkhebgjhipepaaGreatDoorEv
import Derived.Test.YtnkhebgjhipepaaGreatDoorSyI
namespace Go.Proofs.YtnkhebgjhipepaaGreatDoor
open Go Go.RowKit

section
variable {F : Fence} {n : Nat} {P : Program} {ops : Array Oper} {rest : List Oper} {o : Oper} {a : Act} {Q : Exit → Act → World → Prop} {w : World}
theorem wpIn_of_run {K : Act → World → Prop} {v : Value} {w' : World} (hab : o.about P w a.eval = none) (hnd : ∀ c, o.op ≠ .defer c) (hrun : (execOp a.eval o).run P w = .ok (.value v) w') (h : K (a.put o.dst v) w') :
    o.wpIn F n P a w K Q := by
  refine ⟨fun f hf => (by rw [hab] at hf; cases hf), ?_⟩
  rw [Oper.semAt_eq _ _ _ hnd, hrun]
  exact h
theorem wpListIn_load_mid (hw : Region.wanted o (yielded ops a.tmps) = true) (ty : TypeId) (x : Operand) (ho : o.op = .load ty x) (b off : Nat) (hx : a.eval x = .pointer (some ⟨b, off, none⟩)) (cs : List Value) (d : TypeDesc)
    (hc : w.rangeAt b off cs) (hu : P.underlying ty = some d) (hd : d.isRow = true) (hi : (P.info? ty).map (·.size) = some cs.length)
    (h : wpListIn F n P ops Q rest (a.put o.dst (.agg cs.toArray)) w) : wpListIn F n P ops Q (o :: rest) a w :=
  BigFrame.wpListIn_want hw fun K hK => wpIn_of_run (by simp [Oper.about, ho]) (by rw [ho]; intro c h; cases h) (v := .agg cs.toArray) (w' := w) (by
    unfold execOp
    simp only [ho, hx, Instr.loadAt, Instr.sureAddr, Sem.run_bind, Sem.run_pure, Result.andThen_ok, run_loadVar_mid w b off ty cs d hc hu hd hi]) (hK _ _ h)
theorem wpListIn_run_alloc (hgd : o.guard = none) (t : TypeId) (ho : o.op = .alloc t) (cs : Array Value)
    (hr : (execOp a.eval o).run P w = .ok (.value (.pointer (some ⟨w.heap.size, 0, none⟩))) (w.alloc (.cells cs t)))
    (hk : wpListIn F n P ops Q rest (a.put o.dst (.pointer (some ⟨w.heap.size, 0, none⟩))) (w.alloc (.cells cs t))) : wpListIn F n P ops Q (o :: rest) a w :=
  wpListIn_plain hgd fun K hK => wpIn_of_run (by simp [Oper.about, ho]) (by rw [ho]; intro c h; cases h) hr (hK _ _ hk)
theorem wpListIn_store_fresh {w0 w1 : World} (hgd : o.guard = none) (ty : TypeId) (x y : Operand) (ho : o.op = .store ty x y) (hd : o.dst = none) (m : Nat) (hn : w0.heap.size = m) (cells : Array Value)
    (hx : a.eval x = .pointer (some ⟨m, 0, none⟩)) (hy : a.eval y = .agg cells) (t : TypeId) (old : Array Value) (hi : (P.info? ty).map (·.size) = some cells.size) (hold : old.size = cells.size)
    (h1 : cells.all (·.oneCell') = true) (hw : w0.alloc (.cells cells t) = w1) (h : wpListIn F n P ops Q rest a w1) : wpListIn F n P ops Q (o :: rest) a (w0.alloc (.cells old t)) :=
  wpListIn_plain hgd fun K hK => by
    refine ⟨fun f hf => (by simp [Oper.about, ho] at hf), ?_⟩
    rw [Oper.semAt_eq _ _ _ (by rw [ho]; intro c h; cases h)]
    unfold execOp
    simp only [ho, hx, hy, Instr.storeAt, Instr.sureAddr, Sem.run_bind, Sem.run_pure, Result.andThen_ok, run_storeVar_row _ m t ty old cells (heap_alloc_new' w0 _ m hn) hi hold h1]
    rw [alloc_setRow' w0 old cells t m hn, hw]
    first | exact hK _ _ h | (simp only [Oper.uponIn, hd]; exact hK _ _ h)
end
end Go.Proofs.YtnkhebgjhipepaaGreatDoor

namespace Go.Proofs.YtnkhebgjhipepaaGreatDoor
open Go Go.RowKit

/-- The deferred calls that are marks alone: their blocks. -/
def marksOf (Ds : List Nat) : List Deferred := Ds.map fun D => { target := .collected D, args := #[] }
/-- The marks' blocks lie open above b, each one once. -/
structure Marks (b : Nat) (Ds : List Nat) (w : World) : Prop where
  nodup : Ds.Nodup
  all : ∀ D, D ∈ Ds → b ≤ D ∧ D < w.heap.size ∧ w.heap[D]? = some (.deferred (some []))
theorem Marks.nil (b : Nat) (w : World) : Marks b [] w := ⟨List.nodup_nil, fun D h => by cases h⟩
theorem Marks.keep {b : Nat} {Ds : List Nat} {w w' : World} (h : Marks b Ds w) (hs : w.heap.size ≤ w'.heap.size) (hb : ∀ D, D ∈ Ds → w'.heap[D]? = w.heap[D]?) : Marks b Ds w' :=
  ⟨h.nodup, fun D hD => ⟨(h.all D hD).1, Nat.lt_of_lt_of_le (h.all D hD).2.1 hs, (hb D hD).trans (h.all D hD).2.2⟩⟩
theorem Marks.below {b : Nat} {Ds : List Nat} {w w' : World} (h : Marks b Ds w) (hb : Below w.heap.size w w') : Marks b Ds w' :=
  h.keep hb.size fun D hD => hb.block D (h.all D hD).2.1
theorem Marks.keepX {b : Nat} {Ds : List Nat} {w w' : World} {X : Nat → Prop} (h : Marks b Ds w) (hk : KeepX X w w') (hX : ∀ i, X i → i < b) : Marks b Ds w' :=
  h.keep hk.1 fun D hD => hk.2 D (h.all D hD).2.1 fun hx => by have := hX D hx; have := (h.all D hD).1; omega
theorem Marks.cons {b D : Nat} {Ds : List Nat} {w : World} (h : Marks b Ds w) (hD : b ≤ D) (hn : D ∉ Ds) (ho : w.heap[D]? = some (.deferred (some []))) : Marks b (D :: Ds) w :=
  ⟨List.nodup_cons.2 ⟨hn, h.nodup⟩, fun E hE => by
    rcases List.mem_cons.1 hE with rfl | hE
    · exact ⟨hD, (Array.getElem?_eq_some_iff.1 ho).1, ho⟩
    · exact h.all E hE⟩
/-- The function leaves: the marks are taken in, one after another. -/
theorem leaves_marks {F : Fence} {n : Nat} {P : Program} {fn : Func} {tmps : Array Value} {R : Ending → World → Prop} {b : Nat} : ∀ (Ds : List Nat) (w : World), Marks b Ds w →
    (∀ w', Below b w w' → LeavesInM F n P fn tmps R [] .returning w') → LeavesInM F n P fn tmps R (marksOf Ds) .returning w := by
  intro Ds
  induction Ds with
  | nil => intro w _ h; exact h w (Below.refl _ _)
  | cons D Ds ih =>
    intro w hm h
    obtain ⟨h1, h2, h3⟩ := hm.all D List.mem_cons_self
    refine ⟨by simp, .inl ⟨D, _, rfl, run_takeDeferred h3, ?_⟩⟩
    have hb : Below b w (w.putObj D (.deferred none)) := below_put h1 h3
    have hnd := List.nodup_cons.1 hm.nodup
    refine ih _ ⟨hnd.2, fun E hE => ?_⟩ fun w' hb' => h w' (hb.trans hb')
    have hE' := hm.all E (List.mem_cons_of_mem _ hE)
    exact ⟨hE'.1, Nat.lt_of_lt_of_le hE'.2.1 hb.size, (World.putObj_heap_other (fun e => hnd.1 (by cases e; exact hE))).trans hE'.2.2⟩
theorem marksOf_cons (D : Nat) (Ds : List Nat) : ({ target := .collected D, args := #[] } : Deferred) :: marksOf Ds = marksOf (D :: Ds) := rfl
end Go.Proofs.YtnkhebgjhipepaaGreatDoor

namespace Go.Proofs.YtnkhebgjhipepaaGreatDoor
open Go.RowKit Go.Shelf
attribute [local go_sem] Oper.semAt_some

theorem Lies_old {w w' : World} (hc : ∀ a v, w.cell? a = some v → w'.cell? a = some v) : ∀ (T : Tr) (fl : Bool) (b o : Nat), Lies w T fl b o → Lies w' T fl b o := by
  intro T
  induction T with
  | nil => intro _ _ _ _; trivial
  | node fn op k m n A F nx ha hf hn =>
    intro fl b o h
    obtain ⟨h0, ⟨h1, h1w⟩, h2, h3, ⟨a, c, h4, h5⟩, ⟨a', c', h6, h7⟩, h8⟩ := h
    refine ⟨fun e => ?_, ⟨hc _ _ h1, h1w⟩, hc _ _ h2, hc _ _ h3, ⟨a, c, hc _ _ h4, ?_⟩, ⟨a', c', hc _ _ h6, ?_⟩, hn _ _ _ h8⟩
    · obtain ⟨g0, g1⟩ := h0 e
      exact ⟨hc _ _ g0, hc _ _ g1⟩
    · rcases h5 with h | ⟨b', o', h, h'⟩
      · exact .inl h
      · exact .inr ⟨b', o', h, ha _ _ _ h'⟩
    · rcases h7 with h | ⟨b', o', h, h'⟩
      · exact .inl h
      · exact .inr ⟨b', o', h, hf _ _ _ h'⟩
theorem SlW_old {w w' : World} {v : Value} {T : Tr} {fl : Bool} (h : SlW w v T fl) (hc : ∀ a v, w.cell? a = some v → w'.cell? a = some v) : SlW w' v T fl := by
  obtain ⟨a, c, hv, h⟩ := h
  refine ⟨a, c, hv, ?_⟩
  rcases h with h | ⟨b', o', h, h'⟩
  · exact .inl h
  · exact .inr ⟨b', o', h, Lies_old hc _ _ _ _ h'⟩
theorem TyV_keep {w w' : World} {v : Value} {t : Ty} (h : TyV w v t) (hk : KeepX (fun _ => False) w w') : TyV w' v t := by
  obtain ⟨va, vf, hv, hk', ha, hf⟩ := h
  exact ⟨va, vf, hv, hk', SlW_old ha fun a v hc => hk.cell (fun h => h) hc, SlW_old hf fun a v hc => hk.cell (fun h => h) hc⟩
theorem range_of_row {w : World} {B : Nat} {pa : List Value} {ty : TypeId} (h : w.heap[B]? = some (.cells pa.toArray ty (0, 0))) : w.rangeAt B 0 pa := by
  intro j v hv
  rw [Nat.zero_add, cell_of_row w B j _ _ _ h]
  simpa using hv
/-- The types of a declaration that count. -/
def Dc.tys (d : Dc) : List Ty := if d.k = 0 then d.t :: (if d.lo.eq d.t && d.up.eq d.t then [] else [d.lo, d.up]) else if d.k = 1 then d.P.map (·.t) ++ [d.t] else []

theorem declTypes_any {w0 : World} (p : DcI w0) (w : World) : Calls Tryz.prog 103 #[.agg p.cells] w
    fun e w' => e = .returned (.func (.func 161) #[] #[.pointer (some ⟨w.heap.size, 0, none⟩)]) ∧ w' = w.alloc (.cells p.cells 75) := by
  have hpc : p.cells = #[.int .i64 p.d.k, .string p.d.nm, .bool p.d.ex, .bool p.d.dp, .string p.d.note, .slice p.aP p.d.P.length p.cP, .int .i64 p.lo.t.k, .string p.lo.t.m, .string p.lo.t.n, .slice p.lo.aa p.lo.t.A.len p.lo.ca, .slice p.lo.af p.lo.t.F.len p.lo.cf, .int .i64 p.up.t.k, .string p.up.t.m, .string p.up.t.n, .slice p.up.aa p.up.t.A.len p.up.ca, .slice p.up.af p.up.t.F.len p.up.cf, .int .i64 p.t.t.k, .string p.t.t.m, .string p.t.t.n, .slice p.t.aa p.t.t.A.len p.t.ca, .slice p.t.af p.t.t.F.len p.t.cf, .int .i64 p.e.e.k, .string p.e.e.m, .string p.e.e.n, .string p.e.e.tx, .int .i64 p.e.e.num, .slice p.e.aT p.e.e.T.len p.e.cT, .slice p.e.aL p.e.e.L.length p.e.cL, .slice p.e.aK p.e.e.K.len p.e.cK, .string p.d.m, .string p.d.tg] := rfl
  rw [hpc]
  go_enter Tryz.func103, Tryz.ntmps103
  go_wp2_with fail
  go_ret
  exact ⟨rfl, rfl⟩

set_option maxRecDepth 100000 in
set_option maxHeartbeats 8000000 in
theorem decl1_in (w0 : World) (p : DcI w0) (hP : p.d.P.length < 9223372036854775807)
    (pa : List Value) (hpl : pa.length = 31) (hpc : p.cells = pa.toArray)
    (hTR : ∀ W, KeepX (fun _ => False) w0 W → Calls Tryz.prog 162 #[.agg pa.toArray] W fun e W' => e = .returned (.bool (p.d.lo.eq p.d.t && p.d.up.eq p.d.t)) ∧ Below W.heap.size W W')
    (B : Nat) (X : Nat → Prop) (hX : ∀ i, X i → w0.heap.size ≤ i ∧ i ≠ B) (V : List (TyI w0) → Prop) (hV : ∀ ys : List (TyI w0), ys.map (·.t) <+: p.d.tys → V ys) (l n : Nat) (J Jx : List (TyI w0) → World → Prop) (W : World)
    (hB : W.heap[B]? = some (.cells pa.toArray 75 (0, 0))) (hW : KeepX (fun _ => False) w0 W) (hJ : Stab W.heap.size J)
    (hY : ∀ m pre y W1, J pre W1 → V (pre ++ [y]) → YieldAt Fence.wide m Tryz.prog l #[y.v] W1 fun e W' => (e = .returned (.bool true) ∧ J (pre ++ [y]) W' ∧ KeepX X W1 W') ∨ (e = .returned (.bool false) ∧ Jx (pre ++ [y]) W' ∧ KeepX (· < W.heap.size) W1 W'))
    (h0 : J [] W) :
    CallsIn Fence.wide n Tryz.prog 161 #[.func (.yield l) #[] #[], .pointer (some ⟨B, 0, none⟩)] W fun e W' =>
      (∃ v, e = .returned v) ∧ ((∃ ys : List (TyI w0), ys.map (·.t) = p.d.tys ∧ J ys W') ∨ (∃ pre : List (TyI w0), pre.map (·.t) <+: p.d.tys ∧ Jx pre W')) := by
  have HTR := hid hTR
  have HTY : Kpt (p.d.tys = if p.d.k = 0 then p.d.t :: (if p.d.lo.eq p.d.t && p.d.up.eq p.d.t then [] else [p.d.lo, p.d.up]) else if p.d.k = 1 then p.d.P.map (·.t) ++ [p.d.t] else []) := hid rfl
  have HY := hid hY
  have HJ := hid hJ
  have HX := hid hX
  have HV := hid hV
  clear hY hJ hX hV hTR
  have HP := hid p.hP
  have HT := hid (And.intro p.ht (And.intro p.hlo p.hup))
  have hBl : B < W.heap.size := (Array.getElem?_eq_some_iff.1 hB).1
  have hWs : w0.heap.size ≤ W.heap.size := hW.1
  have HO : Kpt (∀ wr, KeepX X W wr → KeepX (fun _ => False) w0 wr) := hid fun wr hk => ⟨Nat.le_trans hWs hk.1, fun i hi _ => (hk.2 i (by omega) (fun hx => by have := (HX.out _ hx).1; omega)).trans (hW.2 i hi (fun h => h))⟩
  have HC : Kpt (∀ wr, KeepX X W wr → ∀ a v, w0.cell? a = some v → wr.cell? a = some v) := hid fun wr hk a v hc => (HO.out wr hk).cell (fun h => h) hc
  have HB0 : Kpt (∀ wr, KeepX X W wr → wr.heap[B]? = some (.cells pa.toArray 75 (0, 0))) := hid fun wr hk => (hk.2 B hBl (fun hx => (HX.out _ hx).2 rfl)).trans hB
  have HB : Kpt (∀ wr, KeepX X W wr → wr.heap[B]? = some (.cells #[.int .i64 p.d.k, .string p.d.nm, .bool p.d.ex, .bool p.d.dp, .string p.d.note, .slice p.aP p.d.P.length p.cP, .int .i64 p.lo.t.k, .string p.lo.t.m, .string p.lo.t.n, .slice p.lo.aa p.lo.t.A.len p.lo.ca, .slice p.lo.af p.lo.t.F.len p.lo.cf, .int .i64 p.up.t.k, .string p.up.t.m, .string p.up.t.n, .slice p.up.aa p.up.t.A.len p.up.ca, .slice p.up.af p.up.t.F.len p.up.cf, .int .i64 p.t.t.k, .string p.t.t.m, .string p.t.t.n, .slice p.t.aa p.t.t.A.len p.t.ca, .slice p.t.af p.t.t.F.len p.t.cf, .int .i64 p.e.e.k, .string p.e.e.m, .string p.e.e.n, .string p.e.e.tx, .int .i64 p.e.e.num, .slice p.e.aT p.e.e.T.len p.e.cT, .slice p.e.aL p.e.e.L.length p.e.cL, .slice p.e.aK p.e.e.K.len p.e.cK, .string p.d.m, .string p.d.tg] 75 (0, 0))) := hid fun wr hk => (HB0.out wr hk).trans (by rw [← hpc]; rfl)
  have HG : Kpt (∀ wr, KeepX X W wr → wr.rangeAt B 0 pa) := hid fun wr hk => range_of_row (HB0.out wr hk)
  have HPL := hid hpl
  clear HB0 hpc hpl
  have HW := hid (And.intro hW (And.intro hBl hWs))
  clear hW hBl hWs
  have hrow := HB.out W (KeepX.refl _ _)
  have c0 := cell_of_row W B 0 _ _ _ hrow
  clear hB
  refine callsIn_of_wp Tryz.func161 rfl trivial ?_ rfl
  simp only [Tryz.ntmps161, List.size_toArray, List.length_cons, List.length_nil, Nat.reduceAdd, Nat.reduceSub, Array.replicate_succ, Array.replicate_zero, List.push_toArray, List.append_toArray, List.nil_append, List.cons_append]
  by_cases hk0 : p.d.k = 0
  · have HTL : Kpt (p.d.tys = p.d.t :: (if p.d.lo.eq p.d.t && p.d.up.eq p.d.t then [] else [p.d.lo, p.d.up])) := hid (by rw [HTY.out, if_pos hk0])
    rw [hk0] at c0
    have c16 := cell_of_row W B 16 _ _ _ hrow
    have c17 := cell_of_row W B 17 _ _ _ hrow
    have c18 := cell_of_row W B 18 _ _ _ hrow
    have c19 := cell_of_row W B 19 _ _ _ hrow
    have c20 := cell_of_row W B 20 _ _ _ hrow
    clear hrow
    have hlp : V ([] ++ [p.t]) := HV.out _ (by rw [HTL.out]; show [p.t.t] <+: _; rw [HT.out.1]; exact ⟨_, rfl⟩)
    obtain ⟨fn, tmps, assign, body, hyy, hR⟩ := HY.out (n - 1) [] p.t W h0 hlp
    dsimp only [TyI.v, TyI.cells] at hyy
    have HR := hid hR
    clear hR h0 hk0 HTY
    gi_wp2_with fail
    refine ⟨fun h => (by cases h), HR.out.mono ?_⟩
    rintro e W3 (⟨rfl, hJ3, hk3⟩ | ⟨rfl, hJx3, _⟩)
    · have hg := HG.out W3 hk3
      have hO3 := HO.out W3 hk3
      clear c0 c16 c17 c18 c19 c20 hyy
      have H3 := hid (And.intro hJ3 (And.intro hk3 (And.intro hg hO3)))
      clear hJ3 hk3 hg hO3
      gi_wp2_with (with_reducible refine wpListIn_load_mid rfl 75 _ rfl B 0 rfl pa _ H3.out.2.2.1 Tryz.underlying75 rfl (by rw [HPL.out]; kernel_rfl) ?_)
      refine ⟨trivial, fun h => (by cases h), callsIn_wide.2 ((HTR.out W3 H3.out.2.2.2).mono ?_)⟩
      rintro e W4 ⟨rfl, hb4⟩
      have hJ4 : J ([] ++ [p.t]) W4 := HJ.out _ _ _ H3.out.1 (hb4.mono H3.out.2.1.1)
      have hk4 : KeepX X W W4 := H3.out.2.1.trans (KeepX.of_below hb4)
      have hrow := HB.out W4 hk4
      have H4 := hid (And.intro hJ4 (And.intro hk4 hrow))
      clear hb4
      cases hTr : (p.d.lo.eq p.d.t && p.d.up.eq p.d.t) with
      | true =>
        have HTL2 : Kpt (p.d.tys = [p.d.t]) := hid (by rw [HTL.out, if_pos hTr])
        clear hTr hrow hJ4 hk4
        gi_wp2_with fail
        refine ⟨fun _ h => (by cases h), ?_⟩
        gi_wp2_with fail
        go_end0
        exact ⟨⟨_, rfl⟩, .inl ⟨[] ++ [p.t], by rw [HTL2.out]; show [p.t.t] = _; rw [HT.out.1], H4.out.1⟩⟩
      | false =>
        have HTL2 : Kpt (p.d.tys = [p.d.t, p.d.lo, p.d.up]) := hid (by rw [HTL.out, if_neg (by rw [hTr]; decide)])
        clear hTr
        have hlp : V ([] ++ [p.t] ++ [p.lo]) := HV.out _ (by rw [HTL2.out]; show [p.t.t, p.lo.t] <+: _; rw [HT.out.1, HT.out.2.1]; exact ⟨[p.d.up], rfl⟩)
        obtain ⟨fn, tmps, assign, body, hyy, hR⟩ := HY.out (n - 1) ([] ++ [p.t]) p.lo W4 hJ4 hlp
        dsimp only [TyI.v, TyI.cells] at hyy
        have HR2 := hid hR
        have c6 := cell_of_row W4 B 6 _ _ _ hrow
        have c7 := cell_of_row W4 B 7 _ _ _ hrow
        have c8 := cell_of_row W4 B 8 _ _ _ hrow
        have c9 := cell_of_row W4 B 9 _ _ _ hrow
        have c10 := cell_of_row W4 B 10 _ _ _ hrow
        clear hR hrow hJ4 hk4
        gi_wp2_with fail
        refine ⟨fun h => (by cases h), HR2.out.mono ?_⟩
        rintro e W5 (⟨rfl, hJ5, hk5⟩ | ⟨rfl, hJx5, _⟩)
        · have hrow := HB.out W5 (H4.out.2.1.trans hk5)
          have hlp : V ([] ++ [p.t] ++ [p.lo] ++ [p.up]) := HV.out _ (by rw [HTL2.out]; show [p.t.t, p.lo.t, p.up.t] <+: _; rw [HT.out.1, HT.out.2.1, HT.out.2.2]; exact List.prefix_refl _)
          clear c6 c7 c8 c9 c10 hyy
          obtain ⟨fn, tmps, assign, body, hyy, hR⟩ := HY.out (n - 1) ([] ++ [p.t] ++ [p.lo]) p.up W5 hJ5 hlp
          dsimp only [TyI.v, TyI.cells] at hyy
          have HR3 := hid hR
          have c11 := cell_of_row W5 B 11 _ _ _ hrow
          have c12 := cell_of_row W5 B 12 _ _ _ hrow
          have c13 := cell_of_row W5 B 13 _ _ _ hrow
          have c14 := cell_of_row W5 B 14 _ _ _ hrow
          have c15 := cell_of_row W5 B 15 _ _ _ hrow
          clear hR hrow hJ5 hk5
          gi_wp2_with fail
          refine ⟨fun h => (by cases h), HR3.out.mono ?_⟩
          rintro e W6 (⟨rfl, hJ6, _⟩ | ⟨rfl, hJx6, _⟩)
          · gi_wp2_with fail
            go_end0
            exact ⟨⟨_, rfl⟩, .inl ⟨[] ++ [p.t] ++ [p.lo] ++ [p.up], by rw [HTL2.out]; show [p.t.t, p.lo.t, p.up.t] = _; rw [HT.out.1, HT.out.2.1, HT.out.2.2], hJ6⟩⟩
          · gi_wp2_with fail
            go_end0
            exact ⟨⟨_, rfl⟩, .inr ⟨[] ++ [p.t] ++ [p.lo] ++ [p.up], by rw [HTL2.out]; show [p.t.t, p.lo.t, p.up.t] <+: _; rw [HT.out.1, HT.out.2.1, HT.out.2.2]; exact List.prefix_refl _, hJx6⟩⟩
        · gi_wp2_with fail
          go_end0
          exact ⟨⟨_, rfl⟩, .inr ⟨[] ++ [p.t] ++ [p.lo], by rw [HTL2.out]; show [p.t.t, p.lo.t] <+: _; rw [HT.out.1, HT.out.2.1]; exact ⟨[p.d.up], rfl⟩, hJx5⟩⟩
    · gi_wp2_with fail
      refine ⟨trivial, ?_⟩
      gi_wp2_with fail
      refine ⟨fun _ h => (by cases h), ?_⟩
      gi_wp2_with fail
      go_end0
      exact ⟨⟨_, rfl⟩, .inr ⟨[] ++ [p.t], by rw [HTL.out]; show [p.t.t] <+: _; rw [HT.out.1]; exact ⟨_, rfl⟩, hJx3⟩⟩
  · by_cases hk1 : p.d.k = 1
    · have HTL : Kpt (p.d.tys = p.d.P.map (·.t) ++ [p.d.t]) := hid (by rw [HTY.out, if_neg hk0, if_pos hk1])
      rw [hk1] at c0
      have c5 := cell_of_row W B 5 _ _ _ hrow
      have HJ0 := hid h0
      clear hrow hk0 HTY h0 hk1
      gi_wp2_with fail
      gi_loopw [4, 33] (fun _ a wr => ∃ (pre : List (TyI w0)) (i : Nat) (rp : List Pm), a = .int .i64 (i : Int) ∧ rp.length + i = p.d.P.length ∧ Kpt (pre.map (·.t) ++ rp.map (·.t) = p.d.P.map (·.t)) ∧ Kpt (RowD w0 (encPm rp) p.aP (i * 7)) ∧ J pre wr ∧ KeepX X W wr) (fun _ a _ => p.d.P.length - (intOf a).toNat)
      case atStart => exact ⟨[], 0, p.d.P, rfl, by omega, ⟨rfl⟩, ⟨rowD_zero HP.out⟩, HJ0.out, KeepX.refl _ _⟩
      case round =>
        obtain ⟨pre, i, rp, rfl, hri, hpre, hRP, hJp, hkp⟩ := hrel
        have HQ0 := hid (And.intro hpre.out (And.intro hRP.out (And.intro hJp hkp)))
        clear hpre hRP hJp hkp c0 c5
        cases rp with
        | nil =>
          have hi9 : i = p.d.P.length := by simp only [List.length_nil] at hri; omega
          subst hi9
          have hpa : pre.map (·.t) = p.d.P.map (·.t) := by rw [← HQ0.out.1]; simp
          have hrow := HB.out wr HQ0.out.2.2.2
          have c16 := cell_of_row wr B 16 _ _ _ hrow
          have c17 := cell_of_row wr B 17 _ _ _ hrow
          have c18 := cell_of_row wr B 18 _ _ _ hrow
          have c19 := cell_of_row wr B 19 _ _ _ hrow
          have c20 := cell_of_row wr B 20 _ _ _ hrow
          have hall : (pre ++ [p.t]).map (·.t) = p.d.tys := by rw [HTL.out, List.map_append, hpa, List.map_cons, List.map_nil, HT.out.1]
          have HA := hid hall
          have hlp : V (pre ++ [p.t]) := HV.out _ (by rw [hall]; exact List.prefix_refl _)
          obtain ⟨fn, tmps, assign, body, hyy, hR⟩ := HY.out (n - 1) pre p.t wr HQ0.out.2.2.1 hlp
          dsimp only [TyI.v, TyI.cells] at hyy
          have HR := hid hR
          clear hR hrow hpa hall hri
          gi_wp2_with fail
          refine ⟨fun h => (by cases h), HR.out.mono ?_⟩
          rintro e W6 (⟨rfl, hJ6, _⟩ | ⟨rfl, hJx6, _⟩)
          · gi_wp2_with fail
            go_end0
            exact ⟨⟨_, rfl⟩, .inl ⟨_, HA.out, hJ6⟩⟩
          · gi_wp2_with fail
            go_end0
            exact ⟨⟨_, rfl⟩, .inr ⟨_, by rw [HA.out]; exact List.prefix_refl _, hJx6⟩⟩
        | cons x r' =>
          have hlt : i < p.d.P.length := by simp only [List.length_cons] at hri; omega
          obtain ⟨bf, of, y, haF, hy, -, ⟨d0, d1, d2, d3, d4, d5, d6⟩, hr1⟩ := rowD_pm HQ0.out.2.1
          rw [haF]
          replace d0 := HC.out wr HQ0.out.2.2.2 _ _ d0
          replace d1 := HC.out wr HQ0.out.2.2.2 _ _ d1
          replace d2 := HC.out wr HQ0.out.2.2.2 _ _ d2
          replace d3 := HC.out wr HQ0.out.2.2.2 _ _ d3
          replace d4 := HC.out wr HQ0.out.2.2.2 _ _ d4
          replace d5 := HC.out wr HQ0.out.2.2.2 _ _ d5
          replace d6 := HC.out wr HQ0.out.2.2.2 _ _ d6
          have e1 : (pre ++ [y]).map (·.t) ++ r'.map (·.t) = p.d.P.map (·.t) := by rw [← HQ0.out.1, List.map_append, List.append_assoc]; simp [hy]
          have hlp : V (pre ++ [y]) := HV.out _ (by rw [HTL.out, ← e1, List.append_assoc]; exact ⟨_, rfl⟩)
          have hpx : (pre ++ [y]).map (·.t) <+: p.d.tys := by rw [HTL.out, ← e1, List.append_assoc]; exact ⟨_, rfl⟩
          have HE := hid (And.intro e1 (And.intro hpx hr1))
          have hBa : Below wr.heap.size wr (wr.alloc (.cells #[.string x.nm, .int .i64 x.vr, .int .i64 y.t.k, .string y.t.m, .string y.t.n, .slice y.aa y.t.A.len y.ca, .slice y.af y.t.F.len y.cf] 77)) := (Below.refl _ wr).alloc (Nat.le_refl _) _
          have hJ1 : J pre (wr.alloc (.cells #[.string x.nm, .int .i64 x.vr, .int .i64 y.t.k, .string y.t.m, .string y.t.n, .slice y.aa y.t.A.len y.ca, .slice y.af y.t.F.len y.cf] 77)) := HJ.out _ _ _ HQ0.out.2.2.1 (hBa.mono HQ0.out.2.2.2.1)
          have HQ := hid (And.intro hJ1 (KeepX.of_below (X := X) hBa))
          clear hJ1 hBa e1 hpx hr1 hy
          obtain ⟨fn, tmps, assign, body, hyy, hR⟩ := HY.out (n - 1) pre y _ HQ.out.1 hlp
          dsimp only [TyI.v, TyI.cells] at hyy
          have HR := hid hR
          clear hR
          gi_wp2_with fail
          refine ⟨fun h => (by cases h), HR.out.mono ?_⟩
          rintro e W3 (⟨rfl, hJ3, hk3⟩ | ⟨rfl, hJx3, _⟩)
          · gi_wp2_with fail
            go_roundw
            case rel => exact ⟨pre ++ [y], i + 1, r', by go_num, by simp only [List.length_cons] at hri; omega, ⟨HE.out.1⟩, haF ▸ ⟨HE.out.2.2⟩, hJ3, HQ0.out.2.2.2.trans (HQ.out.2.trans hk3)⟩
            case measure => simp [intOf]; omega
          · gi_wp2_with fail
            refine bodyPost_ret (results_none rfl _ _ _) rfl ?_
            exact ⟨⟨_, rfl⟩, .inr ⟨pre ++ [y], HE.out.2.1, hJx3⟩⟩
    · have HTL : Kpt (p.d.tys = []) := hid (by rw [HTY.out, if_neg hk0, if_neg hk1])
      have HJ0 := hid h0
      have q0 : (p.d.k == 0) = false := by rw [beq_eq_false_iff_ne]; exact hk0
      have q1 : (p.d.k == 1) = false := by rw [beq_eq_false_iff_ne]; exact hk1
      clear hrow HTY h0
      gi_wp2_with fail
      go_end0
      exact ⟨⟨_, rfl⟩, .inl ⟨[], by rw [HTL.out]; rfl, HJ0.out⟩⟩
theorem decl_seq (w0 : World) (p : DcI w0) (hP : p.d.P.length < 9223372036854775807)
    (pa : List Value) (hpl : pa.length = 31) (hpc : p.cells = pa.toArray)
    (hTR : ∀ W, KeepX (fun _ => False) w0 W → Calls Tryz.prog 162 #[.agg pa.toArray] W fun e W' => e = .returned (.bool (p.d.lo.eq p.d.t && p.d.up.eq p.d.t)) ∧ Below W.heap.size W W')
    (B : Nat) (w : World) (h1 : w.heap[B]? = some (.cells pa.toArray 75 (0, 0))) (hold : KeepX (fun _ => False) w0 w) (X : Nat → Prop) (hX : ∀ i, X i → w0.heap.size ≤ i ∧ i ≠ B) :
    SeqB Tryz.prog 161 #[.pointer (some ⟨B, 0, none⟩)] (fun y : TyI w0 => #[y.v]) X (fun ys => ys.map (·.t) = p.d.tys) (fun ys => ys.map (·.t) <+: p.d.tys) w := by
  intro n l J Jx W hb hJ hJx hY h0
  exact decl1_in w0 p hP pa hpl hpc hTR B X hX _ (fun _ h => h) l n J Jx W ((hb.block _ (Array.getElem?_eq_some_iff.1 h1).1).trans h1) (hold.trans (KeepX.of_below hb)) hJ hY h0

end Go.Proofs.YtnkhebgjhipepaaGreatDoor
