/- syntax: replaced: the step. -/
import Derived.Test.YtjedcijddlilaaaGreatDoorSyS
import Derived.Test.YtjedcijddlilaaaGreatDoorSyG
import Derived.OwnWalk
import Derived.StillTactics
import Derived.Laws.Pointers
import Derived.Deep.RegionHeld3
import Derived.Deep.DrawnRows
namespace Go.Proofs.YtjedcijddlilaaaGreatDoor
open Go.RowKit Go.Shelf

theorem infoTy : (Tryz.prog.info? 25).map (fun i => (i.zero, i.size, i.bytes)) = some (some zeroTy, 5, 88) := by kernel_rfl
theorem infoFd : (Tryz.prog.info? 86).map (fun i => (i.zero, i.size, i.bytes)) = some (some (.agg #[.string ⟨#[]⟩, .int .i64 0, .string ⟨#[]⟩, .string ⟨#[]⟩, .slice none 0 0, .slice none 0 0, .bool false]), 7, 112) := by kernel_rfl
theorem frozen_row {W : World} {B : Nat} {cs : Array Value} {t : TypeId} (h : W.heap[B]? = some (.cells cs t (0, 0))) (j : Nat) : W.frozen? ⟨B, j, none⟩ = false := by simp [World.frozen?, h]
theorem size_setC (W : World) (a : Addr) (v : Value) : (W.setCell a v).heap.size = W.heap.size := by simp
theorem below_setC {b : Nat} (A : World) {B j : Nat} (v : Value) (h : b ≤ B) : Below b A (A.setCell ⟨B, j, none⟩ v) := (Below.refl b A).setCell (p := ⟨B, j, none⟩) h v

theorem grownBy_setC (W : World) (b j : Nat) (v : Value) : W.grownBy (W.setCell ⟨b, j, none⟩ v) (some b) :=
  ⟨rfl, rfl, rfl, by rw [size_setC]; exact Nat.le_refl _, fun k _ hk => heap_setCell_other _ _ _ _ (fun e => hk (by rw [e]))⟩
theorem below_grown {A B : World} {b : Nat} {row : Option Nat} (hg : A.grownBy B row) (hr : ∀ k, row = some k → b ≤ k) (hb : b ≤ A.heap.size := by omega) : Below b A B := (Below.refl b A).grown hg hb hr
theorem own_belowS {w w' : World} {base : Nat} {e : TypeId} {size : Nat} {v : Value} {n : Nat} {xs : List Value} (h : w.ownsRow base e size v n xs) (hb : Below w.heap.size w w') : w'.ownsRow base e size v n xs :=
  h.kept (row := none) ⟨hb.os, hb.tape, hb.output, hb.size, fun k hk _ => hb.block k hk⟩ (by cases v.ownBlock <;> simp)
theorem far_cell {w w' : World} {row : Option Nat} (hg : w.grownBy w' row) {a : Addr} {v : Value} (h : w.cell? a = some v) (hne : some a.block ≠ row) : w'.cell? a = some v := (hg.cell_far a (World.block_lt_of_cell? w a h) hne).trans h
/-- What replaced does. -/
def ReplIs (w0 : World) (fv : Value) (x : TyI w0) (f : ByteArray → Option Ty) : Prop := ∀ W, Below w0.heap.size w0 W → Calls Tryz.prog 62 #[x.v, fv] W fun e W' =>
  ∃ r : TyC, e = .returned r.v ∧ r.t = x.t.sub f ∧ r.Ok W' (fun i => W.heap.size ≤ i ∧ i < W'.heap.size) ∧ Below W.heap.size W W'

/-- What the rest of it works on: its box B, its result's box R. -/
structure RestAt (w0 W Wc : World) (x : TyI w0) : Prop where
  box : Wc.heap[W.heap.size]? = some (.cells #[.int .i64 x.t.k, .string x.t.m, .string x.t.n, .slice x.aa x.t.A.len x.ca, .slice x.af x.t.F.len x.cf] 25 (0, 0))
  res : Wc.heap[W.heap.size + 1]? = some (.cells #[.int .i64 0, .string ⟨#[]⟩, .string ⟨#[]⟩, .slice none 0 0, .slice none 0 0] 25 (0, 0))
  below : Below W.heap.size W Wc
  old : Below w0.heap.size w0 W
  size : W.heap.size + 2 ≤ Wc.heap.size


/-- An element of a row of fields. -/
theorem lies_fd2 {w : World} : ∀ (T : Tr) (b o i : Nat), Lies w T true b o → i < T.len → ∃ (fn : ByteArray) (op : Bool) (x : TyI w), T.els[i]? = some x.t ∧ T.fds[i]? = some (fn, op) ∧
    w.cell? ⟨b, o + i * 7, none⟩ = some (.string fn) ∧ w.cell? ⟨b, o + i * 7 + 1, none⟩ = some (.int .i64 x.t.k) ∧ w.cell? ⟨b, o + i * 7 + 2, none⟩ = some (.string x.t.m) ∧ w.cell? ⟨b, o + i * 7 + 3, none⟩ = some (.string x.t.n) ∧
    w.cell? ⟨b, o + i * 7 + 4, none⟩ = some (.slice x.aa x.t.A.len x.ca) ∧ w.cell? ⟨b, o + i * 7 + 5, none⟩ = some (.slice x.af x.t.F.len x.cf) ∧ w.cell? ⟨b, o + i * 7 + 6, none⟩ = some (.bool op) := by
  intro T
  induction T with
  | nil => intro b o i _ hi; exact absurd hi (Nat.not_lt_zero _)
  | node fn op k m n A F nx ha hf hn =>
    intro b o i h hi
    obtain ⟨h0, ⟨h1, h1w⟩, h2, h3, ⟨a, c, h4, h5⟩, ⟨a', c', h6, h7⟩, h8⟩ := h
    obtain ⟨h00, h06⟩ := h0 rfl
    cases i with
    | zero =>
      refine ⟨fn, op, ⟨⟨k, m, n, A, F⟩, a, c, a', c', h1w, h5, h7⟩, rfl, rfl, ?_, ?_, ?_, ?_, ?_, ?_, ?_⟩
      · simpa using h00
      · simpa using h1
      · simpa using h2
      · simpa using h3
      · simpa using h4
      · simpa using h6
      · simpa using h06
    | succ i =>
      obtain ⟨fn', op', x, g0, gf, g1, g2, g3, g4, g5, g6, g7⟩ := hn b (o + 7) i h8 (by simp only [Tr.len] at hi; omega)
      have e : o + (i + 1) * 7 = o + 7 + i * 7 := by omega
      refine ⟨fn', op', x, by simpa [Tr.els] using g0, by simpa [Tr.fds] using gf, ?_, ?_, ?_, ?_, ?_, ?_, ?_⟩ <;> rw [e] <;> assumption
def zipCells (l : List (ByteArray × Bool)) (rs : List TyC) : List Value := (l.zip rs).flatMap fun q => fdCells q.1 q.2
theorem zipCells_snoc {l : List (ByteArray × Bool)} {rs : List TyC} (h : l.length = rs.length) (p : ByteArray × Bool) (r : TyC) : zipCells (l ++ [p]) (rs ++ [r]) = zipCells l rs ++ fdCells p r := by
  unfold zipCells
  rw [List.zip_append h]
  simp
/-- What of a body comes behind its first two parts. -/
def tailOf : Option Code → Code
  | some (.seq _ (.seq _ r)) => r
  | _ => .skip
set_option maxRecDepth 100000 in
set_option maxHeartbeats 8000000 in
theorem repl_rest (w0 : World) (g : Nat) (lb : Array Value) (f : ByteArray → Option Ty) (s : Nat) (hs : s + 1 ≤ 1099511627776)
    (ih : ∀ y : TyI w0, y.t.size ≤ s → ReplIs w0 (.func (.func g) #[] lb) y f) (x : TyI w0) (hx : x.t.size ≤ s + 1) (W W2 : World) (hrest : RestAt w0 W W2 x) (R : Ending → World → Prop)
    (hR0 : ∀ (r : TyC) (W' : World), r.t = ⟨x.t.k, x.t.m, x.t.n, x.t.A.sub f, x.t.F.sub f⟩ → r.Ok W' (fun i => W.heap.size ≤ i ∧ i < W'.heap.size) → Below W.heap.size W W' → R (.returned r.v) W')
    (u3 u5 u6 u7 u8 u9 u10 u11 u12 u13 u14 u15 u16 u17 u18 u19 u20 u21 u22 u23 u24 u25 u26 u27 u28 u29 u30 u31 u32 u33 u34 u35 u36 u37 u38 u39 u40 u41 u42 u43 u44 u45 u46 u47 u48 u49 u50 u51 u52 u53 u54 u55 u56 u57 u58 u59 u60 u61 u62 u63 u64 u65 : Value) :
    Code.wp Tryz.prog (tailOf Tryz.f62.body) (bodyPost Tryz.prog Tryz.f62 R)
      { tmps := #[.agg #[.int .i64 x.t.k, .string x.t.m, .string x.t.n, .slice x.aa x.t.A.len x.ca, .slice x.af x.t.F.len x.cf], .func (.func g) #[] lb, .pointer (some ⟨W.heap.size, 0, none⟩), u3, .pointer (some ⟨W.heap.size + 1, 0, none⟩), u5, u6, u7, u8, u9, u10, u11, u12, u13, u14, u15, u16, u17, u18, u19, u20, u21, u22, u23, u24, u25, u26, u27, u28, u29, u30, u31, u32, u33, u34, u35, u36, u37, u38, u39, u40, u41, u42, u43, u44, u45, u46, u47, u48, u49, u50, u51, u52, u53, u54, u55, u56, u57, u58, u59, u60, u61, u62, u63, u64, u65], defers := [] } W2 := by
  obtain ⟨i0, hi, hz0, hz1, hz2⟩ := info_parts infoTy
  obtain ⟨j0, hj, hy0, hy1, hy2⟩ := info_parts infoFd
  have HI := hid ih
  have HR := hid hrest
  have HPO := hid hR0
  clear ih hR0
  have q3 := cell_of_row W2 _ 3 _ _ _ HR.out.box
  have q4 := cell_of_row W2 _ 4 _ _ _ HR.out.box
  dsimp only [Tryz.f62, tailOf]
  go_wp2_with fail
  go_quiet (fail)
  clear q3 q4 hrest
  have hrq : RestAt w0 W (W2.drewN nq) x := ⟨HR.out.box, HR.out.res, ⟨HR.out.below.os, HR.out.below.tape, HR.out.below.output, HR.out.below.size, HR.out.below.block⟩, HR.out.old, HR.out.size⟩
  generalize W2.drewN nq = Wc at hrq ⊢
  clear HR
  have HR := hid hrq
  clear hrq

  -- the rest: the parts, replaced
  obtain ⟨We, hWe⟩ : ∃ We, Wc.setCell ⟨W.heap.size, 3, none⟩ (.slice none 0 0) = We := ⟨_, rfl⟩
  obtain ⟨Wd, hWd⟩ : ∃ Wd, We.setCell ⟨W.heap.size, 4, none⟩ (.slice none 0 0) = Wd := ⟨_, rfl⟩
  have hbe : We.heap[W.heap.size]? = some (.cells #[.int .i64 x.t.k, .string x.t.m, .string x.t.n, .slice none 0 0, .slice x.af x.t.F.len x.cf] 25 (0, 0)) := by rw [← hWe]; exact heap_setCell_same Wc _ 3 _ _ _ HR.out.box
  have hbd : Wd.heap[W.heap.size]? = some (.cells #[.int .i64 x.t.k, .string x.t.m, .string x.t.n, .slice none 0 0, .slice none 0 0] 25 (0, 0)) := by rw [← hWd]; exact heap_setCell_same We _ 4 _ _ _ hbe
  have hrd : Wd.heap[W.heap.size + 1]? = some (.cells #[.int .i64 0, .string ⟨#[]⟩, .string ⟨#[]⟩, .slice none 0 0, .slice none 0 0] 25 (0, 0)) := by
    rw [← hWd, heap_setCell_other _ _ _ _ (by show W.heap.size + 1 ≠ W.heap.size; omega), ← hWe, heap_setCell_other _ _ _ _ (by show W.heap.size + 1 ≠ W.heap.size; omega)]; exact HR.out.res
  have hsd : Wd.heap.size = Wc.heap.size := by rw [← hWd, size_setC, ← hWe, size_setC]
  have hBd : Below W.heap.size W Wd := by
    rw [← hWd, ← hWe]; exact HR.out.below.trans ((below_setC Wc _ (Nat.le_refl _)).trans (below_setC _ _ (Nat.le_refl _)))
  have q3 := cell_of_row Wc _ 3 _ _ _ HR.out.box
  have z3 := frozen_row HR.out.box 3
  have z4 := frozen_row hbe 4
  have e4 := cell_of_row We _ 4 _ _ _ hbe
  have HD := hid (And.intro hbd (And.intro hrd (And.intro hsd hBd)))
  clear hbe hbd hrd hsd hBd

  go_wp2_with fail
  clear q3 z3 z4 e4 hWe hWd
  go_loopw [34] (fun a wr => ∃ (rs : List TyC) (i : Nat) (p : Option Addr) (c : Nat), a = .int .i64 (i : Int) ∧ i ≤ x.t.A.len ∧ rs.map (·.t) = (x.t.A.els.map (Ty.sub f)).take i ∧ wr.ownsRow (W.heap.size + 2) 25 5 (.slice p i c) i (rs.flatMap TyC.cells) ∧
    wr.heap[W.heap.size]? = some (.cells #[.int .i64 x.t.k, .string x.t.m, .string x.t.n, .slice p i c, .slice none 0 0] 25 (0, 0)) ∧ wr.heap[W.heap.size + 1]? = Wd.heap[W.heap.size + 1]? ∧
    (∀ r ∈ rs, r.Ok wr (fun j => W.heap.size + 2 ≤ j ∧ j < wr.heap.size ∧ Value.ownBlock (.slice p i c) ≠ some j)) ∧ Below W.heap.size W wr ∧ W.heap.size + 2 ≤ wr.heap.size) (fun a _ => x.t.A.len - (intOf a).toNat)
  case atStart => exact ⟨[], 0, none, 0, rfl, Nat.zero_le _, rfl, World.ownsRow_nil _ _ _ _, HD.out.1, rfl, (fun r hr => by cases hr), HD.out.2.2.2, by have h1 := HD.out.2.2.1; have h2 := HR.out.size; omega⟩
  case round =>
    obtain ⟨rs, i, p, c, rfl, h1, h2, h3, h4, h5, h6, h7, h8⟩ := hrel
    have hold := HR.out.old.trans (h7.mono HR.out.old.size)
    have hown0 := h3.lt
    have HP := hid (And.intro h2 (And.intro h3 (And.intro h4 (And.intro h5 (And.intro h6 (And.intro h7 (And.intro h8 (And.intro hold hown0))))))))
    clear h2 h3 h4 h5 h6 h7 hold hown0
    by_cases hlt : i < x.t.A.len
    · have hszA := Tr.len_le x.t.A
      have hszx : x.t.size = 1 + x.t.A.size + x.t.F.size := rfl
      obtain ⟨ba, oa, haa, hL⟩ : ∃ b o, x.aa = some ⟨b, o, none⟩ ∧ Lies w0 x.t.A false b o := by
        rcases x.ha with h | h
        · rw [h] at hlt; exact absurd hlt (Nat.not_lt_zero _)
        · exact h
      obtain ⟨y, hy, d0, d1, d2, d3, d4⟩ := lies_ty x.t.A ba oa i hL hlt
      have hys : y.t.size ≤ s := by
        have := Tr.el_size (List.mem_of_getElem? hy)
        omega
      replace d0 := old_cell HP.out.2.2.2.2.2.2.2.1 d0
      replace d1 := old_cell HP.out.2.2.2.2.2.2.2.1 d1
      replace d2 := old_cell HP.out.2.2.2.2.2.2.2.1 d2
      replace d3 := old_cell HP.out.2.2.2.2.2.2.2.1 d3
      replace d4 := old_cell HP.out.2.2.2.2.2.2.2.1 d4
      obtain ⟨wa, hwa⟩ : ∃ wa, wr.alloc (.cells #[.int .i64 y.t.k, .string y.t.m, .string y.t.n, .slice y.aa y.t.A.len y.ca, .slice y.af y.t.F.len y.cf] 25) = wa := ⟨_, rfl⟩
      have hba : Below wr.heap.size wr wa := by rw [← hwa]; exact (Below.refl _ wr).alloc (Nat.le_refl _) _
      have hsa : wa.heap.size = wr.heap.size + 1 := by rw [← hwa]; simp
      have hea : wa.heap[wr.heap.size]? = some (.cells #[.int .i64 y.t.k, .string y.t.m, .string y.t.n, .slice y.aa y.t.A.len y.ca, .slice y.af y.t.F.len y.cf] 25 (0, 0)) := by rw [← hwa]; exact World.alloc_heap_new _ _
      have hBa := (hba.block _ (by omega)).trans HP.out.2.2.1
      have k0 := cell_of_row wa _ 0 _ _ _ hea
      have k1 := cell_of_row wa _ 1 _ _ _ hea
      have k2 := cell_of_row wa _ 2 _ _ _ hea
      have k3 := cell_of_row wa _ 3 _ _ _ hea
      have k4 := cell_of_row wa _ 4 _ _ _ hea
      have k5 := cell_of_row wa _ 3 _ _ _ hBa
      have hcall : Calls Tryz.prog 62 #[.agg #[.int .i64 y.t.k, .string y.t.m, .string y.t.n, .slice y.aa y.t.A.len y.ca, .slice y.af y.t.F.len y.cf], .func (.func g) #[] lb] wa.drew fun e W' => ∃ r : TyC, e = .returned (.agg #[.int .i64 r.t.k, .string r.t.m, .string r.t.n, .slice r.aa r.t.A.len r.ca, .slice r.af r.t.F.len r.cf]) ∧ r.t = y.t.sub f ∧ r.Ok W' (fun i => wa.drew.heap.size ≤ i ∧ i < W'.heap.size) ∧ Below wa.drew.heap.size wa.drew W' := HI.out y hys wa.drew (HP.out.2.2.2.2.2.2.2.1.trans (hba.mono HP.out.2.2.2.2.2.2.2.1.size)).drew
      have HY := hid (And.intro hy (And.intro hba (And.intro hsa (And.intro hBa hcall))))
      clear hy hba hsa hea hBa hcall hL hys
      rw [haa]
      have ala : ∀ {w : World} (o : Obj), Below w.heap.size w (w.alloc o) := fun o => (Below.refl _ _).alloc (Nat.le_refl _) _
      have nF : W.heap.size ≠ wr.heap.size := by omega
      have nB : some W.heap.size ≠ Value.ownBlock (.slice p i c) := fun e => by have := (HP.out.2.2.2.2.2.2.2.2 _ e.symm).1; omega
      have nE : some wr.heap.size ≠ Value.ownBlock (.slice p i c) := fun e => by have := (HP.out.2.2.2.2.2.2.2.2 _ e.symm).2; omega
      go_wp2_with fail
      refine wp_region_noPanic ?_
      refine region_G (S := fun w' => w'.cell? ⟨W.heap.size, 3, none⟩ = some (.slice p i c)) (z := 8) (by kernel_rfl) ?_
      change wpAnyG _ _ _ _ _ _ 9 _ _ _
      refine G_take (i := 0) (v := .pointer (some ⟨W.heap.size, 3, none⟩)) rfl (by kernel_rfl) (by kernel_rfl) (by kernel_rfl) (by kernel_rfl) (by decide) (by kernel_rfl) (fun _ _ _ h => h) (.inl ⟨by simp [Region.wanted], fun w' hS => ?y0⟩) k5 ?_
      case y0 => simp [execOp, go_sem]
      refine G_take (i := 1) (v := .slice p i c) rfl (by kernel_rfl) (by kernel_rfl) (by kernel_rfl) (by kernel_rfl) (by decide) (by kernel_rfl) (fun _ _ _ h => h) (.inl ⟨by simp [Region.wanted], fun w' hS => ?y1⟩) k5 ?_
      case y1 => simp [execOp, go_sem, hS]
      refine G_take (i := 3) (v := .func (.func g) #[] lb) rfl (by kernel_rfl) (by kernel_rfl) (by kernel_rfl) (by kernel_rfl) (by decide) (by kernel_rfl) (fun _ _ _ h => h) (.inl ⟨by simp [Region.wanted], fun w' hS => ?y3⟩) k5 ?_
      case y3 => simp [execOp, go_sem]
      refine G_list [(2, _), (4, _), (5, _), (6, _), (7, _), (8, _)] _ _ _ rfl (by simp) (by kernel_rfl) ?_
      simp only [Act.put, List.setIfInBounds_toArray]
      refine gList_step ?_
      go_wp2_with fail
      refine ⟨fun _ => k5, gList_step ?_⟩
      go_wp2_with fail
      refine HY.out.2.2.2.2.mono ?_
      rintro e w3 ⟨r, rfl, hrt0, hrok0, hb3⟩
      have hrt := hid hrt0
      have hrok := hid hrok0
      clear hrt0 hrok0
      have m5 := old_cell hb3 k5
      go_wp2_with fail
      refine ⟨fun _ => m5, gList_step ?_⟩
      obtain ⟨w4, hw4⟩ : ∃ w4, w3.alloc (.cells #[.int .i64 r.t.k, .string r.t.m, .string r.t.n, .slice r.aa r.t.A.len r.ca, .slice r.af r.t.F.len r.cf] 25) = w4 := ⟨_, rfl⟩
      have hb4 : Below w3.heap.size w3 w4 := by rw [← hw4]; exact (Below.refl _ w3).alloc (Nat.le_refl _) _
      have hs4 : w4.heap.size = w3.heap.size + 1 := by rw [← hw4]; simp
      have he4 : w4.heap[w3.heap.size]? = some (.cells #[.int .i64 r.t.k, .string r.t.m, .string r.t.n, .slice r.aa r.t.A.len r.ca, .slice r.af r.t.F.len r.cf] 25 (0, 0)) := by rw [← hw4]; exact World.alloc_heap_new _ _
      have hs3 : wa.heap.size ≤ w3.heap.size := hb3.size
      have hsa2 : wa.heap.size = wr.heap.size + 1 := HY.out.2.2.1
      have hr4 : Below wr.heap.size wr w4 := HY.out.2.1.drew.trans ((hb3.mono HY.out.2.1.size).trans (hb4.mono (Nat.le_trans HY.out.2.1.size hs3)))
      have hown4 := own_belowS HP.out.2.1 hr4
      have hB4 := (hr4.block W.heap.size (by omega)).trans HP.out.2.2.1
      have k4' := cell_of_row w4 _ 3 _ _ _ hB4
      go_wp2_with fail
      refine ⟨fun _ => k4', gList_step ?_⟩
      go_wp2_with (at_builtin; go_loud (refine wpList_append_lies _ rfl _ _ 22 rfl (W.heap.size + 2) 25 i0 _ 5 88 Tryz.underlying22 hi hz0 hz1 hz2 rfl (by decide) _ _ _ rfl hown4 ⟨w3.heap.size, 0, none⟩ 1 1 [.int .i64 r.t.k, .string r.t.m, .string r.t.n, .slice r.aa r.t.A.len r.ca, .slice r.af r.t.F.len r.cf] rfl rfl (World.news_of_block he4) (by simp [Value.oneCell']) (by decide) (by unfold maxLen; omega) (by omega) (by omega) _ rfl ?_); intro gn cn w5 hown5 hgrow5 hat5 hlt5)
      replace hat5 : Value.ownBlock (.slice p i c) = some gn ∨ gn = w4.heap.size := hat5
      replace hgrow5 : w4.grownBy w5 (Value.ownBlock (.slice p i c)) := hgrow5
      have hB5 := (hgrow5.block W.heap.size (by omega) nB).trans hB4
      have k5' := cell_of_row w5 _ 3 _ _ _ hB5
      have t5 := frozen_row hB5 3
      refine ⟨k5', gList_step ?_⟩
      go_wp2_with fail
      refine ⟨fun _ => k5', gList_step ?_⟩
      go_wp2_with fail
      refine ⟨fun h => absurd rfl h, ?_⟩
      refine NoPanic.normal ?_
      go_wp2_with fail
      have hg5 : gn ≠ W.heap.size := fun e => by
        have := (hown5.lt gn rfl).1; omega
      have hb6 := heap_setCell_same w5 W.heap.size 3 _ _ (.slice (some ⟨gn, 0, none⟩) (i + 1) cn) hB5
      have ho6 := hown5.kept (row := some W.heap.size) (w' := w5.setCell ⟨W.heap.size, 3, none⟩ (.slice (some ⟨gn, 0, none⟩) (i + 1) cn)) (grownBy_setC w5 _ _ _) (.inr (by show some gn ≠ some W.heap.size; simpa using hg5))
      have hr6 : (w5.setCell ⟨W.heap.size, 3, none⟩ (.slice (some ⟨gn, 0, none⟩) (i + 1) cn)).heap[W.heap.size + 1]? = Wd.heap[W.heap.size + 1]? := by
        rw [heap_setCell_other _ _ _ _ (by show W.heap.size + 1 ≠ W.heap.size; omega), hgrow5.block _ (by omega) (fun e => by have := (HP.out.2.2.2.2.2.2.2.2 _ e.symm).1; omega), hr4.block _ (by omega), HP.out.2.2.2.1]
      have hs6 : w4.heap.size ≤ (w5.setCell ⟨W.heap.size, 3, none⟩ (.slice (some ⟨gn, 0, none⟩) (i + 1) cn)).heap.size := by rw [size_setC]; exact hgrow5.size
      have hx6 : ∀ j, j < w4.heap.size → ¬ (Value.ownBlock (.slice p i c) = some j ∨ j = W.heap.size) → (w5.setCell ⟨W.heap.size, 3, none⟩ (.slice (some ⟨gn, 0, none⟩) (i + 1) cn)).heap[j]? = w4.heap[j]? := fun j hj hx => by
        rw [heap_setCell_other _ _ _ _ (fun e => hx (.inr e)), hgrow5.block j hj (fun e => hx (.inl e.symm))]
      have hB6 : Below W.heap.size W (w5.setCell ⟨W.heap.size, 3, none⟩ (.slice (some ⟨gn, 0, none⟩) (i + 1) cn)) :=
        (HP.out.2.2.2.2.2.1.trans (hr4.mono HP.out.2.2.2.2.2.1.size)).trans ((below_grown hgrow5 (fun k e => by have := (HP.out.2.2.2.2.2.2.2.2 _ e).1; omega)).trans (below_setC w5 _ (Nat.le_refl _)))
      have hkr : KeepX (fun j => Value.ownBlock (.slice p i c) = some j ∨ j = W.heap.size) wr (w5.setCell ⟨W.heap.size, 3, none⟩ (.slice (some ⟨gn, 0, none⟩) (i + 1) cn)) :=
        ⟨Nat.le_trans hr4.size hs6, fun j hj hx => (hx6 j (Nat.lt_of_lt_of_le hj hr4.size) hx).trans (hr4.block j hj)⟩
      have hk3 : KeepX (fun j => Value.ownBlock (.slice p i c) = some j ∨ j = W.heap.size) w3 (w5.setCell ⟨W.heap.size, 3, none⟩ (.slice (some ⟨gn, 0, none⟩) (i + 1) cn)) :=
        ⟨Nat.le_trans hb4.size hs6, fun j hj hx => (hx6 j (Nat.lt_of_lt_of_le hj hb4.size) hx).trans (hb4.block j hj)⟩
      have hlt0 := HP.out.2.2.2.2.2.2.2.2
      have hsd : wa.drew.heap.size = wa.heap.size := rfl
      go_roundw
      case rel =>
        refine ⟨rs ++ [r], i + 1, some ⟨gn, 0, none⟩, cn, by go_num, by omega, ?_, ?_, ?_, hr6, ?_, hB6, by omega⟩
        · rw [List.map_append, HP.out.1, take_snoc (by rw [List.getElem?_map, HY.out.1]; rfl)]
          simp [hrt.out]
        · rw [List.flatMap_append]
          simpa [TyC.cells] using ho6
        · simpa using hb6
        · intro q hq
          rcases List.mem_append.1 hq with hq | hq
          · refine (HP.out.2.2.2.2.1 q hq).keep hkr fun j hj => ⟨?_, hj.1, by omega, ?_⟩
            · rintro (h | h)
              · exact hj.2.2 h
              · omega
            · rintro h
              have h' : gn = j := by simpa [Value.ownBlock] using h
              rcases hat5 with h9 | h9
              · exact hj.2.2 (by rw [h9, h'])
              · omega
          · rw [List.mem_singleton] at hq
            subst hq
            refine hrok.out.keep hk3 fun j hj => ⟨?_, by omega, by omega, ?_⟩
            · rintro (h | h)
              · have := (hlt0 j h).2; omega
              · omega
            · rintro h
              have h' : gn = j := by simpa [Value.ownBlock] using h
              rcases hat5 with h9 | h9
              · have := (hlt0 gn h9).2; omega
              · omega
      case measure => simp [intOf]; omega
    · obtain rfl : i = x.t.A.len := by omega
      have hszA := Tr.len_le x.t.A
      have hszF := Tr.len_le x.t.F
      have hszx : x.t.size = 1 + x.t.A.size + x.t.F.size := rfl
      have hmA : rs.map (·.t) = (x.t.A.sub f).els := by rw [HP.out.1, Tr.els_sub, List.take_of_length_le (by rw [List.length_map, Tr.els_len]; exact Nat.le_refl _)]
      -- the arguments are there
      have hA1 : x.t.A.sub f = .nil ∨ ∃ b o, p = some ⟨b, o, none⟩ ∧ (W.heap.size + 2 ≤ b ∧ b < wr.heap.size ∧ Value.ownBlock (.slice none 0 0) ≠ some b) ∧ LiesP wr (fun j => W.heap.size + 2 ≤ j ∧ j < wr.heap.size ∧ Value.ownBlock (.slice none 0 0) ≠ some j) (x.t.A.sub f) false b o := by
        rcases Nat.eq_zero_or_pos x.t.A.len with h0 | h0
        · left
          have h1 : (x.t.A.sub f).len = 0 := by rw [Tr.sub_len]; exact h0
          cases h2 : x.t.A.sub f with
          | nil => rfl
          | node => rw [h2] at h1; simp [Tr.len] at h1
        · right
          obtain ⟨gp, cp, he, hb1, hb2⟩ := HP.out.2.1.form h0
          have he' : p = some ⟨gp, 0, none⟩ := by injection he
          subst he'
          refine ⟨gp, 0, rfl, ⟨hb1, hb2, by simp [Value.ownBlock]⟩, liesP_types _ rs 0 hmA (fun r hr => ?_) (fun j r hj i u hu => ?_)⟩
          · exact (HP.out.2.2.2.2.1 r hr).keep (KeepX.refl (fun _ => False) _) fun j hj => ⟨fun h => h, hj.1, hj.2.1, by simp [Value.ownBlock]⟩
          · have h9 := HP.out.2.1.cells (g := gp) rfl (j * 5 + i) u (flat_at TyC.cells 5 (fun _ => rfl) rs j i r u hj hu)
            rw [Addr.add_lit] at h9
            have e9 : 0 + (j * 5 + i) = 0 + j * 5 + i := by omega
            rw [e9] at h9; exact h9
      have hlA : (x.t.A.sub f).len = x.t.A.len := Tr.sub_len _ _
      obtain ⟨r1, hr1⟩ : ∃ r1 : TyC, r1 = ⟨⟨x.t.k, x.t.m, x.t.n, x.t.A.sub f, .nil⟩, p, c, none, 0⟩ := ⟨_, rfl⟩
      have hok1 : r1.Ok wr (fun j => W.heap.size + 2 ≤ j ∧ j < wr.heap.size ∧ Value.ownBlock (.slice none 0 0) ≠ some j) := by
        rw [hr1]; exact ⟨x.hk, hA1, .inl rfl⟩
      have H1 := hid (And.intro hok1 (And.intro hr1 hlA))
      clear hA1 hmA hok1 hr1 hlA
      obtain ⟨wz, hwz⟩ : ∃ wz, wz = wr := ⟨_, rfl⟩
      have z4 := cell_of_row wr _ 4 _ _ _ HP.out.2.2.1
      subst hwz
      go_wp2_with fail
      clear z4
      go_loopw [49] (fun a wr => ∃ (qs : List TyC) (i : Nat) (p2 : Option Addr) (c2 : Nat), a = .int .i64 (i : Int) ∧ i ≤ x.t.F.len ∧ qs.map (·.t) = (x.t.F.els.map (Ty.sub f)).take i ∧ wr.ownsRow (W.heap.size + 2) 86 7 (.slice p2 i c2) i (zipCells (x.t.F.fds.take i) qs) ∧
        wr.heap[W.heap.size]? = some (.cells #[.int .i64 x.t.k, .string x.t.m, .string x.t.n, .slice p x.t.A.len c, .slice p2 i c2] 25 (0, 0)) ∧ wr.heap[W.heap.size + 1]? = Wd.heap[W.heap.size + 1]? ∧
        (∀ r ∈ r1 :: qs, r.Ok wr (fun j => W.heap.size + 2 ≤ j ∧ j < wr.heap.size ∧ Value.ownBlock (.slice p2 i c2) ≠ some j)) ∧ Below W.heap.size W wr ∧ W.heap.size + 2 ≤ wr.heap.size) (fun a _ => x.t.F.len - (intOf a).toNat)
      case atStart => exact ⟨[], 0, none, 0, rfl, Nat.zero_le _, rfl, World.ownsRow_nil _ _ _ _, HP.out.2.2.1, HP.out.2.2.2.1, (fun r hr => by rw [List.mem_singleton] at hr; subst hr; exact H1.out.1), HP.out.2.2.2.2.2.1, HP.out.2.2.2.2.2.2.1⟩
      case round =>
        clear HP
        obtain ⟨qs, i, p2, c2, rfl, h1, h2, h3, h4, h5, h6, h7, h8⟩ := hrel
        have hold := HR.out.old.trans (h7.mono HR.out.old.size)
        have hown0 := h3.lt
        have HP := hid (And.intro h2 (And.intro h3 (And.intro h4 (And.intro h5 (And.intro h6 (And.intro h7 (And.intro h8 (And.intro hold hown0))))))))
        clear h2 h3 h4 h5 h6 h7 hold hown0
        by_cases hlt : i < x.t.F.len
        · obtain ⟨ba, oa, haa, hL⟩ : ∃ b o, x.af = some ⟨b, o, none⟩ ∧ Lies w0 x.t.F true b o := by
            rcases x.hf with h | h
            · rw [h] at hlt; exact absurd hlt (Nat.not_lt_zero _)
            · exact h
          obtain ⟨fn0, op0, y, hy, hfd, d0, d1, d2, d3, d4, d5, d6⟩ := lies_fd2 x.t.F ba oa i hL hlt
          have hys : y.t.size ≤ s := by
            have := Tr.el_size (List.mem_of_getElem? hy)
            omega
          replace d0 := old_cell HP.out.2.2.2.2.2.2.2.1 d0
          replace d1 := old_cell HP.out.2.2.2.2.2.2.2.1 d1
          replace d2 := old_cell HP.out.2.2.2.2.2.2.2.1 d2
          replace d3 := old_cell HP.out.2.2.2.2.2.2.2.1 d3
          replace d4 := old_cell HP.out.2.2.2.2.2.2.2.1 d4
          replace d5 := old_cell HP.out.2.2.2.2.2.2.2.1 d5
          replace d6 := old_cell HP.out.2.2.2.2.2.2.2.1 d6
          obtain ⟨wa, hwa⟩ : ∃ wa, wr.alloc (.cells #[.string fn0, .int .i64 y.t.k, .string y.t.m, .string y.t.n, .slice y.aa y.t.A.len y.ca, .slice y.af y.t.F.len y.cf, .bool op0] 86) = wa := ⟨_, rfl⟩
          have hba : Below wr.heap.size wr wa := by rw [← hwa]; exact (Below.refl _ wr).alloc (Nat.le_refl _) _
          have hsa : wa.heap.size = wr.heap.size + 1 := by rw [← hwa]; simp
          have hea : wa.heap[wr.heap.size]? = some (.cells #[.string fn0, .int .i64 y.t.k, .string y.t.m, .string y.t.n, .slice y.aa y.t.A.len y.ca, .slice y.af y.t.F.len y.cf, .bool op0] 86 (0, 0)) := by rw [← hwa]; exact World.alloc_heap_new _ _
          have hBa := (hba.block W.heap.size (by omega)).trans HP.out.2.2.1
          have k1 := cell_of_row wa _ 1 _ _ _ hea
          have k2 := cell_of_row wa _ 2 _ _ _ hea
          have k3 := cell_of_row wa _ 3 _ _ _ hea
          have k4 := cell_of_row wa _ 4 _ _ _ hea
          have k5 := cell_of_row wa _ 5 _ _ _ hea
          have hcall : Calls Tryz.prog 62 #[.agg #[.int .i64 y.t.k, .string y.t.m, .string y.t.n, .slice y.aa y.t.A.len y.ca, .slice y.af y.t.F.len y.cf], .func (.func g) #[] lb] wa fun e W' => ∃ r : TyC, e = .returned (.agg #[.int .i64 r.t.k, .string r.t.m, .string r.t.n, .slice r.aa r.t.A.len r.ca, .slice r.af r.t.F.len r.cf]) ∧ r.t = y.t.sub f ∧ r.Ok W' (fun i => wa.heap.size ≤ i ∧ i < W'.heap.size) ∧ Below wa.heap.size wa W' := HI.out y hys wa (HP.out.2.2.2.2.2.2.2.1.trans (hba.mono HP.out.2.2.2.2.2.2.2.1.size))
          have HY := hid (And.intro hy (And.intro hba (And.intro hsa (And.intro hBa (And.intro hea (And.intro hfd hcall))))))
          clear hy hba hsa hea hBa hcall hL hys hfd
          rw [haa]
          have nB : some W.heap.size ≠ Value.ownBlock (.slice p2 i c2) := fun e => by have := (HP.out.2.2.2.2.2.2.2.2 _ e.symm).1; omega
          have nE : some wr.heap.size ≠ Value.ownBlock (.slice p2 i c2) := fun e => by have := (HP.out.2.2.2.2.2.2.2.2 _ e.symm).2; omega
          go_wp2_with fail
          refine HY.out.2.2.2.2.2.2.mono ?_
          rintro e w3 ⟨r, rfl, hrt0, hrok0, hb3⟩
          have hrt := hid hrt0
          have hrok := hid hrok0
          clear hrt0 hrok0 k1 k2 k3 k4 k5 d0 d1 d2 d3 d4 d5 d6 hwa
          have hs3 : wa.heap.size ≤ w3.heap.size := hb3.size
          have hsa2 : wa.heap.size = wr.heap.size + 1 := HY.out.2.2.1
          have e0 := (hb3.block wr.heap.size (by omega)).trans HY.out.2.2.2.2.1
          obtain ⟨s1, hs11⟩ : ∃ s1, w3.setCell ⟨wr.heap.size, 1, none⟩ (.int .i64 r.t.k) = s1 := ⟨_, rfl⟩
          have e1 : s1.heap[wr.heap.size]? = some (.cells #[.string fn0, .int .i64 r.t.k, .string y.t.m, .string y.t.n, .slice y.aa y.t.A.len y.ca, .slice y.af y.t.F.len y.cf, .bool op0] 86 (0, 0)) := by rw [← hs11]; exact heap_setCell_same w3 _ 1 _ _ _ e0
          have v1 := cell_of_row w3 _ 1 _ _ _ e0
          have f1 := frozen_row e0 1
          obtain ⟨s2, hs12⟩ : ∃ s2, s1.setCell ⟨wr.heap.size, 2, none⟩ (.string r.t.m) = s2 := ⟨_, rfl⟩
          have e2 : s2.heap[wr.heap.size]? = some (.cells #[.string fn0, .int .i64 r.t.k, .string r.t.m, .string y.t.n, .slice y.aa y.t.A.len y.ca, .slice y.af y.t.F.len y.cf, .bool op0] 86 (0, 0)) := by rw [← hs12]; exact heap_setCell_same s1 _ 2 _ _ _ e1
          have v2 := cell_of_row s1 _ 2 _ _ _ e1
          have f2 := frozen_row e1 2
          obtain ⟨s3, hs13⟩ : ∃ s3, s2.setCell ⟨wr.heap.size, 3, none⟩ (.string r.t.n) = s3 := ⟨_, rfl⟩
          have e3 : s3.heap[wr.heap.size]? = some (.cells #[.string fn0, .int .i64 r.t.k, .string r.t.m, .string r.t.n, .slice y.aa y.t.A.len y.ca, .slice y.af y.t.F.len y.cf, .bool op0] 86 (0, 0)) := by rw [← hs13]; exact heap_setCell_same s2 _ 3 _ _ _ e2
          have v3 := cell_of_row s2 _ 3 _ _ _ e2
          have f3 := frozen_row e2 3
          obtain ⟨s4, hs14⟩ : ∃ s4, s3.setCell ⟨wr.heap.size, 4, none⟩ (.slice r.aa r.t.A.len r.ca) = s4 := ⟨_, rfl⟩
          have e4 : s4.heap[wr.heap.size]? = some (.cells #[.string fn0, .int .i64 r.t.k, .string r.t.m, .string r.t.n, .slice r.aa r.t.A.len r.ca, .slice y.af y.t.F.len y.cf, .bool op0] 86 (0, 0)) := by rw [← hs14]; exact heap_setCell_same s3 _ 4 _ _ _ e3
          have v4 := cell_of_row s3 _ 4 _ _ _ e3
          have f4 := frozen_row e3 4
          obtain ⟨s5, hs15⟩ : ∃ s5, s4.setCell ⟨wr.heap.size, 5, none⟩ (.slice r.af r.t.F.len r.cf) = s5 := ⟨_, rfl⟩
          have e5 : s5.heap[wr.heap.size]? = some (.cells #[.string fn0, .int .i64 r.t.k, .string r.t.m, .string r.t.n, .slice r.aa r.t.A.len r.ca, .slice r.af r.t.F.len r.cf, .bool op0] 86 (0, 0)) := by rw [← hs15]; exact heap_setCell_same s4 _ 5 _ _ _ e4
          have v5 := cell_of_row s4 _ 5 _ _ _ e4
          have f5 := frozen_row e4 5
          have hz5 : s5.heap.size = w3.heap.size := by rw [← hs15, size_setC, ← hs14, size_setC, ← hs13, size_setC, ← hs12, size_setC, ← hs11, size_setC]
          have hk5 : ∀ j, j ≠ wr.heap.size → s5.heap[j]? = w3.heap[j]? := fun j hj => by
            rw [← hs15, heap_setCell_other _ _ _ _ hj, ← hs14, heap_setCell_other _ _ _ _ hj, ← hs13, heap_setCell_other _ _ _ _ hj, ← hs12, heap_setCell_other _ _ _ _ hj, ← hs11, heap_setCell_other _ _ _ _ hj]
          have hb35 : Below wr.heap.size w3 s5 := by
            rw [← hs15, ← hs14, ← hs13, ← hs12, ← hs11]
            exact (below_setC w3 _ (Nat.le_refl _)).trans ((below_setC _ _ (Nat.le_refl _)).trans ((below_setC _ _ (Nat.le_refl _)).trans ((below_setC _ _ (Nat.le_refl _)).trans (below_setC _ _ (Nat.le_refl _)))))
          have HZ5 := hid hz5
          have hz5' : w3.heap.size ≤ s5.heap.size := by omega
          clear hz5
          have hr5 : Below wr.heap.size wr s5 := HY.out.2.1.trans ((hb3.mono HY.out.2.1.size).trans hb35)
          have hB5 := (hr5.block W.heap.size (by omega)).trans HP.out.2.2.1
          have m4 := cell_of_row s5 _ 4 _ _ _ hB5
          have m10 := cell_of_row s5 _ 0 _ _ _ e5
          have m11 := cell_of_row s5 _ 1 _ _ _ e5
          have m12 := cell_of_row s5 _ 2 _ _ _ e5
          have m13 := cell_of_row s5 _ 3 _ _ _ e5
          have m14 := cell_of_row s5 _ 4 _ _ _ e5
          have m15 := cell_of_row s5 _ 5 _ _ _ e5
          have m16 := cell_of_row s5 _ 6 _ _ _ e5
          obtain ⟨w6, hw6⟩ : ∃ w6, s5.alloc (.cells #[.string fn0, .int .i64 r.t.k, .string r.t.m, .string r.t.n, .slice r.aa r.t.A.len r.ca, .slice r.af r.t.F.len r.cf, .bool op0] 86) = w6 := ⟨_, rfl⟩
          have hb6 : Below s5.heap.size s5 w6 := by rw [← hw6]; exact (Below.refl _ s5).alloc (Nat.le_refl _) _
          have hs6 : w6.heap.size = s5.heap.size + 1 := by rw [← hw6]; simp
          have he6 : w6.heap[s5.heap.size]? = some (.cells #[.string fn0, .int .i64 r.t.k, .string r.t.m, .string r.t.n, .slice r.aa r.t.A.len r.ca, .slice r.af r.t.F.len r.cf, .bool op0] 86 (0, 0)) := by rw [← hw6]; exact World.alloc_heap_new _ _
          have hr6 : Below wr.heap.size wr w6 := hr5.trans (hb6.mono hr5.size)
          have hown6 := own_belowS HP.out.2.1 hr6
          have hB6 := (hr6.block W.heap.size (by omega)).trans HP.out.2.2.1
          go_wp2_with (at_builtin; go_loud (refine wpList_append_lies _ rfl _ _ 23 rfl (W.heap.size + 2) 86 j0 _ 7 112 Tryz.underlying23 hj hy0 hy1 hy2 rfl (by decide) _ _ _ rfl hown6 ⟨s5.heap.size, 0, none⟩ 1 1 [.string fn0, .int .i64 r.t.k, .string r.t.m, .string r.t.n, .slice r.aa r.t.A.len r.ca, .slice r.af r.t.F.len r.cf, .bool op0] rfl rfl (World.news_of_block he6) (by simp [Value.oneCell']) (by decide) (by unfold maxLen; omega) (by omega) (by omega) _ rfl ?_); intro gn cn w7 hown7 hgrow7 hat7 hlt7; have hB7 := (World.grownBy.block (row := Value.ownBlock (.slice p2 i c2)) hgrow7 W.heap.size (by omega) nB).trans hB6; have k47 := cell_of_row w7 _ 4 _ _ _ hB7; have f47 := frozen_row hB7 4)
          replace hat7 : Value.ownBlock (.slice p2 i c2) = some gn ∨ gn = w6.heap.size := hat7
          replace hgrow7 : w6.grownBy w7 (Value.ownBlock (.slice p2 i c2)) := hgrow7
          have hg7 : gn ≠ W.heap.size := fun e => by
            have := (hown7.lt gn rfl).1; omega
          have hB7 := (hgrow7.block W.heap.size (by omega) nB).trans hB6
          have hb8 := heap_setCell_same w7 W.heap.size 4 _ _ (.slice (some ⟨gn, 0, none⟩) (i + 1) cn) hB7
          have ho8 := hown7.kept (row := some W.heap.size) (w' := w7.setCell ⟨W.heap.size, 4, none⟩ (.slice (some ⟨gn, 0, none⟩) (i + 1) cn)) (grownBy_setC w7 _ _ _) (.inr (by show some gn ≠ some W.heap.size; simpa using hg7))
          have hlt0 := HP.out.2.2.2.2.2.2.2.2
          have hr8 : (w7.setCell ⟨W.heap.size, 4, none⟩ (.slice (some ⟨gn, 0, none⟩) (i + 1) cn)).heap[W.heap.size + 1]? = Wd.heap[W.heap.size + 1]? := by
            rw [heap_setCell_other _ _ _ _ (by show W.heap.size + 1 ≠ W.heap.size; omega), hgrow7.block _ (by omega) (fun e => by have := (hlt0 _ e.symm).1; omega), hr6.block _ (by omega), HP.out.2.2.2.1]
          have hs8 : w6.heap.size ≤ (w7.setCell ⟨W.heap.size, 4, none⟩ (.slice (some ⟨gn, 0, none⟩) (i + 1) cn)).heap.size := by rw [size_setC]; exact hgrow7.size
          have hx8 : ∀ j, j < w6.heap.size → ¬ (Value.ownBlock (.slice p2 i c2) = some j ∨ j = W.heap.size) → (w7.setCell ⟨W.heap.size, 4, none⟩ (.slice (some ⟨gn, 0, none⟩) (i + 1) cn)).heap[j]? = w6.heap[j]? := fun j hj hx => by
            rw [heap_setCell_other _ _ _ _ (fun e => hx (.inr e)), hgrow7.block j hj (fun e => hx (.inl e.symm))]
          have hB8 : Below W.heap.size W (w7.setCell ⟨W.heap.size, 4, none⟩ (.slice (some ⟨gn, 0, none⟩) (i + 1) cn)) :=
            (HP.out.2.2.2.2.2.1.trans (hr6.mono HP.out.2.2.2.2.2.1.size)).trans ((below_grown hgrow7 (fun k e => by have := (hlt0 _ e).1; omega)).trans (below_setC w7 _ (Nat.le_refl _)))
          have hkr : KeepX (fun j => Value.ownBlock (.slice p2 i c2) = some j ∨ j = W.heap.size) wr (w7.setCell ⟨W.heap.size, 4, none⟩ (.slice (some ⟨gn, 0, none⟩) (i + 1) cn)) :=
            ⟨Nat.le_trans hr6.size hs8, fun j hj hx => (hx8 j (Nat.lt_of_lt_of_le hj hr6.size) hx).trans (hr6.block j hj)⟩
          have hk3 : KeepX (fun j => (Value.ownBlock (.slice p2 i c2) = some j ∨ j = W.heap.size) ∨ j = wr.heap.size) w3 (w7.setCell ⟨W.heap.size, 4, none⟩ (.slice (some ⟨gn, 0, none⟩) (i + 1) cn)) :=
            ⟨by omega, fun j hj hx => by
              rw [hx8 j (by omega) (fun h => hx (.inl h)), hb6.block j (by omega), hk5 j (fun h => hx (.inr h))]⟩
          go_roundw
          case rel =>
            have hl1 : (x.t.F.fds.take i).length = qs.length := by
              have h1 := congrArg List.length HP.out.1
              rw [List.length_map, List.length_take, List.length_map, Tr.els_len] at h1
              rw [List.length_take, Tr.fds_len, h1]
            refine ⟨qs ++ [r], i + 1, some ⟨gn, 0, none⟩, cn, by go_num, by omega, ?_, ?_, ?_, hr8, ?_, hB8, by omega⟩
            · rw [List.map_append, HP.out.1, take_snoc (by rw [List.getElem?_map, HY.out.1]; rfl)]
              simp [hrt.out]
            · rw [take_snoc HY.out.2.2.2.2.2.1, zipCells_snoc hl1]
              simpa [fdCells] using ho8
            · simpa using hb8
            · intro q hq
              rw [← List.cons_append] at hq
              rcases List.mem_append.1 hq with hq | hq
              · refine (HP.out.2.2.2.2.1 q hq).keep hkr fun j hj => ⟨?_, hj.1, by omega, ?_⟩
                · rintro (h | h)
                  · exact hj.2.2 h
                  · omega
                · rintro h
                  have h' : gn = j := by simpa [Value.ownBlock] using h
                  rcases hat7 with h9 | h9
                  · exact hj.2.2 (by rw [h9, h'])
                  · omega
              · rw [List.mem_singleton] at hq
                subst hq
                refine hrok.out.keep hk3 fun j hj => ⟨?_, by omega, by omega, ?_⟩
                · rintro ((h | h) | h)
                  · have := (hlt0 j h).2; omega
                  · omega
                  · omega
                · rintro h
                  have h' : gn = j := by simpa [Value.ownBlock] using h
                  rcases hat7 with h9 | h9
                  · have := (hlt0 gn h9).2; omega
                  · omega
          case measure => simp [intOf]; omega
        · obtain rfl : i = x.t.F.len := by omega
          have hB := HP.out.2.2.1
          have hR : wr.heap[W.heap.size + 1]? = some (.cells #[.int .i64 0, .string ⟨#[]⟩, .string ⟨#[]⟩, .slice none 0 0, .slice none 0 0] 25 (0, 0)) := HP.out.2.2.2.1.trans HD.out.2.1
          have b0 := cell_of_row wr _ 0 _ _ _ hB
          have b1 := cell_of_row wr _ 1 _ _ _ hB
          have b2 := cell_of_row wr _ 2 _ _ _ hB
          have b3 := cell_of_row wr _ 3 _ _ _ hB
          have b4 := cell_of_row wr _ 4 _ _ _ hB
          obtain ⟨s0, hs10⟩ : ∃ s0, wr.setCell ⟨W.heap.size + 1, 0, none⟩ (.int .i64 x.t.k) = s0 := ⟨_, rfl⟩
          have e0 : s0.heap[W.heap.size + 1]? = some (.cells #[.int .i64 x.t.k, .string ⟨#[]⟩, .string ⟨#[]⟩, .slice none 0 0, .slice none 0 0] 25 (0, 0)) := by rw [← hs10]; exact heap_setCell_same wr _ 0 _ _ _ hR
          have v0 := cell_of_row wr _ 0 _ _ _ hR
          have f0 := frozen_row hR 0
          obtain ⟨s1, hs11⟩ : ∃ s1, s0.setCell ⟨W.heap.size + 1, 1, none⟩ (.string x.t.m) = s1 := ⟨_, rfl⟩
          have e1 : s1.heap[W.heap.size + 1]? = some (.cells #[.int .i64 x.t.k, .string x.t.m, .string ⟨#[]⟩, .slice none 0 0, .slice none 0 0] 25 (0, 0)) := by rw [← hs11]; exact heap_setCell_same s0 _ 1 _ _ _ e0
          have v1 := cell_of_row s0 _ 1 _ _ _ e0
          have f1 := frozen_row e0 1
          obtain ⟨s2, hs12⟩ : ∃ s2, s1.setCell ⟨W.heap.size + 1, 2, none⟩ (.string x.t.n) = s2 := ⟨_, rfl⟩
          have e2 : s2.heap[W.heap.size + 1]? = some (.cells #[.int .i64 x.t.k, .string x.t.m, .string x.t.n, .slice none 0 0, .slice none 0 0] 25 (0, 0)) := by rw [← hs12]; exact heap_setCell_same s1 _ 2 _ _ _ e1
          have v2 := cell_of_row s1 _ 2 _ _ _ e1
          have f2 := frozen_row e1 2
          obtain ⟨s3, hs13⟩ : ∃ s3, s2.setCell ⟨W.heap.size + 1, 3, none⟩ (.slice p x.t.A.len c) = s3 := ⟨_, rfl⟩
          have e3 : s3.heap[W.heap.size + 1]? = some (.cells #[.int .i64 x.t.k, .string x.t.m, .string x.t.n, .slice p x.t.A.len c, .slice none 0 0] 25 (0, 0)) := by rw [← hs13]; exact heap_setCell_same s2 _ 3 _ _ _ e2
          have v3 := cell_of_row s2 _ 3 _ _ _ e2
          have f3 := frozen_row e2 3
          obtain ⟨s4, hs14⟩ : ∃ s4, s3.setCell ⟨W.heap.size + 1, 4, none⟩ (.slice p2 x.t.F.len c2) = s4 := ⟨_, rfl⟩
          have e4 : s4.heap[W.heap.size + 1]? = some (.cells #[.int .i64 x.t.k, .string x.t.m, .string x.t.n, .slice p x.t.A.len c, .slice p2 x.t.F.len c2] 25 (0, 0)) := by rw [← hs14]; exact heap_setCell_same s3 _ 4 _ _ _ e3
          have v4 := cell_of_row s3 _ 4 _ _ _ e3
          have f4 := frozen_row e3 4
          have hz4 : s4.heap.size = wr.heap.size := by rw [← hs14, size_setC, ← hs13, size_setC, ← hs12, size_setC, ← hs11, size_setC, ← hs10, size_setC]
          have hk4 : ∀ j, j ≠ W.heap.size + 1 → s4.heap[j]? = wr.heap[j]? := fun j hj => by
            rw [← hs14, heap_setCell_other _ _ _ _ hj, ← hs13, heap_setCell_other _ _ _ _ hj, ← hs12, heap_setCell_other _ _ _ _ hj, ← hs11, heap_setCell_other _ _ _ _ hj, ← hs10, heap_setCell_other _ _ _ _ hj]
          have hb4 : Below W.heap.size wr s4 := by
            rw [← hs14, ← hs13, ← hs12, ← hs11, ← hs10]
            exact (below_setC wr _ (by omega)).trans ((below_setC _ _ (by omega)).trans ((below_setC _ _ (by omega)).trans ((below_setC _ _ (by omega)).trans (below_setC _ _ (by omega)))))
          have HZ4 := hid (And.intro hz4 (And.intro hk4 hb4))
          clear hz4 hk4 hb4
          go_wp2_with fail
          have x0 := cell_of_row s4 _ 0 _ _ _ e4
          have x1 := cell_of_row s4 _ 1 _ _ _ e4
          have x2 := cell_of_row s4 _ 2 _ _ _ e4
          have x3 := cell_of_row s4 _ 3 _ _ _ e4
          have x4 := cell_of_row s4 _ 4 _ _ _ e4
          have hk1 := HP.out.2.2.2.2.1 r1 (by simp)
          rw [H1.out.2.1] at hk1
          have hmF : qs.map (·.t) = (x.t.F.sub f).els := by rw [HP.out.1, Tr.els_sub, List.take_of_length_le (by rw [List.length_map, Tr.els_len]; exact Nat.le_refl _)]
          have hFo : x.t.F.sub f = .nil ∨ ∃ b o, p2 = some ⟨b, o, none⟩ ∧ (W.heap.size + 2 ≤ b ∧ b < wr.heap.size) ∧ LiesP wr (fun j => W.heap.size + 2 ≤ j ∧ j < wr.heap.size) (x.t.F.sub f) true b o := by
            rcases Nat.eq_zero_or_pos x.t.F.len with h0 | h0
            · left
              have h1 : (x.t.F.sub f).len = 0 := by rw [Tr.sub_len]; exact h0
              cases h2 : x.t.F.sub f with
              | nil => rfl
              | node => rw [h2] at h1; simp [Tr.len] at h1
            · right
              obtain ⟨gp, cp, he, hb1, hb2⟩ := HP.out.2.1.form h0
              have he' : p2 = some ⟨gp, 0, none⟩ := by injection he
              subst he'
              refine ⟨gp, 0, rfl, ⟨hb1, hb2⟩, liesP_fields _ qs 0 hmF (fun r hr => ?_) (fun j r q hj hq i u hu => ?_)⟩
              · exact (HP.out.2.2.2.2.1 r (by simp [hr])).keep (KeepX.refl (fun _ => False) _) fun j hj => ⟨fun h => h, hj.1, hj.2.1⟩
              · rw [Tr.fds_sub] at hq
                have hz : ((x.t.F.fds.take x.t.F.len).zip qs)[j]? = some (q, r) := by
                  rw [List.getElem?_zip_eq_some]
                  exact ⟨by rw [List.take_of_length_le (by rw [Tr.fds_len]; exact Nat.le_refl _)]; exact hq, hj⟩
                have h9 := HP.out.2.1.cells (g := gp) rfl (j * 7 + i) u (flat_at (fun q : (ByteArray × Bool) × TyC => fdCells q.1 q.2) 7 (fun _ => rfl) _ j i (q, r) u hz hu)
                rw [Addr.add_lit] at h9
                have e9 : 0 + (j * 7 + i) = 0 + j * 7 + i := by omega
                rw [e9] at h9; exact h9
          have hk4 : KeepX (fun j => j = W.heap.size + 1) wr s4 := ⟨by rw [HZ4.out.1]; exact Nat.le_refl _, fun j _ hx => HZ4.out.2.1 j hx⟩
          have hfin : TyC.Ok s4 (fun i => W.heap.size ≤ i ∧ i < s4.heap.size) ⟨⟨x.t.k, x.t.m, x.t.n, x.t.A.sub f, x.t.F.sub f⟩, p, c, p2, c2⟩ := by
            refine ⟨x.hk, ?_, ?_⟩
            · rcases hk1.2.1 with h | ⟨b, o, h, hp, hL⟩
              · exact .inl h
              · exact .inr ⟨b, o, h, ⟨by omega, by rw [HZ4.out.1]; exact hp.2.1⟩, hL.keep hk4 (fun j hj => ⟨by omega, by omega, by rw [HZ4.out.1]; exact hj.2.1⟩) (by omega)⟩
            · rcases hFo with h | ⟨b, o, h, hp, hL⟩
              · exact .inl h
              · exact .inr ⟨b, o, h, ⟨by omega, by rw [HZ4.out.1]; exact hp.2⟩, hL.keep hk4 (fun j hj => ⟨by omega, by omega, by rw [HZ4.out.1]; exact hj.2⟩) (by omega)⟩
          have hv : TyC.v ⟨⟨x.t.k, x.t.m, x.t.n, x.t.A.sub f, x.t.F.sub f⟩, p, c, p2, c2⟩ = .agg #[.int .i64 x.t.k, .string x.t.m, .string x.t.n, .slice p x.t.A.len c, .slice p2 x.t.F.len c2] := by simp [TyC.v, TyC.cells, Tr.sub_len]
          refine ⟨rfl, .agg #[.int .i64 x.t.k, .string x.t.m, .string x.t.n, .slice p x.t.A.len c, .slice p2 x.t.F.len c2], by simp [results, go_sem, x0, x1, x2, x3, x4], ?_⟩
          have hq := HPO.out _ s4 rfl hfin (HP.out.2.2.2.2.2.1.trans HZ4.out.2.2)
          rw [hv] at hq
          exact hq
end Go.Proofs.YtjedcijddlilaaaGreatDoor
