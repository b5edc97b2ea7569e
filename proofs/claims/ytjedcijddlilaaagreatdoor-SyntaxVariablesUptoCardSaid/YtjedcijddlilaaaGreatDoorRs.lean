/- syntax: the reference's Substitute. | syntax: the reference's Substitute: the step. -/
import Derived.Test.YtjedcijddlilaaaGreatDoorSyS3
namespace Go.Proofs.YtjedcijddlilaaaGreatDoor
open Go.RowKit Go.Shelf

/-- What lay, lies in old blocks. -/
theorem lies_lt {w0 : World} : ∀ {T : Tr} {fl : Bool} {b o : Nat}, Lies w0 T fl b o → T = .nil ∨ b < w0.heap.size := by
  intro T fl b o h
  cases T with
  | nil => exact .inl rfl
  | node fn op k m n A F nx =>
    obtain ⟨_, ⟨h1, _⟩, _⟩ := h
    exact .inr (World.block_lt_of_cell? _ _ h1)
theorem liesP_old {w0 : World} : ∀ {T : Tr} {fl : Bool} {b o : Nat}, Lies w0 T fl b o → LiesP w0 (fun j => j < w0.heap.size) T fl b o := by
  intro T
  induction T with
  | nil => intro _ _ _ _; trivial
  | node fn op k m n A F nx ha hf hn =>
    intro fl b o h
    obtain ⟨h0, h1, h2, h3, ⟨a, c, h4, h5⟩, ⟨a', c', h6, h7⟩, h8⟩ := h
    refine ⟨h0, h1, h2, h3, ⟨a, c, h4, ?_⟩, ⟨a', c', h6, ?_⟩, hn h8⟩
    · rcases h5 with h | ⟨b', o', h, h'⟩
      · exact .inl h
      · rcases lies_lt h' with h9 | h9
        · exact .inl h9
        · exact .inr ⟨b', o', h, h9, ha h'⟩
    · rcases h7 with h | ⟨b', o', h, h'⟩
      · exact .inl h
      · rcases lies_lt h' with h9 | h9
        · exact .inl h9
        · exact .inr ⟨b', o', h, h9, hf h'⟩
def TyI.c {w0 : World} (x : TyI w0) : TyC := ⟨x.t, x.aa, x.ca, x.af, x.cf⟩
theorem tyI_ok {w0 : World} (x : TyI w0) : x.c.Ok w0 (fun j => j < w0.heap.size) := by
  refine ⟨x.hk, ?_, ?_⟩
  · rcases x.ha with h | ⟨b, o, h, h'⟩
    · exact .inl h
    · rcases lies_lt h' with h9 | h9
      · exact .inl h9
      · exact .inr ⟨b, o, h, h9, liesP_old h'⟩
  · rcases x.hf with h | ⟨b, o, h, h'⟩
    · exact .inl h
    · rcases lies_lt h' with h9 | h9
      · exact .inl h9
      · exact .inr ⟨b, o, h, h9, liesP_old h'⟩
def RSubIs (w0 : World) (vN vT : Value) (x : TyI w0) (f : ByteArray → Option Ty) : Prop := ∀ W, Below w0.heap.size w0 W → Calls Tryz.prog 20 #[x.v, vN, vT] W fun e W' =>
  ∃ r : TyC, e = .returned r.v ∧ r.t = x.t.sub f ∧ r.Ok W' (fun i => i < w0.heap.size ∨ (W.heap.size ≤ i ∧ i < W'.heap.size)) ∧ Below W.heap.size W W'
set_option maxRecDepth 100000 in
set_option maxHeartbeats 8000000 in
theorem rsub_rest (w0 : World) (vN vT : Value) (f : ByteArray → Option Ty) (s : Nat) (hs : s + 1 ≤ 1099511627776)
    (ih : ∀ y : TyI w0, y.t.size ≤ s → RSubIs w0 vN vT y f) (x : TyI w0) (hx : x.t.size ≤ s + 1) (W Wc : World) (hrest : RestAt w0 W Wc x) (R : Ending → World → Prop)
    (hR0 : ∀ (r : TyC) (W' : World), r.t = ⟨x.t.k, x.t.m, x.t.n, x.t.A.sub f, x.t.F.sub f⟩ → r.Ok W' (fun i => i < w0.heap.size ∨ (W.heap.size ≤ i ∧ i < W'.heap.size)) → Below W.heap.size W W' → R (.returned r.v) W')
    (u4 u5 u7 u8 u9 u10 u11 u12 u13 u14 u15 u16 u17 u18 u19 u20 u21 u22 u23 u24 u25 u26 u27 u28 u29 u30 u31 u32 u33 u34 u35 u36 u37 u38 u39 u40 u41 u42 u43 u44 u45 u46 u47 u48 u49 u50 u51 u52 u53 u54 u55 u56 u57 u58 u59 u60 u61 u62 u63 u64 u65 u66 u67 u68 u69 u70 u71 u72 u73 u74 u75 u76 u77 u78 u79 u80 u81 u82 u83 u84 u85 u86 u87 u88 u89 : Value) :
    Code.wp Tryz.prog (tailOf Tryz.f20.body) (bodyPost Tryz.prog Tryz.f20 R)
      { tmps := #[.agg #[.int .i64 x.t.k, .string x.t.m, .string x.t.n, .slice x.aa x.t.A.len x.ca, .slice x.af x.t.F.len x.cf], vN, vT, .pointer (some ⟨W.heap.size, 0, none⟩), u4, u5, .pointer (some ⟨W.heap.size + 1, 0, none⟩), u7, u8, u9, u10, u11, u12, u13, u14, u15, u16, u17, u18, u19, u20, u21, u22, u23, u24, u25, u26, u27, u28, u29, u30, u31, u32, u33, u34, u35, u36, u37, u38, u39, u40, u41, u42, u43, u44, u45, u46, u47, u48, u49, u50, u51, u52, u53, u54, u55, u56, u57, u58, u59, u60, u61, u62, u63, u64, u65, u66, u67, u68, u69, u70, u71, u72, u73, u74, u75, u76, u77, u78, u79, u80, u81, u82, u83, u84, u85, u86, u87, u88, u89], defers := [] } Wc := by
  obtain ⟨i0, hi, hz0, hz1, hz2⟩ := info_parts infoTy
  obtain ⟨j0, hj, hy0, hy1, hy2⟩ := info_parts infoFd
  have HI := hid ih
  have HR := hid hrest
  have HPO := hid hR0
  clear ih hR0
  have q0 := cell_of_row Wc _ 0 _ _ _ HR.out.box
  have q1 := cell_of_row Wc _ 1 _ _ _ HR.out.box
  have q2 := cell_of_row Wc _ 2 _ _ _ HR.out.box
  obtain ⟨o, ho⟩ : ∃ o, Wc.heap.size = o := ⟨_, rfl⟩
  obtain ⟨Wd, hWd⟩ : ∃ Wd, Wc.alloc (.cells #[.int .i64 x.t.k, .string x.t.m, .string x.t.n, .slice none 0 0, .slice none 0 0] 25) = Wd := ⟨_, rfl⟩
  have hbe : Below Wc.heap.size Wc Wd := by rw [← hWd]; exact (Below.refl _ Wc).alloc (Nat.le_refl _) _
  have hoW : W.heap.size + 2 ≤ o := by rw [← ho]; exact HR.out.size
  have hod : Wd.heap[o]? = some (.cells #[.int .i64 x.t.k, .string x.t.m, .string x.t.n, .slice none 0 0, .slice none 0 0] 25 (0, 0)) := by rw [← hWd, ← ho]; exact World.alloc_heap_new _ _
  have hbd := (hbe.block W.heap.size (by omega)).trans HR.out.box
  have hrd := (hbe.block (W.heap.size + 1) (by omega)).trans HR.out.res
  have hsd : Wd.heap.size = o + 1 := by rw [← hWd, World.size_alloc, ho]
  have hBd : Below W.heap.size W Wd := HR.out.below.trans (hbe.mono HR.out.below.size)
  have hw0 : w0.heap.size ≤ W.heap.size := HR.out.old.size
  have HD := hid (And.intro hod (And.intro hrd (And.intro hsd (And.intro hBd hbd))))
  have HO := hid (And.intro ho hWd)
  clear hbe hod hrd hsd hBd hbd hrest ho hWd
  dsimp only [Tryz.f20, tailOf]
  go_wp2_with fail
  rw [HO.out.2, HO.out.1]
  clear q0 q1 q2
  go_loopw [9] (fun a wr => ∃ (rs : List TyC) (i : Nat) (p : Option Addr) (c : Nat), a = .int .i64 (i : Int) ∧ i ≤ x.t.A.len ∧ rs.map (·.t) = (x.t.A.els.map (Ty.sub f)).take i ∧ wr.ownsRow (o + 1) 25 5 (.slice p i c) i (rs.flatMap TyC.cells) ∧
    wr.heap[o]? = some (.cells #[.int .i64 x.t.k, .string x.t.m, .string x.t.n, .slice p i c, .slice none 0 0] 25 (0, 0)) ∧ wr.heap[W.heap.size + 1]? = Wd.heap[W.heap.size + 1]? ∧
    (∀ r ∈ rs, r.Ok wr (fun j => (j < w0.heap.size ∨ o + 1 ≤ j) ∧ j < wr.heap.size ∧ Value.ownBlock (.slice p i c) ≠ some j)) ∧ Below W.heap.size W wr ∧ o + 1 ≤ wr.heap.size ∧ wr.heap[W.heap.size]? = Wd.heap[W.heap.size]?) (fun a _ => x.t.A.len - (intOf a).toNat)
  case atStart => exact ⟨[], 0, none, 0, rfl, Nat.zero_le _, rfl, World.ownsRow_nil _ _ _ _, HD.out.1, rfl, (fun r hr => by cases hr), HD.out.2.2.2.1, by have h1 := HD.out.2.2.1; omega, rfl⟩
  case round =>
    obtain ⟨rs, i, p, c, rfl, h1, h2, h3, h4, h5, h6, h7, h8, htb⟩ := hrel
    have hold := HR.out.old.trans (h7.mono HR.out.old.size)
    have hown0 := h3.lt
    have HP := hid (And.intro h2 (And.intro h3 (And.intro h4 (And.intro h5 (And.intro h6 (And.intro h7 (And.intro h8 (And.intro hold (And.intro hown0 (htb.trans HD.out.2.2.2.2))))))))))
    clear h2 h3 h4 h5 h6 h7 hold hown0 htb
    by_cases hlt : i < x.t.A.len
    · have hszA := Tr.len_le x.t.A
      have hszx : x.t.size = 1 + x.t.A.size + x.t.F.size := rfl
      obtain ⟨ba, oa, haa, hL⟩ : ∃ b o, x.aa = some ⟨b, o, none⟩ ∧ Lies w0 x.t.A false b o := by
        rcases x.ha with h | h
        · rw [h] at hlt; exact absurd hlt (Nat.not_lt_zero _)
        · exact h
      obtain ⟨y, hy, d0, d1, d2, d3, d4⟩ := lies_ty x.t.A ba oa i hL hlt
      have hys : y.t.size ≤ s := by
        have := Tr.el_size (List.mem_of_getElem? hy)
        omega
      replace d0 := old_cell HP.out.2.2.2.2.2.2.2.1 d0
      replace d1 := old_cell HP.out.2.2.2.2.2.2.2.1 d1
      replace d2 := old_cell HP.out.2.2.2.2.2.2.2.1 d2
      replace d3 := old_cell HP.out.2.2.2.2.2.2.2.1 d3
      replace d4 := old_cell HP.out.2.2.2.2.2.2.2.1 d4
      have htb := HP.out.2.2.2.2.2.2.2.2.2
      have hob := HP.out.2.2.1
      obtain ⟨wa, hwa⟩ : ∃ wa, wr.drew = wa := ⟨_, rfl⟩
      have hba : Below wr.heap.size wr wa := by rw [← hwa]; exact (Below.refl _ wr).drew
      have hsa : wa.heap.size = wr.heap.size := by rw [← hwa]; rfl
      replace d0 := old_cell hba d0
      replace d1 := old_cell hba d1
      replace d2 := old_cell hba d2
      replace d3 := old_cell hba d3
      replace d4 := old_cell hba d4
      have tb3 := cell_of_row wr _ 3 _ _ _ htb
      have k3 := cell_of_row wa _ 3 _ _ _ ((hba.block _ (Array.getElem?_eq_some_iff.1 htb).1).trans htb)
      have k5 := cell_of_row wa _ 3 _ _ _ ((hba.block _ (Array.getElem?_eq_some_iff.1 hob).1).trans hob)
      have hcall : Calls Tryz.prog 20 #[.agg #[.int .i64 y.t.k, .string y.t.m, .string y.t.n, .slice y.aa y.t.A.len y.ca, .slice y.af y.t.F.len y.cf], vN, vT] wa fun e W' => ∃ r : TyC, e = .returned (.agg #[.int .i64 r.t.k, .string r.t.m, .string r.t.n, .slice r.aa r.t.A.len r.ca, .slice r.af r.t.F.len r.cf]) ∧ r.t = y.t.sub f ∧ r.Ok W' (fun i => i < w0.heap.size ∨ (wa.heap.size ≤ i ∧ i < W'.heap.size)) ∧ Below wa.heap.size wa W' := HI.out y hys wa (HP.out.2.2.2.2.2.2.2.1.trans (hba.mono HP.out.2.2.2.2.2.2.2.1.size))
      have HY := hid (And.intro hy (And.intro hba (And.intro hsa hcall)))
      clear hy hba hcall hL hys htb hob
      rw [haa] at tb3 k3 ⊢
      have nB : some o ≠ Value.ownBlock (.slice p i c) := fun e => by have := (HP.out.2.2.2.2.2.2.2.2.1 _ e.symm).1; omega
      go_wp2_with fail
      refine wp_region_noPanic ?_
      refine region_G (S := fun w' => w'.cell? ⟨o, 3, none⟩ = some (.slice p i c)) (z := 13) (by kernel_rfl) ?_
      change wpAnyG _ _ _ _ _ _ 14 _ _ _
      rw [hwa]
      refine G_take (i := 0) (v := .pointer (some ⟨o, 3, none⟩)) rfl (by kernel_rfl) (by kernel_rfl) (by kernel_rfl) (by kernel_rfl) (by decide) (by kernel_rfl) (fun _ _ _ h => h) (.inl ⟨by simp [Region.wanted], fun w' hS => ?y0⟩) k5 ?_
      case y0 => simp [execOp, go_sem]
      refine G_take (i := 1) (v := .slice p i c) rfl (by kernel_rfl) (by kernel_rfl) (by kernel_rfl) (by kernel_rfl) (by decide) (by kernel_rfl) (fun _ _ _ h => h) (.inl ⟨by simp [Region.wanted], fun w' hS => ?y1⟩) k5 ?_
      case y1 => simp [execOp, go_sem, hS]
      refine G_take (i := 4) (v := .int .i64 (i : Int)) rfl (by kernel_rfl) (by kernel_rfl) (by kernel_rfl) (by kernel_rfl) (by decide) (by kernel_rfl) (fun _ _ _ h => h) (.inl ⟨by simp [Region.wanted], fun w' hS => ?y4⟩) k5 ?_
      case y4 => simp [execOp, go_sem]
      refine G_take (i := 7) (v := vN) rfl (by kernel_rfl) (by kernel_rfl) (by kernel_rfl) (by kernel_rfl) (by decide) (by kernel_rfl) (fun _ _ _ h => h) (.inl ⟨by simp [Region.wanted], fun w' hS => ?y7⟩) k5 ?_
      case y7 => simp [execOp, go_sem]
      refine G_take (i := 8) (v := vT) rfl (by kernel_rfl) (by kernel_rfl) (by kernel_rfl) (by kernel_rfl) (by decide) (by kernel_rfl) (fun _ _ _ h => h) (.inl ⟨by simp [Region.wanted], fun w' hS => ?y8⟩) k5 ?_
      case y8 => simp [execOp, go_sem]
      refine G_list [(2, _), (3, _), (5, _), (6, _), (9, _), (10, _), (11, _), (12, _), (13, _)] _ _ _ rfl (by simp) (by kernel_rfl) ?_
      simp only [Act.put, List.setIfInBounds_toArray]
      refine gList_step ?_
      go_wp2_with fail
      refine ⟨fun _ => k5, gList_step ?_⟩
      go_wp2_with fail
      refine ⟨fun _ => k5, gList_step ?_⟩
      go_wp2_with fail
      refine ⟨fun _ => k5, gList_step ?_⟩
      go_wp2_with fail
      refine ⟨fun _ => k5, gList_step ?_⟩
      go_wp2_with fail
      refine HY.out.2.2.2.mono ?_
      rintro e w3 ⟨r, rfl, hrt0, hrok0, hb3⟩
      have hrt := hid hrt0
      have hrok := hid hrok0
      clear hrt0 hrok0 k3 d0 d1 d2 d3 d4 tb3
      have m5 := old_cell hb3 k5
      go_wp2_with fail
      refine ⟨fun _ => m5, gList_step ?_⟩
      obtain ⟨w4, hw4⟩ : ∃ w4, w3.alloc (.cells #[.int .i64 r.t.k, .string r.t.m, .string r.t.n, .slice r.aa r.t.A.len r.ca, .slice r.af r.t.F.len r.cf] 25) = w4 := ⟨_, rfl⟩
      have hb4 : Below w3.heap.size w3 w4 := by rw [← hw4]; exact (Below.refl _ w3).alloc (Nat.le_refl _) _
      have hs4 : w4.heap.size = w3.heap.size + 1 := by rw [← hw4]; simp
      have he4 : w4.heap[w3.heap.size]? = some (.cells #[.int .i64 r.t.k, .string r.t.m, .string r.t.n, .slice r.aa r.t.A.len r.ca, .slice r.af r.t.F.len r.cf] 25 (0, 0)) := by rw [← hw4]; exact World.alloc_heap_new _ _
      have hs3 : wa.heap.size ≤ w3.heap.size := hb3.size
      have hr4 : Below wr.heap.size wr w4 := HY.out.2.1.trans ((hb3.mono HY.out.2.1.size).trans (hb4.mono (Nat.le_trans HY.out.2.1.size hs3)))
      have hown4 := own_belowS HP.out.2.1 hr4
      have hB4 := (hr4.block o (by omega)).trans HP.out.2.2.1
      have k4' := cell_of_row w4 _ 3 _ _ _ hB4
      go_wp2_with fail
      refine ⟨fun _ => k4', gList_step ?_⟩
      go_wp2_with (at_builtin; go_loud (refine wpList_append_lies _ rfl _ _ 22 rfl (o + 1) 25 i0 _ 5 88 Tryz.underlying22 hi hz0 hz1 hz2 rfl (by decide) _ _ _ rfl hown4 ⟨w3.heap.size, 0, none⟩ 1 1 [.int .i64 r.t.k, .string r.t.m, .string r.t.n, .slice r.aa r.t.A.len r.ca, .slice r.af r.t.F.len r.cf] rfl rfl (World.news_of_block he4) (by simp [Value.oneCell']) (by decide) (by unfold maxLen; omega) (by omega) (by omega) _ rfl ?_); intro gn cn w5 hown5 hgrow5 hat5 hlt5)
      replace hat5 : Value.ownBlock (.slice p i c) = some gn ∨ gn = w4.heap.size := hat5
      replace hgrow5 : w4.grownBy w5 (Value.ownBlock (.slice p i c)) := hgrow5
      have hB5 := (hgrow5.block o (by omega) nB).trans hB4
      have k5' := cell_of_row w5 _ 3 _ _ _ hB5
      have t5 := frozen_row hB5 3
      refine ⟨k5', gList_step ?_⟩
      go_wp2_with fail
      refine ⟨fun _ => k5', gList_step ?_⟩
      go_wp2_with fail
      refine ⟨fun h => absurd rfl h, ?_⟩
      refine NoPanic.normal ?_
      go_wp2_with fail
      have hlt0 := HP.out.2.2.2.2.2.2.2.2.1
      have hg5 : gn ≠ o := fun e => by
        have := (hown5.lt gn rfl).1; omega
      have hb6 := heap_setCell_same w5 o 3 _ _ (.slice (some ⟨gn, 0, none⟩) (i + 1) cn) hB5
      have ho6 := hown5.kept (row := some o) (w' := w5.setCell ⟨o, 3, none⟩ (.slice (some ⟨gn, 0, none⟩) (i + 1) cn)) (grownBy_setC w5 _ _ _) (.inr (by show some gn ≠ some o; simpa using hg5))
      have hr6 : ∀ j, j < o → (w5.setCell ⟨o, 3, none⟩ (.slice (some ⟨gn, 0, none⟩) (i + 1) cn)).heap[j]? = wr.heap[j]? := fun j hj => by
        rw [heap_setCell_other _ _ _ _ (by show j ≠ o; omega), hgrow5.block _ (by omega) (fun e => by have := (hlt0 _ e.symm).1; omega), hr4.block _ (by omega)]
      have hs6 : w4.heap.size ≤ (w5.setCell ⟨o, 3, none⟩ (.slice (some ⟨gn, 0, none⟩) (i + 1) cn)).heap.size := by rw [size_setC]; exact hgrow5.size
      have hx6 : ∀ j, j < w4.heap.size → ¬ (Value.ownBlock (.slice p i c) = some j ∨ j = o) → (w5.setCell ⟨o, 3, none⟩ (.slice (some ⟨gn, 0, none⟩) (i + 1) cn)).heap[j]? = w4.heap[j]? := fun j hj hx => by
        rw [heap_setCell_other _ _ _ _ (fun e => hx (.inr e)), hgrow5.block j hj (fun e => hx (.inl e.symm))]
      have hB6 : Below W.heap.size W (w5.setCell ⟨o, 3, none⟩ (.slice (some ⟨gn, 0, none⟩) (i + 1) cn)) :=
        (HP.out.2.2.2.2.2.1.trans (hr4.mono HP.out.2.2.2.2.2.1.size)).trans ((below_grown hgrow5 (fun k e => by have := (hlt0 _ e).1; omega)).trans (below_setC w5 _ (by omega)))
      have hkr : KeepX (fun j => Value.ownBlock (.slice p i c) = some j ∨ j = o) wr (w5.setCell ⟨o, 3, none⟩ (.slice (some ⟨gn, 0, none⟩) (i + 1) cn)) :=
        ⟨Nat.le_trans hr4.size hs6, fun j hj hx => (hx6 j (Nat.lt_of_lt_of_le hj hr4.size) hx).trans (hr4.block j hj)⟩
      have hk3 : KeepX (fun j => Value.ownBlock (.slice p i c) = some j ∨ j = o) w3 (w5.setCell ⟨o, 3, none⟩ (.slice (some ⟨gn, 0, none⟩) (i + 1) cn)) :=
        ⟨Nat.le_trans hb4.size hs6, fun j hj hx => (hx6 j (Nat.lt_of_lt_of_le hj hb4.size) hx).trans (hb4.block j hj)⟩
      have hkW := HP.out.2.2.2.2.2.1.size
      go_roundw
      case rel =>
        refine ⟨rs ++ [r], i + 1, some ⟨gn, 0, none⟩, cn, by go_num, by omega, ?_, ?_, ?_, (hr6 _ (by omega)).trans HP.out.2.2.2.1, ?_, hB6, by omega, (hr6 _ (by omega)).trans (HP.out.2.2.2.2.2.2.2.2.2.trans HD.out.2.2.2.2.symm)⟩
        · rw [List.map_append, HP.out.1, take_snoc (by rw [List.getElem?_map, HY.out.1]; rfl)]
          simp [hrt.out]
        · rw [List.flatMap_append]
          simpa [TyC.cells] using ho6
        · simpa using hb6
        · intro q hq
          rcases List.mem_append.1 hq with hq | hq
          · refine (HP.out.2.2.2.2.1 q hq).keep hkr fun j hj => ⟨?_, hj.1, by omega, ?_⟩
            · rintro (h | h)
              · exact hj.2.2 h
              · omega
            · rintro h
              have h' : gn = j := by simpa [Value.ownBlock] using h
              rcases hat5 with h9 | h9
              · exact hj.2.2 (by rw [h9, h'])
              · omega
          · rw [List.mem_singleton] at hq
            subst hq
            refine hrok.out.keep hk3 fun j hj => ⟨?_, by omega, by omega, ?_⟩
            · rintro (h | h)
              · have := hlt0 j h; omega
              · omega
            · rintro h
              have h' : gn = j := by simpa [Value.ownBlock] using h
              rcases hat5 with h9 | h9
              · have := hlt0 gn h9; omega
              · omega
      case measure => simp [intOf]; omega
    · obtain rfl : i = x.t.A.len := by omega
      have hszA := Tr.len_le x.t.A
      have hszF := Tr.len_le x.t.F
      have hszx : x.t.size = 1 + x.t.A.size + x.t.F.size := rfl
      have hmA : rs.map (·.t) = (x.t.A.sub f).els := by rw [HP.out.1, Tr.els_sub, List.take_of_length_le (by rw [List.length_map, Tr.els_len]; exact Nat.le_refl _)]
      -- the arguments are there
      have hA1 : x.t.A.sub f = .nil ∨ ∃ b q, p = some ⟨b, q, none⟩ ∧ ((b < w0.heap.size ∨ o + 1 ≤ b) ∧ b < wr.heap.size ∧ Value.ownBlock (.slice none 0 0) ≠ some b) ∧ LiesP wr (fun j => (j < w0.heap.size ∨ o + 1 ≤ j) ∧ j < wr.heap.size ∧ Value.ownBlock (.slice none 0 0) ≠ some j) (x.t.A.sub f) false b q := by
        rcases Nat.eq_zero_or_pos x.t.A.len with h0 | h0
        · left
          have h1 : (x.t.A.sub f).len = 0 := by rw [Tr.sub_len]; exact h0
          cases h2 : x.t.A.sub f with
          | nil => rfl
          | node => rw [h2] at h1; simp [Tr.len] at h1
        · right
          obtain ⟨gp, cp, he, hb1, hb2⟩ := HP.out.2.1.form h0
          have he' : p = some ⟨gp, 0, none⟩ := by injection he
          subst he'
          refine ⟨gp, 0, rfl, ⟨.inr hb1, hb2, by simp [Value.ownBlock]⟩, liesP_types _ rs 0 hmA (fun r hr => ?_) (fun j r hj i u hu => ?_)⟩
          · exact (HP.out.2.2.2.2.1 r hr).keep (KeepX.refl (fun _ => False) _) fun j hj => ⟨fun h => h, hj.1, hj.2.1, by simp [Value.ownBlock]⟩
          · have h9 := HP.out.2.1.cells (g := gp) rfl (j * 5 + i) u (flat_at TyC.cells 5 (fun _ => rfl) rs j i r u hj hu)
            rw [Addr.add_lit] at h9
            have e9 : 0 + (j * 5 + i) = 0 + j * 5 + i := by omega
            rw [e9] at h9; exact h9
      have hlA : (x.t.A.sub f).len = x.t.A.len := Tr.sub_len _ _
      obtain ⟨r1, hr1⟩ : ∃ r1 : TyC, r1 = ⟨⟨x.t.k, x.t.m, x.t.n, x.t.A.sub f, .nil⟩, p, c, none, 0⟩ := ⟨_, rfl⟩
      have hok1 : r1.Ok wr (fun j => (j < w0.heap.size ∨ o + 1 ≤ j) ∧ j < wr.heap.size ∧ Value.ownBlock (.slice none 0 0) ≠ some j) := by
        rw [hr1]; exact ⟨x.hk, hA1, .inl rfl⟩
      have H1 := hid (And.intro hok1 (And.intro hr1 hlA))
      clear hA1 hmA hok1 hr1 hlA
      obtain ⟨wz, hwz⟩ : ∃ wz, wz = wr := ⟨_, rfl⟩
      have tb3 := cell_of_row wr _ 3 _ _ _ HP.out.2.2.2.2.2.2.2.2.2
      subst hwz
      go_wp2_with fail
      clear tb3
      go_loopw [10] (fun a wr => ∃ (qs : List TyC) (i : Nat) (p2 : Option Addr) (c2 : Nat), a = .int .i64 (i : Int) ∧ i ≤ x.t.F.len ∧ qs.map (·.t) = (x.t.F.els.map (Ty.sub f)).take i ∧ wr.ownsRow (o + 1) 86 7 (.slice p2 i c2) i (zipCells (x.t.F.fds.take i) qs) ∧
        wr.heap[o]? = some (.cells #[.int .i64 x.t.k, .string x.t.m, .string x.t.n, .slice p x.t.A.len c, .slice p2 i c2] 25 (0, 0)) ∧ wr.heap[W.heap.size + 1]? = Wd.heap[W.heap.size + 1]? ∧
        (∀ r ∈ r1 :: qs, r.Ok wr (fun j => (j < w0.heap.size ∨ o + 1 ≤ j) ∧ j < wr.heap.size ∧ Value.ownBlock (.slice p2 i c2) ≠ some j)) ∧ Below W.heap.size W wr ∧ o + 1 ≤ wr.heap.size ∧ wr.heap[W.heap.size]? = Wd.heap[W.heap.size]?) (fun a _ => x.t.F.len - (intOf a).toNat)
      case atStart => exact ⟨[], 0, none, 0, rfl, Nat.zero_le _, rfl, World.ownsRow_nil _ _ _ _, HP.out.2.2.1, HP.out.2.2.2.1, (fun r hr => by rw [List.mem_singleton] at hr; subst hr; exact H1.out.1), HP.out.2.2.2.2.2.1, HP.out.2.2.2.2.2.2.1, HP.out.2.2.2.2.2.2.2.2.2.trans HD.out.2.2.2.2.symm⟩
      case round =>
        clear HP
        obtain ⟨qs, i, p2, c2, rfl, h1, h2, h3, h4, h5, h6, h7, h8, htb⟩ := hrel
        have hold := HR.out.old.trans (h7.mono HR.out.old.size)
        have hown0 := h3.lt
        have HP := hid (And.intro h2 (And.intro h3 (And.intro h4 (And.intro h5 (And.intro h6 (And.intro h7 (And.intro h8 (And.intro hold (And.intro hown0 (htb.trans HD.out.2.2.2.2))))))))))
        have z4 := cell_of_row wr _ 4 _ _ _ (htb.trans HD.out.2.2.2.2)
        clear h2 h3 h4 h5 h6 h7 hold hown0 htb
        by_cases hlt : i < x.t.F.len
        · obtain ⟨ba, oa, haa, hL⟩ : ∃ b q, x.af = some ⟨b, q, none⟩ ∧ Lies w0 x.t.F true b q := by
            rcases x.hf with h | h
            · rw [h] at hlt; exact absurd hlt (Nat.not_lt_zero _)
            · exact h
          obtain ⟨fn0, op0, y, hy, hfd, d0, d1, d2, d3, d4, d5, d6⟩ := lies_fd2 x.t.F ba oa i hL hlt
          have hys : y.t.size ≤ s := by
            have := Tr.el_size (List.mem_of_getElem? hy)
            omega
          replace d0 := old_cell HP.out.2.2.2.2.2.2.2.1 d0
          replace d1 := old_cell HP.out.2.2.2.2.2.2.2.1 d1
          replace d2 := old_cell HP.out.2.2.2.2.2.2.2.1 d2
          replace d3 := old_cell HP.out.2.2.2.2.2.2.2.1 d3
          replace d4 := old_cell HP.out.2.2.2.2.2.2.2.1 d4
          replace d5 := old_cell HP.out.2.2.2.2.2.2.2.1 d5
          replace d6 := old_cell HP.out.2.2.2.2.2.2.2.1 d6
          obtain ⟨wa, hwa⟩ : ∃ wa, wr.alloc (.cells #[.string fn0, .int .i64 y.t.k, .string y.t.m, .string y.t.n, .slice y.aa y.t.A.len y.ca, .slice y.af y.t.F.len y.cf, .bool op0] 86) = wa := ⟨_, rfl⟩
          have hba : Below wr.heap.size wr wa := by rw [← hwa]; exact (Below.refl _ wr).alloc (Nat.le_refl _) _
          have hsa : wa.heap.size = wr.heap.size + 1 := by rw [← hwa]; simp
          have hea : wa.heap[wr.heap.size]? = some (.cells #[.string fn0, .int .i64 y.t.k, .string y.t.m, .string y.t.n, .slice y.aa y.t.A.len y.ca, .slice y.af y.t.F.len y.cf, .bool op0] 86 (0, 0)) := by rw [← hwa]; exact World.alloc_heap_new _ _
          have hBa := (hba.block o (by omega)).trans HP.out.2.2.1
          have k1 := cell_of_row wa _ 1 _ _ _ hea
          have k2 := cell_of_row wa _ 2 _ _ _ hea
          have k3 := cell_of_row wa _ 3 _ _ _ hea
          have k4 := cell_of_row wa _ 4 _ _ _ hea
          have k5 := cell_of_row wa _ 5 _ _ _ hea
          have hcall : Calls Tryz.prog 20 #[.agg #[.int .i64 y.t.k, .string y.t.m, .string y.t.n, .slice y.aa y.t.A.len y.ca, .slice y.af y.t.F.len y.cf], vN, vT] wa fun e W' => ∃ r : TyC, e = .returned (.agg #[.int .i64 r.t.k, .string r.t.m, .string r.t.n, .slice r.aa r.t.A.len r.ca, .slice r.af r.t.F.len r.cf]) ∧ r.t = y.t.sub f ∧ r.Ok W' (fun i => i < w0.heap.size ∨ (wa.heap.size ≤ i ∧ i < W'.heap.size)) ∧ Below wa.heap.size wa W' := HI.out y hys wa (HP.out.2.2.2.2.2.2.2.1.trans (hba.mono HP.out.2.2.2.2.2.2.2.1.size))
          have HY := hid (And.intro hy (And.intro hba (And.intro hsa (And.intro hBa (And.intro hea (And.intro hfd hcall))))))
          clear hy hba hsa hea hBa hcall hL hys hfd
          rw [haa] at z4 ⊢
          have nB : some o ≠ Value.ownBlock (.slice p2 i c2) := fun e => by have := (HP.out.2.2.2.2.2.2.2.2.1 _ e.symm).1; omega
          have nE : some wr.heap.size ≠ Value.ownBlock (.slice p2 i c2) := fun e => by have := (HP.out.2.2.2.2.2.2.2.2.1 _ e.symm).2; omega
          go_wp2_with fail
          refine HY.out.2.2.2.2.2.2.mono ?_
          rintro e w3 ⟨r, rfl, hrt0, hrok0, hb3⟩
          have hrt := hid hrt0
          have hrok := hid hrok0
          clear hrt0 hrok0 k1 k2 k3 k4 k5 d0 d1 d2 d3 d4 d5 d6 hwa
          have hs3 : wa.heap.size ≤ w3.heap.size := hb3.size
          have hsa2 : wa.heap.size = wr.heap.size + 1 := HY.out.2.2.1
          have e0 := (hb3.block wr.heap.size (by omega)).trans HY.out.2.2.2.2.1
          obtain ⟨s1, hs11⟩ : ∃ s1, w3.setCell ⟨wr.heap.size, 1, none⟩ (.int .i64 r.t.k) = s1 := ⟨_, rfl⟩
          have e1 : s1.heap[wr.heap.size]? = some (.cells #[.string fn0, .int .i64 r.t.k, .string y.t.m, .string y.t.n, .slice y.aa y.t.A.len y.ca, .slice y.af y.t.F.len y.cf, .bool op0] 86 (0, 0)) := by rw [← hs11]; exact heap_setCell_same w3 _ 1 _ _ _ e0
          have v1 := cell_of_row w3 _ 1 _ _ _ e0
          have f1 := frozen_row e0 1
          obtain ⟨s2, hs12⟩ : ∃ s2, s1.setCell ⟨wr.heap.size, 2, none⟩ (.string r.t.m) = s2 := ⟨_, rfl⟩
          have e2 : s2.heap[wr.heap.size]? = some (.cells #[.string fn0, .int .i64 r.t.k, .string r.t.m, .string y.t.n, .slice y.aa y.t.A.len y.ca, .slice y.af y.t.F.len y.cf, .bool op0] 86 (0, 0)) := by rw [← hs12]; exact heap_setCell_same s1 _ 2 _ _ _ e1
          have v2 := cell_of_row s1 _ 2 _ _ _ e1
          have f2 := frozen_row e1 2
          obtain ⟨s3, hs13⟩ : ∃ s3, s2.setCell ⟨wr.heap.size, 3, none⟩ (.string r.t.n) = s3 := ⟨_, rfl⟩
          have e3 : s3.heap[wr.heap.size]? = some (.cells #[.string fn0, .int .i64 r.t.k, .string r.t.m, .string r.t.n, .slice y.aa y.t.A.len y.ca, .slice y.af y.t.F.len y.cf, .bool op0] 86 (0, 0)) := by rw [← hs13]; exact heap_setCell_same s2 _ 3 _ _ _ e2
          have v3 := cell_of_row s2 _ 3 _ _ _ e2
          have f3 := frozen_row e2 3
          obtain ⟨s4, hs14⟩ : ∃ s4, s3.setCell ⟨wr.heap.size, 4, none⟩ (.slice r.aa r.t.A.len r.ca) = s4 := ⟨_, rfl⟩
          have e4 : s4.heap[wr.heap.size]? = some (.cells #[.string fn0, .int .i64 r.t.k, .string r.t.m, .string r.t.n, .slice r.aa r.t.A.len r.ca, .slice y.af y.t.F.len y.cf, .bool op0] 86 (0, 0)) := by rw [← hs14]; exact heap_setCell_same s3 _ 4 _ _ _ e3
          have v4 := cell_of_row s3 _ 4 _ _ _ e3
          have f4 := frozen_row e3 4
          obtain ⟨s5, hs15⟩ : ∃ s5, s4.setCell ⟨wr.heap.size, 5, none⟩ (.slice r.af r.t.F.len r.cf) = s5 := ⟨_, rfl⟩
          have e5 : s5.heap[wr.heap.size]? = some (.cells #[.string fn0, .int .i64 r.t.k, .string r.t.m, .string r.t.n, .slice r.aa r.t.A.len r.ca, .slice r.af r.t.F.len r.cf, .bool op0] 86 (0, 0)) := by rw [← hs15]; exact heap_setCell_same s4 _ 5 _ _ _ e4
          have v5 := cell_of_row s4 _ 5 _ _ _ e4
          have f5 := frozen_row e4 5
          have hz5 : s5.heap.size = w3.heap.size := by rw [← hs15, size_setC, ← hs14, size_setC, ← hs13, size_setC, ← hs12, size_setC, ← hs11, size_setC]
          have hk5 : ∀ j, j ≠ wr.heap.size → s5.heap[j]? = w3.heap[j]? := fun j hj => by
            rw [← hs15, heap_setCell_other _ _ _ _ hj, ← hs14, heap_setCell_other _ _ _ _ hj, ← hs13, heap_setCell_other _ _ _ _ hj, ← hs12, heap_setCell_other _ _ _ _ hj, ← hs11, heap_setCell_other _ _ _ _ hj]
          have hb35 : Below wr.heap.size w3 s5 := by
            rw [← hs15, ← hs14, ← hs13, ← hs12, ← hs11]
            exact (below_setC w3 _ (Nat.le_refl _)).trans ((below_setC _ _ (Nat.le_refl _)).trans ((below_setC _ _ (Nat.le_refl _)).trans ((below_setC _ _ (Nat.le_refl _)).trans (below_setC _ _ (Nat.le_refl _)))))
          have HZ5 := hid hz5
          have hz5' : w3.heap.size ≤ s5.heap.size := by omega
          clear hz5
          have hr5 : Below wr.heap.size wr s5 := HY.out.2.1.trans ((hb3.mono HY.out.2.1.size).trans hb35)
          have hB5 := (hr5.block o (by omega)).trans HP.out.2.2.1
          have m4 := cell_of_row s5 _ 4 _ _ _ hB5
          have m10 := cell_of_row s5 _ 0 _ _ _ e5
          have m11 := cell_of_row s5 _ 1 _ _ _ e5
          have m12 := cell_of_row s5 _ 2 _ _ _ e5
          have m13 := cell_of_row s5 _ 3 _ _ _ e5
          have m14 := cell_of_row s5 _ 4 _ _ _ e5
          have m15 := cell_of_row s5 _ 5 _ _ _ e5
          have m16 := cell_of_row s5 _ 6 _ _ _ e5
          obtain ⟨w6, hw6⟩ : ∃ w6, s5.alloc (.cells #[.string fn0, .int .i64 r.t.k, .string r.t.m, .string r.t.n, .slice r.aa r.t.A.len r.ca, .slice r.af r.t.F.len r.cf, .bool op0] 86) = w6 := ⟨_, rfl⟩
          have hb6 : Below s5.heap.size s5 w6 := by rw [← hw6]; exact (Below.refl _ s5).alloc (Nat.le_refl _) _
          have hs6 : w6.heap.size = s5.heap.size + 1 := by rw [← hw6]; simp
          have he6 : w6.heap[s5.heap.size]? = some (.cells #[.string fn0, .int .i64 r.t.k, .string r.t.m, .string r.t.n, .slice r.aa r.t.A.len r.ca, .slice r.af r.t.F.len r.cf, .bool op0] 86 (0, 0)) := by rw [← hw6]; exact World.alloc_heap_new _ _
          have hr6 : Below wr.heap.size wr w6 := hr5.trans (hb6.mono hr5.size)
          have hown6 := own_belowS HP.out.2.1 hr6
          have hB6 := (hr6.block o (by omega)).trans HP.out.2.2.1
          go_wp2_with (at_builtin; go_loud (refine wpList_append_lies _ rfl _ _ 23 rfl (o + 1) 86 j0 _ 7 112 Tryz.underlying23 hj hy0 hy1 hy2 rfl (by decide) _ _ _ rfl hown6 ⟨s5.heap.size, 0, none⟩ 1 1 [.string fn0, .int .i64 r.t.k, .string r.t.m, .string r.t.n, .slice r.aa r.t.A.len r.ca, .slice r.af r.t.F.len r.cf, .bool op0] rfl rfl (World.news_of_block he6) (by simp [Value.oneCell']) (by decide) (by unfold maxLen; omega) (by omega) (by omega) _ rfl ?_); intro gn cn w7 hown7 hgrow7 hat7 hlt7; have hB7 := (World.grownBy.block (row := Value.ownBlock (.slice p2 i c2)) hgrow7 o (by omega) nB).trans hB6; have k47 := cell_of_row w7 _ 4 _ _ _ hB7; have f47 := frozen_row hB7 4)
          replace hat7 : Value.ownBlock (.slice p2 i c2) = some gn ∨ gn = w6.heap.size := hat7
          replace hgrow7 : w6.grownBy w7 (Value.ownBlock (.slice p2 i c2)) := hgrow7
          have hg7 : gn ≠ o := fun e => by
            have := (hown7.lt gn rfl).1; omega
          have hB7 := (hgrow7.block o (by omega) nB).trans hB6
          have hb8 := heap_setCell_same w7 o 4 _ _ (.slice (some ⟨gn, 0, none⟩) (i + 1) cn) hB7
          have ho8 := hown7.kept (row := some o) (w' := w7.setCell ⟨o, 4, none⟩ (.slice (some ⟨gn, 0, none⟩) (i + 1) cn)) (grownBy_setC w7 _ _ _) (.inr (by show some gn ≠ some o; simpa using hg7))
          have hlt0 := HP.out.2.2.2.2.2.2.2.2.1
          have hr8 : (w7.setCell ⟨o, 4, none⟩ (.slice (some ⟨gn, 0, none⟩) (i + 1) cn)).heap[W.heap.size + 1]? = Wd.heap[W.heap.size + 1]? := by
            rw [heap_setCell_other _ _ _ _ (by show W.heap.size + 1 ≠ o; omega), hgrow7.block _ (by omega) (fun e => by have := (hlt0 _ e.symm).1; omega), hr6.block _ (by omega), HP.out.2.2.2.1]
          have hr9 : (w7.setCell ⟨o, 4, none⟩ (.slice (some ⟨gn, 0, none⟩) (i + 1) cn)).heap[W.heap.size]? = Wd.heap[W.heap.size]? := by
            rw [heap_setCell_other _ _ _ _ (by show W.heap.size ≠ o; omega), hgrow7.block _ (by omega) (fun e => by have := (hlt0 _ e.symm).1; omega), hr6.block _ (by omega)]
            exact HP.out.2.2.2.2.2.2.2.2.2.trans HD.out.2.2.2.2.symm
          have hs8 : w6.heap.size ≤ (w7.setCell ⟨o, 4, none⟩ (.slice (some ⟨gn, 0, none⟩) (i + 1) cn)).heap.size := by rw [size_setC]; exact hgrow7.size
          have hx8 : ∀ j, j < w6.heap.size → ¬ (Value.ownBlock (.slice p2 i c2) = some j ∨ j = o) → (w7.setCell ⟨o, 4, none⟩ (.slice (some ⟨gn, 0, none⟩) (i + 1) cn)).heap[j]? = w6.heap[j]? := fun j hj hx => by
            rw [heap_setCell_other _ _ _ _ (fun e => hx (.inr e)), hgrow7.block j hj (fun e => hx (.inl e.symm))]
          have hB8 : Below W.heap.size W (w7.setCell ⟨o, 4, none⟩ (.slice (some ⟨gn, 0, none⟩) (i + 1) cn)) :=
            (HP.out.2.2.2.2.2.1.trans (hr6.mono HP.out.2.2.2.2.2.1.size)).trans ((below_grown hgrow7 (fun k e => by have := (hlt0 _ e).1; omega)).trans (below_setC w7 _ (by omega)))
          have hkr : KeepX (fun j => Value.ownBlock (.slice p2 i c2) = some j ∨ j = o) wr (w7.setCell ⟨o, 4, none⟩ (.slice (some ⟨gn, 0, none⟩) (i + 1) cn)) :=
            ⟨Nat.le_trans hr6.size hs8, fun j hj hx => (hx8 j (Nat.lt_of_lt_of_le hj hr6.size) hx).trans (hr6.block j hj)⟩
          have hk3 : KeepX (fun j => (Value.ownBlock (.slice p2 i c2) = some j ∨ j = o) ∨ j = wr.heap.size) w3 (w7.setCell ⟨o, 4, none⟩ (.slice (some ⟨gn, 0, none⟩) (i + 1) cn)) :=
            ⟨by omega, fun j hj hx => by
              rw [hx8 j (by omega) (fun h => hx (.inl h)), hb6.block j (by omega), hk5 j (fun h => hx (.inr h))]⟩
          go_roundw
          case rel =>
            have hl1 : (x.t.F.fds.take i).length = qs.length := by
              have h1 := congrArg List.length HP.out.1
              rw [List.length_map, List.length_take, List.length_map, Tr.els_len] at h1
              rw [List.length_take, Tr.fds_len, h1]
            refine ⟨qs ++ [r], i + 1, some ⟨gn, 0, none⟩, cn, by go_num, by omega, ?_, ?_, ?_, hr8, ?_, hB8, by omega, hr9⟩
            · rw [List.map_append, HP.out.1, take_snoc (by rw [List.getElem?_map, HY.out.1]; rfl)]
              simp [hrt.out]
            · rw [take_snoc HY.out.2.2.2.2.2.1, zipCells_snoc hl1]
              simpa [fdCells] using ho8
            · simpa using hb8
            · intro q hq
              rw [← List.cons_append] at hq
              rcases List.mem_append.1 hq with hq | hq
              · refine (HP.out.2.2.2.2.1 q hq).keep hkr fun j hj => ⟨?_, hj.1, by omega, ?_⟩
                · rintro (h | h)
                  · exact hj.2.2 h
                  · omega
                · rintro h
                  have h' : gn = j := by simpa [Value.ownBlock] using h
                  rcases hat7 with h9 | h9
                  · exact hj.2.2 (by rw [h9, h'])
                  · omega
              · rw [List.mem_singleton] at hq
                subst hq
                refine hrok.out.keep hk3 fun j hj => ⟨?_, by omega, by omega, ?_⟩
                · rintro ((h | h) | h)
                  · have := hlt0 j h; omega
                  · omega
                  · omega
                · rintro h
                  have h' : gn = j := by simpa [Value.ownBlock] using h
                  rcases hat7 with h9 | h9
                  · have := hlt0 gn h9; omega
                  · omega
          case measure => simp [intOf]; omega
        · obtain rfl : i = x.t.F.len := by omega
          have hB := HP.out.2.2.1
          have hR : wr.heap[W.heap.size + 1]? = some (.cells #[.int .i64 0, .string ⟨#[]⟩, .string ⟨#[]⟩, .slice none 0 0, .slice none 0 0] 25 (0, 0)) := HP.out.2.2.2.1.trans HD.out.2.1
          have b0 := cell_of_row wr _ 0 _ _ _ hB
          have b1 := cell_of_row wr _ 1 _ _ _ hB
          have b2 := cell_of_row wr _ 2 _ _ _ hB
          have b3 := cell_of_row wr _ 3 _ _ _ hB
          have b4 := cell_of_row wr _ 4 _ _ _ hB
          obtain ⟨s0, hs10⟩ : ∃ s0, wr.setCell ⟨W.heap.size + 1, 0, none⟩ (.int .i64 x.t.k) = s0 := ⟨_, rfl⟩
          have e0 : s0.heap[W.heap.size + 1]? = some (.cells #[.int .i64 x.t.k, .string ⟨#[]⟩, .string ⟨#[]⟩, .slice none 0 0, .slice none 0 0] 25 (0, 0)) := by rw [← hs10]; exact heap_setCell_same wr _ 0 _ _ _ hR
          have v0 := cell_of_row wr _ 0 _ _ _ hR
          have f0 := frozen_row hR 0
          obtain ⟨s1, hs11⟩ : ∃ s1, s0.setCell ⟨W.heap.size + 1, 1, none⟩ (.string x.t.m) = s1 := ⟨_, rfl⟩
          have e1 : s1.heap[W.heap.size + 1]? = some (.cells #[.int .i64 x.t.k, .string x.t.m, .string ⟨#[]⟩, .slice none 0 0, .slice none 0 0] 25 (0, 0)) := by rw [← hs11]; exact heap_setCell_same s0 _ 1 _ _ _ e0
          have v1 := cell_of_row s0 _ 1 _ _ _ e0
          have f1 := frozen_row e0 1
          obtain ⟨s2, hs12⟩ : ∃ s2, s1.setCell ⟨W.heap.size + 1, 2, none⟩ (.string x.t.n) = s2 := ⟨_, rfl⟩
          have e2 : s2.heap[W.heap.size + 1]? = some (.cells #[.int .i64 x.t.k, .string x.t.m, .string x.t.n, .slice none 0 0, .slice none 0 0] 25 (0, 0)) := by rw [← hs12]; exact heap_setCell_same s1 _ 2 _ _ _ e1
          have v2 := cell_of_row s1 _ 2 _ _ _ e1
          have f2 := frozen_row e1 2
          obtain ⟨s3, hs13⟩ : ∃ s3, s2.setCell ⟨W.heap.size + 1, 3, none⟩ (.slice p x.t.A.len c) = s3 := ⟨_, rfl⟩
          have e3 : s3.heap[W.heap.size + 1]? = some (.cells #[.int .i64 x.t.k, .string x.t.m, .string x.t.n, .slice p x.t.A.len c, .slice none 0 0] 25 (0, 0)) := by rw [← hs13]; exact heap_setCell_same s2 _ 3 _ _ _ e2
          have v3 := cell_of_row s2 _ 3 _ _ _ e2
          have f3 := frozen_row e2 3
          obtain ⟨s4, hs14⟩ : ∃ s4, s3.setCell ⟨W.heap.size + 1, 4, none⟩ (.slice p2 x.t.F.len c2) = s4 := ⟨_, rfl⟩
          have e4 : s4.heap[W.heap.size + 1]? = some (.cells #[.int .i64 x.t.k, .string x.t.m, .string x.t.n, .slice p x.t.A.len c, .slice p2 x.t.F.len c2] 25 (0, 0)) := by rw [← hs14]; exact heap_setCell_same s3 _ 4 _ _ _ e3
          have v4 := cell_of_row s3 _ 4 _ _ _ e3
          have f4 := frozen_row e3 4
          have hz4 : s4.heap.size = wr.heap.size := by rw [← hs14, size_setC, ← hs13, size_setC, ← hs12, size_setC, ← hs11, size_setC, ← hs10, size_setC]
          have hk4 : ∀ j, j ≠ W.heap.size + 1 → s4.heap[j]? = wr.heap[j]? := fun j hj => by
            rw [← hs14, heap_setCell_other _ _ _ _ hj, ← hs13, heap_setCell_other _ _ _ _ hj, ← hs12, heap_setCell_other _ _ _ _ hj, ← hs11, heap_setCell_other _ _ _ _ hj, ← hs10, heap_setCell_other _ _ _ _ hj]
          have hb4 : Below W.heap.size wr s4 := by
            rw [← hs14, ← hs13, ← hs12, ← hs11, ← hs10]
            exact (below_setC wr _ (by omega)).trans ((below_setC _ _ (by omega)).trans ((below_setC _ _ (by omega)).trans ((below_setC _ _ (by omega)).trans (below_setC _ _ (by omega)))))
          have HZ4 := hid (And.intro hz4 (And.intro hk4 hb4))
          clear hz4 hk4 hb4
          go_wp2_with fail
          have x0 := cell_of_row s4 _ 0 _ _ _ e4
          have x1 := cell_of_row s4 _ 1 _ _ _ e4
          have x2 := cell_of_row s4 _ 2 _ _ _ e4
          have x3 := cell_of_row s4 _ 3 _ _ _ e4
          have x4 := cell_of_row s4 _ 4 _ _ _ e4
          have hk1 := HP.out.2.2.2.2.1 r1 (by simp)
          rw [H1.out.2.1] at hk1
          have hmF : qs.map (·.t) = (x.t.F.sub f).els := by rw [HP.out.1, Tr.els_sub, List.take_of_length_le (by rw [List.length_map, Tr.els_len]; exact Nat.le_refl _)]
          have hFo : x.t.F.sub f = .nil ∨ ∃ b q, p2 = some ⟨b, q, none⟩ ∧ ((b < w0.heap.size ∨ o + 1 ≤ b) ∧ b < wr.heap.size) ∧ LiesP wr (fun j => (j < w0.heap.size ∨ o + 1 ≤ j) ∧ j < wr.heap.size) (x.t.F.sub f) true b q := by
            rcases Nat.eq_zero_or_pos x.t.F.len with h0 | h0
            · left
              have h1 : (x.t.F.sub f).len = 0 := by rw [Tr.sub_len]; exact h0
              cases h2 : x.t.F.sub f with
              | nil => rfl
              | node => rw [h2] at h1; simp [Tr.len] at h1
            · right
              obtain ⟨gp, cp, he, hb1, hb2⟩ := HP.out.2.1.form h0
              have he' : p2 = some ⟨gp, 0, none⟩ := by injection he
              subst he'
              refine ⟨gp, 0, rfl, ⟨.inr hb1, hb2⟩, liesP_fields _ qs 0 hmF (fun r hr => ?_) (fun j r q hj hq i u hu => ?_)⟩
              · exact (HP.out.2.2.2.2.1 r (by simp [hr])).keep (KeepX.refl (fun _ => False) _) fun j hj => ⟨fun h => h, hj.1, hj.2.1⟩
              · rw [Tr.fds_sub] at hq
                have hz : ((x.t.F.fds.take x.t.F.len).zip qs)[j]? = some (q, r) := by
                  rw [List.getElem?_zip_eq_some]
                  exact ⟨by rw [List.take_of_length_le (by rw [Tr.fds_len]; exact Nat.le_refl _)]; exact hq, hj⟩
                have h9 := HP.out.2.1.cells (g := gp) rfl (j * 7 + i) u (flat_at (fun q : (ByteArray × Bool) × TyC => fdCells q.1 q.2) 7 (fun _ => rfl) _ j i (q, r) u hz hu)
                rw [Addr.add_lit] at h9
                have e9 : 0 + (j * 7 + i) = 0 + j * 7 + i := by omega
                rw [e9] at h9; exact h9
          have hk4 : KeepX (fun j => j = W.heap.size + 1) wr s4 := ⟨by rw [HZ4.out.1]; exact Nat.le_refl _, fun j _ hx => HZ4.out.2.1 j hx⟩
          have hfin : TyC.Ok s4 (fun i => i < w0.heap.size ∨ (W.heap.size ≤ i ∧ i < s4.heap.size)) ⟨⟨x.t.k, x.t.m, x.t.n, x.t.A.sub f, x.t.F.sub f⟩, p, c, p2, c2⟩ := by
            refine ⟨x.hk, ?_, ?_⟩
            · rcases hk1.2.1 with h | ⟨b, q, h, hp, hL⟩
              · exact .inl h
              · exact .inr ⟨b, q, h, by rw [HZ4.out.1]; omega, hL.keep hk4 (fun j hj => ⟨by have := hj.1; omega, by rw [HZ4.out.1]; have := hj.1; have := hj.2.1; omega⟩) (by omega)⟩
            · rcases hFo with h | ⟨b, q, h, hp, hL⟩
              · exact .inl h
              · exact .inr ⟨b, q, h, by rw [HZ4.out.1]; omega, hL.keep hk4 (fun j hj => ⟨by have := hj.1; omega, by rw [HZ4.out.1]; have := hj.1; have := hj.2; omega⟩) (by omega)⟩
          have hv : TyC.v ⟨⟨x.t.k, x.t.m, x.t.n, x.t.A.sub f, x.t.F.sub f⟩, p, c, p2, c2⟩ = .agg #[.int .i64 x.t.k, .string x.t.m, .string x.t.n, .slice p x.t.A.len c, .slice p2 x.t.F.len c2] := by simp [TyC.v, TyC.cells, Tr.sub_len]
          refine ⟨rfl, .agg #[.int .i64 x.t.k, .string x.t.m, .string x.t.n, .slice p x.t.A.len c, .slice p2 x.t.F.len c2], by simp [results, go_sem, x0, x1, x2, x3, x4], ?_⟩
          have hq := HPO.out _ s4 rfl hfin (HP.out.2.2.2.2.2.1.trans HZ4.out.2.2)
          rw [hv] at hq
          exact hq
end Go.Proofs.YtjedcijddlilaaaGreatDoor

namespace Go.Proofs.YtjedcijddlilaaaGreatDoor
open Go.RowKit Go.Shelf
attribute [local go_sem] Oper.semAt_some

theorem idx_get {s : ByteArray} : ∀ {ns : List ByteArray}, idxN ns s < ns.length → ns[idxN ns s]? = some s := by
  intro ns
  induction ns with
  | nil => intro h; exact absurd h (Nat.not_lt_zero _)
  | cons x ns ih =>
    intro h
    unfold idxN at h ⊢
    split
    · rename_i he
      rw [he]; rfl
    · rename_i he
      rw [if_neg he] at h
      rw [List.getElem?_cons_succ]
      exact ih (by simpa using h)
theorem find_miss {ns : List ByteArray} {ts : Tr} {s : ByteArray} {i : Nat} (h : ∀ (j : Nat) (u : ByteArray), j < i → ns[j]? = some u → ¬ s = u) (hi : ns.length ≤ i ∨ ts.len ≤ i) : findTy ns ts s = none := by
  unfold findTy
  split
  · rename_i hlt
    have hge : i ≤ idxN ns s := Nat.le_of_not_lt fun h9 => h _ _ h9 (idx_get hlt) rfl
    rcases hi with h1 | h1
    · omega
    · exact List.getElem?_eq_none (by rw [Tr.els_len]; omega)
  · rfl
theorem find_hit {ns : List ByteArray} {ts : Tr} {s t : ByteArray} {i : Nat} (h : ∀ (j : Nat) (u : ByteArray), j < i → ns[j]? = some u → ¬ s = u) (ht : ns[i]? = some t) (he : s = t) : findTy ns ts s = ts.els[i]? := by
  unfold findTy
  rw [idx_at h ht he, if_pos (List.getElem?_eq_some_iff.1 ht).1]
set_option maxRecDepth 100000 in
set_option maxHeartbeats 8000000 in
theorem rsub_step (w0 : World) (ns : List ByteArray) (ts : Tr) (an ta : Option Addr) (cn ct : Nat) (hN : RowS w0 ns an) (hT : ts = .nil ∨ ∃ b o, ta = some ⟨b, o, none⟩ ∧ Lies w0 ts false b o) (hln : ns.length ≤ 1099511627776) (hlt0 : ts.len ≤ 1099511627776)
    (s : Nat) (hs : s + 1 ≤ 1099511627776) (ih : ∀ y : TyI w0, y.t.size ≤ s → RSubIs w0 (.slice an ns.length cn) (.slice ta ts.len ct) y (findTy ns ts)) (x : TyI w0) (hx : x.t.size ≤ s + 1) :
    RSubIs w0 (.slice an ns.length cn) (.slice ta ts.len ct) x (findTy ns ts) := by
  intro W hW
  have HI := hid ih
  clear ih
  obtain ⟨W1, hW1⟩ : ∃ W1, W.alloc (.cells #[.int .i64 x.t.k, .string x.t.m, .string x.t.n, .slice x.aa x.t.A.len x.ca, .slice x.af x.t.F.len x.cf] 25) = W1 := ⟨_, rfl⟩
  obtain ⟨W2, hW2⟩ : ∃ W2, W1.alloc (.cells #[.int .i64 0, .string ⟨#[]⟩, .string ⟨#[]⟩, .slice none 0 0, .slice none 0 0] 25) = W2 := ⟨_, rfl⟩
  have hB1 : Below W.heap.size W W1 := by rw [← hW1]; exact (Below.refl _ W).alloc (Nat.le_refl _) _
  have hB2 : Below W1.heap.size W1 W2 := by rw [← hW2]; exact (Below.refl _ W1).alloc (Nat.le_refl _) _
  have hs1 : W1.heap.size = W.heap.size + 1 := by rw [← hW1]; simp
  have hs2 : W2.heap.size = W.heap.size + 2 := by rw [← hW2]; simp [hs1]
  have hb1 : W2.heap[W.heap.size]? = some (.cells #[.int .i64 x.t.k, .string x.t.m, .string x.t.n, .slice x.aa x.t.A.len x.ca, .slice x.af x.t.F.len x.cf] 25 (0, 0)) := (hB2.block _ (by omega)).trans (by rw [← hW1]; exact World.alloc_heap_new _ _)
  have hr2 : W2.heap[W.heap.size + 1]? = some (.cells #[.int .i64 0, .string ⟨#[]⟩, .string ⟨#[]⟩, .slice none 0 0, .slice none 0 0] 25 (0, 0)) := by rw [← hs1, ← hW2]; exact World.alloc_heap_new _ _
  have hBW := hB1.trans (hB2.mono (by omega))
  have HRA : Kpt (∀ wr, Below W2.heap.size W2 wr → RestAt w0 W wr x) := hid fun wr hb => ⟨(hb.block _ (by omega)).trans hb1, (hb.block _ (by omega)).trans hr2, hBW.trans (hb.mono hBW.size), hW, by have := hb.size; omega⟩
  have c0 := cell_of_row W2 _ 0 _ _ _ hb1
  have H3 := hid (And.intro hs2 hBW)
  clear hB1 hB2 hb1 hr2 hs2 hBW
  show Calls Tryz.prog 20 #[.agg #[.int .i64 x.t.k, .string x.t.m, .string x.t.n, .slice x.aa x.t.A.len x.ca, .slice x.af x.t.F.len x.cf], .slice an ns.length cn, .slice ta ts.len ct] W _
  have HRest := hid (fun W' (h : RestAt w0 W W' x) R hR => rsub_rest w0 (.slice an ns.length cn) (.slice ta ts.len ct) (findTy ns ts) s hs HI.out x hx W W' h R hR)
  have HNT := hid (And.intro hN hT)
  have HW := hid hW
  clear hN hT hW
  obtain ⟨N, hNl⟩ : ∃ N, ns.length = N := ⟨_, rfl⟩
  obtain ⟨T, hTl⟩ : ∃ T, ts.len = T := ⟨_, rfl⟩
  have HL := hid (And.intro hNl hTl)
  rw [hNl] at HRest hln ⊢
  rw [hTl] at HRest hlt0 ⊢
  clear hNl hTl
  by_cases hk : x.t.k = 9
  · have hkk : (x.t.k == 9) = true := by rw [hk]; rfl
    have HK := hid hk
    clear hk
    go_enter Tryz.func20, Tryz.ntmps20
    change Code.wp _ (Code.seq _ (Code.seq _ (tailOf Tryz.f20.body))) _ _ _
    obtain ⟨rc, hrc⟩ : ∃ rc, rc = tailOf Tryz.f20.body := ⟨_, rfl⟩
    rw [← hrc]
    have HRC := hid hrc
    clear hrc
    go_wp2_with fail
    go_loopw [7] (fun a wr => ∃ (i : Nat), a = .int .i64 (i : Int) ∧ i ≤ N ∧ i ≤ T ∧ Kpt (∀ (j : Nat) (u : ByteArray), j < i → ns[j]? = some u → ¬ x.t.n = u) ∧ Kpt (Below W2.heap.size W2 wr)) (fun a _ => N - (intOf a).toNat)
    case atStart => exact ⟨0, rfl, Nat.zero_le _, Nat.zero_le _, ⟨fun j u hj => absurd hj (Nat.not_lt_zero _)⟩, ⟨Below.refl _ _⟩⟩
    case round =>
      obtain ⟨i, rfl, hiN, hiT, hne, hB⟩ := hrel
      by_cases h1 : i < N
      · by_cases h2 : i < T
        · obtain ⟨b, o, rfl, hc⟩ : ∃ b o, an = some ⟨b, o, none⟩ ∧ ∀ (i : Nat) (s : ByteArray), ns[i]? = some s → w0.cell? ⟨b, o + i, none⟩ = some (.string s) := by
            rcases HNT.out.1 with h | h
            · exfalso
              have h9 := HL.out.1
              rw [h] at h9
              simp at h9
              omega
            · exact h
          obtain ⟨t, ht⟩ : ∃ t, ns[i]? = some t := ⟨_, List.getElem?_eq_getElem (by rw [HL.out.1]; exact h1)⟩
          have HO : Kpt (∀ wv, Below W2.heap.size W2 wv → Below w0.heap.size w0 wv) := hid fun wv hb => HW.out.trans ((H3.out.2.trans (hb.mono H3.out.2.size)).mono HW.out.size)
          have d0 := old_cell (HO.out wr hB.out) (hc i t ht)
          have e2 := cell_of_row wr _ 2 _ _ _ (HRA.out wr hB.out).box
          have HT := hid ht
          clear hc ht
          by_cases he : t = x.t.n
          · have hee : (t.toList == x.t.n.toList) = true := by rw [he]; simp
            have hF := find_hit (ts := ts) hne.out HT.out he.symm
            have HF := hid hF
            clear he hF
            go_wp2_with fail
            go_quiet (fail)
            have hB2 := below_drawn hB.out nq
            generalize wr.drewN nq = wv at hB2 ⊢
            have HV := hid hB2
            clear hB2 d0 e2 hee
            obtain ⟨bt, ot, rfl, hL⟩ : ∃ b o, ta = some ⟨b, o, none⟩ ∧ Lies w0 ts false b o := by
              rcases HNT.out.2 with h | h
              · exfalso
                have h9 := HL.out.2
                rw [h] at h9
                simp [Tr.len] at h9
                omega
              · exact h
            obtain ⟨y, hy, k0, k1, k2, k3, k4⟩ := lies_ty ts bt ot i hL (by rw [HL.out.2]; exact h2)
            replace k0 := old_cell (HO.out wv HV.out) k0
            replace k1 := old_cell (HO.out wv HV.out) k1
            replace k2 := old_cell (HO.out wv HV.out) k2
            replace k3 := old_cell (HO.out wv HV.out) k3
            replace k4 := old_cell (HO.out wv HV.out) k4
            have hR := (HRA.out wv HV.out).res
            have HY := hid hy
            clear hy hL
            obtain ⟨s0, hs10⟩ : ∃ s0, wv.setCell ⟨W.heap.size + 1, 0, none⟩ (.int .i64 y.t.k) = s0 := ⟨_, rfl⟩
            have e0 : s0.heap[W.heap.size + 1]? = some (.cells #[.int .i64 y.t.k, .string ⟨#[]⟩, .string ⟨#[]⟩, .slice none 0 0, .slice none 0 0] 25 (0, 0)) := by rw [← hs10]; exact heap_setCell_same wv _ 0 _ _ _ hR
            have v0 := cell_of_row wv _ 0 _ _ _ hR
            have f0 := frozen_row hR 0
            obtain ⟨s1, hs11⟩ : ∃ s1, s0.setCell ⟨W.heap.size + 1, 1, none⟩ (.string y.t.m) = s1 := ⟨_, rfl⟩
            have e1 : s1.heap[W.heap.size + 1]? = some (.cells #[.int .i64 y.t.k, .string y.t.m, .string ⟨#[]⟩, .slice none 0 0, .slice none 0 0] 25 (0, 0)) := by rw [← hs11]; exact heap_setCell_same s0 _ 1 _ _ _ e0
            have v1 := cell_of_row s0 _ 1 _ _ _ e0
            have f1 := frozen_row e0 1
            obtain ⟨s2, hs12⟩ : ∃ s2, s1.setCell ⟨W.heap.size + 1, 2, none⟩ (.string y.t.n) = s2 := ⟨_, rfl⟩
            have e2 : s2.heap[W.heap.size + 1]? = some (.cells #[.int .i64 y.t.k, .string y.t.m, .string y.t.n, .slice none 0 0, .slice none 0 0] 25 (0, 0)) := by rw [← hs12]; exact heap_setCell_same s1 _ 2 _ _ _ e1
            have v2 := cell_of_row s1 _ 2 _ _ _ e1
            have f2 := frozen_row e1 2
            obtain ⟨s3, hs13⟩ : ∃ s3, s2.setCell ⟨W.heap.size + 1, 3, none⟩ (.slice y.aa y.t.A.len y.ca) = s3 := ⟨_, rfl⟩
            have e3 : s3.heap[W.heap.size + 1]? = some (.cells #[.int .i64 y.t.k, .string y.t.m, .string y.t.n, .slice y.aa y.t.A.len y.ca, .slice none 0 0] 25 (0, 0)) := by rw [← hs13]; exact heap_setCell_same s2 _ 3 _ _ _ e2
            have v3 := cell_of_row s2 _ 3 _ _ _ e2
            have f3 := frozen_row e2 3
            obtain ⟨s4, hs14⟩ : ∃ s4, s3.setCell ⟨W.heap.size + 1, 4, none⟩ (.slice y.af y.t.F.len y.cf) = s4 := ⟨_, rfl⟩
            have e4 : s4.heap[W.heap.size + 1]? = some (.cells #[.int .i64 y.t.k, .string y.t.m, .string y.t.n, .slice y.aa y.t.A.len y.ca, .slice y.af y.t.F.len y.cf] 25 (0, 0)) := by rw [← hs14]; exact heap_setCell_same s3 _ 4 _ _ _ e3
            have v4 := cell_of_row s3 _ 4 _ _ _ e3
            have f4 := frozen_row e3 4
            have hz4 : s4.heap.size = wv.heap.size := by rw [← hs14, size_setC, ← hs13, size_setC, ← hs12, size_setC, ← hs11, size_setC, ← hs10, size_setC]
            have hb5 : Below W.heap.size wv s4 := by
              rw [← hs14, ← hs13, ← hs12, ← hs11, ← hs10]
              exact (below_setC wv _ (by omega)).trans ((below_setC _ _ (by omega)).trans ((below_setC _ _ (by omega)).trans ((below_setC _ _ (by omega)).trans (below_setC _ _ (by omega)))))
            have HZ4 := hid (And.intro hz4 hb5)
            clear hz4 hb5
            go_wp2_with fail
            have x0 := cell_of_row s4 _ 0 _ _ _ e4
            have x1 := cell_of_row s4 _ 1 _ _ _ e4
            have x2 := cell_of_row s4 _ 2 _ _ _ e4
            have x3 := cell_of_row s4 _ 3 _ _ _ e4
            have x4 := cell_of_row s4 _ 4 _ _ _ e4
            refine ⟨rfl, .agg #[.int .i64 y.t.k, .string y.t.m, .string y.t.n, .slice y.aa y.t.A.len y.ca, .slice y.af y.t.F.len y.cf], by simp [results, go_sem, Tryz.results20, x0, x1, x2, x3, x4], y.c, rfl, ?_, ?_, ?_⟩
            · simp only [Ty.sub, if_pos HK.out, HF.out, HY.out]
              rfl
            · exact (tyI_ok y).keep (X := fun _ => False) (KeepX.of_below ((HO.out wv HV.out).trans (HZ4.out.2.mono HW.out.size))) fun j hj => ⟨fun h => h, .inl hj⟩
            · exact (H3.out.2.trans (HV.out.mono H3.out.2.size)).trans HZ4.out.2
          · have hee := toList_ne he
            have HE := hid he
            clear he
            go_wp2_with fail
            go_quiet (fail)
            have hB2 := below_drawn hB.out nq
            generalize wr.drewN nq = wv at hB2 ⊢
            have HV := hid hB2
            clear hB2 d0 e2 hee
            go_wp2_with fail
            go_roundw
            case rel => exact ⟨i + 1, by go_num, by omega, by omega, ⟨fun j u hj hu => by
              rcases Nat.lt_or_ge j i with h | h
              · exact hne.out j u h hu
              · obtain rfl : j = i := by omega
                rw [HT.out] at hu
                cases hu
                exact fun e => HE.out e.symm⟩, ⟨HV.out⟩⟩
            case measure => simp [intOf]; omega
        · obtain rfl : i = T := by omega
          have hsub : x.t.sub (findTy ns ts) = ⟨x.t.k, x.t.m, x.t.n, x.t.A.sub (findTy ns ts), x.t.F.sub (findTy ns ts)⟩ := by simp only [Ty.sub, if_pos HK.out, find_miss hne.out (.inr (Nat.le_of_eq HL.out.2))]
          have HS := hid hsub
          clear hsub
          go_wp2_with fail
          rw [HRC.out]
          exact HRest.out _ (HRA.out _ hB.out) _ (fun r W' h1 h2 h3 => ⟨r, rfl, by rw [h1, HS.out], h2, h3⟩) _ _ _ _ _ _ _ _ _ _ _ _ _ _ _ _ _ _ _ _ _ _ _ _ _ _ _ _ _ _ _ _ _ _ _ _ _ _ _ _ _ _ _ _ _ _ _ _ _ _ _ _ _ _ _ _ _ _ _ _ _ _ _ _ _ _ _ _ _ _ _ _ _ _ _ _ _ _ _ _ _ _ _ _ _
      · obtain rfl : i = N := by omega
        have hsub : x.t.sub (findTy ns ts) = ⟨x.t.k, x.t.m, x.t.n, x.t.A.sub (findTy ns ts), x.t.F.sub (findTy ns ts)⟩ := by simp only [Ty.sub, if_pos HK.out, find_miss hne.out (.inl (Nat.le_of_eq HL.out.1))]
        have HS := hid hsub
        clear hsub
        go_wp2_with fail
        rw [HRC.out]
        exact HRest.out _ (HRA.out _ hB.out) _ (fun r W' h1 h2 h3 => ⟨r, rfl, by rw [h1, HS.out], h2, h3⟩) _ _ _ _ _ _ _ _ _ _ _ _ _ _ _ _ _ _ _ _ _ _ _ _ _ _ _ _ _ _ _ _ _ _ _ _ _ _ _ _ _ _ _ _ _ _ _ _ _ _ _ _ _ _ _ _ _ _ _ _ _ _ _ _ _ _ _ _ _ _ _ _ _ _ _ _ _ _ _ _ _ _ _ _ _
  · have hkk : (x.t.k == 9) = false := by rw [beq_eq_false_iff_ne]; exact hk
    have hsub : x.t.sub (findTy ns ts) = ⟨x.t.k, x.t.m, x.t.n, x.t.A.sub (findTy ns ts), x.t.F.sub (findTy ns ts)⟩ := by simp only [Ty.sub, if_neg hk]
    have HS := hid hsub
    clear hsub hk
    go_enter Tryz.func20, Tryz.ntmps20
    change Code.wp _ (Code.seq _ (Code.seq _ (tailOf Tryz.f20.body))) _ _ _
    obtain ⟨rc, hrc⟩ : ∃ rc, rc = tailOf Tryz.f20.body := ⟨_, rfl⟩
    rw [← hrc]
    have HRC := hid hrc
    clear hrc
    go_wp2_with fail
    rw [HRC.out]
    exact HRest.out _ (HRA.out _ (Below.refl _ _)) _ (fun r W' h1 h2 h3 => ⟨r, rfl, by rw [h1, HS.out], h2, h3⟩) _ _ _ _ _ _ _ _ _ _ _ _ _ _ _ _ _ _ _ _ _ _ _ _ _ _ _ _ _ _ _ _ _ _ _ _ _ _ _ _ _ _ _ _ _ _ _ _ _ _ _ _ _ _ _ _ _ _ _ _ _ _ _ _ _ _ _ _ _ _ _ _ _ _ _ _ _ _ _ _ _ _ _ _ _ 
theorem rsub_all (w0 : World) (ns : List ByteArray) (ts : Tr) (an ta : Option Addr) (cn ct : Nat) (hN : RowS w0 ns an) (hT : ts = .nil ∨ ∃ b o, ta = some ⟨b, o, none⟩ ∧ Lies w0 ts false b o) (hln : ns.length ≤ 1099511627776) (hlt : ts.len ≤ 1099511627776) :
    ∀ s, s ≤ 1099511627776 → ∀ x : TyI w0, x.t.size ≤ s → RSubIs w0 (.slice an ns.length cn) (.slice ta ts.len ct) x (findTy ns ts) := by
  intro s
  induction s with
  | zero => intro _ x hx; exact absurd hx (by unfold Ty.size; omega)
  | succ s ih => intro hs; exact rsub_step w0 ns ts an ta cn ct hN hT hln hlt s hs (ih (by omega))
end Go.Proofs.YtjedcijddlilaaaGreatDoor
