/- syntax: replaced, and Substitute. -/
import Derived.Test.YtjedcijddlilaaaGreatDoorSyS3
namespace Go.Proofs.YtjedcijddlilaaaGreatDoor
open Go.RowKit Go.Shelf

set_option maxRecDepth 100000 in
set_option maxHeartbeats 8000000 in
theorem repl_step (w0 : World) (g : Nat) (lb : Array Value) (f : ByteArray → Option Ty) (eg : ∀ args w, (callFunc g args).run Tryz.prog w = .ok (.enter g args) w) (HF0 : FindAt w0 g lb f) (s : Nat) (hs : s + 1 ≤ 1099511627776)
    (ih : ∀ y : TyI w0, y.t.size ≤ s → ReplIs w0 (.func (.func g) #[] lb) y f)
    (hc : ∀ (n : ByteArray) (y : TyI w0), f n = some y.t → ReplIs w0 (.func (.func 113) #[] #[]) y (fun _ => none)) (x : TyI w0) (hx : x.t.size ≤ s + 1) :
    ReplIs w0 (.func (.func g) #[] lb) x f := by
  intro W hW
  have HI := hid ih
  have HF := hid HF0
  have HC := hid hc
  clear HF0 ih hc
  obtain ⟨W1, hW1⟩ : ∃ W1, W.alloc (.cells #[.int .i64 x.t.k, .string x.t.m, .string x.t.n, .slice x.aa x.t.A.len x.ca, .slice x.af x.t.F.len x.cf] 25) = W1 := ⟨_, rfl⟩
  obtain ⟨W2, hW2⟩ : ∃ W2, W1.alloc (.cells #[.int .i64 0, .string ⟨#[]⟩, .string ⟨#[]⟩, .slice none 0 0, .slice none 0 0] 25) = W2 := ⟨_, rfl⟩
  have hB1 : Below W.heap.size W W1 := by rw [← hW1]; exact (Below.refl _ W).alloc (Nat.le_refl _) _
  have hB2 : Below W1.heap.size W1 W2 := by rw [← hW2]; exact (Below.refl _ W1).alloc (Nat.le_refl _) _
  have hs1 : W1.heap.size = W.heap.size + 1 := by rw [← hW1]; simp
  have hs2 : W2.heap.size = W.heap.size + 2 := by rw [← hW2]; simp [hs1]
  have hb1 : W2.heap[W.heap.size]? = some (.cells #[.int .i64 x.t.k, .string x.t.m, .string x.t.n, .slice x.aa x.t.A.len x.ca, .slice x.af x.t.F.len x.cf] 25 (0, 0)) := (hB2.block _ (by omega)).trans (by rw [← hW1]; exact World.alloc_heap_new _ _)
  have hr2 : W2.heap[W.heap.size + 1]? = some (.cells #[.int .i64 0, .string ⟨#[]⟩, .string ⟨#[]⟩, .slice none 0 0, .slice none 0 0] 25 (0, 0)) := by rw [← hs1, ← hW2]; exact World.alloc_heap_new _ _
  have hBW := hB1.trans (hB2.mono (by omega))
  have H2 := hid (⟨hb1, hr2, hBW, hW, by omega⟩ : RestAt w0 W W2 x)
  have c0 := cell_of_row W2 _ 0 _ _ _ hb1
  have c1 := cell_of_row W2 _ 1 _ _ _ hb1
  have c2 := cell_of_row W2 _ 2 _ _ _ hb1
  have H3 := hid (And.intro hs2 hBW)
  clear hB1 hB2 hb1 hr2 hW hs2 hBW
  show Calls Tryz.prog 62 #[.agg #[.int .i64 x.t.k, .string x.t.m, .string x.t.n, .slice x.aa x.t.A.len x.ca, .slice x.af x.t.F.len x.cf], .func (.func g) #[] lb] W _
  have HRest := hid (fun W' (h : RestAt w0 W W' x) R hR => repl_rest w0 g lb f s hs HI.out x hx W W' h R hR)
  by_cases hk : x.t.k = 9
  · have hfind := HF.out x.t.n W2 (H2.out.old.trans (H3.out.2.mono H2.out.old.size))
    have hkk : (x.t.k == 9) = true := by rw [hk]; rfl
    have HK := hid hk
    clear hk
    go_enter Tryz.func62, Tryz.ntmps62
    change Code.wp _ (Code.seq _ (Code.seq _ (tailOf Tryz.f62.body))) _ _ _
    obtain ⟨rc, hrc⟩ : ∃ rc, rc = tailOf Tryz.f62.body := ⟨_, rfl⟩
    rw [← hrc]
    have HRC := hid hrc
    clear hrc
    have HFI := hid hfind
    clear hfind
    go_wp2_with fail
    refine HFI.out.mono ?_
    rintro e w' ⟨hb, (⟨hfn, rfl⟩ | ⟨y, hfn, rfl⟩)⟩
    · have hsub : x.t.sub f = ⟨x.t.k, x.t.m, x.t.n, x.t.A.sub f, x.t.F.sub f⟩ := by simp only [Ty.sub, if_pos HK.out, hfn]
      have HS := hid hsub
      have hs2 := H3.out.1
      have hbw : Below W2.heap.size W2 (w'.alloc (.cells #[.int .i64 0, .string ⟨#[]⟩, .string ⟨#[]⟩, .slice none 0 0, .slice none 0 0] 25)) := hb.alloc hb.size _
      have hrest : RestAt w0 W (w'.alloc (.cells #[.int .i64 0, .string ⟨#[]⟩, .string ⟨#[]⟩, .slice none 0 0, .slice none 0 0] 25)) x := ⟨(hbw.block _ (by omega)).trans H2.out.box, (hbw.block _ (by omega)).trans H2.out.res, H3.out.2.trans (hbw.mono H3.out.2.size), H2.out.old, by have := hbw.size; omega⟩
      have HR := hid hrest
      clear hsub hfn hb hs2 hbw hrest
      dsimp only [zeroTy]
      go_wp2_with fail
      rw [HRC.out]
      exact HRest.out _ HR.out _ (fun r W' h1 h2 h3 => ⟨r, rfl, by rw [h1, HS.out], h2, h3⟩) _ _ _ _ _ _ _ _ _ _ _ _ _ _ _ _ _ _ _ _ _ _ _ _ _ _ _ _ _ _ _ _ _ _ _ _ _ _ _ _ _ _ _ _ _ _ _ _ _ _ _ _ _ _ _ _ _ _ _ _ _ _
    · have hsub : x.t.sub f = y.t := by simp only [Ty.sub, if_pos HK.out, hfn]
      have hs2 := H3.out.1
      obtain ⟨w3, hw3⟩ : ∃ w3, w'.alloc (.cells #[.int .i64 y.t.k, .string y.t.m, .string y.t.n, .slice y.aa y.t.A.len y.ca, .slice y.af y.t.F.len y.cf] 25) = w3 := ⟨_, rfl⟩
      have hbw : Below W2.heap.size W2 w3 := by rw [← hw3]; exact hb.alloc hb.size _
      have hcall : Calls Tryz.prog 62 #[.agg #[.int .i64 y.t.k, .string y.t.m, .string y.t.n, .slice y.aa y.t.A.len y.ca, .slice y.af y.t.F.len y.cf], .func (.func 113) #[] #[]] w3 fun e W' => ∃ r : TyC, e = .returned (.agg #[.int .i64 r.t.k, .string r.t.m, .string r.t.n, .slice r.aa r.t.A.len r.ca, .slice r.af r.t.F.len r.cf]) ∧ r.t = y.t.sub (fun _ => none) ∧ r.Ok W' (fun i => w3.heap.size ≤ i ∧ i < W'.heap.size) ∧ Below w3.heap.size w3 W' :=
        HC.out x.t.n y hfn w3 ((H2.out.old.trans (H3.out.2.mono H2.out.old.size)).trans (hbw.mono (H2.out.old.trans (H3.out.2.mono H2.out.old.size)).size))
      have he3 : w3.heap[w'.heap.size]? = some (.cells #[.int .i64 y.t.k, .string y.t.m, .string y.t.n, .slice y.aa y.t.A.len y.ca, .slice y.af y.t.F.len y.cf] 25 (0, 0)) := by rw [← hw3]; exact World.alloc_heap_new _ _
      have k0 := cell_of_row w3 _ 0 _ _ _ he3
      have k1 := cell_of_row w3 _ 1 _ _ _ he3
      have k2 := cell_of_row w3 _ 2 _ _ _ he3
      have k3 := cell_of_row w3 _ 3 _ _ _ he3
      have k4 := cell_of_row w3 _ 4 _ _ _ he3
      have HY := hid (And.intro hsub (And.intro hbw hcall))
      have hw2s := hbw.size
      clear hsub hfn hb hbw hcall he3
      dsimp only [TyI.v, TyI.cells]
      go_wp2_with fail
      refine HY.out.2.2.mono ?_
      rintro e w4 ⟨r, rfl, hrt0, hrok0, hb4⟩
      have hrt := hid hrt0
      have hrok := hid hrok0
      clear hrt0 hrok0 k0 k1 k2 k3 k4 hw3
      have hbW4 : Below W2.heap.size W2 w4 := HY.out.2.1.trans (hb4.mono HY.out.2.1.size)
      have hR := (hbW4.block (W.heap.size + 1) (by omega)).trans H2.out.res
      obtain ⟨s0, hs10⟩ : ∃ s0, w4.setCell ⟨W.heap.size + 1, 0, none⟩ (.int .i64 r.t.k) = s0 := ⟨_, rfl⟩
      have e0 : s0.heap[W.heap.size + 1]? = some (.cells #[.int .i64 r.t.k, .string ⟨#[]⟩, .string ⟨#[]⟩, .slice none 0 0, .slice none 0 0] 25 (0, 0)) := by rw [← hs10]; exact heap_setCell_same w4 _ 0 _ _ _ hR
      have v0 := cell_of_row w4 _ 0 _ _ _ hR
      have f0 := frozen_row hR 0
      obtain ⟨s1, hs11⟩ : ∃ s1, s0.setCell ⟨W.heap.size + 1, 1, none⟩ (.string r.t.m) = s1 := ⟨_, rfl⟩
      have e1 : s1.heap[W.heap.size + 1]? = some (.cells #[.int .i64 r.t.k, .string r.t.m, .string ⟨#[]⟩, .slice none 0 0, .slice none 0 0] 25 (0, 0)) := by rw [← hs11]; exact heap_setCell_same s0 _ 1 _ _ _ e0
      have v1 := cell_of_row s0 _ 1 _ _ _ e0
      have f1 := frozen_row e0 1
      obtain ⟨s2, hs12⟩ : ∃ s2, s1.setCell ⟨W.heap.size + 1, 2, none⟩ (.string r.t.n) = s2 := ⟨_, rfl⟩
      have e2 : s2.heap[W.heap.size + 1]? = some (.cells #[.int .i64 r.t.k, .string r.t.m, .string r.t.n, .slice none 0 0, .slice none 0 0] 25 (0, 0)) := by rw [← hs12]; exact heap_setCell_same s1 _ 2 _ _ _ e1
      have v2 := cell_of_row s1 _ 2 _ _ _ e1
      have f2 := frozen_row e1 2
      obtain ⟨s3, hs13⟩ : ∃ s3, s2.setCell ⟨W.heap.size + 1, 3, none⟩ (.slice r.aa r.t.A.len r.ca) = s3 := ⟨_, rfl⟩
      have e3 : s3.heap[W.heap.size + 1]? = some (.cells #[.int .i64 r.t.k, .string r.t.m, .string r.t.n, .slice r.aa r.t.A.len r.ca, .slice none 0 0] 25 (0, 0)) := by rw [← hs13]; exact heap_setCell_same s2 _ 3 _ _ _ e2
      have v3 := cell_of_row s2 _ 3 _ _ _ e2
      have f3 := frozen_row e2 3
      obtain ⟨s4, hs14⟩ : ∃ s4, s3.setCell ⟨W.heap.size + 1, 4, none⟩ (.slice r.af r.t.F.len r.cf) = s4 := ⟨_, rfl⟩
      have e4 : s4.heap[W.heap.size + 1]? = some (.cells #[.int .i64 r.t.k, .string r.t.m, .string r.t.n, .slice r.aa r.t.A.len r.ca, .slice r.af r.t.F.len r.cf] 25 (0, 0)) := by rw [← hs14]; exact heap_setCell_same s3 _ 4 _ _ _ e3
      have v4 := cell_of_row s3 _ 4 _ _ _ e3
      have f4 := frozen_row e3 4
      have hz4 : s4.heap.size = w4.heap.size := by rw [← hs14, size_setC, ← hs13, size_setC, ← hs12, size_setC, ← hs11, size_setC, ← hs10, size_setC]
      have hk4 : ∀ j, j ≠ W.heap.size + 1 → s4.heap[j]? = w4.heap[j]? := fun j hj => by
        rw [← hs14, heap_setCell_other _ _ _ _ hj, ← hs13, heap_setCell_other _ _ _ _ hj, ← hs12, heap_setCell_other _ _ _ _ hj, ← hs11, heap_setCell_other _ _ _ _ hj, ← hs10, heap_setCell_other _ _ _ _ hj]
      have hb5 : Below W.heap.size w4 s4 := by
        rw [← hs14, ← hs13, ← hs12, ← hs11, ← hs10]
        exact (below_setC w4 _ (by omega)).trans ((below_setC _ _ (by omega)).trans ((below_setC _ _ (by omega)).trans ((below_setC _ _ (by omega)).trans (below_setC _ _ (by omega)))))
      have HZ4 := hid (And.intro hz4 (And.intro hk4 hb5))
      clear hz4 hk4 hb5
      go_wp2_with fail
      have x0 := cell_of_row s4 _ 0 _ _ _ e4
      have x1 := cell_of_row s4 _ 1 _ _ _ e4
      have x2 := cell_of_row s4 _ 2 _ _ _ e4
      have x3 := cell_of_row s4 _ 3 _ _ _ e4
      have x4 := cell_of_row s4 _ 4 _ _ _ e4
      refine ⟨rfl, .agg #[.int .i64 r.t.k, .string r.t.m, .string r.t.n, .slice r.aa r.t.A.len r.ca, .slice r.af r.t.F.len r.cf], by simp [results, go_sem, Tryz.results62, x0, x1, x2, x3, x4], r, rfl, by rw [hrt.out, HY.out.1, Ty.sub_none], ?_, ?_⟩
      · exact hrok.out.keep (X := fun j => j = W.heap.size + 1) ⟨by rw [HZ4.out.1]; exact Nat.le_refl _, fun j _ hx => HZ4.out.2.1 j hx⟩ fun j hj => ⟨by omega, by omega, by rw [HZ4.out.1]; exact hj.2⟩
      · exact (H3.out.2.trans (hbW4.mono H3.out.2.size)).trans HZ4.out.2.2
  · have hkk : (x.t.k == 9) = false := by rw [beq_eq_false_iff_ne]; exact hk
    have hsub : x.t.sub f = ⟨x.t.k, x.t.m, x.t.n, x.t.A.sub f, x.t.F.sub f⟩ := by simp only [Ty.sub, if_neg hk]
    have HS := hid hsub
    clear hsub hk
    go_enter Tryz.func62, Tryz.ntmps62
    change Code.wp _ (Code.seq _ (Code.seq _ (tailOf Tryz.f62.body))) _ _ _
    obtain ⟨rc, hrc⟩ : ∃ rc, rc = tailOf Tryz.f62.body := ⟨_, rfl⟩
    rw [← hrc]
    have HRC := hid hrc
    clear hrc
    go_wp2_with fail
    rw [HRC.out]
    exact HRest.out _ H2.out _ (fun r W' h1 h2 h3 => ⟨r, rfl, by rw [h1, HS.out], h2, h3⟩) _ _ _ _ _ _ _ _ _ _ _ _ _ _ _ _ _ _ _ _ _ _ _ _ _ _ _ _ _ _ _ _ _ _ _ _ _ _ _ _ _ _ _ _ _ _ _ _ _ _ _ _ _ _ _ _ _ _ _ _ _ _
end Go.Proofs.YtjedcijddlilaaaGreatDoor
