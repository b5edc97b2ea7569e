/- syntax: Substitute. -/
import Derived.Test.YtjedcijddlilaaaGreatDoorSyS4
namespace Go.Proofs.YtjedcijddlilaaaGreatDoor
open Go.RowKit Go.Shelf

theorem repl_all (w0 : World) (g : Nat) (lb : Array Value) (f : ByteArray → Option Ty) (eg : ∀ args w, (callFunc g args).run Tryz.prog w = .ok (.enter g args) w) (HF0 : FindAt w0 g lb f)
    (hc : ∀ (n : ByteArray) (y : TyI w0), f n = some y.t → ReplIs w0 (.func (.func 113) #[] #[]) y (fun _ => none)) :
    ∀ s, s ≤ 1099511627776 → ∀ x : TyI w0, x.t.size ≤ s → ReplIs w0 (.func (.func g) #[] lb) x f := by
  intro s
  induction s with
  | zero => intro _ x hx; simp only [Ty.size] at hx; omega
  | succ s ih => intro hs x hx; exact repl_step w0 g lb f eg HF0 s hs (ih (by omega)) hc x hx
theorem repl_nothing (w0 : World) (x : TyI w0) (hx : x.t.size ≤ 1099511627776) : ReplIs w0 (.func (.func 113) #[] #[]) x (fun _ => none) :=
  repl_all w0 _ _ _ (enters_of Tryz.func113 (by kernel_rfl) rfl) (nothing_find w0) (fun n y h => by cases h) _ hx x (Nat.le_refl _)
theorem rowS_below {w w' : World} {ns : List ByteArray} {a : Option Addr} (h : RowS w ns a) (hb : Below w.heap.size w w') : RowS w' ns a := by
  rcases h with h | ⟨b, o, h, hc⟩
  · exact .inl h
  · exact .inr ⟨b, o, h, fun i s hi => old_cell hb (hc i s hi)⟩
theorem row_below {w w' : World} {T : Tr} {fl : Bool} {a : Option Addr} (h : T = .nil ∨ ∃ b o, a = some ⟨b, o, none⟩ ∧ Lies w T fl b o) (hb : Below w.heap.size w w') : T = .nil ∨ ∃ b o, a = some ⟨b, o, none⟩ ∧ Lies w' T fl b o := by
  rcases h with h | ⟨b, o, h, hc⟩
  · exact .inl h
  · exact .inr ⟨b, o, h, Lies_below hb _ _ _ _ hc⟩

set_option maxRecDepth 100000 in
set_option maxHeartbeats 4000000 in
theorem subst_any {w : World} {t : Ty} {v : Value} (ns : List ByteArray) (an : Option Addr) (cn : Nat) (ts : Tr) (ta : Option Addr) (ct : Nat) (hv : TyV w v t) (ht : t.size ≤ 1099511627776)
    (hN : RowS w ns an) (hT : ts = .nil ∨ ∃ b o, ta = some ⟨b, o, none⟩ ∧ Lies w ts false b o) (hln : ns.length ≤ 1099511627776) (hlt : ts.size ≤ 1099511627776) :
    Calls Tryz.prog 19 #[v, .slice an ns.length cn, .slice ta ts.len ct] w fun e w' =>
      ∃ r : TyC, e = .returned r.v ∧ r.t = t.sub (findTy ns ts) ∧ r.Ok w' (fun i => w.heap.size ≤ i ∧ i < w'.heap.size) ∧ Below w.heap.size w w' := by
  obtain ⟨x, rfl, rfl⟩ := tyI_of hv
  clear hv
  obtain ⟨w1, hw1⟩ : ∃ w1, w.alloc (.cells #[.int .i64 x.t.k, .string x.t.m, .string x.t.n, .slice x.aa x.t.A.len x.ca, .slice x.af x.t.F.len x.cf] 25) = w1 := ⟨_, rfl⟩
  obtain ⟨w2, hw2⟩ : ∃ w2, w1.alloc (.cells #[.slice an ns.length cn] 44) = w2 := ⟨_, rfl⟩
  obtain ⟨w3, hw3⟩ : ∃ w3, w2.alloc (.cells #[.slice ta ts.len ct] 22) = w3 := ⟨_, rfl⟩
  obtain ⟨w4, hw4⟩ : ∃ w4, w3.alloc (.cells #[.int .i64 0, .string ⟨#[]⟩, .string ⟨#[]⟩, .slice none 0 0, .slice none 0 0] 25) = w4 := ⟨_, rfl⟩
  have hb1 : Below w.heap.size w w1 := by rw [← hw1]; exact (Below.refl _ w).alloc (Nat.le_refl _) _
  have hb2 : Below w1.heap.size w1 w2 := by rw [← hw2]; exact (Below.refl _ w1).alloc (Nat.le_refl _) _
  have hb3 : Below w2.heap.size w2 w3 := by rw [← hw3]; exact (Below.refl _ w2).alloc (Nat.le_refl _) _
  have hb4 : Below w3.heap.size w3 w4 := by rw [← hw4]; exact (Below.refl _ w3).alloc (Nat.le_refl _) _
  have hs1 : w1.heap.size = w.heap.size + 1 := by rw [← hw1]; simp
  have hs2 : w2.heap.size = w1.heap.size + 1 := by rw [← hw2]; simp
  have hs3 : w3.heap.size = w2.heap.size + 1 := by rw [← hw3]; simp
  have hs4 : w4.heap.size = w3.heap.size + 1 := by rw [← hw4]; simp
  have h14 : Below w1.heap.size w1 w4 := hb2.trans ((hb3.mono (by omega)).trans (hb4.mono (by omega)))
  have h04 : Below w.heap.size w w4 := hb1.trans (h14.mono (by omega))
  have e1 : w4.heap[w.heap.size]? = some (.cells #[.int .i64 x.t.k, .string x.t.m, .string x.t.n, .slice x.aa x.t.A.len x.ca, .slice x.af x.t.F.len x.cf] 25 (0, 0)) := (h14.block _ (by omega)).trans (by rw [← hw1]; exact World.alloc_heap_new _ _)
  have e2 : Boxed w4 w1.heap.size 44 (.slice an ns.length cn) := (hb4.block _ (by omega)).trans ((hb3.block _ (by omega)).trans (by rw [← hw2]; exact World.alloc_heap_new _ _))
  have e3 : Boxed w4 w2.heap.size 22 (.slice ta ts.len ct) := (hb4.block _ (by omega)).trans (by rw [← hw3]; exact World.alloc_heap_new _ _)
  have e4 : w4.heap[w3.heap.size]? = some (.cells #[.int .i64 0, .string ⟨#[]⟩, .string ⟨#[]⟩, .slice none 0 0, .slice none 0 0] 25 (0, 0)) := by rw [← hw4]; exact World.alloc_heap_new _ _
  have k0 := cell_of_row w4 _ 0 _ _ _ e1
  have k1 := cell_of_row w4 _ 1 _ _ _ e1
  have k2 := cell_of_row w4 _ 2 _ _ _ e1
  have k3 := cell_of_row w4 _ 3 _ _ _ e1
  have k4 := cell_of_row w4 _ 4 _ _ _ e1
  have hlT := Tr.len_le ts
  have HF := subst_find w4 ns ts an ta cn ct w1.heap.size w2.heap.size e2 e3 (rowS_below hN h04) (row_below hT h04) hln (by omega)
  obtain ⟨x4, hx4, hv4⟩ := tyI_of (TyV_below x.tyV h04)
  have hcall := repl_all w4 _ _ _ (enters_of Tryz.func63 (by kernel_rfl) rfl) HF (fun n y h => repl_nothing w4 y (by
    unfold findTy at h
    split at h
    · have := Tr.el_size (List.mem_of_getElem? h); omega
    · cases h)) _ ht x4 (by rw [hx4]; exact Nat.le_refl _) w4 (Below.refl _ _)
  rw [hv4, hx4] at hcall
  have hcall' : Calls Tryz.prog 62 #[.agg #[.int .i64 x.t.k, .string x.t.m, .string x.t.n, .slice x.aa x.t.A.len x.ca, .slice x.af x.t.F.len x.cf], .func (.func 63) #[] #[.pointer (some ⟨w1.heap.size, 0, none⟩), .pointer (some ⟨w2.heap.size, 0, none⟩)]] w4 fun e W' => ∃ r : TyC, e = .returned (.agg #[.int .i64 r.t.k, .string r.t.m, .string r.t.n, .slice r.aa r.t.A.len r.ca, .slice r.af r.t.F.len r.cf]) ∧ r.t = x.t.sub (findTy ns ts) ∧ r.Ok W' (fun i => w4.heap.size ≤ i ∧ i < W'.heap.size) ∧ Below w4.heap.size w4 W' := hcall
  have HY := hid (And.intro hcall' (And.intro h04 e4))
  have H5 := hid (And.intro hs1 (And.intro hs2 (And.intro hs3 hs4)))
  clear hb1 hb2 hb3 hb4 h14 h04 e1 e2 e3 e4 HF hcall hcall' hx4 hv4 hN hT hlT x4 hs1 hs2 hs3 hs4
  show Calls Tryz.prog 19 #[.agg #[.int .i64 x.t.k, .string x.t.m, .string x.t.n, .slice x.aa x.t.A.len x.ca, .slice x.af x.t.F.len x.cf], .slice an ns.length cn, .slice ta ts.len ct] w _
  go_enter Tryz.func19, Tryz.ntmps19
  go_wp2_with fail
  refine HY.out.1.mono ?_
  rintro e w5 ⟨r, rfl, hrt0, hrok0, hb5⟩
  have hrt := hid hrt0
  have hrok := hid hrok0
  clear hrt0 hrok0 k0 k1 k2 k3 k4 hw1 hw2 hw3 hw4
  obtain ⟨hs1, hs2, hs3, hs4⟩ := H5.out
  have hR := (hb5.block w3.heap.size (by omega)).trans HY.out.2.2
  obtain ⟨s0, hs10⟩ : ∃ s0, w5.setCell ⟨w3.heap.size, 0, none⟩ (.int .i64 r.t.k) = s0 := ⟨_, rfl⟩
  have e0 : s0.heap[w3.heap.size]? = some (.cells #[.int .i64 r.t.k, .string ⟨#[]⟩, .string ⟨#[]⟩, .slice none 0 0, .slice none 0 0] 25 (0, 0)) := by rw [← hs10]; exact heap_setCell_same w5 _ 0 _ _ _ hR
  have v0 := cell_of_row w5 _ 0 _ _ _ hR
  have f0 := frozen_row hR 0
  obtain ⟨s1, hs11⟩ : ∃ s1, s0.setCell ⟨w3.heap.size, 1, none⟩ (.string r.t.m) = s1 := ⟨_, rfl⟩
  have e1 : s1.heap[w3.heap.size]? = some (.cells #[.int .i64 r.t.k, .string r.t.m, .string ⟨#[]⟩, .slice none 0 0, .slice none 0 0] 25 (0, 0)) := by rw [← hs11]; exact heap_setCell_same s0 _ 1 _ _ _ e0
  have v1 := cell_of_row s0 _ 1 _ _ _ e0
  have f1 := frozen_row e0 1
  obtain ⟨s2, hs12⟩ : ∃ s2, s1.setCell ⟨w3.heap.size, 2, none⟩ (.string r.t.n) = s2 := ⟨_, rfl⟩
  have e2 : s2.heap[w3.heap.size]? = some (.cells #[.int .i64 r.t.k, .string r.t.m, .string r.t.n, .slice none 0 0, .slice none 0 0] 25 (0, 0)) := by rw [← hs12]; exact heap_setCell_same s1 _ 2 _ _ _ e1
  have v2 := cell_of_row s1 _ 2 _ _ _ e1
  have f2 := frozen_row e1 2
  obtain ⟨s3, hs13⟩ : ∃ s3, s2.setCell ⟨w3.heap.size, 3, none⟩ (.slice r.aa r.t.A.len r.ca) = s3 := ⟨_, rfl⟩
  have e3 : s3.heap[w3.heap.size]? = some (.cells #[.int .i64 r.t.k, .string r.t.m, .string r.t.n, .slice r.aa r.t.A.len r.ca, .slice none 0 0] 25 (0, 0)) := by rw [← hs13]; exact heap_setCell_same s2 _ 3 _ _ _ e2
  have v3 := cell_of_row s2 _ 3 _ _ _ e2
  have f3 := frozen_row e2 3
  obtain ⟨s4, hs14⟩ : ∃ s4, s3.setCell ⟨w3.heap.size, 4, none⟩ (.slice r.af r.t.F.len r.cf) = s4 := ⟨_, rfl⟩
  have e4 : s4.heap[w3.heap.size]? = some (.cells #[.int .i64 r.t.k, .string r.t.m, .string r.t.n, .slice r.aa r.t.A.len r.ca, .slice r.af r.t.F.len r.cf] 25 (0, 0)) := by rw [← hs14]; exact heap_setCell_same s3 _ 4 _ _ _ e3
  have v4 := cell_of_row s3 _ 4 _ _ _ e3
  have f4 := frozen_row e3 4
  have hz4 : s4.heap.size = w5.heap.size := by rw [← hs14, size_setC, ← hs13, size_setC, ← hs12, size_setC, ← hs11, size_setC, ← hs10, size_setC]
  have hk4 : ∀ j, j ≠ w3.heap.size → s4.heap[j]? = w5.heap[j]? := fun j hj => by
    rw [← hs14, heap_setCell_other _ _ _ _ hj, ← hs13, heap_setCell_other _ _ _ _ hj, ← hs12, heap_setCell_other _ _ _ _ hj, ← hs11, heap_setCell_other _ _ _ _ hj, ← hs10, heap_setCell_other _ _ _ _ hj]
  have hb6 : Below w.heap.size w5 s4 := by
    rw [← hs14, ← hs13, ← hs12, ← hs11, ← hs10]
    exact (below_setC w5 _ (by omega)).trans ((below_setC _ _ (by omega)).trans ((below_setC _ _ (by omega)).trans ((below_setC _ _ (by omega)).trans (below_setC _ _ (by omega)))))
  have HZ4 := hid (And.intro hz4 (And.intro hk4 (And.intro hb6 (And.intro hs1 (And.intro hs2 (And.intro hs3 hs4))))))
  clear hz4 hk4 hb6 hs1 hs2 hs3 hs4
  go_wp2_with fail
  have x0 := cell_of_row s4 _ 0 _ _ _ e4
  have x1 := cell_of_row s4 _ 1 _ _ _ e4
  have x2 := cell_of_row s4 _ 2 _ _ _ e4
  have x3 := cell_of_row s4 _ 3 _ _ _ e4
  have x4 := cell_of_row s4 _ 4 _ _ _ e4
  obtain ⟨hz4, hk4, hb6, hs1, hs2, hs3, hs4⟩ := HZ4.out
  refine ⟨rfl, .agg #[.int .i64 r.t.k, .string r.t.m, .string r.t.n, .slice r.aa r.t.A.len r.ca, .slice r.af r.t.F.len r.cf], by simp [results, go_sem, Tryz.results19, x0, x1, x2, x3, x4], r, rfl, hrt.out, ?_, ?_⟩
  · exact hrok.out.keep (X := fun j => j = w3.heap.size) ⟨by rw [hz4]; exact Nat.le_refl _, fun j _ hx => hk4 j hx⟩ fun j hj => ⟨by omega, by omega, by rw [hz4]; exact hj.2⟩
  · exact (HY.out.2.1.trans (hb5.mono HY.out.2.1.size)).trans hb6
end Go.Proofs.YtjedcijddlilaaaGreatDoor
