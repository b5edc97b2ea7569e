/- syntax: TypeDepth returns the depth of a type. -/
import Derived.Test.YthpkinmlpppglaaGreatDoorSyD
namespace Go.Proofs.YthpkinmlpppglaaGreatDoor
open Go.RowKit Go.Shelf
attribute [local go_sem] Oper.semAt_some

theorem depth_all (w0 : World) : ∀ s : Nat, s ≤ 1099511627776 → DepT w0 s := by
  intro s
  induction s with
  | zero => intro _ x hx; exact absurd hx (by unfold Ty.size; omega)
  | succ s ih => intro hs; exact depth_step w0 s hs (ih (by omega))

set_option maxRecDepth 100000 in
theorem typeDepth_any {t : Ty} {v : Value} {w : World} (hv : TyV w v t) (hbig : t.size ≤ 1099511627776) :
    Calls Tryz.prog 17 #[v] w fun e w' => e = .returned (.int .i64 (t.depth : Int)) ∧ Below w.heap.size w w' := by
  obtain ⟨x, rfl, rfl⟩ := tyI_of hv
  clear hv
  obtain ⟨wa, hwa⟩ : ∃ wa, w.alloc (.cells #[.int .i64 x.t.k, .string x.t.m, .string x.t.n, .slice x.aa x.t.A.len x.ca, .slice x.af x.t.F.len x.cf] 25) = wa := ⟨_, rfl⟩
  have hba : Below w.heap.size w wa := by rw [← hwa]; exact (Below.refl _ w).alloc (Nat.le_refl _) _
  have hea : wa.heap[w.heap.size]? = some (.cells #[.int .i64 x.t.k, .string x.t.m, .string x.t.n, .slice x.aa x.t.A.len x.ca, .slice x.af x.t.F.len x.cf] 25 (0, 0)) := by rw [← hwa]; exact World.alloc_heap_new _ _
  have k0 := cell_of_row wa _ 0 _ _ _ hea
  have k1 := cell_of_row wa _ 1 _ _ _ hea
  have k2 := cell_of_row wa _ 2 _ _ _ hea
  have k3 := cell_of_row wa _ 3 _ _ _ hea
  have k4 := cell_of_row wa _ 4 _ _ _ hea
  have HC := hid (And.intro (depth_all w x.t.size hbig x (Nat.le_refl _) wa (KeepX.of_below hba)) hba)
  clear hba hea hbig
  show Calls Tryz.prog 17 #[.agg #[.int .i64 x.t.k, .string x.t.m, .string x.t.n, .slice x.aa x.t.A.len x.ca, .slice x.af x.t.F.len x.cf]] w _
  go_enter Tryz.func17, Tryz.ntmps17
  go_wp2_with fail
  refine HC.out.1.mono ?_
  rintro e w' ⟨rfl, hb⟩
  go_wp2_with fail
  go_ret
  exact ⟨rfl, HC.out.2.trans (hb.mono HC.out.2.size)⟩
end Go.Proofs.YthpkinmlpppglaaGreatDoor
