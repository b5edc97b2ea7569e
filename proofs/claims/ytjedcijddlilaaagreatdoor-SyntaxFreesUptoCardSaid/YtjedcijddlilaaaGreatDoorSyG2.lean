/- A region that draws its order, one operation after the other: the laws for one or two operations that may come up. -/
import Derived.Test.YtjedcijddlilaaaGreatDoorSyG
namespace Go.Proofs.YtjedcijddlilaaaGreatDoor
open Go

section
variable {P : Program} {ops : Array Oper} {Q : Exit → Act → World → Prop} {md : Region.Mode} {S : World → Prop} {z : Nat}
theorem G_one {i : Nat} {o : Oper} {f : Nat} {listed : Array Bool} {a : Act} {w : World} (hr : Region.ready md ops listed = [i]) (ho : ops[i]? = some o)
    (h : wpList P ops (gQ Q fun a' w' => S w' ∧ wpAnyG P md ops Q S z f (listed.setIfInBounds i true) a' w') [o] a w) : wpAnyG P md ops Q S z (f + 1) listed a w := by
  refine ⟨fun h0 => (by rw [hr] at h0; cases h0), fun j hj => ?_⟩
  rw [hr, List.mem_singleton] at hj
  subst hj
  exact wpOp_mono (fun a' w' h' => ⟨fun _ => h'.1, h'.2⟩) (wpOp_of_list ho h)
theorem G_two {i j : Nat} {o p : Oper} {f : Nat} {listed : Array Bool} {a : Act} {w : World} (hr : Region.ready md ops listed = [i, j]) (ho : ops[i]? = some o) (hp : ops[j]? = some p)
    (h : wpList P ops (gQ Q fun a' w' => S w' ∧ wpAnyG P md ops Q S z f (listed.setIfInBounds i true) a' w') [o] a w)
    (h' : wpList P ops (gQ Q fun a' w' => S w' ∧ wpAnyG P md ops Q S z f (listed.setIfInBounds j true) a' w') [p] a w) : wpAnyG P md ops Q S z (f + 1) listed a w := by
  refine ⟨fun h0 => (by rw [hr] at h0; cases h0), fun k hk => ?_⟩
  rw [hr, List.mem_cons, List.mem_singleton] at hk
  rcases hk with rfl | rfl
  · exact wpOp_mono (fun a' w' h' => ⟨fun _ => h'.1, h'.2⟩) (wpOp_of_list ho h)
  · exact wpOp_mono (fun a' w' h' => ⟨fun _ => h'.1, h'.2⟩) (wpOp_of_list hp h')
theorem G_end {listed : Array Bool} {a : Act} {w : World} (hr : Region.ready md ops listed = []) (h : Q .normal a w) : wpAnyG P md ops Q S z 0 listed a w := ⟨hr, h⟩
end
end Go.Proofs.YtjedcijddlilaaaGreatDoor
