/- A region that draws its order, some of whose reads may come before or behind a call: they are taken first, where a fact on the world holds behind each other operation but the last. (The library's own law asks that fact behind the last one too.) -/
import Derived.Test.YtjedcijddlilaaaGreatDoorQuietTail
import Derived.OrdersHeld
import Derived.RegionTactic
import Derived.Deep.RegionHeld3
namespace Go.Proofs.YtjedcijddlilaaaGreatDoor
open Go

section
variable {P : Program} {ops : Array Oper} {Q : Exit → Act → World → Prop} {md : Region.Mode} {S : World → Prop} {z : Nat}

/-- Whatever order is picked from here on; S holds behind each operation until the one numbered z comes. -/
def wpAnyG (P : Program) (md : Region.Mode) (ops : Array Oper) (Q : Exit → Act → World → Prop) (S : World → Prop) (z : Nat) : Nat → Array Bool → Act → World → Prop
  | 0, listed, a, w => Region.ready md ops listed = [] ∧ Q .normal a w
  | f + 1, listed, a, w => (Region.ready md ops listed = [] → Q .normal a w) ∧
    ∀ i ∈ Region.ready md ops listed, wpOp P ops Q i (fun a' w' => ((listed.setIfInBounds i true).getD z true = false → S w') ∧ wpAnyG P md ops Q S z f (listed.setIfInBounds i true) a' w') a w
theorem any_of_G : ∀ (f : Nat) (listed : Array Bool) (a : Act) (w : World), wpAnyG P md ops Q S z f listed a w → wpAny P md ops Q f listed a w
  | 0, _, _, _, h => h
  | f + 1, _, _, _, h => ⟨h.1, fun i hi => wpOp_mono (fun a' w' h' => any_of_G f _ a' w' h'.2) (h.2 i hi)⟩
theorem anyG_first {i : Nat} {oi : Oper} {v : Value} (hi : ops[i]? = some oi) (hsel : ∀ (j : Nat) (o : Oper) cs b, ops[j]? = some o → o.op ≠ .select cs b)
    (hz : ∃ oz, ops[z]? = some oz ∧ ∃ e ∈ oz.after, Region.binds md e = true ∧ e.on = i) (hiz : i ≠ z) (hQ : ∀ c a w, Q (.panic c) (a.put oi.dst v) w → Q (.panic c) a w) : ∀ (f : Nat) (listed : Array Bool) (a : Act) (w : World),
    (∀ j oj, ops[j]? = some oj → j ≠ i → listed.getD j true = false → (∀ e ∈ oj.after, Region.binds md e = true → e.on ≠ i) → oi.apart ops oj = true) →
    listed.getD z true = false → i ∈ Region.ready md ops listed → YieldsIf P ops S oi v a → S w → wpAnyG P md ops Q S z f (listed.setIfInBounds i true) (a.put oi.dst v) w → wpAnyG P md ops Q S z (f + 1) listed a w := by
  intro f
  induction f with
  | zero =>
    intro listed a w _ _ hr hy hS H
    refine ⟨fun h => (by rw [h] at hr; cases hr), fun j hj => ?_⟩
    by_cases hji : j = i
    · subst hji; exact hy.wpOp hi hS ⟨fun _ => hS, H⟩
    · have hm := ready_mono hj hji
      rw [H.1] at hm
      cases hm
  | succ f ih =>
    intro listed a w hfree hzl hr hy hS H
    refine ⟨fun h => (by rw [h] at hr; cases hr), fun j hj => ?_⟩
    by_cases hji : j = i
    · subst hji; exact hy.wpOp hi hS ⟨fun _ => hS, H⟩
    · have hstep := H.2 j (ready_mono hj hji)
      obtain ⟨hjun, oj, hoj, hall⟩ := mem_ready.1 hj
      have hnot : ∀ e ∈ oj.after, Region.binds md e = true → e.on ≠ i := fun e he hb heq => by
        have h1 := hall e he hb
        have h0 := (mem_ready.1 hr).1
        rw [heq] at h1
        rcases Nat.lt_or_ge i listed.size with h' | h'
        · simp [h'] at h0 h1; rw [h0] at h1; cases h1
        · simp [Array.getElem?_eq_none h'] at h1
      have hput := wpOp_putIf hoj (hfree j oj hoj hji hjun hnot) (fun cs b => hsel i oi cs b hi) (fun cs b => hsel j oj cs b hoj) hQ hy hstep
      have hfree' : ∀ k ok, ops[k]? = some ok → k ≠ i → (listed.setIfInBounds j true).getD k true = false → (∀ e ∈ ok.after, Region.binds md e = true → e.on ≠ i) → oi.apart ops ok = true := fun k ok hk hki hun hno => by
        refine hfree k ok hk hki ?_ hno
        by_cases hjk : j = k
        · subst hjk; exact hjun
        · rw [getD_set_ne true hjk] at hun; exact hun
      have hri : i ∈ Region.ready md ops (listed.setIfInBounds j true) := ready_mono hr (Ne.symm hji)
      have hjz : j ≠ z := by
        rintro rfl
        obtain ⟨oz, hoz, e, he, hb, hon⟩ := hz
        have h1 : oj = oz := Option.some.inj (hoj.symm.trans hoz)
        subst h1
        exact hnot e he hb hon
      refine wpOp_mono (fun a' w' h3 => ?_) hput
      obtain ⟨hy', hS', hG⟩ := h3
      rw [getD_set_ne true hjz, getD_set_ne true hiz] at hS'
      rw [getD_set_ne true hjz]
      refine ⟨fun _ => hS' hzl, ih (listed.setIfInBounds j true) a' w' hfree' (by rw [getD_set_ne true hjz]; exact hzl) hri hy' (hS' hzl) ?_⟩
      rw [Array.setIfInBounds_comm _ _ hji]
      exact hG
/-- Number i is taken first. -/
theorem G_take {i : Nat} {oi : Oper} {v : Value} {f : Nat} {listed : Array Bool} {a : Act} {w : World} (hi : ops[i]? = some oi) (hs : Region.noSelect ops = true) (hf : Region.free md ops listed i = true)
    (hr : (Region.ready md ops listed).contains i = true) (hz : Region.waitsFor md ops z i = true) (hiz : i ≠ z) (hzu : listed.getD z true = false) (hQ : ∀ c a w, Q (.panic c) (a.put oi.dst v) w → Q (.panic c) a w)
    (hy : YieldsIf P ops S oi v a) (hS : S w) (h : wpAnyG P md ops Q S z f (listed.setIfInBounds i true) (a.put oi.dst v) w) : wpAnyG P md ops Q S z (f + 1) listed a w :=
  anyG_first hi (Region.noSelect_spec hs) (by obtain ⟨oz, hoz, e, he, hb, hon⟩ := Region.waitsFor_spec hz; exact ⟨oz, hoz, e, he, hb, hon⟩) hiz hQ f listed a w (Region.free_spec hi hf) hzu (by simpa using hr) hy hS h
/-- Q, but K where the list has ended. -/
abbrev gQ (Q : Exit → Act → World → Prop) (K : Act → World → Prop) : Exit → Act → World → Prop := fun e a w => match e with
  | .normal => K a w
  | .ret => Q .ret a w
  | .exit i => Q (.exit i) a w
  | .goto t => Q (.goto t) a w
  | .panic c => Q (.panic c) a w
  | .outgrown => Q .outgrown a w
theorem wpOp_of_list {i : Nat} {o : Oper} {K : Act → World → Prop} {a : Act} {w : World} (ho : ops[i]? = some o) (h : wpList P ops (gQ Q K) [o] a w) : wpOp P ops Q i K a w := by
  unfold wpOp
  simp only [ho]
  unfold wpList at h
  split
  · rename_i hw
    simp only [hw, if_true] at h
    rcases h with h | ⟨h1, a', w', h2⟩
    · refine .inl ?_
      unfold Oper.wp at *
      generalize (execOp a.eval o).run P w = r at *
      cases r with
      | ok n w' =>
        cases n <;> simp only [Oper.upon] at h ⊢
        case value => exact h
        case skip => exact h
        case defer => exact h
        case enter f args =>
          refine Calls.mono h fun e w'' he => ?_
          cases e with
          | returned u => exact he
          | panicked c => exact he
          | outgrown => exact he
        case row row args => exact Rows.mono h fun u w'' he => he
      | halt x w' =>
        cases x <;> simp only [Oper.upon] at h ⊢
        case panic u => exact h
    · exact .inr ⟨h1, a', w', h2⟩
  · rename_i hw
    simp only [hw] at h
    exact h
/-- The operations in this order, S shown behind each but the one numbered z. -/
def gList (P : Program) (ops : Array Oper) (Q : Exit → Act → World → Prop) (S : World → Prop) (z : Nat) : List (Nat × Oper) → Act → World → Prop
  | [], a, w => Q .normal a w
  | p :: rest, a, w => wpList P ops (gQ Q fun a' w' => (p.1 ≠ z → S w') ∧ gList P ops Q S z rest a' w') [p.2] a w
theorem gList_step {i : Nat} {o : Oper} {rest : List (Nat × Oper)} {a : Act} {w : World} (h : wpList P ops (gQ Q fun a' w' => (i ≠ z → S w') ∧ gList P ops Q S z rest a' w') [o] a w) : gList P ops Q S z ((i, o) :: rest) a w := h
def chainI (md : Region.Mode) (ops : Array Oper) : Array Bool → List Nat → Bool
  | listed, [] => (Region.ready md ops listed).isEmpty
  | listed, i :: l => decide (Region.ready md ops listed = [i]) && chainI md ops (listed.setIfInBounds i true) l
theorem G_list : ∀ (rest : List (Nat × Oper)) (listed : Array Bool) (a : Act) (w : World), rest.map (fun p => ops[p.1]?) = rest.map (fun p => some p.2) → z < listed.size → chainI md ops listed (rest.map (·.1)) = true → gList P ops Q S z rest a w → wpAnyG P md ops Q S z rest.length listed a w
  | [], listed, a, w, _, _, hc, h => ⟨List.isEmpty_iff.1 hc, h⟩
  | p :: rest, listed, a, w, hm, hzs, hc, h => by
    simp only [List.map_cons, List.cons.injEq] at hm
    simp only [List.map_cons, chainI, Bool.and_eq_true, decide_eq_true_eq] at hc
    refine ⟨fun h0 => (by rw [hc.1] at h0; cases h0), fun i hi => ?_⟩
    rw [hc.1, List.mem_singleton] at hi
    subst hi
    refine wpOp_mono (fun a' w' h' => ⟨fun hz => h'.1 (fun e => ?_), G_list rest _ a' w' hm.2 (by simpa using hzs) hc.2 h'.2⟩) (wpOp_of_list hm.1 h)
    rw [e] at hz
    simp [hzs] at hz
theorem region_G {id : Nat} {a : Act} {w : World} (hm : P.follows .mixedOrders = true) (h : wpAnyG P .any ops Q S z ops.size (Array.replicate ops.size false) a w.drew) : (Code.region id ops true).wp P Q a w :=
  wp_region_any hm (any_of_G _ _ _ _ h)
end
end Go.Proofs.YtjedcijddlilaaaGreatDoor
