/- A region that draws its order, as a flow of data: each operation but the last makes a fact on its slot out of the facts of those it waits for, and no operation unmakes a fact; Rel may tie slots to each other; the last one waits for all. Then any order ends well: one walk for each operation, not one for each order. -/
import Derived.Test.YtjedcijddlilaaaGreatDoorQuietTail
import Derived.RegionTactic
import Derived.Test.YtjedcijddlilaaaGreatDoorSyG
namespace Go.Proofs.YtjedcijddlilaaaGreatDoor
open Go

section
variable {P : Program} {ops : Array Oper} {Q : Exit → Act → World → Prop} {md : Region.Mode}
/-- The slot of operation i. -/
def slotV (ops : Array Oper) (i : Nat) (a : Act) : Value := match ops[i]? with
  | some o => match o.dst with
    | some d => a.tmps.getD d undef
    | none => undef
  | none => undef
theorem least_false (p : Nat → Bool) : ∀ n, p n = false → ∃ i, i ≤ n ∧ p i = false ∧ ∀ j, j < i → p j = true := by
  intro n
  induction n using Nat.strongRecOn with
  | _ n ih =>
    intro h
    by_cases hj : ∃ j, j < n ∧ p j = false
    · obtain ⟨j, h1, h2⟩ := hj
      obtain ⟨i, h3, h4⟩ := ih j h1 h2
      exact ⟨i, by omega, h4⟩
    · refine ⟨n, Nat.le_refl _, h, fun j hlt => ?_⟩
      cases hp : p j with
      | true => rfl
      | false => exact absurd ⟨j, hlt, hp⟩ hj
theorem filter_le {l : List Nat} {p q : Nat → Bool} (h : ∀ x, q x = true → p x = true) : (l.filter q).length ≤ (l.filter p).length := by
  induction l with
  | nil => exact Nat.le_refl _
  | cons x l ih =>
    simp only [List.filter_cons]
    cases hq : q x with
    | true => rw [h x hq]; simpa using ih
    | false =>
      cases p x with
      | true => simp; omega
      | false => simpa using ih
theorem filter_lt {l : List Nat} {p q : Nat → Bool} (h : ∀ x, q x = true → p x = true) {i : Nat} (hi : i ∈ l) (hp : p i = true) (hq : q i = false) : (l.filter q).length < (l.filter p).length := by
  induction l with
  | nil => cases hi
  | cons x l ih =>
    simp only [List.filter_cons]
    by_cases hx : i = x
    · subst hx
      rw [hp, hq]
      have := filter_le (l := l) h
      simp; omega
    · have hi' : i ∈ l := by rcases List.mem_cons.1 hi with h | h; exact absurd h hx; exact h
      have := ih hi'
      cases hq2 : q x with
      | true => rw [h x hq2]; simp; omega
      | false =>
        cases p x with
        | true => simp; omega
        | false => simpa using this
/-- What stands while the region works. -/
structure FlowInv (ops : Array Oper) (n : Nat) (Fact : Nat → Value → World → Prop) (Fx : Act → Prop) (G : World → Prop) (Rel : Array Bool → Act → World → Prop) (listed : Array Bool) (a : Act) (w : World) : Prop where
  size : listed.size = n + 1
  last : listed.getD n true = false
  fx : Fx a
  g : G w
  rel : Rel listed a w
  facts : ∀ i, i < n → listed.getD i false = true → Fact i (slotV ops i a) w
def unl (n : Nat) (listed : Array Bool) : Nat := ((List.range (n + 1)).filter fun j => !listed.getD j true).length
theorem getD_in {listed : Array Bool} {i : Nat} (h : i < listed.size) : listed.getD i true = listed.getD i false := by
  simp [h]
theorem wpAny_flow {n : Nat} {Fact : Nat → Value → World → Prop} {Fx : Act → Prop} {G : World → Prop} {Rel : Array Bool → Act → World → Prop} (hn : ops.size = n + 1)
    (hback : ∀ (i : Nat) (o : Oper), ops[i]? = some o → ∀ e ∈ o.after, e.on < i) (hlast : ∀ i, i < n → Region.waitsFor md ops n i = true)
    (hstep : ∀ i, i < n → ∀ listed a w, listed.size = n + 1 → listed.getD i true = false → Rel listed a w → Fx a → G w → (∀ j, Region.waitsFor md ops i j = true → Fact j (slotV ops j a) w) →
      wpOp P ops Q i (fun a' w' => Fx a' ∧ G w' ∧ Fact i (slotV ops i a') w' ∧ (∀ j, j < n → j ≠ i → slotV ops j a' = slotV ops j a) ∧ (∀ j v, Fact j v w → Fact j v w') ∧ Rel (listed.setIfInBounds i true) a' w') a w)
    (hend : ∀ listed a w, (∀ i, i < n → listed.getD i false = true) → Rel listed a w → Fx a → G w → (∀ i, i < n → Fact i (slotV ops i a) w) → wpOp P ops Q n (Q .normal) a w) :
    ∀ (f : Nat) (listed : Array Bool) (a : Act) (w : World), FlowInv ops n Fact Fx G Rel listed a w → unl n listed ≤ f → wpAny P md ops Q f listed a w := by
  intro f
  induction f with
  | zero =>
    intro listed a w inv hu
    have h1 : n ∈ (List.range (n + 1)).filter fun j => !listed.getD j true := List.mem_filter.2 ⟨List.mem_range.2 (by omega), by rw [inv.last]; rfl⟩
    have h2 : (List.range (n + 1)).filter (fun j => !listed.getD j true) = [] := List.eq_nil_of_length_eq_zero (by unfold unl at hu; omega)
    rw [h2] at h1
    cases h1
  | succ f ih =>
    intro listed a w inv hu
    refine ⟨fun h0 => ?_, fun i hi => ?_⟩
    · obtain ⟨i, h1, h2, h3⟩ := least_false (fun j => listed.getD j true) n inv.last
      have hio : ops[i]? = some ops[i] := Array.getElem?_eq_getElem (by omega)
      have hr : i ∈ Region.ready md ops listed := mem_ready.2 ⟨h2, _, hio, fun e he _ => by
        have h4 := hback i _ hio e he
        have h5 := h3 e.on h4
        rw [← getD_in (by rw [inv.size]; omega)]; exact h5⟩
      rw [h0] at hr
      cases hr
    · obtain ⟨hun, o, ho, hall⟩ := mem_ready.1 hi
      have hin : i < n + 1 := by rw [← hn]; exact (Array.getElem?_eq_some_iff.1 ho).1
      have hw : ∀ j, Region.waitsFor md ops i j = true → j < n ∧ listed.getD j false = true := fun j hj => by
        obtain ⟨oj, hoj, e, he, hb, hon⟩ := Region.waitsFor_spec hj
        rw [ho] at hoj
        cases hoj
        have h4 := hback i _ ho e he
        rw [hon] at h4
        have h5 := hall e he hb
        rw [hon] at h5
        exact ⟨by omega, h5⟩
      by_cases hlt : i < n
      · refine wpOp_mono (fun a' w' h => ?_) (hstep i hlt listed a w inv.size hun inv.rel inv.fx inv.g fun j hj => inv.facts j (hw j hj).1 (hw j hj).2)
        obtain ⟨h1, h2, h3, h4, h5, h6⟩ := h
        refine ih _ a' w' ⟨by simpa using inv.size, by rw [getD_set_ne true (by omega)]; exact inv.last, h1, h2, h6, fun j hj hl => ?_⟩ ?_
        · by_cases hji : j = i
          · subst hji; exact h3
          · rw [getD_set_ne false (fun e => hji e.symm)] at hl
            rw [h4 j hj hji]
            exact h5 j _ (inv.facts j hj hl)
        · have hlt2 : unl n (listed.setIfInBounds i true) < unl n listed := by
            refine filter_lt (fun x hx => ?_) (List.mem_range.2 hin) (by rw [hun]; rfl) ?_
            · by_cases hxi : x = i
              · subst hxi; rw [hun]; rfl
              · rwa [getD_set_ne true (fun e => hxi e.symm)] at hx
            · have : i < listed.size := by rw [inv.size]; exact hin
              simp [this]
          omega
      · obtain rfl : i = n := by omega
        have hallf : ∀ j, j < i → Fact j (slotV ops j a) w := fun j hj => inv.facts j hj (hw j (hlast j hj)).2
        refine wpOp_mono (fun a' w' h => ?_) (hend listed a w (fun j hj => (hw j (hlast j hj)).2) inv.rel inv.fx inv.g hallf)
        have hr : Region.ready md ops (listed.setIfInBounds i true) = [] := by
          refine List.eq_nil_iff_forall_not_mem.2 fun j hj => ?_
          obtain ⟨hju, oj, hoj, _⟩ := mem_ready.1 hj
          have hjn : j < i + 1 := by rw [← hn]; exact (Array.getElem?_eq_some_iff.1 hoj).1
          by_cases hji : j = i
          · subst hji
            have : j < listed.size := by rw [inv.size]; exact hin
            simp [this] at hju
          · rw [getD_set_ne true (fun e => hji e.symm)] at hju
            have h6 := (hw j (hlast j (by omega))).2
            rw [getD_in (by rw [inv.size]; omega), h6] at hju
            cases hju
        cases f with
        | zero => exact ⟨hr, h⟩
        | succ f => exact ⟨fun _ => h, fun j hj => by rw [hr] at hj; cases hj⟩
def backB (ops : Array Oper) : Bool := (List.range ops.size).all fun i => match ops[i]? with
  | some o => o.after.toList.all fun e => decide (e.on < i)
  | none => true
theorem flow_back_of (h : backB ops = true) : ∀ (i : Nat) (o : Oper), ops[i]? = some o → ∀ e ∈ o.after, e.on < i := by
  intro i o ho e he
  have hi : i < ops.size := (Array.getElem?_eq_some_iff.1 ho).1
  have h1 := List.all_eq_true.1 h i (List.mem_range.2 hi)
  simp only [ho] at h1
  exact of_decide_eq_true (List.all_eq_true.1 h1 e (by simpa using he))
theorem flow_last_of {n : Nat} (h : ((List.range n).all fun i => Region.waitsFor md ops n i) = true) : ∀ i, i < n → Region.waitsFor md ops n i = true :=
  fun i hi => List.all_eq_true.1 h i (List.mem_range.2 hi)
end
end Go.Proofs.YtjedcijddlilaaaGreatDoor
