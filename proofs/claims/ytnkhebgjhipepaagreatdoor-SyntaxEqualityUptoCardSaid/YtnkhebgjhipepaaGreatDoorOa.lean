/- A region that draws its order: its first operations one by one, the rest in a class of later worlds; six boxes. | syntax: arguments that are types, expressions, modules. -/
import Derived.Test.YtnkhebgjhipepaaGreatDoorSyG2
import Derived.Test.YtnkhebgjhipepaaGreatDoorQuietTail
import Derived.Test.YtnkhebgjhipepaaGreatDoorBase
import Derived.Test.YtnkhebgjhipepaaGreatDoorEv
import Derived.Test.YtnkhebgjhipepaaGreatDoorEqM
namespace Go.Proofs.YtnkhebgjhipepaaGreatDoor
open Go Go.RowKit

section
variable {P : Program} {ops : Array Oper} {Q : Exit → Act → World → Prop} {md : Region.Mode} {S : World → Prop} {z : Nat}
theorem set_getD_true {listed : Array Bool} {z i : Nat} (h : listed.getD z true = true) : (listed.setIfInBounds i true).getD z true = true := by
  by_cases hi : i = z
  · subst hi
    by_cases hs : i < listed.size
    · simp [hs]
    · simp [hs]
  · rw [getD_set_ne true hi]; exact h
theorem G_of_any : ∀ (f : Nat) (listed : Array Bool) (a : Act) (w : World), listed.getD z true = true → wpAny P md ops Q f listed a w → wpAnyG P md ops Q S z f listed a w
  | 0, _, _, _, _, h => h
  | f + 1, listed, a, w, hz, h => ⟨h.1, fun i hi => wpOp_mono (fun a' w' h' => ⟨fun hf => (by rw [set_getD_true hz] at hf; cases hf), G_of_any f _ a' w' (set_getD_true hz) h'⟩) (h.2 i hi)⟩
/-- What is left of the region only reads, and calls what makes memory and turns nothing. -/
theorem G_later (l : List Oper) (k : Nat) {listed : Array Bool} {a : Act} {w : World} (hz : listed.getD z true = true) (hs : Region.noSelect ops = true) (hl : ∀ j, l[j]? = ops[k + j]?) (hB : Region.lexFrom md ops l.length k listed = true)
    (h : wpQuiet P ops (fun w' => ∃ X : Later w, w' = X.now) (fun a' => ∀ w', (∃ X : Later w, w' = X.now) → Q .normal a' w') l a) : wpAnyG P md ops Q S z l.length listed a w :=
  G_of_any _ _ _ _ hz (wpAny_of_quiet (Q := fun a' => ∀ w', (∃ X : Later w, w' = X.now) → Q .normal a' w') (fun _ w' hw' h => h w' hw') _ _ _ _ ⟨⟨w, Below.refl _ _⟩, rfl⟩ (wpAnyQ_lex hs l k listed a hl hB h))
theorem drop_get {α : Type} (l : List α) (k : Nat) : ∀ j, (l.drop k)[j]? = l.toArray[k + j]? := fun j => by simp
end
/-- Six boxes. -/
theorem six_rows {w : World} (o1 o2 o3 o4 o5 o6 : Obj) : Below w.heap.size w ((((((w.alloc o1).alloc o2).alloc o3).alloc o4).alloc o5).alloc o6) ∧
    ((((((w.alloc o1).alloc o2).alloc o3).alloc o4).alloc o5).alloc o6).heap[w.heap.size]? = some o1 ∧ ((((((w.alloc o1).alloc o2).alloc o3).alloc o4).alloc o5).alloc o6).heap[w.heap.size + 1]? = some o2 ∧
    ((((((w.alloc o1).alloc o2).alloc o3).alloc o4).alloc o5).alloc o6).heap[w.heap.size + 1 + 1]? = some o3 ∧ ((((((w.alloc o1).alloc o2).alloc o3).alloc o4).alloc o5).alloc o6).heap[w.heap.size + 1 + 1 + 1]? = some o4 ∧
    ((((((w.alloc o1).alloc o2).alloc o3).alloc o4).alloc o5).alloc o6).heap[w.heap.size + 1 + 1 + 1 + 1]? = some o5 ∧ ((((((w.alloc o1).alloc o2).alloc o3).alloc o4).alloc o5).alloc o6).heap[w.heap.size + 1 + 1 + 1 + 1 + 1]? = some o6 := by
  have al : ∀ (w : World) (o : Obj), Below w.heap.size w (w.alloc o) := fun w o => (Below.refl _ _).alloc (Nat.le_refl _) _
  have sz : ∀ (w : World) (o : Obj), (w.alloc o).heap.size = w.heap.size + 1 := fun w o => by simp
  have old : ∀ (w : World) (o p : Obj) (n : Nat), n < w.heap.size → w.heap[n]? = some p → (w.alloc o).heap[n]? = some p := fun w o p n hn h => ((al w o).block n hn).trans h
  have new : ∀ (w : World) (o : Obj) (n : Nat), w.heap.size = n → (w.alloc o).heap[n]? = some o := fun w o n hn => by subst hn; exact heap_alloc_new _ _
  refine ⟨?_, ?_, ?_, ?_, ?_, ?_, ?_⟩
  · exact (((((((Below.refl _ w).alloc (Nat.le_refl _) o1).alloc (alloc_le (Nat.le_refl _) _) o2).alloc (alloc_le (alloc_le (Nat.le_refl _) _) _) o3).alloc (alloc_le (alloc_le (alloc_le (Nat.le_refl _) _) _) _) o4).alloc (alloc_le (alloc_le (alloc_le (alloc_le (Nat.le_refl _) _) _) _) _) o5).alloc (alloc_le (alloc_le (alloc_le (alloc_le (alloc_le (Nat.le_refl _) _) _) _) _) _) o6)
  · exact old _ _ _ _ (by simp <;> omega) (old _ _ _ _ (by simp <;> omega) (old _ _ _ _ (by simp <;> omega) (old _ _ _ _ (by simp <;> omega) (old _ _ _ _ (by simp) (new _ _ _ rfl)))))
  · exact old _ _ _ _ (by simp <;> omega) (old _ _ _ _ (by simp <;> omega) (old _ _ _ _ (by simp <;> omega) (old _ _ _ _ (by simp) (new _ _ _ (by simp)))))
  · exact old _ _ _ _ (by simp <;> omega) (old _ _ _ _ (by simp <;> omega) (old _ _ _ _ (by simp) (new _ _ _ (by simp))))
  · exact old _ _ _ _ (by simp <;> omega) (old _ _ _ _ (by simp) (new _ _ _ (by simp)))
  · exact old _ _ _ _ (by simp) (new _ _ _ (by simp))
  · exact new _ _ _ (by simp)
end Go.Proofs.YtnkhebgjhipepaaGreatDoor

namespace Go.Proofs.YtnkhebgjhipepaaGreatDoor
open Go.ChangeShapes Go.WideShapes Go.ChangeAt Go.RowKit

section
variable {H : Type} {enc : TypeId × Value → H} {W : World} {base : Nat} {v : Value} {d : DataW H} {p : List MemPlace}
set_option maxRecDepth 100000 in
theorem open_tyA (hval : Value.okWide Tryz.prog W .any base 25 v) (h : DataW.Trod enc Tryz.prog W 0 (fun _ => true) true 25 v d p) : ∃ x : TyI W, v = x.v ∧ x.t.Can ∧ x.t.size ≤ Rows.uptoBulk d := by
  obtain ⟨cs, D, rfl, hr, hc, hb⟩ := open_argD Tryz.underlying25 (by kernel_rfl) hval h
  rw [flTy] at hc
  obtain ⟨t, nx, rfl, hcan, hn⟩ := conf_ty hc
  obtain rfl := conf_nil rfl hn
  obtain ⟨x, r, hx, hv, hr0⟩ := tyI_reads hr
  have hr1 : r = [] := hr0
  subst hr1 hx
  refine ⟨x, ?_, hcan, ?_⟩
  · show Value.agg cs = .agg x.cells
    rw [← Array.toArray_toList (xs := cs), hv]; rfl
  · have := x.t.on_bk .nil
    omega
set_option maxRecDepth 100000 in
theorem open_xpA (hval : Value.okWide Tryz.prog W .any base 29 v) (h : DataW.Trod enc Tryz.prog W 0 (fun _ => true) true 29 v d p) : ∃ x : XpI W, v = x.v ∧ x.e.Can ∧ x.e.bk ≤ Rows.uptoBulk d := by
  obtain ⟨cs, D, rfl, hr, hc, hb⟩ := open_argD Tryz.underlying29 (by kernel_rfl) hval h
  rw [flEx] at hc
  obtain ⟨t, nx, rfl, hcan, hn⟩ := conf_xp hc
  obtain rfl := conf_nil rfl hn
  obtain ⟨x, r, hx, hv, hr0⟩ := xpI_reads hr
  have hr1 : r = [] := hr0
  subst hr1 hx
  refine ⟨x, ?_, hcan, hb⟩
  show Value.agg cs = .agg x.cells
  rw [← Array.toArray_toList (xs := cs), hv]; rfl
set_option maxRecDepth 100000 in
theorem open_mdA (hval : Value.okWide Tryz.prog W .any base 33 v) (h : DataW.Trod enc Tryz.prog W 0 (fun _ => true) true 33 v d p) : ∃ x : MdI W, v = x.v ∧ x.m.Can ∧ x.m.bk ≤ Rows.uptoBulk d := by
  obtain ⟨cs, D, rfl, hr, hc, hb⟩ := open_argD Tryz.underlying33 (by kernel_rfl) hval h
  rw [flMd] at hc
  obtain ⟨t, nx, rfl, hcan, hn⟩ := conf_md hc
  obtain rfl := conf_nil rfl hn
  obtain ⟨x, hx, hv⟩ := mdI_reads hr
  subst hx
  refine ⟨x, ?_, hcan, hb⟩
  show Value.agg cs = .agg x.cells
  rw [← Array.toArray_toList (xs := cs), hv, Array.toArray_toList]
end
end Go.Proofs.YtnkhebgjhipepaaGreatDoor
