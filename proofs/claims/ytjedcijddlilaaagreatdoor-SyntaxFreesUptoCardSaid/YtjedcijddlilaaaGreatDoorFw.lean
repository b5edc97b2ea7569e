/- syntax: the variables and references of a type with a type in place of a variable. | syntax: what SyntaxFrees does. -/
import Derived.Test.YtjedcijddlilaaaGreatDoorVo
import Derived.Test.YtjedcijddlilaaaGreatDoorRp
namespace Go.Proofs.YtjedcijddlilaaaGreatDoor
open Go.RowKit Go.Maps Go.Sort Go.Shelf Go.Lib

/-- What thinning out makes of a list that doesn't fall. -/
theorem compact_sorted {α : Type} [DecidableEq α] [Inhabited α] (r : α → α → Prop) (_hirr : ∀ a, ¬ r a a) (htr : ∀ a b c, r a b → r b c → r a c) (zs : List α) (hs : zs.Pairwise (fun a b => a = b ∨ r a b)) :
    (Lib.compact zs).Pairwise r ∧ ∀ z, z ∈ Lib.compact zs ↔ z ∈ zs := by
  have hd : ∀ i j, i < j → j < zs.length → zs.toArray[i]! = zs.toArray[j]! ∨ r zs.toArray[i]! zs.toArray[j]! := fun i j h1 h2 => by
    have h := List.pairwise_iff_getElem.1 hs i j (by omega) h2 h1
    rw [getElem!_pos zs.toArray i (by simpa using (by omega : i < zs.length)), getElem!_pos zs.toArray j (by simpa using h2)]
    simpa using h
  have key : ∀ m, m ≤ zs.length → (compactUpTo zs.toArray m).Pairwise r ∧ ∀ z, z ∈ compactUpTo zs.toArray m ↔ ∃ j, j < m ∧ zs.toArray[j]! = z := by
    intro m
    induction m with
    | zero => intro _; exact ⟨by simp [compactUpTo], fun z => by simp [compactUpTo]⟩
    | succ m ih =>
      intro hm
      obtain ⟨h1, h2⟩ := ih (by omega)
      rw [compactUpTo_succ]
      by_cases hk : keeps zs.toArray m = true
      · rw [if_pos hk]
        constructor
        · rw [List.pairwise_append]
          refine ⟨h1, List.pairwise_singleton _ _, fun a ha b hb => ?_⟩
          rw [List.mem_singleton] at hb
          subst hb
          obtain ⟨j, hj, rfl⟩ := (h2 a).1 ha
          unfold keeps at hk
          rw [decide_eq_true_eq] at hk
          have hne : zs.toArray[m]! ≠ zs.toArray[m - 1]! := hk.resolve_left (by omega)
          rcases hd (m - 1) m (by omega) (by omega) with h3 | h3
          · exact absurd h3.symm hne
          · by_cases hj2 : j = m - 1
            · subst hj2; exact h3
            · rcases hd j (m - 1) (by omega) (by omega) with h4 | h4
              · rw [h4]; exact h3
              · exact htr _ _ _ h4 h3
        · intro z
          rw [List.mem_append, h2 z, List.mem_singleton]
          constructor
          · rintro (⟨j, hj, hz⟩ | rfl)
            · exact ⟨j, by omega, hz⟩
            · exact ⟨m, by omega, rfl⟩
          · rintro ⟨j, hj, rfl⟩
            by_cases e : j = m
            · subst e; exact .inr rfl
            · exact .inl ⟨j, by omega, rfl⟩
      · rw [if_neg hk, List.append_nil]
        refine ⟨h1, fun z => ?_⟩
        rw [h2 z]
        constructor
        · rintro ⟨j, hj, hz⟩; exact ⟨j, by omega, hz⟩
        · rintro ⟨j, hj, rfl⟩
          by_cases e : j = m
          · subst e
            unfold keeps at hk
            rw [decide_eq_true_eq, not_or, Decidable.not_not] at hk
            exact ⟨j - 1, by omega, hk.2.symm⟩
          · exact ⟨j, by omega, rfl⟩
  have h := key zs.length (Nat.le_refl _)
  refine ⟨h.1, fun z => (h.2 z).trans ?_⟩
  constructor
  · rintro ⟨j, hj, rfl⟩
    rw [getElem!_pos zs.toArray j (by simpa using hj)]
    simp
  · intro hz
    obtain ⟨j, hj, rfl⟩ := List.getElem_of_mem hz
    exact ⟨j, hj, by rw [getElem!_pos zs.toArray j (by simpa using hj)]; simp⟩

/-- A variable has no parts. -/
def Bare (l : List Ty) : Prop := ∀ p ∈ l, p.k = 9 → p.A = .nil ∧ p.F = .nil
theorem bare_of {t : Ty} (h : chkT t = 0) : Bare t.nodes := fun p hp hk => by
  have hn : chkN p = 0 := by
    unfold chkT at h
    by_cases hb : 4096 < t.size ∨ 32 < t.depth
    · rw [if_pos hb] at h; cases h
    · rw [if_neg hb] at h
      have key : ∀ l : List Int, fst0 l = 0 → ∀ e ∈ l, e = 0 := by
        intro l
        induction l with
        | nil => intro _ e he; cases he
        | cons a l ih =>
          intro h e he
          rw [fst0] at h
          by_cases ha : a = 0
          · rw [if_pos ha] at h
            rcases List.mem_cons.1 he with rfl | he
            · exact ha
            · exact ih h e he
          · rw [if_neg ha] at h; exact absurd h ha
      exact key _ h _ (List.mem_map.2 ⟨p, hp, rfl⟩)
  rw [rN_is] at hn
  have nil_of : ∀ T : Tr, T.len = 0 → T = .nil := fun T h => by cases T with
    | nil => rfl
    | node => simp [Tr.len] at h
  unfold rN at hn
  rw [hk] at hn
  by_cases h1 : p.A.len = 0 ∧ p.F.len = 0
  · exact ⟨nil_of _ h1.1, nil_of _ h1.2⟩
  · exfalso
    rw [if_neg (by omega), if_pos] at hn
    · cases hn
    · by_cases ha : p.A.len = 0
      · exact .inr (.inl ⟨by decide, by decide, by decide, by omega⟩)
      · exact .inl ⟨by decide, .inl (by simpa using ha)⟩
/-- What some node is (by its kind, module, name), in a type with another one in place of a variable. -/
def Some_ (Q : Int → ByteArray → ByteArray → Prop) (l : List Ty) : Prop := ∃ p ∈ l, Q p.k p.m p.n
theorem some_nil (Q) : ¬ Some_ Q [] := fun ⟨_, h, _⟩ => by cases h
theorem some_cons (Q) (p : Ty) (l : List Ty) : Some_ Q (p :: l) ↔ Q p.k p.m p.n ∨ Some_ Q l := by unfold Some_; simp
theorem some_app (Q) (a b : List Ty) : Some_ Q (a ++ b) ↔ Some_ Q a ∨ Some_ Q b := by unfold Some_; simp only [List.mem_append, or_and_right, exists_or]
section
variable {f : ByteArray → Option Ty} {x : ByteArray} {u : Ty} (hf : ∀ s, f s = if s = x then some u else none) (Q : Int → ByteArray → ByteArray → Prop)
include hf
def IsX (x : ByteArray) : Int → ByteArray → ByteArray → Prop := fun k _ n => k = 9 ∧ n = x
theorem tr_some (T : Tr) (hb : Bare T.nodes) : Some_ Q (T.sub f).nodes ↔ Some_ (fun k m n => Q k m n ∧ ¬ IsX x k m n) T.nodes ∨ (Some_ (IsX x) T.nodes ∧ Some_ Q u.nodes) := by
  induction T with
  | nil => simp only [Tr.sub, Tr.nodes, some_nil, false_and, or_self]
  | node fn op k m n A F nx ha hF hn =>
    have bA : Bare A.nodes := fun p hp => hb p (by simp [Tr.nodes, hp])
    have bF : Bare F.nodes := fun p hp => hb p (by simp [Tr.nodes, hp])
    have bN : Bare nx.nodes := fun p hp => hb p (by simp [Tr.nodes, hp])
    have h0 := hb ⟨k, m, n, A, F⟩ (by simp [Tr.nodes])
    have hA := ha bA
    have hFF := hF bF
    have hN := hn bN
    by_cases hk : k = 9 ∧ n = x
    · obtain ⟨rfl, rfl⟩ := hk
      obtain ⟨eA, eF⟩ := h0 rfl
      simp only at eA eF
      subst eA eF
      have e : (Tr.node fn op 9 m n .nil .nil nx).sub f = .node fn op u.k u.m u.n u.A u.F (nx.sub f) := by simp only [Tr.sub, if_true, hf]
      rw [e]
      have eu : Some_ Q u.nodes ↔ Q u.k u.m u.n ∨ Some_ Q u.A.nodes ∨ Some_ Q u.F.nodes := by unfold Ty.nodes; rw [some_cons, some_app]
      simp only [Tr.nodes, some_cons, some_app, hN, List.nil_append, eu, IsX]
      simp only [and_self, true_or, true_and]
      constructor
      · rintro (h | (h | h) | h | ⟨_, h⟩)
        · exact .inr (.inl h)
        · exact .inr (.inr (.inl h))
        · exact .inr (.inr (.inr h))
        · exact .inl (.inr h)
        · exact .inr h
      · rintro ((⟨_, hh⟩ | h) | h | h | h)
        · exact absurd trivial hh
        · exact .inr (.inr (.inl h))
        · exact .inl h
        · exact .inr (.inl (.inl h))
        · exact .inr (.inl (.inr h))
    · have e : (Tr.node fn op k m n A F nx).sub f = .node fn op k m n (A.sub f) (F.sub f) (nx.sub f) := by
        by_cases h9 : k = 9
        · have hx : n ≠ x := fun h => hk ⟨h9, h⟩
          simp only [Tr.sub, if_pos h9, hf, if_neg hx]
        · simp only [Tr.sub, if_neg h9]
      rw [e]
      simp only [Tr.nodes, some_cons, some_app, hA, hFF, hN, IsX, hk]
      simp only [not_false_eq_true, and_true, false_or]
      constructor
      · rintro (h | ((h | ⟨h, h'⟩) | (h | ⟨h, h'⟩)) | (h | ⟨h, h'⟩))
        · exact .inl (.inl h)
        · exact .inl (.inr (.inl (.inl h)))
        · exact .inr ⟨.inl (.inl h), h'⟩
        · exact .inl (.inr (.inl (.inr h)))
        · exact .inr ⟨.inl (.inr h), h'⟩
        · exact .inl (.inr (.inr h))
        · exact .inr ⟨.inr h, h'⟩
      · rintro ((h | (h | h) | h) | ⟨((h | h) | h), h'⟩)
        · exact .inl h
        · exact .inr (.inl (.inl (.inl h)))
        · exact .inr (.inl (.inr (.inl h)))
        · exact .inr (.inr (.inl h))
        · exact .inr (.inl (.inl (.inr ⟨h, h'⟩)))
        · exact .inr (.inl (.inr (.inr ⟨h, h'⟩)))
        · exact .inr (.inr (.inr ⟨h, h'⟩))
theorem ty_some (t : Ty) (hb : Bare t.nodes) : Some_ Q (t.sub f).nodes ↔ Some_ (fun k m n => Q k m n ∧ ¬ IsX x k m n) t.nodes ∨ (Some_ (IsX x) t.nodes ∧ Some_ Q u.nodes) := by
  have h := tr_some hf Q (Tr.node ⟨#[]⟩ false t.k t.m t.n t.A t.F .nil) (fun p hp => hb p (by simpa [Tr.nodes, Ty.nodes] using hp))
  have e1 : (Tr.node ⟨#[]⟩ false t.k t.m t.n t.A t.F .nil).nodes = t.nodes := by simp [Tr.nodes, Ty.nodes]
  have e2 : ((Tr.node ⟨#[]⟩ false t.k t.m t.n t.A t.F .nil).sub f).nodes = (t.sub f).nodes := by
    unfold Ty.sub
    simp only [Tr.sub]
    split <;> simp_all [Tr.nodes, Ty.nodes]
  rw [e1, e2] at h
  exact h
end
theorem mem_freeL (t : Ty) (z : List UInt8) : z ∈ freeL t ↔ Some_ (fun k _ n => k = 9 ∧ n.data.toList = z) t.nodes := by
  unfold freeL
  rw [List.mem_mergeSort, mem_dedup]
  unfold varsL Some_
  simp only [List.mem_map, List.mem_filter, decide_eq_true_eq]
  constructor
  · rintro ⟨p, ⟨h1, h2⟩, h3⟩; exact ⟨p, h1, h2, h3⟩
  · rintro ⟨p, h1, h2, h3⟩; exact ⟨p, ⟨h1, h2⟩, h3⟩
theorem sort_freeL (t : Ty) : (freeL t).Pairwise (fun a b => a < b) := by
  have h1 : (freeL t).Pairwise (fun a b => leB a b = true) := List.pairwise_mergeSort (fun a b c h1 h2 => by simp only [leB, decide_eq_true_eq] at *; exact List.le_trans h1 h2) (fun a b => by simp only [leB, Bool.or_eq_true, decide_eq_true_eq]; exact List.le_total a b) _
  have h2 : (freeL t).Nodup := (List.mergeSort_perm _ _).nodup_iff.2 (nodup_dedup _)
  refine (h1.and h2).imp fun {a b} h => ?_
  simp only [leB, decide_eq_true_eq] at h
  rcases List.le_iff_lt_or_eq.1 h.1 with h3 | h3
  · exact h3
  · exact absurd h3 h.2
theorem uniqL {L M : List (List UInt8)} (h1 : L.Pairwise (fun a b => a < b)) (h2 : M.Pairwise (fun a b => a < b)) (h : ∀ z, z ∈ L ↔ z ∈ M) : L = M := by
  have n1 : L.Nodup := h1.imp fun {a b} hab e => by subst e; exact List.lt_irrefl _ hab
  have n2 : M.Nodup := h2.imp fun {a b} hab e => by subst e; exact List.lt_irrefl _ hab
  exact List.Perm.eq_of_pairwise (le := fun (a b : List UInt8) => a < b) (fun a b _ _ x y => (List.lt_irrefl _ (List.lt_trans x y)).elim) h1 h2 ((List.perm_ext_iff_of_nodup n1 n2).2 h)
theorem data_inj {a b : ByteArray} (h : a.data.toList = b.data.toList) : a = b := by
  cases a; cases b
  simp only [ByteArray.mk.injEq]
  exact Array.toList_inj.1 h
def wantL (_t u : Ty) (x : ByteArray) (l : List (List UInt8)) : List (List UInt8) := l.flatMap (fun s => if s = x.data.toList then freeL u else [s])
theorem free_sub {f : ByteArray → Option Ty} {x : ByteArray} {t u : Ty} (hf : ∀ s, f s = if s = x then some u else none) (hb : Bare t.nodes) :
    Lib.compact ((wantL t u x (freeL t)).mergeSort fun a b => decide (a ≤ b)) = freeL (t.sub f) := by
  have hs : ((wantL t u x (freeL t)).mergeSort fun a b => decide (a ≤ b)).Pairwise (fun a b => a = b ∨ a < b) := by
    refine (List.pairwise_mergeSort (le := fun a b : List UInt8 => decide (a ≤ b)) (fun a b c h1 h2 => by simp only [decide_eq_true_eq] at *; exact List.le_trans h1 h2) (fun a b => by simp only [Bool.or_eq_true, decide_eq_true_eq]; exact List.le_total a b) _).imp fun {a b} h => ?_
    rw [decide_eq_true_eq] at h
    rcases List.le_iff_lt_or_eq.1 h with h3 | h3
    · exact .inr h3
    · exact .inl h3
  have hc := compact_sorted (fun a b : List UInt8 => a < b) (fun a => List.lt_irrefl a) (fun a b c => List.lt_trans) _ hs
  refine uniqL hc.1 (sort_freeL _) fun z => ?_
  rw [hc.2 z, List.mem_mergeSort, mem_freeL, ty_some hf _ t hb]
  unfold wantL
  rw [List.mem_flatMap]
  constructor
  · rintro ⟨s, hs, hz⟩
    rw [mem_freeL] at hs
    by_cases e : s = x.data.toList
    · rw [if_pos e, mem_freeL] at hz
      refine .inr ⟨?_, hz⟩
      obtain ⟨p, h1, h2, h3⟩ := hs
      exact ⟨p, h1, h2, data_inj (h3.trans e)⟩
    · rw [if_neg e, List.mem_singleton] at hz
      subst hz
      obtain ⟨p, h1, h2, h3⟩ := hs
      exact .inl ⟨p, h1, ⟨h2, h3⟩, fun h => e (by rw [← h3, h.2])⟩
  · rintro (⟨p, h1, ⟨h2, h3⟩, h4⟩ | ⟨⟨p, h1, h2, h3⟩, h5⟩)
    · refine ⟨z, (mem_freeL t z).2 ⟨p, h1, h2, h3⟩, ?_⟩
      have e : z ≠ x.data.toList := fun e => h4 ⟨h2, data_inj (h3.trans e)⟩
      rw [if_neg e]; exact List.mem_singleton.2 rfl
    · refine ⟨x.data.toList, (mem_freeL t _).2 ⟨p, h1, h2, by rw [h3]⟩, ?_⟩
      rw [if_pos rfl]; exact (mem_freeL u z).2 h5
def usesX (x : ByteArray) (Mu : List Us) (l : List (List UInt8)) : List Us := l.flatMap (fun s => if s = x.data.toList then Mu else [])
theorem sortedU_le (us : List Us) : (sortedU us).Pairwise (fun a b => a = b ∨ a.lt b = true) := by
  have hp : (sortedU us).Pairwise (fun x y => (!(ltOf cmpU) y x) = true) := by
    refine List.pairwise_mergeSort (fun a b c h1 h2 => ?_) (fun a b => ?_) _
    · rw [cmpU_lt] at *
      simp only [Bool.not_eq_eq_eq_not, Bool.not_true] at *
      cases h3 : c.lt a with
      | false => rfl
      | true =>
        cases h4 : b.lt c with
        | true => rw [Us.trans h4 h3] at h1; cases h1
        | false =>
          rw [Us.nt h2 h4, h1] at h3
          cases h3
    · rw [cmpU_lt, cmpU_lt]
      cases h1 : b.lt a with
      | false => rfl
      | true =>
        cases h2 : a.lt b with
        | false => rfl
        | true => exact (Us.asym h1 h2).elim
  refine hp.imp fun {a b} h => ?_
  rw [cmpU_lt] at h
  have h1 : b.lt a = false := by simpa using h
  cases h2 : a.lt b with
  | true => exact .inr rfl
  | false => exact .inl (Us.nt h2 h1)
theorem ments_sub {f : ByteArray → Option Ty} {x : ByteArray} {t u : Ty} (hf : ∀ s, f s = if s = x then some u else none) (hb : Bare t.nodes) {M Mu Ms : List Us} (hM : Ments t M) (hMu : Ments u Mu) (hMs : Ments (t.sub f) Ms) :
    Lib.compact (sortedU (M ++ usesX x Mu (freeL t))) = Ms := by
  have hs := sortedU_le (M ++ usesX x Mu (freeL t))
  have hc := compact_sorted (fun a b : Us => a.lt b = true) (fun a => Us.irr a) (fun a b c => Us.trans) _ hs
  refine SortU.uniq hc.1 hMs.sort fun z => ?_
  rw [hc.2 z, (sortedU_perm _).mem_iff, List.mem_append, hMs.mem z, hM.mem z]
  have e : ∀ l : List Ty, UseIn l z ↔ Some_ (fun k m n => k = 10 ∧ Us.mk m n = z) l := fun l => Iff.rfl
  rw [e, e, ty_some hf _ t hb]
  have e10 : Some_ (fun k m n => (k = 10 ∧ Us.mk m n = z) ∧ ¬ IsX x k m n) t.nodes ↔ Some_ (fun k m n => k = 10 ∧ Us.mk m n = z) t.nodes := by
    unfold Some_
    constructor
    · rintro ⟨p, h1, h2, _⟩; exact ⟨p, h1, h2⟩
    · rintro ⟨p, h1, h2⟩; exact ⟨p, h1, h2, fun h => by have := h.1; have := h2.1; omega⟩
  rw [e10]
  unfold usesX
  rw [List.mem_flatMap]
  refine or_congr Iff.rfl ⟨?_, ?_⟩
  · rintro ⟨s, hs, hz⟩
    by_cases e2 : s = x.data.toList
    · rw [if_pos e2, hMu.mem z] at hz
      rw [mem_freeL] at hs
      obtain ⟨p, h1, h2, h3⟩ := hs
      exact ⟨⟨p, h1, h2, data_inj (h3.trans e2)⟩, hz⟩
    · rw [if_neg e2] at hz; cases hz
  · rintro ⟨⟨p, h1, h2, h3⟩, hz⟩
    refine ⟨x.data.toList, (mem_freeL t _).2 ⟨p, h1, h2, by rw [h3]⟩, ?_⟩
    rw [if_pos rfl]; exact (hMu.mem z).2 hz
end Go.Proofs.YtjedcijddlilaaaGreatDoor

namespace Go.Proofs.YtjedcijddlilaaaGreatDoor
open Go.RowKit Go.Maps Go.Sort Go.Shelf Go.Lib
attribute [local go_sem] Oper.semAt_some

abbrev TyI.row {W : World} (x : TyI W) : Obj := .cells #[.int .i64 x.t.k, .string x.t.m, .string x.t.n, .slice x.aa x.t.A.len x.ca, .slice x.af x.t.F.len x.cf] 25
/-- The two boxes of the law. -/
structure By2 (W : World) (x y : TyI W) (w : World) : Prop where
  below : Below W.heap.size W w
  row1 : w.heap[W.heap.size]? = some (.cells #[.int .i64 x.t.k, .string x.t.m, .string x.t.n, .slice x.aa x.t.A.len x.ca, .slice x.af x.t.F.len x.cf] 25 (0, 0))
  row2 : w.heap[W.heap.size + 1]? = some (.cells #[.int .i64 y.t.k, .string y.t.m, .string y.t.n, .slice y.aa y.t.A.len y.ca, .slice y.af y.t.F.len y.cf] 25 (0, 0))
theorem By2.later {W : World} {x y : TyI W} {w w' : World} (h : By2 W x y w) (hb : Below w.heap.size w w') : By2 W x y w' :=
  ⟨h.below.trans (hb.mono h.below.size), (hb.block _ (Array.getElem?_eq_some_iff.1 h.row1).1).trans h.row1, (hb.block _ (Array.getElem?_eq_some_iff.1 h.row2).1).trans h.row2⟩
theorem By2.grown {W : World} {x y : TyI W} {w w' : World} {r : Option Nat} (h : By2 W x y w) (hg : w.grownBy w' r) (hr : ∀ k, r = some k → W.heap.size + 2 ≤ k) : By2 W x y w' := by
  have h1 := (Array.getElem?_eq_some_iff.1 h.row1).1
  have h2 := (Array.getElem?_eq_some_iff.1 h.row2).1
  have hb : Below (W.heap.size + 2) w w' := (Below.refl _ w).grown hg (by omega) hr
  exact ⟨h.below.trans (hb.mono (by omega)), (hb.block _ (by omega)).trans h.row1, (hb.block _ (by omega)).trans h.row2⟩
theorem By2.cells1 {W : World} {x y : TyI W} {w : World} (h : By2 W x y w) : w.cell? ⟨W.heap.size, 0, none⟩ = some (.int .i64 x.t.k) ∧ w.cell? ⟨W.heap.size, 1, none⟩ = some (.string x.t.m) ∧ w.cell? ⟨W.heap.size, 2, none⟩ = some (.string x.t.n) ∧ w.cell? ⟨W.heap.size, 3, none⟩ = some (.slice x.aa x.t.A.len x.ca) ∧ w.cell? ⟨W.heap.size, 4, none⟩ = some (.slice x.af x.t.F.len x.cf) :=
  ⟨cell_of_row w _ 0 _ _ _ h.row1, cell_of_row w _ 1 _ _ _ h.row1, cell_of_row w _ 2 _ _ _ h.row1, cell_of_row w _ 3 _ _ _ h.row1, cell_of_row w _ 4 _ _ _ h.row1⟩
theorem By2.cells2 {W : World} {x y : TyI W} {w : World} (h : By2 W x y w) : w.cell? ⟨W.heap.size + 1, 0, none⟩ = some (.int .i64 y.t.k) ∧ w.cell? ⟨W.heap.size + 1, 1, none⟩ = some (.string y.t.m) ∧ w.cell? ⟨W.heap.size + 1, 2, none⟩ = some (.string y.t.n) ∧ w.cell? ⟨W.heap.size + 1, 3, none⟩ = some (.slice y.aa y.t.A.len y.ca) ∧ w.cell? ⟨W.heap.size + 1, 4, none⟩ = some (.slice y.af y.t.F.len y.cf) :=
  ⟨cell_of_row w _ 0 _ _ _ h.row2, cell_of_row w _ 1 _ _ _ h.row2, cell_of_row w _ 2 _ _ _ h.row2, cell_of_row w _ 3 _ _ _ h.row2, cell_of_row w _ 4 _ _ _ h.row2⟩
theorem row_type {w : World} {base : Nat} {e : TypeId} {size n : Nat} {v : Value} {xs : List Value} (h : w.ownsRow base e size v n xs) : ∀ k, v.ownBlock = some k → ∃ cur fr, w.heap[k]? = some (.cells cur e fr) := by
  intro k hk
  rcases h.2 with ⟨rfl, _⟩ | ⟨g, cap, cur, rfl, _, hb, _⟩
  · cases hk
  · have : g = k := by simpa [Value.ownBlock] using hk
    subst this
    exact ⟨cur, _, hb⟩
theorem rows_apart {w : World} {b1 b2 s1 s2 n1 n2 : Nat} {e1 e2 : TypeId} {v1 v2 : Value} {xs ys : List Value} (h1 : w.ownsRow b1 e1 s1 v1 n1 xs) (h2 : w.ownsRow b2 e2 s2 v2 n2 ys) (hne : e1 ≠ e2) : v1.ownBlock = none ∨ v1.ownBlock ≠ v2.ownBlock := by
  cases h : v1.ownBlock with
  | none => exact .inl rfl
  | some k =>
    refine .inr fun h' => ?_
    obtain ⟨c1, f1, e1'⟩ := row_type h1 k h
    obtain ⟨c2, f2, e2'⟩ := row_type h2 k h'.symm
    rw [e1'] at e2'
    injection e2' with e3
    injection e3 with _ e4
    exact hne e4
def MU (u : Ty) : List Us := Lib.compact (sortedU (usesL u.nodes))
theorem compact_len {α : Type} [DecidableEq α] [Inhabited α] (zs : List α) : (Lib.compact zs).length ≤ zs.length := by
  unfold Lib.compact compactUpTo
  rw [List.length_map]
  exact Nat.le_trans (List.length_filter_le _ _) (by simp)
theorem MU_ments (u : Ty) : Ments u (MU u) := by
  have hp : (sortedU (usesL u.nodes)).Pairwise (fun a b => a = b ∨ a.lt b = true) := sortedU_le _
  have hc := compact_sorted (fun a b : Us => a.lt b = true) (fun a => Us.irr a) (fun a b c => Us.trans) _ hp
  refine ⟨hc.1, fun z => ?_, ?_⟩
  · unfold MU
    rw [hc.2 z, (sortedU_perm _).mem_iff, mem_usesL]
  · refine Nat.le_trans (compact_len _) ?_
    rw [(sortedU_perm _).length_eq, ← Ty.nodes_len]
    unfold usesL
    rw [List.length_map]
    exact List.length_filter_le _ _
theorem want_succ {t u : Ty} {x : ByteArray} {l : List (List UInt8)} {i : Nat} {z : List UInt8} (h : l[i]? = some z) : wantL t u x (l.take (i + 1)) = wantL t u x (l.take i) ++ (if z = x.data.toList then freeL u else [z]) := by
  unfold wantL
  rw [take_snoc h, List.flatMap_append, List.flatMap_cons, List.flatMap_nil, List.append_nil]
theorem uses_succ {M : List Us} {x : ByteArray} {l : List (List UInt8)} {i : Nat} {z : List UInt8} (h : l[i]? = some z) : usesX x M (l.take (i + 1)) = usesX x M (l.take i) ++ (if z = x.data.toList then M else []) := by
  unfold usesX
  rw [take_snoc h, List.flatMap_append, List.flatMap_cons, List.flatMap_nil, List.append_nil]
theorem want_len {t u : Ty} (hu : u.size ≤ 200) (x : ByteArray) (l : List (List UInt8)) : (wantL t u x l).length ≤ 200 * l.length := by
  induction l with
  | nil => exact Nat.le_refl _
  | cons a l ih =>
    have e : wantL t u x (a :: l) = (if a = x.data.toList then freeL u else [a]) ++ wantL t u x l := rfl
    rw [e, List.length_append, List.length_cons]
    have h := freeL_len u
    split
    · omega
    · simp only [List.length_cons, List.length_nil]; omega
theorem uses_len {u : Ty} (hu : u.size ≤ 200) (x : ByteArray) (l : List (List UInt8)) : (usesX x (MU u) l).length ≤ 200 * l.length := by
  induction l with
  | nil => exact Nat.le_refl _
  | cons a l ih =>
    have e : usesX x (MU u) (a :: l) = (if a = x.data.toList then MU u else []) ++ usesX x (MU u) l := rfl
    rw [e, List.length_append, List.length_cons]
    have h := (MU_ments u).len
    split
    · omega
    · simp only [List.length_nil]; omega
theorem news_of {w : World} {L : List ByteArray} {p : Option Addr} (h : RowS w L p) : ∀ j u, (L.map Value.string)[j]? = some u → ∃ ad, p = some ad ∧ w.cell? (ad.add j) = some u := by
  intro j u hu
  rw [List.getElem?_map] at hu
  obtain ⟨b, hb, rfl⟩ := Option.map_eq_some_iff.1 hu
  rcases h with h | ⟨g, o, rfl, hc⟩
  · rw [h] at hb; cases hb
  · exact ⟨_, rfl, by rw [Addr.add_lit]; exact hc j b hb⟩
theorem newsU_of {w : World} {M : List Us} {p : Option Addr} (h : UsR w M p) : ∀ j u, (M.flatMap Us.cl)[j]? = some u → ∃ ad, p = some ad ∧ w.cell? (ad.add j) = some u := by
  intro j u hu
  have hj : j < M.length * 2 := by
    have := (List.getElem?_eq_some_iff.1 hu).1
    rw [len_flatU] at this
    omega
  obtain ⟨y, hy⟩ : ∃ y, M[j / 2]? = some y := ⟨_, List.getElem?_eq_getElem (by omega)⟩
  obtain ⟨g, rfl, k0, k1⟩ := h (j / 2) y hy
  refine ⟨_, rfl, ?_⟩
  rw [Addr.add_lit, Nat.zero_add]
  rcases (by omega : j % 2 = 0 ∨ j % 2 = 1) with h9 | h9
  · have e := flat_at Us.cl 2 (fun _ => rfl) M (j / 2) 0 y _ hy rfl
    rw [show j / 2 * 2 + 0 = j by omega, hu] at e
    rw [show j = j / 2 * 2 by omega, k0, e]
  · have e := flat_at Us.cl 2 (fun _ => rfl) M (j / 2) 1 y _ hy rfl
    rw [show j / 2 * 2 + 1 = j by omega, hu] at e
    rw [show j = j / 2 * 2 + 1 by omega, k1, e]
theorem one_cellU (M : List Us) : ∀ u ∈ M.flatMap Us.cl, u.oneCell' = true := by
  intro u hu
  obtain ⟨y, _, hy⟩ := List.mem_flatMap.1 hu
  simp only [Us.cl, List.mem_cons, List.not_mem_nil, or_false] at hy
  rcases hy with rfl | rfl <;> rfl
theorem one_cellS (L : List ByteArray) : ∀ u ∈ L.map Value.string, u.oneCell' = true := by
  intro u hu
  obtain ⟨y, _, rfl⟩ := List.mem_map.1 hu
  rfl
theorem rows_far {w w0 : World} {b1 b2 s1 s2 n1 n2 : Nat} {e1 e2 : TypeId} {v1 v2 : Value} {xs ys : List Value} (h1 : w.ownsRow b1 e1 s1 v1 n1 xs) (h2 : w0.ownsRow b2 e2 s2 v2 n2 ys) (hb : w0.heap.size ≤ b1) : v1.ownBlock = none ∨ v1.ownBlock ≠ v2.ownBlock := by
  cases h : v1.ownBlock with
  | none => exact .inl rfl
  | some k =>
    refine .inr fun h' => ?_
    have k1 := (h1.lt k h).1
    have k2 := (h2.lt k h'.symm).2
    omega
theorem far_row {w w' w0 : World} {b2 s2 n2 : Nat} {e2 : TypeId} {v2 : Value} {ys : List Value} {B : Nat} {o : Obj} (h2 : w0.ownsRow b2 e2 s2 v2 n2 ys) (hg : w.grownBy w' v2.ownBlock) (hB : w0.heap.size ≤ B) (h : w.heap[B]? = some o) : w'.heap[B]? = some o := by
  refine (hg.block B (Array.getElem?_eq_some_iff.1 h).1 fun e => ?_).trans h
  have := (h2.lt B e.symm).2
  omega
theorem names_sub {f : ByteArray → Option Ty} {x : ByteArray} {t u : Ty} (hf : ∀ s, f s = if s = x then some u else none) (hb : Bare t.nodes) (ht : ∀ p ∈ t.nodes, p.m.size ≤ maxLen ∧ p.n.size ≤ maxLen) (hu : ∀ p ∈ u.nodes, p.m.size ≤ maxLen ∧ p.n.size ≤ maxLen) : ∀ p ∈ (t.sub f).nodes, p.m.size ≤ maxLen ∧ p.n.size ≤ maxLen := by
  intro p hp
  refine Classical.byContradiction fun hne => ?_
  have h := (ty_some hf (fun _ m n => ¬ (m.size ≤ maxLen ∧ n.size ≤ maxLen)) t hb).1 ⟨p, hp, hne⟩
  rcases h with ⟨q, hq, h1, _⟩ | ⟨_, q, hq, h1⟩
  · exact h1 (ht q hq)
  · exact h1 (hu q hq)
theorem Tr.fds_bkB (T : Tr) : ∀ q ∈ T.fds, q.1.size ≤ T.bk := by
  induction T with
  | nil => intro q h; cases h
  | node fn op k m n A F nx ha hf hn =>
    intro q h
    unfold Tr.fds at h
    unfold Tr.bk
    rcases List.mem_cons.1 h with rfl | h
    · show fn.size ≤ _; omega
    · have := hn q h; omega
theorem Tr.node_bkB (T : Tr) : ∀ p ∈ T.nodes, p.bk ≤ T.bk := by
  induction T with
  | nil => intro p h; cases h
  | node fn op k m n A F nx ha hf hn =>
    intro p h
    simp only [Tr.nodes, List.mem_cons, List.mem_append] at h
    unfold Tr.bk
    rcases h with rfl | ((h | h) | h)
    · unfold Ty.bk; dsimp only; omega
    · have := ha p h; omega
    · have := hf p h; omega
    · have := hn p h; omega
theorem sh_of_bk (t : Ty) (h : t.bk ≤ 1048576) : ∀ p ∈ t.nodes, p.Sh := by
  intro p hp
  have hb : p.bk ≤ t.bk := by
    unfold Ty.nodes at hp
    rcases List.mem_cons.1 hp with rfl | hp
    · exact Nat.le_refl _
    · have e : t.A.bk + t.F.bk ≤ t.bk := by unfold Ty.bk; omega
      rcases List.mem_append.1 hp with hp | hp
      · have := t.A.node_bkB p hp; omega
      · have := t.F.node_bkB p hp; omega
  have e : p.m.size + p.n.size + p.A.bk + p.F.bk ≤ p.bk := by unfold Ty.bk; omega
  refine ⟨by omega, by omega, fun s hs => ?_⟩
  unfold namesT at hs
  obtain ⟨q, hq, rfl⟩ := List.mem_map.1 hs
  have := p.F.fds_bkB q hq
  omega

set_option maxRecDepth 100000 in
set_option maxHeartbeats 32000000 in
theorem frees_law (W : World) (x y : TyI W) (s : ByteArray) (hE : Env W) (hbx : x.t.bk ≤ 1048576) (hby : y.t.bk ≤ 1048576) :
    Calls Tryz.prog 5 #[.agg #[.int .i64 x.t.k, .string x.t.m, .string x.t.n, .slice x.aa x.t.A.len x.ca, .slice x.af x.t.F.len x.cf], .agg #[.int .i64 y.t.k, .string y.t.m, .string y.t.n, .slice y.aa y.t.A.len y.ca, .slice y.af y.t.F.len y.cf], .string s] W fun e W' => e = .returned (.bool true) ∧ Below W.heap.size W W' := by
  obtain ⟨i0, hi, hz0, hz1, hz2⟩ := info_parts infoStr2
  obtain ⟨i1, ui, uz0, uz1, uz2⟩ := info_parts infoUs
  have hxs : x.t.size ≤ 1048576 := Nat.le_trans x.t.size_bk hbx
  have hys : y.t.size ≤ 1048576 := Nat.le_trans y.t.size_bk hby
  have HFX : Kpt (∀ w, Below W.heap.size W w → Calls Tryz.prog 22 #[.agg #[.int .i64 x.t.k, .string x.t.m, .string x.t.n, .slice x.aa x.t.A.len x.ca, .slice x.af x.t.F.len x.cf]] w fun e w' => ∃ fv, e = .returned fv ∧ FreeS x.t fv w' ∧ Below w.heap.size w w') := hid fun w hw =>
    (free_any (TyV_below x.tyV hw) (by omega) (fun p hp => by have := x.t.name_bk p hp; unfold maxLen; omega)).mono fun e w' ⟨fv, h1, h2, h3⟩ => by
      rw [FL_cells, ← FL_len] at h2
      obtain ⟨p, c, h4, h5⟩ := rowS_of_own h2
      rw [FL_len] at h4
      exact ⟨fv, h1, ⟨p, c, h4, h5⟩, h3⟩
  have HFY : Kpt (∀ w, Below W.heap.size W w → Calls Tryz.prog 22 #[.agg #[.int .i64 y.t.k, .string y.t.m, .string y.t.n, .slice y.aa y.t.A.len y.ca, .slice y.af y.t.F.len y.cf]] w fun e w' => ∃ fv, e = .returned fv ∧ FreeS y.t fv w' ∧ Below w.heap.size w w') := hid fun w hw =>
    (free_any (TyV_below y.tyV hw) (by omega) (fun p hp => by have := y.t.name_bk p hp; unfold maxLen; omega)).mono fun e w' ⟨fv, h1, h2, h3⟩ => by
      rw [FL_cells, ← FL_len] at h2
      obtain ⟨p, c, h4, h5⟩ := rowS_of_own h2
      rw [FL_len] at h4
      exact ⟨fv, h1, ⟨p, c, h4, h5⟩, h3⟩
  have HMX : Kpt (∀ w, Below W.heap.size W w → Calls Tryz.prog 25 #[.agg #[.int .i64 x.t.k, .string x.t.m, .string x.t.n, .slice x.aa x.t.A.len x.ca, .slice x.af x.t.F.len x.cf]] w fun e w' => ∃ fv, e = .returned fv ∧ w'.ownsRow w.heap.size 57 2 fv (MU x.t).length ((MU x.t).flatMap Us.cl) ∧ Below w.heap.size w w') := hid fun w hw =>
    (mentions_any (TyV_below x.tyV hw) (by omega) (fun p hp => by have h1 := x.t.name_bk p hp; have h2 := x.t.mod_bk p hp; unfold maxLen; omega)).mono fun e w' ⟨fv, M, h1, h2, h3, h4⟩ => by
      rw [h1.uniq (MU_ments x.t)] at h3
      exact ⟨fv, h2, h3, h4⟩
  have HMY : Kpt (∀ w, Below W.heap.size W w → Calls Tryz.prog 25 #[.agg #[.int .i64 y.t.k, .string y.t.m, .string y.t.n, .slice y.aa y.t.A.len y.ca, .slice y.af y.t.F.len y.cf]] w fun e w' => ∃ fv p c, e = .returned fv ∧ fv = .slice p (MU y.t).length c ∧ UsR w' (MU y.t) p ∧ Below w.heap.size w w') := hid fun w hw =>
    (mentions_any (TyV_below y.tyV hw) (by omega) (fun p hp => by have h1 := y.t.name_bk p hp; have h2 := y.t.mod_bk p hp; unfold maxLen; omega)).mono fun e w' ⟨fv, M, h1, h2, h3, h4⟩ => by
      rw [h1.uniq (MU_ments y.t)] at h3
      obtain ⟨p, c, h5, h6⟩ := usR_of_own h3
      exact ⟨fv, p, c, h2, h5, h6, h4⟩
  have HNX : Kpt (∀ p ∈ x.t.nodes, p.m.size ≤ maxLen ∧ p.n.size ≤ maxLen) := hid (fun p hp => by have h1 := x.t.name_bk p hp; have h2 := x.t.mod_bk p hp; unfold maxLen; omega)
  have HNY : Kpt (∀ p ∈ y.t.nodes, p.m.size ≤ maxLen ∧ p.n.size ≤ maxLen) := hid (fun p hp => by have h1 := y.t.name_bk p hp; have h2 := y.t.mod_bk p hp; unfold maxLen; omega)
  have HCT : Kpt (∀ w, Below W.heap.size W w → Calls Tryz.prog 13 #[.agg #[.int .i64 x.t.k, .string x.t.m, .string x.t.n, .slice x.aa x.t.A.len x.ca, .slice x.af x.t.F.len x.cf]] w fun e w' => e = .returned (.int .i64 (chkT x.t)) ∧ Below w.heap.size w w') := hid fun w hw => rchecktype_any W x w hw (by omega) (sh_of_bk x.t hbx)
  obtain ⟨wa, hwa⟩ : ∃ wa, (W.alloc (.cells #[.int .i64 x.t.k, .string x.t.m, .string x.t.n, .slice x.aa x.t.A.len x.ca, .slice x.af x.t.F.len x.cf] 25)).alloc (.cells #[.int .i64 y.t.k, .string y.t.m, .string y.t.n, .slice y.aa y.t.A.len y.ca, .slice y.af y.t.F.len y.cf] 25) = wa := ⟨_, rfl⟩
  have hA0 : By2 W x y wa := ⟨by rw [← hwa]; exact ((Below.refl _ W).alloc (Nat.le_refl _) _).alloc (by simp) _,
    by rw [← hwa]; exact (Below.heap_alloc _ _ _ (by simp)).trans (World.alloc_heap_new _ _),
    by rw [← hwa]; have h := World.alloc_heap_new (W.alloc (.cells #[.int .i64 x.t.k, .string x.t.m, .string x.t.n, .slice x.aa x.t.A.len x.ca, .slice x.af x.t.F.len x.cf] 25)) (.cells #[.int .i64 y.t.k, .string y.t.m, .string y.t.n, .slice y.aa y.t.A.len y.ca, .slice y.af y.t.F.len y.cf] 25); rw [World.size_alloc] at h; exact h⟩
  have HA := hid hA0
  have HAW := hid (awakeS_any wa (hE.below hA0.below))
  clear hA0 hE
  go_enter Tryz.func5, Tryz.ntmps5
  go_wp2_with fail
  refine HAW.out.mono ?_
  rintro e w1 ⟨rfl, hb1⟩
  have h1 := HA.out.later hb1
  have HB1 := hid h1
  obtain ⟨c0, c1, c2, c3, c4⟩ := h1.cells1
  obtain ⟨e0, e1, e2, e3, e4⟩ := h1.cells2
  clear hb1 h1 hwa HA HAW
  obtain ⟨w2, hw2⟩ : ∃ w2, w1.alloc (.cells #[.int .i64 x.t.k, .string x.t.m, .string x.t.n, .slice x.aa x.t.A.len x.ca, .slice x.af x.t.F.len x.cf, .int .i64 y.t.k, .string y.t.m, .string y.t.n, .slice y.aa y.t.A.len y.ca, .slice y.af y.t.F.len y.cf] 25) = w2 := ⟨_, rfl⟩
  have hb2 : Below w1.heap.size w1 w2 := by rw [← hw2]; exact (Below.refl _ w1).alloc (Nat.le_refl _) _
  have hn2 : w2.heap[w1.heap.size]? = some (.cells #[.int .i64 x.t.k, .string x.t.m, .string x.t.n, .slice x.aa x.t.A.len x.ca, .slice x.af x.t.F.len x.cf, .int .i64 y.t.k, .string y.t.m, .string y.t.n, .slice y.aa y.t.A.len y.ca, .slice y.af y.t.F.len y.cf] 25 (0, 0)) := by rw [← hw2]; exact World.alloc_heap_new _ _
  have HB2 := hid (HB1.out.later hb2)
  have HFew := hid (fewT_any W [x, y] w1.heap.size 2 200 w2 HB2.out.below (fun i z j u hz hu => by
    have hj : j < 5 := (List.getElem?_eq_some_iff.1 hu).1
    have hi2 : i < 2 := (List.getElem?_eq_some_iff.1 hz).1
    rcases (by omega : i = 0 ∨ i = 1) with rfl | rfl
    · injection hz with hz; subst hz
      rcases (by omega : j = 0 ∨ j = 1 ∨ j = 2 ∨ j = 3 ∨ j = 4) with rfl | rfl | rfl | rfl | rfl <;> (injection hu with hu; subst hu) <;> exact cell_of_row w2 _ _ _ _ _ hn2
    · injection hz with hz; subst hz
      rcases (by omega : j = 0 ∨ j = 1 ∨ j = 2 ∨ j = 3 ∨ j = 4) with rfl | rfl | rfl | rfl | rfl <;> (injection hu with hu; subst hu) <;> exact cell_of_row w2 _ _ _ _ _ hn2) (by simp only [List.map_cons, List.map_nil, List.sum_cons, List.sum_nil]; omega) (by simp))
  have hsum : (([x, y].map (·.t)).map Ty.size).sum = x.t.size + y.t.size := by simp only [List.map_cons, List.map_nil, List.sum_cons, List.sum_nil]; omega
  rw [hsum] at HFew
  clear hsum hb2 hn2
  go_wp2_with fail
  refine HFew.out.mono ?_
  rintro e w4 ⟨rfl, hb4⟩
  have h4 := HB2.out.later hb4
  have HB4 := hid h4
  obtain ⟨c0, c1, c2, c3, c4⟩ := h4.cells1
  obtain ⟨e0, e1, e2, e3, e4⟩ := h4.cells2
  clear hb4 h4 hw2 HFew HB1 HB2
  by_cases hS : x.t.size + y.t.size ≤ 200
  · have hd : decide (((x.t.size + y.t.size : Nat) : Int) ≤ 200) = true := by rw [decide_eq_true_eq]; omega
    rw [hd]
    clear hd
    have HS := hid hS
    have HC := hid (HCT.out w4 HB4.out.below)
    clear hbx hby hxs hys hS
    have HX0 := hid (show chkT x.t = 0 → Bare x.t.nodes from bare_of)
    generalize chkT x.t = cc at HC HX0
    by_cases hcc : cc = 0
    · subst hcc
      have HBare := hid (HX0.out rfl)
      clear HX0
      go_wp2_with fail
      refine HC.out.mono ?_
      rintro e w5 ⟨rfl, hb5⟩
      have h5 := HB4.out.later hb5
      have HB5 := hid h5
      obtain ⟨c0, c1, c2, c3, c4⟩ := h5.cells1
      obtain ⟨e0, e1, e2, e3, e4⟩ := h5.cells2
      have HC5 := hid (HFX.out w5 h5.below)
      clear hb5 h5 HC HB4
      go_wp2_with fail
      refine HC5.out.mono ?_
      rintro e w6 ⟨fv, rfl, hfv, hb6⟩
      obtain ⟨pf, cf, rfl, hrf⟩ := hfv
      have h6 := HB5.out.later hb6
      have HB6 := hid h6
      obtain ⟨c0, c1, c2, c3, c4⟩ := h6.cells1
      obtain ⟨e0, e1, e2, e3, e4⟩ := h6.cells2
      have HC6 := hid (HMX.out w6 h6.below)
      have HRF := hid hrf
      clear hb6 h6 HC5 HB5 hrf
      go_wp2_with fail
      refine HC6.out.mono ?_
      rintro e w7 ⟨mv, rfl, hmv, hb7⟩
      have h7 := HB6.out.later hb7
      have HB7 := hid h7
      obtain ⟨c0, c1, c2, c3, c4⟩ := h7.cells1
      obtain ⟨e0, e1, e2, e3, e4⟩ := h7.cells2
      have HMV := hid (And.intro hmv hb7)
      clear hb7 h7 HC6 hmv
      obtain ⟨L, hL⟩ : ∃ L, (freeL x.t).length = L := ⟨_, rfl⟩
      have HL := hid hL
      have hLs : L ≤ 200 := by rw [← hL]; have := freeL_len x.t; have := HS.out; omega
      rw [hL]
      clear hL
      go_wp2_with fail
      go_loopw [8, 9, 31] (fun wv mv a wr => ∃ (i : Nat) (l1 : List (List UInt8)) (l2 : List Us), a = .int .i64 (i : Int) ∧ i ≤ L ∧ Kpt (l1 = wantL x.t y.t s ((freeL x.t).take i)) ∧ Kpt (l2 = MU x.t ++ usesX s (MU y.t) ((freeL x.t).take i)) ∧ Kpt (wr.ownsRow w7.heap.size 9 1 wv l1.length (l1.map encStr)) ∧ Kpt (wr.ownsRow w6.heap.size 57 2 mv l2.length (l2.flatMap Us.cl)) ∧ Kpt (Below w6.heap.size w6 wr) ∧ Kpt (w7.heap.size ≤ wr.heap.size)) (fun _ _ a _ => L - (intOf a).toNat)
      case atStart => exact ⟨0, [], MU x.t, rfl, Nat.zero_le _, hid rfl, hid (by simp [usesX]), hid ⟨rfl, .inl ⟨rfl, rfl⟩⟩, hid HMV.out.1, hid HMV.out.2, hid (Nat.le_refl _)⟩
      case round =>
        obtain ⟨i, l1, l2, rfl, hi9, H1, H2, HW, HM, HBl, HSz⟩ := hrel
        obtain ⟨p1, q1, rfl⟩ := own_slice HW.out
        obtain ⟨p2, q2, rfl⟩ := own_slice HM.out
        have h6 := HB6.out.later HBl.out
        have HBr := hid h6
        obtain ⟨c0, c1, c2, c3, c4⟩ := h6.cells1
        obtain ⟨e0, e1, e2, e3, e4⟩ := h6.cells2
        clear h6
        have hn1 : l1.length ≤ 40000 := by
          rw [H1.out]
          refine Nat.le_trans (want_len (by have := HS.out; omega) _ _) ?_
          rw [List.length_take]; omega
        have hn2 : l2.length ≤ 40200 := by
          rw [H2.out, List.length_append]
          have h1 := (MU_ments x.t).len
          have h2 := uses_len (u := y.t) (by have := HS.out; omega) s ((freeL x.t).take i)
          rw [List.length_take] at h2
          have := HS.out
          omega
        by_cases hlt : i < L
        · obtain ⟨z, hz⟩ : ∃ z, (freeL x.t)[i]? = some z := ⟨_, List.getElem?_eq_getElem (by rw [HL.out]; exact hlt)⟩
          obtain ⟨q, hqq⟩ : ∃ q : ByteArray, q = ⟨z.toArray⟩ := ⟨_, rfl⟩
          have hq : (FL x.t)[i]? = some q := by unfold FL; rw [List.getElem?_map, hz, hqq]; rfl
          have hzq : z = q.data.toList := by rw [hqq]
          obtain ⟨b, o, rfl, hc⟩ : ∃ b o, pf = some ⟨b, o, none⟩ ∧ ∀ (i : Nat) (s : ByteArray), (FL x.t)[i]? = some s → w6.cell? ⟨b, o + i, none⟩ = some (.string s) := by
            rcases HRF.out with h | h
            · rw [h] at hq; cases hq
            · exact h
          have d0 := old_cell HBl.out (hc i q hq)
          have HS1 := hid (want_succ (t := x.t) (u := y.t) (x := s) hz)
          have HS2 := hid (uses_succ (M := MU y.t) (x := s) hz)
          have HZQ := hid hzq
          clear hz hqq hq hzq hc
          by_cases hqs : q = s
          · have hee : (q.toList == s.toList) = true := by rw [hqs]; simp
            have HE1 := hid (show z = s.data.toList by rw [HZQ.out, hqs])
            have HCF := hid (HFY.out wr HBr.out.below)
            clear hqs
            go_wp2_with fail
            refine HCF.out.mono ?_
            rintro e wf ⟨fv, rfl, hfv, hbf⟩
            obtain ⟨pg, cg, rfl, hrg⟩ := hfv
            have HF := hid (And.intro hrg (And.intro hbf (own_belowS HW.out hbf)))
            have hBf : Below w6.heap.size w6 wf := HBl.out.trans (hbf.mono HBl.out.size)
            have hszf : w7.heap.size ≤ wf.heap.size := Nat.le_trans HSz.out hbf.size
            have h6 := HB6.out.later hBf
            obtain ⟨c0, c1, c2, c3, c4⟩ := h6.cells1
            obtain ⟨e0, e1, e2, e3, e4⟩ := h6.cells2
            have HBf := hid (And.intro hBf hszf)
            have hm1 : (freeL y.t).length ≤ 200 := by have := freeL_len y.t; have := HS.out; omega
            have hm2 : (MU y.t).length ≤ 200 := by have := (MU_ments y.t).len; have := HS.out; omega
            have hfl : ((FL y.t).map Value.string).length = (freeL y.t).length * 1 := by rw [List.length_map, FL_len]; omega
            have HNW := hid (And.intro hfl (And.intro (news_of hrg) (one_cellS (FL y.t))))
            obtain ⟨m1, hm1e⟩ : ∃ m, (freeL y.t).length = m := ⟨_, rfl⟩
            have HM1 := hid hm1e
            rw [hm1e] at HNW hm1 ⊢
            clear hrg hbf hBf h6 hfl hm1e
            go_wp2_with (at_builtin; go_loud (refine wpList_append_maybe rfl _ _ 44 rfl w7.heap.size 9 i0 _ 1 16 Tryz.underlying44 hi hz0 hz1 hz2 rfl (by decide) _ l1.length (l1.map encStr) rfl HF.out.2.2 pg m1 cg ((FL y.t).map Value.string) rfl HNW.out.1 HNW.out.2.1 HNW.out.2.2 (by unfold maxLen; omega) (by omega) HBf.out.2 ?_); intro v' w3 hown3 hgrow3; have hgrow4 : World.grownBy wf w3 (Value.ownBlock (.slice p1 l1.length q1)) := hgrow3; have hb3 : Below w6.heap.size w6 w3 := HBf.out.1.grown hgrow4 HBf.out.1.size (fun k hk => Nat.le_trans HMV.out.2.size (own_base HW.out k hk)); have K3 := hid (And.intro hown3 (And.intro hgrow4 hb3)); obtain ⟨e0, e1, e2, e3, e4⟩ := (HB6.out.later hb3).cells2; clear hown3 hgrow3 hgrow4 hb3)
            refine (HMY.out w3 (HB6.out.later K3.out.2.2).below).mono ?_
            rintro e wm ⟨fv2, pm, cm, rfl, rfl, hus, hbm⟩
            have hu3 := ((own_belowS HM.out HF.out.2.1).kept K3.out.2.1 (rows_apart (own_belowS HM.out HF.out.2.1) HF.out.2.2 (by decide)))
            have HUM := hid (own_belowS hu3 hbm)
            have HWM := hid (own_belowS K3.out.1 hbm)
            have HBM := hid (And.intro (K3.out.2.2.trans (hbm.mono K3.out.2.2.size)) (Nat.le_trans (Nat.le_trans HBf.out.2 K3.out.2.1.size) hbm.size))
            have hul : ((MU y.t).flatMap Us.cl).length = (MU y.t).length * 2 := by rw [len_flatU]
            have HNU := hid (And.intro hul (And.intro (newsU_of hus) (one_cellU (MU y.t))))
            obtain ⟨m2, hm2e⟩ : ∃ m, (MU y.t).length = m := ⟨_, rfl⟩
            have HM2 := hid hm2e
            rw [hm2e] at HNU hm2 ⊢
            clear hus hbm hu3 hul hm2e
            go_wp2_with (at_builtin; go_loud (refine wpList_append_maybe rfl _ _ 51 rfl w6.heap.size 57 i1 _ 2 32 Tryz.underlying51 ui uz0 uz1 uz2 rfl (by decide) _ l2.length (l2.flatMap Us.cl) rfl HUM.out pm m2 cm ((MU y.t).flatMap Us.cl) rfl HNU.out.1 HNU.out.2.1 HNU.out.2.2 (by unfold maxLen; omega) (by omega) HBM.out.1.size ?_); intro v'' w8 hown8 hgrow8; have hgrow9 : World.grownBy wm w8 (Value.ownBlock (.slice p2 l2.length q2)) := hgrow8; have K8 := hid (And.intro hown8 hgrow9); clear hown8 hgrow8 hgrow9)
            go_roundw
            case rel => exact ⟨i + 1, l1 ++ freeL y.t, l2 ++ MU y.t, by go_num, by omega, hid (by rw [HS1.out, if_pos HE1.out, H1.out]), hid (by rw [HS2.out, if_pos HE1.out, ← List.append_assoc, ← H2.out]), hid (by rw [List.length_append, List.map_append, HM1.out, FL_cells]; exact HWM.out.kept K8.out.2 (rows_apart HWM.out HUM.out (by decide))), hid (by rw [List.length_append, List.flatMap_append, HM2.out]; exact K8.out.1), hid (HBM.out.1.grown K8.out.2 HBM.out.1.size (own_base HM.out)), hid (Nat.le_trans HBM.out.2 K8.out.2.size)⟩
            case measure => simp [intOf]; omega
          · have hee := toList_ne hqs
            have HE1 := hid (show ¬ z = s.data.toList by rw [HZQ.out]; exact fun h => hqs (data_inj h))
            clear hqs
            have hbN : Below wr.heap.size wr (wr.alloc (.cells #[.string q] 9)) := (Below.refl _ wr).alloc (Nat.le_refl _) _
            have HN := hid hbN
            clear hbN
            go_wp2_with (at_builtin; go_loud (refine wpList_append_own _ rfl _ _ 44 rfl w7.heap.size 9 i0 _ 1 16 Tryz.underlying44 hi hz0 hz1 hz2 rfl (by decide) _ _ _ rfl (HW.out.alloc _) ⟨wr.heap.size, 0, none⟩ 1 1 [.string q] rfl rfl (cell_one_new _ _ _) (by simp [Value.oneCell']) (by unfold maxLen; omega) (by omega) (alloc_le HSz.out _) ?_); intro v' w3 hown3 hgrow3 _; have hgrow4 : World.grownBy (wr.alloc (.cells #[.string q] 9)) w3 (Value.ownBlock (.slice p1 l1.length q1)) := hgrow3; have K3 := hid (And.intro hown3 hgrow4); clear hown3 hgrow3 hgrow4)
            go_roundw
            case rel => exact ⟨i + 1, l1 ++ [z], l2, by go_num, by omega, hid (by rw [HS1.out, if_neg HE1.out, H1.out]), hid (by rw [HS2.out, if_neg HE1.out, List.append_nil]; exact H2.out), hid (by rw [List.length_append, List.map_append]; have h := K3.out.1; rw [HZQ.out]; exact h), hid ((HM.out.alloc _).kept K3.out.2 (rows_apart HM.out HW.out (by decide))), hid ((HBl.out.alloc (by have := HBl.out.size; omega) _).grown K3.out.2 (by have := HBl.out.size; simp; omega) (fun k hk => Nat.le_trans HMV.out.2.size (own_base HW.out k hk))), hid (by have := K3.out.2.size; have := HSz.out; simp at *; omega)⟩
            case measure => simp [intOf]; omega
        · obtain rfl : i = L := by omega
          have H1E := hid (show l1 = wantL x.t y.t s (freeL x.t) by rw [H1.out, List.take_of_length_le (by rw [HL.out]; exact Nat.le_refl _)])
          have H2E := hid (show l2 = MU x.t ++ usesX s (MU y.t) (freeL x.t) by rw [H2.out, List.take_of_length_le (by rw [HL.out]; exact Nat.le_refl _)])
          have HC1 := hid (sortS_any l1 _ _ wr HW.out (by omega))
          clear H1 H2
          go_wp2_with fail
          refine HC1.out.mono ?_
          rintro e wb ⟨rfl, hwb, hgb⟩
          have hub := HM.out.kept hgb (rows_apart HM.out HW.out (by decide))
          have hBb : Below w6.heap.size w6 wb := HBl.out.grown hgb HBl.out.size (fun k hk => Nat.le_trans HMV.out.2.size (own_base HW.out k hk))
          have HBb := hid (And.intro hBb (Nat.le_trans HSz.out hgb.size))
          have HWB := hid hwb
          have HUB := hid hub
          have HC2 := hid (sortL_any l2 _ _ wb hub (by omega))
          clear hwb hgb hub hBb HC1
          go_wp2_with fail
          refine HC2.out.mono ?_
          rintro e wc ⟨rfl, huc, hgc⟩
          have hwc := HWB.out.kept hgc (rows_apart HWB.out HUB.out (by decide))
          have hBc : Below w6.heap.size w6 wc := HBb.out.1.grown hgc HBb.out.1.size (own_base HUB.out)
          have hsl : (sortedU l2).length = l2.length := (sortedU_perm l2).length_eq
          rw [hsl] at huc
          have h6 := HB6.out.later hBc
          have HBc := hid (And.intro hBc (Nat.le_trans HBb.out.2 hgc.size))
          have HWc := hid hwc
          have HUc := hid huc
          obtain ⟨c0, c1, c2, c3, c4⟩ := h6.cells1
          obtain ⟨e0, e1, e2, e3, e4⟩ := h6.cells2
          have HYc := hid h6
          obtain ⟨wd, hwd⟩ : ∃ wd, (wc.alloc (.cells #[.string s] 9)).alloc (.cells #[.int .i64 y.t.k, .string y.t.m, .string y.t.n, .slice y.aa y.t.A.len y.ca, .slice y.af y.t.F.len y.cf] 25) = wd := ⟨_, rfl⟩
          have hbd : Below wc.heap.size wc wd := by rw [← hwd]; exact ((Below.refl _ wc).alloc (Nat.le_refl _) _).alloc (by simp) _
          have hr1 : wd.heap[wc.heap.size]? = some (.cells #[.string s] 9 (0, 0)) := by rw [← hwd]; exact (Below.heap_alloc _ _ _ (by simp)).trans (World.alloc_heap_new _ _)
          have hr2 : wd.heap[wc.heap.size + 1]? = some (.cells #[.int .i64 y.t.k, .string y.t.m, .string y.t.n, .slice y.aa y.t.A.len y.ca, .slice y.af y.t.F.len y.cf] 25 (0, 0)) := by
            rw [← hwd]; have h := World.alloc_heap_new (wc.alloc (.cells #[.string s] 9)) (.cells #[.int .i64 y.t.k, .string y.t.m, .string y.t.n, .slice y.aa y.t.A.len y.ca, .slice y.af y.t.F.len y.cf] 25); rw [World.size_alloc] at h; exact h
          have hBd : Below W.heap.size W wd := h6.below.trans (hbd.mono h6.below.size)
          obtain ⟨gy, hgy, hLy⟩ := row_one hBd (show OneX y (.slice (some ⟨wc.heap.size + 1, 0, none⟩) 1 1) wd from ⟨_, rfl, hr2⟩)
          have hgy2 : gy = wc.heap.size + 1 := by injection hgy with h _ _; injection h with h; injection h with h; exact h.symm
          subst hgy2
          have hNs : RowS wd [s] (some ⟨wc.heap.size, 0, none⟩) := .inr ⟨_, 0, rfl, fun j q hq => by
            have hj : j = 0 := by have := (List.getElem?_eq_some_iff.1 hq).1; simpa using this
            subst hj
            injection hq with hq
            subst hq
            exact cell_of_row wd _ 0 _ _ _ hr1⟩
          have hxsz : x.t.size ≤ 1099511627776 := by have := HS.out; omega
          have hysz : (oneT y.t).size ≤ 1099511627776 := by
            show 1 + y.t.A.size + y.t.F.size + 0 ≤ _
            have := HS.out
            have : y.t.size = 1 + y.t.A.size + y.t.F.size := rfl
            omega
          have hc3 := subst_any [s] (some ⟨wc.heap.size, 0, none⟩) 1 (oneT y.t) (some ⟨wc.heap.size + 1, 0, none⟩) 1 (TyV_below x.tyV hBd) hxsz hNs (.inr ⟨_, _, rfl, hLy⟩) (by simp) hysz
          have HC3 : Kpt (Calls Tryz.prog 19 #[.agg #[.int .i64 x.t.k, .string x.t.m, .string x.t.n, .slice x.aa x.t.A.len x.ca, .slice x.af x.t.F.len x.cf], .slice (some ⟨wc.heap.size, 0, none⟩) 1 1, .slice (some ⟨wc.heap.size + 1, 0, none⟩) 1 1] wd fun e w' => ∃ r : TyC, e = .returned (.agg #[.int .i64 r.t.k, .string r.t.m, .string r.t.n, .slice r.aa r.t.A.len r.ca, .slice r.af r.t.F.len r.cf]) ∧ r.t = x.t.sub (findTy [s] (oneT y.t)) ∧ r.Ok w' (fun i => wd.heap.size ≤ i ∧ i < w'.heap.size) ∧ Below wd.heap.size wd w') := hid hc3
          have HBd := hid (And.intro hbd hBd)
          clear hwc hgc huc hBc h6 hbd hr1 hr2 hBd hLy hNs hgy HC2 hsl hc3
          obtain ⟨f0, f1, f2, f3, f4⟩ := (HYc.out.later (w' := wc.alloc (.cells #[.string s] 9)) ((Below.refl _ wc).alloc (Nat.le_refl _) _)).cells2
          go_wp2_with fail
          refine HC3.out.mono ?_
          rintro e we ⟨r, rfl, hrt, hok, hbe⟩
          obtain ⟨wg, hwg⟩ : ∃ wg, we.alloc (.cells #[.int .i64 r.t.k, .string r.t.m, .string r.t.n, .slice r.aa r.t.A.len r.ca, .slice r.af r.t.F.len r.cf] 25) = wg := ⟨_, rfl⟩
          have hbg : Below we.heap.size we wg := by rw [← hwg]; exact (Below.refl _ we).alloc (Nat.le_refl _) _
          have hrg : wg.heap[we.heap.size]? = some (.cells #[.int .i64 r.t.k, .string r.t.m, .string r.t.n, .slice r.aa r.t.A.len r.ca, .slice r.af r.t.F.len r.cf] 25 (0, 0)) := by rw [← hwg]; exact World.alloc_heap_new _ _
          have hTg : TyV wg (.agg #[.int .i64 r.t.k, .string r.t.m, .string r.t.n, .slice r.aa r.t.A.len r.ca, .slice r.af r.t.F.len r.cf]) r.t := TyV_below hok.tyV hbg
          have hfo : ∀ q, findTy [s] (oneT y.t) q = if q = s then some y.t else none := find_one s y.t
          have hsz : r.t.size ≤ 1099511627776 := by
            rw [hrt]
            have h1 := Ty.sub_size (M := 200) (f := findTy [s] (oneT y.t)) (by omega) (fun v u hv => by
              rw [hfo] at hv
              split at hv
              · injection hv with hv; subst hv; have := HS.out; omega
              · cases hv) x.t
            have := HS.out
            have h2 : x.t.size * 200 ≤ 200 * 200 := Nat.mul_le_mul_right _ (by omega)
            omega
          have hnt : ∀ p ∈ r.t.nodes, p.m.size ≤ maxLen ∧ p.n.size ≤ maxLen := by rw [hrt]; exact names_sub hfo HBare.out HNX.out HNY.out
          have hE1 : Lib.compact (l1.mergeSort fun a b => decide (a ≤ b)) = freeL r.t := by rw [hrt, H1E.out]; exact free_sub hfo HBare.out
          have hE2 : Lib.compact (sortedU l2) = MU r.t := by
            have h := ments_sub hfo HBare.out (MU_ments x.t) (MU_ments y.t) (MU_ments (x.t.sub (findTy [s] (oneT y.t))))
            rw [H2E.out, hrt]; exact h
          have hcg : Below wc.heap.size wc wg := HBd.out.1.trans ((hbe.trans (hbg.mono hbe.size)).mono HBd.out.1.size)
          have hsg : wc.heap.size ≤ we.heap.size := Nat.le_trans HBd.out.1.size hbe.size
          have hWg : Below W.heap.size W wg := HBd.out.2.trans ((hbe.trans (hbg.mono hbe.size)).mono HBd.out.2.size)
          have HFr := hid (free_any hTg hsz (fun p hp => (hnt p hp).2))
          have HG := hid (And.intro hcg (And.intro hsg (And.intro hWg (And.intro hrg (And.intro hTg (And.intro hsz hnt))))))
          have HE := hid (And.intro hE1 hE2)
          have hsg2 : we.heap.size < wg.heap.size := (Array.getElem?_eq_some_iff.1 hrg).1
          have k0 := cell_of_row wg _ 0 _ _ _ hrg
          have k1 := cell_of_row wg _ 1 _ _ _ hrg
          have k2 := cell_of_row wg _ 2 _ _ _ hrg
          have k3 := cell_of_row wg _ 3 _ _ _ hrg
          have k4 := cell_of_row wg _ 4 _ _ _ hrg
          have HR := hid (And.intro hrt (And.intro hok hbe))
          have HBG := hid hbg
          clear hrt hok hbe hwd HC3 hbg hrg hTg hfo hsz hnt hE1 hE2 hcg hWg
          go_wp2_with fail
          refine HFr.out.mono ?_
          rintro e wh ⟨fv, rfl, hfr, hbh⟩
          clear hwg HFr k0 k1 k2 k3 k4
          have hch : Below wc.heap.size wc wh := HG.out.1.trans (hbh.mono HG.out.1.size)
          have hwh := own_belowS HWc.out hch
          have huh := own_belowS HUc.out hch
          have hml : (l1.mergeSort fun a b => decide (a ≤ b)).length = l1.length := List.length_mergeSort _
          have hcs := compactS_any (l1.mergeSort fun a b => decide (a ≤ b)) (.slice p1 l1.length q1) w7.heap.size wh (by rw [hml]; exact hwh) (by rw [hml]; omega)
          rw [HE.out.1] at hcs
          have HCS := hid hcs
          have HH := hid (And.intro hch (And.intro hwh (And.intro huh (And.intro hfr hbh))))
          clear hch hwh huh hml hcs hfr hbh
          go_wp2_with fail
          refine HCS.out.mono ?_
          rintro e wi ⟨pi, ci, rfl, hci, hgi⟩
          have hui := HH.out.2.2.1.kept hgi (rows_apart HH.out.2.2.1 HH.out.2.1 (by decide))
          have hfi := HH.out.2.2.2.1.kept hgi (rows_far HH.out.2.2.2.1 HWc.out HG.out.1.size)
          have hrh : wh.heap[we.heap.size]? = some (.cells #[.int .i64 r.t.k, .string r.t.m, .string r.t.n, .slice r.aa r.t.A.len r.ca, .slice r.af r.t.F.len r.cf] 25 (0, 0)) := (HH.out.2.2.2.2.block _ hsg2).trans HG.out.2.2.2.1
          have hri := far_row HWc.out hgi HG.out.2.1 hrh
          rw [FL_cells, ← FL_len] at hfi
          obtain ⟨pv, cv, hpv, hRv⟩ := rowS_of_own hfi
          rw [FL_len] at hpv
          subst hpv
          have hRi : RowS wi (FL r.t) pi := by
            rcases hci with h | ⟨g, rfl, _, hc⟩
            · refine .inl (List.eq_nil_of_length_eq_zero ?_)
              rw [FL_len, ← HE.out.1, h]
              rfl
            · refine .inr ⟨g, 0, rfl, fun j q hq => ?_⟩
              unfold FL at hq
              rw [List.getElem?_map] at hq
              obtain ⟨z, hz, rfl⟩ := Option.map_eq_some_iff.1 hq
              rw [Nat.zero_add]
              exact hc j z hz
          have hlr : (FL r.t).length ≤ 1099511627776 := by rw [FL_len]; have h := freeL_len r.t; have := HG.out.2.2.2.2.2.1; omega
          have hEq := sequal_any wi (FL r.t) (FL r.t) pv pi cv ci wi hRv hRi (Below.refl _ _) hlr
          rw [decide_eq_true (rfl : FL r.t = FL r.t), FL_len] at hEq
          have HEQ := hid hEq
          have HI := hid (And.intro hui (And.intro hri hgi))
          clear hci hgi hui hfi hrh hri hRv hRi hlr hEq HCS
          go_wp2_with fail
          refine HEQ.out.mono ?_
          rintro e wj ⟨rfl, hbj⟩
          have huj := own_belowS HI.out.1 hbj
          have hrj := heap_later hbj HI.out.2.1
          have k0 := cell_of_row wj _ 0 _ _ _ hrj
          have k1 := cell_of_row wj _ 1 _ _ _ hrj
          have k2 := cell_of_row wj _ 2 _ _ _ hrj
          have k3 := cell_of_row wj _ 3 _ _ _ hrj
          have k4 := cell_of_row wj _ 4 _ _ _ hrj
          have hK : KeepX (fun i => i < wc.heap.size) we wj := (KeepX.of_below HBG.out).trans ((KeepX.of_below HH.out.2.2.2.2).trans (KeepX.trans ⟨HI.out.2.2.size, fun i hi hx => HI.out.2.2.block i hi fun e => hx (HWc.out.lt i e.symm).2⟩ (KeepX.of_below hbj)))
          have hokj : r.Ok wj (fun i => wd.heap.size ≤ i ∧ i < we.heap.size) := HR.out.2.1.keep hK (fun i hi => ⟨by have := HBd.out.1.size; omega, hi⟩)
          have HMr := hid (mentions_any (show TyV wj (.agg #[.int .i64 r.t.k, .string r.t.m, .string r.t.n, .slice r.aa r.t.A.len r.ca, .slice r.af r.t.F.len r.cf]) r.t from hokj.tyV) HG.out.2.2.2.2.2.1 HG.out.2.2.2.2.2.2)
          have hWi : Below W.heap.size W wi := (HG.out.2.2.1.trans (HH.out.2.2.2.2.mono HG.out.2.2.1.size)).grown HI.out.2.2 (Nat.le_trans HG.out.2.2.1.size HH.out.2.2.2.2.size) (fun k hk => Nat.le_trans (Nat.le_trans HB6.out.below.size HMV.out.2.size) (own_base HWc.out k hk))
          have hcj : wc.heap.size ≤ wj.heap.size := Nat.le_trans (Nat.le_trans HH.out.1.size HI.out.2.2.size) hbj.size
          have HJ := hid (And.intro huj (And.intro (hWi.trans (hbj.mono hWi.size)) hcj))
          clear hbj huj hrj hK hokj hWi hcj HEQ
          go_wp2_with fail
          refine HMr.out.mono ?_
          rintro e wk ⟨fv2, M, hM, rfl, hmk, hbk⟩
          rw [hM.uniq (MU_ments r.t)] at hmk
          have huk := own_belowS HJ.out.1 hbk
          have hsl : (sortedU l2).length = l2.length := (sortedU_perm l2).length_eq
          have hcu := compactU_any (sortedU l2) (.slice p2 l2.length q2) w6.heap.size wk (by rw [hsl]; exact huk) (by rw [hsl]; omega)
          rw [HE.out.2] at hcu
          have HCU := hid hcu
          have HK := hid (And.intro hmk (HJ.out.2.1.trans (hbk.mono HJ.out.2.1.size)))
          clear hM hmk hbk huk hsl hcu HMr k0 k1 k2 k3 k4
          go_wp2_with fail
          refine HCU.out.mono ?_
          rintro e wl ⟨pl, cl, rfl, hUl, hgl⟩
          have hml := HK.out.1.kept hgl (rows_far HK.out.1 HUc.out HJ.out.2.2)
          obtain ⟨pm, cm, hpm, hUm⟩ := usR_of_own hml
          subst hpm
          have hln : (MU r.t).length ≤ 1099511627776 := by have h := (MU_ments r.t).len; have := HG.out.2.2.2.2.2.1; omega
          have hsu := rsame_any (MU r.t) (MU r.t) pm pl cm cl wl hUm hUl hln hln
          rw [sameU_self] at hsu
          have HSU := hid hsu
          have hWl : Below W.heap.size W wl := HK.out.2.grown hgl HK.out.2.size (fun k hk => Nat.le_trans HB6.out.below.size (own_base HUc.out k hk))
          have HL9 := hid hWl
          clear hUl hgl hml hUm hln hsu hWl HCU
          go_wp2_with fail
          refine HSU.out.mono ?_
          rintro e wn ⟨rfl, hbn⟩
          have HN9 := hid (HL9.out.trans (hbn.mono HL9.out.size))
          clear hbn
          go_wp2_with fail
          go_ret
          exact ⟨rfl, HN9.out⟩
    · have hc2 : (cc != 0) = true := by simpa using hcc
      go_wp2_with fail
      refine HC.out.mono ?_
      rintro e w5 ⟨rfl, hb5⟩
      have HB5 := hid (HB4.out.later hb5).below
      clear hb5
      go_wp2_with fail
      go_ret
      exact ⟨rfl, HB5.out⟩
  · have hd : decide (((x.t.size + y.t.size : Nat) : Int) ≤ 200) = false := by rw [decide_eq_false_iff_not]; omega
    rw [hd]
    clear hd hbx hby hxs hys hS
    go_wp2_with fail
    go_ret
    exact ⟨rfl, HB4.out.below⟩
end Go.Proofs.YtjedcijddlilaaaGreatDoor
