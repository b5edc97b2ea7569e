/- syntax: trees in memory of the call's own; what find finds. -/
import Derived.Test.YthpkinmlpppglaaGreatDoorSyI
import Derived.Deep.AppendLies
namespace Go.Proofs.YthpkinmlpppglaaGreatDoor
open Go.RowKit Go.Shelf

/-- As Lies, and the blocks of the rows within satisfy P. -/
def LiesP (w : World) (P : Nat → Prop) : Tr → Bool → Nat → Nat → Prop
  | .nil, _, _, _ => True
  | .node fn op k m n A F nx, fl, b, o =>
    (fl = true → w.cell? ⟨b, o, none⟩ = some (.string fn) ∧ w.cell? ⟨b, o + 6, none⟩ = some (.bool op)) ∧
    (w.cell? ⟨b, o + fl.toNat, none⟩ = some (.int .i64 k) ∧ (Lit.int .i64 k).wf = true) ∧ w.cell? ⟨b, o + fl.toNat + 1, none⟩ = some (.string m) ∧ w.cell? ⟨b, o + fl.toNat + 2, none⟩ = some (.string n) ∧
    (∃ a c, w.cell? ⟨b, o + fl.toNat + 3, none⟩ = some (.slice a A.len c) ∧ (A = .nil ∨ ∃ b' o', a = some ⟨b', o', none⟩ ∧ P b' ∧ LiesP w P A false b' o')) ∧
    (∃ a c, w.cell? ⟨b, o + fl.toNat + 4, none⟩ = some (.slice a F.len c) ∧ (F = .nil ∨ ∃ b' o', a = some ⟨b', o', none⟩ ∧ P b' ∧ LiesP w P F true b' o')) ∧
    LiesP w P nx fl b (o + (5 + 2 * fl.toNat))
theorem LiesP.lies {w : World} {P : Nat → Prop} : ∀ {T : Tr} {fl : Bool} {b o : Nat}, LiesP w P T fl b o → Lies w T fl b o := by
  intro T
  induction T with
  | nil => intro _ _ _ _; trivial
  | node fn op k m n A F nx ha hf hn =>
    intro fl b o h
    obtain ⟨h0, h1, h2, h3, ⟨a, c, h4, h5⟩, ⟨a', c', h6, h7⟩, h8⟩ := h
    refine ⟨h0, h1, h2, h3, ⟨a, c, h4, ?_⟩, ⟨a', c', h6, ?_⟩, hn h8⟩
    · rcases h5 with h | ⟨b', o', h, _, h'⟩
      · exact .inl h
      · exact .inr ⟨b', o', h, ha h'⟩
    · rcases h7 with h | ⟨b', o', h, _, h'⟩
      · exact .inl h
      · exact .inr ⟨b', o', h, hf h'⟩
theorem LiesP.keep {A B : World} {X P Q : Nat → Prop} (hk : KeepX X A B) (hP : ∀ i, P i → ¬ X i ∧ Q i) : ∀ {T : Tr} {fl : Bool} {b o : Nat}, ¬ X b → LiesP A P T fl b o → LiesP B Q T fl b o := by
  intro T
  induction T with
  | nil => intro _ _ _ _ _; trivial
  | node fn op k m n T F nx ha hf hn =>
    intro fl b o hb h
    obtain ⟨h0, ⟨h1, h1w⟩, h2, h3, ⟨a, c, h4, h5⟩, ⟨a', c', h6, h7⟩, h8⟩ := h
    refine ⟨fun e => ?_, ⟨hk.cell hb h1, h1w⟩, hk.cell hb h2, hk.cell hb h3, ⟨a, c, hk.cell hb h4, ?_⟩, ⟨a', c', hk.cell hb h6, ?_⟩, hn hb h8⟩
    · obtain ⟨g0, g1⟩ := h0 e
      exact ⟨hk.cell hb g0, hk.cell hb g1⟩
    · rcases h5 with h | ⟨b', o', h, hp, h'⟩
      · exact .inl h
      · exact .inr ⟨b', o', h, (hP _ hp).2, ha (hP _ hp).1 h'⟩
    · rcases h7 with h | ⟨b', o', h, hp, h'⟩
      · exact .inl h
      · exact .inr ⟨b', o', h, (hP _ hp).2, hf (hP _ hp).1 h'⟩
/-- A type's cells, without a world. -/
structure TyC where
  t : Ty
  aa : Option Addr
  ca : Nat
  af : Option Addr
  cf : Nat
def TyC.cells (x : TyC) : List Value := [.int .i64 x.t.k, .string x.t.m, .string x.t.n, .slice x.aa x.t.A.len x.ca, .slice x.af x.t.F.len x.cf]
def TyC.v (x : TyC) : Value := .agg x.cells.toArray
def TyC.Ok (w : World) (P : Nat → Prop) (x : TyC) : Prop := (Lit.int .i64 x.t.k).wf = true ∧ (x.t.A = .nil ∨ ∃ b o, x.aa = some ⟨b, o, none⟩ ∧ P b ∧ LiesP w P x.t.A false b o) ∧ (x.t.F = .nil ∨ ∃ b o, x.af = some ⟨b, o, none⟩ ∧ P b ∧ LiesP w P x.t.F true b o)
theorem TyC.Ok.keep {A B : World} {X P Q : Nat → Prop} {x : TyC} (h : x.Ok A P) (hk : KeepX X A B) (hP : ∀ i, P i → ¬ X i ∧ Q i) : x.Ok B Q := by
  obtain ⟨h1, h2, h3⟩ := h
  refine ⟨h1, ?_, ?_⟩
  · rcases h2 with h | ⟨b, o, h, hp, h'⟩
    · exact .inl h
    · exact .inr ⟨b, o, h, (hP _ hp).2, h'.keep hk hP (hP _ hp).1⟩
  · rcases h3 with h | ⟨b, o, h, hp, h'⟩
    · exact .inl h
    · exact .inr ⟨b, o, h, (hP _ hp).2, h'.keep hk hP (hP _ hp).1⟩
theorem TyC.Ok.tyV {w : World} {P : Nat → Prop} {x : TyC} (h : x.Ok w P) : TyV w x.v x.t := by
  obtain ⟨h1, h2, h3⟩ := h
  refine ⟨_, _, rfl, h1, ⟨_, _, rfl, ?_⟩, ⟨_, _, rfl, ?_⟩⟩
  · rcases h2 with h | ⟨b, o, h, _, h'⟩
    · exact .inl h
    · exact .inr ⟨b, o, h, h'.lies⟩
  · rcases h3 with h | ⟨b, o, h, _, h'⟩
    · exact .inl h
    · exact .inr ⟨b, o, h, h'.lies⟩
theorem Tr.els_sub (f : ByteArray → Option Ty) (T : Tr) : (T.sub f).els = T.els.map (Ty.sub f) := by
  induction T with
  | nil => rfl
  | node fn op k m n A F nx ha hf hn =>
    unfold Tr.sub
    split
    · rename_i u hu
      simp only [Tr.els, List.map_cons, hn, Ty.sub]
      rw [hu]
    · rename_i hu
      simp only [Tr.els, List.map_cons, hn, Ty.sub]
      rw [hu]
/-- The names and flags of a row of fields. -/
def Tr.fds : Tr → List (ByteArray × Bool)
  | .nil => []
  | .node fn op _ _ _ _ _ nx => (fn, op) :: nx.fds
theorem Tr.fds_sub (f : ByteArray → Option Ty) (T : Tr) : (T.sub f).fds = T.fds := by
  induction T with
  | nil => rfl
  | node fn op k m n A F nx ha hf hn =>
    unfold Tr.sub
    split <;> simp only [Tr.fds, hn]
theorem Tr.fds_len (T : Tr) : T.fds.length = T.len := by
  induction T with
  | nil => rfl
  | node fn op k m n A F nx ha hf hn => simp only [Tr.fds, Tr.len, List.length_cons, hn]
/-- A row of types, out of its cells. -/
theorem liesP_types {w : World} {P : Nat → Prop} {b : Nat} : ∀ (T : Tr) (rs : List TyC) (o : Nat), rs.map (·.t) = T.els → (∀ r ∈ rs, r.Ok w P) →
    (∀ j r, rs[j]? = some r → ∀ i u, r.cells[i]? = some u → w.cell? ⟨b, o + j * 5 + i, none⟩ = some u) → LiesP w P T false b o := by
  intro T
  induction T with
  | nil => intro _ _ _ _ _; trivial
  | node fn op k m n A F nx ha hf hn =>
    intro rs o hm hok hc
    cases rs with
    | nil => cases hm
    | cons r rs =>
      simp only [List.map_cons, Tr.els, List.cons.injEq] at hm
      obtain ⟨hr, hm⟩ := hm
      have h := hc 0 r rfl
      obtain ⟨k1, k2, k3⟩ := hok r (by simp)
      have c0 := h 0 _ rfl
      have c1 := h 1 _ rfl
      have c2 := h 2 _ rfl
      have c3 := h 3 _ rfl
      have c4 := h 4 _ rfl
      simp only [hr, Nat.zero_mul, Nat.add_zero] at c0 c1 c2 c3 c4 k1 k2 k3
      refine ⟨(fun e => by cases e), ⟨c0, k1⟩, c1, c2, ⟨_, _, c3, k2⟩, ⟨_, _, c4, k3⟩, hn rs (o + 5) hm (fun r' hr' => hok r' (by simp [hr'])) ?_⟩
      intro j r' hj i u hu
      have h9 := hc (j + 1) r' (by simpa using hj) i u hu
      have e : o + (j + 1) * 5 + i = o + 5 + j * 5 + i := by omega
      rw [e] at h9; exact h9
/-- A field's cells. -/
def fdCells (p : ByteArray × Bool) (x : TyC) : List Value := [.string p.1, .int .i64 x.t.k, .string x.t.m, .string x.t.n, .slice x.aa x.t.A.len x.ca, .slice x.af x.t.F.len x.cf, .bool p.2]
theorem liesP_fields {w : World} {P : Nat → Prop} {b : Nat} : ∀ (T : Tr) (rs : List TyC) (o : Nat), rs.map (·.t) = T.els → (∀ r ∈ rs, r.Ok w P) →
    (∀ j r p, rs[j]? = some r → T.fds[j]? = some p → ∀ i u, (fdCells p r)[i]? = some u → w.cell? ⟨b, o + j * 7 + i, none⟩ = some u) → LiesP w P T true b o := by
  intro T
  induction T with
  | nil => intro _ _ _ _ _; trivial
  | node fn op k m n A F nx ha hf hn =>
    intro rs o hm hok hc
    cases rs with
    | nil => cases hm
    | cons r rs =>
      simp only [List.map_cons, Tr.els, List.cons.injEq] at hm
      obtain ⟨hr, hm⟩ := hm
      have h := hc 0 r (fn, op) rfl rfl
      obtain ⟨k1, k2, k3⟩ := hok r (by simp)
      have c0 := h 0 _ rfl
      have c1 := h 1 _ rfl
      have c2 := h 2 _ rfl
      have c3 := h 3 _ rfl
      have c4 := h 4 _ rfl
      have c5 := h 5 _ rfl
      have c6 := h 6 _ rfl
      simp only [hr, Nat.zero_mul, Nat.add_zero] at c0 c1 c2 c3 c4 c5 c6 k1 k2 k3
      refine ⟨fun _ => ⟨c0, c6⟩, ⟨c1, k1⟩, c2, c3, ⟨_, _, c4, k2⟩, ⟨_, _, c5, k3⟩, hn rs (o + 7) hm (fun r' hr' => hok r' (by simp [hr'])) ?_⟩
      intro j r' p hj hp i u hu
      have h9 := hc (j + 1) r' p (by simpa using hj) (by simpa [Tr.fds] using hp) i u hu
      have e : o + (j + 1) * 7 + i = o + 7 + j * 7 + i := by omega
      rw [e] at h9; exact h9
theorem flat_at {α : Type} (c : α → List Value) (s : Nat) (hs : ∀ x, (c x).length = s) : ∀ (l : List α) (j i : Nat) (x : α) (u : Value), l[j]? = some x → (c x)[i]? = some u → (l.flatMap c)[j * s + i]? = some u := by
  intro l
  induction l with
  | nil => intro j i x u h; cases h
  | cons y l ih =>
    intro j i x u h hu
    have hi : i < s := by rw [← hs x]; exact (List.getElem?_eq_some_iff.1 hu).1
    cases j with
    | zero =>
      simp only [List.getElem?_cons_zero, Option.some.injEq] at h
      subst h
      rw [List.flatMap_cons, List.getElem?_append_left (by rw [hs]; omega)]
      simpa using hu
    | succ j =>
      simp only [List.getElem?_cons_succ] at h
      rw [List.flatMap_cons, List.getElem?_append_right (by rw [hs, Nat.add_mul]; omega), hs]
      have e : (j + 1) * s + i - s = j * s + i := by rw [Nat.add_mul]; omega
      rw [e]; exact ih j i x u h hu
end Go.Proofs.YthpkinmlpppglaaGreatDoor
