/- lexer: tokens stand at their offsets. -/
import Derived.Test.YtmgmmbikdmobpaaDoorLex
namespace Go.Proofs.YtmgmmbikdmobpaaDoor
open Go.RowKit

theorem rdT_tok (m : Nat) : ∀ (r acc : List UInt8) (p : Nat) (k : Int) (t : List UInt8) (n : Nat), r.length ≤ m → rdT r acc p = .tok k t n → k = 4 ∧ t.length + p + 1 ≤ n + acc.length := by
  induction m with
  | zero =>
    intro r acc p k t n hm h
    rw [rdT_end r acc p (by omega)] at h
    cases h
  | succ m ih =>
    intro r acc p k t n hm h
    by_cases hl : 0 < r.length
    · by_cases hq : at' r 0 = 34
      · rw [rdT_quote r acc p hl hq] at h
        injection h with h1 h2 h3
        subst h2
        exact ⟨h1.symm, by omega⟩
      · by_cases hn : (chr r).2 = 0
        · rw [rdT_bad r acc p hl hq hn] at h
          cases h
        · rw [rdT_next r acc p hl hq hn] at h
          have hd : (r.drop (chr r).2).length = r.length - (chr r).2 := List.length_drop
          have := ih _ _ _ k t n (by rw [hd]; omega) h
          rw [List.length_append] at this
          exact ⟨this.1, by have := this.2; simp at this; omega⟩
    · rw [rdT_end r acc p (by omega)] at h
      cases h
theorem symF_tok (ys : List (List UInt8)) (l : List UInt8) (k : Int) (t : List UInt8) (n : Nat) (h : symF ys l = .tok k t n) : k = 6 ∧ t = l.take n ∧ t ∈ ys := by
  induction ys with
  | nil => cases h
  | cons y r ih =>
    unfold symF at h
    by_cases hp : Lib.hasPrefix l y = true
    · rw [if_pos hp] at h
      injection h with h1 h2 h3
      subst h2
      unfold Lib.hasPrefix at hp
      rw [List.isPrefixOf_iff_prefix] at hp
      obtain ⟨u, rfl⟩ := hp
      subst h3
      exact ⟨h1.symm, by rw [List.take_left], by simp⟩
    · rw [if_neg hp] at h
      have := ih h
      exact ⟨this.1, this.2.1, by simp [this.2.2]⟩
theorem wkOf_in (l : List UInt8) (j : Int) (h : wkOf l = some j) : j = 5 ∨ j = 1 ∨ j = 2 := by
  unfold wkOf at h
  split at h
  · injection h with h; omega
  · split at h
    · cases h
    · split at h
      · injection h with h; omega
      · injection h with h; omega
/-- What a token is. -/
theorem nextT_tok (l : List UInt8) (_h0 : 0 < l.length) (k : Int) (t : List UInt8) (n : Nat) (h : nextT l = .tok k t n) : (k = 4 ∧ fst l = 34 ∧ t.length + 2 ≤ n) ∨ (k ≠ 4 ∧ k ≠ 0 ∧ t = l.take n) := by
  unfold nextT at h
  by_cases h1 : isLt (fst l) = true
  · rw [if_pos h1] at h
    unfold wordT at h
    cases hw : wkOf (l.take (spn isWd l)) with
    | none => rw [hw] at h; cases h
    | some j =>
      rw [hw] at h
      injection h with e1 e2 e3
      have := wkOf_in _ _ hw
      exact Or.inr ⟨by omega, by omega, by rw [← e2, ← e3]⟩
  · rw [if_neg h1] at h
    by_cases h2 : isDg (fst l) = true
    · rw [if_pos h2] at h
      unfold numT at h
      split at h
      · cases h
      · injection h with e1 e2 e3
        exact Or.inr ⟨by omega, by omega, by rw [← e2, ← e3]⟩
    · rw [if_neg h2] at h
      by_cases h3 : fst l = 34
      · rw [if_pos h3] at h
        unfold textT at h
        have h4 := rdT_tok _ _ _ _ k t n (Nat.le_refl _) h
        exact Or.inl ⟨h4.1, h3, by have := h4.2; simp at this; omega⟩
      · rw [if_neg h3] at h
        have h4 := symF_tok symL l k t n h
        exact Or.inr ⟨by omega, by omega, h4.2.1⟩

/-- The first offset that can be behind a token. -/
def endT (x : TkY) : Nat := if x.k = 4 then x.o + (x.t.length + 2) else x.o + x.t.length
/-- Tokens stand one behind the other from an offset on; the last one is the end. -/
def okL (l : List UInt8) : Nat → List TkY → Prop
  | _, [] => False
  | p, [x] => x.k = 0 ∧ x.t = [] ∧ x.o = l.length ∧ p ≤ l.length
  | p, x :: y :: r => x.k ≠ 0 ∧ p ≤ x.o ∧ x.o ≤ l.length ∧ (x.k = 4 → Lib.hasPrefix (l.drop x.o) [34] = true) ∧ (x.k ≠ 4 → x.t ≠ [] ∧ Lib.hasPrefix (l.drop x.o) x.t = true) ∧ endT x ≤ l.length ∧ okL l (endT x) (y :: r)
theorem okL_mono (l : List UInt8) (p q : Nat) (xs : List TkY) (h : okL l p xs) (hq : q ≤ p) : okL l q xs := by
  match xs, h with
  | [x], h => exact ⟨h.1, h.2.1, h.2.2.1, Nat.le_trans hq h.2.2.2⟩
  | x :: y :: r, h => exact ⟨h.1, Nat.le_trans hq h.2.1, h.2.2⟩
theorem toks_ok (l : List UInt8) : ∀ (f p : Nat), p ≤ l.length → l.length ≤ f + p → (∀ x ∈ toks l f p, x.e = 0) → okL l p (toks l f p) := by
  intro f
  induction f with
  | zero =>
    intro p hp hf _
    have : p = l.length := by omega
    subst this
    exact ⟨rfl, rfl, rfl, Nat.le_refl _⟩
  | succ f ih =>
    intro p hp hf hg
    by_cases hlt : p < l.length
    · rw [toks, if_pos hlt] at hg ⊢
      have hdl : (l.drop p).length = l.length - p := List.length_drop
      cases hn : nextT (l.drop p) with
      | err e =>
        rw [hn] at hg
        have h1 := hg _ (List.mem_singleton.2 rfl)
        have h2 := nextT_err _ _ hn
        simp only at h1
        omega
      | tok k t n =>
        rw [hn] at hg
        simp only at hg ⊢
        obtain ⟨n0, n1⟩ := nextT_le _ (by omega) _ _ _ hn
        have hs := sep_le (l.drop (p + n))
        rw [List.length_drop] at hs
        rw [hdl] at n1
        have hr := ih (p + n + sep (l.drop (p + n))) (by omega) (by omega) (fun x hx => hg x (by simp [hx]))
        have hk := nextT_tok _ (by omega) _ _ _ hn
        cases hx : toks l f (p + n + sep (l.drop (p + n))) with
        | nil => rw [hx] at hr; exact hr.elim
        | cons y r =>
          rw [hx] at hr
          rcases hk with ⟨rfl, h34, hlen⟩ | ⟨k4, k0, ht⟩
          · refine ⟨(by show (4 : Int) ≠ 0; decide), Nat.le_refl _, hp, fun _ => ?_, fun h => absurd rfl h, ?_, okL_mono _ _ _ _ hr ?_⟩
            · have hne : l.drop p ≠ [] := by intro e; rw [e] at hdl; simp at hdl; omega
              show Lib.hasPrefix (l.drop p) [34] = true
              cases hd : l.drop p with
              | nil => exact absurd hd hne
              | cons b r =>
                rw [hd] at h34
                have : b = 34 := by apply UInt8.toNat_inj.1; exact h34
                rw [this]; rfl
            · show (if (4 : Int) = 4 then p + (t.length + 2) else p + t.length) ≤ l.length
              rw [if_pos rfl]; omega
            · show (if (4 : Int) = 4 then p + (t.length + 2) else p + t.length) ≤ p + n + sep (l.drop (p + n))
              rw [if_pos rfl]; omega
          · have htl : t.length = n := by rw [ht, List.length_take, hdl]; omega
            refine ⟨k0, Nat.le_refl _, hp, fun h => absurd h k4, fun _ => ⟨?_, ?_⟩, ?_, okL_mono _ _ _ _ hr ?_⟩
            · intro e; have e' : t = [] := e; rw [e'] at htl; simp at htl; omega
            · show Lib.hasPrefix (l.drop p) t = true
              unfold Lib.hasPrefix
              rw [List.isPrefixOf_iff_prefix, ht]
              exact List.take_prefix _ _
            · show (if k = 4 then p + (t.length + 2) else p + t.length) ≤ l.length
              rw [if_neg k4]; omega
            · show (if k = 4 then p + (t.length + 2) else p + t.length) ≤ p + n + sep (l.drop (p + n))
              rw [if_neg k4]; omega
    · rw [toks_end _ _ _ hlt]
      exact ⟨rfl, rfl, by show p = l.length; omega, by omega⟩
theorem allT_ok (l : List UInt8) (h : ∀ x ∈ allT l, x.e = 0) : okL l 0 (allT l) := okL_mono _ _ _ _ (toks_ok l l.length (sep l) (sep_le l) (by omega) h) (Nat.zero_le _)
/-- What Lex returns: the tokens, or an error with its offset. -/
theorem lex_or (l : List UInt8) (hl : ¬ 65536 < l.length) : (lexL l = (allT l, 0, 0) ∧ ∀ x ∈ allT l, x.e = 0) ∨ ∃ x, x ∈ allT l ∧ x.e ≠ 0 ∧ lexL l = ([], x.o, x.e) := by
  unfold lexL
  rw [if_neg hl]
  cases hf : (allT l).find? (fun x => x.e != 0) with
  | none =>
    rw [List.find?_eq_none] at hf
    have hg : ∀ x ∈ allT l, x.e = 0 := fun x hx => by have := hf x hx; simpa using this
    exact Or.inl ⟨lexOut_good _ hg, hg⟩
  | some x =>
    refine Or.inr ⟨x, List.mem_of_find?_eq_some hf, by simpa using List.find?_some hf, ?_⟩
    unfold lexOut
    rw [hf]
theorem toks_bad (l : List UInt8) : ∀ (f p : Nat), ∀ x ∈ toks l f p, x.e ≠ 0 → p ≤ x.o ∧ x.o < l.length ∧ (x.e = 3 ∨ x.e = 4) := by
  intro f
  induction f with
  | zero =>
    intro p x hx he
    simp only [toks, List.mem_singleton] at hx
    subst hx; exact absurd rfl he
  | succ f ih =>
    intro p x hx he
    by_cases hlt : p < l.length
    · rw [toks, if_pos hlt] at hx
      cases hn : nextT (l.drop p) with
      | err e =>
        rw [hn] at hx
        simp only [List.mem_singleton] at hx
        subst hx
        exact ⟨Nat.le_refl _, hlt, nextT_err _ _ hn⟩
      | tok k t n =>
        rw [hn] at hx
        simp only [List.mem_cons] at hx
        rcases hx with rfl | hx
        · exact absurd rfl he
        · have := ih _ x hx he
          exact ⟨by omega, this.2⟩
    · rw [toks_end _ _ _ hlt, List.mem_singleton] at hx
      subst hx; exact absurd rfl he
end Go.Proofs.YtmgmmbikdmobpaaDoor
