/- lexer: a token depends on its own bytes and on what ends it. -/
import Derived.Test.YtmgmmbikdmobpaaDoorLxOf
namespace Go.Proofs.YtmgmmbikdmobpaaDoor
open Go.RowKit

theorem getD_take_eq {x y : List UInt8} {n : Nat} (h : y.take n = x.take n) (j : Nat) (hj : j < n) : y.getD j 0 = x.getD j 0 := by
  have h1 := congrArg (fun l => l[j]?) h
  simp only [List.getElem?_take, if_pos hj] at h1
  rw [List.getD_eq_getElem?_getD, List.getD_eq_getElem?_getD, h1]
theorem spn_in (p : Nat → Bool) : ∀ (l : List UInt8) (j : Nat), j < spn p l → p (l.getD j 0).toNat = true := by
  intro l
  induction l with
  | nil => intro j h; simp [spn] at h
  | cons b l ih =>
    intro j h
    rw [spn_cons] at h
    by_cases hb : p b.toNat = true
    · rw [if_pos hb] at h
      cases j with
      | zero => simpa using hb
      | succ j => simpa using ih j (by omega)
    · rw [if_neg hb] at h; omega
theorem spn_end (p : Nat → Bool) : ∀ (l : List UInt8), spn p l < l.length → p (l.getD (spn p l) 0).toNat = false := by
  intro l
  induction l with
  | nil => intro h; simp at h
  | cons b l ih =>
    intro h
    rw [spn_cons] at h ⊢
    by_cases hb : p b.toNat = true
    · rw [if_pos hb] at h ⊢
      simpa using ih (by simpa using h)
    · rw [if_neg hb]
      simpa using hb
theorem spn_full (p : Nat → Bool) : ∀ (l : List UInt8), (∀ j, j < l.length → p (l.getD j 0).toNat = true) → spn p l = l.length := by
  intro l
  induction l with
  | nil => intro _; rfl
  | cons b l ih =>
    intro h
    have h0 : p b.toNat = true := by simpa using h 0 (by simp)
    rw [spn_cons, if_pos h0, ih (fun j hj => by simpa using h (j + 1) (by simpa using hj)), List.length_cons]
/-- The span of y is that of x. -/
theorem spn_same (p : Nat → Bool) {x y : List UInt8} {n : Nat} (hn : spn p x = n) (ht : y.take n = x.take n) (hl : n ≤ y.length) (he : n < y.length → p (y.getD n 0).toNat = false) : spn p y = n := by
  by_cases h : n < y.length
  · exact spn_at p y n h (fun j hj => by rw [getD_take_eq ht j hj]; exact spn_in p x j (by omega)) (he h)
  · have : n = y.length := by omega
    rw [spn_full p y (fun j hj => by rw [getD_take_eq ht j (by omega)]; exact spn_in p x j (by omega)), this]
theorem bl_wd {c : Nat} (h : isBl c = true) : isWd c = false ∧ isDg c = false := by
  unfold isBl at h
  simp only [Bool.or_eq_true, beq_iff_eq] at h
  rcases h with ((rfl | rfl) | rfl) | rfl <;> exact ⟨rfl, rfl⟩
theorem at_take {x y : List UInt8} {n : Nat} (h : y.take n = x.take n) (j : Nat) (hj : j < n) : at' y j = at' x j := by
  unfold at'; rw [getD_take_eq h j hj]
theorem len_take {x y : List UInt8} {n : Nat} (h : y.take n = x.take n) (hl : n ≤ y.length) : n ≤ x.length := by
  have := congrArg List.length h
  rw [List.length_take, List.length_take] at this
  omega
theorem chr_loc {x y : List UInt8} {m : Nat} (h : y.take m = x.take m) (hm : m ≤ y.length) (hz : (chr x).2 ≠ 0) (hzm : (chr x).2 ≤ m) : chr y = chr x := by
  have hx := len_take h hm
  have ha := fun j hj => at_take h j hj
  unfold chr at hz hzm ⊢
  by_cases c0 : at' x 0 < 32
  · rw [if_pos c0] at hz; exact absurd rfl hz
  · rw [if_neg c0] at hz hzm ⊢
    by_cases c1 : at' x 0 ≠ 92
    · rw [if_pos c1] at hz hzm ⊢
      have h1 : 1 ≤ m := hzm
      rw [ha 0 (by omega), if_neg c0, if_pos c1]
    · rw [if_neg c1] at hz hzm ⊢
      by_cases c2 : 2 ≤ x.length ∧ (at' x 1 = 34 ∨ at' x 1 = 92)
      · rw [if_pos c2] at hz hzm ⊢
        have h1 : 2 ≤ m := hzm
        rw [ha 0 (by omega), ha 1 (by omega), if_neg c0, if_neg c1, if_pos ⟨by omega, c2.2⟩]
      · rw [if_neg c2] at hz hzm ⊢
        by_cases c3 : 2 ≤ x.length ∧ at' x 1 = 110
        · rw [if_pos c3] at hz hzm ⊢
          have h1 : 2 ≤ m := hzm
          rw [ha 0 (by omega), ha 1 (by omega), if_neg c0, if_neg c1, if_neg (fun h => c2 ⟨c3.1, h.2⟩), if_pos ⟨by omega, c3.2⟩]
        · rw [if_neg c3] at hz hzm ⊢
          by_cases c4 : 4 ≤ x.length ∧ at' x 1 = 120 ∧ 0 ≤ hexV (at' x 2) ∧ 0 ≤ hexV (at' x 3)
          · rw [if_pos c4] at hz hzm ⊢
            have h1 : 4 ≤ m := hzm
            rw [ha 0 (by omega), ha 1 (by omega), ha 2 (by omega), ha 3 (by omega), if_neg c0, if_neg c1, if_neg (fun h => c2 ⟨by omega, h.2⟩), if_neg (fun h => c3 ⟨by omega, h.2⟩), if_pos ⟨by omega, c4.2⟩]
          · rw [if_neg c4] at hz; exact absurd rfl hz
theorem drop_take_eq {x y : List UInt8} {n : Nat} (h : y.take n = x.take n) (j : Nat) : (y.drop j).take (n - j) = (x.drop j).take (n - j) := by
  rw [← List.drop_take, ← List.drop_take, h]
theorem rdT_loc (m : Nat) : ∀ (x y acc : List UInt8) (p : Nat) (k : Int) (t : List UInt8) (n : Nat), x.length ≤ m → rdT x acc p = .tok k t n → y.take (n - p) = x.take (n - p) → n - p ≤ y.length → rdT y acc p = .tok k t n := by
  induction m with
  | zero =>
    intro x y acc p k t n hm h
    rw [rdT_end x acc p (by omega)] at h
    cases h
  | succ m ih =>
    intro x y acc p k t n hm h ht hl
    have hlt := (rdT_le _ _ _ _ _ _ _ (Nat.le_refl _) h).1
    by_cases hx : 0 < x.length
    · by_cases hq : at' x 0 = 34
      · rw [rdT_quote x acc p hx hq] at h
        rw [rdT_quote y acc p (by omega) (by rw [at_take ht 0 (by omega)]; exact hq)]
        exact h
      · by_cases hn : (chr x).2 = 0
        · rw [rdT_bad x acc p hx hq hn] at h; cases h
        · rw [rdT_next x acc p hx hq hn] at h
          have h2 := (rdT_le _ _ _ _ _ _ _ (Nat.le_refl _) h).1
          have hc := chr_loc ht hl hn (by omega)
          rw [rdT_next y acc p (by omega) (by rw [at_take ht 0 (by omega)]; exact hq) (by rw [hc]; exact hn), hc]
          have hd : (x.drop (chr x).2).length = x.length - (chr x).2 := List.length_drop
          refine ih _ _ _ _ k t n (by rw [hd]; omega) h ?_ ?_
          · have := drop_take_eq ht (chr x).2
            rw [show n - (p + (chr x).2) = n - p - (chr x).2 by omega]
            exact this
          · rw [List.length_drop]; omega
    · rw [rdT_end x acc p (by omega)] at h; cases h
theorem symF_loc (ys : List (List UInt8)) (hy : ∀ z ∈ ys, ∀ b ∈ z, isBl b.toNat = false) {x y : List UInt8} {k : Int} {t : List UInt8} {n : Nat} (h : symF ys x = .tok k t n) (ht : y.take n = x.take n)
    (H : ∀ z, (∀ b ∈ z, isBl b.toNat = false) → z <+: y → z <+: x) : symF ys y = .tok k t n := by
  induction ys with
  | nil => cases h
  | cons z r ih =>
    unfold symF at h ⊢
    by_cases hp : Lib.hasPrefix x z = true
    · rw [if_pos hp] at h
      injection h with h1 h2 h3
      have hpx : z <+: x := by unfold Lib.hasPrefix at hp; rwa [List.isPrefixOf_iff_prefix] at hp
      have hz : z = x.take n := by rw [← h3]; exact List.prefix_iff_eq_take.1 hpx
      have hpy : Lib.hasPrefix y z = true := by
        unfold Lib.hasPrefix
        rw [List.isPrefixOf_iff_prefix, hz, ← ht]
        exact List.take_prefix _ _
      rw [if_pos hpy, h3, h1, h2]
    · rw [if_neg hp] at h
      have hpy : ¬ Lib.hasPrefix y z = true := by
        intro hy2
        apply hp
        unfold Lib.hasPrefix at hy2 ⊢
        rw [List.isPrefixOf_iff_prefix] at hy2 ⊢
        exact H z (hy z (by simp)) hy2
      rw [if_neg hpy]
      exact ih (fun z hz => hy z (by simp [hz])) h
theorem sym_nobl : ∀ z ∈ symL, ∀ b ∈ z, isBl b.toNat = false := by decide +kernel
/-- A token depends on its own bytes and on what ends it. -/
theorem nextT_loc {x y : List UInt8} {k : Int} {t : List UInt8} {n : Nat} (h : nextT x = .tok k t n) (hx : 0 < x.length) (ht : y.take n = x.take n) (hn : n ≤ y.length)
    (H2 : n < y.length → isBl (y.getD n 0).toNat = true ∨ (n < x.length ∧ y.getD n 0 = x.getD n 0))
    (H : ∀ z, (∀ b ∈ z, isBl b.toNat = false) → z <+: y → z <+: x) : nextT y = .tok k t n := by
  have hn1 := (nextT_le x hx k t n h).1
  have hf : fst y = fst x := by unfold fst; rw [getD_take_eq ht 0 hn1]
  unfold nextT at h ⊢
  rw [hf]
  by_cases h1 : isLt (fst x) = true
  · rw [if_pos h1] at h ⊢
    unfold wordT at h ⊢
    have hsn : spn isWd x = n := by
      cases hw : wkOf (x.take (spn isWd x)) with
      | none => rw [hw] at h; cases h
      | some j => rw [hw] at h; injection h
    have hsy : spn isWd y = n := spn_same isWd hsn ht hn (fun hlt => by
      rcases H2 hlt with hb | ⟨hl, he⟩
      · exact (bl_wd hb).1
      · rw [he, ← hsn]; exact spn_end isWd x (by omega))
    rw [hsn] at h
    rw [hsy, ht]
    exact h
  · rw [if_neg h1] at h ⊢
    by_cases h2 : isDg (fst x) = true
    · rw [if_pos h2] at h ⊢
      unfold numT at h ⊢
      split at h
      · cases h
      · rename_i hc
        have hsn : spn isDg x = n := by injection h
        have hsy : spn isDg y = n := spn_same isDg hsn ht hn (fun hlt => by
          rcases H2 hlt with hb | ⟨hl, he⟩
          · exact (bl_wd hb).2
          · rw [he, ← hsn]; exact spn_end isDg x (by omega))
        rw [hsn] at h hc
        rw [hsy, hf, ht]
        rw [if_neg]
        · exact h
        · intro hy
          apply hc
          rcases hy with hy | hy | ⟨hy, hw⟩
          · exact Or.inl hy
          · exact Or.inr (Or.inl hy)
          · rcases H2 hy with hb | ⟨hl, he⟩
            · rw [(bl_wd hb).1] at hw; cases hw
            · exact Or.inr (Or.inr ⟨hl, by rw [← he]; exact hw⟩)
    · rw [if_neg h2] at h ⊢
      by_cases h3 : fst x = 34
      · rw [if_pos h3] at h ⊢
        unfold textT at h ⊢
        refine rdT_loc _ _ _ _ _ _ _ _ (Nat.le_refl _) h (drop_take_eq ht 1) ?_
        rw [List.length_drop]; omega
      · rw [if_neg h3] at h ⊢
        exact symF_loc symL sym_nobl h ht H
end Go.Proofs.YtmgmmbikdmobpaaDoor
