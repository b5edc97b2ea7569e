/- lexer: the size of a token. -/
import Derived.Test.YtmgmmbikdmobpaaGreatDoorLxTk
namespace Go.Proofs.YtmgmmbikdmobpaaGreatDoor
open Go.RowKit

theorem rdT_le (m : Nat) : ∀ (r acc : List UInt8) (p : Nat) (k : Int) (t : List UInt8) (n : Nat), r.length ≤ m → rdT r acc p = .tok k t n → p < n ∧ n ≤ p + r.length := by
  induction m with
  | zero =>
    intro r acc p k t n hm h
    rw [rdT_end r acc p (by omega)] at h
    cases h
  | succ m ih =>
    intro r acc p k t n hm h
    by_cases hl : 0 < r.length
    · by_cases hq : at' r 0 = 34
      · rw [rdT_quote r acc p hl hq] at h
        injection h with _ _ h3
        omega
      · by_cases hn : (chr r).2 = 0
        · rw [rdT_bad r acc p hl hq hn] at h
          cases h
        · rw [rdT_next r acc p hl hq hn] at h
          have hc := (chr_le r hl).1
          have hd : (r.drop (chr r).2).length = r.length - (chr r).2 := List.length_drop
          have := ih _ _ _ k t n (by rw [hd]; omega) h
          rw [hd] at this
          omega
    · rw [rdT_end r acc p (by omega)] at h
      cases h
theorem symF_le (ys : List (List UInt8)) (l : List UInt8) (k : Int) (t : List UInt8) (n : Nat) (hy : ∀ y ∈ ys, 0 < y.length) (h : symF ys l = .tok k t n) : 0 < n ∧ n ≤ l.length := by
  induction ys with
  | nil => cases h
  | cons y r ih =>
    unfold symF at h
    by_cases hp : Lib.hasPrefix l y = true
    · rw [if_pos hp] at h
      injection h with _ _ h3
      unfold Lib.hasPrefix at hp
      rw [List.isPrefixOf_iff_prefix] at hp
      have h4 := hp.length_le
      have h5 := hy y (by simp)
      omega
    · rw [if_neg hp] at h
      exact ih (fun z hz => hy z (by simp [hz])) h
theorem spn_pos (p : Nat → Bool) (l : List UInt8) (h : 0 < l.length) (hp : p (fst l) = true) : 0 < spn p l := by
  unfold spn
  cases l with
  | nil => simp at h
  | cons b r =>
    have hb : p b.toNat = true := by simpa [fst] using hp
    rw [List.takeWhile_cons, hb]; simp
theorem nextT_le (l : List UInt8) (h0 : 0 < l.length) (k : Int) (t : List UInt8) (n : Nat) (h : nextT l = .tok k t n) : 0 < n ∧ n ≤ l.length := by
  unfold nextT at h
  by_cases h1 : isLt (fst l) = true
  · rw [if_pos h1] at h
    have hle := spn_le isWd l
    have hp := spn_pos isWd l h0 (by unfold isWd; rw [h1]; rfl)
    unfold wordT at h
    cases hw : wkOf (l.take (spn isWd l)) with
    | none => rw [hw] at h; cases h
    | some j =>
      rw [hw] at h
      injection h with _ _ h3
      omega
  · rw [if_neg h1] at h
    by_cases h2 : isDg (fst l) = true
    · rw [if_pos h2] at h
      have hle := spn_le isDg l
      have hp := spn_pos isDg l h0 h2
      unfold numT at h
      split at h
      · cases h
      · injection h with _ _ h3
        omega
    · rw [if_neg h2] at h
      by_cases h3 : fst l = 34
      · rw [if_pos h3] at h
        unfold textT at h
        have hd : (l.drop 1).length = l.length - 1 := List.length_drop
        have h4 := rdT_le _ _ _ _ k t n (Nat.le_refl _) h
        rw [hd] at h4
        omega
      · rw [if_neg h3] at h
        exact symF_le symL l k t n (by decide +kernel) h
theorem rdT_err (m : Nat) : ∀ (r acc : List UInt8) (p : Nat) (e : Int), r.length ≤ m → rdT r acc p = .err e → e = 3 := by
  induction m with
  | zero =>
    intro r acc p e hm h
    rw [rdT_end r acc p (by omega)] at h
    injection h with h; exact h.symm
  | succ m ih =>
    intro r acc p e hm h
    by_cases hl : 0 < r.length
    · by_cases hq : at' r 0 = 34
      · rw [rdT_quote r acc p hl hq] at h
        cases h
      · by_cases hn : (chr r).2 = 0
        · rw [rdT_bad r acc p hl hq hn] at h
          injection h with h; exact h.symm
        · rw [rdT_next r acc p hl hq hn] at h
          have hd : (r.drop (chr r).2).length = r.length - (chr r).2 := List.length_drop
          exact ih _ _ _ e (by rw [hd]; omega) h
    · rw [rdT_end r acc p (by omega)] at h
      injection h with h; exact h.symm
theorem symF_err (ys : List (List UInt8)) (l : List UInt8) (e : Int) (h : symF ys l = .err e) : e = 3 := by
  induction ys with
  | nil => injection h with h; exact h.symm
  | cons y r ih =>
    unfold symF at h
    by_cases hp : Lib.hasPrefix l y = true
    · rw [if_pos hp] at h; cases h
    · rw [if_neg hp] at h; exact ih h
/-- The errors of a token. -/
theorem nextT_err (l : List UInt8) (e : Int) (h : nextT l = .err e) : e = 3 ∨ e = 4 := by
  unfold nextT at h
  by_cases h1 : isLt (fst l) = true
  · rw [if_pos h1] at h
    unfold wordT at h
    cases hw : wkOf (l.take (spn isWd l)) with
    | none => rw [hw] at h; injection h with h; exact Or.inr h.symm
    | some j => rw [hw] at h; cases h
  · rw [if_neg h1] at h
    by_cases h2 : isDg (fst l) = true
    · rw [if_pos h2] at h
      unfold numT at h
      split at h
      · injection h with h; exact Or.inl h.symm
      · cases h
    · rw [if_neg h2] at h
      by_cases h3 : fst l = 34
      · rw [if_pos h3] at h
        exact Or.inl (rdT_err _ _ _ _ e (Nat.le_refl _) h)
      · rw [if_neg h3] at h
        exact Or.inl (symF_err _ _ e h)
end Go.Proofs.YtmgmmbikdmobpaaGreatDoor
