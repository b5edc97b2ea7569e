/- lexer: the literal of a string is read as this string. -/
import Derived.Test.YtmgmmbikdmobpaaDoorLex
import Derived.Test.YtmgmmbikdmobpaaDoorLxQ
namespace Go.Proofs.YtmgmmbikdmobpaaDoor
open Go.RowKit

theorem hexV_hexd (n : Nat) (h : n < 16) : hexV (hexd n).toNat = (n : Int) := by
  have key : ∀ x : Fin 16, hexV (hexd x.val).toNat = (x.val : Int) := by decide +kernel
  exact key ⟨n, h⟩
theorem esc_cases (b : UInt8) : (b = 10 ∧ esc b = [92, 110]) ∨ ((b = 34 ∨ b = 92) ∧ esc b = [92, b]) ∨ (esc b = [92, 120, hexd (b.toNat / 16), hexd (b.toNat % 16)]) ∨ (32 ≤ b.toNat ∧ b.toNat ≤ 126 ∧ b ≠ 34 ∧ b ≠ 92 ∧ esc b = [b]) := by
  unfold esc
  by_cases h1 : b = 10
  · exact Or.inl ⟨h1, if_pos h1⟩
  · rw [if_neg h1]
    by_cases h2 : b = 34 ∨ b = 92
    · exact Or.inr (Or.inl ⟨h2, if_pos h2⟩)
    · rw [if_neg h2]
      by_cases h3 : b < 32 ∨ 126 < b
      · exact Or.inr (Or.inr (Or.inl (if_pos h3)))
      · rw [if_neg h3]
        refine Or.inr (Or.inr (Or.inr ⟨?_, ?_, fun e => h2 (Or.inl e), fun e => h2 (Or.inr e), rfl⟩))
        · have h4 : ¬ b.toNat < 32 := fun h => h3 (Or.inl h)
          omega
        · have h4 : ¬ 126 < b.toNat := fun h => h3 (Or.inr h)
          omega
theorem chr_esc (b : UInt8) (r : List UInt8) : chr (esc b ++ r) = (b.toNat, (esc b).length) ∧ at' (esc b ++ r) 0 ≠ 34 := by
  have hb := b.toNat_lt
  rcases esc_cases b with ⟨hx, he⟩ | ⟨hx, he⟩ | he | ⟨h1, h2, h3, h4, he⟩
  · subst hx; rw [he]; exact ⟨by simp [chr, at'], by simp [at']⟩
  · rw [he]
    refine ⟨?_, by simp [at']⟩
    rcases hx with hx | hx
    · subst hx; simp [chr, at']
    · subst hx; simp [chr, at']
  · rw [he]
    have e1 := hexV_hexd (b.toNat / 16) (by omega)
    have e2 := hexV_hexd (b.toNat % 16) (by omega)
    refine ⟨?_, by simp [at']⟩
    generalize hexd (b.toNat / 16) = x at e1
    generalize hexd (b.toNat % 16) = y at e2
    have hc : chr ([92, 120, x, y] ++ r) = ((16 * hexV x.toNat + hexV y.toNat).toNat, 4) := by
      simp [chr, at', e1, e2]
      omega
    rw [hc, e1, e2]
    show ((16 * ((b.toNat / 16 : Nat) : Int) + ((b.toNat % 16 : Nat) : Int)).toNat, 4) = (b.toNat, 4)
    congr 1
    omega
  · rw [he]
    have h5 : b.toNat ≠ 34 := fun e => h3 (UInt8.toNat_inj.1 e)
    have h6 : b.toNat ≠ 92 := fun e => h4 (UInt8.toNat_inj.1 e)
    refine ⟨?_, by simpa [at'] using h5⟩
    have ha : at' ([b] ++ r) 0 = b.toNat := by simp [at']
    unfold chr
    rw [ha, if_neg (by omega), if_pos h6]
    rfl
theorem rdT_esc (s : List UInt8) : ∀ (acc : List UInt8) (p : Nat) (r : List UInt8), rdT (s.flatMap esc ++ 34 :: r) acc p = .tok 4 (acc ++ s) (p + (s.flatMap esc).length + 1) := by
  induction s with
  | nil =>
    intro acc p r
    simp only [List.flatMap_nil, List.nil_append, List.append_nil, List.length_nil, Nat.add_zero]
    exact rdT_quote _ _ _ (by simp) (by simp [at'])
  | cons b s ih =>
    intro acc p r
    rw [List.flatMap_cons, List.append_assoc]
    obtain ⟨h1, h2⟩ := chr_esc b (s.flatMap esc ++ 34 :: r)
    have hl : 0 < (esc b).length := by rcases esc_cases b with ⟨_, he⟩ | ⟨_, he⟩ | he | ⟨_, _, _, _, he⟩ <;> rw [he] <;> simp
    rw [rdT_next _ _ _ (by rw [List.length_append]; omega) h2 (by rw [h1]; show (esc b).length ≠ 0; omega), h1]
    show rdT ((esc b ++ (s.flatMap esc ++ 34 :: r)).drop (esc b).length) (acc ++ [UInt8.ofNat b.toNat]) (p + (esc b).length) = _
    rw [List.drop_left, ih]
    have e1 : acc ++ [UInt8.ofNat b.toNat] ++ s = acc ++ b :: s := by simp
    have e2 : p + (esc b).length + (s.flatMap esc).length + 1 = p + (esc b ++ s.flatMap esc).length + 1 := by rw [List.length_append]; omega
    rw [e1, e2]
/-- The literal of a string. -/
def quoL (s : List UInt8) : List UInt8 := [34] ++ s.flatMap esc ++ [34]
theorem text_quo (s r : List UInt8) : nextT (quoL s ++ r) = .tok 4 s (quoL s).length := by
  have hd : quoL s ++ r = 34 :: (s.flatMap esc ++ 34 :: r) := by unfold quoL; simp
  have hf : fst (34 :: (s.flatMap esc ++ 34 :: r)) = 34 := rfl
  rw [hd]
  unfold nextT
  rw [hf, if_neg (by decide), if_neg (by decide), if_pos rfl]
  unfold textT
  rw [List.drop_succ_cons, List.drop_zero, rdT_esc]
  unfold quoL
  simp
  omega
theorem esc_print (b : UInt8) : ∀ c ∈ esc b, 32 ≤ c.toNat ∧ c.toNat ≤ 126 := by
  have key : ∀ x : Fin 256, (esc (UInt8.ofNat x.val)).all (fun c => decide (32 ≤ c.toNat ∧ c.toNat ≤ 126)) = true := by decide +kernel
  intro c hc
  have h := key ⟨b.toNat, b.toNat_lt⟩
  simp only [UInt8.ofNat_toNat] at h
  have := List.all_eq_true.1 h c hc
  simpa using this
theorem quo_print (s : List UInt8) : ∀ c ∈ quoL s, 32 ≤ c.toNat ∧ c.toNat ≤ 126 := by
  intro c hc
  unfold quoL at hc
  rw [List.mem_append, List.mem_append] at hc
  rcases hc with (hc | hc) | hc
  · rw [List.mem_singleton.1 hc]; decide
  · obtain ⟨b, _, hb⟩ := List.mem_flatMap.1 hc
    exact esc_print b c hb
  · rw [List.mem_singleton.1 hc]; decide
theorem esc_len (b : UInt8) : (esc b).length ≤ 4 := by
  rcases esc_cases b with ⟨_, he⟩ | ⟨_, he⟩ | he | ⟨_, _, _, _, he⟩ <;> rw [he] <;> simp
theorem flat_len (s : List UInt8) : (s.flatMap esc).length ≤ 4 * s.length := by
  induction s with
  | nil => simp
  | cons b s ih =>
    have := esc_len b
    rw [List.flatMap_cons, List.length_append, List.length_cons]
    omega
theorem quo_len (s : List UInt8) : (quoL s).length ≤ 4 * s.length + 2 := by
  have := flat_len s
  unfold quoL
  simp only [List.length_append, List.length_cons, List.length_nil]
  omega
theorem sep_nil : sep [] = 0 := by rw [sep_no _ (by decide)]; rfl
theorem lex_quo (s : List UInt8) (hs : s.length ≤ 1000) : lexL (32 :: quoL s) = ([⟨4, s, 1, 0⟩, ⟨0, [], 1 + (quoL s).length, 0⟩], 0, 0) := by
  have hq := quo_len s
  have hsep : sep (32 :: quoL s) = 1 := by
    have hsp : spn isBl (32 :: quoL s) = 1 := by
      rw [spn_cons, if_pos (by decide)]
      have : spn isBl (quoL s) = 0 := by
        unfold quoL
        rw [List.append_assoc, List.singleton_append, spn_cons, if_neg (by decide)]
      rw [this]
    rw [sep_no _ ?_, hsp]
    rw [hsp]
    rfl
  have hn := text_quo s []
  rw [List.append_nil] at hn
  have hall : allT (32 :: quoL s) = [⟨4, s, 1, 0⟩, ⟨0, [], 1 + (quoL s).length, 0⟩] := by
    unfold allT
    rw [hsep, List.length_cons, toks, if_pos (by unfold quoL; simp), List.drop_succ_cons, List.drop_zero, hn]
    simp only []
    rw [toks_end _ _ _ (by rw [List.length_cons]; omega), List.drop_of_length_le (by rw [List.length_cons]; omega), sep_nil]
    rfl
  unfold lexL
  rw [if_neg (by rw [List.length_cons]; omega), hall]
  exact lexOut_good _ (by intro x hx; simp only [List.mem_cons, List.not_mem_nil, or_false] at hx; rcases hx with rfl | rfl <;> rfl)
end Go.Proofs.YtmgmmbikdmobpaaDoor
