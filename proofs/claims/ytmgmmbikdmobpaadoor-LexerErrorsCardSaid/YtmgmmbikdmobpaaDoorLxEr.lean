/- lexer: what stands in front of an error, and what begins there. -/
import Derived.Test.YtmgmmbikdmobpaaDoorLxLc
namespace Go.Proofs.YtmgmmbikdmobpaaDoor
open Go.RowKit

theorem spn_drop0 (p : Nat → Bool) : ∀ (l : List UInt8), spn p (l.drop (spn p l)) = 0 := by
  intro l
  induction l with
  | nil => rfl
  | cons b l ih =>
    rw [spn_cons]
    by_cases hb : p b.toNat = true
    · rw [if_pos hb, List.drop_succ_cons]; exact ih
    · rw [if_neg hb, List.drop_zero, spn_cons, if_neg hb]
theorem spn_take (p : Nat → Bool) : ∀ (l : List UInt8) (m : Nat), spn p l ≤ m → spn p (l.take m) = spn p l := by
  intro l
  induction l with
  | nil => intro m _; rw [List.take_nil]
  | cons b l ih =>
    intro m h
    rw [spn_cons] at h ⊢
    by_cases hb : p b.toNat = true
    · rw [if_pos hb] at h ⊢
      obtain ⟨m, rfl⟩ : ∃ k, m = k + 1 := ⟨m - 1, by omega⟩
      rw [List.take_succ_cons, spn_cons, if_pos hb, ih m (by omega)]
    · rw [if_neg hb]
      cases m with
      | zero => rfl
      | succ m => rw [List.take_succ_cons, spn_cons, if_neg hb]
theorem cmt_take_no {l : List UInt8} {m : Nat} (h : cmt l = false) : cmt (l.take m) = false := by
  cases hc : cmt (l.take m) with
  | false => rfl
  | true =>
    unfold cmt Lib.hasPrefix at h hc
    rw [List.isPrefixOf_iff_prefix] at hc
    have h2 : [47, 47] <+: l := hc.trans (List.take_prefix _ _)
    rw [← List.isPrefixOf_iff_prefix, h] at h2
    cases h2
theorem cmt_take_yes {l : List UInt8} {m : Nat} (h : cmt l = true) (hm : 2 ≤ m) : cmt (l.take m) = true := by
  unfold cmt Lib.hasPrefix at h ⊢
  rw [List.isPrefixOf_iff_prefix] at h ⊢
  obtain ⟨r, rfl⟩ := h
  rw [List.take_append]
  have h2 : List.take m ([47, 47] : List UInt8) = [47, 47] := List.take_of_length_le (by simpa using hm)
  rw [h2]
  exact List.prefix_append _ _
/-- Behind the blanks and comments there are none. -/
theorem sep_sep (l : List UInt8) : sep (l.drop (sep l)) = 0 := by
  have key : ∀ (n : Nat) (l : List UInt8), l.length ≤ n → sep (l.drop (sep l)) = 0 := by
    intro n
    induction n with
    | zero =>
      intro l hl
      obtain rfl : l = [] := List.eq_nil_of_length_eq_zero (by omega)
      rw [sep_no [] (by decide)]
      exact sep_no [] (by decide)
    | succ n ih =>
      intro l hl
      cases hc : cmt (l.drop (spn isBl l)) with
      | true =>
        have h1 := cmt_pos hc
        have h2 := spn_le isNl (l.drop (spn isBl l))
        rw [List.length_drop] at h2
        rw [sep_yes l hc]
        have h3 := ih (l.drop (spn isBl l + spn isNl (l.drop (spn isBl l)))) (by rw [List.length_drop]; omega)
        rw [List.drop_drop] at h3
        exact h3
      | false =>
        rw [sep_no l hc, sep_no _ (by rw [spn_drop0]; exact hc), spn_drop0]
  exact key _ l (Nat.le_refl _)
theorem sep_take (l : List UInt8) (m : Nat) (h : sep l ≤ m) : sep (l.take m) = sep l := by
  have key : ∀ (n : Nat) (l : List UInt8) (m : Nat), l.length ≤ n → sep l ≤ m → sep (l.take m) = sep l := by
    intro n
    induction n with
    | zero =>
      intro l m hl _
      obtain rfl : l = [] := List.eq_nil_of_length_eq_zero (by omega)
      rw [List.take_nil]
    | succ n ih =>
      intro l m hl hm
      have h0 := spn_le isBl l
      cases hc : cmt (l.drop (spn isBl l)) with
      | true =>
        have h1 := cmt_pos hc
        have h2 := spn_le isNl (l.drop (spn isBl l))
        rw [List.length_drop] at h2
        rw [sep_yes l hc] at hm ⊢
        have h3 := ih (l.drop (spn isBl l + spn isNl (l.drop (spn isBl l)))) (m - (spn isBl l + spn isNl (l.drop (spn isBl l)))) (by rw [List.length_drop]; omega) (by omega)
        have e1 : spn isBl (l.take m) = spn isBl l := spn_take isBl l m (by omega)
        have e2 : (l.take m).drop (spn isBl l) = (l.drop (spn isBl l)).take (m - spn isBl l) := List.drop_take
        have e3 : spn isNl ((l.take m).drop (spn isBl l)) = spn isNl (l.drop (spn isBl l)) := by rw [e2]; exact spn_take isNl _ _ (by omega)
        have hy : cmt ((l.take m).drop (spn isBl (l.take m))) = true := by rw [e1, e2]; exact cmt_take_yes hc (by omega)
        rw [sep_yes _ hy, e1, e3, List.drop_take, h3]
      | false =>
        rw [sep_no l hc] at hm ⊢
        have e1 : spn isBl (l.take m) = spn isBl l := spn_take isBl l m (by omega)
        have hy : cmt ((l.take m).drop (spn isBl (l.take m))) = false := by rw [e1, List.drop_take]; exact cmt_take_no hc
        rw [sep_no _ hy, e1]
  exact key _ l m (Nat.le_refl _) h
theorem nextT_take {x : List UInt8} {k : Int} {t : List UInt8} {n m : Nat} (h : nextT x = .tok k t n) (hx : 0 < x.length) (hm : n ≤ m) : nextT (x.take m) = .tok k t n := by
  have hn := nextT_le x hx k t n h
  refine nextT_loc h hx (by rw [List.take_take, Nat.min_eq_left hm]) (by rw [List.length_take]; omega) (fun hlt => Or.inr ⟨?_, ?_⟩) (fun z _ hz => hz.trans (List.take_prefix _ _))
  · rw [List.length_take] at hlt; omega
  · rw [List.length_take] at hlt
    rw [List.getD_eq_getElem?_getD, List.getD_eq_getElem?_getD, List.getElem?_take, if_pos (by omega)]

/-- Where an error is found: what stands in front of it has none; the same error is found where it begins. -/
theorem toks_cut (l : List UInt8) : ∀ (f p : Nat) (x : TkY), x ∈ toks l f p → x.e ≠ 0 → sep (l.drop p) = 0 →
    (sep (l.drop x.o) = 0 ∧ nextT (l.drop x.o) = .err x.e) ∧ ∀ f', x.o ≤ f' + p → ∀ z ∈ toks (l.take x.o) f' p, z.e = 0 := by
  intro f
  induction f with
  | zero =>
    intro p x hx he _
    simp only [toks, List.mem_singleton] at hx
    subst hx; exact absurd rfl he
  | succ f ih =>
    intro p x hx he hs0
    have hbad := toks_bad l _ _ x hx he
    by_cases hlt : p < l.length
    · rw [toks, if_pos hlt] at hx
      cases hn : nextT (l.drop p) with
      | err e =>
        rw [hn] at hx
        simp only [List.mem_singleton] at hx
        subst hx
        refine ⟨⟨hs0, hn⟩, fun f' _ z hz => ?_⟩
        rw [toks_end _ _ _ (by rw [List.length_take]; show ¬ p < min p l.length; omega), List.mem_singleton] at hz
        rw [hz]
      | tok k t n =>
        rw [hn] at hx
        simp only [List.mem_cons] at hx
        rcases hx with rfl | hx
        · exact absurd rfl he
        · have hdl : (l.drop p).length = l.length - p := List.length_drop
          obtain ⟨n0, n1⟩ := nextT_le _ (by omega) _ _ _ hn
          have hge := (toks_bad l _ _ x hx he).1
          obtain ⟨h1, h2⟩ := ih _ x hx he (by have := sep_sep (l.drop (p + n)); rw [List.drop_drop] at this; exact this)
          refine ⟨h1, fun f' hf' z hz => ?_⟩
          have hlo : p < (l.take x.o).length := by rw [List.length_take]; omega
          have hnt : nextT ((l.take x.o).drop p) = .tok k t n := by rw [List.drop_take]; exact nextT_take hn (by omega) (by omega)
          have hst : sep ((l.take x.o).drop (p + n)) = sep (l.drop (p + n)) := by rw [List.drop_take]; exact sep_take _ _ (by omega)
          obtain ⟨f', rfl⟩ : ∃ g, f' = g + 1 := ⟨f' - 1, by omega⟩
          rw [toks, if_pos hlo, hnt] at hz
          simp only [List.mem_cons] at hz
          rcases hz with rfl | hz
          · rfl
          · rw [hst] at hz
            exact h2 f' (by omega) z hz
    · omega
theorem lex_cut (l : List UInt8) (hl : ¬ 65536 < l.length) (o : Nat) (er : Int) (h : lexL l = ([], o, er)) (he : er ≠ 0) : (lexL (l.take o)).2.2 = 0 ∧ (lexL (l.drop o)).2 = (0, er) := by
  rcases lex_or l hl with ⟨h1, _⟩ | ⟨x, hx, hxe, h1⟩
  · rw [h] at h1
    injection h1 with _ h2
    injection h2 with _ h3
    exact absurd h3 he
  · rw [h] at h1
    injection h1 with _ h2
    injection h2 with h3 h4
    subst h3; subst h4
    obtain ⟨⟨s0, e0⟩, hg⟩ := toks_cut l _ _ x hx hxe (sep_sep l)
    have hb := toks_bad l _ _ x hx hxe
    have hlt : (l.take x.o).length = x.o := by rw [List.length_take]; omega
    constructor
    · have hsep : sep (l.take x.o) = sep l := sep_take l x.o hb.1
      have hz : ∀ z ∈ allT (l.take x.o), z.e = 0 := by
        unfold allT
        rw [hsep, hlt]
        exact hg x.o (by omega)
      unfold lexL
      rw [if_neg (by omega), lexOut_good _ hz]
    · have hd : (l.drop x.o).length = l.length - x.o := List.length_drop
      have ha : allT (l.drop x.o) = [⟨0, [], 0, x.e⟩] := by
        unfold allT
        rw [s0]
        obtain ⟨f, hf⟩ : ∃ f, (l.drop x.o).length = f + 1 := ⟨(l.drop x.o).length - 1, by omega⟩
        rw [hf, toks, if_pos (by omega), List.drop_zero, e0]
      unfold lexL
      rw [if_neg (by omega), ha, lexOut_bad [⟨0, [], 0, x.e⟩] [] ⟨0, [], 0, x.e⟩ (List.prefix_refl _) (by intro y hy; cases hy) hxe]
end Go.Proofs.YtmgmmbikdmobpaaDoor
