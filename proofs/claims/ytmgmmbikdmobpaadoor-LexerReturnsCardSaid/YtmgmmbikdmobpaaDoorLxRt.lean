/- lexer: tokens that are written with blanks and comments between them are read as these tokens. -/
import Derived.Test.YtmgmmbikdmobpaaDoorLxLc
import Derived.Test.YtmgmmbikdmobpaaDoorLxQt
namespace Go.Proofs.YtmgmmbikdmobpaaDoor
open Go.RowKit

/-- What is written for a token. -/
def wT (x : TkY) : List UInt8 := if x.k = 4 then quoL x.t else x.t
/-- It begins with a blank. -/
def Bl1 (g : List UInt8) : Prop := ∃ b r, g = b :: r ∧ isBl b.toNat = true
/-- A token that is read as it is written, if nothing or a blank stands behind it. -/
structure Canon (x : TkY) : Prop where
  err : x.e = 0
  pos : 0 < (wT x).length
  is : ∀ r, (r = [] ∨ Bl1 r) → nextT (wT x ++ r) = .tok x.k x.t (wT x).length
  sep : ∀ r, (r = [] ∨ Bl1 r) → Go.Proofs.YtmgmmbikdmobpaaDoor.sep (wT x ++ r) = 0
theorem sep_zero {y : List UInt8} (h : isBl (fst y) = false) (hc : fst y ≠ 47 ∨ at' y 1 ≠ 47) : sep y = 0 := by
  have hs : spn isBl y = 0 := by
    cases y with
    | nil => rfl
    | cons b r => rw [spn_cons, if_neg (by rw [show fst (b :: r) = b.toNat from rfl] at h; rw [h]; decide)]
  rw [sep_no _ ?_, hs]
  rw [hs, List.drop_zero]
  cases hcm : cmt y with
  | false => rfl
  | true =>
    unfold cmt Lib.hasPrefix at hcm
    rw [List.isPrefixOf_iff_prefix] at hcm
    obtain ⟨t, rfl⟩ := hcm
    rcases hc with h1 | h1 <;> exact absurd rfl h1
theorem fst_app {t r : List UInt8} (h : 0 < t.length) : fst (t ++ r) = fst t := by
  cases t with
  | nil => simp at h
  | cons b t => rfl
theorem lt_nb {c : Nat} (h : isLt c = true) : isBl c = false ∧ c ≠ 47 := by
  have h2 : (97 ≤ c ∧ c ≤ 122) ∨ (65 ≤ c ∧ c ≤ 90) := by
    unfold isLt isSm isCp at h; simpa using h
  refine ⟨?_, by omega⟩
  unfold isBl
  simp only [Bool.or_eq_false_iff, beq_eq_false_iff_ne]
  omega
theorem dg_nb {c : Nat} (h : isDg c = true) : isBl c = false ∧ c ≠ 47 := by
  have h2 : 48 ≤ c ∧ c ≤ 57 := by unfold isDg at h; simpa using h
  refine ⟨?_, by omega⟩
  unfold isBl
  simp only [Bool.or_eq_false_iff, beq_eq_false_iff_ne]
  omega
theorem sym_fst : ∀ z ∈ symL, 0 < z.length ∧ isBl (fst z) = false ∧ (z = [47] ∨ fst z ≠ 47) := by decide +kernel
/-- A token that was read is such a token. -/
theorem canon_of (l : List UInt8) (h0 : 0 < l.length) (k : Int) (t : List UInt8) (n o : Nat) (h : nextT l = .tok k t n) : Canon ⟨k, t, o, 0⟩ := by
  have hk := nextT_tok l h0 k t n h
  obtain ⟨n0, n1⟩ := nextT_le l h0 k t n h
  rcases hk with ⟨rfl, h34, hlen⟩ | ⟨k4, k0, ht⟩
  · have hw : wT ⟨4, t, o, 0⟩ = quoL t := if_pos rfl
    refine ⟨rfl, ?_, fun r _ => ?_, fun r _ => ?_⟩
    · rw [hw]; unfold quoL; simp
    · rw [hw]; exact text_quo t r
    · rw [hw]
      have hf : fst (quoL t ++ r) = 34 := by unfold quoL; simp [fst]
      exact sep_zero (by rw [hf]; rfl) (Or.inl (by rw [hf]; decide))
  · have hw : wT ⟨k, t, o, 0⟩ = t := if_neg k4
    have htl : t.length = n := by rw [ht, List.length_take]; omega
    have hft : fst t = fst l := by
      unfold fst
      rw [ht, List.getD_eq_getElem?_getD, List.getD_eq_getElem?_getD, List.getElem?_take, if_pos n0]
    refine ⟨rfl, by rw [hw]; omega, fun r hr => ?_, fun r hr => ?_⟩
    · rw [hw, htl]
      refine nextT_loc h h0 (by rw [List.take_append_of_le_length (by omega), List.take_of_length_le (by omega)]; exact ht) (by rw [List.length_append]; omega) (fun hlt => Or.inl ?_) (fun z hz hpre => ?_)
      · rcases hr with rfl | ⟨b, r', rfl, hb⟩
        · rw [List.append_nil] at hlt; omega
        · rw [List.getD_eq_getElem?_getD, List.getElem?_append_right (by omega), htl, Nat.sub_self]; exact hb
      · have hzl : z.length ≤ n := by
          by_cases hlt : n < z.length
          · exfalso
            rcases hr with rfl | ⟨b, r', rfl, hb⟩
            · have := hpre.length_le; rw [List.append_nil] at this; omega
            · have hm : b ∈ z := by
                obtain ⟨u, hu⟩ := hpre
                have h1 : (z ++ u)[n]? = some b := by rw [hu, List.getElem?_append_right (by omega), htl, Nat.sub_self]; rfl
                rw [List.getElem?_append_left hlt] at h1
                exact List.mem_of_getElem? h1
              rw [hz b hm] at hb; cases hb
          · omega
        have h2 : z <+: t := List.prefix_of_prefix_length_le hpre (List.prefix_append t r) (by omega)
        rw [ht] at h2
        exact h2.trans (List.take_prefix _ _)
    · rw [hw]
      have hfa : fst (t ++ r) = fst l := by rw [fst_app (by omega), hft]
      unfold nextT at h
      by_cases h1 : isLt (fst l) = true
      · have := lt_nb h1
        exact sep_zero (by rw [hfa]; exact this.1) (Or.inl (by rw [hfa]; exact this.2))
      · rw [if_neg h1] at h
        by_cases h2 : isDg (fst l) = true
        · have := dg_nb h2
          exact sep_zero (by rw [hfa]; exact this.1) (Or.inl (by rw [hfa]; exact this.2))
        · rw [if_neg h2] at h
          by_cases h3 : fst l = 34
          · exact sep_zero (by rw [hfa, h3]; rfl) (Or.inl (by rw [hfa, h3]; decide))
          · rw [if_neg h3] at h
            have hs := symF_tok symL l k t n h
            obtain ⟨s1, s2, s3⟩ := sym_fst t hs.2.2
            refine sep_zero (by rw [fst_app s1]; exact s2) ?_
            rcases s3 with rfl | s3
            · right
              rcases hr with rfl | ⟨b, r', rfl, hb⟩
              · decide
              · show b.toNat ≠ 47
                intro e; rw [e] at hb; cases hb
            · left; rw [fst_app s1]; exact s3
/-- The tokens of a source: such tokens, and the end. -/
def goodL : List TkY → Prop
  | [] => False
  | [x] => x.k = 0 ∧ x.t = []
  | x :: y :: r => Canon x ∧ goodL (y :: r)
theorem toks_good (l : List UInt8) : ∀ (f p : Nat), (∀ x ∈ toks l f p, x.e = 0) → goodL (toks l f p) := by
  intro f
  induction f with
  | zero => intro p _; exact ⟨rfl, rfl⟩
  | succ f ih =>
    intro p hg
    by_cases hlt : p < l.length
    · rw [toks, if_pos hlt] at hg ⊢
      cases hn : nextT (l.drop p) with
      | err e =>
        rw [hn] at hg
        have h1 : e = 0 := hg _ (List.mem_singleton.2 rfl)
        have h2 := nextT_err _ _ hn
        omega
      | tok k t n =>
        rw [hn] at hg
        simp only at hg ⊢
        have hr := ih (p + n + sep (l.drop (p + n))) (fun x hx => hg x (by simp [hx]))
        have hc := canon_of (l.drop p) (by rw [List.length_drop]; omega) k t n p hn
        cases hx : toks l f (p + n + sep (l.drop (p + n))) with
        | nil => rw [hx] at hr; exact hr.elim
        | cons y r => rw [hx] at hr; exact ⟨hc, hr⟩
    · rw [toks_end _ _ _ hlt]; exact ⟨rfl, rfl⟩
/-- What stands from a token on. -/
def Suf : List TkY → List UInt8 → Prop
  | [], _ => False
  | [x], y => x.k = 0 ∧ x.t = [] ∧ y = []
  | x :: z :: r, y => Canon x ∧ ∃ g Y, y = wT x ++ (g ++ Y) ∧ Bl1 g ∧ sep (g ++ Y) = g.length ∧ Suf (z :: r) Y
theorem bl1_app {g Y : List UInt8} (h : Bl1 g) : Bl1 (g ++ Y) := by
  obtain ⟨b, r, rfl, hb⟩ := h
  exact ⟨b, r ++ Y, rfl, hb⟩
theorem suf_toks (l : List UInt8) : ∀ (xs : List TkY) (f p : Nat), Suf xs (l.drop p) → l.length ≤ f + p → (toks l f p).map (fun x => (x.k, x.t)) = xs.map (fun x => (x.k, x.t)) ∧ ∀ x ∈ toks l f p, x.e = 0 := by
  intro xs
  induction xs with
  | nil => intro f p h; exact h.elim
  | cons x xs ih =>
    intro f p h hf
    cases xs with
    | nil =>
      obtain ⟨h1, h2, h3⟩ := h
      have hl : ¬ p < l.length := by
        intro hlt
        have := congrArg List.length h3
        rw [List.length_drop] at this
        simp at this; omega
      rw [toks_end _ _ _ hl]
      exact ⟨by simp [h1, h2], fun z hz => by rw [List.mem_singleton.1 hz]⟩
    | cons z r =>
      obtain ⟨hc, g, Y, hy, hg, hs, hS⟩ := h
      have hw := hc.pos
      have hlen := congrArg List.length hy
      rw [List.length_drop, List.length_append] at hlen
      obtain ⟨f, rfl⟩ : ∃ k, f = k + 1 := ⟨f - 1, by omega⟩
      have hn : nextT (l.drop p) = .tok x.k x.t (wT x).length := by rw [hy]; exact hc.is _ (Or.inr (bl1_app hg))
      have hd1 : l.drop (p + (wT x).length) = g ++ Y := by rw [← List.drop_drop, hy, List.drop_left]
      have hd2 : l.drop (p + (wT x).length + g.length) = Y := by rw [← List.drop_drop, hd1, List.drop_left]
      rw [toks, if_pos (by omega), hn]
      simp only
      rw [hd1, hs]
      obtain ⟨i1, i2⟩ := ih f (p + (wT x).length + g.length) (by rw [hd2]; exact hS) (by omega)
      refine ⟨by rw [List.map_cons, i1]; rfl, fun y hy => ?_⟩
      rcases List.mem_cons.1 hy with rfl | hy
      · rfl
      · exact i2 y hy
/-- A source that consists of blanks and comments and such a suffix has these tokens. -/
theorem suf_lex (g Y : List UInt8) (xs : List TkY) (hs : sep (g ++ Y) = g.length) (h : Suf xs Y) (hl : (g ++ Y).length ≤ 65536) : (lexL (g ++ Y)).2 = (0, 0) ∧ (lexL (g ++ Y)).1.map (fun x => (x.k, x.t)) = xs.map (fun x => (x.k, x.t)) := by
  have := suf_toks (g ++ Y) xs (g ++ Y).length g.length (by rw [List.drop_left]; exact h) (by omega)
  unfold lexL
  rw [if_neg (by omega)]
  unfold allT
  rw [hs, lexOut_good _ this.2]
  exact ⟨rfl, this.1⟩
theorem suf_sep {x : TkY} {r : List TkY} {Y : List UInt8} (h : Suf (x :: r) Y) : sep Y = 0 := by
  cases r with
  | nil => rw [h.2.2]; exact sep_nil
  | cons z r =>
    obtain ⟨hc, g, Y', rfl, hg, _, _⟩ := h
    exact hc.sep _ (Or.inr (bl1_app hg))
theorem sep_bl (b : UInt8) (Y : List UInt8) (h : isBl b.toNat = true) : sep (b :: Y) = 1 + sep Y := by
  have hs : spn isBl (b :: Y) = spn isBl Y + 1 := by rw [spn_cons, if_pos h]
  cases hc : cmt (Y.drop (spn isBl Y)) with
  | true =>
    have hc2 : cmt ((b :: Y).drop (spn isBl (b :: Y))) = true := by rw [hs, List.drop_succ_cons]; exact hc
    rw [sep_yes _ hc2, sep_yes _ hc, hs, List.drop_succ_cons, show spn isBl Y + 1 + spn isNl (Y.drop (spn isBl Y)) = (spn isBl Y + spn isNl (Y.drop (spn isBl Y))) + 1 by omega, List.drop_succ_cons]
    omega
  | false =>
    have hc2 : cmt ((b :: Y).drop (spn isBl (b :: Y))) = false := by rw [hs, List.drop_succ_cons]; exact hc
    rw [sep_no _ hc2, sep_no _ hc, hs]; omega
theorem spn_nl : ∀ (c Y : List UInt8), (∀ b ∈ c, b ≠ 10) → spn isNl (c ++ 10 :: Y) = c.length
  | [], Y, _ => by rw [List.nil_append, spn_cons, if_neg (by decide)]; rfl
  | b :: c, Y, h => by
    have hb : isNl b.toNat = true := by
      unfold isNl
      rw [bne_iff_ne]
      intro e; exact h b (by simp) (UInt8.toNat_inj.1 e)
    rw [List.cons_append, spn_cons, if_pos hb, spn_nl c Y (fun x hx => h x (by simp [hx])), List.length_cons]
theorem sep_cm (c Y : List UInt8) (h : ∀ b ∈ c, b ≠ 10) : sep (47 :: 47 :: c ++ 10 :: Y) = c.length + 3 + sep Y := by
  have h0 : spn isBl (47 :: 47 :: c ++ 10 :: Y) = 0 := by rw [List.cons_append, spn_cons, if_neg (by decide)]
  have hn : spn isNl (47 :: 47 :: c ++ 10 :: Y) = c.length + 2 := by
    rw [spn_nl (47 :: 47 :: c) Y (fun b hb => by
      simp only [List.mem_cons] at hb
      rcases hb with rfl | rfl | hb
      · decide
      · decide
      · exact h b hb)]
    simp
  have hc : cmt ((47 :: 47 :: c ++ 10 :: Y).drop (spn isBl (47 :: 47 :: c ++ 10 :: Y))) = true := by rw [h0]; rfl
  rw [sep_yes _ hc, h0, List.drop_zero, hn]
  have hd : (47 :: 47 :: c ++ 10 :: Y).drop (0 + (c.length + 2)) = 10 :: Y := by
    rw [show 0 + (c.length + 2) = (47 :: 47 :: c).length by simp, List.drop_left]
  rw [hd, sep_bl 10 Y (by decide)]
  omega
/-- The blanks and comments of the law. -/
def gapL : Nat → List UInt8
  | 0 => [32]
  | 1 => [9]
  | 2 => [13, 10]
  | 3 => [32, 47, 47, 32, 34, 32, 47, 47, 32, 120, 10]
  | _ => [32, 47, 47, 10, 10]
theorem gap_bl (k : Nat) : Bl1 (gapL k) := by
  unfold gapL
  split <;> exact ⟨_, _, rfl, by decide⟩
theorem gap_len (k : Nat) : (gapL k).length ≤ 11 := by
  unfold gapL
  split <;> decide
theorem gap_sep (k : Nat) (Y : List UInt8) : sep (gapL k ++ Y) = (gapL k).length + sep Y := by
  unfold gapL
  split
  · exact sep_bl 32 Y (by decide)
  · exact sep_bl 9 Y (by decide)
  · show sep (13 :: 10 :: Y) = 2 + sep Y
    rw [sep_bl 13 _ (by decide), sep_bl 10 _ (by decide)]; omega
  · show sep (32 :: (47 :: 47 :: [32, 34, 32, 47, 47, 32, 120] ++ 10 :: Y)) = 11 + sep Y
    rw [sep_bl 32 _ (by decide), sep_cm _ _ (by decide)]
    show 1 + (7 + 3 + sep Y) = _
    omega
  · show sep (32 :: (47 :: 47 :: [] ++ 10 :: 10 :: Y)) = 5 + sep Y
    rw [sep_bl 32 _ (by decide), sep_cm _ _ (by decide), sep_bl 10 _ (by decide)]
    show 1 + (0 + 3 + (1 + sep Y)) = _
    omega
/-- The text with a blank behind each token. -/
def plainL (xs : List TkY) : List UInt8 := xs.flatMap fun x => wT x ++ [32]
/-- The text with a gap in front of each token. -/
def otherL (G : Nat → Nat) : Nat → List TkY → List UInt8
  | _, [] => []
  | i, x :: r => gapL (G i) ++ wT x ++ otherL G (i + 1) r
theorem wT_end {x : TkY} (h : x.k = 0 ∧ x.t = []) : wT x = [] := by unfold wT; rw [if_neg (by rw [h.1]; decide), h.2]
theorem other_suf (G : Nat → Nat) : ∀ (xs : List TkY) (i : Nat), goodL xs → ∃ Y, otherL G i xs = gapL (G i) ++ Y ∧ Suf xs Y := by
  intro xs
  induction xs with
  | nil => intro i h; exact h.elim
  | cons x xs ih =>
    intro i h
    cases xs with
    | nil => exact ⟨[], by show gapL (G i) ++ wT x ++ [] = _; rw [wT_end h]; simp, h.1, h.2, rfl⟩
    | cons z r =>
      obtain ⟨hc, hr⟩ := h
      obtain ⟨Y, hY, hS⟩ := ih (i + 1) hr
      refine ⟨wT x ++ (gapL (G (i + 1)) ++ Y), ?_, hc, gapL (G (i + 1)), Y, rfl, gap_bl _, ?_, hS⟩
      · show gapL (G i) ++ wT x ++ otherL G (i + 1) (z :: r) = _
        rw [hY, List.append_assoc]
      · rw [gap_sep, suf_sep hS]; rfl
theorem plain_suf : ∀ (xs : List TkY), goodL xs → (∃ x, xs = [x] ∧ plainL xs = [32]) ∨ ((∃ x z r, xs = x :: z :: r) ∧ Suf xs (plainL xs)) := by
  intro xs
  induction xs with
  | nil => intro h; exact h.elim
  | cons x xs ih =>
    intro h
    cases xs with
    | nil => exact Or.inl ⟨x, rfl, by unfold plainL; simp [wT_end h]⟩
    | cons z r =>
      obtain ⟨hc, hr⟩ := h
      refine Or.inr ⟨⟨x, z, r, rfl⟩, hc, ?_⟩
      have hp : plainL (x :: z :: r) = wT x ++ ([32] ++ plainL (z :: r)) := by unfold plainL; rw [List.flatMap_cons, List.append_assoc]
      rcases ih hr with ⟨y, hy, h32⟩ | ⟨_, hS⟩
      · refine ⟨[32, 32], [], ?_, ⟨32, [32], rfl, by decide⟩, ?_, ?_⟩
        · rw [hp, h32]; rfl
        · show sep (32 :: 32 :: []) = 2
          rw [sep_bl 32 _ (by decide), sep_bl 32 _ (by decide), sep_nil]
        · injection hy with h1 h2
          subst h1; subst h2
          exact ⟨hr.1, hr.2, rfl⟩
      · refine ⟨[32], plainL (z :: r), hp, ⟨32, [], rfl, by decide⟩, ?_, hS⟩
        show sep (32 :: plainL (z :: r)) = 1
        rw [sep_bl 32 _ (by decide), suf_sep hS]
/-- The bytes that are written for tokens. -/
def szL (xs : List TkY) : Nat := (xs.map fun x => (wT x).length).sum
theorem toks_size (l : List UInt8) : ∀ (f p : Nat), (∀ x ∈ toks l f p, x.e = 0) → p ≤ l.length → szL (toks l f p) ≤ 4 * (l.length - p) := by
  intro f
  induction f with
  | zero => intro p _ _; show 0 + 0 ≤ _; omega
  | succ f ih =>
    intro p hg hp
    by_cases hlt : p < l.length
    · rw [toks, if_pos hlt] at hg ⊢
      have hdl : (l.drop p).length = l.length - p := List.length_drop
      cases hn : nextT (l.drop p) with
      | err e =>
        rw [hn] at hg
        have h1 : e = 0 := hg _ (List.mem_singleton.2 rfl)
        have h2 := nextT_err _ _ hn
        omega
      | tok k t n =>
        rw [hn] at hg
        simp only at hg ⊢
        obtain ⟨n0, n1⟩ := nextT_le _ (by omega) _ _ _ hn
        have hs := sep_le (l.drop (p + n))
        rw [List.length_drop] at hs
        have hr := ih (p + n + sep (l.drop (p + n))) (fun x hx => hg x (by simp [hx])) (by omega)
        have hk := nextT_tok _ (by omega) _ _ _ hn
        have hw : (wT ⟨k, t, p, 0⟩).length ≤ 4 * n := by
          rcases hk with ⟨rfl, h34, hlen⟩ | ⟨k4, k0, ht⟩
          · have := quo_len t
            show (if (4 : Int) = 4 then quoL t else t).length ≤ _
            rw [if_pos rfl]; omega
          · show (if k = 4 then quoL t else t).length ≤ _
            rw [if_neg k4, ht, List.length_take]; omega
        show (wT ⟨k, t, p, 0⟩).length + szL _ ≤ _
        omega
    · rw [toks_end _ _ _ hlt]
      show 0 + 0 ≤ _
      omega
theorem plain_len : ∀ (xs : List TkY), (plainL xs).length = szL xs + xs.length
  | [] => rfl
  | x :: xs => by
    have := plain_len xs
    have h1 : plainL (x :: xs) = wT x ++ [32] ++ plainL xs := by unfold plainL; rw [List.flatMap_cons]
    have h2 : szL (x :: xs) = (wT x).length + szL xs := rfl
    rw [h1, h2, List.length_append, List.length_append, List.length_cons, this]
    simp; omega
theorem other_len (G : Nat → Nat) : ∀ (i : Nat) (xs : List TkY), (otherL G i xs).length ≤ szL xs + 11 * xs.length
  | _, [] => Nat.le_refl _
  | i, x :: xs => by
    have := other_len G (i + 1) xs
    have h1 : otherL G i (x :: xs) = gapL (G i) ++ wT x ++ otherL G (i + 1) xs := rfl
    have h2 : szL (x :: xs) = (wT x).length + szL xs := rfl
    have h3 := gap_len (G i)
    rw [h1, h2, List.length_append, List.length_append, List.length_cons]
    omega
theorem other_lex (G : Nat → Nat) (xs : List TkY) (h : goodL xs) (hl : (otherL G 0 xs).length ≤ 65536) : (lexL (otherL G 0 xs)).2 = (0, 0) ∧ (lexL (otherL G 0 xs)).1.map (fun x => (x.k, x.t)) = xs.map (fun x => (x.k, x.t)) := by
  obtain ⟨Y, hY, hS⟩ := other_suf G xs 0 h
  rw [hY] at hl ⊢
  refine suf_lex _ _ _ ?_ hS hl
  rw [gap_sep]
  cases xs with
  | nil => exact h.elim
  | cons x r => rw [suf_sep hS]; rfl
theorem plain_lex (xs : List TkY) (h : goodL xs) (hl : (plainL xs).length ≤ 65536) : (lexL (plainL xs)).2 = (0, 0) ∧ (lexL (plainL xs)).1.map (fun x => (x.k, x.t)) = xs.map (fun x => (x.k, x.t)) := by
  rcases plain_suf xs h with ⟨x, rfl, h32⟩ | ⟨⟨x, z, r, rfl⟩, hS⟩
  · rw [h32]
    have h2 : Suf [x] [] := ⟨h.1, h.2, rfl⟩
    exact suf_lex [32] [] [x] (by show sep (32 :: []) = 1; rw [sep_bl 32 _ (by decide), sep_nil]) h2 (by simp)
  · have h2 := suf_lex [] (plainL (x :: z :: r)) _ (by rw [List.nil_append, suf_sep hS]; rfl) hS hl
    rw [List.nil_append] at h2
    exact h2
end Go.Proofs.YtmgmmbikdmobpaaDoor
