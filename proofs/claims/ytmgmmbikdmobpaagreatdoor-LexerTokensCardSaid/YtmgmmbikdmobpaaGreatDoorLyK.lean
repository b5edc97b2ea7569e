/- lexer: the reference's skip. -/
import Derived.Test.YtmgmmbikdmobpaaGreatDoorLxSep
namespace Go.Proofs.YtmgmmbikdmobpaaGreatDoor
open Go.RowKit

/-- The number of bytes that are passed over, in a comment or not. -/
def skF : Bool → List UInt8 → Nat
  | _, [] => 0
  | true, b :: r => 1 + skF (!(b == 10)) r
  | false, b :: r => if b = 47 ∧ r.head? = some 47 then 1 + skF true r else if isBl b.toNat = true then 1 + skF false r else 0
theorem skF_f (b : UInt8) (r : List UInt8) : skF false (b :: r) = if b = 47 ∧ r.head? = some 47 then 1 + skF true r else if isBl b.toNat = true then 1 + skF false r else 0 := rfl
theorem skF_t (b : UInt8) (r : List UInt8) : skF true (b :: r) = 1 + skF (!(b == 10)) r := rfl
theorem bl_10 (b : UInt8) : isNl b.toNat = false ↔ b = 10 := by
  unfold isNl
  rw [bne_eq_false_iff_eq]
  exact ⟨fun h => UInt8.toNat_inj.1 (by rw [h]; rfl), fun h => by rw [h]; rfl⟩
theorem skF_true : ∀ (l : List UInt8), skF true l = spn isNl l + skF false (l.drop (spn isNl l))
  | [] => rfl
  | b :: r => by
    rw [spn_cons]
    by_cases h : b = 10
    · subst h
      rw [if_neg (by decide), List.drop_zero]
      show 1 + skF false r = 0 + skF false (10 :: r)
      rw [skF, if_neg (fun h => absurd h.1 (by decide)), if_pos (by decide)]; omega
    · have hb : isNl b.toNat = true := by
        cases q : isNl b.toNat with
        | true => rfl
        | false => exact absurd ((bl_10 b).1 q) h
      have hb2 : (!(b == 10)) = true := by simp [h]
      rw [if_pos hb]
      show 1 + skF (!(b == 10)) r = _
      rw [hb2, skF_true r, List.drop_succ_cons]; omega
theorem skF_bl : ∀ (l : List UInt8), skF false l = spn isBl l + skF false (l.drop (spn isBl l))
  | [] => rfl
  | b :: r => by
    rw [spn_cons]
    by_cases h : isBl b.toNat = true
    · rw [if_pos h, List.drop_succ_cons]
      have h47 : ¬ (b = 47 ∧ r.head? = some 47) := by rintro ⟨rfl, _⟩; exact absurd h (by decide)
      rw [skF, if_neg h47, if_pos h, skF_bl r]; omega
    · rw [if_neg h, List.drop_zero]; omega
theorem skF_cmt (l : List UInt8) (h : cmt l = true) : skF false l = skF true l := by
  unfold cmt Lib.hasPrefix at h
  rw [List.isPrefixOf_iff_prefix] at h
  obtain ⟨t, rfl⟩ := h
  show skF false (47 :: 47 :: t) = 1 + skF (!((47 : UInt8) == 10)) (47 :: t)
  have e1 : skF false (47 :: 47 :: t) = 1 + skF true (47 :: t) := by rw [skF_f, if_pos ⟨rfl, rfl⟩]
  rw [e1, show (!((47 : UInt8) == 10)) = true from by decide]
theorem skF_stop (l : List UInt8) (h : cmt l = false) (h2 : spn isBl l = 0) : skF false l = 0 := by
  cases l with
  | nil => rfl
  | cons b r =>
    rw [spn_cons] at h2
    have hb : ¬ isBl b.toNat = true := by intro e; rw [if_pos e] at h2; omega
    have h47 : ¬ (b = 47 ∧ r.head? = some 47) := by
      rintro ⟨rfl, hr⟩
      cases r with
      | nil => cases hr
      | cons a r => injection hr with hr; subst hr; exact absurd h (by unfold cmt Lib.hasPrefix; simp)
    rw [skF, if_neg h47, if_neg hb]
theorem spn_drop00 (p : Nat → Bool) : ∀ (l : List UInt8), spn p (l.drop (spn p l)) = 0
  | [] => rfl
  | b :: r => by
    rw [spn_cons]
    by_cases h : p b.toNat = true
    · rw [if_pos h, List.drop_succ_cons]; exact spn_drop00 p r
    · rw [if_neg h, List.drop_zero, spn_cons, if_neg h]
theorem skF_sep (l : List UInt8) : skF false l = sep l := by
  have key : ∀ (n : Nat) (l : List UInt8), l.length ≤ n → skF false l = sep l := by
    intro n
    induction n with
    | zero =>
      intro l hl
      have : l = [] := List.eq_nil_of_length_eq_zero (by omega)
      subst this
      rw [sep_no _ (by decide)]; rfl
    | succ n ih =>
      intro l hl
      rw [skF_bl]
      cases hc : cmt (l.drop (spn isBl l)) with
      | true =>
        have h1 := cmt_pos hc
        have h2 := spn_le isNl (l.drop (spn isBl l))
        rw [List.length_drop] at h2
        rw [sep_yes l hc, skF_cmt _ hc, skF_true, List.drop_drop, ih _ (by rw [List.length_drop]; omega)]; omega
      | false => rw [sep_no l hc, skF_stop _ hc (spn_drop00 isBl l)]; omega
  exact key _ l (Nat.le_refl _)
theorem skF_at (s : ByteArray) (k : Nat) (h : k < s.size) (c : Bool) :
    skF c (s.data.toList.drop k) = if c then 1 + skF (!(s.data.toList.getD k 0 == 10)) (s.data.toList.drop (k + 1)) else if s.data.toList.getD k 0 = 47 ∧ (k + 1 < s.size ∧ s.data.toList.getD (k + 1) 0 = 47) then 1 + skF true (s.data.toList.drop (k + 1)) else if isBl (s.data.toList.getD k 0).toNat = true then 1 + skF false (s.data.toList.drop (k + 1)) else 0 := by
  have hl : k < s.data.toList.length := by rw [size_list]; exact h
  rw [List.drop_eq_getElem_cons hl]
  have e : s.data.toList.getD k 0 = s.data.toList[k] := by rw [List.getD_eq_getElem?_getD, List.getElem?_eq_getElem hl]; rfl
  rw [e]
  cases c with
  | true => rfl
  | false =>
    rw [skF_f]
    have h2 : ((s.data.toList.drop (k + 1)).head? = some 47) ↔ (k + 1 < s.size ∧ s.data.toList.getD (k + 1) 0 = 47) := by
      rw [List.head?_drop, List.getD_eq_getElem?_getD]
      by_cases h3 : k + 1 < s.size
      · have h4 : k + 1 < s.data.toList.length := by rw [size_list]; exact h3
        rw [List.getElem?_eq_getElem h4]; simp [h3]
      · rw [List.getElem?_eq_none (by rw [size_list]; omega)]; simp [h3]
    rw [if_neg (Bool.false_ne_true : ¬ (false = true))]
    by_cases hx : s.data.toList[k] = 47 ∧ (s.data.toList.drop (k + 1)).head? = some 47
    · rw [if_pos hx, if_pos ⟨hx.1, h2.1 hx.2⟩]
    · have hx2 : ¬ (s.data.toList[k] = 47 ∧ (k + 1 < s.size ∧ s.data.toList.getD (k + 1) 0 = 47)) := fun h => hx ⟨h.1, h2.2 h.2⟩
      rw [if_neg hx, if_neg hx2]
end Go.Proofs.YtmgmmbikdmobpaaGreatDoor
