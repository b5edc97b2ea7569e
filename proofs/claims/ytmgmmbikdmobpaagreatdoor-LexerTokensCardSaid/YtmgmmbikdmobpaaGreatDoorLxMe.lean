/- lexer: the two words on a major version agree. -/
import Derived.Test.YtmgmmbikdmobpaaGreatDoorLxMr
namespace Go.Proofs.YtmgmmbikdmobpaaGreatDoor
open Go.RowKit

/-- The decimal digits of a number below 1000. -/
def dd (u : Nat) : List UInt8 := if u < 10 then [UInt8.ofNat (48 + u)] else if u < 100 then [UInt8.ofNat (48 + u / 10), UInt8.ofNat (48 + u % 10)] else [UInt8.ofNat (48 + u / 100), UInt8.ofNat (48 + u / 10 % 10), UInt8.ofNat (48 + u % 10)]
theorem dec_dd (u : Nat) (h : u < 1000) : Lib.decDigits u = dd u := by
  unfold dd
  by_cases h1 : u < 10
  · rw [if_pos h1, Lib.decDigits, dif_pos h1]
  · rw [if_neg h1]
    by_cases h2 : u < 100
    · rw [if_pos h2, Lib.decDigits, dif_neg h1, Lib.decDigits, dif_pos (by omega)]; rfl
    · rw [if_neg h2, Lib.decDigits, dif_neg h1, Lib.decDigits, dif_neg (by omega), Lib.decDigits, dif_pos (by omega), Nat.div_div_eq_div_mul]; rfl
theorem itoa_dd (u : Nat) (h : u < 1000) : Lib.itoa (u : Int) = dd u := by
  unfold Lib.itoa
  rw [if_neg (by omega), Int.toNat_natCast, dec_dd u h]
theorem atoi_dd (u : Nat) (h : u < 1000) : Lib.atoiAll (dd u) = .ok (u : Int) := by
  have key : ∀ x : Fin 1000, Lib.atoiAll (dd x.val) = .ok (x.val : Int) := by decide +kernel
  exact key ⟨u, h⟩
theorem majR_dd (u : Nat) (h : u < 1000) : majR (118 :: dd u) = (u : Int) := by
  have key : ∀ x : Fin 1000, majR (118 :: dd x.val) = (x.val : Int) := by decide +kernel
  exact key ⟨u, h⟩
theorem hasP (l : List UInt8) : Lib.hasPrefix (118 :: l) [118] = true := by simp [Lib.hasPrefix]
theorem trimP (l : List UInt8) : Lib.trimPrefix (118 :: l) [118] = l := by simp [Lib.trimPrefix, Lib.hasPrefix]
theorem majV_dd (u : Nat) (h : u < 1000) : majV (118 :: dd u) = ((u : Int), true) :=
  majV_ok (hasP _) (by rw [trimP]; exact atoi_dd u h) (by omega) (by rw [trimP]; exact itoa_dd u h)
theorem pre_cons {x : List UInt8} (h : Lib.hasPrefix x [118] = true) : x = 118 :: Lib.trimPrefix x [118] := by
  cases x with
  | nil => simp [Lib.hasPrefix] at h
  | cons a r =>
    have ha : a = 118 := by simp [Lib.hasPrefix] at h; exact h.symm
    subst ha
    rw [trimP]
theorem majV_spec (x : List UInt8) (hx : ∀ b ∈ x, b ≠ 45) (h : (majV x).2 = true) : ∃ u, u < 1000 ∧ x = 118 :: dd u := by
  cases hp : Lib.hasPrefix x [118] with
  | false => rw [majV_no hp] at h; cases h
  | true =>
    cases ha : Lib.atoiAll (Lib.trimPrefix x [118])
    case ok v =>
      by_cases hv : 999 < v
      · rw [majV_big hp ha hv] at h; cases h
      · by_cases he : Lib.itoa v = Lib.trimPrefix x [118]
        · have hc := pre_cons hp
          by_cases h0 : v < 0
          · exfalso
            have h45 : (45 : UInt8) ∈ Lib.itoa v := by unfold Lib.itoa; rw [if_pos h0]; simp
            rw [he] at h45
            exact hx 45 (by rw [hc]; simp [h45]) rfl
          · obtain ⟨u, rfl⟩ : ∃ u : Nat, v = (u : Int) := ⟨v.toNat, by omega⟩
            refine ⟨u, by omega, ?_⟩
            rw [hc, ← he, itoa_dd u (by omega)]
        · rw [majV_bad hp ha hv he] at h; cases h
    case range => rw [majV_rng hp ha] at h; cases h
    case _ => rw [majV_syn hp ha] at h; cases h
theorem dg_lim {a : UInt8} (h : isDg a.toNat = true) : 48 ≤ a.toNat ∧ a.toNat ≤ 57 := by
  unfold isDg at h
  simpa using h
theorem of_byte {a : UInt8} {n : Nat} (h : n = a.toNat) : UInt8.ofNat n = a := by rw [h]; simp
theorem majR_spec (x : List UInt8) (h : 0 ≤ majR x) : ∃ u, u < 1000 ∧ x = 118 :: dd u := by
  unfold majR at h
  by_cases hc : x.length < 2 ∨ 4 < x.length ∨ fst x ≠ 118 ∨ (at' x 1 = 48 ∧ 2 < x.length)
  · rw [if_pos hc] at h; omega
  · rw [if_neg hc] at h
    simp only [not_or, not_and, Decidable.not_not] at hc
    obtain ⟨h1, h2, h3, h4⟩ := hc
    match x, h1, h2, h3, h4, h with
    | [], h1, _, _, _, _ => exact absurd h1 (by simp)
    | [_], h1, _, _, _, _ => exact absurd h1 (by simp)
    | [v, a], _, _, h3, _, h =>
      have hv : v = 118 := by apply UInt8.toNat_inj.1; simpa [fst] using h3
      subst hv
      simp only [List.drop_succ_cons, List.drop_zero, majP] at h
      by_cases ha : isDg a.toNat = true
      · have la := dg_lim ha
        refine ⟨a.toNat - 48, by omega, ?_⟩
        unfold dd
        rw [if_pos (by omega), of_byte (a := a) (by omega)]
      · rw [if_neg ha] at h; omega
    | [v, a, b], _, _, h3, h4, h =>
      have hv : v = 118 := by apply UInt8.toNat_inj.1; simpa [fst] using h3
      subst hv
      have h48 : a.toNat ≠ 48 := fun e => by
        have := h4 (by simpa [at'] using e)
        simp at this
      simp only [List.drop_succ_cons, List.drop_zero, majP] at h
      by_cases ha : isDg a.toNat = true
      · rw [if_pos ha] at h
        by_cases hb : isDg b.toNat = true
        · have la := dg_lim ha
          have lb := dg_lim hb
          refine ⟨10 * (a.toNat - 48) + (b.toNat - 48), by omega, ?_⟩
          unfold dd
          rw [if_neg (by omega), if_pos (by omega), of_byte (a := a) (by omega), of_byte (a := b) (by omega)]
        · rw [if_neg hb] at h; omega
      · rw [if_neg ha] at h; omega
    | [v, a, b, c], _, _, h3, h4, h =>
      have hv : v = 118 := by apply UInt8.toNat_inj.1; simpa [fst] using h3
      subst hv
      have h48 : a.toNat ≠ 48 := fun e => by
        have := h4 (by simpa [at'] using e)
        simp at this
      simp only [List.drop_succ_cons, List.drop_zero, majP] at h
      by_cases ha : isDg a.toNat = true
      · rw [if_pos ha] at h
        by_cases hb : isDg b.toNat = true
        · rw [if_pos hb] at h
          by_cases hd : isDg c.toNat = true
          · have la := dg_lim ha
            have lb := dg_lim hb
            have lc := dg_lim hd
            refine ⟨100 * (a.toNat - 48) + 10 * (b.toNat - 48) + (c.toNat - 48), by omega, ?_⟩
            unfold dd
            rw [if_neg (by omega), if_neg (by omega), of_byte (a := a) (by omega), of_byte (a := b) (by omega), of_byte (a := c) (by omega)]
          · rw [if_neg hd] at h; omega
        · rw [if_neg hb] at h; omega
      · rw [if_neg ha] at h; omega
    | _ :: _ :: _ :: _ :: _ :: _, _, h2, _, _, _ => exact absurd h2 (by simp)
theorem maj_eq (x : List UInt8) (hx : ∀ b ∈ x, b ≠ 45) : (majV x).2 = decide (0 ≤ majR x) ∧ (0 ≤ majR x → (majV x).1 = majR x) := by
  by_cases h : 0 ≤ majR x
  · obtain ⟨u, hu, rfl⟩ := majR_spec x h
    rw [majR_dd u hu, majV_dd u hu]
    exact ⟨by simp, fun _ => rfl⟩
  · refine ⟨?_, fun h' => absurd h' h⟩
    rw [decide_eq_false h]
    cases hv : (majV x).2 with
    | false => rfl
    | true =>
      obtain ⟨u, hu, rfl⟩ := majV_spec x hx hv
      rw [majR_dd u hu] at h
      omega
theorem sgm_no {x : List UInt8} (h : isSgm x = true) : ∀ b ∈ x, b ≠ 45 := by
  unfold isSgm at h
  simp only [Bool.and_eq_true, beq_iff_eq] at h
  obtain ⟨_, h⟩ := h
  intro b hb e
  unfold spn at h
  have h2 : x.takeWhile (fun b => isSg b.toNat) = x := List.IsPrefix.eq_of_length (List.takeWhile_prefix _) h
  rw [← h2] at hb
  have ht : (x.takeWhile (fun b => isSg b.toNat)).all (fun b => isSg b.toNat) = true := List.all_takeWhile
  have := List.all_eq_true.1 ht b hb
  rw [e] at this
  exact absurd this (by decide)
theorem rmaj_is (l : List UInt8) : rmajL l = majL l := by
  unfold rmajL majL
  by_cases hb : 64 < l.length
  · rw [if_pos hb, if_pos hb]
  · rw [if_neg hb, if_neg hb]
    by_cases ha : (segL l).all isSgm = true
    · rw [if_pos ha, if_pos ha]
      have hm : (segL l).getLastD [] ∈ segL l := by
        rw [List.getLastD_eq_getLast?, List.getLast?_eq_some_getLast (segL_ne l)]
        exact List.getLast_mem (segL_ne l)
      have hs := List.all_eq_true.1 ha _ hm
      obtain ⟨h1, h2⟩ := maj_eq _ (sgm_no hs)
      generalize (segL l).getLastD [] = x at h1 h2
      rw [h1]
      by_cases h0 : 0 ≤ majR x
      · by_cases h3 : (segL l).length < 2
        · rw [if_pos (Or.inl h3), if_pos (Or.inl h3)]
        · rw [if_neg (by omega), if_neg (by simp [h3, h0]), h2 h0]
      · rw [if_pos (Or.inr (by omega)), if_pos (Or.inr (by simp [h0]))]
    · rw [if_neg ha, if_neg ha]
end Go.Proofs.YtmgmmbikdmobpaaGreatDoor
