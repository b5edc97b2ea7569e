/- The digits of bytes are parsed as these bytes, and as no other ones. -/
import Derived.Test.YtijohbohdceggaaParse
namespace Go.Proofs.Ytijohbohdceggaa

theorem hexL_getD : ∀ (l : List UInt8) (i : Nat), i < 2 * l.length → (hexL l).getD i 0 = if i % 2 = 0 then hexd ((l.getD (i / 2) 0).toNat / 16) else hexd ((l.getD (i / 2) 0).toNat % 16)
  | [], i, h => by simp at h
  | b :: l, 0, _ => rfl
  | b :: l, 1, _ => rfl
  | b :: l, i + 2, h => by
    have e : hexL (b :: l) = hexd (b.toNat / 16) :: hexd (b.toNat % 16) :: hexL l := rfl
    have ih := hexL_getD l i (by simp at h; omega)
    have e1 : (i + 2) % 2 = i % 2 := by omega
    have e2 : (i + 2) / 2 = i / 2 + 1 := by omega
    rw [e1, e2, e]
    exact ih

theorem hexd_bound (n : Nat) (h : n < 16) : hexv (hexd n) = some (UInt8.ofNat n) := by
  obtain rfl | rfl | rfl | rfl | rfl | rfl | rfl | rfl | rfl | rfl | rfl | rfl | rfl | rfl | rfl | rfl : n = 0 ∨ n = 1 ∨ n = 2 ∨ n = 3 ∨ n = 4 ∨ n = 5 ∨ n = 6 ∨ n = 7 ∨ n = 8 ∨ n = 9 ∨ n = 10 ∨ n = 11 ∨ n = 12 ∨ n = 13 ∨ n = 14 ∨ n = 15 := by omega
  all_goals decide
theorem hexv_back (c v : UInt8) (h : hexv c = some v) : v.toNat < 16 ∧ hexd v.toNat = c := by
  have key : ∀ n : Nat, n < 256 → ∀ w : UInt8, hexv (UInt8.ofNat n) = some w → w.toNat < 16 ∧ hexd w.toNat = UInt8.ofNat n := by
    intro n hn w hw
    have : ∀ m : Fin 256, (hexv (UInt8.ofNat m.val)).all (fun w => decide (w.toNat < 16 ∧ hexd w.toNat = UInt8.ofNat m.val)) = true := by decide +kernel
    have t := this ⟨n, hn⟩
    rw [show hexv (UInt8.ofNat (⟨n, hn⟩ : Fin 256).val) = some w from hw] at t
    exact of_decide_eq_true t
  have := key c.toNat c.toNat_lt v (by simpa using h)
  simpa using this
theorem pair_val (a b : UInt8) (ha : a.toNat < 16) (hb : b.toNat < 16) : (a <<< 4 ||| b).toNat / 16 = a.toNat ∧ (a <<< 4 ||| b).toNat % 16 = b.toNat := by
  have key : ∀ m n : Fin 16, (UInt8.ofNat m.val <<< 4 ||| UInt8.ofNat n.val).toNat / 16 = m.val ∧ (UInt8.ofNat m.val <<< 4 ||| UInt8.ofNat n.val).toNat % 16 = n.val := by decide +kernel
  have := key ⟨a.toNat, ha⟩ ⟨b.toNat, hb⟩
  simpa using this
theorem pair_of (c : UInt8) : UInt8.ofNat (c.toNat / 16) <<< 4 ||| UInt8.ofNat (c.toNat % 16) = c := by
  have key : ∀ m : Fin 256, UInt8.ofNat (m.val / 16) <<< 4 ||| UInt8.ofNat (m.val % 16) = UInt8.ofNat m.val := by decide +kernel
  have := key ⟨c.toNat, c.toNat_lt⟩
  simpa using this

theorem nib_hexL (l : List UInt8) (i : Nat) (h : i < 2 * l.length) : nib (hexL l) i = UInt8.ofNat (if i % 2 = 0 then (l.getD (i / 2) 0).toNat / 16 else (l.getD (i / 2) 0).toNat % 16) := by
  have hb := (l.getD (i / 2) 0).toNat_lt
  unfold nib
  rw [hexL_getD l i h]
  split
  · rw [hexd_bound _ (by omega)]; rfl
  · rw [hexd_bound _ (by omega)]; rfl

/-- The digits of 32 bytes are parsed as them. -/
theorem parse_hexL (l : List UInt8) (h : l.length = 32) : parseL (hexL l) = some l := by
  unfold parseL
  rw [if_pos]
  · congr 1
    apply List.ext_getElem
    · rw [Rk_length, h]
    · intro j h1 h2
      have hj : j < 32 := by rwa [Rk_length] at h1
      have := Rk_get (hexL l) 64 j hj
      rw [getD_lt _ _ h1, if_pos (by omega), nib_hexL l _ (by omega), nib_hexL l _ (by omega), if_pos (by omega), if_neg (by omega)] at this
      rw [this, show 2 * j / 2 = j by omega, show (2 * j + 1) / 2 = j by omega, pair_of, getD_lt _ _ h2]
  · refine ⟨by rw [hexL_length, h], List.all_eq_true.2 fun c hc => ?_⟩
    obtain ⟨i, hi, rfl⟩ := List.getElem_of_mem hc
    have hl := hexL_getD l i (by rwa [hexL_length] at hi)
    have hb := (l.getD (i / 2) 0).toNat_lt
    rw [getD_lt _ _ hi] at hl
    rw [hl]
    split
    · rw [hexd_bound _ (by omega)]; rfl
    · rw [hexd_bound _ (by omega)]; rfl

/-- What is parsed has these digits. -/
theorem hexL_parse (l d : List UInt8) (h : parseL l = some d) : hexL d = l ∧ d.length = 32 := by
  unfold parseL at h
  split at h
  · rename_i hh
    injection h with h
    subst h
    refine ⟨?_, Rk_length _ _⟩
    have hlen : (hexL (Rk l 64)).length = l.length := by rw [hexL_length, Rk_length, hh.1]
    apply List.ext_getElem hlen
    intro i h1 h2
    have hi : i < 64 := by rw [hh.1] at h2; exact h2
    have hg := hexL_getD (Rk l 64) i (by rw [Rk_length]; omega)
    have dig : ∀ k, k < 64 → (nib l k).toNat < 16 ∧ hexd (nib l k).toNat = l.getD k 0 := by
      intro k hk
      have hk2 : k < l.length := by rw [hh.1]; exact hk
      have := List.all_eq_true.1 hh.2 (l[k]) (List.getElem_mem _)
      obtain ⟨v, hv⟩ := Option.isSome_iff_exists.1 this
      unfold nib
      rw [getD_lt _ _ hk2, hv]
      exact hexv_back _ _ hv
    have hp := Rk_get l 64 (i / 2) (by omega)
    rw [if_pos (by omega)] at hp
    rw [getD_lt _ _ h1] at hg
    rw [hg, hp]
    have d0 := dig (2 * (i / 2)) (by omega)
    have d1 := dig (2 * (i / 2) + 1) (by omega)
    have pv := pair_val _ _ d0.1 d1.1
    split
    · rename_i he
      rw [pv.1, d0.2, show 2 * (i / 2) = i by omega, getD_lt _ _ h2]
    · rename_i he
      rw [pv.2, d1.2, show 2 * (i / 2) + 1 = i by omega, getD_lt _ _ h2]
  · cases h

theorem hexL_inj {a b : List UInt8} (h : hexL a = hexL b) (ha : a.length = 32) (hb : b.length = 32) : a = b := by
  have h1 := parse_hexL a ha
  have h2 := parse_hexL b hb
  rw [h, h2] at h1
  injection h1 with h1
  exact h1.symm
end Go.Proofs.Ytijohbohdceggaa
