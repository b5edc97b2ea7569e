/- slices.Equal at []string, over slices of strings. -/
import Derived.Test.YtoimmmcmlbaenaaShC
import Derived.Test.YtoimmmcmlbaenaaRdL
namespace Go.Proofs.Ytoimmmcmlbaenaa
open Go.RowKit

theorem OwnS_StrS {w : World} {B : Nat} {v : Value} {ps : List ByteArray} (h : OwnS w B v ps) : StrS w v ps := by
  rcases Nat.eq_zero_or_pos ps.length with h0 | h0
  · obtain ⟨b, cap, rfl⟩ := own_slice h
    exact ⟨b, cap, rfl, fun i hi => absurd hi (by omega)⟩
  · exact own_strs h rfl h0
theorem equal_any (v1 v2 : Value) (ps qs : List ByteArray) (w : World) (h1 : StrS w v1 ps) (h2 : StrS w v2 qs) (ha : ps.length ≤ 9223372036854775807) (hb : qs.length ≤ 9223372036854775807) :
    Calls Try.prog 27 #[v1, v2] w fun e w' => e = .returned (.bool (decide (ps = qs))) ∧ ∃ q, w' = w.drewN q := by
  obtain ⟨b1, c1, rfl, hc1⟩ := h1
  obtain ⟨b2, c2, rfl, hc2⟩ := h2
  by_cases hl : ps.length = qs.length
  · by_cases h0 : ps.length = 0
    · rw [h0]
      refine (Try.slices_Equal_string_empty b1 b2 c1 qs.length c2 w hb).mono fun e w' ⟨he, hw⟩ => ⟨?_, 0, by rw [hw]; rfl⟩
      have e1 : ps = [] := List.eq_nil_of_length_eq_zero h0
      have e2 : qs = [] := List.eq_nil_of_length_eq_zero (by omega)
      rw [he, e1, e2]; rfl
    · obtain ⟨k1, o1, rfl, _⟩ := hc1 0 (by omega)
      obtain ⟨k2, o2, rfl, _⟩ := hc2 0 (by omega)
      refine (Try.slices_Equal_string k1 o1 ps.length c1 k2 o2 qs.length c2 ps qs w (Nat.le_refl _) (Nat.le_refl _) ha hb ?_ ?_).mono fun e w' ⟨he, hw⟩ => ⟨?_, hw⟩
      · intro j hj
        obtain ⟨b, o, e, h⟩ := hc1 j hj
        injection e with e; injection e with e1 e2
        rw [e1, e2]; exact h
      · intro j hj
        obtain ⟨b, o, e, h⟩ := hc2 j hj
        injection e with e; injection e with e1 e2
        rw [e1, e2]; exact h
      · rw [he, List.take_length, List.take_length]
  · refine (Try.slices_Equal_string_lens b1 b2 ps.length c1 qs.length c2 w hl).mono fun e w' ⟨he, hw⟩ => ⟨?_, 0, by rw [hw]; rfl⟩
    have hne : ps ≠ qs := fun e => hl (by rw [e])
    rw [he, decide_eq_false hne]
end Go.Proofs.Ytoimmmcmlbaenaa
