/- codec: the examples of the chapter. -/
import Derived.Test.YtoimmmcmlbaenaaLibC
namespace Go.Proofs.Ytoimmmcmlbaenaa
open Go.RowKit

theorem uv300 : uvL 300 = [172, 2] := by rw [uvL_more _ (by decide), uvL_less _ (by decide)]; rfl
theorem encU_ab : encU ⟨#[97, 98]⟩ = [2, 97, 98] := by unfold encU; rw [uvL_less _ (by decide)]; rfl
theorem encT_a : encT [⟨#[]⟩, ⟨#[97]⟩] = [2, 0, 1, 97] := by
  unfold encT encUs
  simp only [List.flatMap_cons, List.flatMap_nil]
  unfold encU
  rw [uvL_less _ (by decide), uvL_less _ (by decide), uvL_less _ (by decide)]
  rfl
theorem k_uint (w : World) : Calls Try.prog 12 #[.int .i64 300] w fun e w' => e = .returned (.tuple #[.string ⟨#[172, 2]⟩, .int .i64 0]) ∧ Below w.heap.size w w' := by
  have h := cuint_nat 300 w (by decide)
  rw [uv300] at h
  exact h
theorem k_neg (w : World) : Calls Try.prog 14 #[.int .i64 (-1)] w fun e w' => e = .returned (.string ⟨#[1]⟩) ∧ Below w.heap.size w w' := by
  have h := cint_any (-1) w (by decide) (by decide)
  rw [show uvL (zig (-1)) = [1] by rw [uvL_less _ (by decide)]; rfl] at h
  exact h
theorem k_pos (w : World) : Calls Try.prog 14 #[.int .i64 1] w fun e w' => e = .returned (.string ⟨#[2]⟩) ∧ Below w.heap.size w w' := by
  have h := cint_any 1 w (by decide) (by decide)
  rw [show uvL (zig 1) = [2] by rw [uvL_less _ (by decide)]; rfl] at h
  exact h
theorem k_text (w : World) : Calls Try.prog 16 #[.string ⟨#[97, 98]⟩] w fun e w' => e = .returned (.string ⟨#[2, 97, 98]⟩) ∧ Below w.heap.size w w' := by
  have h := ctext_any ⟨#[97, 98]⟩ w (by decide)
  rw [encU_ab] at h
  exact h
theorem lit_two (w : World) (s t : ByteArray) : StrS (w.alloc (.cells #[.string s, .string t] 9)) (.slice (some ⟨w.heap.size, 0, none⟩) 2 2) [s, t] :=
  own_strs (ps := [s, t]) (own_lit w [s, t] (by simp)) rfl (by simp)
theorem k_texts (w : World) : Calls Try.prog 18 #[.slice (some ⟨w.heap.size, 0, none⟩) 2 2] (w.alloc (.cells #[.string ⟨#[]⟩, .string ⟨#[97]⟩] 9)) fun e w' => e = .returned (.string ⟨#[2, 0, 1, 97]⟩) ∧ Below w.heap.size w w' := by
  have h := ctexts_any (.slice (some ⟨w.heap.size, 0, none⟩) 2 2) [⟨#[]⟩, ⟨#[97]⟩] _ (lit_two w ⟨#[]⟩ ⟨#[97]⟩) (by have := encT_a; unfold encT at this; have h2 := congrArg List.length this; rw [List.length_append] at h2; have : ([2, 0, 1, 97] : List UInt8).length = 4 := rfl; omega) (by decide)
  rw [encT_a] at h
  have hb := (Below.refl w.heap.size w).alloc (Nat.le_refl _) (.cells #[.string ⟨#[]⟩, .string ⟨#[97]⟩] 9)
  exact h.mono fun e w' ⟨h1, h2⟩ => ⟨h1, hb.trans (h2.mono hb.size)⟩
theorem k_r1 : rCount 9223372036854775807 ⟨#[128, 0]⟩ 0 = (0, ⟨#[128, 0]⟩, 9) := by decide +kernel
theorem k_q1 : rText ⟨#[2, 97, 98, 2, 0, 1, 97, 1]⟩ 0 = (⟨#[97, 98]⟩, ⟨#[2, 0, 1, 97, 1]⟩, 0) := by decide +kernel
theorem k_q2 : rTexts ⟨#[2, 0, 1, 97, 1]⟩ 0 = ([⟨#[]⟩, ⟨#[97]⟩], ⟨#[1]⟩, 0) := by decide +kernel
theorem k_q3 : rInt ⟨#[1]⟩ 0 = (-1, ⟨#[]⟩, 0) := by decide +kernel
theorem k_ruint (g : Nat) (w : World) (h : ReaderIs w g ⟨#[128, 0]⟩ 0) : Calls Try.prog 24 #[.pointer (some ⟨g, 0, none⟩)] w fun e w' => e = .returned (.int .i64 0) ∧ ReaderIs w' g ⟨#[128, 0]⟩ 9 ∧ w.grownBy w' (some g) := by
  have h := cruint_any g ⟨#[128, 0]⟩ 0 w h (by decide)
  rw [k_r1] at h
  exact h
theorem k_rtext (g : Nat) (w : World) (h : ReaderIs w g ⟨#[2, 97, 98, 2, 0, 1, 97, 1]⟩ 0) : Calls Try.prog 26 #[.pointer (some ⟨g, 0, none⟩)] w fun e w' => e = .returned (.string ⟨#[97, 98]⟩) ∧ ReaderIs w' g ⟨#[2, 0, 1, 97, 1]⟩ 0 ∧ w.grownBy w' (some g) := by
  have h := crtext_any g _ 0 w h (by decide)
  rw [k_q1] at h
  exact h
theorem k_rtexts (g : Nat) (w : World) (h : ReaderIs w g ⟨#[2, 0, 1, 97, 1]⟩ 0) : Calls Try.prog 28 #[.pointer (some ⟨g, 0, none⟩)] w fun e w' => (∃ v, e = .returned v ∧ OwnS w' w.heap.size v [⟨#[]⟩, ⟨#[97]⟩]) ∧ ReaderIs w' g ⟨#[1]⟩ 0 ∧ w.grownBy w' (some g) := by
  have h := crtexts_any g _ 0 w h (by decide)
  rw [k_q2] at h
  exact h
theorem k_rint (g : Nat) (w : World) (h : ReaderIs w g ⟨#[1]⟩ 0) : Calls Try.prog 25 #[.pointer (some ⟨g, 0, none⟩)] w fun e w' => e = .returned (.int .i64 (-1)) ∧ ReaderIs w' g ⟨#[]⟩ 0 ∧ w.grownBy w' (some g) := by
  have h := crint_any g _ 0 w h (by decide)
  rw [k_q3] at h
  exact h
end Go.Proofs.Ytoimmmcmlbaenaa
