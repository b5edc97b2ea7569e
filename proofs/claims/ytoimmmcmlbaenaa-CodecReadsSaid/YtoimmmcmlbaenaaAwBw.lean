/- codec: awake. -/
import Derived.Test.YtoimmmcmlbaenaaAwB
import Derived.Outline
namespace Go.Proofs.Ytoimmmcmlbaenaa
open Go.RowKit

theorem OwnS_below {w w' : World} {B C : Nat} {v : Value} {ps : List ByteArray} (h : OwnS w B v ps) (hb : Below C w w') (hC : w.heap.size ≤ C) : OwnS w' B v ps :=
  World.ownsRow.kept (row := none) h (gb_of_below (hb.mono hC)) (by cases hv : v.ownBlock with | none => exact Or.inl rfl | some k => exact Or.inr (by simp))
theorem Reader_drew {w : World} {g : Nat} {s : ByteArray} {e : Int} (h : ReaderIs w g s e) (n : Nat) : ReaderIs (w.drewN n) g s e := h

set_option maxRecDepth 100000 in
set_option maxHeartbeats 2000000 in
theorem awake_any (w : World) : Calls Try.prog 10 #[] w fun e w' => e = .returned (.bool true) ∧ Below w.heap.size w w' := by
  go_enter Try.func10, Try.ntmps10
  go_wp2_with fail
  refine (k_uint w).mono ?_
  rintro e w1 ⟨rfl, hb1⟩
  go_wp2_with fail
  refine (cnew_any ⟨#[128, 0]⟩ w1).mono ?_
  rintro e w2 ⟨rfl, hR, hb⟩
  have hb2 := hb1.trans (hb.mono hb1.size)
  have hz := hb1.size
  generalize w1.heap.size = G at hR hz ⊢
  clear hb1 hb
  go_wp2_with fail
  refine (k_ruint G w2 hR).mono ?_
  rintro e w3 ⟨rfl, hR3, hg⟩
  have hb3 := hb2.trans (below_of_gb hg hb2.size hz)
  clear hR hg hb2
  go_wp2_with fail
  refine (cerror_any G _ _ w3 hR3).mono ?_
  rintro e w4 ⟨rfl, rfl⟩
  clear hR3 hz
  go_wp2_with fail
  refine (cnew_any ⟨#[2, 97, 98, 2, 0, 1, 97, 1]⟩ _).mono ?_
  rintro e w5 ⟨rfl, hR5, hb⟩
  have hb5 := hb3.trans (hb.mono hb3.size)
  have hz := hb3.size
  generalize w4.heap.size = Q at hR5 hz ⊢
  clear hb3 hb
  go_wp2_with fail
  refine (k_neg w5).mono ?_
  rintro e w6 ⟨rfl, hb⟩
  have hR6 := ReaderIs_below hR5 hb
  have hb6 := hb5.trans (hb.mono hb5.size)
  clear hR5 hb hb5
  go_wp2_with fail
  refine (k_pos w6).mono ?_
  rintro e w7 ⟨rfl, hb⟩
  have hR7 := ReaderIs_below hR6 hb
  have hb7 := hb6.trans (hb.mono hb6.size)
  clear hR6 hb hb6
  go_wp2_with fail
  refine (k_text w7).mono ?_
  rintro e w8 ⟨rfl, hb⟩
  have hR8 := ReaderIs_below hR7 hb
  have hb8 := hb7.trans (hb.mono hb7.size)
  clear hR7 hb hb7
  go_wp2_with fail
  refine (k_texts w8).mono ?_
  rintro e w9 ⟨rfl, hb⟩
  have hR9 := ReaderIs_below hR8 hb
  have hb9 := hb8.trans (hb.mono hb8.size)
  clear hR8 hb hb8
  go_wp2_with fail
  refine (k_rtext Q w9 hR9).mono ?_
  rintro e w10 ⟨rfl, hR10, hg⟩
  have hb10 := hb9.trans (below_of_gb hg hb9.size hz)
  clear hR9 hg hb9
  go_wp2_with fail
  refine (k_rtexts Q w10 hR10).mono ?_
  rintro e w11 ⟨⟨v, rfl, ho⟩, hR11, hg⟩
  have hb11 := hb10.trans (below_of_gb hg hb10.size hz)
  have KO := hid (And.intro ho (And.intro hR11 (And.intro hb11 hz)))
  clear hR10 hg hb10 ho hR11 hb11 hz
  go_wp2_with fail
  have hal := (Below.refl w11.heap.size w11).alloc (Nat.le_refl _) (.cells #[.string ⟨#[]⟩, .string ⟨#[97]⟩] 9)
  have hS2 := lit_two w11 ⟨#[]⟩ ⟨#[97]⟩
  generalize hW : w11.alloc (.cells #[.string ⟨#[]⟩, .string ⟨#[97]⟩] 9) = w12 at hal hS2 ⊢
  clear hW
  refine (equal_any _ _ _ _ w12 (OwnS_StrS (OwnS_below KO.out.1 hal (Nat.le_refl _))) hS2 (by simp) (by simp)).mono ?_
  rintro e w13 ⟨rfl, q, rfl⟩
  have hR13 := Reader_drew (ReaderIs_below KO.out.2.1 hal) q
  have hb13 := hid (below_drawn (KO.out.2.2.1.trans (hal.mono KO.out.2.2.1.size)) q)
  have hz := KO.out.2.2.2
  rw [decide_eq_true rfl]
  clear hal hS2
  go_wp2_with fail
  refine (cend_any Q _ _ _ hR13).mono ?_
  rintro e w14 ⟨rfl, rfl⟩
  rw [show endV ⟨#[1]⟩ 0 = 9 from rfl]
  go_wp2_with fail
  refine (k_rint Q _ hR13).mono ?_
  rintro e w15 ⟨rfl, hR15, hg⟩
  have hb15 := hb13.out.trans (below_of_gb hg hb13.out.size hz)
  clear hR13 hg
  go_wp2_with fail
  refine (cend_any Q _ _ _ hR15).mono ?_
  rintro e w16 ⟨rfl, rfl⟩
  have KB := hid hb15
  clear hR15 hb15 hz
  rw [show endV ⟨#[]⟩ 0 = 0 from rfl]
  go_wp2_with fail
  go_ret
  exact ⟨rfl, KB.out⟩
end Go.Proofs.Ytoimmmcmlbaenaa
