/- The reference's Length, rotr and constants. -/
import Derived.Test.YtijohbohdceggaaRefHex
import Derived.Test.YtijohbohdceggaaSum
namespace Go.Proofs.Ytijohbohdceggaa
open Go.RowKit

theorem be8_next (n k : Nat) (h : k < 8) : (be8 n).take (k + 1) = (be8 n).take k ++ [(be8 n).getD k 0] := by
  have hk8 : k < (be8 n).length := by simp [be8]; omega
  rw [List.take_succ_eq_append_getElem hk8]
  simp [List.getD, hk8]

set_option maxRecDepth 100000 in
set_option maxHeartbeats 1000000 in
theorem length_any (n : Nat) (w : World) (hn : n < 9223372036854775808) :
    Calls Try.prog 32 #[.int .i64 (n : Int)] w
      fun e w' => e = .returned (.string ⟨(be8 n).toArray⟩) ∧ Below w.heap.size w w' := by
  obtain ⟨i0, hi, hz0, hz1, hz2⟩ := info_parts infoU8
  go_enter Try.func32, Try.ntmps32
  go_wp2_with fail
  have hown := own_empty w w.heap.size 5 (Nat.le_refl _)
  have hb : Below w.heap.size w (w.alloc (.cells #[] 5)) := (Below.refl _ _).alloc (Nat.le_refl _) _
  generalize w.alloc (.cells #[] 5) = w1 at hown hb
  go_loopw [3, 4] (fun t i wr => ∃ k : Nat, k ≤ 8 ∧ i = .int .i64 (7 - (k : Int)) ∧ wr.ownsRow w.heap.size 5 1 t k (byteCells ((be8 n).take k)) ∧ Below w.heap.size w wr) (fun _ i _ => (intOf i + 1).toNat)
  case atStart => exact ⟨0, by omega, rfl, hown, hb⟩
  case round =>
    obtain ⟨k, hk, rfl, ho, hbw⟩ := hrel
    by_cases hlt : k < 8
    · have hnx : byteCells ((be8 n).take (k + 1)) = byteCells ((be8 n).take k) ++ [.int .u8 (((be8 n).getD k 0).toNat : Int)] := by
        rw [be8_next n k hlt]; simp [byteCells]
      have KO := hid (And.intro ho (And.intro hbw hnx))
      clear ho hbw hnx hown hb
      rcases eight hlt with rfl | rfl | rfl | rfl | rfl | rfl | rfl | rfl
      all_goals
        simp only [show (7 - ((0 : Nat) : Int)) = 7 from rfl, show (7 - ((1 : Nat) : Int)) = 6 from rfl, show (7 - ((2 : Nat) : Int)) = 5 from rfl, show (7 - ((3 : Nat) : Int)) = 4 from rfl, show (7 - ((4 : Nat) : Int)) = 3 from rfl, show (7 - ((5 : Nat) : Int)) = 2 from rfl, show (7 - ((6 : Nat) : Int)) = 1 from rfl, show (7 - ((7 : Nat) : Int)) = 0 from rfl]
        go_wp2_with (at_builtin; refine wpList_append_own _ rfl _ _ 34 rfl w.heap.size 5 i0 (.int .u8 0) 1 1 Try.underlying34 hi hz0 hz1 hz2 rfl (by decide) _ _ _ rfl (World.ownsRow.alloc KO.out.1 _) ⟨wr.heap.size, 0, none⟩ 1 1 _ rfl rfl (cell_one_new _ _ _) (fun x hx => by simp at hx; subst hx; rfl) (by unfold maxLen; omega) (by omega) (by simp; exact Nat.le_succ_of_le KO.out.2.1.size) ?_; intro v' w3 hown' hgrow3 hnil3)
        have hb2 : Below w.heap.size w w3 := Below.grown (KO.out.2.1.alloc KO.out.2.1.size _) hgrow3 (by simp; exact Nat.le_succ_of_le KO.out.2.1.size) (own_base KO.out.1)
        refine ⟨⟨_, Nat.succ_le_of_lt hlt, by go_num, ?_, hb2⟩, by simp [intOf]⟩
        rw [KO.out.2.2]
        refine cast ?_ hown'
        congr 3
        simp [be8]
        first | done | omega | (simp [IntKind.wrap_u8]; omega)
    · obtain rfl : k = 8 := by omega
      have h8 : (be8 n).take 8 = be8 n := rfl
      rw [h8] at ho
      have hcv := own_string (P := Try.prog) wr 34 9 5 w.heap.size u3 _ _ Try.underlying34 Try.underlying5 Try.underlying9 ho
      have KC := hid hbw
      clear ho hown hb hbw
      go_wp2_with fail
      go_ret
      exact ⟨rfl, KC.out⟩
end Go.Proofs.Ytijohbohdceggaa
