/- The reference's Hex, digit and Parse. -/
import Derived.Test.YtijohbohdceggaaParse
namespace Go.Proofs.Ytijohbohdceggaa
open Go.RowKit

/-- A slice without elements, just made. -/
theorem own_empty (w : World) (base : Nat) (e : TypeId) (h : base ≤ w.heap.size) : (w.alloc (.cells #[] e)).ownsRow base e 1 (.slice (some ⟨w.heap.size, 0, none⟩) 0 0) 0 [] :=
  ⟨rfl, .inr ⟨w.heap.size, 0, #[], rfl, h, heap_alloc_new w _, Nat.le_refl _, Nat.zero_le _, rfl, rfl⟩⟩

set_option maxRecDepth 100000 in
set_option maxHeartbeats 1000000 in
theorem refhex_any (s : ByteArray) (w : World) (hs : s.size ≤ 1000000) :
    Calls Try.prog 19 #[.string s] w
      fun e w' => e = .returned (.string ⟨(hexL s.data.toList).toArray⟩) ∧ Below w.heap.size w w' := by
  obtain ⟨i0, hi, hz0, hz1, hz2⟩ := info_parts infoU8
  go_enter Try.func19, Try.ntmps19
  go_wp2_with fail
  have hown := own_empty w w.heap.size 5 (Nat.le_refl _)
  have hb : Below w.heap.size w (w.alloc (.cells #[] 5)) := (Below.refl _ _).alloc (Nat.le_refl _) _
  generalize w.alloc (.cells #[] 5) = w1 at hown hb
  go_loopw [4, 5] (fun t i wr => ∃ k : Nat, k ≤ s.size ∧ i = .int .i64 k ∧ wr.ownsRow w.heap.size 5 1 t (2 * k) (byteCells (hexL (s.data.toList.take k))) ∧ Below w.heap.size w wr) (fun _ i _ => s.size - (intOf i).toNat)
  case atStart => exact ⟨0, by omega, rfl, hown, hb⟩
  case round =>
    obtain ⟨k, hk, rfl, ho, hbw⟩ := hrel
    by_cases hlt : k < s.size
    · obtain ⟨b, hbk⟩ : ∃ b : UInt8, b = s.data.toList.getD k 0 := ⟨_, rfl⟩
      have ix : ∀ w, (Instr.index 9 (.string s) (.int .i64 (k : Int))).run Try.prog w = .ok (.int .u8 (b.toNat : Int)) w := fun w => by rw [hbk]; exact run_index_str s k hlt w
      have i1 : ∀ w, (Instr.index 9 (.string ⟨#[48, 49, 50, 51, 52, 53, 54, 55, 56, 57, 97, 98, 99, 100, 101, 102]⟩) (.int .u8 ((b.toNat : Int) / 16))).run Try.prog w = .ok (.int .u8 ((hexd (b.toNat / 16)).toNat : Int)) w := fun w => by
        have := run_index_hex (b.toNat / 16) (by have := b.toNat_lt; omega) w
        rwa [show ((b.toNat / 16 : Nat) : Int) = (b.toNat : Int) / 16 by omega] at this
      have i2 : ∀ w, (Instr.index 9 (.string ⟨#[48, 49, 50, 51, 52, 53, 54, 55, 56, 57, 97, 98, 99, 100, 101, 102]⟩) (.int .u8 ((b.toNat : Int) % 16))).run Try.prog w = .ok (.int .u8 ((hexd (b.toNat % 16)).toNat : Int)) w := fun w => by
        have := run_index_hex (b.toNat % 16) (by omega) w
        rwa [show ((b.toNat % 16 : Nat) : Int) = (b.toNat : Int) % 16 by omega] at this
      have hq : IntKind.u8.wrap ((b.toNat : Int) / 16) = (b.toNat : Int) / 16 := by have := b.toNat_lt; rw [IntKind.wrap_u8]; omega
      have hm : (b.toNat : Int).tmod 16 = (b.toNat : Int) % 16 := Int.tmod_eq_emod_of_nonneg (by omega)
      have HB := hid hbk
      clear hbk
      go_wp2_with fail
      go_region_law ((refine step_append_lies _ (by rfl) _ _ _ (by rfl) w.heap.size 5 i0 _ 1 1 Try.underlying34 hi hz0 hz1 hz2 rfl (by omega) _ (2 * k) _ (by rfl) ((ho.alloc _).drew) ⟨wr.heap.size, 0, none⟩ 2 2 [.int .u8 ((hexd (b.toNat / 16)).toNat : Int), .int .u8 ((hexd (b.toNat % 16)).toNat : Int)] (by rfl) (by rfl) (World.news_of_block (cs := #[.int .u8 ((hexd (b.toNat / 16)).toNat : Int), .int .u8 ((hexd (b.toNat % 16)).toNat : Int)]) (t := 5) (fr := (0, 0)) (heap_alloc_new wr _)) (by simp [Value.oneCell']) (by omega) (by unfold maxLen; omega) (by omega) (by simp; exact Nat.le_succ_of_le hbw.size) (wr.heap.size + 1) (by simp) ?_; intro gg cap w1 hown1 hgrow hat hlt'))
      all_goals
        have hb2 : Below w.heap.size w w1 := Below.grown (((hbw.alloc hbw.size _)).drew) hgrow (by simp; exact Nat.le_succ_of_le hbw.size) (own_base ho)
        have hx := hexL_take s.data.toList k (by rw [Array.length_toList]; exact hlt)
        rw [← HB.out] at hx
        have e1 : byteCells (hexL (s.data.toList.take (k + 1))) = byteCells (hexL (s.data.toList.take k)) ++ [.int .u8 ((hexd (b.toNat / 16)).toNat : Int), .int .u8 ((hexd (b.toNat % 16)).toNat : Int)] := by
          rw [hx]; simp [byteCells]
        have KO := hid (And.intro hown1 (And.intro hb2 e1))
        clear hown1 hgrow hat hlt' hb2 hx e1 ho hown ix i1 i2
        go_wp2_with fail
        go_roundw
        case rel => exact ⟨k + 1, by omega, by go_num, by rw [KO.out.2.2]; exact KO.out.1, KO.out.2.1⟩
        case measure => simp [intOf]; omega
    · obtain rfl : k = s.size := by omega
      have hall : s.data.toList.take s.size = s.data.toList := List.take_of_length_le (by rw [Array.length_toList]; exact Nat.le_refl _)
      rw [hall] at ho
      have hcv := own_string (P := Try.prog) wr 34 9 5 w.heap.size u4 _ _ Try.underlying34 Try.underlying5 Try.underlying9 ho
      clear ho hown hb hall
      go_wp2_with fail
      go_ret
      exact ⟨rfl, hbw⟩

/-- The value of a digit, or -1. -/
def digv (c : UInt8) : Int := match hexv c with | some v => (v.toNat : Int) | none => -1
set_option maxHeartbeats 400000 in
theorem refdigit_any (c : UInt8) (w : World) : Calls Try.prog 34 #[.int .u8 (c.toNat : Int)] w
    fun e w' => e = .returned (.int .i64 (digv c)) ∧ w' = w := by
  have hc : digv c = if 48 ≤ c.toNat ∧ c.toNat ≤ 57 then (c.toNat : Int) - 48 else if 97 ≤ c.toNat ∧ c.toNat ≤ 102 then (c.toNat : Int) - 97 + 10 else -1 := by
    unfold digv hexv
    split
    · rename_i hh
      split at hh
      · injection hh with hh; subst hh
        rename_i h2
        rw [if_pos h2, UInt8.toNat_sub_of_le _ _ (by rw [UInt8.le_iff_toNat_le]; simpa using h2.1)]
        simp
        omega
      · split at hh
        · injection hh with hh; subst hh
          rename_i h1 h2
          rw [if_neg h1, if_pos h2, UInt8.toNat_sub_of_le _ _ (by rw [UInt8.le_iff_toNat_le]; have := h2.1; simp; omega)]
          simp
          omega
        · cases hh
    · rename_i hh
      split at hh
      · cases hh
      · split at hh
        · cases hh
        · rename_i h1 h2
          rw [if_neg h1, if_neg h2]
  have HC := hid hc
  clear hc
  have hcl := c.toNat_lt
  by_cases h1 : (48 : Int) ≤ (c.toNat : Int)
  all_goals
    by_cases h2 : (c.toNat : Int) ≤ 57
    all_goals
      by_cases h3 : (97 : Int) ≤ (c.toNat : Int)
      all_goals
        by_cases h4 : (c.toNat : Int) ≤ 102
        all_goals first
          | (exfalso; omega)
          | (go_enter Try.func34, Try.ntmps34
             go_wp2
             go_ret
             refine ⟨?_, rfl⟩
             first
               | (have e : digv c = (c.toNat : Int) - 48 := HC.out.trans (if_pos ⟨by omega, by omega⟩); rw [e]; rfl)
               | (have e : digv c = (c.toNat : Int) - 97 + 10 := HC.out.trans ((if_neg (by omega)).trans (if_pos ⟨by omega, by omega⟩)); rw [e]; rfl)
               | (have e : digv c = -1 := HC.out.trans ((if_neg (by omega)).trans (if_neg (by omega))); rw [e]; rfl))
end Go.Proofs.Ytijohbohdceggaa
