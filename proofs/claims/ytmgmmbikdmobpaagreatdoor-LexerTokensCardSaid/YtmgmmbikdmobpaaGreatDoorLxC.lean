/- lexer: character. -/
import Derived.Test.YtmgmmbikdmobpaaGreatDoorLxSep
import Derived.Deep.QuietTactic
import Derived.BigQuiet
namespace Go.Proofs.YtmgmmbikdmobpaaGreatDoor
open Go.RowKit

def hexD : List UInt8 := [48, 49, 50, 51, 52, 53, 54, 55, 56, 57, 97, 98, 99, 100, 101, 102]
def at' (l : List UInt8) (k : Nat) : Nat := (l.getD k 0).toNat
/-- The value of a digit, or -1. -/
def hexV (c : Nat) : Int := Lib.indexByte hexD c.toUInt8
/-- The byte for which the character at the beginning stands, and its size; size 0: there is none. -/
def chr (l : List UInt8) : Nat × Nat :=
  if at' l 0 < 32 then (0, 0)
  else if at' l 0 ≠ 92 then (at' l 0, 1)
  else if 2 ≤ l.length ∧ (at' l 1 = 34 ∨ at' l 1 = 92) then (at' l 1, 2)
  else if 2 ≤ l.length ∧ at' l 1 = 110 then (10, 2)
  else if 4 ≤ l.length ∧ at' l 1 = 120 ∧ 0 ≤ hexV (at' l 2) ∧ 0 ≤ hexV (at' l 3) then ((16 * hexV (at' l 2) + hexV (at' l 3)).toNat, 4)
  else (0, 0)
def ChrRet (x : Nat × Nat) (e : Ending) : Prop := e = .returned (.tuple #[.int .u8 (x.1 : Int), .int .i64 (x.2 : Int)])
theorem at_lt (l : List UInt8) (k : Nat) : at' l k < 256 := (l.getD k 0).toNat_lt
theorem indexk (s : ByteArray) (k : Nat) (h : k < s.size) (w : World) : (Instr.index 9 (.string s) (.int .i64 (k : Int))).run Tryz.prog w = .ok (.int .u8 (at' s.data.toList k : Int)) w := run_index_str s k h w

theorem hexV_in (c : Nat) (h : c < 256) : -1 ≤ hexV c ∧ hexV c ≤ 15 := by
  have key : ∀ x : Fin 256, -1 ≤ hexV x.val ∧ hexV x.val ≤ 15 := by decide +kernel
  exact key ⟨c, h⟩

set_option maxRecDepth 100000 in
set_option maxHeartbeats 4000000 in
theorem lchr_any (s : ByteArray) (w : World) (hs : s.size ≤ 9223372036854775807) (h : 0 < s.size) :
    Calls Tryz.prog 70 #[.string s] w fun e w' => ChrRet (chr s.data.toList) e ∧ ∃ n, w' = w.drewN n := by
  have i0 : ∀ w, (Instr.index 9 (.string s) (.int .i64 0)).run Tryz.prog w = .ok (.int .u8 (at' s.data.toList 0 : Int)) w := indexk s 0 h
  have c0 := at_lt s.data.toList 0
  unfold chr
  rw [size_list]
  by_cases h0 : at' s.data.toList 0 < 32
  · rw [if_pos h0]
    generalize at' s.data.toList 0 = a at i0 c0 h0 ⊢
    go_enter Tryz.func70, Tryz.ntmps70
    go_wp2_with fail
    go_ret2
    exact ⟨rfl, 0, rfl⟩
  · rw [if_neg h0]
    by_cases h1 : at' s.data.toList 0 = 92
    · rw [if_neg (by omega)]
      rw [h1] at i0
      clear c0 h0 h1
      by_cases h2 : 2 ≤ s.size
      · have i1 : ∀ w, (Instr.index 9 (.string s) (.int .i64 1)).run Tryz.prog w = .ok (.int .u8 (at' s.data.toList 1 : Int)) w := indexk s 1 (by omega)
        have c1 := at_lt s.data.toList 1
        generalize at' s.data.toList 1 = c at i1 c1 ⊢
        by_cases hq : c = 34
        · rw [if_pos ⟨h2, Or.inl hq⟩]
          subst hq
          go_enter Tryz.func70, Tryz.ntmps70
          go_wp2_with fail
          go_ret2
          exact ⟨rfl, 0, rfl⟩
        have b34 : ((c : Int) == 34) = false := by rw [beq_eq_false_iff_ne]; omega
        by_cases hs2 : c = 92
        · rw [if_pos ⟨h2, Or.inr hs2⟩]
          subst hs2
          go_enter Tryz.func70, Tryz.ntmps70
          go_wp2_with fail
          go_ret2
          exact ⟨rfl, 0, rfl⟩
        have b92 : ((c : Int) == 92) = false := by rw [beq_eq_false_iff_ne]; omega
        rw [if_neg (by omega)]
        by_cases hn : c = 110
        · rw [if_pos ⟨h2, hn⟩]
          subst hn
          go_enter Tryz.func70, Tryz.ntmps70
          go_wp2_with fail
          go_ret2
          exact ⟨rfl, 0, rfl⟩
        have b110 : ((c : Int) == 110) = false := by rw [beq_eq_false_iff_ne]; omega
        rw [if_neg (by omega)]
        by_cases h4 : 4 ≤ s.size
        · by_cases hx : c = 120
          · subst hx
            have i2 : ∀ w, (Instr.index 9 (.string s) (.int .i64 2)).run Tryz.prog w = .ok (.int .u8 (at' s.data.toList 2 : Int)) w := indexk s 2 (by omega)
            have i3 : ∀ w, (Instr.index 9 (.string s) (.int .i64 3)).run Tryz.prog w = .ok (.int .u8 (at' s.data.toList 3 : Int)) w := indexk s 3 (by omega)
            have d2 := at_lt s.data.toList 2
            have d3 := at_lt s.data.toList 3
            generalize at' s.data.toList 2 = u at i2 d2 ⊢
            generalize at' s.data.toList 3 = v at i3 d3 ⊢
            obtain ⟨u0, u1⟩ := hexV_in u d2
            obtain ⟨v0, v1⟩ := hexV_in v d3
            have x2 : ∀ w, Calls Tryz.prog 83 #[.string ⟨#[48, 49, 50, 51, 52, 53, 54, 55, 56, 57, 97, 98, 99, 100, 101, 102]⟩, .int .u8 (u : Int)] w fun e w' => e = .returned (.int .i64 (hexV u)) ∧ w' = w := fun w => Tryz.strings_IndexByte ⟨hexD.toArray⟩ (u : Int) w
            have x3 : ∀ w, Calls Tryz.prog 83 #[.string ⟨#[48, 49, 50, 51, 52, 53, 54, 55, 56, 57, 97, 98, 99, 100, 101, 102]⟩, .int .u8 (v : Int)] w fun e w' => e = .returned (.int .i64 (hexV v)) ∧ w' = w := fun w => Tryz.strings_IndexByte ⟨hexD.toArray⟩ (v : Int) w
            generalize hexV u = a at u0 u1 x2 ⊢
            generalize hexV v = b at v0 v1 x3 ⊢
            have HH := hid (And.intro x2 x3)
            clear x2 x3 d2 d3 b34 b92 b110 hq hs2 hn c1
            by_cases ha : 0 ≤ a
            · by_cases hb : 0 ≤ b
              · rw [if_pos ⟨h4, rfl, ha, hb⟩]
                have hw1 : IntKind.u8.wrap (16 * a + b) = 16 * a + b := by rw [IntKind.wrap_u8]; omega
                have KT : Kpt ((((16 * a + b).toNat : Nat) : Int) = 16 * a + b) := hid (by omega)
                go_enter Tryz.func70, Tryz.ntmps70
                go_wp2_with fail
                go_quiet ((go_at_call 83; first | exact Calls.quiet_of_same (HH.out.1 _) | exact Calls.quiet_of_same (HH.out.2 _)))
                go_wp2_with fail
                go_ret2
                refine ⟨?_, _, rfl⟩
                unfold ChrRet
                simp only [KT.out]
                rfl
              · rw [if_neg (fun h => hb h.2.2.2)]
                have hb2 : b < 0 := by omega
                clear hb
                go_enter Tryz.func70, Tryz.ntmps70
                go_wp2_with fail
                go_quiet ((go_at_call 83; first | exact Calls.quiet_of_same (HH.out.1 _) | exact Calls.quiet_of_same (HH.out.2 _)))
                go_wp2_with fail
                go_ret2
                exact ⟨rfl, _, rfl⟩
            · rw [if_neg (fun h => ha h.2.2.1)]
              have ha2 : a < 0 := by omega
              clear ha
              go_enter Tryz.func70, Tryz.ntmps70
              go_wp2_with fail
              go_quiet ((go_at_call 83; first | exact Calls.quiet_of_same (HH.out.1 _) | exact Calls.quiet_of_same (HH.out.2 _)))
              go_wp2_with fail
              go_ret2
              exact ⟨rfl, _, rfl⟩
          · rw [if_neg (fun h => hx h.2.1)]
            have b120 : ((c : Int) == 120) = false := by rw [beq_eq_false_iff_ne]; omega
            clear hq hs2 hn hx
            go_enter Tryz.func70, Tryz.ntmps70
            go_wp2_with fail
            go_ret2
            exact ⟨rfl, 0, rfl⟩
        · rw [if_neg (fun h => h4 h.1)]
          clear hq hs2 hn
          go_enter Tryz.func70, Tryz.ntmps70
          go_wp2_with fail
          go_ret2
          exact ⟨rfl, 0, rfl⟩
      · rw [if_neg (by omega), if_neg (by omega), if_neg (by omega)]
        go_enter Tryz.func70, Tryz.ntmps70
        go_wp2_with fail
        go_ret2
        exact ⟨rfl, 0, rfl⟩
    · rw [if_pos h1]
      generalize at' s.data.toList 0 = a at i0 c0 h0 h1 ⊢
      have hb : ((a : Int) != 92) = true := by rw [bne_iff_ne]; omega
      clear h1
      go_enter Tryz.func70, Tryz.ntmps70
      go_wp2_with fail
      go_ret2
      exact ⟨rfl, 0, rfl⟩
end Go.Proofs.YtmgmmbikdmobpaaGreatDoor
