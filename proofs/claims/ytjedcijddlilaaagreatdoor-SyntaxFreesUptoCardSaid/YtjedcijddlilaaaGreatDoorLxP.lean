/- lexer: the kinds of bytes. -/
import Derived.Test.YtjedcijddlilaaaGreatDoorBase
namespace Go.Proofs.YtjedcijddlilaaaGreatDoor
open Go.RowKit

theorem ret_bool {a b : Bool} (h : a = b) : Ending.returned (.bool a) = .returned (.bool b) := by rw [h]
/-! Bytes as numbers. -/
def isSm (c : Nat) : Bool := decide (97 ≤ c) && decide (c ≤ 122)
def isCp (c : Nat) : Bool := decide (65 ≤ c) && decide (c ≤ 90)
def isDg (c : Nat) : Bool := decide (48 ≤ c) && decide (c ≤ 57)
def isLt (c : Nat) : Bool := isSm c || isCp c
def isWd (c : Nat) : Bool := isLt c || isDg c || c == 95
def isSg (c : Nat) : Bool := isSm c || isDg c
def isBl (c : Nat) : Bool := c == 32 || c == 9 || c == 10 || c == 13
def isNl (c : Nat) : Bool := c != 10

/-- Function f is the predicate p on bytes. -/
def PredIs (f : Nat) (p : Nat → Bool) : Prop := ∀ (c : Nat) (w : World), c < 256 → Calls Tryz.prog f #[.int .u8 (c : Int)] w fun e w' => e = .returned (.bool (p c)) ∧ w' = w

theorem small_is : PredIs 194 isSm := by
  intro c w hc
  by_cases h1 : 97 ≤ c
  · go_enter Tryz.func194, Tryz.ntmps194
    go_wp2_with fail
    go_ret
    exact ⟨ret_bool (by unfold isSm; rw [Bool.eq_iff_iff]; simp; omega), rfl⟩
  · go_enter Tryz.func194, Tryz.ntmps194
    go_wp2_with fail
    go_ret
    exact ⟨ret_bool (by unfold isSm; rw [Bool.eq_iff_iff]; simp; omega), rfl⟩
theorem digit_is : PredIs 195 isDg := by
  intro c w hc
  by_cases h1 : 48 ≤ c
  · go_enter Tryz.func195, Tryz.ntmps195
    go_wp2_with fail
    go_ret
    exact ⟨ret_bool (by unfold isDg; rw [Bool.eq_iff_iff]; simp; omega), rfl⟩
  · go_enter Tryz.func195, Tryz.ntmps195
    go_wp2_with fail
    go_ret
    exact ⟨ret_bool (by unfold isDg; rw [Bool.eq_iff_iff]; simp; omega), rfl⟩
theorem letter_is : PredIs 168 isLt := by
  intro c w hc
  have g0 := small_is c w hc
  cases q0 : isSm c with
  | true =>
    rw [q0] at g0
    have G0 := hid g0
    have Q0 := hid q0
    clear g0 q0
    go_enter Tryz.func168, Tryz.ntmps168
    go_wp2_with fail
    refine G0.out.mono ?_
    rintro e w0 ⟨rfl, rfl⟩
    go_wp2_with fail
    go_ret
    exact ⟨ret_bool (by unfold isLt; first | (rw [Q0.out]; rfl) | (rw [Q0.out]; rw [Bool.eq_iff_iff]; simp; omega) | (simp [isCp, Q0.out]; done) | (rw [Q0.out]; unfold isCp; rw [Bool.eq_iff_iff]; simp; omega)), rfl⟩
  | false =>
    rw [q0] at g0
    by_cases h1 : 65 ≤ c
    · have G0 := hid g0
      have Q0 := hid q0
      clear g0 q0
      go_enter Tryz.func168, Tryz.ntmps168
      go_wp2_with fail
      refine G0.out.mono ?_
      rintro e w0 ⟨rfl, rfl⟩
      go_wp2_with fail
      go_ret
      exact ⟨ret_bool (by unfold isLt; first | (rw [Q0.out]; rfl) | (rw [Q0.out]; rw [Bool.eq_iff_iff]; simp; omega) | (simp [isCp, Q0.out]; done) | (rw [Q0.out]; unfold isCp; rw [Bool.eq_iff_iff]; simp; omega)), rfl⟩
    · have G0 := hid g0
      have Q0 := hid q0
      clear g0 q0
      go_enter Tryz.func168, Tryz.ntmps168
      go_wp2_with fail
      refine G0.out.mono ?_
      rintro e w0 ⟨rfl, rfl⟩
      go_wp2_with fail
      go_ret
      exact ⟨ret_bool (by unfold isLt; first | (rw [Q0.out]; rfl) | (rw [Q0.out]; rw [Bool.eq_iff_iff]; simp; omega) | (simp [isCp, Q0.out]; done) | (rw [Q0.out]; unfold isCp; rw [Bool.eq_iff_iff]; simp; omega)), rfl⟩
theorem word_is : PredIs 170 isWd := by
  intro c w hc
  have g0 := letter_is c w hc
  cases q0 : isLt c with
  | true =>
    rw [q0] at g0
    have G0 := hid g0
    have Q0 := hid q0
    clear g0 q0
    go_enter Tryz.func170, Tryz.ntmps170
    go_wp2_with fail
    refine G0.out.mono ?_
    rintro e w0 ⟨rfl, rfl⟩
    go_wp2_with fail
    go_ret
    exact ⟨ret_bool (by unfold isWd; first | (rw [Q0.out]; rfl) | (rw [Q0.out]; rw [Bool.eq_iff_iff]; simp; omega) | (simp [isCp, Q0.out]; done) | (rw [Q0.out]; unfold isCp; rw [Bool.eq_iff_iff]; simp; omega)), rfl⟩
  | false =>
    rw [q0] at g0
    have g1 := digit_is c w hc
    cases q1 : isDg c with
    | true =>
      rw [q1] at g1
      have G0 := hid g0
      have Q0 := hid q0
      clear g0 q0
      have G1 := hid g1
      have Q1 := hid q1
      clear g1 q1
      go_enter Tryz.func170, Tryz.ntmps170
      go_wp2_with fail
      refine G0.out.mono ?_
      rintro e w0 ⟨rfl, rfl⟩
      go_wp2_with fail
      refine G1.out.mono ?_
      rintro e w1 ⟨rfl, rfl⟩
      go_wp2_with fail
      go_ret
      exact ⟨ret_bool (by unfold isWd; first | (rw [Q0.out, Q1.out]; rfl) | (rw [Q0.out, Q1.out]; rw [Bool.eq_iff_iff]; simp; omega) | (simp [isCp, Q0.out, Q1.out]; done) | (rw [Q0.out, Q1.out]; unfold isCp; rw [Bool.eq_iff_iff]; simp; omega)), rfl⟩
    | false =>
      rw [q1] at g1
      have G0 := hid g0
      have Q0 := hid q0
      clear g0 q0
      have G1 := hid g1
      have Q1 := hid q1
      clear g1 q1
      go_enter Tryz.func170, Tryz.ntmps170
      go_wp2_with fail
      refine G0.out.mono ?_
      rintro e w0 ⟨rfl, rfl⟩
      go_wp2_with fail
      refine G1.out.mono ?_
      rintro e w1 ⟨rfl, rfl⟩
      go_wp2_with fail
      go_ret
      exact ⟨ret_bool (by unfold isWd; first | (rw [Q0.out, Q1.out]; rfl) | (rw [Q0.out, Q1.out]; rw [Bool.eq_iff_iff]; simp; omega) | (simp [isCp, Q0.out, Q1.out]; done) | (rw [Q0.out, Q1.out]; unfold isCp; rw [Bool.eq_iff_iff]; simp; omega)), rfl⟩
theorem seg_is : PredIs 200 isSg := by
  intro c w hc
  have g0 := small_is c w hc
  cases q0 : isSm c with
  | true =>
    rw [q0] at g0
    have G0 := hid g0
    have Q0 := hid q0
    clear g0 q0
    go_enter Tryz.func200, Tryz.ntmps200
    go_wp2_with fail
    refine G0.out.mono ?_
    rintro e w0 ⟨rfl, rfl⟩
    go_wp2_with fail
    go_ret
    exact ⟨ret_bool (by unfold isSg; first | (rw [Q0.out]; rfl) | (rw [Q0.out]; rw [Bool.eq_iff_iff]; simp; omega) | (simp [isCp, Q0.out]; done) | (rw [Q0.out]; unfold isCp; rw [Bool.eq_iff_iff]; simp; omega)), rfl⟩
  | false =>
    rw [q0] at g0
    have g1 := digit_is c w hc
    cases q1 : isDg c with
    | true =>
      rw [q1] at g1
      have G0 := hid g0
      have Q0 := hid q0
      clear g0 q0
      have G1 := hid g1
      have Q1 := hid q1
      clear g1 q1
      go_enter Tryz.func200, Tryz.ntmps200
      go_wp2_with fail
      refine G0.out.mono ?_
      rintro e w0 ⟨rfl, rfl⟩
      go_wp2_with fail
      refine G1.out.mono ?_
      rintro e w1 ⟨rfl, rfl⟩
      go_wp2_with fail
      go_ret
      exact ⟨ret_bool (by unfold isSg; first | (rw [Q0.out, Q1.out]; rfl) | (rw [Q0.out, Q1.out]; rw [Bool.eq_iff_iff]; simp; omega) | (simp [isCp, Q0.out, Q1.out]; done) | (rw [Q0.out, Q1.out]; unfold isCp; rw [Bool.eq_iff_iff]; simp; omega)), rfl⟩
    | false =>
      rw [q1] at g1
      have G0 := hid g0
      have Q0 := hid q0
      clear g0 q0
      have G1 := hid g1
      have Q1 := hid q1
      clear g1 q1
      go_enter Tryz.func200, Tryz.ntmps200
      go_wp2_with fail
      refine G0.out.mono ?_
      rintro e w0 ⟨rfl, rfl⟩
      go_wp2_with fail
      refine G1.out.mono ?_
      rintro e w1 ⟨rfl, rfl⟩
      go_wp2_with fail
      go_ret
      exact ⟨ret_bool (by unfold isSg; first | (rw [Q0.out, Q1.out]; rfl) | (rw [Q0.out, Q1.out]; rw [Bool.eq_iff_iff]; simp; omega) | (simp [isCp, Q0.out, Q1.out]; done) | (rw [Q0.out, Q1.out]; unfold isCp; rw [Bool.eq_iff_iff]; simp; omega)), rfl⟩
theorem rsmall_is : PredIs 148 isSm := by
  intro c w hc
  by_cases h1 : 97 ≤ c
  · go_enter Tryz.func148, Tryz.ntmps148
    go_wp2_with fail
    go_ret
    exact ⟨ret_bool (by unfold isSm; rw [Bool.eq_iff_iff]; simp; omega), rfl⟩
  · go_enter Tryz.func148, Tryz.ntmps148
    go_wp2_with fail
    go_ret
    exact ⟨ret_bool (by unfold isSm; rw [Bool.eq_iff_iff]; simp; omega), rfl⟩
theorem rcap_is : PredIs 111 isCp := by
  intro c w hc
  by_cases h1 : 65 ≤ c
  · go_enter Tryz.func111, Tryz.ntmps111
    go_wp2_with fail
    go_ret
    exact ⟨ret_bool (by unfold isCp; rw [Bool.eq_iff_iff]; simp; omega), rfl⟩
  · go_enter Tryz.func111, Tryz.ntmps111
    go_wp2_with fail
    go_ret
    exact ⟨ret_bool (by unfold isCp; rw [Bool.eq_iff_iff]; simp; omega), rfl⟩
theorem rdigit_is : PredIs 189 isDg := by
  intro c w hc
  by_cases h1 : 48 ≤ c
  · go_enter Tryz.func189, Tryz.ntmps189
    go_wp2_with fail
    go_ret
    exact ⟨ret_bool (by unfold isDg; rw [Bool.eq_iff_iff]; simp; omega), rfl⟩
  · go_enter Tryz.func189, Tryz.ntmps189
    go_wp2_with fail
    go_ret
    exact ⟨ret_bool (by unfold isDg; rw [Bool.eq_iff_iff]; simp; omega), rfl⟩
end Go.Proofs.YtjedcijddlilaaaGreatDoor
