/- lexer: blanks; the reference's word characters. -/
import Derived.Test.YtjedcijddlilaaaGreatDoorLxP
namespace Go.Proofs.YtjedcijddlilaaaGreatDoor
open Go.RowKit

theorem rword_is : PredIs 172 isWd := by
  intro c w hc
  have g0 := rsmall_is c w hc
  cases q0 : isSm c with
  | true =>
    rw [q0] at g0
    have G0 := hid g0
    have Q0 := hid q0
    clear g0 q0
    go_enter Tryz.func172, Tryz.ntmps172
    go_wp2_with fail
    refine G0.out.mono ?_
    rintro e w0 ⟨rfl, rfl⟩
    go_wp2_with fail
    go_ret
    exact ⟨ret_bool (by unfold isWd isLt; first | (rw [Q0.out]; rfl) | (rw [Q0.out]; rw [Bool.eq_iff_iff]; simp; omega) | (simp [isCp, Q0.out]; done) | (rw [Q0.out]; unfold isCp; rw [Bool.eq_iff_iff]; simp; omega)), rfl⟩
  | false =>
    rw [q0] at g0
    have g1 := rcap_is c w hc
    cases q1 : isCp c with
    | true =>
      rw [q1] at g1
      have G0 := hid g0
      have Q0 := hid q0
      clear g0 q0
      have G1 := hid g1
      have Q1 := hid q1
      clear g1 q1
      go_enter Tryz.func172, Tryz.ntmps172
      go_wp2_with fail
      refine G0.out.mono ?_
      rintro e w0 ⟨rfl, rfl⟩
      go_wp2_with fail
      refine G1.out.mono ?_
      rintro e w1 ⟨rfl, rfl⟩
      go_wp2_with fail
      go_ret
      exact ⟨ret_bool (by unfold isWd isLt; first | (rw [Q0.out, Q1.out]; rfl) | (rw [Q0.out, Q1.out]; rw [Bool.eq_iff_iff]; simp; omega) | (simp [isCp, Q0.out, Q1.out]; done) | (rw [Q0.out, Q1.out]; unfold isCp; rw [Bool.eq_iff_iff]; simp; omega)), rfl⟩
    | false =>
      rw [q1] at g1
      have g2 := rdigit_is c w hc
      cases q2 : isDg c with
      | true =>
        rw [q2] at g2
        have G0 := hid g0
        have Q0 := hid q0
        clear g0 q0
        have G1 := hid g1
        have Q1 := hid q1
        clear g1 q1
        have G2 := hid g2
        have Q2 := hid q2
        clear g2 q2
        go_enter Tryz.func172, Tryz.ntmps172
        go_wp2_with fail
        refine G0.out.mono ?_
        rintro e w0 ⟨rfl, rfl⟩
        go_wp2_with fail
        refine G1.out.mono ?_
        rintro e w1 ⟨rfl, rfl⟩
        go_wp2_with fail
        refine G2.out.mono ?_
        rintro e w2 ⟨rfl, rfl⟩
        go_wp2_with fail
        go_ret
        exact ⟨ret_bool (by unfold isWd isLt; first | (rw [Q0.out, Q1.out, Q2.out]; rfl) | (rw [Q0.out, Q1.out, Q2.out]; rw [Bool.eq_iff_iff]; simp; omega) | (simp [isCp, Q0.out, Q1.out, Q2.out]; done) | (rw [Q0.out, Q1.out, Q2.out]; unfold isCp; rw [Bool.eq_iff_iff]; simp; omega)), rfl⟩
      | false =>
        rw [q2] at g2
        have G0 := hid g0
        have Q0 := hid q0
        clear g0 q0
        have G1 := hid g1
        have Q1 := hid q1
        clear g1 q1
        have G2 := hid g2
        have Q2 := hid q2
        clear g2 q2
        go_enter Tryz.func172, Tryz.ntmps172
        go_wp2_with fail
        refine G0.out.mono ?_
        rintro e w0 ⟨rfl, rfl⟩
        go_wp2_with fail
        refine G1.out.mono ?_
        rintro e w1 ⟨rfl, rfl⟩
        go_wp2_with fail
        refine G2.out.mono ?_
        rintro e w2 ⟨rfl, rfl⟩
        go_wp2_with fail
        go_ret
        exact ⟨ret_bool (by unfold isWd isLt; first | (rw [Q0.out, Q1.out, Q2.out]; rfl) | (rw [Q0.out, Q1.out, Q2.out]; rw [Bool.eq_iff_iff]; simp; omega) | (simp [isCp, Q0.out, Q1.out, Q2.out]; done) | (rw [Q0.out, Q1.out, Q2.out]; unfold isCp; rw [Bool.eq_iff_iff]; simp; omega)), rfl⟩

/-- The number of bytes at the beginning that a predicate holds of. -/
def spn (p : Nat → Bool) (l : List UInt8) : Nat := (l.takeWhile fun b => p b.toNat).length
theorem spn_le (p : Nat → Bool) (l : List UInt8) : spn p l ≤ l.length := by
  unfold spn; exact List.Sublist.length_le (List.takeWhile_sublist _)
theorem spn_at (p : Nat → Bool) (l : List UInt8) (k : Nat) (hk : k < l.length) (h : ∀ j, j < k → p ((l.getD j 0).toNat) = true) (hn : p ((l.getD k 0).toNat) = false) : spn p l = k := by
  induction l generalizing k with
  | nil => simp at hk
  | cons b l ih =>
    unfold spn
    cases k with
    | zero =>
      have hb : p b.toNat = false := by simpa using hn
      rw [List.takeWhile_cons, hb]
      rfl
    | succ k =>
      have hb : p b.toNat = true := by simpa using h 0 (by omega)
      rw [List.takeWhile_cons, hb]
      have := ih k (by simpa using hk) (fun j hj => by simpa using h (j + 1) (by omega)) (by simpa using hn)
      unfold spn at this
      simp [this]
theorem spn_all (p : Nat → Bool) (l : List UInt8) (h : ∀ j, j < l.length → p ((l.getD j 0).toNat) = true) : spn p l = l.length := by
  induction l with
  | nil => rfl
  | cons b l ih =>
    unfold spn
    have hb : p b.toNat = true := by simpa using h 0 (by simp)
    rw [List.takeWhile_cons, hb]
    have := ih (fun j hj => by simpa using h (j + 1) (by simpa using hj))
    unfold spn at this
    simp [this]

set_option maxRecDepth 100000 in
set_option maxHeartbeats 1000000 in
theorem span_word (s : ByteArray) (w : World) (hs : s.size ≤ 9223372036854775807) :
    Calls Tryz.prog 169 #[.string s, .func (.func 170) #[] #[]] w fun e w' => e = .returned (.int .i64 (spn isWd s.data.toList : Int)) ∧ w' = w := by
  obtain ⟨p, hpp⟩ : ∃ p, p = isWd := ⟨_, rfl⟩
  have HP : Kpt (PredIs 170 p) := hid (by rw [hpp]; exact word_is)
  have HQ := hid hpp
  clear hpp
  go_enter Tryz.func169, Tryz.ntmps169
  go_wp2_with fail
  go_loopw [8] (fun i wr => ∃ k : Nat, k ≤ s.size ∧ i = .int .i64 (k : Int) ∧ (∀ j, j < k → p ((s.data.toList.getD j 0).toNat) = true) ∧ wr = w) (fun i _ => s.size - (intOf i).toNat)
  case atStart => exact ⟨0, by omega, rfl, fun j hj => absurd hj (by omega), rfl⟩
  case round =>
    obtain ⟨k, hk, rfl, hall, rfl⟩ := hrel
    have HA := hid hall
    clear hall
    by_cases hlt : k < s.size
    · have hix := run_index_str s k hlt
      have hcl := (s.data.toList.getD k 0).toNat_lt
      have hpc := HP.out (s.data.toList.getD k 0).toNat wr hcl
      have hkl : k < s.data.toList.length := by rw [size_list]; exact hlt
      cases hq : p (s.data.toList.getD k 0).toNat with
      | true =>
        rw [hq] at hpc
        have hnext : Kpt (∀ j, j < k + 1 → p ((s.data.toList.getD j 0).toNat) = true) := hid fun j hj => by
          rcases Nat.lt_or_ge j k with h | h
          · exact HA.out j h
          · obtain rfl : j = k := by omega
            exact hq
        have HC := hid hpc
        clear hpc hq hkl
        generalize (s.data.toList.getD k 0).toNat = c at hix hcl HC
        go_wp2_with fail
        refine HC.out.mono ?_
        rintro e w1 ⟨rfl, rfl⟩
        go_wp2_with fail
        go_roundw
        case rel => exact ⟨k + 1, by omega, by go_num, hnext.out, trivial⟩
        case measure => simp [intOf]; omega
      | false =>
        rw [hq] at hpc
        have hend : Kpt (spn isWd s.data.toList = k) := hid (by rw [← HQ.out]; exact spn_at p _ k hkl HA.out hq)
        have HC := hid hpc
        clear hpc hq hkl
        generalize (s.data.toList.getD k 0).toNat = c at hix hcl HC
        go_wp2_with fail
        refine HC.out.mono ?_
        rintro e w1 ⟨rfl, rfl⟩
        go_wp2_with fail
        go_ret
        exact ⟨by rw [hend.out]; rfl, rfl⟩
    · obtain rfl : k = s.size := by omega
      have hend : Kpt (spn isWd s.data.toList = s.size) := hid (by rw [← HQ.out]; exact (spn_all p _ (fun j hj => HA.out j (by rw [size_list] at hj; exact hj))).trans (size_list s))
      go_wp2_with fail
      go_ret
      exact ⟨by rw [hend.out]; rfl, rfl⟩
set_option maxRecDepth 100000 in
set_option maxHeartbeats 1000000 in
theorem span_digit (s : ByteArray) (w : World) (hs : s.size ≤ 9223372036854775807) :
    Calls Tryz.prog 169 #[.string s, .func (.func 195) #[] #[]] w fun e w' => e = .returned (.int .i64 (spn isDg s.data.toList : Int)) ∧ w' = w := by
  obtain ⟨p, hpp⟩ : ∃ p, p = isDg := ⟨_, rfl⟩
  have HP : Kpt (PredIs 195 p) := hid (by rw [hpp]; exact digit_is)
  have HQ := hid hpp
  clear hpp
  go_enter Tryz.func169, Tryz.ntmps169
  go_wp2_with fail
  go_loopw [8] (fun i wr => ∃ k : Nat, k ≤ s.size ∧ i = .int .i64 (k : Int) ∧ (∀ j, j < k → p ((s.data.toList.getD j 0).toNat) = true) ∧ wr = w) (fun i _ => s.size - (intOf i).toNat)
  case atStart => exact ⟨0, by omega, rfl, fun j hj => absurd hj (by omega), rfl⟩
  case round =>
    obtain ⟨k, hk, rfl, hall, rfl⟩ := hrel
    have HA := hid hall
    clear hall
    by_cases hlt : k < s.size
    · have hix := run_index_str s k hlt
      have hcl := (s.data.toList.getD k 0).toNat_lt
      have hpc := HP.out (s.data.toList.getD k 0).toNat wr hcl
      have hkl : k < s.data.toList.length := by rw [size_list]; exact hlt
      cases hq : p (s.data.toList.getD k 0).toNat with
      | true =>
        rw [hq] at hpc
        have hnext : Kpt (∀ j, j < k + 1 → p ((s.data.toList.getD j 0).toNat) = true) := hid fun j hj => by
          rcases Nat.lt_or_ge j k with h | h
          · exact HA.out j h
          · obtain rfl : j = k := by omega
            exact hq
        have HC := hid hpc
        clear hpc hq hkl
        generalize (s.data.toList.getD k 0).toNat = c at hix hcl HC
        go_wp2_with fail
        refine HC.out.mono ?_
        rintro e w1 ⟨rfl, rfl⟩
        go_wp2_with fail
        go_roundw
        case rel => exact ⟨k + 1, by omega, by go_num, hnext.out, trivial⟩
        case measure => simp [intOf]; omega
      | false =>
        rw [hq] at hpc
        have hend : Kpt (spn isDg s.data.toList = k) := hid (by rw [← HQ.out]; exact spn_at p _ k hkl HA.out hq)
        have HC := hid hpc
        clear hpc hq hkl
        generalize (s.data.toList.getD k 0).toNat = c at hix hcl HC
        go_wp2_with fail
        refine HC.out.mono ?_
        rintro e w1 ⟨rfl, rfl⟩
        go_wp2_with fail
        go_ret
        exact ⟨by rw [hend.out]; rfl, rfl⟩
    · obtain rfl : k = s.size := by omega
      have hend : Kpt (spn isDg s.data.toList = s.size) := hid (by rw [← HQ.out]; exact (spn_all p _ (fun j hj => HA.out j (by rw [size_list] at hj; exact hj))).trans (size_list s))
      go_wp2_with fail
      go_ret
      exact ⟨by rw [hend.out]; rfl, rfl⟩
set_option maxRecDepth 100000 in
set_option maxHeartbeats 1000000 in
theorem span_seg (s : ByteArray) (w : World) (hs : s.size ≤ 9223372036854775807) :
    Calls Tryz.prog 169 #[.string s, .func (.func 200) #[] #[]] w fun e w' => e = .returned (.int .i64 (spn isSg s.data.toList : Int)) ∧ w' = w := by
  obtain ⟨p, hpp⟩ : ∃ p, p = isSg := ⟨_, rfl⟩
  have HP : Kpt (PredIs 200 p) := hid (by rw [hpp]; exact seg_is)
  have HQ := hid hpp
  clear hpp
  go_enter Tryz.func169, Tryz.ntmps169
  go_wp2_with fail
  go_loopw [8] (fun i wr => ∃ k : Nat, k ≤ s.size ∧ i = .int .i64 (k : Int) ∧ (∀ j, j < k → p ((s.data.toList.getD j 0).toNat) = true) ∧ wr = w) (fun i _ => s.size - (intOf i).toNat)
  case atStart => exact ⟨0, by omega, rfl, fun j hj => absurd hj (by omega), rfl⟩
  case round =>
    obtain ⟨k, hk, rfl, hall, rfl⟩ := hrel
    have HA := hid hall
    clear hall
    by_cases hlt : k < s.size
    · have hix := run_index_str s k hlt
      have hcl := (s.data.toList.getD k 0).toNat_lt
      have hpc := HP.out (s.data.toList.getD k 0).toNat wr hcl
      have hkl : k < s.data.toList.length := by rw [size_list]; exact hlt
      cases hq : p (s.data.toList.getD k 0).toNat with
      | true =>
        rw [hq] at hpc
        have hnext : Kpt (∀ j, j < k + 1 → p ((s.data.toList.getD j 0).toNat) = true) := hid fun j hj => by
          rcases Nat.lt_or_ge j k with h | h
          · exact HA.out j h
          · obtain rfl : j = k := by omega
            exact hq
        have HC := hid hpc
        clear hpc hq hkl
        generalize (s.data.toList.getD k 0).toNat = c at hix hcl HC
        go_wp2_with fail
        refine HC.out.mono ?_
        rintro e w1 ⟨rfl, rfl⟩
        go_wp2_with fail
        go_roundw
        case rel => exact ⟨k + 1, by omega, by go_num, hnext.out, trivial⟩
        case measure => simp [intOf]; omega
      | false =>
        rw [hq] at hpc
        have hend : Kpt (spn isSg s.data.toList = k) := hid (by rw [← HQ.out]; exact spn_at p _ k hkl HA.out hq)
        have HC := hid hpc
        clear hpc hq hkl
        generalize (s.data.toList.getD k 0).toNat = c at hix hcl HC
        go_wp2_with fail
        refine HC.out.mono ?_
        rintro e w1 ⟨rfl, rfl⟩
        go_wp2_with fail
        go_ret
        exact ⟨by rw [hend.out]; rfl, rfl⟩
    · obtain rfl : k = s.size := by omega
      have hend : Kpt (spn isSg s.data.toList = s.size) := hid (by rw [← HQ.out]; exact (spn_all p _ (fun j hj => HA.out j (by rw [size_list] at hj; exact hj))).trans (size_list s))
      go_wp2_with fail
      go_ret
      exact ⟨by rw [hend.out]; rfl, rfl⟩
end Go.Proofs.YtjedcijddlilaaaGreatDoor
