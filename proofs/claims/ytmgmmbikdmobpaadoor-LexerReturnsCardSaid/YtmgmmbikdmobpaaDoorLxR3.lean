/- lexer: the reference's segment, major. -/
import Derived.Test.YtmgmmbikdmobpaaDoorLxR2
import Derived.Test.YtmgmmbikdmobpaaDoorLxC
namespace Go.Proofs.YtmgmmbikdmobpaaDoor
open Go.RowKit

set_option maxRecDepth 100000 in
set_option maxHeartbeats 1000000 in
theorem rsegment_any (s : ByteArray) (w : World) (hs : s.size ≤ 9223372036854775807) :
    Calls Tryd.prog 35 #[.string s] w fun e w' => e = .returned (.bool (isSgm s.data.toList)) ∧ Below w.heap.size w w' := by
  have HI := hid (fun w => risname_any s w hs)
  unfold isSgm
  rw [size_list, ← nameB_is]
  generalize nameB s.data.toList = R at HI ⊢
  obtain ⟨p, hpp⟩ : ∃ p, p = isSg := ⟨_, rfl⟩
  have HP : Kpt (∀ c, p c = (isSm c || isDg c)) := hid (by rw [hpp]; intro c; rfl)
  have HQ := hid hpp
  clear hpp
  go_enter Tryd.func35, Tryd.ntmps35
  go_wp2_with fail
  go_loopw [3] (fun i wr => ∃ k : Nat, k ≤ s.size ∧ i = .int .i64 (k : Int) ∧ (∀ j, j < k → p ((s.data.toList.getD j 0).toNat) = true) ∧ wr = w) (fun i _ => s.size - (intOf i).toNat)
  case atStart => exact ⟨0, by omega, rfl, fun j hj => absurd hj (by omega), rfl⟩
  case round =>
    obtain ⟨k, hk, rfl, hall, rfl⟩ := hrel
    have HA := hid hall
    clear hall
    by_cases hlt : k < s.size
    · have hix := run_index_str s k hlt
      have hcl := (s.data.toList.getD k 0).toNat_lt
      have hsm := fun w => rsmall_is (s.data.toList.getD k 0).toNat w hcl
      have hdg := fun w => rdigit_is (s.data.toList.getD k 0).toNat w hcl
      have hpe := HP.out (s.data.toList.getD k 0).toNat
      have hkl : k < s.data.toList.length := by rw [size_list]; exact hlt
      have HN : Kpt (p (s.data.toList.getD k 0).toNat = true → ∀ j, j < k + 1 → p ((s.data.toList.getD j 0).toNat) = true) := hid fun hq j hj => by
        rcases Nat.lt_or_ge j k with h | h
        · exact HA.out j h
        · obtain rfl : j = k := by omega
          exact hq
      have HE : Kpt (p (s.data.toList.getD k 0).toNat = false → (spn isSg s.data.toList == s.size) = false) := hid fun hq => by rw [← HQ.out, spn_at p _ k hkl HA.out hq, beq_eq_false_iff_ne]; omega
      generalize (s.data.toList.getD k 0).toNat = c at hix hcl hsm hdg hpe HN HE
      cases q1 : isSm c with
      | true =>
        simp only [q1] at hsm
        rw [q1, Bool.true_or] at hpe
        have HS := hid hsm
        have HN2 := hid (HN.out hpe)
        clear hsm hdg q1 hpe HN HE
        go_wp2_with fail
        refine (HS.out _).mono ?_
        rintro e w1 ⟨rfl, rfl⟩
        go_wp2_with fail
        go_roundw
        case rel => exact ⟨k + 1, by omega, by go_num, HN2.out, trivial⟩
        case measure => simp [intOf]; omega
      | false =>
        simp only [q1] at hsm
        rw [q1, Bool.false_or] at hpe
        have HS := hid hsm
        cases q2 : isDg c with
        | true =>
          simp only [q2] at hdg
          rw [q2] at hpe
          have HD := hid hdg
          have HN2 := hid (HN.out hpe)
          clear hsm hdg q1 q2 hpe HN HE
          go_wp2_with fail
          refine (HS.out _).mono ?_
          rintro e w1 ⟨rfl, rfl⟩
          go_wp2_with fail
          refine (HD.out _).mono ?_
          rintro e w2 ⟨rfl, rfl⟩
          go_wp2_with fail
          go_roundw
          case rel => exact ⟨k + 1, by omega, by go_num, HN2.out, trivial⟩
          case measure => simp [intOf]; omega
        | false =>
          simp only [q2] at hdg
          rw [q2] at hpe
          have HD := hid hdg
          have HE2 := hid (HE.out hpe)
          clear hsm hdg q1 q2 hpe HN HE
          go_wp2_with fail
          refine (HS.out _).mono ?_
          rintro e w1 ⟨rfl, rfl⟩
          go_wp2_with fail
          refine (HD.out _).mono ?_
          rintro e w2 ⟨rfl, rfl⟩
          go_wp2_with fail
          go_ret
          exact ⟨by rw [HE2.out, Bool.and_false]; rfl, Below.refl _ _⟩
    · obtain rfl : k = s.size := by omega
      have hend : Kpt ((spn isSg s.data.toList == s.size) = true) := hid (by rw [← HQ.out, spn_all p _ (fun j hj => HA.out j (by rw [size_list] at hj; exact hj)), size_list]; simp)
      go_wp2_with fail
      refine (HI.out _).mono ?_
      rintro e w1 ⟨rfl, hb⟩
      have KB := hid hb
      clear hb
      go_wp2_with fail
      go_ret
      exact ⟨by rw [hend.out, Bool.and_true]; rfl, KB.out⟩

/-- The major version of a segment, or -1. -/
def majP (l : List UInt8) (n : Int) : Int := match l with
  | [] => n
  | b :: r => if isDg b.toNat then majP r (10 * n + (b.toNat - 48)) else -1
def majR (l : List UInt8) : Int := if l.length < 2 ∨ 4 < l.length ∨ fst l ≠ 118 ∨ (at' l 1 = 48 ∧ 2 < l.length) then -1 else majP (l.drop 1) 0
theorem majP_step (l : List UInt8) (k : Nat) (n : Int) (h : k < l.length) : majP (l.drop k) n = if isDg (at' l k) = true then majP (l.drop (k + 1)) (10 * n + ((at' l k : Nat) - 48)) else -1 := by
  rw [List.drop_eq_getElem_cons h]
  have e : at' l k = (l[k]).toNat := by unfold at'; rw [List.getD_eq_getElem?_getD, List.getElem?_eq_getElem h]; rfl
  rw [e]
  rfl
theorem index1 (s : ByteArray) (h : 1 < s.size) (w : World) : (Instr.index 9 (.string s) (.int .i64 1)).run Tryd.prog w = .ok (.int .u8 (at' s.data.toList 1 : Int)) w := indexk s 1 h w
set_option maxRecDepth 100000 in
set_option maxHeartbeats 4000000 in
theorem rmajor_any (s : ByteArray) (w : World) :
    Calls Tryd.prog 36 #[.string s] w fun e w' => e = .returned (.int .i64 (majR s.data.toList)) ∧ w' = w := by
  generalize hM : majR s.data.toList = M
  unfold majR at hM
  rw [size_list] at hM
  by_cases h1 : s.size < 2
  · rw [if_pos (Or.inl h1)] at hM
    subst hM
    go_enter Tryd.func36, Tryd.ntmps36
    go_wp2_with fail
    go_ret
    exact ⟨rfl, rfl⟩
  have h1 : 2 ≤ s.size := by omega
  by_cases h2 : 4 < s.size
  · rw [if_pos (Or.inr (Or.inl h2))] at hM
    subst hM
    go_enter Tryd.func36, Tryd.ntmps36
    go_wp2_with fail
    go_ret
    exact ⟨rfl, rfl⟩
  have h2 : s.size ≤ 4 := by omega
  have i0 := index0 s (by omega)
  have i1 := index1 s (by omega)
  have c0 := fst_lt s.data.toList
  have c1 := at_lt s.data.toList 1
  generalize fst s.data.toList = a at i0 c0 hM
  generalize at' s.data.toList 1 = b at i1 c1 hM
  by_cases h3 : a = 118
  · subst h3
    by_cases h4 : b = 48
    · subst h4
      by_cases h5 : 2 < s.size
      · rw [if_pos (Or.inr (Or.inr (Or.inr ⟨rfl, h5⟩)))] at hM
        subst hM
        go_enter Tryd.func36, Tryd.ntmps36
        go_wp2_with fail
        go_ret
        exact ⟨rfl, rfl⟩
      · rw [if_neg (by omega)] at hM
        have HM := hid hM.symm
        clear hM
        have h5 : s.size ≤ 2 := by omega
        go_enter Tryd.func36, Tryd.ntmps36
        go_wp2_with fail
        go_loopw [3, 4] (fun n i wr => ∃ (k : Nat) (N : Nat), 1 ≤ k ∧ k ≤ s.size ∧ i = .int .i64 (k : Int) ∧ n = .int .i64 (N : Int) ∧ N < 10 ^ (k - 1) ∧ M = majP (s.data.toList.drop k) N ∧ wr = w) (fun _ i _ => s.size - (intOf i).toNat)
        case atStart => exact ⟨1, 0, by omega, by omega, rfl, rfl, by omega, HM.out, rfl⟩
        case round =>
          obtain ⟨k, N, hk1, hk, rfl, rfl, hN, hM, rfl⟩ := hrel
          have hN3 : N < 1000 := by
            have h3 : 10 ^ (k - 1) ≤ 10 ^ 3 := Nat.pow_le_pow_right (by omega) (by omega)
            omega
          by_cases hlt : k < s.size
          · have hix := indexk s k hlt
            have hcl := at_lt s.data.toList k
            have hdg := fun w => rdigit_is (at' s.data.toList k) w hcl
            have hst := majP_step s.data.toList k N (by rw [size_list]; exact hlt)
            rw [← hM] at hst
            have hpow : 10 ^ (k - 1 + 1) = 10 * 10 ^ (k - 1) := by rw [Nat.pow_succ]; omega
            have hpk : k + 1 - 1 = k - 1 + 1 := by omega
            have hdv : isDg (at' s.data.toList k) = true → 48 ≤ at' s.data.toList k ∧ at' s.data.toList k ≤ 57 := by unfold isDg; simp
            generalize at' s.data.toList k = c at hix hcl hdg hst hdv
            cases q : isDg c with
            | true =>
              simp only [q] at hdg
              rw [q, if_pos rfl] at hst
              obtain ⟨hd1, hd2⟩ := hdv q
              have HD := hid hdg
              have HS := hid hst
              have HP : Kpt (10 * N + (c - 48) < 10 ^ (k + 1 - 1)) := hid (by rw [hpk, hpow]; omega)
              clear hdg hst hM hN hpow hpk hdv q
              go_wp2_with fail
              refine (HD.out _).mono ?_
              rintro e w1 ⟨rfl, rfl⟩
              go_wp2_with fail
              go_roundw
              case rel => exact ⟨k + 1, 10 * N + (c - 48), by omega, by omega, by go_num, by congr 1; omega, HP.out, HS.out.trans (by congr 1; omega), trivial⟩
              case measure => simp [intOf]; omega
            | false =>
              simp only [q] at hdg
              rw [q, if_neg (by decide)] at hst
              have HD := hid hdg
              have HS := hid hst
              clear hdg hst hM hN hpow hpk hdv q
              go_wp2_with fail
              refine (HD.out _).mono ?_
              rintro e w1 ⟨rfl, rfl⟩
              go_wp2_with fail
              go_ret
              exact ⟨by rw [HS.out]; rfl, rfl⟩
          · obtain rfl : k = s.size := by omega
            have hst : M = (N : Int) := by rw [hM, List.drop_of_length_le (by rw [size_list]; exact Nat.le_refl _)]; rfl
            have HS := hid hst
            clear hst hM hN
            go_wp2_with fail
            go_ret
            exact ⟨by rw [HS.out]; rfl, rfl⟩
    · have n3 : ((b : Int) == 48) = false := by rw [beq_eq_false_iff_ne]; omega
      rw [if_neg (by omega)] at hM
      have HM := hid hM.symm
      clear hM
      go_enter Tryd.func36, Tryd.ntmps36
      go_wp2_with fail
      go_loopw [3, 4] (fun n i wr => ∃ (k : Nat) (N : Nat), 1 ≤ k ∧ k ≤ s.size ∧ i = .int .i64 (k : Int) ∧ n = .int .i64 (N : Int) ∧ N < 10 ^ (k - 1) ∧ M = majP (s.data.toList.drop k) N ∧ wr = w) (fun _ i _ => s.size - (intOf i).toNat)
      case atStart => exact ⟨1, 0, by omega, by omega, rfl, rfl, by omega, HM.out, rfl⟩
      case round =>
        obtain ⟨k, N, hk1, hk, rfl, rfl, hN, hM, rfl⟩ := hrel
        have hN3 : N < 1000 := by
          have h3 : 10 ^ (k - 1) ≤ 10 ^ 3 := Nat.pow_le_pow_right (by omega) (by omega)
          omega
        by_cases hlt : k < s.size
        · have hix := indexk s k hlt
          have hcl := at_lt s.data.toList k
          have hdg := fun w => rdigit_is (at' s.data.toList k) w hcl
          have hst := majP_step s.data.toList k N (by rw [size_list]; exact hlt)
          rw [← hM] at hst
          have hpow : 10 ^ (k - 1 + 1) = 10 * 10 ^ (k - 1) := by rw [Nat.pow_succ]; omega
          have hpk : k + 1 - 1 = k - 1 + 1 := by omega
          have hdv : isDg (at' s.data.toList k) = true → 48 ≤ at' s.data.toList k ∧ at' s.data.toList k ≤ 57 := by unfold isDg; simp
          generalize at' s.data.toList k = c at hix hcl hdg hst hdv
          cases q : isDg c with
          | true =>
            simp only [q] at hdg
            rw [q, if_pos rfl] at hst
            obtain ⟨hd1, hd2⟩ := hdv q
            have HD := hid hdg
            have HS := hid hst
            have HP : Kpt (10 * N + (c - 48) < 10 ^ (k + 1 - 1)) := hid (by rw [hpk, hpow]; omega)
            clear hdg hst hM hN hpow hpk hdv q
            go_wp2_with fail
            refine (HD.out _).mono ?_
            rintro e w1 ⟨rfl, rfl⟩
            go_wp2_with fail
            go_roundw
            case rel => exact ⟨k + 1, 10 * N + (c - 48), by omega, by omega, by go_num, by congr 1; omega, HP.out, HS.out.trans (by congr 1; omega), trivial⟩
            case measure => simp [intOf]; omega
          | false =>
            simp only [q] at hdg
            rw [q, if_neg (by decide)] at hst
            have HD := hid hdg
            have HS := hid hst
            clear hdg hst hM hN hpow hpk hdv q
            go_wp2_with fail
            refine (HD.out _).mono ?_
            rintro e w1 ⟨rfl, rfl⟩
            go_wp2_with fail
            go_ret
            exact ⟨by rw [HS.out]; rfl, rfl⟩
        · obtain rfl : k = s.size := by omega
          have hst : M = (N : Int) := by rw [hM, List.drop_of_length_le (by rw [size_list]; exact Nat.le_refl _)]; rfl
          have HS := hid hst
          clear hst hM hN
          go_wp2_with fail
          go_ret
          exact ⟨by rw [HS.out]; rfl, rfl⟩
  · have n3 : ((a : Int) == 118) = false := by rw [beq_eq_false_iff_ne]; omega
    rw [if_pos (Or.inr (Or.inr (Or.inl h3)))] at hM
    subst hM
    go_enter Tryd.func36, Tryd.ntmps36
    go_wp2_with fail
    go_ret
    exact ⟨rfl, rfl⟩
end Go.Proofs.YtmgmmbikdmobpaaDoor
