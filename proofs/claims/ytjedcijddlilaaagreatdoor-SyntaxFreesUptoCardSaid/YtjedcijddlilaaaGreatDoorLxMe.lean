/- lexer: a byte of a string; bytes as a string. | lexer: the reference's segment, major. | lexer: the reference's parts of a path. | lexer: the reference's Major, IsPath. | lexer: the two words on a major version agree. -/
import Derived.Test.YtjedcijddlilaaaGreatDoorLxW
import Derived.Test.YtjedcijddlilaaaGreatDoorArr
import Derived.Test.YtjedcijddlilaaaGreatDoorQuietTail
import Derived.Deep.QuietTactic
import Derived.BigQuiet
import Derived.Test.YtjedcijddlilaaaGreatDoorLxR2
import Derived.Test.YtjedcijddlilaaaGreatDoorLxSg
import Derived.RangeFuncBox
import Derived.Maps.AppendAt
namespace Go.Proofs.YtjedcijddlilaaaGreatDoor
open Go.RowKit

def at' (l : List UInt8) (k : Nat) : Nat := (l.getD k 0).toNat
theorem at_lt (l : List UInt8) (k : Nat) : at' l k < 256 := (l.getD k 0).toNat_lt
theorem indexk (s : ByteArray) (k : Nat) (h : k < s.size) (w : World) : (Instr.index 9 (.string s) (.int .i64 (k : Int))).run Tryz.prog w = .ok (.int .u8 (at' s.data.toList k : Int)) w := run_index_str s k h w
theorem conv_lit (w : World) (l : List UInt8) (n : Nat) (hn : l.length = n) : (convert 186 9 (.slice (some ⟨w.heap.size, 0, none⟩) n n)).run Tryz.prog (w.alloc (.cells (byteCells l).toArray 5)) = .ok (.string ⟨l.toArray⟩) (w.alloc (.cells (byteCells l).toArray 5)) := by
  refine run_bytes_row _ 186 9 5 w.heap.size 0 n n 5 (0, 0) (byteCells l) l Tryz.underlying186 Tryz.underlying5 Tryz.underlying9 (heap_alloc_new w _) hn ?_
  intro j hj
  rw [Nat.zero_add]
  simp [byteCells, List.getD, hn, hj]
end Go.Proofs.YtjedcijddlilaaaGreatDoor

namespace Go.Proofs.YtjedcijddlilaaaGreatDoor
open Go.RowKit

set_option maxRecDepth 100000 in
set_option maxHeartbeats 1000000 in
theorem rsegment_any (s : ByteArray) (w : World) (hs : s.size ≤ 9223372036854775807) :
    Calls Tryz.prog 146 #[.string s] w fun e w' => e = .returned (.bool (isSgm s.data.toList)) ∧ Below w.heap.size w w' := by
  have HI := hid (fun w => risname_any s w hs)
  unfold isSgm
  rw [size_list, ← nameB_is]
  generalize nameB s.data.toList = R at HI ⊢
  obtain ⟨p, hpp⟩ : ∃ p, p = isSg := ⟨_, rfl⟩
  have HP : Kpt (∀ c, p c = (isSm c || isDg c)) := hid (by rw [hpp]; intro c; rfl)
  have HQ := hid hpp
  clear hpp
  go_enter Tryz.func146, Tryz.ntmps146
  go_wp2_with fail
  go_loopw [3] (fun i wr => ∃ k : Nat, k ≤ s.size ∧ i = .int .i64 (k : Int) ∧ (∀ j, j < k → p ((s.data.toList.getD j 0).toNat) = true) ∧ wr = w) (fun i _ => s.size - (intOf i).toNat)
  case atStart => exact ⟨0, by omega, rfl, fun j hj => absurd hj (by omega), rfl⟩
  case round =>
    obtain ⟨k, hk, rfl, hall, rfl⟩ := hrel
    have HA := hid hall
    clear hall
    by_cases hlt : k < s.size
    · have hix := run_index_str s k hlt
      have hcl := (s.data.toList.getD k 0).toNat_lt
      have hsm := fun w => rsmall_is (s.data.toList.getD k 0).toNat w hcl
      have hdg := fun w => rdigit_is (s.data.toList.getD k 0).toNat w hcl
      have hpe := HP.out (s.data.toList.getD k 0).toNat
      have hkl : k < s.data.toList.length := by rw [size_list]; exact hlt
      have HN : Kpt (p (s.data.toList.getD k 0).toNat = true → ∀ j, j < k + 1 → p ((s.data.toList.getD j 0).toNat) = true) := hid fun hq j hj => by
        rcases Nat.lt_or_ge j k with h | h
        · exact HA.out j h
        · obtain rfl : j = k := by omega
          exact hq
      have HE : Kpt (p (s.data.toList.getD k 0).toNat = false → (spn isSg s.data.toList == s.size) = false) := hid fun hq => by rw [← HQ.out, spn_at p _ k hkl HA.out hq, beq_eq_false_iff_ne]; omega
      generalize (s.data.toList.getD k 0).toNat = c at hix hcl hsm hdg hpe HN HE
      cases q1 : isSm c with
      | true =>
        simp only [q1] at hsm
        rw [q1, Bool.true_or] at hpe
        have HS := hid hsm
        have HN2 := hid (HN.out hpe)
        clear hsm hdg q1 hpe HN HE
        go_wp2_with fail
        refine (HS.out _).mono ?_
        rintro e w1 ⟨rfl, rfl⟩
        go_wp2_with fail
        go_roundw
        case rel => exact ⟨k + 1, by omega, by go_num, HN2.out, trivial⟩
        case measure => simp [intOf]; omega
      | false =>
        simp only [q1] at hsm
        rw [q1, Bool.false_or] at hpe
        have HS := hid hsm
        cases q2 : isDg c with
        | true =>
          simp only [q2] at hdg
          rw [q2] at hpe
          have HD := hid hdg
          have HN2 := hid (HN.out hpe)
          clear hsm hdg q1 q2 hpe HN HE
          go_wp2_with fail
          refine (HS.out _).mono ?_
          rintro e w1 ⟨rfl, rfl⟩
          go_wp2_with fail
          refine (HD.out _).mono ?_
          rintro e w2 ⟨rfl, rfl⟩
          go_wp2_with fail
          go_roundw
          case rel => exact ⟨k + 1, by omega, by go_num, HN2.out, trivial⟩
          case measure => simp [intOf]; omega
        | false =>
          simp only [q2] at hdg
          rw [q2] at hpe
          have HD := hid hdg
          have HE2 := hid (HE.out hpe)
          clear hsm hdg q1 q2 hpe HN HE
          go_wp2_with fail
          refine (HS.out _).mono ?_
          rintro e w1 ⟨rfl, rfl⟩
          go_wp2_with fail
          refine (HD.out _).mono ?_
          rintro e w2 ⟨rfl, rfl⟩
          go_wp2_with fail
          go_ret
          exact ⟨by rw [HE2.out, Bool.and_false]; rfl, Below.refl _ _⟩
    · obtain rfl : k = s.size := by omega
      have hend : Kpt ((spn isSg s.data.toList == s.size) = true) := hid (by rw [← HQ.out, spn_all p _ (fun j hj => HA.out j (by rw [size_list] at hj; exact hj)), size_list]; simp)
      go_wp2_with fail
      refine (HI.out _).mono ?_
      rintro e w1 ⟨rfl, hb⟩
      have KB := hid hb
      clear hb
      go_wp2_with fail
      go_ret
      exact ⟨by rw [hend.out, Bool.and_true]; rfl, KB.out⟩

/-- The major version of a segment, or -1. -/
def majP (l : List UInt8) (n : Int) : Int := match l with
  | [] => n
  | b :: r => if isDg b.toNat then majP r (10 * n + (b.toNat - 48)) else -1
def majR (l : List UInt8) : Int := if l.length < 2 ∨ 4 < l.length ∨ fst l ≠ 118 ∨ (at' l 1 = 48 ∧ 2 < l.length) then -1 else majP (l.drop 1) 0
theorem majP_step (l : List UInt8) (k : Nat) (n : Int) (h : k < l.length) : majP (l.drop k) n = if isDg (at' l k) = true then majP (l.drop (k + 1)) (10 * n + ((at' l k : Nat) - 48)) else -1 := by
  rw [List.drop_eq_getElem_cons h]
  have e : at' l k = (l[k]).toNat := by unfold at'; rw [List.getD_eq_getElem?_getD, List.getElem?_eq_getElem h]; rfl
  rw [e]
  rfl
theorem index1 (s : ByteArray) (h : 1 < s.size) (w : World) : (Instr.index 9 (.string s) (.int .i64 1)).run Tryz.prog w = .ok (.int .u8 (at' s.data.toList 1 : Int)) w := indexk s 1 h w
set_option maxRecDepth 100000 in
set_option maxHeartbeats 4000000 in
theorem rmajor_any (s : ByteArray) (w : World) :
    Calls Tryz.prog 147 #[.string s] w fun e w' => e = .returned (.int .i64 (majR s.data.toList)) ∧ w' = w := by
  generalize hM : majR s.data.toList = M
  unfold majR at hM
  rw [size_list] at hM
  by_cases h1 : s.size < 2
  · rw [if_pos (Or.inl h1)] at hM
    subst hM
    go_enter Tryz.func147, Tryz.ntmps147
    go_wp2_with fail
    go_ret
    exact ⟨rfl, rfl⟩
  have h1 : 2 ≤ s.size := by omega
  by_cases h2 : 4 < s.size
  · rw [if_pos (Or.inr (Or.inl h2))] at hM
    subst hM
    go_enter Tryz.func147, Tryz.ntmps147
    go_wp2_with fail
    go_ret
    exact ⟨rfl, rfl⟩
  have h2 : s.size ≤ 4 := by omega
  have i0 := index0 s (by omega)
  have i1 := index1 s (by omega)
  have c0 := fst_lt s.data.toList
  have c1 := at_lt s.data.toList 1
  generalize fst s.data.toList = a at i0 c0 hM
  generalize at' s.data.toList 1 = b at i1 c1 hM
  by_cases h3 : a = 118
  · subst h3
    by_cases h4 : b = 48
    · subst h4
      by_cases h5 : 2 < s.size
      · rw [if_pos (Or.inr (Or.inr (Or.inr ⟨rfl, h5⟩)))] at hM
        subst hM
        go_enter Tryz.func147, Tryz.ntmps147
        go_wp2_with fail
        go_ret
        exact ⟨rfl, rfl⟩
      · rw [if_neg (by omega)] at hM
        have HM := hid hM.symm
        clear hM
        have h5 : s.size ≤ 2 := by omega
        go_enter Tryz.func147, Tryz.ntmps147
        go_wp2_with fail
        go_loopw [3, 4] (fun n i wr => ∃ (k : Nat) (N : Nat), 1 ≤ k ∧ k ≤ s.size ∧ i = .int .i64 (k : Int) ∧ n = .int .i64 (N : Int) ∧ N < 10 ^ (k - 1) ∧ M = majP (s.data.toList.drop k) N ∧ wr = w) (fun _ i _ => s.size - (intOf i).toNat)
        case atStart => exact ⟨1, 0, by omega, by omega, rfl, rfl, by omega, HM.out, rfl⟩
        case round =>
          obtain ⟨k, N, hk1, hk, rfl, rfl, hN, hM, rfl⟩ := hrel
          have hN3 : N < 1000 := by
            have h3 : 10 ^ (k - 1) ≤ 10 ^ 3 := Nat.pow_le_pow_right (by omega) (by omega)
            omega
          by_cases hlt : k < s.size
          · have hix := indexk s k hlt
            have hcl := at_lt s.data.toList k
            have hdg := fun w => rdigit_is (at' s.data.toList k) w hcl
            have hst := majP_step s.data.toList k N (by rw [size_list]; exact hlt)
            rw [← hM] at hst
            have hpow : 10 ^ (k - 1 + 1) = 10 * 10 ^ (k - 1) := by rw [Nat.pow_succ]; omega
            have hpk : k + 1 - 1 = k - 1 + 1 := by omega
            have hdv : isDg (at' s.data.toList k) = true → 48 ≤ at' s.data.toList k ∧ at' s.data.toList k ≤ 57 := by unfold isDg; simp
            generalize at' s.data.toList k = c at hix hcl hdg hst hdv
            cases q : isDg c with
            | true =>
              simp only [q] at hdg
              rw [q, if_pos rfl] at hst
              obtain ⟨hd1, hd2⟩ := hdv q
              have HD := hid hdg
              have HS := hid hst
              have HP : Kpt (10 * N + (c - 48) < 10 ^ (k + 1 - 1)) := hid (by rw [hpk, hpow]; omega)
              clear hdg hst hM hN hpow hpk hdv q
              go_wp2_with fail
              refine (HD.out _).mono ?_
              rintro e w1 ⟨rfl, rfl⟩
              go_wp2_with fail
              go_roundw
              case rel => exact ⟨k + 1, 10 * N + (c - 48), by omega, by omega, by go_num, by congr 1; omega, HP.out, HS.out.trans (by congr 1; omega), trivial⟩
              case measure => simp [intOf]; omega
            | false =>
              simp only [q] at hdg
              rw [q, if_neg (by decide)] at hst
              have HD := hid hdg
              have HS := hid hst
              clear hdg hst hM hN hpow hpk hdv q
              go_wp2_with fail
              refine (HD.out _).mono ?_
              rintro e w1 ⟨rfl, rfl⟩
              go_wp2_with fail
              go_ret
              exact ⟨by rw [HS.out]; rfl, rfl⟩
          · obtain rfl : k = s.size := by omega
            have hst : M = (N : Int) := by rw [hM, List.drop_of_length_le (by rw [size_list]; exact Nat.le_refl _)]; rfl
            have HS := hid hst
            clear hst hM hN
            go_wp2_with fail
            go_ret
            exact ⟨by rw [HS.out]; rfl, rfl⟩
    · have n3 : ((b : Int) == 48) = false := by rw [beq_eq_false_iff_ne]; omega
      rw [if_neg (by omega)] at hM
      have HM := hid hM.symm
      clear hM
      go_enter Tryz.func147, Tryz.ntmps147
      go_wp2_with fail
      go_loopw [3, 4] (fun n i wr => ∃ (k : Nat) (N : Nat), 1 ≤ k ∧ k ≤ s.size ∧ i = .int .i64 (k : Int) ∧ n = .int .i64 (N : Int) ∧ N < 10 ^ (k - 1) ∧ M = majP (s.data.toList.drop k) N ∧ wr = w) (fun _ i _ => s.size - (intOf i).toNat)
      case atStart => exact ⟨1, 0, by omega, by omega, rfl, rfl, by omega, HM.out, rfl⟩
      case round =>
        obtain ⟨k, N, hk1, hk, rfl, rfl, hN, hM, rfl⟩ := hrel
        have hN3 : N < 1000 := by
          have h3 : 10 ^ (k - 1) ≤ 10 ^ 3 := Nat.pow_le_pow_right (by omega) (by omega)
          omega
        by_cases hlt : k < s.size
        · have hix := indexk s k hlt
          have hcl := at_lt s.data.toList k
          have hdg := fun w => rdigit_is (at' s.data.toList k) w hcl
          have hst := majP_step s.data.toList k N (by rw [size_list]; exact hlt)
          rw [← hM] at hst
          have hpow : 10 ^ (k - 1 + 1) = 10 * 10 ^ (k - 1) := by rw [Nat.pow_succ]; omega
          have hpk : k + 1 - 1 = k - 1 + 1 := by omega
          have hdv : isDg (at' s.data.toList k) = true → 48 ≤ at' s.data.toList k ∧ at' s.data.toList k ≤ 57 := by unfold isDg; simp
          generalize at' s.data.toList k = c at hix hcl hdg hst hdv
          cases q : isDg c with
          | true =>
            simp only [q] at hdg
            rw [q, if_pos rfl] at hst
            obtain ⟨hd1, hd2⟩ := hdv q
            have HD := hid hdg
            have HS := hid hst
            have HP : Kpt (10 * N + (c - 48) < 10 ^ (k + 1 - 1)) := hid (by rw [hpk, hpow]; omega)
            clear hdg hst hM hN hpow hpk hdv q
            go_wp2_with fail
            refine (HD.out _).mono ?_
            rintro e w1 ⟨rfl, rfl⟩
            go_wp2_with fail
            go_roundw
            case rel => exact ⟨k + 1, 10 * N + (c - 48), by omega, by omega, by go_num, by congr 1; omega, HP.out, HS.out.trans (by congr 1; omega), trivial⟩
            case measure => simp [intOf]; omega
          | false =>
            simp only [q] at hdg
            rw [q, if_neg (by decide)] at hst
            have HD := hid hdg
            have HS := hid hst
            clear hdg hst hM hN hpow hpk hdv q
            go_wp2_with fail
            refine (HD.out _).mono ?_
            rintro e w1 ⟨rfl, rfl⟩
            go_wp2_with fail
            go_ret
            exact ⟨by rw [HS.out]; rfl, rfl⟩
        · obtain rfl : k = s.size := by omega
          have hst : M = (N : Int) := by rw [hM, List.drop_of_length_le (by rw [size_list]; exact Nat.le_refl _)]; rfl
          have HS := hid hst
          clear hst hM hN
          go_wp2_with fail
          go_ret
          exact ⟨by rw [HS.out]; rfl, rfl⟩
  · have n3 : ((a : Int) == 118) = false := by rw [beq_eq_false_iff_ne]; omega
    rw [if_pos (Or.inr (Or.inr (Or.inl h3)))] at hM
    subst hM
    go_enter Tryz.func147, Tryz.ntmps147
    go_wp2_with fail
    go_ret
    exact ⟨rfl, rfl⟩
end Go.Proofs.YtjedcijddlilaaaGreatDoor

namespace Go.Proofs.YtjedcijddlilaaaGreatDoor
open Go.RowKit

def strV (l : List UInt8) : Value := .string ⟨l.toArray⟩
theorem infoStr : (Tryz.prog.info? 9).map (fun i => (i.zero, i.size, i.bytes)) = some (some (.string ByteArray.empty), 1, 16) := by kernel_rfl
theorem segL_length (l : List UInt8) : (segL l).length ≤ l.length + 1 := by
  have h := (split_is _ l (Nat.le_refl _)).2
  have := Lib.count_le l [47]
  induction l with
  | nil => simp [segL]
  | cons b r ih =>
    rw [segL]
    have ih' : (segL r).length ≤ r.length + 1 := ih ((split_is _ r (Nat.le_refl _)).2) (Lib.count_le r [47])
    by_cases h : b = 47
    · rw [if_pos h]; simp; omega
    · rw [if_neg h]
      cases hs : segL r with
      | nil => simp
      | cons x y => rw [hs] at ih'; simp at ih' ⊢; omega

theorem segPut_set : ∀ (L : List (List UInt8)) (b : UInt8), L ≠ [] → segPut L b = L.set (L.length - 1) (L.getD (L.length - 1) [] ++ [b])
  | [], _, h => absurd rfl h
  | [x], b, _ => by simp [segPut]
  | x :: y :: z, b, _ => by
    have ih := segPut_set (y :: z) b (by simp)
    rw [segPut, ih]
    · simp
    · intro h; cases h

set_option maxRecDepth 100000 in
set_option maxHeartbeats 4000000 in
theorem rsegments_any (s : ByteArray) (w : World) (hs : s.size ≤ 1048576) :
    Calls Tryz.prog 145 #[.string s] w fun e w' => (∃ v, e = .returned v ∧ w'.ownsRow w.heap.size 9 1 v (segL s.data.toList).length ((segL s.data.toList).map strV)) ∧ Below w.heap.size w w' := by
  obtain ⟨i0, hi, hz0, hz1, hz2⟩ := info_parts infoStr
  go_enter Tryz.func145, Tryz.ntmps145
  go_wp2_with fail
  go_loopw [3, 4] (fun v i wr => ∃ (k g cap : Nat), k ≤ s.size ∧ i = .int .i64 (k : Int) ∧ v = .slice (some ⟨g, 0, none⟩) (segL (s.data.toList.take k)).length cap ∧ wr.ownsRow w.heap.size 9 1 v (segL (s.data.toList.take k)).length ((segL (s.data.toList.take k)).map strV) ∧ Below w.heap.size w wr) (fun _ i _ => s.size - (intOf i).toNat)
  case atStart =>
    refine ⟨0, _, _, by omega, rfl, rfl, ?_, (Below.refl _ w).alloc (Nat.le_refl _) _⟩
    exact World.ownsRow_lit w #[.string ⟨#[]⟩] 1 (Nat.le_refl _) (by unfold maxLen; omega) rfl
  case round =>
    obtain ⟨k, g, cap, hk, rfl, rfl, hrow, hb⟩ := hrel
    by_cases hlt : k < s.size
    · have hix := indexk s k hlt
      have hlk : k < s.data.toList.length := by rw [size_list]; exact hlt
      have htk : s.data.toList.take (k + 1) = s.data.toList.take k ++ [s.data.toList[k]] := by rw [List.take_add_one, List.getElem?_eq_getElem hlk]; rfl
      have hsn := segL_snoc (s.data.toList.take k) s.data.toList[k]
      rw [← htk] at hsn
      have hat : at' s.data.toList k = (s.data.toList[k]).toNat := by unfold at'; rw [List.getD_eq_getElem?_getD, List.getElem?_eq_getElem hlk]; rfl
      rw [hat] at hix
      have hne := segL_ne (s.data.toList.take k)
      have hLl := segL_length (s.data.toList.take k)
      have hLe := segL_le (s.data.toList.take k)
      rw [List.length_take, size_list] at hLe
      rw [List.length_take] at hLl
      generalize segL (s.data.toList.take k) = L at hrow hsn hne hLl hLe
      generalize s.data.toList[k] = b at hix hsn
      have hN1 : 1 ≤ L.length := by cases L with | nil => exact absurd rfl hne | cons x y => simp
      have hN2 : L.length ≤ 1048577 := by omega
      clear hat htk hlk hLl
      by_cases h47 : b = 47
      · rw [if_pos h47] at hsn
        have hb47 : (((b.toNat : Nat) : Int) == 47) = true := by rw [h47]; rfl
        have KR := hid (And.intro hrow (And.intro hb (And.intro hsn (And.intro hne trivial))))
        clear hrow hb hsn hne hLe h47
        generalize hn : L.length = N at KR hN1 hN2 ⊢
        have HN := hid hn
        clear hn
        generalize hb9 : b.toNat = c at hix hb47
        have HB9 := hid hb9
        clear hb9
        go_wp2_with (at_builtin; refine wpList_append_own _ rfl _ _ 44 rfl w.heap.size 9 i0 _ 1 16 Tryz.underlying44 hi hz0 hz1 hz2 rfl (by decide) _ _ _ rfl (KR.out.1.alloc _) ⟨wr.heap.size, 0, none⟩ 1 1 [.string ⟨#[]⟩] rfl rfl (cell_one_new _ _ _) (by simp [Value.oneCell']) (by unfold maxLen; omega) (by omega) (alloc_le KR.out.2.1.size _) ?_; intro v' w3 hown3 hgrow3 _; obtain ⟨g', cap', rfl⟩ := ownsRow_succ hown3; have hgrow4 : World.grownBy _ w3 (some g) := hgrow3; have K3 := hid (And.intro hown3 hgrow4); clear hown3 hgrow3 hgrow4)
        exact ⟨⟨k + 1, g', cap', by omega, by go_num, by rw [KR.out.2.2.1, List.length_append, HN.out]; rfl, by rw [KR.out.2.2.1, List.length_append, List.map_append, HN.out]; exact K3.out.1, Below.grown (KR.out.2.1.alloc KR.out.2.1.size _) K3.out.2 (alloc_le KR.out.2.1.size _) (own_base KR.out.1)⟩, by simp [intOf]; omega⟩
      · rw [if_neg h47, segPut_set L b hne] at hsn
        have hb47 : (((b.toNat : Nat) : Int) == 47) = false := by
          rw [beq_eq_false_iff_ne]; intro h; exact h47 (UInt8.toNat_inj.1 (by show b.toNat = 47; omega))
        have hc := hrow.cellAt (L.length - 1) (by omega)
        have hl1 : L.length - 1 < L.length := by omega
        rw [List.getElem?_map, List.getElem?_eq_getElem hl1] at hc
        have hc' : wr.cell? ⟨g, L.length - 1, none⟩ = some (strV (L.getD (L.length - 1) [])) := by rw [hc]; simp [List.getD, hl1]
        have hf := hrow.frozenAt (L.length - 1)
        have hbt := b.toNat_lt
        have KR := hid (And.intro hrow (And.intro hb (And.intro hsn (And.intro hne hl1))))
        clear hrow hb hsn hne hl1 hc h47
        have hxl : (L.getD (L.length - 1) []).length ≤ 1048576 := by
          have := hLe (L.getD (L.length - 1) []) (by rw [List.getD_eq_getElem?_getD, List.getElem?_eq_getElem KR.out.2.2.2.2, Option.getD_some]; exact List.getElem_mem _)
          omega
        generalize L.getD (L.length - 1) [] = x at hc' KR hxl
        have hlim : ¬ 9223372036854775807 < x.length + 1 := by omega
        have hcat : (⟨x.toArray⟩ ++ ⟨#[b]⟩ : ByteArray) = ⟨(x ++ [b]).toArray⟩ := by apply ByteArray.ext; simp
        clear hxl hLe
        have he1 : (L.length : Int) - 1 = ((L.length - 1 : Nat) : Int) := by omega
        unfold strV at hc'
        generalize hn : L.length = N at hc' hf he1 KR hN1 hN2 ⊢
        have HN := hid hn
        clear hn
        have hcv : ∀ W : World, (convert 186 9 (.slice (some ⟨W.heap.size, 0, none⟩) 1 1)).run Tryz.prog (W.alloc (.cells #[.int .u8 (b.toNat : Int)] 5)) = .ok (.string ⟨([b] : List UInt8).toArray⟩) (W.alloc (.cells #[.int .u8 (b.toNat : Int)] 5)) := fun W => conv_lit W [b] 1 rfl
        have hcw : ∀ W : World, (convert 186 9 (.slice (some ⟨W.heap.size, 0, none⟩) 1 1)).run Tryz.prog (W.alloc (.cells #[.int .u8 (b.toNat : Int)] 5)).drew = .ok (.string ⟨([b] : List UInt8).toArray⟩) (W.alloc (.cells #[.int .u8 (b.toNat : Int)] 5)).drew := fun W => conv_lit W.drew [b] 1 rfl
        generalize hb9 : b.toNat = c at hix hb47 hbt hcv hcw
        have HB9 := hid hb9
        clear hb9
        have hc2 : (wr.alloc (.cells #[.int .u8 (c : Int)] 5)).cell? ⟨g, N - 1, none⟩ = _ := (((Below.refl wr.heap.size wr).alloc (Nat.le_refl _) _).cell (block_lt_any hc')).trans hc'
        have hf2 : (wr.alloc (.cells #[.int .u8 (c : Int)] 5)).frozen? ⟨g, N - 1, none⟩ = false := (((Below.refl wr.heap.size wr).alloc (Nat.le_refl _) _).frozen (block_lt_any hc')).trans hf
        go_wp2_with fail
        go_region
        all_goals go_wp2_with fail
        all_goals go_roundw
        case rel =>
          have hst := ((KR.out.1).alloc (.cells #[.int .u8 (c : Int)] 5)).stored (N - 1) (.string ⟨(x ++ [b]).toArray⟩)
          refine ⟨k + 1, g, cap, by omega, by go_num, ?_, ?_, ?_⟩
          · rw [KR.out.2.2.1, List.length_set, HN.out]
          · rw [KR.out.2.2.1, List.length_set, HN.out, List.map_set]
            exact hst.1.drew
          · exact (Below.grown (KR.out.2.1.alloc KR.out.2.1.size _) hst.2 (alloc_le KR.out.2.1.size _) (own_base KR.out.1)).drew
        case measure => simp [intOf]; omega
    · obtain rfl : k = s.size := by omega
      have htk : s.data.toList.take s.size = s.data.toList := List.take_of_length_le (by rw [size_list]; omega)
      rw [htk] at hrow ⊢
      have hn : ∃ N, N = (segL s.data.toList).length := ⟨_, rfl⟩
      obtain ⟨N, hn⟩ := hn
      rw [← hn] at hrow ⊢
      have KR := hid (And.intro hrow (And.intro hb hn))
      clear hrow hb htk hn
      go_wp2_with fail
      go_ret
      exact ⟨⟨.slice (some ⟨g, 0, none⟩) N cap, rfl, by rw [← KR.out.2.2]; exact KR.out.1⟩, KR.out.2.1⟩
end Go.Proofs.YtjedcijddlilaaaGreatDoor

namespace Go.Proofs.YtjedcijddlilaaaGreatDoor
open Go.RowKit

def rmajL (l : List UInt8) : Int × Int :=
  if 64 < l.length then (0, 4) else if (segL l).all isSgm = true then
    (if (segL l).length < 2 ∨ majR ((segL l).getLastD []) < 0 then (0, 4) else (majR ((segL l).getLastD []), 0)) else (0, 4)
theorem all_ofL {L : List (List UInt8)} {p : List UInt8 → Bool} (h : ∀ j, j < L.length → p (L.getD j []) = true) : L.all p = true := by
  rw [List.all_eq_true]
  intro x hx
  obtain ⟨j, hj, rfl⟩ := List.getElem_of_mem hx
  have := h j hj
  simpa [List.getD, hj] using this
theorem not_allL {L : List (List UInt8)} {p : List UInt8 → Bool} (j : Nat) (hj : j < L.length) (h : p (L.getD j []) = false) : L.all p = false := by
  cases hx : L.all p with
  | false => rfl
  | true =>
    rw [List.all_eq_true] at hx
    have := hx L[j] (List.getElem_mem hj)
    rw [List.getD_eq_getElem?_getD, List.getElem?_eq_getElem hj, Option.getD_some, this] at h
    exact h
theorem last_ofL (L : List (List UInt8)) : L.getLastD [] = L.getD (L.length - 1) [] := by
  rw [List.getLastD_eq_getLast?, List.getLast?_eq_getElem?, List.getD_eq_getElem?_getD]
theorem getD_le (l : List UInt8) (j : Nat) (hj : j < (segL l).length) : ((segL l).getD j []).length ≤ l.length := by
  refine segL_le l _ ?_
  rw [List.getD_eq_getElem?_getD, List.getElem?_eq_getElem hj, Option.getD_some]
  exact List.getElem_mem _

set_option maxRecDepth 100000 in
set_option maxHeartbeats 4000000 in
theorem rmajor2_any (s : ByteArray) (w : World) :
    Calls Tryz.prog 90 #[.string s] w fun e w' => e = .returned (.tuple #[.int .i64 (rmajL s.data.toList).1, .int .i64 (rmajL s.data.toList).2]) ∧ Below w.heap.size w w' := by
  by_cases hbig : 64 < s.size
  · have hM : rmajL s.data.toList = (0, 4) := by unfold rmajL; rw [if_pos (by rw [size_list]; exact hbig)]
    rw [hM]
    clear hM
    go_enter Tryz.func90, Tryz.ntmps90
    go_wp2_with fail
    go_ret2
    exact ⟨rfl, Below.refl _ _⟩
  · have hM : rmajL s.data.toList = if (segL s.data.toList).all isSgm = true then (if (segL s.data.toList).length < 2 ∨ majR ((segL s.data.toList).getD ((segL s.data.toList).length - 1) []) < 0 then (0, 4) else (majR ((segL s.data.toList).getD ((segL s.data.toList).length - 1) []), 0)) else (0, 4) := by
      unfold rmajL; rw [if_neg (by rw [size_list]; exact hbig), last_ofL]
    generalize rmajL s.data.toList = R at hM ⊢
    have hcall := rsegments_any s w (by omega)
    have hle := getD_le s.data.toList
    have hl1 := segL_length s.data.toList
    have hne := segL_ne s.data.toList
    rw [size_list] at hle hl1
    generalize segL s.data.toList = L at hM hcall hle hl1 hne
    have hN1 : 1 ≤ L.length := by cases L with | nil => exact absurd rfl hne | cons x y => simp
    have hN9 : L.length ≤ 100 := by omega
    have HC := hid hcall
    have KM := hid (And.intro hM (And.intro hle hne))
    clear hM hcall hle hne hl1
    generalize hn : L.length = N at HC KM hN1 hN9
    have HN := hid hn
    clear hn
    go_enter Tryz.func90, Tryz.ntmps90
    go_wp2_with fail
    refine HC.out.mono ?_
    rintro e w2 ⟨⟨v, rfl, hrow⟩, hb2⟩
    obtain ⟨g, cap, rfl, _, _⟩ := hrow.form (by omega)
    have hcl : ∀ j, j < N → w2.cell? ⟨g, j, none⟩ = some (strV (L.getD j [])) := fun j hj => by
      rw [hrow.cellAt j (by omega), List.getElem?_map, List.getElem?_eq_getElem (by have := HN.out; omega)]
      simp [List.getD, show j < L.length by have := HN.out; omega]
    have HL := hid (And.intro hcl hb2)
    clear hcl hb2 hrow
    go_wp2_with fail
    go_loopw [5] (fun i wr => ∃ k : Nat, k ≤ N ∧ i = .int .i64 (k : Int) ∧ (∀ j, j < k → isSgm (L.getD j []) = true) ∧ Below w2.heap.size w2 wr) (fun i _ => N - (intOf i).toNat)
    case atStart => exact ⟨0, by omega, rfl, fun j hj => absurd hj (by omega), Below.refl _ _⟩
    case round =>
      obtain ⟨k, hk, rfl, hg, hb⟩ := hrel
      by_cases hlt : k < N
      · have hck := (hb.cell (block_lt_any (HL.out.1 k hlt))).trans (HL.out.1 k hlt)
        unfold strV at hck
        have hsz := KM.out.2.1 k hlt
        have hcall2 := fun w => rsegment_any ⟨(L.getD k []).toArray⟩ w (by rw [mk_size]; omega)
        rw [mk_list] at hcall2
        cases hq : isSgm (L.getD k []) with
        | true =>
          rw [hq] at hcall2
          have HG := hid (And.intro hg (And.intro hq hb))
          have HS2 := hid hcall2
          clear hg hq hcall2 hsz hb
          generalize ByteArray.mk (L.getD k []).toArray = x at hck HS2
          go_wp2_with fail
          refine (HS2.out _).mono ?_
          rintro e w3 ⟨rfl, hb3⟩
          have HB3 := hid hb3
          clear hb3
          go_wp2_with fail
          go_roundw
          case rel =>
            refine ⟨k + 1, by omega, by go_num, fun j hj => ?_, HG.out.2.2.trans (HB3.out.mono HG.out.2.2.size)⟩
            by_cases hjk : j = k
            · rw [hjk]; exact HG.out.2.1
            · exact HG.out.1 j (by omega)
          case measure => simp [intOf]; omega
        | false =>
          rw [hq] at hcall2
          have hR : R = (0, 4) := by
            rw [KM.out.1, not_allL k (by have := HN.out; omega) hq]; rfl
          subst hR
          have HS2 := hid hcall2
          have HG := hid hb
          clear hg hq hcall2 hsz hb
          generalize ByteArray.mk (L.getD k []).toArray = x at hck HS2
          go_wp2_with fail
          refine (HS2.out _).mono ?_
          rintro e w3 ⟨rfl, hb3⟩
          have HB3 := hid hb3
          clear hb3
          go_wp2_with fail
          go_ret2
          exact ⟨rfl, HL.out.2.trans ((HG.out.trans (HB3.out.mono HG.out.size)).mono HL.out.2.size)⟩
      · obtain rfl : k = N := by omega
        have hall := all_ofL (fun j hj => hg j (by have := HN.out; omega))
        have hR := KM.out.1
        rw [hall, if_pos rfl] at hR
        have hck := (hb.cell (block_lt_any (HL.out.1 (k - 1) (by omega)))).trans (HL.out.1 (k - 1) (by omega))
        unfold strV at hck
        have hcall2 := fun w => rmajor_any ⟨(L.getD (k - 1) []).toArray⟩ w
        rw [mk_list] at hcall2
        generalize ByteArray.mk (L.getD (k - 1) []).toArray = x at hck hcall2
        generalize majR (L.getD (k - 1) []) = n at hcall2 hR
        have HS2 := hid hcall2
        have HG := hid hb
        have he1 : (k : Int) - 1 = ((k - 1 : Nat) : Int) := by omega
        clear hall hg hcall2 hb
        by_cases h2 : k < 2
        · rw [if_pos (Or.inl h2)] at hR
          subst hR
          go_wp2_with fail
          refine (HS2.out _).mono ?_
          rintro e w3 ⟨rfl, rfl⟩
          go_wp2_with fail
          go_ret2
          exact ⟨rfl, HL.out.2.trans (HG.out.mono HL.out.2.size)⟩
        · by_cases hn : n < 0
          · rw [if_pos (Or.inr hn)] at hR
            subst hR
            go_wp2_with fail
            refine (HS2.out _).mono ?_
            rintro e w3 ⟨rfl, rfl⟩
            go_wp2_with fail
            go_ret2
            exact ⟨rfl, HL.out.2.trans (HG.out.mono HL.out.2.size)⟩
          · rw [if_neg (by omega)] at hR
            subst hR
            go_wp2_with fail
            refine (HS2.out _).mono ?_
            rintro e w3 ⟨rfl, rfl⟩
            go_wp2_with fail
            go_ret2
            exact ⟨rfl, HL.out.2.trans (HG.out.mono HL.out.2.size)⟩

theorem rispath_any (s : ByteArray) (w : World) :
    Calls Tryz.prog 44 #[.string s] w fun e w' => e = .returned (.bool ((rmajL s.data.toList).2 == 0)) ∧ Below w.heap.size w w' := by
  have HM := hid (rmajor2_any s w)
  generalize rmajL s.data.toList = R at HM ⊢
  obtain ⟨n, er⟩ := R
  go_enter Tryz.func44, Tryz.ntmps44
  go_wp2_with fail
  refine HM.out.mono ?_
  rintro e w2 ⟨rfl, hb⟩
  have HB := hid hb
  clear hb
  go_wp2_with fail
  go_ret
  exact ⟨rfl, HB.out⟩
end Go.Proofs.YtjedcijddlilaaaGreatDoor

namespace Go.Proofs.YtjedcijddlilaaaGreatDoor
open Go.RowKit

/-- The decimal digits of a number below 1000. -/
def dd (u : Nat) : List UInt8 := if u < 10 then [UInt8.ofNat (48 + u)] else if u < 100 then [UInt8.ofNat (48 + u / 10), UInt8.ofNat (48 + u % 10)] else [UInt8.ofNat (48 + u / 100), UInt8.ofNat (48 + u / 10 % 10), UInt8.ofNat (48 + u % 10)]
theorem dec_dd (u : Nat) (h : u < 1000) : Lib.decDigits u = dd u := by
  unfold dd
  by_cases h1 : u < 10
  · rw [if_pos h1, Lib.decDigits, dif_pos h1]
  · rw [if_neg h1]
    by_cases h2 : u < 100
    · rw [if_pos h2, Lib.decDigits, dif_neg h1, Lib.decDigits, dif_pos (by omega)]; rfl
    · rw [if_neg h2, Lib.decDigits, dif_neg h1, Lib.decDigits, dif_neg (by omega), Lib.decDigits, dif_pos (by omega), Nat.div_div_eq_div_mul]; rfl
theorem itoa_dd (u : Nat) (h : u < 1000) : Lib.itoa (u : Int) = dd u := by
  unfold Lib.itoa
  rw [if_neg (by omega), Int.toNat_natCast, dec_dd u h]
theorem atoi_dd (u : Nat) (h : u < 1000) : Lib.atoiAll (dd u) = .ok (u : Int) := by
  have key : ∀ x : Fin 1000, Lib.atoiAll (dd x.val) = .ok (x.val : Int) := by decide +kernel
  exact key ⟨u, h⟩
theorem majR_dd (u : Nat) (h : u < 1000) : majR (118 :: dd u) = (u : Int) := by
  have key : ∀ x : Fin 1000, majR (118 :: dd x.val) = (x.val : Int) := by decide +kernel
  exact key ⟨u, h⟩
theorem hasP (l : List UInt8) : Lib.hasPrefix (118 :: l) [118] = true := by simp [Lib.hasPrefix]
theorem trimP (l : List UInt8) : Lib.trimPrefix (118 :: l) [118] = l := by simp [Lib.trimPrefix, Lib.hasPrefix]
theorem majV_dd (u : Nat) (h : u < 1000) : majV (118 :: dd u) = ((u : Int), true) :=
  majV_ok (hasP _) (by rw [trimP]; exact atoi_dd u h) (by omega) (by rw [trimP]; exact itoa_dd u h)
theorem pre_cons {x : List UInt8} (h : Lib.hasPrefix x [118] = true) : x = 118 :: Lib.trimPrefix x [118] := by
  cases x with
  | nil => simp [Lib.hasPrefix] at h
  | cons a r =>
    have ha : a = 118 := by simp [Lib.hasPrefix] at h; exact h.symm
    subst ha
    rw [trimP]
theorem majV_spec (x : List UInt8) (hx : ∀ b ∈ x, b ≠ 45) (h : (majV x).2 = true) : ∃ u, u < 1000 ∧ x = 118 :: dd u := by
  cases hp : Lib.hasPrefix x [118] with
  | false => rw [majV_no hp] at h; cases h
  | true =>
    cases ha : Lib.atoiAll (Lib.trimPrefix x [118])
    case ok v =>
      by_cases hv : 999 < v
      · rw [majV_big hp ha hv] at h; cases h
      · by_cases he : Lib.itoa v = Lib.trimPrefix x [118]
        · have hc := pre_cons hp
          by_cases h0 : v < 0
          · exfalso
            have h45 : (45 : UInt8) ∈ Lib.itoa v := by unfold Lib.itoa; rw [if_pos h0]; simp
            rw [he] at h45
            exact hx 45 (by rw [hc]; simp [h45]) rfl
          · obtain ⟨u, rfl⟩ : ∃ u : Nat, v = (u : Int) := ⟨v.toNat, by omega⟩
            refine ⟨u, by omega, ?_⟩
            rw [hc, ← he, itoa_dd u (by omega)]
        · rw [majV_bad hp ha hv he] at h; cases h
    case range => rw [majV_rng hp ha] at h; cases h
    case _ => rw [majV_syn hp ha] at h; cases h
theorem dg_lim {a : UInt8} (h : isDg a.toNat = true) : 48 ≤ a.toNat ∧ a.toNat ≤ 57 := by
  unfold isDg at h
  simpa using h
theorem of_byte {a : UInt8} {n : Nat} (h : n = a.toNat) : UInt8.ofNat n = a := by rw [h]; simp
theorem majR_spec (x : List UInt8) (h : 0 ≤ majR x) : ∃ u, u < 1000 ∧ x = 118 :: dd u := by
  unfold majR at h
  by_cases hc : x.length < 2 ∨ 4 < x.length ∨ fst x ≠ 118 ∨ (at' x 1 = 48 ∧ 2 < x.length)
  · rw [if_pos hc] at h; omega
  · rw [if_neg hc] at h
    simp only [not_or, not_and, Decidable.not_not] at hc
    obtain ⟨h1, h2, h3, h4⟩ := hc
    match x, h1, h2, h3, h4, h with
    | [], h1, _, _, _, _ => exact absurd h1 (by simp)
    | [_], h1, _, _, _, _ => exact absurd h1 (by simp)
    | [v, a], _, _, h3, _, h =>
      have hv : v = 118 := by apply UInt8.toNat_inj.1; simpa [fst] using h3
      subst hv
      simp only [List.drop_succ_cons, List.drop_zero, majP] at h
      by_cases ha : isDg a.toNat = true
      · have la := dg_lim ha
        refine ⟨a.toNat - 48, by omega, ?_⟩
        unfold dd
        rw [if_pos (by omega), of_byte (a := a) (by omega)]
      · rw [if_neg ha] at h; omega
    | [v, a, b], _, _, h3, h4, h =>
      have hv : v = 118 := by apply UInt8.toNat_inj.1; simpa [fst] using h3
      subst hv
      have h48 : a.toNat ≠ 48 := fun e => by
        have := h4 (by simpa [at'] using e)
        simp at this
      simp only [List.drop_succ_cons, List.drop_zero, majP] at h
      by_cases ha : isDg a.toNat = true
      · rw [if_pos ha] at h
        by_cases hb : isDg b.toNat = true
        · have la := dg_lim ha
          have lb := dg_lim hb
          refine ⟨10 * (a.toNat - 48) + (b.toNat - 48), by omega, ?_⟩
          unfold dd
          rw [if_neg (by omega), if_pos (by omega), of_byte (a := a) (by omega), of_byte (a := b) (by omega)]
        · rw [if_neg hb] at h; omega
      · rw [if_neg ha] at h; omega
    | [v, a, b, c], _, _, h3, h4, h =>
      have hv : v = 118 := by apply UInt8.toNat_inj.1; simpa [fst] using h3
      subst hv
      have h48 : a.toNat ≠ 48 := fun e => by
        have := h4 (by simpa [at'] using e)
        simp at this
      simp only [List.drop_succ_cons, List.drop_zero, majP] at h
      by_cases ha : isDg a.toNat = true
      · rw [if_pos ha] at h
        by_cases hb : isDg b.toNat = true
        · rw [if_pos hb] at h
          by_cases hd : isDg c.toNat = true
          · have la := dg_lim ha
            have lb := dg_lim hb
            have lc := dg_lim hd
            refine ⟨100 * (a.toNat - 48) + 10 * (b.toNat - 48) + (c.toNat - 48), by omega, ?_⟩
            unfold dd
            rw [if_neg (by omega), if_neg (by omega), of_byte (a := a) (by omega), of_byte (a := b) (by omega), of_byte (a := c) (by omega)]
          · rw [if_neg hd] at h; omega
        · rw [if_neg hb] at h; omega
      · rw [if_neg ha] at h; omega
    | _ :: _ :: _ :: _ :: _ :: _, _, h2, _, _, _ => exact absurd h2 (by simp)
theorem maj_eq (x : List UInt8) (hx : ∀ b ∈ x, b ≠ 45) : (majV x).2 = decide (0 ≤ majR x) ∧ (0 ≤ majR x → (majV x).1 = majR x) := by
  by_cases h : 0 ≤ majR x
  · obtain ⟨u, hu, rfl⟩ := majR_spec x h
    rw [majR_dd u hu, majV_dd u hu]
    exact ⟨by simp, fun _ => rfl⟩
  · refine ⟨?_, fun h' => absurd h' h⟩
    rw [decide_eq_false h]
    cases hv : (majV x).2 with
    | false => rfl
    | true =>
      obtain ⟨u, hu, rfl⟩ := majV_spec x hx hv
      rw [majR_dd u hu] at h
      omega
theorem sgm_no {x : List UInt8} (h : isSgm x = true) : ∀ b ∈ x, b ≠ 45 := by
  unfold isSgm at h
  simp only [Bool.and_eq_true, beq_iff_eq] at h
  obtain ⟨_, h⟩ := h
  intro b hb e
  unfold spn at h
  have h2 : x.takeWhile (fun b => isSg b.toNat) = x := List.IsPrefix.eq_of_length (List.takeWhile_prefix _) h
  rw [← h2] at hb
  have ht : (x.takeWhile (fun b => isSg b.toNat)).all (fun b => isSg b.toNat) = true := List.all_takeWhile
  have := List.all_eq_true.1 ht b hb
  rw [e] at this
  exact absurd this (by decide)
theorem rmaj_is (l : List UInt8) : rmajL l = majL l := by
  unfold rmajL majL
  by_cases hb : 64 < l.length
  · rw [if_pos hb, if_pos hb]
  · rw [if_neg hb, if_neg hb]
    by_cases ha : (segL l).all isSgm = true
    · rw [if_pos ha, if_pos ha]
      have hm : (segL l).getLastD [] ∈ segL l := by
        rw [List.getLastD_eq_getLast?, List.getLast?_eq_some_getLast (segL_ne l)]
        exact List.getLast_mem (segL_ne l)
      have hs := List.all_eq_true.1 ha _ hm
      obtain ⟨h1, h2⟩ := maj_eq _ (sgm_no hs)
      generalize (segL l).getLastD [] = x at h1 h2
      rw [h1]
      by_cases h0 : 0 ≤ majR x
      · by_cases h3 : (segL l).length < 2
        · rw [if_pos (Or.inl h3), if_pos (Or.inl h3)]
        · rw [if_neg (by omega), if_neg (by simp [h3, h0]), h2 h0]
      · rw [if_pos (Or.inr (by omega)), if_pos (Or.inr (by simp [h0]))]
    · rw [if_neg ha, if_neg ha]
end Go.Proofs.YtjedcijddlilaaaGreatDoor
