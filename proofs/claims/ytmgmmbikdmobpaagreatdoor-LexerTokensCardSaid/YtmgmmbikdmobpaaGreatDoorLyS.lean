/- lexer: the reference's span. -/
import Derived.Test.YtmgmmbikdmobpaaGreatDoorLxR2
namespace Go.Proofs.YtmgmmbikdmobpaaGreatDoor
open Go.RowKit

def dwP (d : Bool) (c : Nat) : Bool := if d then isDg c else isWd c
theorem dw_or (d : Bool) (c : Nat) : dwP d c = (isDg c || (!d && isWd c)) := by
  unfold dwP isWd
  cases d <;> cases isDg c <;> simp
set_option maxRecDepth 100000 in
set_option maxHeartbeats 4000000 in
theorem rspan_any (s : ByteArray) (d : Bool) (w : World) (hs : s.size ≤ 9223372036854775807) :
    Calls Tryz.prog 29 #[.string s, .bool d] w fun e w' => e = .returned (.int .i64 (spn (dwP d) s.data.toList : Int)) ∧ w' = w := by
  have HD : Kpt (PredIs 28 isDg) := hid rdigit_is
  have HW : Kpt (PredIs 30 isWd) := hid rword_is
  have HO := hid (dw_or d)
  obtain ⟨p, hpp⟩ : ∃ p, p = dwP d := ⟨_, rfl⟩
  rw [← hpp] at HO
  rw [← hpp]
  clear hpp
  go_enter Tryz.func29, Tryz.ntmps29
  go_wp2_with fail
  go_loopw [5] (fun i wr => ∃ k : Nat, k ≤ s.size ∧ i = .int .i64 (k : Int) ∧ (∀ j, j < k → p ((s.data.toList.getD j 0).toNat) = true) ∧ wr = w) (fun i _ => s.size - (intOf i).toNat)
  case atStart => exact ⟨0, by omega, rfl, fun j hj => absurd hj (by omega), rfl⟩
  case round =>
    obtain ⟨k, hk, rfl, hall, rfl⟩ := hrel
    have HA := hid hall
    clear hall
    by_cases hlt : k < s.size
    · have hix := run_index_str s k hlt
      have hcl := (s.data.toList.getD k 0).toNat_lt
      have hkl : k < s.data.toList.length := by rw [size_list]; exact hlt
      have hO := HO.out (s.data.toList.getD k 0).toNat
      have hD := HD.out (s.data.toList.getD k 0).toNat wr hcl
      have hW := HW.out (s.data.toList.getD k 0).toNat wr hcl
      have hnext : p ((s.data.toList.getD k 0).toNat) = true → ∀ j, j < k + 1 → p ((s.data.toList.getD j 0).toNat) = true := fun hq j hj => by
        rcases Nat.lt_or_ge j k with h | h
        · exact HA.out j h
        · obtain rfl : j = k := by omega
          exact hq
      have hend : p ((s.data.toList.getD k 0).toNat) = false → spn p s.data.toList = k := fun hq => spn_at p s.data.toList k hkl HA.out hq
      have HN := hid (And.intro hnext hend)
      clear hnext hend hkl HA
      generalize (s.data.toList.getD k 0).toNat = c at hix hcl hO hD hW HN
      cases hd : isDg c with
      | true =>
        rw [hd] at hD hO
        have H1 := hid (And.intro hD (HN.out.1 (by rw [hO]; rfl)))
        clear hD hW hO HN hd
        go_wp2_with fail
        refine H1.out.1.mono ?_
        rintro e w1 ⟨rfl, rfl⟩
        go_wp2_with fail
        go_roundw
        case rel => exact ⟨k + 1, by omega, by go_num, H1.out.2, trivial⟩
        case measure => simp [intOf]; omega
      | false =>
        rw [hd] at hD hO
        cases d with
        | true =>
          have H1 := hid (And.intro hD (HN.out.2 (by rw [hO]; rfl)))
          clear hD hW hO HN hd
          go_wp2_with fail
          refine H1.out.1.mono ?_
          rintro e w1 ⟨rfl, rfl⟩
          go_wp2_with fail
          go_ret
          exact ⟨by rw [H1.out.2]; rfl, rfl⟩
        | false =>
          cases hw : isWd c with
          | true =>
            rw [hw] at hW hO
            have H1 := hid (And.intro hD (And.intro hW (HN.out.1 (by rw [hO]; rfl))))
            clear hD hW hO HN hd hw
            go_wp2_with fail
            refine H1.out.1.mono ?_
            rintro e w1 ⟨rfl, rfl⟩
            go_wp2_with fail
            refine H1.out.2.1.mono ?_
            rintro e w1 ⟨rfl, rfl⟩
            go_wp2_with fail
            go_roundw
            case rel => exact ⟨k + 1, by omega, by go_num, H1.out.2.2, trivial⟩
            case measure => simp [intOf]; omega
          | false =>
            rw [hw] at hW hO
            have H1 := hid (And.intro hD (And.intro hW (HN.out.2 (by rw [hO]; rfl))))
            clear hD hW hO HN hd hw
            go_wp2_with fail
            refine H1.out.1.mono ?_
            rintro e w1 ⟨rfl, rfl⟩
            go_wp2_with fail
            refine H1.out.2.1.mono ?_
            rintro e w1 ⟨rfl, rfl⟩
            go_wp2_with fail
            go_ret
            exact ⟨by rw [H1.out.2.2]; rfl, rfl⟩
    · obtain rfl : k = s.size := by omega
      have hend : Kpt (spn p s.data.toList = s.size) := hid (by rw [spn_all p _ (fun j hj => HA.out j (by rw [size_list] at hj; exact hj)), size_list])
      clear HA
      go_wp2_with fail
      go_ret
      exact ⟨by rw [hend.out]; rfl, rfl⟩
end Go.Proofs.YtmgmmbikdmobpaaGreatDoor
