/- The reference's readUnsigned. -/
import Derived.Test.YtoimmmcmlbaenaaCan
namespace Go.Proofs.Ytoimmmcmlbaenaa
open Go.RowKit

/-- What readUnsigned returns. -/
def RU (x : Option (Nat × List UInt8)) (sz : Nat) (e : Ending) : Prop :=
  match x with
  | some (n, r) => e = .returned (.tuple #[.int .u64 (n : Int), .int .i64 ((sz - r.length : Nat) : Int), .bool true])
  | none => ∃ a b : Int, e = .returned (.tuple #[.int .u64 a, .int .i64 b, .bool false])

set_option maxRecDepth 100000 in
set_option maxHeartbeats 4000000 in
theorem refru_any (s : ByteArray) (p : Nat) (w : World) (hp : p ≤ s.size) (hs : s.size ≤ 1048576) :
    Calls Try.prog 53 #[.string s, .int .i64 (p : Int)] w
      fun e w' => RU (readU 0 0 (s.data.toList.drop p)) s.size e ∧ w' = w := by
  generalize hX : readU 0 0 (s.data.toList.drop p) = X
  have HX := hid hX
  clear hX
  go_enter Try.func53, Try.ntmps53
  go_wp2_with fail
  go_loopw [7, 8] (fun t i wr => ∃ (k acc : Nat), k ≤ 10 ∧ i = .int .i64 (k : Int) ∧ t = .int .u64 (acc : Int) ∧ acc < 128 ^ k ∧ X = readU k acc (s.data.toList.drop (p + k)) ∧ wr = w) (fun _ i _ => 10 - (intOf i).toNat)
  case atStart => exact ⟨0, 0, by omega, rfl, rfl, by simp, HX.out.symm, rfl⟩
  case round =>
    obtain ⟨k, acc, hk10, rfl, rfl, hacc, hread, rfl⟩ := hrel
    by_cases hl1 : k < 10
    · have h0 : ¬ ((p : Int) + (k : Int) < 0) := by omega
      by_cases hl2 : p + k < s.size
      · have hix : ∀ w, (Instr.index 9 (.string s) (.int .i64 ((p : Int) + (k : Int)))).run Try.prog w = .ok (.int .u8 ((s.data.toList.getD (p + k) 0).toNat : Int)) w := fun w => by
          have h := run_index_str s (p + k) hl2 w
          rwa [Int.natCast_add] at h
        have hdr : s.data.toList.drop (p + k) = s.data.toList.getD (p + k) 0 :: s.data.toList.drop (p + k + 1) := by
          have hkl : p + k < s.data.toList.length := by rw [size_list]; exact hl2
          rw [List.drop_eq_getElem_cons hkl, List.getD_eq_getElem?_getD, List.getElem?_eq_getElem hkl]
          rfl
        rw [hdr, readU_cons] at hread
        have hcl := (s.data.toList.getD (p + k) 0).toNat_lt
        generalize (s.data.toList.getD (p + k) 0).toNat = c at hix hread hcl
        have hcl2 : c < 256 := hcl
        have hcv0 : IntKind.u64.wrap (c : Int) = (c : Int) := by rw [IntKind.wrap_u64]; omega
        clear hdr hcl
        have HR := hid (And.intro hread hacc)
        clear hread hacc
        have hlen : Kpt ((s.data.toList.drop (p + k + 1)).length = s.size - (p + k + 1)) := hid (by rw [List.length_drop, size_list'])
        by_cases hb9 : k = 9 ∧ 1 < c
        · have hn : Kpt (X = none) := hid (by rw [HR.out.1, if_pos (Or.inr (Or.inr hb9))])
          obtain ⟨hk9, hb2⟩ := hb9
          have hk9b : ((k : Int) == 9) = true := by rw [beq_iff_eq]; omega
          clear hk9
          go_wp2_with fail
          go_ret3
          rw [hn.out]
          exact ⟨⟨_, _, rfl⟩, rfl⟩
        · have hfit : Kpt (acc + c % 128 * 128 ^ k < 18446744073709551616) := by
            have ha := HR.out.2
            refine hid ?_
            by_cases h9 : k = 9
            · subst h9
              have e9 : 128 ^ 9 = 9223372036854775808 := by decide
              rw [e9] at ha ⊢
              omega
            · have h1 := acc_next acc c k ha
              have h2 : 128 ^ (k + 1) ≤ 128 ^ 9 := Nat.pow_le_pow_right (by omega) (by omega)
              have e9 : 128 ^ 9 = 9223372036854775808 := by decide
              rw [e9] at h2
              omega
          have hsh := shl_group (c % 128) k (by have := hfit.out; omega)
          have hcm : ((c % 128 : Nat) : Int) = (c : Int) % 128 := by omega
          rw [hcm] at hsh
          have hnx : Kpt (acc + c % 128 * 128 ^ k < 128 ^ (k + 1)) := hid (acc_next acc c k HR.out.2)
          have hlast : Kpt (c < 128 → c * 128 ^ k = c % 128 * 128 ^ k) := hid fun h => by rw [Nat.mod_eq_of_lt h]
          have hkeep : Kpt (k = 9 → c ≤ 1) := hid fun h => by omega
          have HRR := HR.out.1
          clear hcm HR
          have HQ := hid HRR
          clear HRR
          generalize c % 128 * 128 ^ k = q at *
          have hadd : IntKind.u64.wrap ((acc : Int) + (q : Int)) = ((acc + q : Nat) : Int) := by have := hfit.out; rw [IntKind.wrap_u64]; omega
          clear hb9
          by_cases hc : c < 128
          · by_cases hk0 : k = 0
            · have hk0b : ((k : Int) == 0) = true := by rw [beq_iff_eq]; omega
              have hk9b : ((k : Int) == 9) = false := by rw [beq_eq_false_iff_ne]; omega
              have KX : Kpt (X = some (acc + q, s.data.toList.drop (p + k + 1))) := by
                have h := HQ.out
                rw [if_neg (by omega), if_pos hc, hlast.out hc] at h
                exact hid h
              clear hk0
              go_wp2_with fail
              go_ret3
              rw [KX.out]
              refine ⟨?_, rfl⟩
              show _ = _
              rw [hlen.out]
              have e1 : ((p : Int) + (k : Int) + 1) = ((s.size - (s.size - (p + k + 1)) : Nat) : Int) := by omega
              rw [← e1]
              rfl
            · have hk0b : ((k : Int) == 0) = false := by rw [beq_eq_false_iff_ne]; omega
              by_cases hc0 : c = 0
              · have KX : Kpt (X = none) := by
                  have h := HQ.out
                  rw [if_pos (by omega)] at h
                  exact hid h
                have hc0b : ((c : Int) != 0) = false := by rw [bne_eq_false_iff_eq]; omega
                clear hc0 hk0
                cases hk9b : ((k : Int) == 9) with
                | true =>
                  have hc1 : (c : Int) ≤ 1 := by rw [beq_iff_eq] at hk9b; have := hkeep.out (by omega); omega
                  go_wp2_with fail
                  go_ret3
                  rw [KX.out]
                  exact ⟨⟨_, _, rfl⟩, rfl⟩
                | false =>
                  go_wp2_with fail
                  go_ret3
                  rw [KX.out]
                  exact ⟨⟨_, _, rfl⟩, rfl⟩
              · have KX : Kpt (X = some (acc + q, s.data.toList.drop (p + k + 1))) := by
                  have h := HQ.out
                  rw [if_neg (by have := hkeep.out; omega), if_pos hc, hlast.out hc] at h
                  exact hid h
                have hc0b : ((c : Int) != 0) = true := by rw [bne_iff_ne]; omega
                clear hc0 hk0
                cases hk9b : ((k : Int) == 9) with
                | true =>
                  have hc1 : (c : Int) ≤ 1 := by rw [beq_iff_eq] at hk9b; have := hkeep.out (by omega); omega
                  go_wp2_with fail
                  go_ret3
                  rw [KX.out]
                  refine ⟨?_, rfl⟩
                  show _ = _
                  rw [hlen.out]
                  have e1 : ((p : Int) + (k : Int) + 1) = ((s.size - (s.size - (p + k + 1)) : Nat) : Int) := by omega
                  rw [← e1]
                  rfl
                | false =>
                  go_wp2_with fail
                  go_ret3
                  rw [KX.out]
                  refine ⟨?_, rfl⟩
                  show _ = _
                  rw [hlen.out]
                  have e1 : ((p : Int) + (k : Int) + 1) = ((s.size - (s.size - (p + k + 1)) : Nat) : Int) := by omega
                  rw [← e1]
                  rfl
          · have hk9b : ((k : Int) == 9) = false := by rw [beq_eq_false_iff_ne]; intro h; have := hkeep.out (by omega); omega
            have KN : Kpt (X = readU (k + 1) (acc + q) (s.data.toList.drop (p + k + 1))) := by
              have h := HQ.out
              rw [if_neg (by have := hkeep.out; omega), if_neg hc] at h
              exact hid h
            go_wp2_with fail
            go_roundw
            case rel => exact ⟨k + 1, acc + q, by omega, by go_num, rfl, hnx.out, KN.out, trivial⟩
            case measure => simp [intOf]; omega
      · have hge : s.size ≤ p + k := by omega
        have hn : Kpt (X = none) := hid (by rw [hread, List.drop_of_length_le (by rw [size_list']; omega)]; rfl)
        clear hread hacc
        go_wp2_with fail
        go_ret3
        rw [hn.out]
        exact ⟨⟨_, _, rfl⟩, rfl⟩
    · obtain rfl : k = 10 := by omega
      have hn : Kpt (X = none) := hid (by rw [hread, readU_ten _ _ _ (by omega)])
      clear hread hacc
      go_wp2_with fail
      go_ret3
      rw [hn.out]
      exact ⟨⟨_, _, rfl⟩, rfl⟩
end Go.Proofs.Ytoimmmcmlbaenaa
