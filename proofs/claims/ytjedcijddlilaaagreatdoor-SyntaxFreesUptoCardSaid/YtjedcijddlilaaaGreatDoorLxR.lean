/- lexer: the reference's words, Keywords, Has, IsName, IsType. -/
import Derived.Test.YtjedcijddlilaaaGreatDoorLxI
namespace Go.Proofs.YtjedcijddlilaaaGreatDoor
open Go.RowKit

set_option maxRecDepth 100000 in
set_option maxHeartbeats 1000000 in
theorem rwords_any (s : ByteArray) (w : World) (hs : s.size ≤ 9223372036854775807) :
    Calls Tryz.prog 112 #[.string s] w fun e w' => e = .returned (.bool (spn isWd s.data.toList == s.size)) ∧ w' = w := by
  obtain ⟨p, hpp⟩ : ∃ p, p = isWd := ⟨_, rfl⟩
  have HP : Kpt (PredIs 172 p) := hid (by rw [hpp]; exact rword_is)
  have HQ := hid hpp
  clear hpp
  go_enter Tryz.func112, Tryz.ntmps112
  go_wp2_with fail
  go_loopw [3] (fun i wr => ∃ k : Nat, k ≤ s.size ∧ i = .int .i64 (k : Int) ∧ (∀ j, j < k → p ((s.data.toList.getD j 0).toNat) = true) ∧ wr = w) (fun i _ => s.size - (intOf i).toNat)
  case atStart => exact ⟨0, by omega, rfl, fun j hj => absurd hj (by omega), rfl⟩
  case round =>
    obtain ⟨k, hk, rfl, hall, rfl⟩ := hrel
    have HA := hid hall
    clear hall
    by_cases hlt : k < s.size
    · have hix := run_index_str s k hlt
      have hcl := (s.data.toList.getD k 0).toNat_lt
      have hpc := HP.out (s.data.toList.getD k 0).toNat wr hcl
      have hkl : k < s.data.toList.length := by rw [size_list]; exact hlt
      cases hq : p (s.data.toList.getD k 0).toNat with
      | true =>
        rw [hq] at hpc
        have hnext : Kpt (∀ j, j < k + 1 → p ((s.data.toList.getD j 0).toNat) = true) := hid fun j hj => by
          rcases Nat.lt_or_ge j k with h | h
          · exact HA.out j h
          · obtain rfl : j = k := by omega
            exact hq
        have HC := hid hpc
        clear hpc hq hkl
        generalize (s.data.toList.getD k 0).toNat = c at hix hcl HC
        go_wp2_with fail
        refine HC.out.mono ?_
        rintro e w1 ⟨rfl, rfl⟩
        go_wp2_with fail
        go_roundw
        case rel => exact ⟨k + 1, by omega, by go_num, hnext.out, trivial⟩
        case measure => simp [intOf]; omega
      | false =>
        rw [hq] at hpc
        have hend : Kpt ((spn isWd s.data.toList == s.size) = false) := hid (by rw [← HQ.out, spn_at p _ k hkl HA.out hq, beq_eq_false_iff_ne]; omega)
        have HC := hid hpc
        clear hpc hq hkl
        generalize (s.data.toList.getD k 0).toNat = c at hix hcl HC
        go_wp2_with fail
        refine HC.out.mono ?_
        rintro e w1 ⟨rfl, rfl⟩
        go_wp2_with fail
        go_ret
        exact ⟨by rw [hend.out]; rfl, rfl⟩
    · obtain rfl : k = s.size := by omega
      have hend : Kpt ((spn isWd s.data.toList == s.size) = true) := hid (by rw [← HQ.out, spn_all p _ (fun j hj => HA.out j (by rw [size_list] at hj; exact hj)), size_list]; simp)
      go_wp2_with fail
      go_ret
      exact ⟨by rw [hend.out]; rfl, rfl⟩

theorem rkeywords_any (w : World) :
    Calls Tryz.prog 150 #[] w fun e w' => e = .returned (.slice (some ⟨w.heap.size, 0, none⟩) 28 28) ∧ w' = w.alloc (.cells (kwL.map fun l => Value.string ⟨l.toArray⟩).toArray 9) := by
  go_enter Tryz.func150, Tryz.ntmps150
  go_wp2_with fail
  go_ret
  exact ⟨rfl, rfl⟩

set_option maxRecDepth 100000 in
set_option maxHeartbeats 1000000 in
theorem has_any (g c : Nat) (ps : List ByteArray) (s : ByteArray) (w : World) (hps : ps.length ≤ 1000000) (hcl : ∀ j, j < ps.length → w.cell? ⟨g, j, none⟩ = some (.string (ps.getD j ⟨#[]⟩))) :
    Calls Tryz.prog 149 #[.slice (some ⟨g, 0, none⟩) ps.length c, .string s] w fun e w' => e = .returned (.bool (ps.any fun p => p.toList == s.toList)) ∧ w' = w := by
  go_enter Tryz.func149, Tryz.ntmps149
  go_wp2_with fail
  go_loopw [5] (fun i wr => ∃ k : Nat, k ≤ ps.length ∧ i = .int .i64 (k : Int) ∧ (∀ j, j < k → ((ps.getD j ⟨#[]⟩).toList == s.toList) = false) ∧ wr = w) (fun i _ => ps.length - (intOf i).toNat)
  case atStart => exact ⟨0, by omega, rfl, fun j hj => absurd hj (by omega), rfl⟩
  case round =>
    obtain ⟨k, hk, rfl, hall, rfl⟩ := hrel
    have HA := hid hall
    clear hall
    by_cases hlt : k < ps.length
    · have hce := hcl k hlt
      have HL := hid hcl
      have HI := hid (show ps.getD k ⟨#[]⟩ ∈ ps by rw [List.getD_eq_getElem?_getD, List.getElem?_eq_getElem hlt]; exact List.getElem_mem hlt)
      clear hcl
      cases hq : ((ps.getD k ⟨#[]⟩).toList == s.toList) with
      | true =>
        have hend : Kpt ((ps.any fun p => p.toList == s.toList) = true) := hid (List.any_eq_true.2 ⟨_, HI.out, hq⟩)
        generalize ps.getD k ⟨#[]⟩ = q at hce hq
        go_wp2_with fail
        go_ret
        exact ⟨by rw [hend.out]; rfl, rfl⟩
      | false =>
        have hnext : Kpt (∀ j, j < k + 1 → ((ps.getD j ⟨#[]⟩).toList == s.toList) = false) := hid fun j hj => by
          rcases Nat.lt_or_ge j k with h | h
          · exact HA.out j h
          · obtain rfl : j = k := by omega
            exact hq
        generalize ps.getD k ⟨#[]⟩ = q at hce hq HI
        go_wp2_with fail
        go_roundw
        case rel => exact ⟨k + 1, by omega, by go_num, hnext.out, trivial⟩
        case measure => simp [intOf]; omega
    · obtain rfl : k = ps.length := by omega
      have hend : Kpt ((ps.any fun p => p.toList == s.toList) = false) := hid (by
        rw [List.any_eq_false]
        intro x hx
        obtain ⟨j, hj, rfl⟩ := List.getElem_of_mem hx
        have h := HA.out j hj
        rw [List.getD_eq_getElem?_getD, List.getElem?_eq_getElem hj] at h
        rw [show (ps[j].toList == s.toList) = false from h]; decide)
      clear hcl
      go_wp2_with fail
      go_ret
      exact ⟨by rw [hend.out]; rfl, rfl⟩
end Go.Proofs.YtjedcijddlilaaaGreatDoor
