/- codec: the reader's number: the walk. -/
import Derived.Test.YtoimmmcmlbaenaaRdM
import Derived.Outline
namespace Go.Proofs.Ytoimmmcmlbaenaa
open Go.RowKit

set_option maxRecDepth 100000 in
set_option maxHeartbeats 4000000 in
theorem cnumber_ok (g : Nat) (s : ByteArray) (w : World) (h : ReaderIs w g s 0) (hs : s.size ≤ 9223372036854775807) :
    Calls Try.prog 46 #[.pointer (some ⟨g, 0, none⟩)] w
      fun e w' => e = .returned (.int .u64 ((rNum s 0).1 : Int)) ∧ ReaderIs w' g (rNum s 0).2.1 (rNum s 0).2.2 ∧ w.grownBy w' (some g) := by
  obtain ⟨h0, h1, h2, h3⟩ := ReaderIs_cells h
  have hf := cfail_ok g s 9 w h
  have HF := hid (And.intro hf h)
  clear hf h
  go_enter Try.func46, Try.ntmps46
  go_wp2_with fail
  all_goals
    go_loopw [3, 17] (fun t i wr => ∃ (k acc : Nat), k ≤ s.size ∧ k ≤ 10 ∧ i = .int .i64 (k : Int) ∧ t = .int .u64 (acc : Int) ∧ acc < 128 ^ k ∧ readU 0 0 s.data.toList = readU k acc (s.data.toList.drop k) ∧ wr = w) (fun _ i _ => 10 - (intOf i).toNat)
    case atStart => exact ⟨0, 0, by omega, by omega, rfl, rfl, by simp, rfl, rfl⟩
    case round =>
      obtain ⟨k, acc, hk, hk10, rfl, rfl, hacc, hread, rfl⟩ := hrel
      by_cases hlt : k < 10 ∧ k < s.size
      · obtain ⟨hl1, hl2⟩ := hlt
        have hix := run_index_str s k hl2
        have hdr : s.data.toList.drop k = s.data.toList.getD k 0 :: s.data.toList.drop (k + 1) := by
          have hkl : k < s.data.toList.length := by rw [size_list]; exact hl2
          rw [List.drop_eq_getElem_cons hkl, List.getD_eq_getElem?_getD, List.getElem?_eq_getElem hkl]
          rfl
        rw [hdr, readU_cons] at hread
        have hcl := (s.data.toList.getD k 0).toNat_lt
        generalize (s.data.toList.getD k 0).toNat = c at hix hread hcl
        have hcl2 : c < 256 := hcl
        clear hdr hcl
        have HR := hid (And.intro hread hacc)
        clear hread hacc
        by_cases hbad : (0 < k ∧ c = 0) ∨ (k = 9 ∧ 1 < c)
        · have hn : Kpt (rNum s 0 = (0, s, 9)) := hid (rNum_none s (by rw [HR.out.1, if_pos (Or.inr hbad)]))
          rcases hbad with ⟨hb1, rfl⟩ | ⟨hk9, hb2⟩
          · go_wp2_with fail
            refine HF.out.1.mono ?_
            rintro e w2 ⟨rfl, hR2, hg2⟩
            have K2 := hid (And.intro hR2 hg2)
            clear hR2 hg2
            go_wp2_with fail
            go_ret
            rw [hn.out]
            exact ⟨rfl, K2.out.1, K2.out.2⟩
          · have hc0 : ((c : Int) == 0) = false := by rw [beq_eq_false_iff_ne]; omega
            have hk9b : ((k : Int) == 9) = true := by rw [beq_iff_eq]; omega
            have hk0 : 0 < k := by omega
            clear hk9
            go_wp2_with fail
            refine HF.out.1.mono ?_
            rintro e w2 ⟨rfl, hR2, hg2⟩
            have K2 := hid (And.intro hR2 hg2)
            clear hR2 hg2
            go_wp2_with fail
            go_ret
            rw [hn.out]
            exact ⟨rfl, K2.out.1, K2.out.2⟩
        · have hgood : Kpt (readU 0 0 s.data.toList = if c < 128 then some (acc + c * 128 ^ k, s.data.toList.drop (k + 1)) else readU (k + 1) (acc + c % 128 * 128 ^ k) (s.data.toList.drop (k + 1))) := by
            have h9 := HR.out.1
            rw [if_neg (by omega)] at h9
            exact hid h9
          have hfit : Kpt (acc + c % 128 * 128 ^ k < 18446744073709551616) := by
            have ha := HR.out.2
            refine hid ?_
            by_cases h9 : k = 9
            · subst h9
              have e9 : 128 ^ 9 = 9223372036854775808 := by decide
              rw [e9] at ha ⊢
              omega
            · have h1 := acc_next acc c k ha
              have h2 : 128 ^ (k + 1) ≤ 128 ^ 9 := Nat.pow_le_pow_right (by omega) (by omega)
              have e9 : 128 ^ 9 = 9223372036854775808 := by decide
              rw [e9] at h2
              omega
          have hsh := shl_group (c % 128) k (by have := hfit.out; omega)
          have hor := or_group acc (c % 128) k HR.out.2 hfit.out
          have hcm : ((c % 128 : Nat) : Int) = (c : Int) % 128 := by omega
          have hcv : IntKind.u64.wrap ((c : Int) % 128) = (c : Int) % 128 := by rw [IntKind.wrap_u64]; omega
          rw [hcm] at hsh
          have hnx : Kpt (acc + c % 128 * 128 ^ k < 128 ^ (k + 1)) := hid (acc_next acc c k HR.out.2)
          have hlast : Kpt (c < 128 → c * 128 ^ k = c % 128 * 128 ^ k) := hid fun h => by rw [Nat.mod_eq_of_lt h]
          have hoff : Kpt (offB s (k + 1) = ba (s.data.toList.drop (k + 1))) := hid (offB_drop s (k + 1))
          clear hcm HR
          generalize c % 128 * 128 ^ k = q at *
          have htest : (0 < k → ((c : Int) == 0) = false) ∧ ((k : Int) == 9 → (c : Int) ≤ 1) := ⟨fun h => by rw [beq_eq_false_iff_ne]; omega, fun h => by rw [beq_iff_eq] at h; omega⟩
          have HT := hid htest
          clear htest hbad
          have KS : Kpt (RowRel g 74 wr #[.string (offB s (k + 1)), .int .i64 0] (wr.setCell ⟨g, 0, none⟩ (.string (s.extract (k + 1) s.size)))) := hid (RR_set (RR_start HF.out.2) 0 _)
          by_cases hc : c < 128
          · have KE : Kpt (rNum s 0 = (acc + q, offB s (k + 1), 0)) := by
              have h := hgood.out
              rw [if_pos hc, hlast.out hc] at h
              rw [hoff.out]
              exact hid (rNum_some s h)
            by_cases hk0 : 0 < k
            · have hc0 := HT.out.1 hk0
              cases hk9 : ((k : Int) == 9) with
              | true =>
                have hc1 := HT.out.2 hk9
                go_wp2_with fail
                go_ret
                rw [KE.out]
                exact ⟨rfl, KS.out.2, KS.out.1⟩
              | false =>
                go_wp2_with fail
                go_ret
                rw [KE.out]
                exact ⟨rfl, KS.out.2, KS.out.1⟩
            · have hk9 : ((k : Int) == 9) = false := by rw [beq_eq_false_iff_ne]; omega
              go_wp2_with fail
              go_ret
              rw [KE.out]
              exact ⟨rfl, KS.out.2, KS.out.1⟩
          · have KN : Kpt (readU 0 0 s.data.toList = readU (k + 1) (acc + q) (s.data.toList.drop (k + 1))) := by
              have h := hgood.out
              rw [if_neg hc] at h
              exact hid h
            by_cases hk0 : 0 < k
            · have hc0 := HT.out.1 hk0
              cases hk9 : ((k : Int) == 9) with
              | true =>
                have hc1 := HT.out.2 hk9
                exact absurd hc1 (by omega)
              | false =>
                go_wp2_with fail
                go_roundw
                case rel => exact ⟨k + 1, acc + q, by omega, by omega, by go_num, rfl, hnx.out, KN.out, trivial⟩
                case measure => simp [intOf]; omega
            · have hk9 : ((k : Int) == 9) = false := by rw [beq_eq_false_iff_ne]; omega
              go_wp2_with fail
              go_roundw
              case rel => exact ⟨k + 1, acc + q, by omega, by omega, by go_num, rfl, hnx.out, KN.out, trivial⟩
              case measure => simp [intOf]; omega
      · have KN : Kpt (rNum s 0 = (0, s, 9)) := by
          refine hid (rNum_none s ?_)
          rw [hread]
          by_cases h10 : k = 10
          · exact readU_ten _ _ _ (by omega)
          · have : k = s.size := by omega
            rw [List.drop_of_length_le (by rw [size_list]; omega)]
            rfl
        clear hread hacc
        have hge : (10 ≤ k ∧ 10 < s.size) ∨ (s.size ≤ k ∧ s.size ≤ 10) := by omega
        rcases hge with ⟨hge, hx⟩ | ⟨hge, hx⟩
        all_goals first
          | (exfalso; omega)
          | (go_wp2_with fail
             refine HF.out.1.mono ?_
             rintro e w2 ⟨rfl, hR2, hg2⟩
             have K2 := hid (And.intro hR2 hg2)
             clear hR2 hg2
             go_wp2_with fail
             go_ret
             rw [KN.out]
             exact ⟨rfl, K2.out.1, K2.out.2⟩)
theorem cnumber_bad (g : Nat) (s : ByteArray) (err : Int) (w : World) (h : ReaderIs w g s err) (he : err ≠ 0) :
    Calls Try.prog 46 #[.pointer (some ⟨g, 0, none⟩)] w
      fun e w' => e = .returned (.int .u64 0) ∧ w' = w := by
  obtain ⟨h0, h1, h2, h3⟩ := ReaderIs_cells h
  have hq : (err == 0) = false := by rw [beq_eq_false_iff_ne]; exact he
  have hq2 : (err != 0) = true := by rw [bne_iff_ne]; exact he
  clear he h
  go_enter Try.func46, Try.ntmps46
  go_wp2_with fail
  go_ret
  exact ⟨rfl, rfl⟩
theorem cnumber_any (g : Nat) (s : ByteArray) (err : Int) (w : World) (h : ReaderIs w g s err) (hs : s.size ≤ 9223372036854775807) :
    Calls Try.prog 46 #[.pointer (some ⟨g, 0, none⟩)] w
      fun e w' => e = .returned (.int .u64 ((rNum s err).1 : Int)) ∧ ReaderIs w' g (rNum s err).2.1 (rNum s err).2.2 ∧ w.grownBy w' (some g) := by
  by_cases he : err = 0
  · subst he
    exact cnumber_ok g s w h hs
  · refine (cnumber_bad g s err w h he).mono fun e w' ⟨h1, h2⟩ => ?_
    subst h2
    rw [rNum_bad s err he]
    exact ⟨h1, h, World.grownBy.refl _ _⟩
end Go.Proofs.Ytoimmmcmlbaenaa
