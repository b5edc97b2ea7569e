/- lexer: the reference's hex and character. -/
import Derived.Test.YtmgmmbikdmobpaaGreatDoorLxT
namespace Go.Proofs.YtmgmmbikdmobpaaGreatDoor
open Go.RowKit

theorem hexV_dg (c : Nat) (h1 : 48 ≤ c) (h2 : c ≤ 57) : hexV c = (c : Int) - 48 := by
  have key : ∀ x : Fin 58, 48 ≤ x.val → hexV x.val = (x.val : Int) - 48 := by decide +kernel
  exact key ⟨c, by omega⟩ h1
theorem hexV_af (c : Nat) (h1 : 97 ≤ c) (h2 : c ≤ 102) : hexV c = (c : Int) - 87 := by
  have key : ∀ x : Fin 103, 97 ≤ x.val → hexV x.val = (x.val : Int) - 87 := by decide +kernel
  exact key ⟨c, by omega⟩ h1
theorem hexV_no (c : Nat) (hc : c < 256) (h1 : ¬ (48 ≤ c ∧ c ≤ 57)) (h2 : ¬ (97 ≤ c ∧ c ≤ 102)) : hexV c = -1 := by
  have key : ∀ x : Fin 256, ¬ (48 ≤ x.val ∧ x.val ≤ 57) → ¬ (97 ≤ x.val ∧ x.val ≤ 102) → hexV x.val = -1 := by decide +kernel
  exact key ⟨c, hc⟩ h1 h2
theorem ret_i64 {a b : Int} (h : a = b) : Ending.returned (.int .i64 a) = .returned (.int .i64 b) := by rw [h]
theorem rhex_any (c : Nat) (w : World) (hc : c < 256) :
    Calls Tryz.prog 71 #[.int .u8 (c : Int)] w fun e w' => e = .returned (.int .i64 (hexV c)) ∧ w' = w := by
  have D := rdigit_is c
  by_cases hd : 48 ≤ c ∧ c ≤ 57
  · have hv := hexV_dg c hd.1 hd.2
    have hq : isDg c = true := by unfold isDg; simp; omega
    have hw1 : IntKind.u8.wrap ((c : Int) - 48) = (c : Int) - 48 := by rw [IntKind.wrap_u8]; omega
    have DH := hid (fun w => D w hc)
    rw [hq] at DH
    have HV := hid hv
    clear D hv hq hd
    go_enter Tryz.func71, Tryz.ntmps71
    go_wp2_with fail
    refine (DH.out w).mono ?_
    rintro e w0 ⟨rfl, rfl⟩
    go_wp2_with fail
    go_ret
    exact ⟨ret_i64 HV.out.symm, rfl⟩
  · have hq : isDg c = false := by unfold isDg; rw [Bool.eq_false_iff]; intro h; simp at h; omega
    have DH := hid (fun w => D w hc)
    rw [hq] at DH
    clear D hq
    by_cases h1 : 97 ≤ c
    · by_cases h2 : c ≤ 102
      · have hw1 : IntKind.u8.wrap ((c : Int) - 97) = (c : Int) - 97 := by rw [IntKind.wrap_u8]; omega
        have HV := hid (hexV_af c h1 h2)
        clear hd
        go_enter Tryz.func71, Tryz.ntmps71
        go_wp2_with fail
        refine (DH.out w).mono ?_
        rintro e w0 ⟨rfl, rfl⟩
        go_wp2_with fail
        go_ret
        exact ⟨ret_i64 (by rw [HV.out]; omega), rfl⟩
      · have HV := hid (hexV_no c hc hd (by omega))
        clear hd
        go_enter Tryz.func71, Tryz.ntmps71
        go_wp2_with fail
        refine (DH.out w).mono ?_
        rintro e w0 ⟨rfl, rfl⟩
        go_wp2_with fail
        go_ret
        exact ⟨ret_i64 (by rw [HV.out]), rfl⟩
    · have HV := hid (hexV_no c hc hd (by omega))
      clear hd
      go_enter Tryz.func71, Tryz.ntmps71
      go_wp2_with fail
      refine (DH.out w).mono ?_
      rintro e w0 ⟨rfl, rfl⟩
      go_wp2_with fail
      go_ret
      exact ⟨ret_i64 (by rw [HV.out]), rfl⟩

set_option maxRecDepth 100000 in
set_option maxHeartbeats 4000000 in
theorem rchr_any (s : ByteArray) (w : World) (hs : s.size ≤ 9223372036854775807) (h : 0 < s.size) (h34 : at' s.data.toList 0 ≠ 34) :
    Calls Tryz.prog 59 #[.string s] w fun e w' => ChrRet (chr s.data.toList) e ∧ ∃ n, w' = w.drewN n := by
  have i0 : ∀ w, (Instr.index 9 (.string s) (.int .i64 0)).run Tryz.prog w = .ok (.int .u8 (at' s.data.toList 0 : Int)) w := indexk s 0 h
  have c0 := at_lt s.data.toList 0
  have q0 : ((at' s.data.toList 0 : Int) == 34) = false := by rw [beq_eq_false_iff_ne]; omega
  have e1 : s.toList.isEmpty = false := by
    have h2 := size_list s
    rw [ByteArray.toList_eq]
    cases hl : s.data.toList with
    | nil => rw [hl] at h2; simp at h2; omega
    | cons a b => rfl
  unfold chr
  rw [size_list]
  by_cases h0 : at' s.data.toList 0 < 32
  · rw [if_pos h0]
    generalize at' s.data.toList 0 = a at i0 c0 h0 h34 q0 ⊢
    go_enter Tryz.func59, Tryz.ntmps59
    go_wp2_with fail
    go_ret2
    exact ⟨rfl, 0, rfl⟩
  · rw [if_neg h0]
    by_cases h1 : at' s.data.toList 0 = 92
    · rw [if_neg (by omega)]
      rw [h1] at i0
      clear c0 h0 h1 h34 q0
      by_cases h2 : 2 ≤ s.size
      · have i1 : ∀ w, (Instr.index 9 (.string s) (.int .i64 1)).run Tryz.prog w = .ok (.int .u8 (at' s.data.toList 1 : Int)) w := indexk s 1 (by omega)
        have c1 := at_lt s.data.toList 1
        generalize at' s.data.toList 1 = c at i1 c1 ⊢
        by_cases hq : c = 34
        · rw [if_pos ⟨h2, Or.inl hq⟩]
          subst hq
          go_enter Tryz.func59, Tryz.ntmps59
          go_wp2_with fail
          go_ret2
          exact ⟨rfl, 0, rfl⟩
        have b34 : ((c : Int) == 34) = false := by rw [beq_eq_false_iff_ne]; omega
        by_cases hs2 : c = 92
        · rw [if_pos ⟨h2, Or.inr hs2⟩]
          subst hs2
          go_enter Tryz.func59, Tryz.ntmps59
          go_wp2_with fail
          go_ret2
          exact ⟨rfl, 0, rfl⟩
        have b92 : ((c : Int) == 92) = false := by rw [beq_eq_false_iff_ne]; omega
        rw [if_neg (by omega)]
        by_cases hn : c = 110
        · rw [if_pos ⟨h2, hn⟩]
          subst hn
          go_enter Tryz.func59, Tryz.ntmps59
          go_wp2_with fail
          go_ret2
          exact ⟨rfl, 0, rfl⟩
        have b110 : ((c : Int) == 110) = false := by rw [beq_eq_false_iff_ne]; omega
        rw [if_neg (by omega)]
        by_cases h4 : 4 ≤ s.size
        · by_cases hx : c = 120
          · subst hx
            have i2 : ∀ w, (Instr.index 9 (.string s) (.int .i64 2)).run Tryz.prog w = .ok (.int .u8 (at' s.data.toList 2 : Int)) w := indexk s 2 (by omega)
            have i3 : ∀ w, (Instr.index 9 (.string s) (.int .i64 3)).run Tryz.prog w = .ok (.int .u8 (at' s.data.toList 3 : Int)) w := indexk s 3 (by omega)
            have d2 := at_lt s.data.toList 2
            have d3 := at_lt s.data.toList 3
            generalize at' s.data.toList 2 = u at i2 d2 ⊢
            generalize at' s.data.toList 3 = v at i3 d3 ⊢
            obtain ⟨u0, u1⟩ := hexV_in u d2
            obtain ⟨v0, v1⟩ := hexV_in v d3
            have x2 : ∀ w, Calls Tryz.prog 71 #[.int .u8 (u : Int)] w fun e w' => e = .returned (.int .i64 (hexV u)) ∧ w' = w := fun w => rhex_any u w d2
            have x3 : ∀ w, Calls Tryz.prog 71 #[.int .u8 (v : Int)] w fun e w' => e = .returned (.int .i64 (hexV v)) ∧ w' = w := fun w => rhex_any v w d3
            generalize hexV u = a at u0 u1 x2 ⊢
            generalize hexV v = b at v0 v1 x3 ⊢
            have HH := hid (And.intro x2 x3)
            clear x2 x3 d2 d3 b34 b92 b110 hq hs2 hn c1
            by_cases ha : 0 ≤ a
            · by_cases hb : 0 ≤ b
              · rw [if_pos ⟨h4, rfl, ha, hb⟩]
                have hw1 : IntKind.u8.wrap (16 * a + b) = 16 * a + b := by rw [IntKind.wrap_u8]; omega
                have KT : Kpt ((((16 * a + b).toNat : Nat) : Int) = 16 * a + b) := hid (by omega)
                go_enter Tryz.func59, Tryz.ntmps59
                go_wp2_with fail
                refine (HH.out.1 _).mono ?_
                rintro e w1 ⟨rfl, rfl⟩
                go_wp2_with fail
                refine (HH.out.2 _).mono ?_
                rintro e w2 ⟨rfl, rfl⟩
                go_wp2_with fail
                go_quiet ((go_at_call 71; first | (with_reducible exact Calls.quiet_of_same (HH.out.1 _)) | (with_reducible exact Calls.quiet_of_same (HH.out.2 _))))
                go_wp2_with fail
                go_ret2
                refine ⟨?_, _, rfl⟩
                unfold ChrRet
                simp only [KT.out]
                rfl
              · rw [if_neg (fun h => hb h.2.2.2)]
                have hb2 : b < 0 := by omega
                clear hb
                go_enter Tryz.func59, Tryz.ntmps59
                go_wp2_with fail
                refine (HH.out.1 _).mono ?_
                rintro e w1 ⟨rfl, rfl⟩
                go_wp2_with fail
                refine (HH.out.2 _).mono ?_
                rintro e w2 ⟨rfl, rfl⟩
                go_wp2_with fail
                go_ret2
                exact ⟨rfl, 0, rfl⟩
            · rw [if_neg (fun h => ha h.2.2.1)]
              have ha2 : a < 0 := by omega
              clear ha
              go_enter Tryz.func59, Tryz.ntmps59
              go_wp2_with fail
              refine (HH.out.1 _).mono ?_
              rintro e w1 ⟨rfl, rfl⟩
              go_wp2_with fail
              go_ret2
              exact ⟨rfl, 0, rfl⟩
          · rw [if_neg (fun h => hx h.2.1)]
            have b120 : ((c : Int) == 120) = false := by rw [beq_eq_false_iff_ne]; omega
            clear hq hs2 hn hx
            go_enter Tryz.func59, Tryz.ntmps59
            go_wp2_with fail
            go_ret2
            exact ⟨rfl, 0, rfl⟩
        · rw [if_neg (fun h => h4 h.1)]
          clear hq hs2 hn
          by_cases hx : c = 120
          · subst hx
            go_enter Tryz.func59, Tryz.ntmps59
            go_wp2_with fail
            go_ret2
            exact ⟨rfl, 0, rfl⟩
          · have b120 : ((c : Int) == 120) = false := by rw [beq_eq_false_iff_ne]; omega
            clear hx
            go_enter Tryz.func59, Tryz.ntmps59
            go_wp2_with fail
            go_ret2
            exact ⟨rfl, 0, rfl⟩
      · rw [if_neg (by omega), if_neg (by omega), if_neg (by omega)]
        go_enter Tryz.func59, Tryz.ntmps59
        go_wp2_with fail
        go_ret2
        exact ⟨rfl, 0, rfl⟩
    · rw [if_pos h1]
      generalize at' s.data.toList 0 = a at i0 c0 h0 h1 h34 q0 ⊢
      have hd0 : decide ((a : Int) < 32) = false := by rw [decide_eq_false_iff_not]; omega
      have hb : ((a : Int) != 92) = true := by rw [bne_iff_ne]; omega
      clear h1 h0 h34
      go_enter Tryz.func59, Tryz.ntmps59
      go_wp2_with fail
      go_ret2
      exact ⟨rfl, 0, rfl⟩
end Go.Proofs.YtmgmmbikdmobpaaGreatDoor
