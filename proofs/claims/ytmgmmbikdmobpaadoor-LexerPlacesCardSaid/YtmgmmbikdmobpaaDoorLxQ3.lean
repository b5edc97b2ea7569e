/- lexer: the reference's Quote. -/
import Derived.Test.YtmgmmbikdmobpaaDoorLxQ2
namespace Go.Proofs.YtmgmmbikdmobpaaDoor
open Go.RowKit

theorem cells_new (w : World) (l : List Value) (t : TypeId) : ∀ j u, l[j]? = some u → (w.alloc (.cells l.toArray t)).cell? ((⟨w.heap.size, 0, none⟩ : Addr).add j) = some u := by
  intro j u h
  have hc := cell_of_row (w.alloc (.cells l.toArray t)) w.heap.size j _ _ _ (heap_alloc_new w (.cells l.toArray t))
  have e : (⟨w.heap.size, 0, none⟩ : Addr).add j = ⟨w.heap.size, j, none⟩ := by simp [Addr.add]; exact fun h => h.symm
  rw [e, hc]
  simpa using h
theorem own_lit (w : World) (base : Nat) (e : TypeId) (l : List UInt8) (h : base ≤ w.heap.size) (hm : l.length ≤ maxLen) : (w.alloc (.cells (byteCells l).toArray e)).ownsRow base e 1 (.slice (some ⟨w.heap.size, 0, none⟩) l.length l.length) l.length (byteCells l) :=
  ⟨by rw [byteCells_length]; omega, .inr ⟨w.heap.size, l.length, (byteCells l).toArray, rfl, h, heap_alloc_new w _, Nat.le_refl _, hm, by simp [byteCells_length], List.take_of_length_le (by simp [byteCells_length])⟩⟩
theorem esc_10 : esc 10 = [92, 110] := rfl
theorem esc_qb (b : UInt8) (h : b.toNat = 34 ∨ b.toNat = 92) : esc b = [92, b] := by
  have h2 : b = 34 ∨ b = 92 := h.imp (fun h => by apply UInt8.toNat_inj.1; show b.toNat = 34; exact h) (fun h => by apply UInt8.toNat_inj.1; show b.toNat = 92; exact h)
  rcases h2 with rfl | rfl <;> rfl
theorem esc_in (b : UInt8) (h1 : 32 ≤ b.toNat) (h2 : b.toNat ≤ 126) (h3 : b.toNat ≠ 34) (h4 : b.toNat ≠ 92) : esc b = [b] := by
  unfold esc
  rw [if_neg (fun h => by subst h; simp at h1), if_neg (fun h => by rcases h with rfl | rfl; exact h3 rfl; exact h4 rfl), if_neg (by rw [UInt8.lt_iff_toNat_lt, UInt8.lt_iff_toNat_lt]; simp; omega)]
theorem esc_out (b : UInt8) (h1 : b.toNat < 32 ∨ 126 < b.toNat) (h2 : b.toNat ≠ 10) : esc b = [92, 120, hexd (b.toNat / 16), hexd (b.toNat % 16)] := by
  unfold esc
  rw [if_neg (fun h => by subst h; exact h2 rfl), if_neg (fun h => by rcases h with rfl | rfl <;> simp at h1), if_pos (by rw [UInt8.lt_iff_toNat_lt, UInt8.lt_iff_toNat_lt]; exact h1)]

set_option maxRecDepth 100000 in
set_option maxHeartbeats 4000000 in
theorem rquote_any (s : ByteArray) (w : World) (hs : s.size ≤ 1000000) :
    Calls Tryd.prog 22 #[.string s] w
      fun e w' => e = .returned (.string ⟨([34] ++ s.data.toList.flatMap esc ++ [34]).toArray⟩) ∧ Below w.heap.size w w' := by
  obtain ⟨i0, hi, hz0, hz1, hz2⟩ := info_parts infoU8
  have K4 : Kpt (OwnB (w.alloc (.cells #[.int .u8 34] 5)) w.heap.size (.slice (some ⟨w.heap.size, 0, none⟩) 1 1) (quo s.data.toList 0) ∧ Below w.heap.size w (w.alloc (.cells #[.int .u8 34] 5))) := hid ⟨own_lit w w.heap.size 5 [34] (Nat.le_refl _) (by simp [maxLen]), (Below.refl _ _).alloc (Nat.le_refl _) _⟩
  go_enter Tryd.func22, Tryd.ntmps22
  go_wp2_with fail
  go_loopw [4, 5] (fun t i wr => ∃ k : Nat, k ≤ s.size ∧ i = .int .i64 (k : Int) ∧ OwnB wr w.heap.size t (quo s.data.toList k) ∧ Below w.heap.size w wr) (fun _ i _ => s.size - (intOf i).toNat)
  case atStart => exact ⟨0, by omega, rfl, K4.out.1, K4.out.2⟩
  case round =>
    obtain ⟨k, hk, rfl, ho, hbw⟩ := hrel
    clear K4
    have hle := quo_le s.data.toList k
    by_cases hlt : k < s.size
    · obtain ⟨b, hbk⟩ : ∃ b : UInt8, b = s.data.toList.getD k 0 := ⟨_, rfl⟩
      have hix : ∀ w, (Instr.index 9 (.string s) (.int .i64 (k : Int))).run Tryd.prog w = .ok (.int .u8 (b.toNat : Int)) w := fun w => by rw [hbk]; exact run_index_str s k hlt w
      have HQ := hid (quo_step s.data.toList k (by rw [size_list]; exact hlt))
      rw [← hbk] at HQ
      have KO := hid (And.intro ho hbw)
      have hbl := b.toNat_lt
      clear ho hbw hbk
      by_cases h34 : b.toNat = 34
      · have HX := hid (esc_qb b (Or.inl h34))
        rw [h34] at hix
        have HB : Kpt (b = 34) := hid (by apply UInt8.toNat_inj.1; exact h34)
        clear h34 hbl
        go_wp2_with (at_builtin; refine wpList_append_own _ rfl _ _ 36 rfl w.heap.size 5 i0 (.int .u8 0) 1 1 Tryd.underlying36 hi hz0 hz1 hz2 rfl (by decide) _ _ _ rfl (World.ownsRow.alloc (show wr.ownsRow w.heap.size 5 1 u4 (quo s.data.toList k).length (byteCells (quo s.data.toList k)) from KO.out.1) _) ⟨wr.heap.size, 0, none⟩ 2 2 [.int .u8 92, .int .u8 34] rfl rfl (cells_new _ _ _) (fun x hx => by simp at hx; first | (subst hx; rfl) | (rcases hx with rfl | rfl <;> rfl) | (rcases hx with rfl | rfl | rfl | rfl <;> rfl)) (by unfold maxLen; omega) (by omega) (alloc_le KO.out.2.size _) ?_; intro v6 w6 hown6 hgrow6 hnil; have hgrow7 : (wr.alloc (.cells #[.int .u8 92, .int .u8 34] 5)).grownBy w6 u4.ownBlock := hgrow6; have K6 := hid (And.intro hown6 hgrow7); clear hown6 hgrow6 hgrow7 hnil)
        have hb5 : Below w.heap.size w w6 := Below.grown (KO.out.2.alloc KO.out.2.size _) K6.out.2 (alloc_le KO.out.2.size _) (own_base KO.out.1)
        have ho5 : OwnB w6 w.heap.size v6 (quo s.data.toList (k + 1)) := by
          rw [HQ.out, HX.out, HB.out]
          unfold OwnB
          rw [List.length_append, byteCells_append]
          exact K6.out.1
        exact ⟨⟨k + 1, by omega, by go_num, ho5, hb5⟩, by simp [intOf]; omega⟩
      by_cases h92 : b.toNat = 92
      · have HX := hid (esc_qb b (Or.inr h92))
        rw [h92] at hix
        have HB : Kpt (b = 92) := hid (by apply UInt8.toNat_inj.1; exact h92)
        clear h34 h92 hbl
        go_wp2_with (at_builtin; refine wpList_append_own _ rfl _ _ 36 rfl w.heap.size 5 i0 (.int .u8 0) 1 1 Tryd.underlying36 hi hz0 hz1 hz2 rfl (by decide) _ _ _ rfl (World.ownsRow.alloc (show wr.ownsRow w.heap.size 5 1 u4 (quo s.data.toList k).length (byteCells (quo s.data.toList k)) from KO.out.1) _) ⟨wr.heap.size, 0, none⟩ 2 2 [.int .u8 92, .int .u8 92] rfl rfl (cells_new _ _ _) (fun x hx => by simp at hx; first | (subst hx; rfl) | (rcases hx with rfl | rfl <;> rfl) | (rcases hx with rfl | rfl | rfl | rfl <;> rfl)) (by unfold maxLen; omega) (by omega) (alloc_le KO.out.2.size _) ?_; intro v6 w6 hown6 hgrow6 hnil; have hgrow7 : (wr.alloc (.cells #[.int .u8 92, .int .u8 92] 5)).grownBy w6 u4.ownBlock := hgrow6; have K6 := hid (And.intro hown6 hgrow7); clear hown6 hgrow6 hgrow7 hnil)
        have hb5 : Below w.heap.size w w6 := Below.grown (KO.out.2.alloc KO.out.2.size _) K6.out.2 (alloc_le KO.out.2.size _) (own_base KO.out.1)
        have ho5 : OwnB w6 w.heap.size v6 (quo s.data.toList (k + 1)) := by
          rw [HQ.out, HX.out, HB.out]
          unfold OwnB
          rw [List.length_append, byteCells_append]
          exact K6.out.1
        exact ⟨⟨k + 1, by omega, by go_num, ho5, hb5⟩, by simp [intOf]; omega⟩
      by_cases h10 : b.toNat = 10
      · have HB : Kpt (b = 10) := hid (by apply UInt8.toNat_inj.1; exact h10)
        have HX : Kpt (esc b = [92, 110]) := hid (by rw [HB.out]; exact esc_10)
        rw [h10] at hix
        clear h34 h92 h10 hbl
        go_wp2_with (at_builtin; refine wpList_append_own _ rfl _ _ 36 rfl w.heap.size 5 i0 (.int .u8 0) 1 1 Tryd.underlying36 hi hz0 hz1 hz2 rfl (by decide) _ _ _ rfl (World.ownsRow.alloc (show wr.ownsRow w.heap.size 5 1 u4 (quo s.data.toList k).length (byteCells (quo s.data.toList k)) from KO.out.1) _) ⟨wr.heap.size, 0, none⟩ 2 2 [.int .u8 92, .int .u8 110] rfl rfl (cells_new _ _ _) (fun x hx => by simp at hx; first | (subst hx; rfl) | (rcases hx with rfl | rfl <;> rfl) | (rcases hx with rfl | rfl | rfl | rfl <;> rfl)) (by unfold maxLen; omega) (by omega) (alloc_le KO.out.2.size _) ?_; intro v6 w6 hown6 hgrow6 hnil; have hgrow7 : (wr.alloc (.cells #[.int .u8 92, .int .u8 110] 5)).grownBy w6 u4.ownBlock := hgrow6; have K6 := hid (And.intro hown6 hgrow7); clear hown6 hgrow6 hgrow7 hnil)
        have hb5 : Below w.heap.size w w6 := Below.grown (KO.out.2.alloc KO.out.2.size _) K6.out.2 (alloc_le KO.out.2.size _) (own_base KO.out.1)
        have ho5 : OwnB w6 w.heap.size v6 (quo s.data.toList (k + 1)) := by
          rw [HQ.out, HX.out]
          unfold OwnB
          rw [List.length_append, byteCells_append]
          exact K6.out.1
        exact ⟨⟨k + 1, by omega, by go_num, ho5, hb5⟩, by simp [intOf]; omega⟩
      have n10 : ((b.toNat : Int) == 10) = false := by rw [beq_eq_false_iff_ne]; omega
      have n34 : ((b.toNat : Int) == 34) = false := by rw [beq_eq_false_iff_ne]; omega
      have n92 : ((b.toNat : Int) == 92) = false := by rw [beq_eq_false_iff_ne]; omega
      by_cases hin : 32 ≤ b.toNat ∧ b.toNat ≤ 126
      · have HX := hid (esc_in b hin.1 hin.2 h34 h92)
        have HC : Kpt (byteCells [b] = [.int .u8 (b.toNat : Int)]) := hid rfl
        obtain ⟨hin1, hin2⟩ := hin
        clear h34 h92 h10
        go_wp2_with (at_builtin; refine wpList_append_own _ rfl _ _ 36 rfl w.heap.size 5 i0 (.int .u8 0) 1 1 Tryd.underlying36 hi hz0 hz1 hz2 rfl (by decide) _ _ _ rfl (World.ownsRow.alloc (show wr.ownsRow w.heap.size 5 1 u4 (quo s.data.toList k).length (byteCells (quo s.data.toList k)) from KO.out.1) _) ⟨wr.heap.size, 0, none⟩ 1 1 [.int .u8 (b.toNat : Int)] rfl rfl (cells_new _ _ _) (fun x hx => by simp at hx; first | (subst hx; rfl) | (rcases hx with rfl | rfl <;> rfl) | (rcases hx with rfl | rfl | rfl | rfl <;> rfl)) (by unfold maxLen; omega) (by omega) (alloc_le KO.out.2.size _) ?_; intro v6 w6 hown6 hgrow6 hnil; have hgrow7 : (wr.alloc (.cells #[.int .u8 (b.toNat : Int)] 5)).grownBy w6 u4.ownBlock := hgrow6; have K6 := hid (And.intro hown6 hgrow7); clear hown6 hgrow6 hgrow7 hnil)
        have hb5 : Below w.heap.size w w6 := Below.grown (KO.out.2.alloc KO.out.2.size _) K6.out.2 (alloc_le KO.out.2.size _) (own_base KO.out.1)
        have ho5 : OwnB w6 w.heap.size v6 (quo s.data.toList (k + 1)) := by
          rw [HQ.out, HX.out]
          unfold OwnB
          rw [List.length_append, byteCells_append]
          exact K6.out.1
        exact ⟨⟨k + 1, by omega, by go_num, ho5, hb5⟩, by simp [intOf]; omega⟩
      · have hout : b.toNat < 32 ∨ 126 < b.toNat := by omega
        have HX := hid (esc_out b hout h10)
        by_cases h32 : b.toNat < 32
        · clear hout
          have i1 := fun w => run_index_hex (b.toNat / 16) (by omega) w
          have i2 := fun w => run_index_hex (b.toNat % 16) (by omega) w
          rw [show ((b.toNat / 16 : Nat) : Int) = (b.toNat : Int) / 16 by omega] at i1
          rw [show ((b.toNat % 16 : Nat) : Int) = (b.toNat : Int) % 16 by omega] at i2
          generalize hexd (b.toNat / 16) = x at i1 HX
          generalize hexd (b.toNat % 16) = y at i2 HX
          clear h34 h92 h10 hin
          generalize b.toNat = c at *
          go_wp2_with fail
          refine wp_region_move_tail 8 (.tmp 4) (by kernel_rfl) (by kernel_rfl) rfl rfl u4 rfl (fun _ _ _ h => h) ?_
          simp only [List.take_succ_cons, List.take_zero, List.drop_succ_cons, List.drop_zero]
          simp only [Act.put, List.setIfInBounds_toArray, List.set_cons_succ, List.set_cons_zero]
          repeat (go_big_quiet_step (fail))
          refine wpQuiet_nil ?_
          intro _ hw'
          obtain ⟨nq, hxq⟩ := hw'
          subst hxq
          go_wp2_with (at_builtin; refine wpList_append_own _ rfl _ _ 36 rfl w.heap.size 5 i0 (.int .u8 0) 1 1 Tryd.underlying36 hi hz0 hz1 hz2 rfl (by decide) _ _ _ rfl (World.ownsRow.alloc (show (wr.drewN nq).ownsRow w.heap.size 5 1 u4 (quo s.data.toList k).length (byteCells (quo s.data.toList k)) from KO.out.1) _) ⟨wr.heap.size, 0, none⟩ 4 4 [.int .u8 92, .int .u8 120, .int .u8 (x.toNat : Int), .int .u8 (y.toNat : Int)] rfl rfl (cells_new (wr.drewN nq) _ _) (fun x hx => by simp at hx; rcases hx with rfl | rfl | rfl | rfl <;> rfl) (by unfold maxLen; omega) (by omega) (alloc_le KO.out.2.size _) ?_; intro v6 w6 hown6 hgrow6 hnil; have hgrow7 : ((wr.drewN nq).alloc (.cells #[.int .u8 92, .int .u8 120, .int .u8 (x.toNat : Int), .int .u8 (y.toNat : Int)] 5)).grownBy w6 u4.ownBlock := hgrow6; have K6 := hid (And.intro hown6 hgrow7); clear hown6 hgrow6 hgrow7 hnil)
          have hb5 : Below w.heap.size w w6 := Below.grown ((below_drawn KO.out.2 nq).alloc KO.out.2.size _) K6.out.2 (alloc_le KO.out.2.size _) (own_base KO.out.1)
          have ho5 : OwnB w6 w.heap.size v6 (quo s.data.toList (k + 1)) := by
            rw [HQ.out, HX.out]
            unfold OwnB
            rw [List.length_append, byteCells_append]
            exact K6.out.1
          exact ⟨⟨k + 1, by omega, by go_num, ho5, hb5⟩, by simp [intOf]; omega⟩
        · have h126 : 126 < b.toNat := hout.resolve_left h32
          clear hout
          have i1 := fun w => run_index_hex (b.toNat / 16) (by omega) w
          have i2 := fun w => run_index_hex (b.toNat % 16) (by omega) w
          rw [show ((b.toNat / 16 : Nat) : Int) = (b.toNat : Int) / 16 by omega] at i1
          rw [show ((b.toNat % 16 : Nat) : Int) = (b.toNat : Int) % 16 by omega] at i2
          generalize hexd (b.toNat / 16) = x at i1 HX
          generalize hexd (b.toNat % 16) = y at i2 HX
          clear h34 h92 h10 hin
          generalize b.toNat = c at *
          go_wp2_with fail
          refine wp_region_move_tail 8 (.tmp 4) (by kernel_rfl) (by kernel_rfl) rfl rfl u4 rfl (fun _ _ _ h => h) ?_
          simp only [List.take_succ_cons, List.take_zero, List.drop_succ_cons, List.drop_zero]
          simp only [Act.put, List.setIfInBounds_toArray, List.set_cons_succ, List.set_cons_zero]
          repeat (go_big_quiet_step (fail))
          refine wpQuiet_nil ?_
          intro _ hw'
          obtain ⟨nq, hxq⟩ := hw'
          subst hxq
          go_wp2_with (at_builtin; refine wpList_append_own _ rfl _ _ 36 rfl w.heap.size 5 i0 (.int .u8 0) 1 1 Tryd.underlying36 hi hz0 hz1 hz2 rfl (by decide) _ _ _ rfl (World.ownsRow.alloc (show (wr.drewN nq).ownsRow w.heap.size 5 1 u4 (quo s.data.toList k).length (byteCells (quo s.data.toList k)) from KO.out.1) _) ⟨wr.heap.size, 0, none⟩ 4 4 [.int .u8 92, .int .u8 120, .int .u8 (x.toNat : Int), .int .u8 (y.toNat : Int)] rfl rfl (cells_new (wr.drewN nq) _ _) (fun x hx => by simp at hx; rcases hx with rfl | rfl | rfl | rfl <;> rfl) (by unfold maxLen; omega) (by omega) (alloc_le KO.out.2.size _) ?_; intro v6 w6 hown6 hgrow6 hnil; have hgrow7 : ((wr.drewN nq).alloc (.cells #[.int .u8 92, .int .u8 120, .int .u8 (x.toNat : Int), .int .u8 (y.toNat : Int)] 5)).grownBy w6 u4.ownBlock := hgrow6; have K6 := hid (And.intro hown6 hgrow7); clear hown6 hgrow6 hgrow7 hnil)
          have hb5 : Below w.heap.size w w6 := Below.grown ((below_drawn KO.out.2 nq).alloc KO.out.2.size _) K6.out.2 (alloc_le KO.out.2.size _) (own_base KO.out.1)
          have ho5 : OwnB w6 w.heap.size v6 (quo s.data.toList (k + 1)) := by
            rw [HQ.out, HX.out]
            unfold OwnB
            rw [List.length_append, byteCells_append]
            exact K6.out.1
          exact ⟨⟨k + 1, by omega, by go_num, ho5, hb5⟩, by simp [intOf]; omega⟩
    · obtain rfl : k = s.size := by omega
      have hall : quo s.data.toList s.size = [34] ++ s.data.toList.flatMap esc := by unfold quo; rw [List.take_of_length_le (by rw [size_list]; exact Nat.le_refl _)]
      have HA := hid hall
      have KO := hid (And.intro ho hbw)
      clear ho hbw hall
      go_wp2_with (at_builtin; refine wpList_append_own _ rfl _ _ 36 rfl w.heap.size 5 i0 (.int .u8 0) 1 1 Tryd.underlying36 hi hz0 hz1 hz2 rfl (by decide) _ _ _ rfl (World.ownsRow.alloc (show wr.ownsRow w.heap.size 5 1 u4 (quo s.data.toList s.size).length (byteCells (quo s.data.toList s.size)) from KO.out.1) _) ⟨wr.heap.size, 0, none⟩ 1 1 [.int .u8 34] rfl rfl (cell_one_new _ _ _) (fun x hx => by simp at hx; subst hx; rfl) (by unfold maxLen; omega) (by omega) (alloc_le KO.out.2.size _) ?_; intro v6 w6 hown6 hgrow6 hnil; have hgrow7 : (wr.alloc (.cells #[.int .u8 34] 5)).grownBy w6 u4.ownBlock := hgrow6; have ho6 : OwnB w6 w.heap.size v6 (quo s.data.toList s.size ++ [34]) := OwnB_snoc hown6; have hcv := own_string (P := Tryd.prog) w6 36 9 5 w.heap.size v6 _ _ Tryd.underlying36 Tryd.underlying5 Tryd.underlying9 ho6; have K6 := hid hgrow7; clear hown6 hgrow6 hgrow7 hnil ho6)
      go_ret
      exact ⟨by rw [HA.out]; rfl, Below.grown (KO.out.2.alloc KO.out.2.size _) K6.out (alloc_le KO.out.2.size _) (own_base KO.out.1)⟩
end Go.Proofs.YtmgmmbikdmobpaaDoor
