/- CodecFails: the walk. -/
import Derived.Test.YtoimmmcmlbaenaaCallN
namespace Go.Proofs.Ytoimmmcmlbaenaa
open Go.RowKit

theorem StrS_nil (w : World) : StrS w (.slice none 0 0) [] := ⟨none, 0, rfl, fun i hi => absurd hi (by simp)⟩
set_option maxRecDepth 100000 in
set_option maxHeartbeats 2000000 in
theorem fails_any (s : ByteArray) (vc : Value) (n : Nat) (K N : Nat → Int) (E : Nat) (w : World) (hv : CallsN w vc n K N) (hE : E < 256) :
    Calls Try.prog 9 #[.string s, vc, .int .u8 (E : Int)] w
      fun e w' => e = .returned (.bool true) ∧ Below w.heap.size w w' := by
  have HV := hid hv
  obtain ⟨base, cap, rfl, hcells⟩ := hv
  have HC := hid hcells
  clear hcells
  have qE : IntKind.i64.wrap (E : Int) = (E : Int) := by rw [IntKind.wrap_i64]; omega
  by_cases hs : 2000 < s.size
  · go_enter Try.func9, Try.ntmps9
    go_wp2_with fail
    refine (awake_any w).mono ?_
    rintro e w1 ⟨rfl, hb1⟩
    have K1 := hid hb1
    clear hb1
    go_wp2_with fail
    go_ret
    exact ⟨rfl, K1.out⟩
  by_cases hn : 30 < n
  · go_enter Try.func9, Try.ntmps9
    go_wp2_with fail
    refine (awake_any w).mono ?_
    rintro e w1 ⟨rfl, hb1⟩
    have K1 := hid hb1
    clear hb1
    go_wp2_with fail
    go_ret
    exact ⟨rfl, K1.out⟩
  by_cases hE0 : E = 0
  · subst hE0
    go_enter Try.func9, Try.ntmps9
    go_wp2_with fail
    refine (awake_any w).mono ?_
    rintro e w1 ⟨rfl, hb1⟩
    have K1 := hid hb1
    clear hb1
    go_wp2_with fail
    go_ret
    exact ⟨rfl, K1.out⟩
  have hEi : ((E : Nat) : Int) ≠ 0 := by omega
  have hEb : ((E : Int) == 0) = false := by rw [beq_eq_false_iff_ne]; exact hEi
  have HE := hid hEi
  clear hE0 hEi
  go_enter Try.func9, Try.ntmps9
  go_wp2_with fail
  refine (awake_any w).mono ?_
  rintro e w1 ⟨rfl, hb1⟩
  have K1 := hid hb1
  clear hb1
  go_wp2_with fail
  refine (cnew_any s w1).mono ?_
  rintro e w2 ⟨rfl, hR2, hb2⟩
  have hGw := K1.out.size
  have hb2w := K1.out.trans (hb2.mono K1.out.size)
  generalize w1.heap.size = G at hR2 hGw ⊢
  have K2 := hid (And.intro hb2w (And.intro hR2 hGw))
  clear hb2 hb2w hR2 hGw
  have hf := cfail_any G s 0 (E : Int) w2 K2.out.2.1
  rw [show failE (E : Int) 0 = (E : Int) from rfl] at hf
  have HF := hid hf
  clear hf
  go_wp2_with fail
  refine HF.out.mono ?_
  rintro e w3 ⟨rfl, hR3, hg3⟩
  have K3 := hid (And.intro (K2.out.1.trans (below_of_gb hg3 K2.out.1.size K2.out.2.2)) hR3)
  clear hR3 hg3
  go_wp2_with fail
  go_loopw [35] (fun i wr => ∃ k : Nat, k ≤ n ∧ i = .int .i64 (k : Int) ∧ ReaderIs wr G s (E : Int) ∧ Below w.heap.size w wr) (fun i _ => n - (intOf i).toNat)
  case atStart => exact ⟨0, by omega, rfl, K3.out.2, K3.out.1⟩
  case round =>
    obtain ⟨k, hk, rfl, hR, hb⟩ := hrel
    by_cases hlt : k < n
    · obtain ⟨b, o, rfl, hc0, hc1⟩ := HC.out k hlt
      have hd0 := (hb.cell (p := ⟨b, o + k * 2, none⟩) (block_lt_any hc0)).trans hc0
      have hd1 := (hb.cell (p := ⟨b, o + k * 2 + 1, none⟩) (block_lt_any hc1)).trans hc1
      generalize K k = kk at hc0 hd0
      generalize N k = nn at hc1 hd1
      have KR := hid (And.intro hR hb)
      clear hc0 hc1 hR hb
      by_cases h6 : kk = 6
      · subst h6
        have hc := result_any 6 nn G s (E : Int) (wr.alloc (.cells #[.int .i64 6, .int .i64 nn] 43)) (ReaderIs_below KR.out.1 ((Below.refl _ _).alloc (Nat.le_refl _) _)) (by omega)
        rw [rRes_err 6 nn s HE.out, if_pos rfl] at hc
        have HCL := hid hc
        clear hc
        go_wp2_with fail
        refine HCL.out.mono ?_
        rintro e w4 ⟨⟨v, rfl, ho⟩, hR4, hg4⟩
        obtain ⟨bv, cv, rfl⟩ := own_slice ho
        have hal := (Below.refl wr.heap.size wr).alloc (Nat.le_refl _) (.cells #[.int .i64 6, .int .i64 nn] 43)
        have hGr := Reader_lt KR.out.1
        have hblk := (gb_heap hg4 (Array.getElem?_eq_some_iff.1 (heap_alloc_new wr (.cells #[.int .i64 6, .int .i64 nn] 43))).1 (by omega)).trans (heap_alloc_new wr (.cells #[.int .i64 6, .int .i64 nn] 43))
        have e0 := cell_of_row w4 wr.heap.size 0 _ _ _ hblk
        have e1 := cell_of_row w4 wr.heap.size 1 _ _ _ hblk
        have hbw4 : Below w.heap.size w w4 := (KR.out.2.trans (hal.mono KR.out.2.size)).trans (below_of_gb hg4 (Nat.le_trans KR.out.2.size hal.size) K2.out.2.2)
        have hz : wr.heap.size < w4.heap.size := (Array.getElem?_eq_some_iff.1 hblk).1
        have K4 := hid (And.intro hR4 (And.intro hbw4 ho))
        clear hR4 hg4 hal hGr hblk hbw4 ho
        unfold resC
        go_wp2_with fail
        have hal4 := (Below.refl w4.heap.size w4).alloc (Nat.le_refl _) (.cells #[.int .i64 0, .string ⟨#[]⟩, .slice bv 0 cv, .int .i64 (E : Int)] 39)
        refine (same_any 0 ⟨#[]⟩ (E : Int) (.slice bv 0 cv) (.slice none 0 0) [] _ ⟨bv, cv, rfl, fun i hi => absurd hi (by simp)⟩ (StrS_nil _) (by simp)).mono ?_
        rintro e w5 ⟨rfl, hb5⟩
        have hb45 := hal4.trans (hb5.mono hal4.size)
        have K5 := hid (And.intro (ReaderIs_below K4.out.1 hb45) (K4.out.2.1.trans (hb45.mono K4.out.2.1.size)))
        clear hal4 hb5 hb45 e0 e1
        go_wp2_with fail
        go_roundw
        case rel => exact ⟨k + 1, by omega, by go_num, K5.out.1, K5.out.2⟩
        case measure => simp [intOf]; omega
      · have h6b : (kk == 6) = false := by rw [beq_eq_false_iff_ne]; exact h6
        have hc := result_any kk nn G s (E : Int) (wr.alloc (.cells #[.int .i64 kk, .int .i64 nn] 43)) (ReaderIs_below KR.out.1 ((Below.refl _ _).alloc (Nat.le_refl _) _)) (by omega)
        rw [rRes_err kk nn s HE.out, if_neg h6] at hc
        have HCL := hid hc
        clear hc h6
        go_wp2_with fail
        refine HCL.out.mono ?_
        rintro e w4 ⟨⟨v, rfl, ho⟩, hR4, hg4⟩
        obtain ⟨bv, cv, rfl⟩ := own_slice ho
        have hal := (Below.refl wr.heap.size wr).alloc (Nat.le_refl _) (.cells #[.int .i64 kk, .int .i64 nn] 43)
        have hGr := Reader_lt KR.out.1
        have hblk := (gb_heap hg4 (Array.getElem?_eq_some_iff.1 (heap_alloc_new wr (.cells #[.int .i64 kk, .int .i64 nn] 43))).1 (by omega)).trans (heap_alloc_new wr (.cells #[.int .i64 kk, .int .i64 nn] 43))
        have e0 := cell_of_row w4 wr.heap.size 0 _ _ _ hblk
        have e1 := cell_of_row w4 wr.heap.size 1 _ _ _ hblk
        have hbw4 : Below w.heap.size w w4 := (KR.out.2.trans (hal.mono KR.out.2.size)).trans (below_of_gb hg4 (Nat.le_trans KR.out.2.size hal.size) K2.out.2.2)
        have hz : wr.heap.size < w4.heap.size := (Array.getElem?_eq_some_iff.1 hblk).1
        have K4 := hid (And.intro hR4 (And.intro hbw4 ho))
        clear hR4 hg4 hal hGr hblk hbw4 ho
        unfold resC
        go_wp2_with fail
        have hal4 := (Below.refl w4.heap.size w4).alloc (Nat.le_refl _) (.cells #[.int .i64 0, .string ⟨#[]⟩, .slice bv 0 cv, .int .i64 (E : Int)] 39)
        refine (same_any 0 ⟨#[]⟩ (E : Int) (.slice bv 0 cv) (.slice none 0 0) [] _ ⟨bv, cv, rfl, fun i hi => absurd hi (by simp)⟩ (StrS_nil _) (by simp)).mono ?_
        rintro e w5 ⟨rfl, hb5⟩
        have hb45 := hal4.trans (hb5.mono hal4.size)
        have K5 := hid (And.intro (ReaderIs_below K4.out.1 hb45) (K4.out.2.1.trans (hb45.mono K4.out.2.1.size)))
        clear hal4 hb5 hb45 e0 e1
        go_wp2_with fail
        go_roundw
        case rel => exact ⟨k + 1, by omega, by go_num, K5.out.1, K5.out.2⟩
        case measure => simp [intOf]; omega
    · obtain rfl : k = n := by omega
      have hend := cend_any G s (E : Int) wr hR
      rw [show endV s (E : Int) = (E : Int) from if_neg HE.out] at hend
      have KR := hid (And.intro hend hb)
      clear hend hR hb
      go_wp2_with fail
      refine KR.out.1.mono ?_
      rintro e w4 ⟨rfl, rfl⟩
      go_wp2_with fail
      go_ret
      exact ⟨rfl, KR.out.2⟩
end Go.Proofs.Ytoimmmcmlbaenaa
