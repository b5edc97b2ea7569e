/- The reference's Sum. -/
import Derived.Test.YtijohbohdceggaaRefComp
import Derived.Test.YtijohbohdceggaaRefSumN
namespace Go.Proofs.Ytijohbohdceggaa
open Go.RowKit
attribute [local go_sem ↓ high] shr_rule shr_lit

set_option maxRecDepth 100000 in
set_option maxHeartbeats 2000000 in
theorem refsum_any (s : ByteArray) (w : World) (hs : s.size < 70368744177664) :
    Calls Try.prog 12 #[.string s] w
      fun e w' => e = .returned (.string ⟨(sha s.data.toList).toArray⟩) ∧ Below w.heap.size w w' := by
  obtain ⟨i0, hi, hz0, hz1, hz2⟩ := info_parts infoU8
  have hsha := sha_blocks s.data.toList
  have hLl := padL_blocks s.data.toList
  have hpad := fun w => padded_any s w hs
  have hns : padN s.data.toList < 2199023255552 := by
    have h1 : s.data.toList.length = s.size := by rw [Array.length_toList]; rfl
    unfold padN
    rw [h1]
    have := zpad_lt s.size
    omega
  generalize padL s.data.toList = L at hsha hLl hpad
  generalize padN s.data.toList = n at hsha hLl hns
  have HL := hid hLl
  have HSHA := hid hsha
  have HP := hid hpad
  clear hsha hpad hLl
  go_enter Try.func12, Try.ntmps12
  go_wp2_with fail
  have hb1 : Below w.heap.size w (w.alloc (.cells (UC S0.list) 52)) := (Below.refl _ _).alloc (Nat.le_refl _) _
  have hw1 := WordsAt_new w S0.list
  have heq : (#[.int .u32 1779033703, .int .u32 3144134277, .int .u32 1013904242, .int .u32 2773480762, .int .u32 1359893119, .int .u32 2600822924, .int .u32 528734635, .int .u32 1541459225] : Array Value) = UC S0.list := by kernel_rfl
  rw [heq]
  clear heq
  generalize w.alloc (.cells (UC S0.list) 52) = w1 at hb1 hw1 ⊢
  refine (HP.out w1).mono ?_
  rintro e w2 ⟨rfl, hb2⟩
  have hw2 := WordsAt_below hw1 (show 0 < 8 by decide) hb2
  have hbw2 := hb1.trans (hb2.mono hb1.size)
  clear hw1 hb1 hb2
  have K0 := hid (And.intro hw2 hbw2)
  clear hw2 hbw2
  go_wp2_with fail
  go_loopw [3, 5] (fun t i wr => ∃ k g : Nat, k ≤ n ∧ i = .int .i64 ((64 * k : Nat) : Int) ∧ t = .slice (some ⟨g, 0, none⟩) 8 8 ∧ WordsAt wr g (blocksS k S0 L).list ∧ Below w.heap.size w wr) (fun _ i _ => 64 * n - (intOf i).toNat)
  case atStart => exact ⟨0, w.heap.size, by omega, rfl, rfl, K0.out.1, K0.out.2⟩
  case round =>
    obtain ⟨k, g, hk, rfl, rfl, hwt, hbw⟩ := hrel
    have hLL : (L.length : Int) = 64 * (n : Int) := by have := HL.out; omega
    by_cases hlt : k < n
    · have hnext := blocksS_snoc k S0 L
      have hwl : ((L.drop (64 * k)).take 64).length = 64 := by have := HL.out; simp; omega
      have KC := hid (And.intro hwt (And.intro hbw (And.intro hnext hwl)))
      clear hwt hbw hnext hwl
      rw [show ((64 * k : Nat) : Int) = 64 * (k : Int) by omega]
      go_wp2_with fail
      have hx : ((⟨L.toArray⟩ : ByteArray).extract (64 * k) (64 * k + 64)).data.toList = (L.drop (64 * k)).take 64 := by
        rw [ByteArray.data_extract]
        simp
      generalize (⟨L.toArray⟩ : ByteArray).extract (64 * k) (64 * k + 64) = B at hx ⊢
      have hB : B.size = 64 := by
        have h1 : B.data.toList.length = B.size := by rw [Array.length_toList]; rfl
        rw [← h1, hx]; exact KC.out.2.2.2
      refine (refcompress_any (blocksS k S0 L) B g 8 wr hB KC.out.1).mono ?_
      rintro e w3 ⟨⟨g', rfl, hg', hw3⟩, hb3⟩
      rw [hx, ← KC.out.2.2.1] at hw3
      have KN := hid (And.intro hw3 (KC.out.2.1.trans (hb3.mono KC.out.2.1.size)))
      clear hx hB hw3 hb3 hg'
      go_wp2_with fail
      refine ⟨⟨k + 1, g', by omega, by go_num, rfl, KN.out.1, KN.out.2⟩, by simp [intOf]; omega⟩
    · obtain rfl : k = n := by omega
      obtain ⟨wz, hwz⟩ : ∃ wz : World, wz = wr := ⟨_, rfl⟩
      subst hwz
      have hgl := WordsAt_lt hwt (show 0 < 8 by decide)
      have hsha := HSHA.out
      generalize blocksS k S0 L = S at hwt hsha
      have KC := hid (And.intro hwt (And.intro hbw hsha))
      clear hwt hbw hsha
      rw [show ((64 * k : Nat) : Int) = 64 * (k : Int) by omega]
      go_wp2_with fail
      have hown := own_empty wz wz.heap.size 5 (Nat.le_refl _)
      have hb : Below wz.heap.size wz (wz.alloc (.cells #[] 5)) := (Below.refl _ _).alloc (Nat.le_refl _) _
      generalize wz.alloc (.cells #[] 5) = w3 at hown hb
      go_loopw [6, 7] (fun t i wr => ∃ j : Nat, j ≤ 8 ∧ i = .int .i64 j ∧ wr.ownsRow wz.heap.size 5 1 t (4 * j) (byteCells ((bytesOf S).take (4 * j))) ∧ Below wz.heap.size wz wr) (fun _ i _ => 8 - (intOf i).toNat)
      case atStart => exact ⟨0, by omega, rfl, hown, hb⟩
      case round =>
        obtain ⟨j, hj, rfl, ho, hbq⟩ := hrel
        by_cases hjl : j < 8
        · have hx : wr.cell? ⟨g, j, none⟩ = some (.int .u32 (u (S.list.getD j 0))) := (hbq.cell (p := ⟨g, j, none⟩) hgl).trans (KC.out.1 j hjl)
          have htk := bytesOf_take S j hjl
          generalize S.list.getD j 0 = x at hx htk
          have q24 := u_u8 (x >>> 24)
          have q16 := u_u8 (x >>> 16)
          have q8 := u_u8 (x >>> 8)
          have q0 := u_u8 x
          generalize UInt8.ofBitVec ((x >>> 24).setWidth 8) = b3 at q24 htk
          generalize UInt8.ofBitVec ((x >>> 16).setWidth 8) = b2 at q16 htk
          generalize UInt8.ofBitVec ((x >>> 8).setWidth 8) = b1 at q8 htk
          generalize UInt8.ofBitVec (x.setWidth 8) = b0 at q0 htk
          have hcs : byteCells ((bytesOf S).take (4 * (j + 1))) = byteCells ((bytesOf S).take (4 * j)) ++ [.int .u8 (b3.toNat : Int), .int .u8 (b2.toNat : Int), .int .u8 (b1.toNat : Int), .int .u8 (b0.toNat : Int)] := by
            rw [htk]; simp only [byteCells, List.map_append, List.map_cons, List.map_nil]
          have KO := hid (And.intro ho (And.intro hbq hcs))
          clear ho hbq htk hcs hown hb
          go_wp2_with fail
          refine wp_region_move_tail 23 (.tmp 6) (by kernel_rfl) (by kernel_rfl) rfl rfl u6 rfl (fun _ _ _ h => h) ?_
          simp only [List.take_succ_cons, List.take_zero, List.drop_succ_cons, List.drop_zero]
          simp only [Act.put, List.setIfInBounds_toArray, List.set_cons_succ, List.set_cons_zero]
          repeat (go_big_quiet_step (fail))
          refine wpQuiet_nil ?_
          intro _ hw'
          obtain ⟨nq, hq⟩ := hw'
          subst hq
          clear hx q24 q16 q8 q0
          go_wp2_with (at_builtin; refine wpList_append_own _ rfl _ _ 34 rfl wz.heap.size 5 i0 (.int .u8 0) 1 1 Try.underlying34 hi hz0 hz1 hz2 rfl (by decide) _ _ _ rfl (World.ownsRow.alloc KO.out.1 _) ⟨wr.heap.size, 0, none⟩ 4 4 [.int .u8 (b3.toNat : Int), .int .u8 (b2.toNat : Int), .int .u8 (b1.toNat : Int), .int .u8 (b0.toNat : Int)] rfl rfl (World.news_of_block (cs := #[.int .u8 (b3.toNat : Int), .int .u8 (b2.toNat : Int), .int .u8 (b1.toNat : Int), .int .u8 (b0.toNat : Int)]) (heap_alloc_new (wr.drewN _) _)) (by simp [Value.oneCell']) (by unfold maxLen; omega) (by omega) (alloc_le KO.out.2.1.size _) ?_; intro v' w4 hown' hgrow3 hnil3)
          have hb2 : Below wz.heap.size wz w4 := Below.grown ((below_drawn KO.out.2.1 _).alloc KO.out.2.1.size _) hgrow3 (alloc_le KO.out.2.1.size _) (own_base KO.out.1)
          have KN := hid (And.intro hown' hb2)
          clear hown' hgrow3 hnil3 hb2
          go_wp2_with fail
          go_roundw
          case rel => exact ⟨j + 1, by omega, by go_num, by rw [KO.out.2.2]; exact KN.out.1, KN.out.2⟩
          case measure => simp [intOf]; omega
        · obtain rfl : j = 8 := by omega
          rw [List.take_of_length_le (by rw [bytesOf_length]; omega)] at ho
          have hcv := own_string (P := Try.prog) wr 34 9 5 wz.heap.size u6 _ _ Try.underlying34 Try.underlying5 Try.underlying9 ho
          have KF := hid (KC.out.2.1.trans (hbq.mono KC.out.2.1.size))
          clear ho hbq hown hb
          rw [KC.out.2.2] at hcv
          go_wp2_with fail
          go_ret
          exact ⟨rfl, KF.out⟩
end Go.Proofs.Ytijohbohdceggaa
