/- lexer: the reference's skip walked. -/
import Derived.Test.YtmgmmbikdmobpaaGreatDoorLyK
namespace Go.Proofs.YtmgmmbikdmobpaaGreatDoor
open Go.RowKit

theorem byte_ne {b v : UInt8} (h : ¬ b = v) : b.toNat ≠ v.toNat := fun e => h (UInt8.toNat_inj.1 e)
set_option maxRecDepth 100000 in
set_option maxHeartbeats 16000000 in
theorem rskip_any (s : ByteArray) (p : Nat) (w : World) (hs : s.size ≤ 1000000) (hp : p ≤ s.size) :
    Calls Tryz.prog 15 #[.string s, .int .i64 (p : Int)] w fun e w' => e = .returned (.int .i64 (sep (s.data.toList.drop p) : Int)) ∧ w' = w := by
  rw [← skF_sep]
  generalize hX : skF false (s.data.toList.drop p) = X
  have HX := hid hX
  clear hX
  go_enter Tryz.func15, Tryz.ntmps15
  go_wp2_with fail
  go_loopw [5, 6] (fun v i wr => ∃ (k : Nat) (c : Bool), p + k ≤ s.size ∧ v = .bool c ∧ i = .int .i64 (k : Int) ∧ X = k + skF c (s.data.toList.drop (p + k)) ∧ wr = w) (fun _ i _ => s.size - p - (intOf i).toNat)
  case atStart => exact ⟨0, false, by omega, rfl, rfl, by rw [← HX.out]; simp, rfl⟩
  case round =>
    obtain ⟨k, c, hk, rfl, rfl, hX, rfl⟩ := hrel
    clear HX
    by_cases hlt : p + k < s.size
    · have hix := run_index_str s (p + k) hlt
      have hix2 := run_index_str s (p + k + 1)
      have hat := skF_at s (p + k) hlt c
      rw [hat] at hX
      clear hat
      rw [Int.natCast_add] at hix
      rw [Int.natCast_add, Int.natCast_add, show ((1 : Nat) : Int) = 1 from rfl] at hix2
      have hbl := (s.data.toList.getD (p + k) 0).toNat_lt
      generalize s.data.toList.getD (p + k) 0 = b at hix hX hbl
      generalize s.data.toList.getD (p + k + 1) 0 = d at hix2 hX
      have hx1 : s.data.toList.drop (p + k + 1) = s.data.toList.drop (p + (k + 1)) := by rw [Nat.add_assoc]
      rw [hx1] at hX
      clear hx1
      generalize hZ : s.data.toList.drop (p + (k + 1)) = Z at hX
      have HZ := hid hZ
      clear hZ
      cases c with
      | true =>
        rw [if_pos rfl] at hX
        clear hix2
        by_cases h10 : b = 10
        · subst h10
          rw [show (10 : UInt8).toNat = 10 from rfl] at hix
          have HY : Kpt (X = k + (1 + skF false Z)) := hid hX
          clear hX
          go_wp2_with fail
          go_roundw
          case rel => exact ⟨k + 1, false, by omega, rfl, by go_num, by rw [HZ.out, HY.out]; omega, trivial⟩
          case measure => simp [intOf]; omega
        · have hb : ((b.toNat : Int) != 10) = true := by rw [bne_iff_ne]; have hn0 : b.toNat ≠ 10 := byte_ne h10; omega
          have hb2 : (!(b == 10)) = true := by simp [h10]
          rw [hb2] at hX
          have HY := hid hX
          clear hX hb2 h10
          go_wp2_with fail
          go_roundw
          case rel => exact ⟨k + 1, true, by omega, rfl, by go_num, by rw [HZ.out, HY.out]; omega, trivial⟩
          case measure => simp [intOf]; omega
      | false =>
        rw [if_neg (Bool.false_ne_true : ¬ (false = true))] at hX
        by_cases h47 : b = 47
        · subst h47
          rw [show (47 : UInt8).toNat = 47 from rfl] at hix
          by_cases hn : p + k + 1 < s.size
          · have hix3 := hix2 hn
            clear hix2
            by_cases hd : d = 47
            · subst hd
              rw [if_pos ⟨rfl, hn, rfl⟩] at hX
              rw [show (47 : UInt8).toNat = 47 from rfl] at hix3
              have HY := hid hX
              clear hX
              go_wp2_with fail
              go_roundw
              case rel => exact ⟨k + 1, true, by omega, rfl, by go_num, by rw [HZ.out, HY.out]; omega, trivial⟩
              case measure => simp [intOf]; omega
            · rw [if_neg (fun h => hd h.2.2), if_neg (by decide)] at hX
              have hdb : ((d.toNat : Int) == 47) = false := by rw [beq_eq_false_iff_ne]; have hn0 : d.toNat ≠ 47 := byte_ne hd; omega
              have HY := hid hX
              clear hX hd
              go_wp2_with fail
              go_ret
              exact ⟨by rw [HY.out]; rfl, rfl⟩
          · rw [if_neg (fun h => hn h.2.1), if_neg (by decide)] at hX
            have HY := hid hX
            clear hX hix2
            go_wp2_with fail
            go_ret
            exact ⟨by rw [HY.out]; rfl, rfl⟩
        · rw [if_neg (fun h => h47 h.1)] at hX
          clear hix2
          have hb47 : ((b.toNat : Int) == 47) = false := by rw [beq_eq_false_iff_ne]; have hn0 : b.toNat ≠ 47 := byte_ne h47; omega
          clear h47
          generalize b.toNat = q at hix hX hbl hb47
          by_cases b32 : q = 32
          · subst b32
            rw [if_pos (by decide)] at hX
            have HY := hid hX
            clear hX
            go_wp2_with fail
            go_roundw
            case rel => exact ⟨k + 1, false, by omega, rfl, by go_num, by rw [HZ.out, HY.out]; omega, trivial⟩
            case measure => simp [intOf]; omega
          have n32 : ((q : Int) != 32) = true := by rw [bne_iff_ne]; omega
          by_cases b9 : q = 9
          · subst b9
            rw [if_pos (by decide)] at hX
            have HY := hid hX
            clear hX
            go_wp2_with fail
            go_roundw
            case rel => exact ⟨k + 1, false, by omega, rfl, by go_num, by rw [HZ.out, HY.out]; omega, trivial⟩
            case measure => simp [intOf]; omega
          have n9 : ((q : Int) != 9) = true := by rw [bne_iff_ne]; omega
          by_cases b10 : q = 10
          · subst b10
            rw [if_pos (by decide)] at hX
            have HY := hid hX
            clear hX
            go_wp2_with fail
            go_roundw
            case rel => exact ⟨k + 1, false, by omega, rfl, by go_num, by rw [HZ.out, HY.out]; omega, trivial⟩
            case measure => simp [intOf]; omega
          have n10 : ((q : Int) != 10) = true := by rw [bne_iff_ne]; omega
          by_cases b13 : q = 13
          · subst b13
            rw [if_pos (by decide)] at hX
            have HY := hid hX
            clear hX
            go_wp2_with fail
            go_roundw
            case rel => exact ⟨k + 1, false, by omega, rfl, by go_num, by rw [HZ.out, HY.out]; omega, trivial⟩
            case measure => simp [intOf]; omega
          have n13 : ((q : Int) != 13) = true := by rw [bne_iff_ne]; omega
          rw [if_neg (by unfold isBl; simp; omega)] at hX
          have HY := hid hX
          clear hX b32 b9 b10 b13
          go_wp2_with fail
          go_ret
          exact ⟨by rw [HY.out]; rfl, rfl⟩
    · have he : skF c (s.data.toList.drop (p + k)) = 0 := by rw [List.drop_of_length_le (by rw [size_list]; omega)]; cases c <;> rfl
      rw [he] at hX
      have HY := hid hX
      clear hX he
      go_wp2_with fail
      go_ret
      exact ⟨by rw [HY.out]; rfl, rfl⟩
end Go.Proofs.YtmgmmbikdmobpaaGreatDoor
