/- lexer: LexerLines. -/
import Derived.Test.YtmgmmbikdmobpaaDoorLxAw
namespace Go.Proofs.YtmgmmbikdmobpaaDoor
open Go.RowKit

set_option maxRecDepth 100000 in
set_option maxHeartbeats 4000000 in
theorem lines_law (s : ByteArray) (o : Nat) (w : World) (hE : Env w) (h1 : o ≤ 65535) :
    Calls Tryd.prog 9 #[.string s, .int .u16 (o : Int)] w fun e w' => e = .returned (.bool true) ∧ Below w.heap.size w w' := by
  by_cases hbig : 1000 < s.size
  · go_enter Tryd.func9, Tryd.ntmps9
    go_wp2_with fail
    refine (awake_any w hE).mono ?_
    rintro e w1 ⟨rfl, hb1⟩
    go_wp2_with fail
    go_ret
    exact ⟨rfl, hb1⟩
  · obtain ⟨k, hkd⟩ : ∃ k, k = o % (s.size + 1) := ⟨_, rfl⟩
    have hk : k ≤ s.size := by rw [hkd]; exact Nat.le_of_lt_succ (Nat.mod_lt o (Nat.succ_pos s.size))
    have hmod : (o : Int) % ((s.size : Int) + 1) = (k : Int) := by rw [hkd, Int.natCast_emod, Int.natCast_add]; rfl
    have hpos := fun w => position_any s (k : Int) w (by omega) (by omega) (by omega)
    have hoff : offK (k : Int) s.size = k := by unfold offK; omega
    have hlist : (s.extract 0 k).data.toList = s.data.toList.take k := by rw [upto_bytes, mk_list]
    have hsz : (s.extract 0 k).size = k := by rw [ByteArray.size_extract]; omega
    rw [hoff, ← hlist] at hpos
    obtain ⟨p1, p2⟩ := posL_all (s.extract 0 k)
    have hc := fun w => Tryd.strings_Count_one (s.extract 0 k) 10 w
    have hx := fun w => Tryd.strings_LastIndexByte (s.extract 0 k) 10 (by omega) w
    have hcl : Lib.countByte (s.extract 0 k).data.toList 10 ≤ k := by
      have h : (s.extract 0 k).data.toList.count 10 ≤ (s.extract 0 k).data.toList.length := List.count_le_length
      unfold Lib.countByte
      rw [size_list, hsz] at h; exact h
    have hxl : -1 ≤ Lib.lastIndexByte (s.extract 0 k) 10 ∧ Lib.lastIndexByte (s.extract 0 k) 10 ≤ k := by
      rcases Lib.lastIndexByte_spec (s.extract 0 k) 10 with ⟨h, _⟩ | ⟨i, hi, h, _⟩ <;> rw [h] <;> omega
    rw [hsz] at p2
    rw [← p1, ← p2] at hpos
    clear p1 p2 hoff hlist hkd
    generalize Lib.countByte (s.extract 0 k).data.toList 10 = c at hc hpos hcl
    generalize Lib.lastIndexByte (s.extract 0 k) 10 = x at hx hpos hxl
    obtain ⟨hx1, hx2⟩ := hxl
    have K1 := hid hpos
    have K2 := hid hc
    have K3 := hid hx
    clear hpos hc hx hsz
    go_enter Tryd.func9, Tryd.ntmps9
    go_wp2_with fail
    refine (awake_any w hE).mono ?_
    rintro e w1 ⟨rfl, hb1⟩
    have KB := hid hb1
    clear hb1
    go_wp2_with fail
    refine (K1.out w1).mono ?_
    rintro e w2 ⟨rfl, rfl⟩
    go_wp2_with fail
    refine (K2.out _).mono ?_
    rintro e w3 ⟨rfl, rfl⟩
    go_wp2_with fail
    refine (K3.out _).mono ?_
    rintro e w4 ⟨rfl, rfl⟩
    have heq : (1 + (k : Int) - (x + 1) : Int) = k - x := by omega
    go_wp2_with fail
    go_ret
    exact ⟨by simp, KB.out⟩
theorem lines_law2 (s : ByteArray) (a : Int) (w : World) (hE : Env w) (h : (Lit.int .u16 a).wf = true) :
    Calls Tryd.prog 9 #[.string s, .int .u16 a] w fun e w' => e = .returned (.bool true) ∧ Below w.heap.size w w' := by
  have h2 : 0 ≤ a ∧ a ≤ 65535 := by
    have h3 : (decide (0 ≤ a) && decide (a ≤ 65535)) = true := h
    simpa using h3
  obtain ⟨o, rfl⟩ : ∃ o : Nat, a = (o : Int) := ⟨a.toNat, by omega⟩
  exact lines_law s o w hE (by omega)
end Go.Proofs.YtmgmmbikdmobpaaDoor
