/- Sha256Clones: the walk. -/
import Derived.Test.YtijohbohdceggaaFew
import Derived.Test.YtijohbohdceggaaAwake
namespace Go.Proofs.Ytijohbohdceggaa
open Go.RowKit

theorem size_list (s : ByteArray) : s.data.toList.length = s.size := by rw [Array.length_toList]; rfl
theorem append_bytes (s t : ByteArray) : (s ++ t).data.toList = s.data.toList ++ t.data.toList := by rw [ByteArray.data_append]; simp

set_option maxRecDepth 100000 in
set_option maxHeartbeats 1000000 in
theorem clones_any (s a b : ByteArray) (w : World) (hs : s.size < 140737488355328) (ha : a.size < 140737488355328) (hb : b.size < 140737488355328) :
    Calls Try.prog 8 #[.string s, .string a, .string b] w
      fun e w' => e = .returned (.bool true) ∧ Below w.heap.size w w' := by
  go_enter Try.func8, Try.ntmps8
  go_wp2_with fail
  refine (awake_any w).mono ?_
  rintro e w1 ⟨rfl, hb1⟩
  go_wp2_with fail
  have hb2 : Below w.heap.size w (w1.alloc (.cells #[.string s, .string a, .string b] 9)) := hb1.alloc hb1.size _
  have hst : StrS (w1.alloc (.cells #[.string s, .string a, .string b] 9)) (.slice (some ⟨w1.heap.size, 0, none⟩) 3 3) [s, a, b] := by
    refine ⟨some ⟨w1.heap.size, 0, none⟩, 3, rfl, fun i hi => ⟨w1.heap.size, 0, rfl, ?_⟩⟩
    obtain rfl | rfl | rfl : i = 0 ∨ i = 1 ∨ i = 2 := by simp at hi; omega
    all_goals simp [go_sem]
  have hfew := few_any _ _ _ hst (by show 3 < _; omega)
  have htot : tot [s, a, b].length [s, a, b] = ((3 + (s.size + (a.size + (b.size + 0))) : Nat) : Int) := tot_sum [s, a, b] 3 (by show 3 + (s.size + (a.size + (b.size + 0))) < _; omega)
  rw [htot] at hfew
  generalize w1.alloc (.cells #[.string s, .string a, .string b] 9) = w2 at hb2 hfew
  clear hst htot
  refine hfew.mono ?_
  rintro e w3 ⟨rfl, rfl⟩
  clear hb1 hfew
  by_cases hle : ((3 + (s.size + (a.size + (b.size + 0))) : Nat) : Int) ≤ 2000
  · have hd : decide (((3 + (s.size + (a.size + (b.size + 0))) : Nat) : Int) ≤ 2000) = true := decide_eq_true hle
    rw [hd]
    have hsz : s.size + a.size + b.size < 4096 := by omega
    clear hd hle hs ha hb
    go_wp2_with fail
    refine (new_any w3).mono ?_
    rintro e w4 ⟨rfl, hH4, hb4⟩
    have hbw4 := hb2.trans (hb4.mono hb2.size)
    obtain ⟨G, hG⟩ : ∃ G, G = w3.heap.size := ⟨_, rfl⟩
    have hGw : w.heap.size ≤ G := by rw [hG]; exact hb2.size
    rw [← hG] at hH4 ⊢
    clear hG hb4 hb2
    go_wp2_with fail
    refine (write_any G [] s w4 hH4 (by simp; omega)).mono ?_
    rintro e w5 ⟨rfl, hH5, hg5⟩
    have hbw5 : Below w.heap.size w w5 := hbw4.trans (below_of_gb hg5 hbw4.size hGw)
    replace hH5 : HashIs w5 G s.data.toList := hH5
    clear hH4 hg5 hbw4
    go_wp2_with fail
    refine (clone_any G _ w5 hH5).mono ?_
    rintro e w6 ⟨rfl, hK6, hb6⟩
    have hH6 := HashIs_below hH5 hb6
    have hbw6 := hbw5.trans (hb6.mono hbw5.size)
    have hGK : G < w5.heap.size := HashIs_lt hH5
    have hKw : w.heap.size ≤ w5.heap.size := hbw5.size
    generalize w5.heap.size = K at hK6 hGK hKw ⊢
    clear hH5 hb6 hbw5
    go_wp2_with fail
    refine (sum_any K _ w6 hK6 (by rw [size_list]; omega)).mono ?_
    rintro e w7 ⟨rfl, hb7⟩
    have hH7 := HashIs_below hH6 hb7
    have hK7 := HashIs_below hK6 hb7
    have hbw7 := hbw6.trans (hb7.mono hbw6.size)
    clear hH6 hK6 hb7 hbw6
    go_wp2_with fail
    refine (sum_any G _ w7 hH7 (by rw [size_list]; omega)).mono ?_
    rintro e w8 ⟨rfl, hb8⟩
    have hH8 := HashIs_below hH7 hb8
    have hK8 := HashIs_below hK7 hb8
    have hbw8 := hbw7.trans (hb8.mono hbw7.size)
    clear hH7 hK7 hb8 hbw7
    go_wp2_with fail
    refine (write_any G _ a w8 hH8 (by rw [size_list]; omega)).mono ?_
    rintro e w9 ⟨rfl, hH9, hg9⟩
    have hK9 := HashIs_cell hK8 (gb_heap hg9 (HashIs_lt hK8) (by omega))
    have hbw9 := hbw8.trans (below_of_gb hg9 hbw8.size hGw)
    clear hH8 hK8 hg9 hbw8
    go_wp2_with fail
    refine (write_any K _ b w9 hK9 (by rw [size_list]; omega)).mono ?_
    rintro e w10 ⟨rfl, hK10, hg10⟩
    have hH10 := HashIs_cell hH9 (gb_heap hg10 (HashIs_lt hH9) (by omega))
    have hbw10 := hbw9.trans (below_of_gb hg10 hbw9.size hKw)
    clear hH9 hK9 hg10 hbw9
    go_wp2_with fail
    refine (sum_any G _ w10 hH10 (by rw [List.length_append, size_list, size_list]; omega)).mono ?_
    rintro e w11 ⟨rfl, hb11⟩
    have hK11 := HashIs_below hK10 hb11
    have hbw11 := hbw10.trans (hb11.mono hbw10.size)
    have hsa := sha_any (s ++ a) w11 (by rw [ByteArray.size_append]; omega)
    rw [append_bytes] at hsa
    generalize sha (s.data.toList ++ a.data.toList) = d1 at hsa
    clear hH10 hK10 hb11 hbw10
    go_wp2_with fail
    refine hsa.mono ?_
    rintro e w12 ⟨rfl, hb12⟩
    have hK12 := HashIs_below hK11 hb12
    have hbw12 := hbw11.trans (hb12.mono hbw11.size)
    clear hK11 hb12 hbw11 hsa
    go_wp2_with fail
    refine (sum_any K _ w12 hK12 (by rw [List.length_append, size_list, size_list]; omega)).mono ?_
    rintro e w13 ⟨rfl, hb13⟩
    have hbw13 := hbw12.trans (hb13.mono hbw12.size)
    have hsb := sha_any (s ++ b) w13 (by rw [ByteArray.size_append]; omega)
    rw [append_bytes] at hsb
    generalize sha (s.data.toList ++ b.data.toList) = d2 at hsb
    clear hK12 hb13 hbw12
    go_wp2_with fail
    refine hsb.mono ?_
    rintro e w14 ⟨rfl, hb14⟩
    have KC := hid (hbw13.trans (hb14.mono hbw13.size))
    clear hsb hbw13 hb14
    go_wp2_with fail
    go_ret
    exact ⟨rfl, KC.out⟩
  · have hd : decide (((3 + (s.size + (a.size + (b.size + 0))) : Nat) : Int) ≤ 2000) = false := decide_eq_false hle
    rw [hd]
    have KC := hid hb2
    clear hd hle hs ha hb hb2
    go_wp2_with fail
    go_ret
    exact ⟨rfl, KC.out⟩
end Go.Proofs.Ytijohbohdceggaa
