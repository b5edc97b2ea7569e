/- CodecCuts: the walk. -/
import Derived.Test.YtoimmmcmlbaenaaCRet
namespace Go.Proofs.Ytoimmmcmlbaenaa
open Go.RowKit

theorem Reader_other {w w' : World} {g h : Nat} {s : ByteArray} {e : Int} (hR : ReaderIs w h s e) (hg : w.grownBy w' (some g)) (hne : h ≠ g) : ReaderIs w' h s e :=
  (gb_heap hg (Reader_lt hR) hne).trans hR
theorem isEmpty_of_size {s : ByteArray} (h : 0 < s.size) : s.toList.isEmpty = false := by
  rw [ByteArray.toList_eq]
  cases hl : s.data.toList with
  | nil => have := size_list' s; rw [hl] at this; simp at this; omega
  | cons a l => rfl
theorem take_split (l : List UInt8) (k : Nat) (hk : k < l.length) : l = l.take k ++ l.drop k ∧ l.drop k ≠ [] :=
  ⟨(List.take_append_drop k l).symm, fun e => by have := congrArg List.length e; rw [List.length_drop, List.length_nil] at this; omega⟩

set_option maxRecDepth 100000 in
set_option maxHeartbeats 2000000 in
theorem cuts_any (vl : Value) (ps : List ByteArray) (n : Int) (c : Nat) (w : World) (hn : (Lit.int .i64 n).wf = true) (hc : c < 65536) (hv : StrN w vl ps) (hb : ps.length + sizes ps ≤ 1048576) :
    Calls Try.prog 8 #[vl, .int .i64 n, .int .u16 (c : Int)] w
      fun e w' => e = .returned (.bool true) ∧ Below w.heap.size w w' := by
  obtain ⟨hn0, hn1⟩ := wf_i64 hn
  have hel := encUs_bound ps (by omega)
  have htl : (encT ps).length ≤ 10 + (10 * ps.length + sizes ps) := by unfold encT; rw [List.length_append]; have := uvL_ten ps.length (by omega); omega
  have htp : 0 < (encT ps).length := by unfold encT; rw [List.length_append]; have := uvL_pos ps.length; omega
  have hzl := uvL_ten (zig n) (zig_lt n hn0 hn1)
  have hzp := uvL_pos (zig n)
  obtain ⟨L, hL⟩ : ∃ L, L = ba (encT ps) := ⟨_, rfl⟩
  obtain ⟨T, hT⟩ : ∃ T, T = ba (uvL (zig n)) := ⟨_, rfl⟩
  have cL : ∀ w, StrN w vl ps → Calls Try.prog 18 #[vl] w fun e w' => e = .returned (.string L) ∧ Below w.heap.size w w' := fun w h => by rw [hL]; exact ctexts_any vl ps w (StrN_S h) (by omega) (by omega)
  have cT : ∀ w, Calls Try.prog 14 #[.int .i64 n] w fun e w' => e = .returned (.string T) ∧ Below w.heap.size w w' := fun w => by rw [hT]; exact cint_any n w hn0 hn1
  have zL : 0 < L.size := by rw [hL, ba_size]; exact htp
  have zT : 0 < T.size := by rw [hT, ba_size]; exact hzp
  have zLm : L.size ≤ 1099511627776 := by rw [hL, ba_size]; omega
  have zTm : T.size ≤ 1099511627776 := by rw [hT, ba_size]; omega
  obtain ⟨k, hk⟩ : ∃ k, k = c % L.size := ⟨_, rfl⟩
  obtain ⟨j, hj⟩ : ∃ j, j = c % T.size := ⟨_, rfl⟩
  have hkl : k < L.size := by rw [hk]; exact Nat.mod_lt _ zL
  have hjl : j < T.size := by rw [hj]; exact Nat.mod_lt _ zT
  have r1 : ∃ A, rTexts (upB L k) 0 = ([], A, 9) := by
    have hkl2 : k < (encT ps).length := by rw [hL, ba_size] at hkl; exact hkl
    obtain ⟨e1, e2⟩ := take_split (encT ps) k hkl2
    obtain ⟨f1, f2⟩ := rTexts_cut (fun x hx => by have := mem_sizes hx; omega) (by omega) e1 e2
    have e3 : upB L k = ba ((encT ps).take k) := by rw [upB_take, hL, ba_list]
    rw [e3]
    exact ⟨(rTexts (ba ((encT ps).take k)) 0).2.1, Prod.ext f1 (Prod.ext rfl f2)⟩
  obtain ⟨A, r1⟩ := r1
  have r2 : rInt (upB T j) 0 = (0, upB T j, 9) := by
    have hjl2 : j < (uvL (zig n)).length := by rw [hT, ba_size] at hjl; exact hjl
    obtain ⟨e1, e2⟩ := take_split (uvL (zig n)) j hjl2
    have e3 : upB T j = ba ((uvL (zig n)).take j) := by rw [upB_take, hT, ba_list]
    rw [e3]
    unfold rInt
    rw [rNum_cut e1 e2 (zig_lt n hn0 hn1), show zag (0, ba ((uvL (zig n)).take j), (9 : Int)).1 = 0 by show zag 0 = 0; decide]
  have zA : (upB L k).size ≤ 1099511627776 := by unfold upB; rw [ByteArray.size_extract]; omega
  have zB : (upB T j).size ≤ 1099511627776 := by unfold upB; rw [ByteArray.size_extract]; omega
  have m1 : (c : Int) % (L.size : Int) = (k : Int) := by rw [hk]; omega
  have m2 : (c : Int) % (T.size : Int) = (j : Int) := by rw [hj]; omega
  have q : IntKind.i64.wrap (c : Int) = (c : Int) := by rw [IntKind.wrap_i64]; omega
  have eL := isEmpty_of_size zL
  have eT := isEmpty_of_size zT
  have HC := hid (And.intro cL (And.intro cT (And.intro r1 (And.intro r2 (And.intro zA zB)))))
  have HV := hid hv
  have hv0 := StrN_S hv
  obtain ⟨base, cap, rfl, _⟩ := hv0
  clear hn hel htl htp hzl hzp hL hT cL cT hk hj r1 r2 zA zB hv
  go_enter Try.func8, Try.ntmps8
  go_wp2_with fail
  refine (awake_any w).mono ?_
  rintro e w1 ⟨rfl, hb1⟩
  have K1 := hid hb1
  clear hb1
  have htot : tot ps.length ps = ((ps.length + sizes ps : Nat) : Int) := tot_sum _ _ (by omega)
  have hfew := few_any _ ps w1 (StrN_S (StrN_below HV.out K1.out)) (by omega)
  rw [htot] at hfew
  clear htot
  have HF := hid hfew
  clear hfew
  go_wp2_with fail
  refine HF.out.mono ?_
  rintro e w2 ⟨rfl, rfl⟩
  by_cases hle : ((ps.length + sizes ps : Nat) : Int) ≤ 2000
  · rw [decide_eq_true hle]
    clear hle HF
    go_wp2_with fail
    refine (HC.out.1 _ (StrN_below HV.out K1.out)).mono ?_
    rintro e w3 ⟨rfl, hb3⟩
    have K3 := hid (K1.out.trans (hb3.mono K1.out.size))
    clear hb3
    go_wp2_with fail
    refine (cnew_any _ w3).mono ?_
    rintro e w4 ⟨rfl, hR4, hb4⟩
    have hR4' : ReaderIs w4 w3.heap.size (upB L k) 0 := hR4
    have hGw := K3.out.size
    have hb4w := K3.out.trans (hb4.mono K3.out.size)
    generalize w3.heap.size = G at hR4' hGw ⊢
    have K4 := hid (And.intro hb4w (And.intro hR4' hGw))
    clear hb4 hb4w hR4 hR4' hGw
    go_wp2_with fail
    refine (HC.out.2.1 w4).mono ?_
    rintro e w5 ⟨rfl, hb5⟩
    have K5 := hid (And.intro (K4.out.1.trans (hb5.mono K4.out.1.size)) (ReaderIs_below K4.out.2.1 hb5))
    clear hb5
    go_wp2_with fail
    refine (cnew_any _ w5).mono ?_
    rintro e w6 ⟨rfl, hR6, hb6⟩
    have hR6' : ReaderIs w6 w5.heap.size (upB T j) 0 := hR6
    have hHw := K5.out.1.size
    have hGH := Reader_lt K5.out.2
    have hb6w := K5.out.1.trans (hb6.mono K5.out.1.size)
    have hRG := ReaderIs_below K5.out.2 hb6
    generalize w5.heap.size = H at hR6' hHw hGH ⊢
    have K6 := hid (And.intro hb6w (And.intro hRG (And.intro hR6' (And.intro hHw hGH))))
    clear hb6 hb6w hR6 hR6' hHw hGH hRG
    have hc7 := crtexts_any G _ _ w6 K6.out.2.1 HC.out.2.2.2.2.1
    rw [HC.out.2.2.1] at hc7
    have HC7 := hid hc7
    clear hc7
    go_wp2_with fail
    refine HC7.out.mono ?_
    rintro e w7 ⟨⟨v, rfl, ho⟩, hR7, hg7⟩
    obtain ⟨b7, cap7, rfl⟩ := own_slice ho
    have K7 := hid (And.intro (K6.out.1.trans (below_of_gb hg7 K6.out.1.size K4.out.2.2)) (And.intro hR7 (Reader_other K6.out.2.2.1 hg7 (by have := K6.out.2.2.2.2; omega))))
    clear ho hR7 hg7
    go_wp2_with fail
    refine (cerror_any G _ _ _ K7.out.2.1).mono ?_
    rintro e w8 ⟨rfl, rfl⟩
    go_wp2_with fail
    refine (cend_any G _ _ _ K7.out.2.1).mono ?_
    rintro e w9 ⟨rfl, rfl⟩
    rw [show endV A 9 = 9 from if_neg (by decide)]
    have hc10 := crint_any H _ _ _ K7.out.2.2 (by have := HC.out.2.2.2.2.2; omega)
    rw [HC.out.2.2.2.1] at hc10
    have HC10 := hid hc10
    clear hc10
    go_wp2_with fail
    refine HC10.out.mono ?_
    rintro e w10 ⟨rfl, hR10, hg10⟩
    have K10 := hid (And.intro (K7.out.1.trans (below_of_gb hg10 K7.out.1.size K6.out.2.2.2.1)) hR10)
    clear hR10 hg10
    go_wp2_with fail
    refine (cerror_any H _ _ _ K10.out.2).mono ?_
    rintro e w11 ⟨rfl, rfl⟩
    go_wp2_with fail
    go_ret
    exact ⟨rfl, K10.out.1⟩
  · rw [decide_eq_false hle]
    clear hle
    go_wp2_with fail
    go_ret
    exact ⟨rfl, K1.out⟩
theorem cuts_all (vl : Value) (ps : List ByteArray) (n c : Int) (w : World) (hn : (Lit.int .i64 n).wf = true) (hc : (Lit.int .u16 c).wf = true) (hv : StrN w vl ps) (hb : ps.length + sizes ps ≤ 1048576) :
    Calls Try.prog 8 #[vl, .int .i64 n, .int .u16 c] w
      fun e w' => e = .returned (.bool true) ∧ Below w.heap.size w w' := by
  have h3 : (decide (0 ≤ c) && decide (c ≤ 65535)) = true := hc
  have h4 : 0 ≤ c ∧ c ≤ 65535 := by simpa using h3
  obtain ⟨k, rfl⟩ := Int.eq_ofNat_of_zero_le h4.1
  exact cuts_any vl ps n k w hn (by omega) hv hb
end Go.Proofs.Ytoimmmcmlbaenaa
