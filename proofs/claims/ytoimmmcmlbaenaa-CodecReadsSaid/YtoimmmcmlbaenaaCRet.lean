/- CodecReturns: the walk. -/
import Derived.Test.YtoimmmcmlbaenaaAwBw
import Derived.Test.YtoimmmcmlbaenaaBulkB
namespace Go.Proofs.Ytoimmmcmlbaenaa
open Go.RowKit

theorem sizes_append (ps qs : List ByteArray) : sizes (ps ++ qs) = sizes ps + sizes qs := by unfold sizes; rw [List.map_append, List.sum_append]
theorem encU_len (s : ByteArray) (h : s.size < 18446744073709551616) : (encU s).length ≤ 10 + s.size := by unfold encU; rw [List.length_append, size_list]; have := uvL_ten s.size h; omega
theorem encUs_bound (ps : List ByteArray) (h : sizes ps < 18446744073709551616) : (encUs ps).length ≤ 10 * ps.length + sizes ps := by
  induction ps with
  | nil => simp [encUs_nil]
  | cons s ps ih =>
    rw [sizes_cons] at h ⊢
    rw [encUs_cons, List.length_append, List.length_cons]
    have := encU_len s (by omega)
    have := ih (by omega)
    omega
theorem mem_sizes {s : ByteArray} {ps : List ByteArray} (h : s ∈ ps) : s.size ≤ sizes ps := by
  induction ps with
  | nil => cases h
  | cons p ps ih =>
    rw [sizes_cons]
    cases List.mem_cons.1 h with
    | inl e => rw [e]; omega
    | inr e => have := ih e; omega
theorem ba_append (a b : List UInt8) : ba a ++ ba b = ba (a ++ b) := by
  apply ByteArray.ext; rw [ByteArray.data_append]; simp [ba]

set_option maxRecDepth 100000 in
set_option maxHeartbeats 2000000 in
theorem returns_nat (n : Nat) (m : Int) (s : ByteArray) (vl : Value) (ps : List ByteArray) (rest : ByteArray) (w : World) (hn : n < 9223372036854775808) (hm0 : -9223372036854775808 ≤ m) (hm1 : m ≤ 9223372036854775807) (hv : StrN w vl ps) (hb : s.size + rest.size + ps.length + sizes ps ≤ 1048576) :
    Calls Try.prog 5 #[.int .i64 (n : Int), .int .i64 m, .string s, vl, .string rest] w
      fun e w' => e = .returned (.bool true) ∧ Below w.heap.size w w' := by
  have hten := uvL_ten n (by omega)
  have hsz := encU_len s (by omega)
  have hel := encUs_bound ps (by omega)
  have htl : (encT ps).length ≤ 10 + (10 * ps.length + sizes ps) := by unfold encT; rw [List.length_append]; have := uvL_ten ps.length (by omega); omega
  have hzl := uvL_ten (zig m) (zig_lt m hm0 hm1)
  obtain ⟨U, hU⟩ : ∃ U, U = ba (uvL n) := ⟨_, rfl⟩
  obtain ⟨I, hI⟩ : ∃ I, I = ba (uvL (zig m)) := ⟨_, rfl⟩
  obtain ⟨T, hT⟩ : ∃ T, T = ba (encU s) := ⟨_, rfl⟩
  obtain ⟨L, hL⟩ : ∃ L, L = ba (encT ps) := ⟨_, rfl⟩
  have cU : ∀ w, Calls Try.prog 12 #[.int .i64 (n : Int)] w fun e w' => e = .returned (.tuple #[.string U, .int .i64 0]) ∧ Below w.heap.size w w' := fun w => by rw [hU]; exact cuint_nat n w hn
  have cI : ∀ w, Calls Try.prog 14 #[.int .i64 m] w fun e w' => e = .returned (.string I) ∧ Below w.heap.size w w' := fun w => by rw [hI]; exact cint_any m w hm0 hm1
  have cT : ∀ w, Calls Try.prog 16 #[.string s] w fun e w' => e = .returned (.string T) ∧ Below w.heap.size w w' := fun w => by rw [hT]; exact ctext_any s w (by omega)
  have cL : ∀ w, StrN w vl ps → Calls Try.prog 18 #[vl] w fun e w' => e = .returned (.string L) ∧ Below w.heap.size w w' := fun w h => by rw [hL]; exact ctexts_any vl ps w (StrN_S h) (by omega) (by omega)
  have zU : U.size ≤ 10 := by rw [hU, ba_size]; exact hten
  have zI : I.size ≤ 10 := by rw [hI, ba_size]; exact hzl
  have zT : T.size ≤ 10 + s.size := by rw [hT, ba_size]; exact hsz
  have zL : L.size ≤ 10 + (10 * ps.length + sizes ps) := by rw [hL, ba_size]; exact htl
  have hall : U ++ I ++ T ++ L ++ rest = ba (uvL n ++ (uvL (zig m) ++ (encU s ++ (encT ps ++ rest.data.toList)))) := by
    rw [hU, hI, hT, hL, ← ba_eta rest, ba_append, ba_append, ba_append, ba_append, ba_list, List.append_assoc, List.append_assoc, List.append_assoc]
  have hbig : (ba (uvL n ++ (uvL (zig m) ++ (encU s ++ (encT ps ++ rest.data.toList))))).size ≤ 1099511627776 := by
    rw [ba_size]; simp only [List.length_append, size_list']; omega
  have r0 : rCount 9223372036854775807 (ba (uvL n ++ (uvL (zig m) ++ (encU s ++ (encT ps ++ rest.data.toList))))) 0 = ((n : Int), ba (uvL (zig m) ++ (encU s ++ (encT ps ++ rest.data.toList))), 0) := rCount_uv _ n _ hn (by omega)
  have r1 : rInt (ba (uvL (zig m) ++ (encU s ++ (encT ps ++ rest.data.toList)))) 0 = (m, ba (encU s ++ (encT ps ++ rest.data.toList)), 0) := rInt_uv m _ hm0 hm1
  have r2 : rText (ba (encU s ++ (encT ps ++ rest.data.toList))) 0 = (s, ba (encT ps ++ rest.data.toList), 0) := rText_enc s _ (by omega)
  have r3 : rTexts (ba (encT ps ++ rest.data.toList)) 0 = (ps, rest, 0) := by
    rw [rTexts_enc ps _ (fun x hx => by have := mem_sizes hx; omega) (by omega), ba_eta]
  have z1 : (ba (encT ps ++ rest.data.toList)).size ≤ 1099511627776 := by rw [ba_size]; simp only [List.length_append, size_list']; omega
  have z2 : (ba (encU s ++ (encT ps ++ rest.data.toList))).size ≤ 1099511627776 := by rw [ba_size]; simp only [List.length_append, size_list']; omega
  have z3 : (ba (uvL (zig m) ++ (encU s ++ (encT ps ++ rest.data.toList)))).size ≤ 1099511627776 := by rw [ba_size]; simp only [List.length_append, size_list']; omega


  clear hten hsz hel htl hzl hU hI hT hL
  generalize ba (encT ps ++ rest.data.toList) = A3 at r2 r3 z1
  generalize ba (encU s ++ (encT ps ++ rest.data.toList)) = A2 at r1 r2 z2
  generalize ba (uvL (zig m) ++ (encU s ++ (encT ps ++ rest.data.toList))) = A1 at r0 r1 z3
  generalize ba (uvL n ++ (uvL (zig m) ++ (encU s ++ (encT ps ++ rest.data.toList)))) = A0 at hall hbig r0
  have R := hid (And.intro hall (And.intro hbig (And.intro r0 (And.intro r2 (And.intro r3 (And.intro z1 (And.intro z2 z3)))))))
  have R1 := hid r1
  clear r1
  clear hall hbig r0 r2 r3 z1 z2 z3
  have C := hid (And.intro cU (And.intro cI (And.intro cT cL)))
  clear cU cI cT cL
  have hv0 := StrN_S hv
  obtain ⟨base, cap, rfl, _⟩ := hv0
  have HV := hid hv
  clear hv
  go_enter Try.func5, Try.ntmps5
  go_wp2_with fail
  refine (awake_any w).mono ?_
  rintro e w1 ⟨rfl, hb1⟩
  have K1 := hid hb1
  clear hb1
  go_wp2_with (at_builtin; refine wpList_append_strs (ts := [s, rest]) rfl _ _ rfl (by simp) (by simp) rfl (own_lit w1 [s, rest] (by simp)) (alloc_le (Nat.le_refl _) _) rfl (StrN_below (StrN_below HV.out K1.out) ((Below.refl _ _).alloc (Nat.le_refl _) _)) (by omega) ?_; intro v' w2 hS2 hg2)
  have hb12 : Below w1.heap.size w1 w2 := Below.grown ((Below.refl w1.heap.size w1).alloc (Nat.le_refl _) _) hg2 (alloc_le (Nat.le_refl _) _) (own_base (own_lit w1 [s, rest] (by simp)))
  have htot : tot ([s, rest] ++ ps).length ([s, rest] ++ ps) = ((([s, rest] ++ ps).length + sizes ([s, rest] ++ ps) : Nat) : Int) := tot_sum _ _ (by rw [sizes_append, sizes_cons, sizes_cons, List.length_append]; simp [sizes] at *; omega)
  have hfew := few_any v' _ w2 hS2 (by rw [List.length_append]; simp; omega)
  rw [htot] at hfew
  have K2 := hid (K1.out.trans (hb12.mono K1.out.size))
  clear hS2 hg2 hb12 htot
  go_wp2_with fail
  refine hfew.mono ?_
  rintro e w3 ⟨rfl, rfl⟩
  clear hfew
  by_cases hle : ((([s, rest] ++ ps).length + sizes ([s, rest] ++ ps) : Nat) : Int) ≤ 2000
  · rw [decide_eq_true hle]
    clear hle
    go_wp2_with fail
    refine (C.out.1 _).mono ?_
    rintro e w4 ⟨rfl, hb4⟩
    have K4 := hid (K2.out.trans (hb4.mono K2.out.size))
    clear hb4
    go_wp2_with fail
    refine (C.out.2.1 _).mono ?_
    rintro e w5 ⟨rfl, hb5⟩
    have K5 := hid (K4.out.trans (hb5.mono K4.out.size))
    clear hb5
    go_wp2_with fail
    refine (C.out.2.2.1 _).mono ?_
    rintro e w6 ⟨rfl, hb6⟩
    have K6 := hid (K5.out.trans (hb6.mono K5.out.size))
    clear hb6
    go_wp2_with fail
    refine (C.out.2.2.2 _ (StrN_below HV.out K6.out)).mono ?_
    rintro e w7 ⟨rfl, hb7⟩
    have K7 := hid (K6.out.trans (hb7.mono K6.out.size))
    clear hb7
    go_wp2_with fail
    rw [R.out.1]
    refine (cnew_any _ w7).mono ?_
    rintro e w8 ⟨rfl, hR8, hb8⟩
    have hGw := K7.out.size
    have hb8w := K7.out.trans (hb8.mono K7.out.size)
    generalize w7.heap.size = G at hR8 hGw ⊢
    have K8 := hid (And.intro hb8w (And.intro hR8 hGw))
    clear hb8 hb8w hR8 hGw
    have hc9 := cruint_any G _ _ w8 K8.out.2.1 (by have := R.out.2; omega)
    rw [R.out.2.2.1] at hc9
    have HC9 := hid hc9
    clear hc9
    go_wp2_with fail
    refine HC9.out.mono ?_
    rintro e w9 ⟨rfl, hR9, hg9⟩
    have K9 := hid (And.intro (K8.out.1.trans (below_of_gb hg9 K8.out.1.size K8.out.2.2)) (And.intro hR9 K8.out.2.2))
    clear hR9 hg9
    have hc10 := crint_any G _ _ w9 K9.out.2.1 (by have := R.out.2; omega)
    rw [R1.out] at hc10
    have HC10 := hid hc10
    clear hc10
    go_wp2_with fail
    refine HC10.out.mono ?_
    rintro e w10 ⟨rfl, hR10, hg10⟩
    have K10 := hid (And.intro (K9.out.1.trans (below_of_gb hg10 K9.out.1.size K9.out.2.2)) (And.intro hR10 K9.out.2.2))
    clear hR10 hg10
    have hc11 := crtext_any G _ _ w10 K10.out.2.1 (by have := R.out.2; omega)
    rw [R.out.2.2.2.1] at hc11
    have HC11 := hid hc11
    clear hc11
    go_wp2_with fail
    refine HC11.out.mono ?_
    rintro e w11 ⟨rfl, hR11, hg11⟩
    have K11 := hid (And.intro (K10.out.1.trans (below_of_gb hg11 K10.out.1.size K10.out.2.2)) (And.intro hR11 K10.out.2.2))
    clear hR11 hg11
    have hc12 := crtexts_any G _ _ w11 K11.out.2.1 (by have := R.out.2; omega)
    rw [R.out.2.2.2.2.1] at hc12
    have HC12 := hid hc12
    clear hc12
    go_wp2_with fail
    refine HC12.out.mono ?_
    rintro e w12 ⟨⟨v, rfl, ho⟩, hR12, hg12⟩
    have K12 := hid (And.intro (K11.out.1.trans (below_of_gb hg12 K11.out.1.size K11.out.2.2)) (And.intro hR12 K11.out.2.2))
    have heq := equal_any v _ ps ps w12 (OwnS_StrS ho) (StrN_S (StrN_below HV.out K12.out.1)) (by omega) (by omega)
    rw [decide_eq_true rfl] at heq
    have HE := hid heq
    clear hR12 hg12 ho heq
    go_wp2_with fail
    refine HE.out.mono ?_
    rintro e w13 ⟨rfl, q, rfl⟩
    have K13 := hid (And.intro (below_drawn K12.out.1 q) (Reader_drew K12.out.2.1 q))
    go_wp2_with fail
    refine (cerror_any G _ _ _ K13.out.2).mono ?_
    rintro e w14 ⟨rfl, rfl⟩
    go_wp2_with fail
    refine (cend_any G _ _ _ K13.out.2).mono ?_
    rintro e w15 ⟨rfl, rfl⟩
    clear R C HV K1 K2 K4 K5 K6 K7 K8 K9 HC9 HC10 HC11 HC12 HE
    obtain ⟨⟨lr⟩⟩ := rest
    cases lr with
    | nil =>
      rw [show endV ⟨⟨[]⟩⟩ 0 = 0 from rfl]
      go_wp2_with fail
      go_ret
      exact ⟨rfl, K13.out.1⟩
    | cons x lr =>
      rw [show endV ⟨⟨x :: lr⟩⟩ 0 = 9 from rfl]
      go_wp2_with fail
      go_ret
      exact ⟨rfl, K13.out.1⟩
  · rw [decide_eq_false hle]
    clear hle
    go_wp2_with fail
    go_ret
    exact ⟨rfl, K2.out⟩

set_option maxRecDepth 100000 in
set_option maxHeartbeats 2000000 in
theorem returns_neg (n : Int) (m : Int) (s : ByteArray) (vl : Value) (ps : List ByteArray) (rest : ByteArray) (w : World) (hn : n < 0) (hm0 : -9223372036854775808 ≤ m) (hm1 : m ≤ 9223372036854775807) (hv : StrN w vl ps) (hb : s.size + rest.size + ps.length + sizes ps ≤ 1048576) :
    Calls Try.prog 5 #[.int .i64 n, .int .i64 m, .string s, vl, .string rest] w
      fun e w' => e = .returned (.bool true) ∧ Below w.heap.size w w' := by
  have hten : (([] : List UInt8)).length ≤ 10 := by simp
  have hsz := encU_len s (by omega)
  have hel := encUs_bound ps (by omega)
  have htl : (encT ps).length ≤ 10 + (10 * ps.length + sizes ps) := by unfold encT; rw [List.length_append]; have := uvL_ten ps.length (by omega); omega
  have hzl := uvL_ten (zig m) (zig_lt m hm0 hm1)
  obtain ⟨U, hU⟩ : ∃ U, U = ba ([]) := ⟨_, rfl⟩
  obtain ⟨I, hI⟩ : ∃ I, I = ba (uvL (zig m)) := ⟨_, rfl⟩
  obtain ⟨T, hT⟩ : ∃ T, T = ba (encU s) := ⟨_, rfl⟩
  obtain ⟨L, hL⟩ : ∃ L, L = ba (encT ps) := ⟨_, rfl⟩
  have cU : ∀ w, Calls Try.prog 12 #[.int .i64 n] w fun e w' => e = .returned (.tuple #[.string U, .int .i64 2]) ∧ Below w.heap.size w w' := fun w => by rw [hU]; exact cuint_neg n w hn
  have cI : ∀ w, Calls Try.prog 14 #[.int .i64 m] w fun e w' => e = .returned (.string I) ∧ Below w.heap.size w w' := fun w => by rw [hI]; exact cint_any m w hm0 hm1
  have cT : ∀ w, Calls Try.prog 16 #[.string s] w fun e w' => e = .returned (.string T) ∧ Below w.heap.size w w' := fun w => by rw [hT]; exact ctext_any s w (by omega)
  have cL : ∀ w, StrN w vl ps → Calls Try.prog 18 #[vl] w fun e w' => e = .returned (.string L) ∧ Below w.heap.size w w' := fun w h => by rw [hL]; exact ctexts_any vl ps w (StrN_S h) (by omega) (by omega)
  have zU : U.size ≤ 10 := by rw [hU, ba_size]; exact hten
  have zI : I.size ≤ 10 := by rw [hI, ba_size]; exact hzl
  have zT : T.size ≤ 10 + s.size := by rw [hT, ba_size]; exact hsz
  have zL : L.size ≤ 10 + (10 * ps.length + sizes ps) := by rw [hL, ba_size]; exact htl
  have hall : U ++ I ++ T ++ L ++ rest = ba ([] ++ (uvL (zig m) ++ (encU s ++ (encT ps ++ rest.data.toList)))) := by
    rw [hU, hI, hT, hL, ← ba_eta rest, ba_append, ba_append, ba_append, ba_append, ba_list, List.append_assoc, List.append_assoc, List.append_assoc]
  have hbig : (ba ([] ++ (uvL (zig m) ++ (encU s ++ (encT ps ++ rest.data.toList))))).size ≤ 1099511627776 := by
    rw [ba_size]; simp only [List.length_append, size_list']; omega
  have r0 : rInt (ba ([] ++ (uvL (zig m) ++ (encU s ++ (encT ps ++ rest.data.toList))))) 0 = (m, ba (encU s ++ (encT ps ++ rest.data.toList)), 0) := rInt_uv m _ hm0 hm1
  have r2 : rText (ba (encU s ++ (encT ps ++ rest.data.toList))) 0 = (s, ba (encT ps ++ rest.data.toList), 0) := rText_enc s _ (by omega)
  have r3 : rTexts (ba (encT ps ++ rest.data.toList)) 0 = (ps, rest, 0) := by
    rw [rTexts_enc ps _ (fun x hx => by have := mem_sizes hx; omega) (by omega), ba_eta]
  have z1 : (ba (encT ps ++ rest.data.toList)).size ≤ 1099511627776 := by rw [ba_size]; simp only [List.length_append, size_list']; omega
  have z2 : (ba (encU s ++ (encT ps ++ rest.data.toList))).size ≤ 1099511627776 := by rw [ba_size]; simp only [List.length_append, size_list']; omega
  have z3 : (ba (uvL (zig m) ++ (encU s ++ (encT ps ++ rest.data.toList)))).size ≤ 1099511627776 := by rw [ba_size]; simp only [List.length_append, size_list']; omega
  have hU0 : U.toList = [] := by rw [hU]; decide +kernel
  have hnd : decide (0 ≤ n) = false := decide_eq_false (by omega)
  clear hten hsz hel htl hzl hU hI hT hL
  generalize ba (encT ps ++ rest.data.toList) = A3 at r2 r3 z1
  generalize ba (encU s ++ (encT ps ++ rest.data.toList)) = A2 at r0 r2 z2
  simp only [List.nil_append] at hall hbig r0
  generalize ba (uvL (zig m) ++ (encU s ++ (encT ps ++ rest.data.toList))) = A0 at hall hbig r0 z3
  have R := hid (And.intro hall (And.intro hbig (And.intro r0 (And.intro r2 (And.intro r3 (And.intro z1 (And.intro z2 z3)))))))
  clear hall hbig r0 r2 r3 z1 z2 z3
  have C := hid (And.intro cU (And.intro cI (And.intro cT cL)))
  clear cU cI cT cL
  have hv0 := StrN_S hv
  obtain ⟨base, cap, rfl, _⟩ := hv0
  have HV := hid hv
  clear hv
  go_enter Try.func5, Try.ntmps5
  go_wp2_with fail
  refine (awake_any w).mono ?_
  rintro e w1 ⟨rfl, hb1⟩
  have K1 := hid hb1
  clear hb1
  go_wp2_with (at_builtin; refine wpList_append_strs (ts := [s, rest]) rfl _ _ rfl (by simp) (by simp) rfl (own_lit w1 [s, rest] (by simp)) (alloc_le (Nat.le_refl _) _) rfl (StrN_below (StrN_below HV.out K1.out) ((Below.refl _ _).alloc (Nat.le_refl _) _)) (by omega) ?_; intro v' w2 hS2 hg2)
  have hb12 : Below w1.heap.size w1 w2 := Below.grown ((Below.refl w1.heap.size w1).alloc (Nat.le_refl _) _) hg2 (alloc_le (Nat.le_refl _) _) (own_base (own_lit w1 [s, rest] (by simp)))
  have htot : tot ([s, rest] ++ ps).length ([s, rest] ++ ps) = ((([s, rest] ++ ps).length + sizes ([s, rest] ++ ps) : Nat) : Int) := tot_sum _ _ (by rw [sizes_append, sizes_cons, sizes_cons, List.length_append]; simp [sizes] at *; omega)
  have hfew := few_any v' _ w2 hS2 (by rw [List.length_append]; simp; omega)
  rw [htot] at hfew
  have K2 := hid (K1.out.trans (hb12.mono K1.out.size))
  clear hS2 hg2 hb12 htot
  go_wp2_with fail
  refine hfew.mono ?_
  rintro e w3 ⟨rfl, rfl⟩
  clear hfew
  by_cases hle : ((([s, rest] ++ ps).length + sizes ([s, rest] ++ ps) : Nat) : Int) ≤ 2000
  · rw [decide_eq_true hle]
    clear hle
    go_wp2_with fail
    refine (C.out.1 _).mono ?_
    rintro e w4 ⟨rfl, hb4⟩
    have K4 := hid (K2.out.trans (hb4.mono K2.out.size))
    clear hb4
    go_wp2_with fail
    refine (C.out.2.1 _).mono ?_
    rintro e w5 ⟨rfl, hb5⟩
    have K5 := hid (K4.out.trans (hb5.mono K4.out.size))
    clear hb5
    go_wp2_with fail
    refine (C.out.2.2.1 _).mono ?_
    rintro e w6 ⟨rfl, hb6⟩
    have K6 := hid (K5.out.trans (hb6.mono K5.out.size))
    clear hb6
    go_wp2_with fail
    refine (C.out.2.2.2 _ (StrN_below HV.out K6.out)).mono ?_
    rintro e w7 ⟨rfl, hb7⟩
    have K7 := hid (K6.out.trans (hb7.mono K6.out.size))
    clear hb7
    go_wp2_with fail
    rw [R.out.1]
    refine (cnew_any _ w7).mono ?_
    rintro e w8 ⟨rfl, hR8, hb8⟩
    have hGw := K7.out.size
    have hb8w := K7.out.trans (hb8.mono K7.out.size)
    generalize w7.heap.size = G at hR8 hGw ⊢
    have K8 := hid (And.intro hb8w (And.intro hR8 hGw))
    clear hb8 hb8w hR8 hGw
    have hc10 := crint_any G _ _ w8 K8.out.2.1 (by have := R.out.2; omega)
    rw [R.out.2.2.1] at hc10
    have HC10 := hid hc10
    clear hc10
    go_wp2_with fail
    refine HC10.out.mono ?_
    rintro e w10 ⟨rfl, hR10, hg10⟩
    have K10 := hid (And.intro (K8.out.1.trans (below_of_gb hg10 K8.out.1.size K8.out.2.2)) (And.intro hR10 K8.out.2.2))
    clear hR10 hg10
    have hc11 := crtext_any G _ _ w10 K10.out.2.1 (by have := R.out.2; omega)
    rw [R.out.2.2.2.1] at hc11
    have HC11 := hid hc11
    clear hc11
    go_wp2_with fail
    refine HC11.out.mono ?_
    rintro e w11 ⟨rfl, hR11, hg11⟩
    have K11 := hid (And.intro (K10.out.1.trans (below_of_gb hg11 K10.out.1.size K10.out.2.2)) (And.intro hR11 K10.out.2.2))
    clear hR11 hg11
    have hc12 := crtexts_any G _ _ w11 K11.out.2.1 (by have := R.out.2; omega)
    rw [R.out.2.2.2.2.1] at hc12
    have HC12 := hid hc12
    clear hc12
    go_wp2_with fail
    refine HC12.out.mono ?_
    rintro e w12 ⟨⟨v, rfl, ho⟩, hR12, hg12⟩
    have K12 := hid (And.intro (K11.out.1.trans (below_of_gb hg12 K11.out.1.size K11.out.2.2)) (And.intro hR12 K11.out.2.2))
    have heq := equal_any v _ ps ps w12 (OwnS_StrS ho) (StrN_S (StrN_below HV.out K12.out.1)) (by omega) (by omega)
    rw [decide_eq_true rfl] at heq
    have HE := hid heq
    clear hR12 hg12 ho heq
    go_wp2_with fail
    refine HE.out.mono ?_
    rintro e w13 ⟨rfl, q, rfl⟩
    have K13 := hid (And.intro (below_drawn K12.out.1 q) (Reader_drew K12.out.2.1 q))
    go_wp2_with fail
    refine (cerror_any G _ _ _ K13.out.2).mono ?_
    rintro e w14 ⟨rfl, rfl⟩
    go_wp2_with fail
    refine (cend_any G _ _ _ K13.out.2).mono ?_
    rintro e w15 ⟨rfl, rfl⟩
    clear R C HV K1 K2 K4 K5 K6 K7 K8 HC10 HC11 HC12 HE
    obtain ⟨⟨lr⟩⟩ := rest
    cases lr with
    | nil =>
      rw [show endV ⟨⟨[]⟩⟩ 0 = 0 from rfl]
      go_wp2_with fail
      go_ret
      exact ⟨rfl, K13.out.1⟩
    | cons x lr =>
      rw [show endV ⟨⟨x :: lr⟩⟩ 0 = 9 from rfl]
      go_wp2_with fail
      go_ret
      exact ⟨rfl, K13.out.1⟩
  · rw [decide_eq_false hle]
    clear hle
    go_wp2_with fail
    go_ret
    exact ⟨rfl, K2.out⟩

/-- An integer's kind bounds it. -/
theorem wf_i64 {a : Int} (h : (Lit.int .i64 a).wf = true) : -9223372036854775808 ≤ a ∧ a ≤ 9223372036854775807 := by
  have h3 : (decide (-9223372036854775808 ≤ a) && decide (a ≤ 9223372036854775807)) = true := h
  simpa using h3
theorem returns_any (a m : Int) (s : ByteArray) (vl : Value) (ps : List ByteArray) (rest : ByteArray) (w : World) (ha : (Lit.int .i64 a).wf = true) (hm : (Lit.int .i64 m).wf = true) (hv : StrN w vl ps) (hb : s.size + rest.size + ps.length + sizes ps ≤ 1048576) :
    Calls Try.prog 5 #[.int .i64 a, .int .i64 m, .string s, vl, .string rest] w
      fun e w' => e = .returned (.bool true) ∧ Below w.heap.size w w' := by
  obtain ⟨hm0, hm1⟩ := wf_i64 hm
  obtain ⟨ha0, ha1⟩ := wf_i64 ha
  by_cases h0 : a < 0
  · exact returns_neg a m s vl ps rest w h0 hm0 hm1 hv hb
  · obtain ⟨n, rfl⟩ := Int.eq_ofNat_of_zero_le (Int.not_lt.1 h0)
    exact returns_nat n m s vl ps rest w (by omega) hm0 hm1 hv hb
end Go.Proofs.Ytoimmmcmlbaenaa
