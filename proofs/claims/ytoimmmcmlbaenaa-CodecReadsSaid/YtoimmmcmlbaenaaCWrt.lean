/- CodecWrites: the walk. -/
import Derived.Test.YtoimmmcmlbaenaaRefB
namespace Go.Proofs.Ytoimmmcmlbaenaa
open Go.RowKit

set_option maxRecDepth 100000 in
set_option maxHeartbeats 2000000 in
theorem writes_neg (n : Int) (s : ByteArray) (vl : Value) (ps : List ByteArray) (w : World) (hn : n < 0) (hn0 : -9223372036854775808 ≤ n) (hv : StrN w vl ps) (hb : s.size + ps.length + sizes ps ≤ 1048576) :
    Calls Try.prog 3 #[.int .i64 n, .string s, vl] w
      fun e w' => e = .returned (.bool true) ∧ Below w.heap.size w w' := by
  have hel := encUs_bound ps (by omega)
  obtain ⟨U, hU⟩ : ∃ U, U = ba ([]) := ⟨_, rfl⟩
  obtain ⟨I, hI⟩ : ∃ I, I = ba (uvL (zig n)) := ⟨_, rfl⟩
  obtain ⟨T, hT⟩ : ∃ T, T = ba (encU s) := ⟨_, rfl⟩
  obtain ⟨L, hL⟩ : ∃ L, L = ba (encT ps) := ⟨_, rfl⟩
  have cU : ∀ w, Calls Try.prog 12 #[.int .i64 n] w fun e w' => e = .returned (.tuple #[.string U, .int .i64 2]) ∧ Below w.heap.size w w' := fun w => by rw [hU]; exact cuint_neg n w hn
  have dU : ∀ w, Calls Try.prog 13 #[.int .i64 n] w fun e w' => e = .returned (.tuple #[.string U, .int .i64 2]) ∧ Below w.heap.size w w' := fun w => by rw [hU]; exact refuint_neg n w hn
  have cI : ∀ w, Calls Try.prog 14 #[.int .i64 n] w fun e w' => e = .returned (.string I) ∧ Below w.heap.size w w' := fun w => by rw [hI]; exact cint_any n w hn0 (by omega)
  have dI : ∀ w, Calls Try.prog 15 #[.int .i64 n] w fun e w' => e = .returned (.string I) ∧ Below w.heap.size w w' := fun w => by rw [hI]; exact refint_any n w hn0 (by omega)
  have cT : ∀ w, Calls Try.prog 16 #[.string s] w fun e w' => e = .returned (.string T) ∧ Below w.heap.size w w' := fun w => by rw [hT]; exact ctext_any s w (by omega)
  have dT : ∀ w, Calls Try.prog 17 #[.string s] w fun e w' => e = .returned (.string T) ∧ Below w.heap.size w w' := fun w => by rw [hT]; exact reftext_any s w (by omega)
  have cL : ∀ w, StrN w vl ps → Calls Try.prog 18 #[vl] w fun e w' => e = .returned (.string L) ∧ Below w.heap.size w w' := fun w h => by rw [hL]; exact ctexts_any vl ps w (StrN_S h) (by omega) (by omega)
  have dL : ∀ w, StrN w vl ps → Calls Try.prog 19 #[vl] w fun e w' => e = .returned (.string L) ∧ Below w.heap.size w w' := fun w h => by rw [hL]; exact reftexts_any vl ps w (StrN_S h) (by omega)
  have C := hid (And.intro cU (And.intro dU (And.intro cI (And.intro dI (And.intro cT (And.intro dT (And.intro cL dL)))))))
  clear cU dU cI dI cT dT cL dL hU hI hT hL hel
  have HV := hid hv
  obtain ⟨base, cap, rfl, _⟩ := StrN_S hv
  clear hv
  go_enter Try.func3, Try.ntmps3
  go_wp2_with fail
  refine (awake_any w).mono ?_
  rintro e w1 ⟨rfl, hb1⟩
  have K1 := hid hb1
  clear hb1
  go_wp2_with (at_builtin; refine wpList_append_strs (ts := [s]) rfl _ _ rfl (by simp) (by simp) rfl (own_lit w1 [s] (by simp)) (alloc_le (Nat.le_refl _) _) rfl (StrN_below (StrN_below HV.out K1.out) ((Below.refl _ _).alloc (Nat.le_refl _) _)) (by omega) ?_; intro v' w2 hS2 hg2)
  have hb12 : Below w1.heap.size w1 w2 := Below.grown ((Below.refl w1.heap.size w1).alloc (Nat.le_refl _) _) hg2 (alloc_le (Nat.le_refl _) _) (own_base (own_lit w1 [s] (by simp)))
  have htot : tot ([s] ++ ps).length ([s] ++ ps) = ((([s] ++ ps).length + sizes ([s] ++ ps) : Nat) : Int) := tot_sum _ _ (by rw [sizes_append, sizes_cons, List.length_append]; simp [sizes] at *; omega)
  have hfew := few_any v' _ w2 hS2 (by rw [List.length_append]; simp; omega)
  rw [htot] at hfew
  have K2 := hid (K1.out.trans (hb12.mono K1.out.size))
  clear hS2 hg2 hb12 htot
  go_wp2_with fail
  refine hfew.mono ?_
  rintro e w3 ⟨rfl, rfl⟩
  clear hfew
  by_cases hle : ((([s] ++ ps).length + sizes ([s] ++ ps) : Nat) : Int) ≤ 2000
  · rw [decide_eq_true hle]
    clear hle
    go_wp2_with fail
    refine (C.out.1 _).mono ?_
    rintro e w4 ⟨rfl, hb4⟩
    have K4 := hid (K2.out.trans (hb4.mono K2.out.size))
    clear hb4
    go_wp2_with fail
    refine (C.out.2.1 _).mono ?_
    rintro e w5 ⟨rfl, hb5⟩
    have K5 := hid (K4.out.trans (hb5.mono K4.out.size))
    clear hb5
    go_wp2_with fail
    refine (C.out.2.2.1 _).mono ?_
    rintro e w6 ⟨rfl, hb6⟩
    have K6 := hid (K5.out.trans (hb6.mono K5.out.size))
    clear hb6
    go_wp2_with fail
    refine (C.out.2.2.2.1 _).mono ?_
    rintro e w7 ⟨rfl, hb7⟩
    have K7 := hid (K6.out.trans (hb7.mono K6.out.size))
    clear hb7
    go_wp2_with fail
    refine (C.out.2.2.2.2.1 _).mono ?_
    rintro e w8 ⟨rfl, hb8⟩
    have K8 := hid (K7.out.trans (hb8.mono K7.out.size))
    clear hb8
    go_wp2_with fail
    refine (C.out.2.2.2.2.2.1 _).mono ?_
    rintro e w9 ⟨rfl, hb9⟩
    have K9 := hid (K8.out.trans (hb9.mono K8.out.size))
    clear hb9
    go_wp2_with fail
    refine (C.out.2.2.2.2.2.2.1 _ (StrN_below HV.out K9.out)).mono ?_
    rintro e w10 ⟨rfl, hb10⟩
    have K10 := hid (K9.out.trans (hb10.mono K9.out.size))
    clear hb10
    go_wp2_with fail
    refine (C.out.2.2.2.2.2.2.2 _ (StrN_below HV.out K10.out)).mono ?_
    rintro e w11 ⟨rfl, hb11⟩
    have K11 := hid (K10.out.trans (hb11.mono K10.out.size))
    clear hb11
    go_wp2_with fail
    go_ret
    exact ⟨rfl, K11.out⟩
  · rw [decide_eq_false hle]
    clear hle
    go_wp2_with fail
    go_ret
    exact ⟨rfl, K2.out⟩

set_option maxRecDepth 100000 in
set_option maxHeartbeats 2000000 in
theorem writes_nat (n : Nat) (s : ByteArray) (vl : Value) (ps : List ByteArray) (w : World) (hn : n < 9223372036854775808) (hv : StrN w vl ps) (hb : s.size + ps.length + sizes ps ≤ 1048576) :
    Calls Try.prog 3 #[.int .i64 (n : Int), .string s, vl] w
      fun e w' => e = .returned (.bool true) ∧ Below w.heap.size w w' := by
  have hel := encUs_bound ps (by omega)
  obtain ⟨U, hU⟩ : ∃ U, U = ba (uvL n) := ⟨_, rfl⟩
  obtain ⟨I, hI⟩ : ∃ I, I = ba (uvL (zig (n : Int))) := ⟨_, rfl⟩
  obtain ⟨T, hT⟩ : ∃ T, T = ba (encU s) := ⟨_, rfl⟩
  obtain ⟨L, hL⟩ : ∃ L, L = ba (encT ps) := ⟨_, rfl⟩
  have cU : ∀ w, Calls Try.prog 12 #[.int .i64 (n : Int)] w fun e w' => e = .returned (.tuple #[.string U, .int .i64 0]) ∧ Below w.heap.size w w' := fun w => by rw [hU]; exact cuint_nat n w hn
  have dU : ∀ w, Calls Try.prog 13 #[.int .i64 (n : Int)] w fun e w' => e = .returned (.tuple #[.string U, .int .i64 0]) ∧ Below w.heap.size w w' := fun w => by rw [hU]; exact refuint_nat n w hn
  have cI : ∀ w, Calls Try.prog 14 #[.int .i64 (n : Int)] w fun e w' => e = .returned (.string I) ∧ Below w.heap.size w w' := fun w => by rw [hI]; exact cint_any (n : Int) w (by omega) (by omega)
  have dI : ∀ w, Calls Try.prog 15 #[.int .i64 (n : Int)] w fun e w' => e = .returned (.string I) ∧ Below w.heap.size w w' := fun w => by rw [hI]; exact refint_any (n : Int) w (by omega) (by omega)
  have cT : ∀ w, Calls Try.prog 16 #[.string s] w fun e w' => e = .returned (.string T) ∧ Below w.heap.size w w' := fun w => by rw [hT]; exact ctext_any s w (by omega)
  have dT : ∀ w, Calls Try.prog 17 #[.string s] w fun e w' => e = .returned (.string T) ∧ Below w.heap.size w w' := fun w => by rw [hT]; exact reftext_any s w (by omega)
  have cL : ∀ w, StrN w vl ps → Calls Try.prog 18 #[vl] w fun e w' => e = .returned (.string L) ∧ Below w.heap.size w w' := fun w h => by rw [hL]; exact ctexts_any vl ps w (StrN_S h) (by omega) (by omega)
  have dL : ∀ w, StrN w vl ps → Calls Try.prog 19 #[vl] w fun e w' => e = .returned (.string L) ∧ Below w.heap.size w w' := fun w h => by rw [hL]; exact reftexts_any vl ps w (StrN_S h) (by omega)
  have C := hid (And.intro cU (And.intro dU (And.intro cI (And.intro dI (And.intro cT (And.intro dT (And.intro cL dL)))))))
  clear cU dU cI dI cT dT cL dL hU hI hT hL hel
  have HV := hid hv
  obtain ⟨base, cap, rfl, _⟩ := StrN_S hv
  clear hv
  go_enter Try.func3, Try.ntmps3
  go_wp2_with fail
  refine (awake_any w).mono ?_
  rintro e w1 ⟨rfl, hb1⟩
  have K1 := hid hb1
  clear hb1
  go_wp2_with (at_builtin; refine wpList_append_strs (ts := [s]) rfl _ _ rfl (by simp) (by simp) rfl (own_lit w1 [s] (by simp)) (alloc_le (Nat.le_refl _) _) rfl (StrN_below (StrN_below HV.out K1.out) ((Below.refl _ _).alloc (Nat.le_refl _) _)) (by omega) ?_; intro v' w2 hS2 hg2)
  have hb12 : Below w1.heap.size w1 w2 := Below.grown ((Below.refl w1.heap.size w1).alloc (Nat.le_refl _) _) hg2 (alloc_le (Nat.le_refl _) _) (own_base (own_lit w1 [s] (by simp)))
  have htot : tot ([s] ++ ps).length ([s] ++ ps) = ((([s] ++ ps).length + sizes ([s] ++ ps) : Nat) : Int) := tot_sum _ _ (by rw [sizes_append, sizes_cons, List.length_append]; simp [sizes] at *; omega)
  have hfew := few_any v' _ w2 hS2 (by rw [List.length_append]; simp; omega)
  rw [htot] at hfew
  have K2 := hid (K1.out.trans (hb12.mono K1.out.size))
  clear hS2 hg2 hb12 htot
  go_wp2_with fail
  refine hfew.mono ?_
  rintro e w3 ⟨rfl, rfl⟩
  clear hfew
  by_cases hle : ((([s] ++ ps).length + sizes ([s] ++ ps) : Nat) : Int) ≤ 2000
  · rw [decide_eq_true hle]
    clear hle
    go_wp2_with fail
    refine (C.out.1 _).mono ?_
    rintro e w4 ⟨rfl, hb4⟩
    have K4 := hid (K2.out.trans (hb4.mono K2.out.size))
    clear hb4
    go_wp2_with fail
    refine (C.out.2.1 _).mono ?_
    rintro e w5 ⟨rfl, hb5⟩
    have K5 := hid (K4.out.trans (hb5.mono K4.out.size))
    clear hb5
    go_wp2_with fail
    refine (C.out.2.2.1 _).mono ?_
    rintro e w6 ⟨rfl, hb6⟩
    have K6 := hid (K5.out.trans (hb6.mono K5.out.size))
    clear hb6
    go_wp2_with fail
    refine (C.out.2.2.2.1 _).mono ?_
    rintro e w7 ⟨rfl, hb7⟩
    have K7 := hid (K6.out.trans (hb7.mono K6.out.size))
    clear hb7
    go_wp2_with fail
    refine (C.out.2.2.2.2.1 _).mono ?_
    rintro e w8 ⟨rfl, hb8⟩
    have K8 := hid (K7.out.trans (hb8.mono K7.out.size))
    clear hb8
    go_wp2_with fail
    refine (C.out.2.2.2.2.2.1 _).mono ?_
    rintro e w9 ⟨rfl, hb9⟩
    have K9 := hid (K8.out.trans (hb9.mono K8.out.size))
    clear hb9
    go_wp2_with fail
    refine (C.out.2.2.2.2.2.2.1 _ (StrN_below HV.out K9.out)).mono ?_
    rintro e w10 ⟨rfl, hb10⟩
    have K10 := hid (K9.out.trans (hb10.mono K9.out.size))
    clear hb10
    go_wp2_with fail
    refine (C.out.2.2.2.2.2.2.2 _ (StrN_below HV.out K10.out)).mono ?_
    rintro e w11 ⟨rfl, hb11⟩
    have K11 := hid (K10.out.trans (hb11.mono K10.out.size))
    clear hb11
    go_wp2_with fail
    go_ret
    exact ⟨rfl, K11.out⟩
  · rw [decide_eq_false hle]
    clear hle
    go_wp2_with fail
    go_ret
    exact ⟨rfl, K2.out⟩

theorem writes_any (a : Int) (s : ByteArray) (vl : Value) (ps : List ByteArray) (w : World) (ha : (Lit.int .i64 a).wf = true) (hv : StrN w vl ps) (hb : s.size + ps.length + sizes ps ≤ 1048576) :
    Calls Try.prog 3 #[.int .i64 a, .string s, vl] w
      fun e w' => e = .returned (.bool true) ∧ Below w.heap.size w w' := by
  obtain ⟨ha0, ha1⟩ := wf_i64 ha
  by_cases h0 : a < 0
  · exact writes_neg a s vl ps w h0 ha0 hv hb
  · obtain ⟨n, rfl⟩ := Int.eq_ofNat_of_zero_le (Int.not_lt.1 h0)
    exact writes_nat n s vl ps w (by omega) hv hb
end Go.Proofs.Ytoimmmcmlbaenaa
