/- The reference's ReadUint, ReadInt, ReadText. -/
import Derived.Test.YtoimmmcmlbaenaaRru
namespace Go.Proofs.Ytoimmmcmlbaenaa
open Go.RowKit

/-- What a reference's reader of an integer returns: the integer and the offset behind it, or false. -/
def RI (x : Int × ByteArray × Int) (sz : Nat) (e : Ending) : Prop :=
  if x.2.2 = 0 then e = .returned (.tuple #[.int .i64 x.1, .int .i64 ((sz - x.2.1.size : Nat) : Int), .bool true]) else e = .returned (.tuple #[.int .i64 0, .int .i64 0, .bool false])
def RT (x : ByteArray × ByteArray × Int) (sz : Nat) (e : Ending) : Prop :=
  if x.2.2 = 0 then e = .returned (.tuple #[.string x.1, .int .i64 ((sz - x.2.1.size : Nat) : Int), .bool true]) else e = .returned (.tuple #[.string ⟨#[]⟩, .int .i64 0, .bool false])
theorem off_list (s : ByteArray) (p : Nat) : (offB s p).data.toList = s.data.toList.drop p := by rw [offB_drop, ba_list]
theorem off_size (s : ByteArray) (p : Nat) : (offB s p).size = s.size - p := by rw [← size_list', off_list, List.length_drop, size_list']

set_option maxRecDepth 100000 in
set_option maxHeartbeats 1000000 in
theorem refreaduint_any (s : ByteArray) (p : Nat) (w : World) (hp : p ≤ s.size) (hs : s.size ≤ 1048576) :
    Calls Try.prog 41 #[.string s, .int .i64 (p : Int)] w
      fun e w' => RI (rCount 9223372036854775807 (offB s p) 0) s.size e ∧ w' = w := by
  have h := refru_any s p w hp hs
  cases hr : readU 0 0 (s.data.toList.drop p) with
  | none =>
    rw [hr] at h
    have hc : rCount 9223372036854775807 (offB s p) 0 = (0, offB s p, 9) := by
      unfold rCount
      rw [rNum_none _ (by rw [off_list]; exact hr), if_neg (by simp only; omega)]
      rfl
    rw [hc]
    have HM := hid h
    clear h hr hc
    go_enter Try.func41, Try.ntmps41
    go_wp2_with fail
    refine HM.out.mono ?_
    rintro e w' ⟨⟨a, b, rfl⟩, rfl⟩
    go_wp2_with fail
    go_ret3
    exact ⟨rfl, rfl⟩
  | some x =>
    obtain ⟨n, r⟩ := x
    rw [hr] at h
    have hlt := (readU_inv hr).2
    have hrl : r.length ≤ s.size := by
      have := congrArg List.length (readU_inv hr).1
      rw [List.length_drop, List.length_append, size_list'] at this
      omega
    have hnum : rNum (offB s p) 0 = (n, ba r, 0) := rNum_some _ (by rw [off_list]; exact hr)
    have h2 : Calls Try.prog 53 #[.string s, .int .i64 (p : Int)] w fun e w' => e = .returned (.tuple #[.int .u64 (n : Int), .int .i64 ((s.size - r.length : Nat) : Int), .bool true]) ∧ w' = w := h
    clear h
    by_cases hbig : 9223372036854775807 < n
    · have hc : rCount 9223372036854775807 (offB s p) 0 = (0, ba r, 9) := by
        unfold rCount
        rw [hnum, if_pos (Or.inr hbig)]
        rfl
      rw [hc]
      have HM := hid h2
      clear h2 hr hc hnum hrl
      go_enter Try.func41, Try.ntmps41
      go_wp2_with fail
      refine HM.out.mono ?_
      rintro e w' ⟨rfl, rfl⟩
      go_wp2_with fail
      go_ret3
      exact ⟨rfl, rfl⟩
    · have hc : rCount 9223372036854775807 (offB s p) 0 = ((n : Int), ba r, 0) := by
        unfold rCount
        rw [hnum, if_neg (by simp only; omega)]
      rw [hc]
      have hfin : ∀ e : Ending, e = .returned (.tuple #[.int .i64 (n : Int), .int .i64 ((s.size - r.length : Nat) : Int), .bool true]) → RI ((n : Int), ba r, 0) s.size e := by
        intro e h
        unfold RI
        rw [if_pos rfl, h]
        simp only
        rw [ba_size]
      have q : IntKind.i64.wrap (n : Int) = (n : Int) := by rw [IntKind.wrap_i64]; omega
      have HM := hid (And.intro h2 hfin)
      clear h2 hr hc hnum hrl hfin
      go_enter Try.func41, Try.ntmps41
      go_wp2_with fail
      refine HM.out.1.mono ?_
      rintro e w' ⟨rfl, rfl⟩
      go_wp2_with fail
      go_ret3
      exact ⟨HM.out.2 _ rfl, rfl⟩

set_option maxRecDepth 100000 in
set_option maxHeartbeats 1000000 in
theorem refreadint_any (s : ByteArray) (p : Nat) (w : World) (hp : p ≤ s.size) (hs : s.size ≤ 1048576) :
    Calls Try.prog 42 #[.string s, .int .i64 (p : Int)] w
      fun e w' => RI (rInt (offB s p) 0) s.size e ∧ w' = w := by
  have h := refru_any s p w hp hs
  cases hr : readU 0 0 (s.data.toList.drop p) with
  | none =>
    rw [hr] at h
    have hc : rInt (offB s p) 0 = (0, offB s p, 9) := by
      unfold rInt
      rw [rNum_none _ (by rw [off_list]; exact hr)]
      show (zag 0, offB s p, (9 : Int)) = _
      rw [show zag 0 = 0 by decide]
    rw [hc]
    have HM := hid h
    clear h hr hc
    go_enter Try.func42, Try.ntmps42
    go_wp2_with fail
    refine HM.out.mono ?_
    rintro e w' ⟨⟨a, b, rfl⟩, rfl⟩
    go_wp2_with fail
    go_ret3
    exact ⟨rfl, rfl⟩
  | some x =>
    obtain ⟨n, r⟩ := x
    rw [hr] at h
    have hlt := (readU_inv hr).2
    have hnum : rNum (offB s p) 0 = (n, ba r, 0) := rNum_some _ (by rw [off_list]; exact hr)
    have h2 : Calls Try.prog 53 #[.string s, .int .i64 (p : Int)] w fun e w' => e = .returned (.tuple #[.int .u64 (n : Int), .int .i64 ((s.size - r.length : Nat) : Int), .bool true]) ∧ w' = w := h
    clear h
    have hc : rInt (offB s p) 0 = (zag n, ba r, 0) := by unfold rInt; rw [hnum]
    rw [hc]
    have hfin : ∀ e : Ending, e = .returned (.tuple #[.int .i64 (zag n), .int .i64 ((s.size - r.length : Nat) : Int), .bool true]) → RI (zag n, ba r, 0) s.size e := by
      intro e h
      unfold RI
      rw [if_pos rfl, h]
      simp only
      rw [ba_size]
    have q : IntKind.i64.wrap ((n : Int) / 2) = (n : Int) / 2 := by rw [IntKind.wrap_i64]; omega
    have HM := hid (And.intro h2 hfin)
    clear h2 hr hc hnum hfin
    by_cases h1 : n % 2 = 1
    · have h1i : (n : Int) % 2 = 1 := by omega
      have hz : zag n = -((n : Int) / 2) - 1 := by unfold zag; rw [if_pos h1]; omega
      have KZ := hid hz
      clear hz
      go_enter Try.func42, Try.ntmps42
      go_wp2_with fail
      refine HM.out.1.mono ?_
      rintro e w' ⟨rfl, rfl⟩
      go_wp2_with fail
      go_ret3
      exact ⟨HM.out.2 _ (by rw [KZ.out]; rfl), rfl⟩
    · have h1i : (n : Int) % 2 = 0 := by omega
      have hz : zag n = (n : Int) / 2 := by unfold zag; rw [if_neg h1]; omega
      have KZ := hid hz
      clear hz
      go_enter Try.func42, Try.ntmps42
      go_wp2_with fail
      refine HM.out.1.mono ?_
      rintro e w' ⟨rfl, rfl⟩
      go_wp2_with fail
      go_ret3
      exact ⟨HM.out.2 _ (by rw [KZ.out]; rfl), rfl⟩

/-- What is left is the string from some offset on. -/
theorem suffix_of {s s' : ByteArray} {p : Nat} {A : List UInt8} (hp : p ≤ s.size) (h : (offB s p).data.toList = A ++ s'.data.toList) : s' = offB s (s.size - s'.size) ∧ p ≤ s.size - s'.size ∧ s.size - s'.size ≤ s.size ∧ s'.size = s.size - (s.size - s'.size) := by
  rw [off_list] at h
  have hl := congrArg List.length h
  rw [List.length_drop, List.length_append, size_list', size_list'] at hl
  have e : s'.data.toList = s.data.toList.drop (s.size - s'.size) := by
    have h2 := congrArg (List.drop A.length) h
    rw [List.drop_drop, List.drop_left] at h2
    rw [← h2]
    congr 1
    omega
  refine ⟨?_, by omega, by omega, by omega⟩
  rw [offB_drop, ← e, ba_eta]

set_option maxRecDepth 100000 in
set_option maxHeartbeats 1000000 in
theorem refreadtext_any (s : ByteArray) (p : Nat) (w : World) (hp : p ≤ s.size) (hs : s.size ≤ 1048576) :
    Calls Try.prog 43 #[.string s, .int .i64 (p : Int)] w
      fun e w' => RT (rText (offB s p) 0) s.size e ∧ w' = w := by
  have h := refreaduint_any s p w hp hs
  unfold rText
  generalize hx : rCount 9223372036854775807 (offB s p) 0 = x at h ⊢
  obtain ⟨a, s', e'⟩ := x
  by_cases he : e' = 0
  · subst he
    obtain ⟨n, rfl, hn, hl⟩ := rCount_good hx
    obtain ⟨h1, h2, h3, h4⟩ := suffix_of hp hl
    have h5 : Calls Try.prog 41 #[.string s, .int .i64 (p : Int)] w fun e w' => e = .returned (.tuple #[.int .i64 (n : Int), .int .i64 ((s.size - s'.size : Nat) : Int), .bool true]) ∧ w' = w := h
    clear h hx hl
    generalize s.size - s'.size = nx at h1 h2 h3 h4 h5
    unfold rText1
    simp only
    by_cases hgt : (s'.size : Int) < (n : Int)
    · rw [if_pos hgt]
      have hgt2 : (s.size : Int) - (nx : Int) < (n : Int) := by omega
      have HM := hid h5
      clear h5 h1 hgt
      go_enter Try.func43, Try.ntmps43
      go_wp2_with fail
      refine HM.out.mono ?_
      rintro e w' ⟨rfl, rfl⟩
      go_wp2_with fail
      go_ret3
      exact ⟨rfl, rfl⟩
    · rw [if_neg hgt]
      have hgt2 : ¬ (s.size : Int) - (nx : Int) < (n : Int) := by omega
      have hle : nx + n ≤ s.size := by omega
      have e0 : ((n : Nat) : Int).toNat = n := by omega
      rw [e0]
      have hup : upB s' n = s.extract nx (nx + n) := by
        rw [h1]
        unfold upB offB
        apply ByteArray.ext
        rw [ByteArray.data_extract, ByteArray.data_extract, ByteArray.data_extract]
        apply Array.toList_inj.1
        simp
        omega
      have hoff : (offB s' n).size = s.size - (nx + n) := by rw [off_size]; omega
      have hfin : ∀ e : Ending, e = .returned (.tuple #[.string (s.extract nx (nx + n)), .int .i64 ((nx : Int) + (n : Int)), .bool true]) → RT (upB s' n, offB s' n, 0) s.size e := by
        intro e h
        unfold RT
        rw [if_pos rfl, h]
        simp only
        rw [hup, hoff]
        have : ((s.size - (s.size - (nx + n)) : Nat) : Int) = (nx : Int) + (n : Int) := by omega
        rw [this]
      have HM := hid (And.intro h5 hfin)
      clear h5 hfin hup hoff h1 hgt e0
      go_enter Try.func43, Try.ntmps43
      go_wp2_with fail
      refine HM.out.1.mono ?_
      rintro e w' ⟨rfl, rfl⟩
      go_wp2_with fail
      go_ret3
      exact ⟨HM.out.2 _ rfl, rfl⟩
  · have ha : ∀ e w', RI (a, s', e') s.size e ∧ w' = w → e = .returned (.tuple #[.int .i64 0, .int .i64 0, .bool false]) ∧ w' = w := by
      rintro e w' ⟨h1, h2⟩
      unfold RI at h1
      rw [if_neg he] at h1
      exact ⟨h1, h2⟩
    have h5 := h.mono ha
    have hT : ∀ e : Ending, e = .returned (.tuple #[.string ⟨#[]⟩, .int .i64 0, .bool false]) → RT (rText1 (a, s', e')) s.size e := by
      intro e h
      have hne : (rText1 (a, s', e')).2.2 ≠ 0 := by
        unfold rText1
        split
        · exact failE_ne _
        · exact he
      unfold RT
      rw [if_neg hne]
      exact h
    have HM := hid (And.intro h5 hT)
    clear h h5 hT ha hx he
    go_enter Try.func43, Try.ntmps43
    go_wp2_with fail
    refine HM.out.1.mono ?_
    rintro e w' ⟨rfl, rfl⟩
    go_wp2_with fail
    go_ret3
    exact ⟨HM.out.2 _ rfl, rfl⟩
end Go.Proofs.Ytoimmmcmlbaenaa
