/- codec: the reader's Count, Uint, Int, Text. -/
import Derived.Test.YtoimmmcmlbaenaaRdW
namespace Go.Proofs.Ytoimmmcmlbaenaa
open Go.RowKit

theorem cfail_any (g : Nat) (rest : ByteArray) (err a : Int) (w : World) (h : ReaderIs w g rest err) :
    Calls Try.prog 35 #[.pointer (some ⟨g, 0, none⟩), .int .i64 a] w
      fun e w' => e = .returned (.tuple #[]) ∧ ReaderIs w' g rest (failE a err) ∧ w.grownBy w' (some g) := by
  by_cases he : err = 0
  · subst he
    exact cfail_ok g rest a w h
  · refine (cfail_no g rest err a w h he).mono fun e w' ⟨h1, h2⟩ => ?_
    subst h2
    refine ⟨h1, ?_, World.grownBy.refl _ _⟩
    unfold failE
    rw [if_neg he]
    exact h

set_option maxRecDepth 100000 in
set_option maxHeartbeats 1000000 in
theorem ccount_any (m : Int) (g : Nat) (s : ByteArray) (err : Int) (w : World) (h : ReaderIs w g s err) (hs : s.size ≤ 9223372036854775807) :
    Calls Try.prog 45 #[.pointer (some ⟨g, 0, none⟩), .int .i64 m] w
      fun e w' => e = .returned (.int .i64 (rCount m s err).1) ∧ ReaderIs w' g (rCount m s err).2.1 (rCount m s err).2.2 ∧ w.grownBy w' (some g) := by
  have hlt := rNum_lt s err
  have hn := cnumber_any g s err w h hs
  unfold rCount
  generalize rNum s err = x at hlt hn
  obtain ⟨n, s', e'⟩ := x
  simp only at hlt hn ⊢
  have HN := hid hn
  clear hn h
  by_cases h1 : 9223372036854775807 < n
  · rw [if_pos (Or.inr h1)]
    go_enter Try.func45, Try.ntmps45
    go_wp2_with fail
    refine HN.out.mono ?_
    rintro e w1 ⟨rfl, hR, hg⟩
    have hf := cfail_any g s' e' 9 w1 hR
    have KR := hid (And.intro hR (And.intro hg hf))
    clear hR hg hf
    go_wp2_with fail
    refine KR.out.2.2.mono ?_
    rintro e w2 ⟨rfl, hR2, hg2⟩
    have K2 := hid (And.intro hR2 (gb_trans KR.out.2.1 hg2))
    clear hR2 hg2
    go_wp2_with fail
    go_ret
    exact ⟨rfl, K2.out.1, K2.out.2⟩
  · have q : IntKind.i64.wrap (n : Int) = (n : Int) := by rw [IntKind.wrap_i64]; omega
    by_cases h2 : m < (n : Int)
    · rw [if_pos (Or.inl h2)]
      go_enter Try.func45, Try.ntmps45
      go_wp2_with fail
      refine HN.out.mono ?_
      rintro e w1 ⟨rfl, hR, hg⟩
      have hf := cfail_any g s' e' 9 w1 hR
      have KR := hid (And.intro hR (And.intro hg hf))
      clear hR hg hf
      go_wp2_with fail
      refine KR.out.2.2.mono ?_
      rintro e w2 ⟨rfl, hR2, hg2⟩
      have K2 := hid (And.intro hR2 (gb_trans KR.out.2.1 hg2))
      clear hR2 hg2
      go_wp2_with fail
      go_ret
      exact ⟨rfl, K2.out.1, K2.out.2⟩
    · rw [if_neg (by omega)]
      go_enter Try.func45, Try.ntmps45
      go_wp2_with fail
      refine HN.out.mono ?_
      rintro e w1 ⟨rfl, hR, hg⟩
      have hf := cfail_any g s' e' 9 w1 hR
      have KR := hid (And.intro hR (And.intro hg hf))
      clear hR hg hf
      go_wp2_with fail
      go_ret
      exact ⟨rfl, KR.out.1, KR.out.2.1⟩

set_option maxRecDepth 100000 in
set_option maxHeartbeats 1000000 in
theorem cruint_any (g : Nat) (s : ByteArray) (err : Int) (w : World) (h : ReaderIs w g s err) (hs : s.size ≤ 9223372036854775807) :
    Calls Try.prog 24 #[.pointer (some ⟨g, 0, none⟩)] w
      fun e w' => e = .returned (.int .i64 (rCount 9223372036854775807 s err).1) ∧ ReaderIs w' g (rCount 9223372036854775807 s err).2.1 (rCount 9223372036854775807 s err).2.2 ∧ w.grownBy w' (some g) := by
  have hn := ccount_any 9223372036854775807 g s err w h hs
  generalize rCount 9223372036854775807 s err = x at hn ⊢
  obtain ⟨n, s', e'⟩ := x
  simp only at hn ⊢
  have HN := hid hn
  clear hn h
  go_enter Try.func24, Try.ntmps24
  go_wp2_with fail
  refine HN.out.mono ?_
  rintro e w1 ⟨rfl, hR, hg⟩
  have KR := hid (And.intro hR hg)
  clear hR hg
  go_wp2_with fail
  go_ret
  exact ⟨rfl, KR.out.1, KR.out.2⟩

set_option maxRecDepth 100000 in
set_option maxHeartbeats 1000000 in
theorem crint_any (g : Nat) (s : ByteArray) (err : Int) (w : World) (h : ReaderIs w g s err) (hs : s.size ≤ 9223372036854775807) :
    Calls Try.prog 25 #[.pointer (some ⟨g, 0, none⟩)] w
      fun e w' => e = .returned (.int .i64 (rInt s err).1) ∧ ReaderIs w' g (rInt s err).2.1 (rInt s err).2.2 ∧ w.grownBy w' (some g) := by
  have hlt := rNum_lt s err
  have hn := cnumber_any g s err w h hs
  unfold rInt
  generalize rNum s err = x at hlt hn
  obtain ⟨n, s', e'⟩ := x
  simp only at hlt hn ⊢
  have HN := hid hn
  clear hn h
  have q : IntKind.i64.wrap ((n : Int) / 2) = (n : Int) / 2 := by rw [IntKind.wrap_i64]; omega
  go_enter Try.func25, Try.ntmps25
  go_wp2_with fail
  refine HN.out.mono ?_
  rintro e w1 ⟨rfl, hR, hg⟩
  have KR := hid (And.intro hR hg)
  clear hR hg
  by_cases h1 : n % 2 = 1
  · have h1i : (n : Int) % 2 = 1 := by omega
    have hz : zag n = -((n : Int) / 2) - 1 := by unfold zag; rw [if_pos h1]; omega
    have KZ := hid hz
    clear hz
    go_wp2_with fail
    go_ret
    exact ⟨by rw [KZ.out]; rfl, KR.out.1, KR.out.2⟩
  · have h1i : (n : Int) % 2 = 0 := by omega
    have hz : zag n = (n : Int) / 2 := by unfold zag; rw [if_neg h1]; omega
    have KZ := hid hz
    clear hz
    go_wp2_with fail
    go_ret
    exact ⟨by rw [KZ.out]; rfl, KR.out.1, KR.out.2⟩
end Go.Proofs.Ytoimmmcmlbaenaa
