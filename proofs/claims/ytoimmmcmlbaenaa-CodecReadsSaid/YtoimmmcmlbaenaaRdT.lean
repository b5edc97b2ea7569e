/- codec: the reader's Text. -/
import Derived.Test.YtoimmmcmlbaenaaRdC
namespace Go.Proofs.Ytoimmmcmlbaenaa
open Go.RowKit

set_option maxRecDepth 100000 in
set_option maxHeartbeats 1000000 in
theorem crtext_any (g : Nat) (s : ByteArray) (err : Int) (w : World) (h : ReaderIs w g s err) (hs : s.size ≤ 9223372036854775807) :
    Calls Try.prog 26 #[.pointer (some ⟨g, 0, none⟩)] w
      fun e w' => e = .returned (.string (rText s err).1) ∧ ReaderIs w' g (rText s err).2.1 (rText s err).2.2 ∧ w.grownBy w' (some g) := by
  have hn := cruint_any g s err w h hs
  have h0n := rCount_nonneg 9223372036854775807 s err
  have hsz := rCount_size 9223372036854775807 s err
  unfold rText
  generalize rCount 9223372036854775807 s err = x at hn h0n hsz ⊢
  obtain ⟨n, s', e'⟩ := x
  simp only at hn h0n hsz
  unfold rText1
  simp only
  have HN := hid hn
  clear hn h
  obtain ⟨n, rfl⟩ := Int.eq_ofNat_of_zero_le h0n
  by_cases hlt : (s'.size : Int) < ((n : Nat) : Int)
  · rw [if_pos hlt]
    go_enter Try.func26, Try.ntmps26
    go_wp2_with fail
    refine HN.out.mono ?_
    rintro e w1 ⟨rfl, hR, hg⟩
    obtain ⟨c0, c1, c2, c3⟩ := ReaderIs_cells hR
    have hf := cfail_any g s' e' 9 w1 hR
    have KR := hid (And.intro hg hf)
    clear hR hg hf
    go_wp2_with fail
    refine KR.out.2.mono ?_
    rintro e w2 ⟨rfl, hR2, hg2⟩
    have K2 := hid (And.intro hR2 (gb_trans KR.out.1 hg2))
    clear hR2 hg2 c0 c1 c2 c3
    go_wp2_with fail
    go_ret
    exact ⟨rfl, K2.out.1, K2.out.2⟩
  · rw [if_neg hlt]
    have hle : n ≤ s'.size := by omega
    clear hlt
    go_enter Try.func26, Try.ntmps26
    go_wp2_with fail
    refine HN.out.mono ?_
    rintro e w1 ⟨rfl, hR, hg⟩
    obtain ⟨c0, c1, c2, c3⟩ := ReaderIs_cells hR
    have hst : RowRel g 74 w1 #[.string (offB s' n), .int .i64 e'] (w1.setCell ⟨g, 0, none⟩ (.string (s'.extract n s'.size))) := RR_set (RR_start hR) 0 _
    have KR := hid (And.intro hg hst)
    clear hR hg hst
    go_wp2_with fail
    go_ret
    exact ⟨rfl, KR.out.2.2, gb_trans KR.out.1 KR.out.2.1⟩
end Go.Proofs.Ytoimmmcmlbaenaa
