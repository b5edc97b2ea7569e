/- The reference's Same at equal results. -/
import Derived.Test.YtoimmmcmlbaenaaRes1
namespace Go.Proofs.Ytoimmmcmlbaenaa
open Go.RowKit

theorem StrS_drawn {w : World} {v : Value} {ps : List ByteArray} (h : StrS w v ps) (n : Nat) : StrS (w.drewN n) v ps := h

set_option maxRecDepth 100000 in
set_option maxHeartbeats 2000000 in
theorem same_any (a : Int) (t : ByteArray) (err : Int) (v1 v2 : Value) (ps : List ByteArray) (w : World) (h1 : StrS w v1 ps) (h2 : StrS w v2 ps) (hn : ps.length ≤ 9223372036854775806) :
    Calls Try.prog 22 #[.agg (resC a t v1 err), .agg (resC a t v2 err)] w
      fun e w' => e = .returned (.bool true) ∧ Below w.heap.size w w' := by
  obtain ⟨b1, c1, rfl, k1⟩ := h1
  obtain ⟨b2, c2, rfl, k2⟩ := h2
  have HK := hid (And.intro k1 k2)
  clear k1 k2
  have hb := hid (((Below.refl w.heap.size w).alloc (Nat.le_refl _) (.cells (resC a t (.slice b1 ps.length c1) err) 39)).alloc (alloc_le (Nat.le_refl _) _) (.cells (resC a t (.slice b2 ps.length c2) err) 39))
  unfold resC at hb ⊢
  go_enter Try.func22, Try.ntmps22
  go_wp2_with fail
  go_loopw [5] (fun i wr => ∃ (k q : Nat), k ≤ ps.length ∧ i = .int .i64 (k : Int) ∧ wr = ((w.alloc (.cells #[.int .i64 a, .string t, .slice b1 ps.length c1, .int .i64 err] 39)).alloc (.cells #[.int .i64 a, .string t, .slice b2 ps.length c2, .int .i64 err] 39)).drewN q) (fun i _ => ps.length - (intOf i).toNat)
  case atStart => exact ⟨0, 0, by omega, rfl, rfl⟩
  case round =>
    obtain ⟨k, q, hk, rfl, rfl⟩ := hrel
    by_cases hlt : k < ps.length
    · obtain ⟨bb1, o1, rfl, hc1⟩ := HK.out.1 k hlt
      obtain ⟨bb2, o2, rfl, hc2⟩ := HK.out.2 k hlt
      generalize ps.getD k ByteArray.empty = s at hc1 hc2
      have hl1 := block_lt_any hc1
      have hl2 := block_lt_any hc2
      have hc1' := (hb.out.cell (p := ⟨bb1, o1 + k, none⟩) hl1).trans hc1
      have hc2' := (hb.out.cell (p := ⟨bb2, o2 + k, none⟩) hl2).trans hc2
      go_wp2_with fail
      go_quiet (fail)
      go_wp2_with fail
      exact ⟨⟨k + 1, _, by omega, by go_num, rfl⟩, by simp [intOf]; omega⟩
    · obtain rfl : k = ps.length := by omega
      go_wp2_with fail
      go_ret
      exact ⟨rfl, below_drawn hb.out q⟩
end Go.Proofs.Ytoimmmcmlbaenaa
