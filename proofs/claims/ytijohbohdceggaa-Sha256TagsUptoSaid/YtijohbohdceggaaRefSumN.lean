/- The digest of a message is that of its padded blocks. Plain facts. -/
import Derived.Test.YtijohbohdceggaaRefPad
namespace Go.Proofs.Ytijohbohdceggaa

theorem padL_length (m : List UInt8) : (padL m).length = m.length + 1 + zpad m.length + 8 := by
  simp only [padL, List.length_append, List.length_singleton, List.length_replicate, be8_length]
def padN (m : List UInt8) : Nat := (m.length + 9 + zpad m.length) / 64
theorem padL_blocks (m : List UInt8) : (padL m).length = 64 * padN m := by
  rw [padL_length]
  have := zpad_full m.length
  unfold padN
  omega

theorem drop_app (m r : List UInt8) (k : Nat) (h : k ≤ m.length) : (m ++ r).drop k = m.drop k ++ r := List.drop_append_of_le_length h

theorem partB_end (A e8 : List UInt8) (hA : A.length = 56) (he : e8.length = 8) : (A ++ e8).take 64 = partB (A ++ List.replicate 8 0) 56 e8 := by
  unfold partB
  rw [List.take_of_length_le (l := A ++ e8) (by simp; omega), List.take_append_of_le_length (by omega), List.take_of_length_le (l := A) (by omega), List.drop_of_length_le (by simp; omega), List.append_nil]

theorem sha_blocks (m : List UInt8) : bytesOf (blocksS (padN m) S0 (padL m)) = sha m := by
  have hq : 64 * (m.length / 64) ≤ m.length := by omega
  have hpl : padL m = m ++ ([128] ++ List.replicate (zpad m.length) 0 ++ be8 (8 * m.length)) := by simp [padL]
  have hst : blocksS (m.length / 64) S0 (padL m) = stateOf m := by rw [hpl, blocksS_append _ _ _ _ hq]; rfl
  have htl : (tailOf m).length = m.length % 64 := tailOf_length m
  have hdr : (padL m).drop (64 * (m.length / 64)) = tailOf m ++ ([128] ++ List.replicate (zpad m.length) 0 ++ be8 (8 * m.length)) := by
    rw [hpl, drop_app _ _ _ hq]; rfl
  have hb8 := be8_length (8 * m.length)
  unfold sha beforeLast lastB
  generalize be8 (8 * m.length) = e8 at hdr hb8 hpl ⊢
  generalize htm : tailOf m = t at hdr htl
  have hpB : padB m = t ++ [128] ++ List.replicate (63 - m.length % 64) 0 := by unfold padB; rw [htm]
  by_cases hr : m.length % 64 < 56
  · have hz : zpad m.length = 55 - m.length % 64 := by unfold zpad; omega
    have hn : padN m = m.length / 64 + 1 := by unfold padN; omega
    rw [if_pos hr, if_pos hr, hn, blocksS_snoc, hst, hdr, hpB]
    congr 2
    have e : t ++ [128] ++ List.replicate (63 - m.length % 64) (0 : UInt8) = (t ++ [128] ++ List.replicate (55 - m.length % 64) 0) ++ List.replicate 8 0 := by
      rw [List.append_assoc (t ++ [128]), List.replicate_append_replicate]
      congr 2
      omega
    have hl1 : (t ++ [128] ++ List.replicate (55 - m.length % 64) (0 : UInt8)).length = 56 := by simp; omega
    have e3 : t ++ ([128] ++ List.replicate (55 - m.length % 64) (0 : UInt8) ++ e8) = (t ++ [128] ++ List.replicate (55 - m.length % 64) 0) ++ e8 := by simp
    rw [hz, e, e3]
    exact partB_end _ _ hl1 hb8
  · have hz : zpad m.length = (63 - m.length % 64) + 56 := by unfold zpad; omega
    have hn : padN m = m.length / 64 + 1 + 1 := by unfold padN; omega
    have hl1 : (t ++ [128] ++ List.replicate (63 - m.length % 64) (0 : UInt8)).length = 64 := by simp; omega
    have hd2 : (padL m).drop (64 * (m.length / 64)) = (t ++ [128] ++ List.replicate (63 - m.length % 64) 0) ++ (List.replicate 56 0 ++ e8) := by
      rw [hdr, hz, ← List.replicate_append_replicate]
      simp
    have hd3 : (padL m).drop (64 * (m.length / 64 + 1)) = List.replicate 56 0 ++ e8 := by
      rw [show 64 * (m.length / 64 + 1) = 64 * (m.length / 64) + 64 by omega, ← List.drop_drop, hd2, List.drop_append_of_le_length (by omega), List.drop_of_length_le (by omega), List.nil_append]
    rw [if_neg hr, if_neg hr, hn, blocksS_snoc, blocksS_snoc, hst, hd2, hd3, hpB, List.take_append_of_le_length (by omega), List.take_of_length_le (by omega : (t ++ [128] ++ List.replicate (63 - m.length % 64) (0 : UInt8)).length ≤ 64)]
    congr 2
    unfold partB
    rw [List.take_of_length_le (by simp [hb8]), List.drop_of_length_le (by rw [hb8]; simp), List.append_nil]
    congr 1
theorem bytesOf_take (s : S8) (k : Nat) (h : k < 8) : (bytesOf s).take (4 * (k + 1)) = (bytesOf s).take (4 * k) ++
    [UInt8.ofBitVec (((s.list.getD k 0) >>> 24).setWidth 8), UInt8.ofBitVec (((s.list.getD k 0) >>> 16).setWidth 8), UInt8.ofBitVec (((s.list.getD k 0) >>> 8).setWidth 8), UInt8.ofBitVec ((s.list.getD k 0).setWidth 8)] := by
  have hl := bytesOf_length s
  have key : ∀ j (hj : j < (bytesOf s).length), (bytesOf s)[j] = UInt8.ofBitVec (((s.list.getD (j / 4) 0) >>> (24 - j % 4 * 8)).setWidth 8) := fun j hj => by
    rw [← getD_lt 0 j hj]; exact bytesOf_get s j (by omega)
  have d0 : (4 * k) / 4 = k := by omega
  have d1 : (4 * k + 1) / 4 = k := by omega
  have d2 : (4 * k + 1 + 1) / 4 = k := by omega
  have d3 : (4 * k + 1 + 1 + 1) / 4 = k := by omega
  have m0 : (4 * k) % 4 = 0 := by omega
  have m1 : (4 * k + 1) % 4 = 1 := by omega
  have m2 : (4 * k + 1 + 1) % 4 = 2 := by omega
  have m3 : (4 * k + 1 + 1 + 1) % 4 = 3 := by omega
  rw [show 4 * (k + 1) = 4 * k + 1 + 1 + 1 + 1 by omega, List.take_succ_eq_append_getElem (by omega), List.take_succ_eq_append_getElem (by omega), List.take_succ_eq_append_getElem (by omega), List.take_succ_eq_append_getElem (by omega)]
  rw [key, key, key, key, d0, d1, d2, d3, m0, m1, m2, m3]
  simp
end Go.Proofs.Ytijohbohdceggaa
