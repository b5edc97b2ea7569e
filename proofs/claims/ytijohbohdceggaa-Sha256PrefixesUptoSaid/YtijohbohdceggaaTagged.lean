/- Tagged. -/
import Derived.Test.YtijohbohdceggaaTag
namespace Go.Proofs.Ytijohbohdceggaa
open Go.RowKit

/-- v is a slice of the strings ps. -/
def StrS (w : World) (v : Value) (ps : List ByteArray) : Prop :=
  ∃ base cap, v = .slice base ps.length cap ∧ ∀ i, i < ps.length → ∃ b o, base = some ⟨b, o, none⟩ ∧ w.cell? ⟨b, o + i, none⟩ = some (.string (ps.getD i ByteArray.empty))
/-- The strings with their lengths in front. -/
def encs (ps : List ByteArray) : List UInt8 := ps.flatMap fun p => enc p.data.toList
def tagBytes (tag : ByteArray) (ps : List ByteArray) : List UInt8 := enc tag.data.toList ++ encs ps
theorem encs_take (ps : List ByteArray) (k : Nat) (h : k < ps.length) : encs (ps.take (k + 1)) = encs (ps.take k) ++ enc (ps.getD k ByteArray.empty).data.toList := by
  unfold encs
  rw [List.take_succ_eq_append_getElem h, List.flatMap_append]
  simp [List.getD, h]
theorem encs_le (ps : List ByteArray) (k : Nat) : (encs (ps.take k)).length ≤ (encs ps).length := by
  have : encs ps = encs (ps.take k) ++ encs (ps.drop k) := by
    unfold encs; rw [← List.flatMap_append, List.take_append_drop]
  rw [this]; simp
theorem enc_length (l : List UInt8) : (enc l).length = 8 + l.length := by simp [enc, be8_length]

theorem encs_many (ps : List ByteArray) : ps.length ≤ (encs ps).length := by
  induction ps with
  | nil => simp
  | cons p ps ih =>
    have e : encs (p :: ps) = enc p.data.toList ++ encs ps := rfl
    rw [e, List.length_append, enc_length, List.length_cons]; omega

set_option maxRecDepth 100000 in
set_option maxHeartbeats 1000000 in
theorem tagged_any (tag : ByteArray) (v : Value) (ps : List ByteArray) (w : World) (hv : StrS w v ps) (hb : (tagBytes tag ps).length < 1152921504606846976) :
    Calls Try.prog 14 #[.string tag, v] w
      fun e w' => e = .returned (.string ⟨(sha (tagBytes tag ps)).toArray⟩) ∧ Below w.heap.size w w' := by
  obtain ⟨base, cap, rfl, hps⟩ := hv
  have hpl : ps.length < 1152921504606846976 := by have := encs_many ps; simp only [tagBytes, List.length_append] at hb; omega
  have htag : tag.size + 8 ≤ (tagBytes tag ps).length := by
    simp only [tagBytes, List.length_append, enc_length, Array.length_toList]
    show tag.data.size + 8 ≤ _
    omega
  have HPS := hid hps
  clear hps
  go_enter Try.func14, Try.ntmps14
  go_wp2_with fail
  refine (new_any w).mono ?_
  rintro e w1 ⟨rfl, hH, hb1⟩
  have hl1 := HashIs_lt hH
  go_wp2_with fail
  have hp2 : (w1.alloc (.cells #[.pointer (some ⟨w.heap.size, 0, none⟩)] 37)).cell? ⟨w1.heap.size, 0, none⟩ = some (.pointer (some ⟨w.heap.size, 0, none⟩)) := by simp [go_sem]
  have hba := (Below.refl w1.heap.size w1).alloc (Nat.le_refl _) (.cells #[.pointer (some ⟨w.heap.size, 0, none⟩)] 37)
  generalize w1.alloc (.cells #[.pointer (some ⟨w.heap.size, 0, none⟩)] 37) = w2 at hp2 hba
  have hH2 := HashIs_below hH hba
  have hb2 : Below w.heap.size w w2 := hb1.trans (hba.mono hb1.size)
  obtain ⟨p, hp⟩ : ∃ p : Addr, p = ⟨w1.heap.size, 0, none⟩ := ⟨_, rfl⟩
  have hne : p.block ≠ w.heap.size := by rw [hp]; show w1.heap.size ≠ _; omega
  rw [← hp] at hp2 ⊢
  clear hp hH hb1 hba
  refine (add_any w.heap.size p [] tag w2 hH2 hp2 hne (by simp; omega)).mono ?_
  rintro e w3 ⟨rfl, hH3, hg3⟩
  have hp3 := hg3.cell hp2 (by intro e; injection e with e; exact hne e)
  have hb3 : Below w.heap.size w w3 := hb2.trans (below_of_gb hg3 hb2.size (Nat.le_refl _))
  clear hH2 hp2 hb2 hg3 hl1
  go_wp2_with fail
  go_loopw [16] (fun i wr => ∃ k : Nat, k ≤ ps.length ∧ i = .int .i64 k ∧ HashIs wr w.heap.size (enc tag.data.toList ++ encs (ps.take k)) ∧ wr.cell? p = some (.pointer (some ⟨w.heap.size, 0, none⟩)) ∧ Below w.heap.size w wr) (fun i _ => ps.length - (intOf i).toNat)
  case atStart => exact ⟨0, by omega, rfl, by simpa [encs] using hH3, hp3, hb3⟩
  case round =>
    obtain ⟨k, hk, rfl, hH, hpw, hbw⟩ := hrel
    by_cases hlt : k < ps.length
    · obtain ⟨b, o, rfl, hc⟩ := HPS.out k hlt
      have hbl : b < w.heap.size := block_lt_of_cell hc
      have hc2 := (hbw.cell (p := ⟨b, o + k, none⟩) hbl).trans hc
      have hnext := encs_take ps k hlt
      have hle := encs_le ps (k + 1)
      have hle2 : (tagBytes tag ps).length = (enc tag.data.toList).length + (encs ps).length := by simp [tagBytes]
      generalize ps.getD k ByteArray.empty = s at hc2 hnext
      clear hc
      rw [hnext] at hle
      simp only [List.length_append, enc_length, Array.length_toList] at hle hle2
      have hs : (enc tag.data.toList ++ encs (ps.take k)).length + 8 + s.size < 4611686018427387904 := by
        have e0 : s.data.size = s.size := rfl
        simp only [List.length_append, enc_length, Array.length_toList]
        omega
      have call := add_any w.heap.size p _ s wr hH hpw hne hs
      have KC := hid (And.intro call (And.intro hnext hbw))
      clear call hnext hle hle2 hs hH hbw hH3 hp3 hb3
      go_wp2_with fail
      refine KC.out.1.mono ?_
      rintro e w4 ⟨rfl, hH4, hg4⟩
      have hp4 := hg4.cell hpw (by intro e; injection e with e; exact hne e)
      have hb4 : Below w.heap.size w w4 := KC.out.2.2.trans (below_of_gb hg4 KC.out.2.2.size (Nat.le_refl _))
      have K4 := hid (And.intro hH4 (And.intro hp4 hb4))
      clear hH4 hp4 hb4 hg4 hpw
      go_wp2_with fail
      refine ⟨⟨k + 1, by omega, by go_num, ?_, K4.out.2.1, K4.out.2.2⟩, by simp [intOf]; omega⟩
      rw [KC.out.2.1, ← List.append_assoc]
      exact K4.out.1
    · obtain rfl : k = ps.length := by omega
      rw [List.take_length] at hH
      have hsum := sum_any w.heap.size (tagBytes tag ps) wr hH hb
      have KC := hid (And.intro hsum hbw)
      clear hsum hH hbw hH3 hp3 hb3
      go_wp2_with fail
      refine KC.out.1.mono ?_
      rintro e w4 ⟨rfl, hb4⟩
      have K4 := hid (KC.out.2.trans (hb4.mono KC.out.2.size))
      clear hb4
      go_wp2_with fail
      go_ret
      exact ⟨rfl, K4.out⟩
end Go.Proofs.Ytijohbohdceggaa
