/- The reference's Tagged. -/
import Derived.Test.YtijohbohdceggaaRefSum
import Derived.Test.YtijohbohdceggaaFew
import Derived.Test.YtijohbohdceggaaClo
namespace Go.Proofs.Ytijohbohdceggaa
open Go.RowKit

theorem bytes_mk (l : List UInt8) : (⟨l.toArray⟩ : ByteArray).data.toList = l := rfl

set_option maxRecDepth 100000 in
set_option maxHeartbeats 2000000 in
theorem reftagged_any (tag : ByteArray) (v : Value) (ps : List ByteArray) (w : World) (hv : StrS w v ps) (hb : (tagBytes tag ps).length < 70368744177664) :
    Calls Try.prog 15 #[.string tag, v] w
      fun e w' => e = .returned (.string ⟨(sha (tagBytes tag ps)).toArray⟩) ∧ Below w.heap.size w w' := by
  obtain ⟨base, cap, rfl, hps⟩ := hv
  have hpl : ps.length < 1152921504606846976 := by have := encs_many ps; simp only [tagBytes, List.length_append] at hb; omega
  have htag : tag.size + 8 ≤ (tagBytes tag ps).length := by
    simp only [tagBytes, List.length_append, enc_length, Array.length_toList]
    show tag.data.size + 8 ≤ _
    omega
  have HPS := hid hps
  have HB := hid hb
  clear hps
  have hlen := length_any tag.size w (by omega)
  have hno : (9223372036854775807 < (be8 tag.size).length + tag.size) = False := by rw [be8_length]; simp; omega
  go_enter Try.func15, Try.ntmps15
  go_wp2_with fail
  refine hlen.mono ?_
  rintro e w1 ⟨rfl, hb1⟩
  have K1 := hid hb1
  clear hlen hb1
  go_wp2_with fail
  have hS0 : ((⟨(be8 tag.size).toArray⟩ : ByteArray) ++ tag).data.toList = enc tag.data.toList ++ encs (ps.take 0) := by
    rw [append_bytes, bytes_mk]
    simp [enc, encs]
  generalize (⟨(be8 tag.size).toArray⟩ : ByteArray) ++ tag = S0' at hS0
  have KS := hid hS0
  clear hS0
  go_loopw [5, 6] (fun t i wr => ∃ (k : Nat) (S : ByteArray), k ≤ ps.length ∧ i = .int .i64 k ∧ t = .string S ∧ S.data.toList = enc tag.data.toList ++ encs (ps.take k) ∧ Below w.heap.size w wr) (fun _ i _ => ps.length - (intOf i).toNat)
  case atStart => exact ⟨0, S0', by omega, rfl, rfl, KS.out, K1.out⟩
  case round =>
    obtain ⟨k, S, hk, rfl, rfl, hS, hbw⟩ := hrel
    have hSl : S.size = (enc tag.data.toList).length + (encs (ps.take k)).length := by rw [← size_list, hS, List.length_append]
    have hle2 : (tagBytes tag ps).length = (enc tag.data.toList).length + (encs ps).length := by simp [tagBytes]
    by_cases hlt : k < ps.length
    · obtain ⟨b, o, rfl, hc⟩ := HPS.out k hlt
      have hbl : b < w.heap.size := block_lt_of_cell hc
      have hnext := encs_take ps k hlt
      have hle := encs_le ps (k + 1)
      generalize ps.getD k ByteArray.empty = p at hc hnext
      rw [hnext, List.length_append, enc_length, size_list] at hle
      have hbb := HB.out
      have hc2 : ∀ x : Later wr, x.now.cell? ⟨b, o + k, none⟩ = some (.string p) := fun x => ((hbw.trans (x.since.mono hbw.size)).cell (p := ⟨b, o + k, none⟩) hbl).trans hc
      have call : ∀ x : Later wr, Calls Try.prog 32 #[.int .i64 (p.size : Int)] x.now fun e w'' => e = .returned (.string ⟨(be8 p.size).toArray⟩) ∧ ∃ y : Later wr, w'' = y.now := fun x =>
        Calls.later_of (length_any p.size x.now (by omega))
      have n1 : (9223372036854775807 < S.size + (be8 p.size).length) = False := by rw [be8_length]; simp; omega
      have n2 : (9223372036854775807 < S.size + (be8 p.size).length + p.size) = False := by rw [be8_length]; simp; omega
      have CALL := hid call
      have KC := hid (And.intro hnext (And.intro hbw hS))
      clear call hnext hbw hS hle hle2 hc hSl hbb K1 KS
      go_wp2_with fail
      refine wp_region_later (by kernel_rfl) (by kernel_rfl) ?_
      repeat (go_big_quiet_step ((go_at_call 32; with_reducible exact CALL.out _)))
      refine wpQuiet_nil ?_
      intro _ hw'
      obtain ⟨x, hx⟩ := hw'
      subst hx
      clear hc2 n1 n2
      have KX := hid (KC.out.2.1.trans (x.since.mono KC.out.2.1.size))
      go_wp2_with fail
      go_roundw
      case rel =>
        refine ⟨k + 1, _, by omega, by go_num, rfl, ?_, KX.out⟩
        rw [append_bytes, append_bytes, KC.out.2.2, bytes_mk, KC.out.1]
        simp [enc]
      case measure => simp [intOf]; omega
    · obtain rfl : k = ps.length := by omega
      rw [List.take_length] at hS hSl
      have hsum := fun w => refsum_any S w (by have := HB.out; omega)
      rw [hS] at hsum
      have KC := hid (And.intro hsum hbw)
      clear hsum hbw hS hSl hle2 K1 KS
      go_wp2_with fail
      refine (KC.out.1 wr).mono ?_
      rintro e w4 ⟨rfl, hb4⟩
      have K4 := hid (KC.out.2.trans (hb4.mono KC.out.2.size))
      clear hb4
      go_wp2_with fail
      go_ret
      exact ⟨rfl, K4.out⟩
end Go.Proofs.Ytijohbohdceggaa
