/- Sha256Streams: the walk. -/
import Derived.Test.YtijohbohdceggaaStrm
import Derived.Test.YtijohbohdceggaaAwake
namespace Go.Proofs.Ytijohbohdceggaa
open Go.RowKit

set_option maxRecDepth 100000 in
set_option maxHeartbeats 2000000 in
theorem streams_any (v : Value) (ps : List ByteArray) (va : Value) (na : Nat) (w : World) (hv : StrN w v ps) (hcap : capOk v) (hva : BoolN w va na) (hb : ps.length + sizes ps ≤ 1048576) :
    Calls Try.prog 7 #[v, va] w
      fun e w' => e = .returned (.bool true) ∧ Below w.heap.size w w' := by
  obtain ⟨abase, acap, rfl, hna, hask⟩ := BoolN_form hva
  have HASK := hid hask
  clear hask hva
  unfold maxLen at hna
  have hS := StrN_S hv
  obtain ⟨base, cap, rfl, hps⟩ := id hS
  have HPS := hid hps
  clear hps
  have HS := hid (And.intro hv (And.intro hS hcap))
  clear hv hcap hS
  go_enter Try.func7, Try.ntmps7
  go_wp2_with fail
  refine (awake_any w).mono ?_
  rintro e w1 ⟨rfl, hb1⟩
  have htot : tot ps.length ps = ((ps.length + sizes ps : Nat) : Int) := tot_sum ps ps.length (by omega)
  have hfew := few_any _ ps w1 (StrN_S (StrN_below HS.out.1 hb1)) (by omega)
  rw [htot] at hfew
  have K1 := hid hb1
  clear hb1 htot
  go_wp2_with fail
  refine hfew.mono ?_
  rintro e w2 ⟨rfl, rfl⟩
  clear hfew
  by_cases hle : ((ps.length + sizes ps : Nat) : Int) ≤ 2000
  · rw [decide_eq_true hle]
    have hsz : sizes ps ≤ 2000 := by omega
    clear hle
    go_wp2_with fail
    refine (new_any w2).mono ?_
    rintro e w3 ⟨rfl, hH3, hb3⟩
    have hbw3 := K1.out.trans (hb3.mono K1.out.size)
    obtain ⟨G, hG⟩ : ∃ G, G = w2.heap.size := ⟨_, rfl⟩
    have hGw : w.heap.size ≤ G := by rw [hG]; exact K1.out.size
    rw [← hG] at hH3 ⊢
    have K3 := hid (And.intro hH3 hbw3)
    clear hG hb3 hbw3 hH3 K1
    go_wp2_with fail
    go_loopw [6, 19] (fun t i wr => ∃ (k : Nat) (S : ByteArray), k ≤ ps.length ∧ i = .int .i64 k ∧ t = .string S ∧ S.data.toList = catL (ps.take k) ∧ HashIs wr G (catL (ps.take k)) ∧ Below w.heap.size w wr) (fun _ i _ => ps.length - (intOf i).toNat)
    case atStart => exact ⟨0, ⟨#[]⟩, by omega, rfl, rfl, rfl, K3.out.1, K3.out.2⟩
    case round =>
      obtain ⟨k, S, hk, rfl, rfl, hSl, hH, hbw⟩ := hrel
      by_cases hlt : k < ps.length
      · obtain ⟨b, o, rfl, hc⟩ := HPS.out k hlt
        have hc2 := (hbw.cell (p := ⟨b, o + k, none⟩) (block_lt_of_cell hc)).trans hc
        have hnext := catL_take ps k hlt
        have hle := catL_le ps (k + 1)
        generalize ps.getD k ByteArray.empty = p at hc hc2 hnext
        rw [hnext, List.length_append, size_list] at hle
        have hSz : S.size = (catL (ps.take k)).length := by rw [← size_list, hSl]
        have hw := write_any G _ p wr hH (by omega)
        have hno : (9223372036854775807 < S.size + p.size) = False := by simp; omega
        have hcat : (S ++ p).data.toList = catL (ps.take (k + 1)) := by rw [append_bytes, hSl, hnext]
        have hlen : (catL (ps.take (k + 1))).length ≤ 2000 := by have := catL_le ps (k + 1); omega
        rw [← hnext] at hw
        have KC := hid (And.intro hw (And.intro hbw (And.intro hcat hlen)))
        clear hw hnext hle hSz hSl hH hbw hc hcat hlen K3
        go_wp2_with fail
        refine KC.out.1.mono ?_
        rintro e w4 ⟨rfl, hH4, hg4⟩
        have hbw4 := KC.out.2.1.trans (below_of_gb hg4 KC.out.2.1.size hGw)
        have hsu := fun w h => sum_any G (catL (ps.take (k + 1))) w h (by have := KC.out.2.2.2; omega)
        have hsa : ∀ w, Calls Try.prog 11 #[.string (S ++ p)] w fun e w' => e = .returned (.string ⟨(sha (catL (ps.take (k + 1)))).toArray⟩) ∧ Below w.heap.size w w' := fun w => by
          have := sha_any (S ++ p) w (by rw [← size_list, KC.out.2.2.1]; have := KC.out.2.2.2; omega)
          rwa [KC.out.2.2.1] at this
        generalize sha (catL (ps.take (k + 1))) = D at hsu hsa
        have K4 := hid (And.intro hH4 (And.intro hbw4 (And.intro hsu hsa)))
        clear hH4 hg4 hbw4 hsu hsa
        by_cases hka : k < na
        · obtain ⟨ab, ao, x, rfl, hac⟩ := HASK.out k hka
          have hac4 := (K4.out.2.1.cell (p := ⟨ab, ao + k, none⟩) (block_lt_of_cell hac)).trans hac
          clear hac hc2
          cases x with
          | true =>
            go_wp2_with fail
            refine (K4.out.2.2.1 w4 K4.out.1).mono ?_
            rintro e w5 ⟨rfl, hb5⟩
            have K5 := hid (And.intro (HashIs_below K4.out.1 hb5) (K4.out.2.1.trans (hb5.mono K4.out.2.1.size)))
            clear hb5 hac4
            go_wp2_with fail
            refine (K4.out.2.2.2 w5).mono ?_
            rintro e w6 ⟨rfl, hb6⟩
            have K6 := hid (And.intro (HashIs_below K5.out.1 hb6) (K5.out.2.trans (hb6.mono K5.out.2.size)))
            clear hb6
            go_wp2_with fail
            go_roundw
            case rel => exact ⟨k + 1, _, by omega, by go_num, rfl, KC.out.2.2.1, K6.out.1, K6.out.2⟩
            case measure => simp [intOf]; omega
          | false =>
            go_wp2_with fail
            go_roundw
            case rel => exact ⟨k + 1, _, by omega, by go_num, rfl, KC.out.2.2.1, K4.out.1, K4.out.2.1⟩
            case measure => simp [intOf]; omega
        · clear hc2
          go_wp2_with fail
          go_roundw
          case rel => exact ⟨k + 1, _, by omega, by go_num, rfl, KC.out.2.2.1, K4.out.1, K4.out.2.1⟩
          case measure => simp [intOf]; omega
      · obtain rfl : k = ps.length := by omega
        rw [List.take_length] at hSl hH
        have hlen : (catL ps).length ≤ 2000 := by rw [catL_length]; exact hsz
        have hsu := fun w h => sum_any G (catL ps) w h (by omega)
        have hsa : ∀ w, Calls Try.prog 11 #[.string S] w fun e w' => e = .returned (.string ⟨(sha (catL ps)).toArray⟩) ∧ Below w.heap.size w w' := fun w => by
          have := sha_any S w (by rw [← size_list, hSl]; omega)
          rwa [hSl] at this
        have hsj : ∀ w, Calls Try.prog 11 #[.string ⟨(catL ps).toArray⟩] w fun e w' => e = .returned (.string ⟨(sha (catL ps)).toArray⟩) ∧ Below w.heap.size w w' := fun w =>
          sha_any ⟨(catL ps).toArray⟩ w (by show (catL ps).toArray.size < _; simp; omega)
        generalize sha (catL ps) = D at hsu hsa hsj
        have KC := hid (And.intro hH (And.intro hbw (And.intro hsu (And.intro hsa hsj))))
        clear hSl hH hbw hsu hsa hsj hlen K3
        go_wp2_with fail
        refine (KC.out.2.2.1 wr KC.out.1).mono ?_
        rintro e w5 ⟨rfl, hb5⟩
        have K5 := hid (And.intro (HashIs_below KC.out.1 hb5) (KC.out.2.1.trans (hb5.mono KC.out.2.1.size)))
        clear hb5
        go_wp2_with fail
        refine (KC.out.2.2.2.1 w5).mono ?_
        rintro e w6 ⟨rfl, hb6⟩
        have K6 := hid (And.intro (HashIs_below K5.out.1 hb6) (K5.out.2.trans (hb6.mono K5.out.2.size)))
        clear hb6
        go_wp2_with fail
        refine (KC.out.2.2.1 w6 K6.out.1).mono ?_
        rintro e w7 ⟨rfl, hb7⟩
        have K7 := hid (K6.out.2.trans (hb7.mono K6.out.2.size))
        clear hb7
        go_wp2_with fail
        refine (join_any _ ps w7 (StrN_S (StrN_below HS.out.1 K7.out)) HS.out.2.2 (by omega) (by omega)).mono ?_
        rintro e w8 ⟨rfl, hb8⟩
        have K8 := hid (K7.out.trans (hb8.mono K7.out.size))
        clear hb8
        go_wp2_with fail
        refine (KC.out.2.2.2.2 w8).mono ?_
        rintro e w9 ⟨rfl, hb9⟩
        have K9 := hid (K8.out.trans (hb9.mono K8.out.size))
        clear hb9
        go_wp2_with fail
        go_ret
        exact ⟨rfl, K9.out⟩
  · rw [decide_eq_false hle]
    clear hle
    go_wp2_with fail
    go_ret
    exact ⟨rfl, K1.out⟩
end Go.Proofs.Ytijohbohdceggaa
