/- awake. -/
import Derived.Test.YtijohbohdceggaaAwakeN
namespace Go.Proofs.Ytijohbohdceggaa
open Go.RowKit

theorem parse_const (w : World) : Calls Try.prog 16 #[.string ⟨emptyHex.toArray⟩] w fun e w' => e = .returned (.tuple #[.string ⟨(sha []).toArray⟩, .int .i64 0]) ∧ Below w.heap.size w w' :=
  (parse_any ⟨emptyHex.toArray⟩ w (by decide)).mono fun e w' h => ⟨h.1.trans (congrArg Ending.returned (parseV_some parse_empty)), h.2⟩
theorem hex_const (w : World) : Calls Try.prog 18 #[.string ⟨(sha [97, 98, 99]).toArray⟩] w fun e w' => e = .returned (.string ⟨abcHex.toArray⟩) ∧ Below w.heap.size w w' :=
  (hex_any ⟨(sha [97, 98, 99]).toArray⟩ w (by show (sha [97, 98, 99]).toArray.size ≤ _; simp [sha, bytesOf_length])).mono fun e w' h => ⟨h.1.trans (by show Ending.returned (.string ⟨(hexL (sha [97, 98, 99])).toArray⟩) = _; rw [hex_abc]), h.2⟩
theorem sha_const (w : World) : Calls Try.prog 11 #[.string ⟨#[]⟩] w fun e w' => e = .returned (.string ⟨(sha []).toArray⟩) ∧ Below w.heap.size w w' :=
  sha_any ⟨#[]⟩ w (by decide)
theorem sha_eight (w : World) : Calls Try.prog 11 #[.string ⟨#[0, 0, 0, 0, 0, 0, 0, 0]⟩] w fun e w' => e = .returned (.string ⟨(sha [0, 0, 0, 0, 0, 0, 0, 0]).toArray⟩) ∧ Below w.heap.size w w' :=
  sha_any ⟨#[0, 0, 0, 0, 0, 0, 0, 0]⟩ w (by decide)
theorem tagged_const (w : World) : Calls Try.prog 14 #[.string ⟨#[]⟩, .slice none 0 0] w fun e w' => e = .returned (.string ⟨(sha [0, 0, 0, 0, 0, 0, 0, 0]).toArray⟩) ∧ Below w.heap.size w w' :=
  (tagged_any ByteArray.empty (.slice none 0 0) [] w ⟨none, 0, rfl, fun i hi => absurd hi (by simp)⟩ (by rw [tag_empty]; decide)).mono fun e w' h => ⟨h.1.trans (by rw [tag_empty]), h.2⟩

set_option maxRecDepth 100000 in
set_option maxHeartbeats 1000000 in
theorem awake_any (w : World) : Calls Try.prog 10 #[] w fun e w' => e = .returned (.bool true) ∧ Below w.heap.size w w' := by
  go_enter Try.func10, Try.ntmps10
  go_wp2_with fail
  refine (new_any w).mono ?_
  rintro e w1 ⟨rfl, hH, hb1⟩
  go_wp2_with fail
  refine (write_any w.heap.size [] ⟨#[97, 98]⟩ w1 hH (by decide)).mono ?_
  rintro e w2 ⟨rfl, hH2, hg2⟩
  have hb2 : Below w.heap.size w w2 := hb1.trans (below_of_gb hg2 hb1.size (Nat.le_refl _))
  clear hH hg2 hb1
  go_wp2_with fail
  refine (write_any w.heap.size _ ⟨#[99]⟩ w2 hH2 (by decide)).mono ?_
  rintro e w3 ⟨rfl, hH3, hg3⟩
  have hb3 : Below w.heap.size w w3 := hb2.trans (below_of_gb hg3 hb2.size (Nat.le_refl _))
  replace hH3 : HashIs w3 w.heap.size [97, 98, 99] := hH3
  clear hH2 hg3 hb2
  go_wp2_with fail
  refine (parse_const w3).mono ?_
  rintro e w4 ⟨rfl, hb⟩
  have hH4 := HashIs_below hH3 hb
  have hb4 := hb3.trans (hb.mono hb3.size)
  clear hH3 hb hb3
  go_wp2_with fail
  refine (sha_const w4).mono ?_
  rintro e w5 ⟨rfl, hb⟩
  have hH5 := HashIs_below hH4 hb
  have hb5 := hb4.trans (hb.mono hb4.size)
  clear hH4 hb hb4
  go_wp2_with fail
  refine (sum_any w.heap.size [97, 98, 99] w5 hH5 (by decide)).mono ?_
  rintro e w6 ⟨rfl, hb⟩
  have hH6 := HashIs_below hH5 hb
  have hb6 := hb5.trans (hb.mono hb5.size)
  clear hH5 hb hb5
  go_wp2_with fail
  refine (hex_const w6).mono ?_
  rintro e w7 ⟨rfl, hb⟩
  have hH7 := HashIs_below hH6 hb
  have hb7 := hb6.trans (hb.mono hb6.size)
  clear hH6 hb hb6
  have hab : abcHex = [98, 97, 55, 56, 49, 54, 98, 102, 56, 102, 48, 49, 99, 102, 101, 97, 52, 49, 52, 49, 52, 48, 100, 101, 53, 100, 97, 101, 50, 50, 50, 51, 98, 48, 48, 51, 54, 49, 97, 51, 57, 54, 49, 55, 55, 97, 57, 99, 98, 52, 49, 48, 102, 102, 54, 49, 102, 50, 48, 48, 49, 53, 97, 100] := rfl
  go_wp2_with fail
  refine (tagged_const w7).mono ?_
  rintro e w8 ⟨rfl, hb⟩
  have hH8 := HashIs_below hH7 hb
  have hb8 := hb7.trans (hb.mono hb7.size)
  clear hH7 hb hb7 hab
  go_wp2_with fail
  refine (sha_eight w8).mono ?_
  rintro e w9 ⟨rfl, hb⟩
  have hH9 := HashIs_below hH8 hb
  have hb9 := hb8.trans (hb.mono hb8.size)
  clear hH8 hb hb8
  go_wp2_with fail
  refine (clone_any w.heap.size [97, 98, 99] w9 hH9).mono ?_
  rintro e w10 ⟨rfl, -, hb⟩
  have hb10 := hid (hb9.trans (hb.mono hb9.size))
  clear hH9 hb hb9
  go_wp2_with fail
  go_ret
  exact ⟨rfl, hb10.out⟩
end Go.Proofs.Ytijohbohdceggaa
