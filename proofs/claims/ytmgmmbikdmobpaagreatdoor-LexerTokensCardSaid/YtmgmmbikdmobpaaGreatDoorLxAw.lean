/- lexer: the examples of the chapter. -/
import Derived.Test.YtmgmmbikdmobpaaGreatDoorLex
import Derived.Test.YtmgmmbikdmobpaaGreatDoorLxMe
import Derived.Test.YtmgmmbikdmobpaaGreatDoorLxPos
import Derived.Test.YtmgmmbikdmobpaaGreatDoorLxQ2
namespace Go.Proofs.YtmgmmbikdmobpaaGreatDoor
open Go.RowKit

def T1 : List TkY := [⟨5, [102, 110], 0, 0⟩, ⟨6, [40], 2, 0⟩, ⟨1, [97], 3, 0⟩, ⟨6, [63], 4, 0⟩, ⟨6, [58], 5, 0⟩, ⟨5, [105, 110, 116], 7, 0⟩, ⟨6, [41], 10, 0⟩, ⟨6, [61, 62], 12, 0⟩, ⟨1, [97], 15, 0⟩, ⟨0, [], 16, 0⟩]
theorem a1 : lexL [102, 110, 40, 97, 63, 58, 32, 105, 110, 116, 41, 32, 61, 62, 32, 97] = (T1, 0, 0) := by kernel_rfl
theorem a2 : majL [103, 101, 111, 47, 115, 104, 97, 112, 101, 115, 47, 118, 49, 50] = (12, 0) := by rw [← rmaj_is]; kernel_rfl
theorem a3 : majL [97, 47, 118, 48] = (0, 0) := by rw [← rmaj_is]; kernel_rfl
theorem a4 : isWk [97] 1 = true := by kernel_rfl
theorem a5 : isWk [65] 2 = true := by kernel_rfl
theorem k_lex (w : World) : Calls Tryz.prog 5 #[.string ⟨#[102, 110, 40, 97, 63, 58, 32, 105, 110, 116, 41, 32, 61, 62, 32, 97]⟩] w fun e w' =>
    (∃ g cap, e = .returned (.tuple #[.slice (some ⟨g, 0, none⟩) 10 cap, .int .i64 0, .int .i64 0]) ∧ w'.cell? ⟨g, 27, none⟩ = some (.int .i64 0) ∧ w'.cell? ⟨g, 28, none⟩ = some (.string ⟨#[]⟩) ∧ w'.cell? ⟨g, 29, none⟩ = some (.int .i64 16) ∧ w'.cell? ⟨g, 21, none⟩ = some (.int .i64 6) ∧ w'.cell? ⟨g, 22, none⟩ = some (.string ⟨#[61, 62]⟩) ∧ w'.cell? ⟨g, 23, none⟩ = some (.int .i64 12)) ∧ Below w.heap.size w w' := by
  have h := lex_any ⟨#[102, 110, 40, 97, 63, 58, 32, 105, 110, 116, 41, 32, 61, 62, 32, 97]⟩ w
  rw [a1] at h
  refine h.mono fun e w' ⟨⟨v, he, hr⟩, hb⟩ => ⟨?_, hb⟩
  obtain ⟨g, cap, rfl, _, _⟩ := World.ownsRow.form (show w'.ownsRow w.heap.size 32 3 v 10 (tkCells T1) from hr) (by decide)
  have hr2 : w'.ownsRow w.heap.size 32 3 (.slice (some ⟨g, 0, none⟩) 10 cap) 10 (tkCells T1) := hr
  exact ⟨g, cap, he, (hr2.cellAt 27 (by decide)).trans rfl, (hr2.cellAt 28 (by decide)).trans rfl, (hr2.cellAt 29 (by decide)).trans rfl, (hr2.cellAt 21 (by decide)).trans rfl, (hr2.cellAt 22 (by decide)).trans rfl, (hr2.cellAt 23 (by decide)).trans rfl⟩
theorem k_major (w : World) (hE : Env w) : Calls Tryz.prog 8 #[.string ⟨#[103, 101, 111, 47, 115, 104, 97, 112, 101, 115, 47, 118, 49, 50]⟩] w fun e w' => e = .returned (.tuple #[.int .i64 12, .int .i64 0]) ∧ Below w.heap.size w w' := by
  have h := major_any ⟨#[103, 101, 111, 47, 115, 104, 97, 112, 101, 115, 47, 118, 49, 50]⟩ w hE
  rw [a2] at h
  exact h
theorem k_path (w : World) (hE : Env w) : Calls Tryz.prog 13 #[.string ⟨#[97, 47, 118, 48]⟩] w fun e w' => e = .returned (.bool true) ∧ Below w.heap.size w w' := by
  have h := ispath_any ⟨#[97, 47, 118, 48]⟩ w hE
  unfold pathB at h
  rw [a3] at h
  exact h
theorem k_name (w : World) : Calls Tryz.prog 11 #[.string ⟨#[97]⟩] w fun e w' => e = .returned (.bool true) ∧ w' = w := by
  have h := isname_any ⟨#[97]⟩ w (by decide)
  rw [a4] at h
  exact h
theorem k_type (w : World) : Calls Tryz.prog 12 #[.string ⟨#[65]⟩] w fun e w' => e = .returned (.bool true) ∧ w' = w := by
  have h := istype_any ⟨#[65]⟩ w (by decide)
  rw [a5] at h
  exact h
theorem k_pos (w : World) : Calls Tryz.prog 9 #[.string ⟨#[97, 10, 98, 99]⟩, .int .i64 3] w fun e w' => e = .returned (.tuple #[.int .i64 2, .int .i64 2]) ∧ w' = w := by
  exact position_any ⟨#[97, 10, 98, 99]⟩ 3 w (by decide) (by decide) (by decide)
theorem k_quote (w : World) : Calls Tryz.prog 10 #[.string ⟨#[97, 34, 10]⟩] w fun e w' => e = .returned (.string ⟨#[34, 97, 92, 34, 92, 110, 34]⟩) ∧ Below w.heap.size w w' := by
  exact quote_any ⟨#[97, 34, 10]⟩ w (by decide)

set_option maxRecDepth 100000 in
set_option maxHeartbeats 4000000 in
theorem awake_any (w : World) (hE : Env w) : Calls Tryz.prog 4 #[] w fun e w' => e = .returned (.bool true) ∧ Below w.heap.size w w' := by
  go_enter Tryz.func4, Tryz.ntmps4
  go_wp2_with fail
  refine (k_lex w).mono ?_
  rintro e w1 ⟨⟨g, cap, rfl, c0, c1, c2, d0, d1, d2⟩, hb1⟩
  have hE1 := hE.below hb1
  go_wp2_with fail
  refine (k_major w1 hE1).mono ?_
  rintro e w2 ⟨rfl, hb⟩
  have hE2 := hE1.below hb
  have hb2 := hb1.trans (hb.mono hb1.size)
  replace c0 := (hb.cell (block_lt_any c0)).trans c0
  replace c1 := (hb.cell (block_lt_any c1)).trans c1
  replace c2 := (hb.cell (block_lt_any c2)).trans c2
  replace d0 := (hb.cell (block_lt_any d0)).trans d0
  replace d1 := (hb.cell (block_lt_any d1)).trans d1
  replace d2 := (hb.cell (block_lt_any d2)).trans d2
  clear hb1 hb hE1
  go_wp2_with fail
  refine (k_pos w2).mono ?_
  rintro e w3 ⟨rfl, rfl⟩
  clear c0 c1 c2 d0 d1 d2
  go_wp2_with fail
  refine (k_quote w3).mono ?_
  rintro e w4 ⟨rfl, hb⟩
  have hE4 := hE2.below hb
  have hb4 := hb2.trans (hb.mono hb2.size)
  clear hb hb2 hE2
  go_wp2_with fail
  refine (k_name w4).mono ?_
  rintro e w5 ⟨rfl, rfl⟩
  go_wp2_with fail
  refine (k_type w5).mono ?_
  rintro e w6 ⟨rfl, rfl⟩
  go_wp2_with fail
  refine (k_path w6 hE4).mono ?_
  rintro e w7 ⟨rfl, hb⟩
  have hb7 := hb4.trans (hb.mono hb4.size)
  clear hb hb4 hE4
  go_wp2_with fail
  go_ret
  exact ⟨rfl, hb7⟩
end Go.Proofs.YtmgmmbikdmobpaaGreatDoor
