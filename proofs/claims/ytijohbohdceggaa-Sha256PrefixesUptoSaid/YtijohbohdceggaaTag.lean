/- Sum, Tagged. -/
import Derived.Test.YtijohbohdceggaaSum
namespace Go.Proofs.Ytijohbohdceggaa
open Go.RowKit

theorem HashIs_below {w w' : World} {g : Nat} {m : List UInt8} (h : HashIs w g m) (hb : Below w.heap.size w w') : HashIs w' g m := by
  obtain ⟨blk, h1, h2, h3⟩ := h
  exact ⟨blk, h1, h2, (hb.block g (Array.getElem?_eq_some_iff.1 h3).1).trans h3⟩
theorem HashIs_lt {w : World} {g : Nat} {m : List UInt8} (h : HashIs w g m) : g < w.heap.size := by
  obtain ⟨blk, h1, h2, h3⟩ := h
  exact (Array.getElem?_eq_some_iff.1 h3).1
theorem HashIs_cell {w w' : World} {g : Nat} {m : List UInt8} (h : HashIs w g m) (hb : w'.heap[g]? = w.heap[g]?) : HashIs w' g m := by
  obtain ⟨blk, h1, h2, h3⟩ := h
  exact ⟨blk, h1, h2, hb.trans h3⟩

set_option maxHeartbeats 400000 in
theorem sha_any (s : ByteArray) (w : World) (hs : s.size < 1152921504606846976) :
    Calls Try.prog 11 #[.string s] w fun e w' => e = .returned (.string ⟨(sha s.data.toList).toArray⟩) ∧ Below w.heap.size w w' := by
  go_enter Try.func11, Try.ntmps11
  go_wp2_with fail
  refine (new_any w).mono ?_
  rintro e w1 ⟨rfl, hH, hb⟩
  go_wp2_with fail
  refine (write_any w.heap.size [] s w1 hH (by simp; omega)).mono ?_
  rintro e w2 ⟨rfl, hH2, hg⟩
  have hb2 : Below w.heap.size w w2 := hb.trans (below_of_gb hg hb.size (Nat.le_refl _))
  clear hH hg hb
  go_wp2_with fail
  refine (sum_any w.heap.size ([] ++ s.data.toList) w2 hH2 (by simp; show s.size < _; omega)).mono ?_
  rintro e w3 ⟨rfl, hb3⟩
  have hb4 := hid (hb2.trans (hb3.mono hb2.size))
  clear hb3 hb2 hH2
  go_wp2_with fail
  go_ret
  exact ⟨rfl, hb4.out⟩

/-- A string with its length in front. -/
def enc (l : List UInt8) : List UInt8 := be8 l.length ++ l
def Z8B : List UInt8 := List.replicate 8 0

theorem slice_size (B : Nat) (w : World) : (Instr.sliceAt 56 (.pointer (some ⟨B, 0, none⟩)) none none none).run Try.prog w = .ok (.slice (some ⟨B, 0, none⟩) 8 8) w := by
  kernel_rfl

set_option maxRecDepth 100000 in
set_option maxHeartbeats 1000000 in
/-- The function that adds a string, with its length in front, to the state that the captured variable points to. -/
theorem add_any (g : Nat) (p : Addr) (m : List UInt8) (s : ByteArray) (w : World) (h : HashIs w g m) (hp : w.cell? p = some (.pointer (some ⟨g, 0, none⟩))) (hne : p.block ≠ g) (hb : m.length + 8 + s.size < 4611686018427387904) :
    Calls Try.prog 30 #[.string s, .pointer (some p)] w
      fun e w' => e = .returned (.tuple #[]) ∧ HashIs w' g (m ++ enc s.data.toList) ∧ w.grownBy w' (some g) := by
  have hgl := HashIs_lt h
  have hpl := block_lt_of_cell hp
  go_enter Try.func30, Try.ntmps30
  go_wp2_with (with_reducible refine wpList_run_alloc rfl 56 rfl (byteCells Z8B).toArray (by kernel_rfl) ?_)
  have ha := heap_alloc_new w (.cells (byteCells Z8B).toArray 56)
  have hb1 : Below w.heap.size w (w.alloc (.cells (byteCells Z8B).toArray 56)) := (Below.refl _ _).alloc (Nat.le_refl _) _
  generalize w.alloc (.cells (byteCells Z8B).toArray 56) = w1 at ha hb1
  refine (putLength_any w.heap.size 0 8 s.size 56 (byteCells Z8B) w1 ha (by decide) (by omega)).mono ?_
  rintro e w2 ⟨rfl, hR⟩
  rw [part_all _ _ (by rw [byteCells_length, byteCells_length, be8_length]; rfl)] at hR
  have hb2 : Below w.heap.size w w2 := hb1.trans (below_of_gb hR.1 hb1.size (Nat.le_refl _))
  have hp2 : w2.cell? p = some (.pointer (some ⟨g, 0, none⟩)) := (hb2.cell hpl).trans hp
  have hH2 : HashIs w2 g m := HashIs_below h hb2
  have hcv : ∀ n, (convert 34 9 (.slice (some ⟨w.heap.size, 0, none⟩) 8 8)).run Try.prog (w2.drewN n) = .ok (.string ⟨(be8 s.size).toArray⟩) (w2.drewN n) := fun n =>
    run_bytes_row (P := Try.prog) (w2.drewN n) 34 9 5 w.heap.size 0 8 8 56 (0, 0) (byteCells (be8 s.size)) (be8 s.size) Try.underlying34 Try.underlying5 Try.underlying9 hR.2 (be8_length _)
      (fun j hj => by simp [byteCells, List.getD, be8_length, hj])
  have hg2 : w.grownBy w2 (some g) := gb_none (gb_of_below hb2) _
  have KH := hid (And.intro hH2 hg2)
  clear ha hb1 hR hb2 hp h hH2 hg2
  go_wp2_with fail
  refine wp_region_quiet_tail 3 (by kernel_rfl) (by kernel_rfl) ?_
  simp only [List.take_succ_cons, List.take_zero, List.drop_succ_cons, List.drop_zero]
  repeat (go_big_quiet_step (fail))
  refine wpQuiet_nil ?_
  intro _ hw'
  obtain ⟨nq, hx⟩ := hw'
  subst hx
  go_wp2_with fail
  obtain ⟨hH2, hg2⟩ := KH.out
  refine (write_any g m ⟨(be8 s.size).toArray⟩ (w2.drewN nq) hH2 (by show m.length + (be8 s.size).toArray.size < _; simp [be8_length]; omega)).mono ?_
  rintro e w3 ⟨rfl, hH3, hg3⟩
  have hp3 : w3.cell? p = some (.pointer (some ⟨g, 0, none⟩)) := hg3.cell (w := w2.drewN nq) hp2 (by intro e; injection e with e; exact hne e)
  have hg4 := gb_trans (gb_drew hg2 nq) hg3
  have KH3 := hid (And.intro hH3 hg4)
  clear hH2 hg2 hH3 hg3 hg4 hp2 hcv KH
  go_wp2_with fail
  obtain ⟨hH3, hg4⟩ := KH3.out
  refine (write_any g _ s w3 hH3 (by simp [be8_length]; omega)).mono ?_
  rintro e w4 ⟨rfl, hH4, hg5⟩
  have KH4 := hid (And.intro hH4 (gb_trans hg4 hg5))
  clear hH3 hg4 hH4 hg5 hp3 KH3
  go_wp2_with fail
  go_end0
  refine ⟨rfl, ?_, KH4.out.2⟩
  have := KH4.out.1
  rw [List.append_assoc] at this
  exact this
end Go.Proofs.Ytijohbohdceggaa
