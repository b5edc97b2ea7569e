/- codec: the reader's plain methods. -/
import Derived.Test.YtoimmmcmlbaenaaBase
namespace Go.Proofs.Ytoimmmcmlbaenaa
open Go.RowKit

/-- Block g is a reader of the bytes that are left, with its first error. -/
def ReaderIs (w : World) (g : Nat) (rest : ByteArray) (err : Int) : Prop := w.heap[g]? = some (.cells #[.string rest, .int .i64 err] 74 (0, 0))
theorem ReaderIs_cells {w : World} {g : Nat} {rest : ByteArray} {err : Int} (h : ReaderIs w g rest err) : w.cell? ⟨g, 0, none⟩ = some (.string rest) ∧ w.cell? ⟨g, 1, none⟩ = some (.int .i64 err) ∧ w.frozen? ⟨g, 0, none⟩ = false ∧ w.frozen? ⟨g, 1, none⟩ = false :=
  ⟨cell_of_row w g 0 _ _ _ h, cell_of_row w g 1 _ _ _ h, frozen_of_row w g 0 _ _ h, frozen_of_row w g 1 _ _ h⟩
theorem ReaderIs_below {w w' : World} {g : Nat} {rest : ByteArray} {err : Int} (h : ReaderIs w g rest err) (hb : Below w.heap.size w w') : ReaderIs w' g rest err :=
  (hb.block g (Array.getElem?_eq_some_iff.1 h).1).trans h

theorem cnew_any (s : ByteArray) (w : World) :
    Calls Try.prog 20 #[.string s] w
      fun e w' => e = .returned (.pointer (some ⟨w.heap.size, 0, none⟩)) ∧ ReaderIs w' w.heap.size s 0 ∧ Below w.heap.size w w' := by
  go_enter Try.func20, Try.ntmps20
  go_wp2_with fail
  go_ret
  exact ⟨rfl, heap_alloc_new w _, (Below.refl _ _).alloc (Nat.le_refl _) _⟩
theorem cerror_any (g : Nat) (rest : ByteArray) (err : Int) (w : World) (h : ReaderIs w g rest err) :
    Calls Try.prog 29 #[.pointer (some ⟨g, 0, none⟩)] w
      fun e w' => e = .returned (.int .i64 err) ∧ w' = w := by
  obtain ⟨h0, h1, h2, h3⟩ := ReaderIs_cells h
  go_enter Try.func29, Try.ntmps29
  go_wp2_with fail
  go_ret
  exact ⟨rfl, rfl⟩
theorem cfail_no (g : Nat) (rest : ByteArray) (err a : Int) (w : World) (h : ReaderIs w g rest err) (he : err ≠ 0) :
    Calls Try.prog 35 #[.pointer (some ⟨g, 0, none⟩), .int .i64 a] w
      fun e w' => e = .returned (.tuple #[]) ∧ w' = w := by
  obtain ⟨h0, h1, h2, h3⟩ := ReaderIs_cells h
  have hq : (err == 0) = false := by rw [beq_eq_false_iff_ne]; exact he
  go_enter Try.func35, Try.ntmps35
  go_wp2_with fail
  go_end0
  exact ⟨rfl, rfl⟩
theorem cfail_ok (g : Nat) (rest : ByteArray) (a : Int) (w : World) (h : ReaderIs w g rest 0) :
    Calls Try.prog 35 #[.pointer (some ⟨g, 0, none⟩), .int .i64 a] w
      fun e w' => e = .returned (.tuple #[]) ∧ ReaderIs w' g rest a ∧ w.grownBy w' (some g) := by
  obtain ⟨h0, h1, h2, h3⟩ := ReaderIs_cells h
  have hs : RowRel g 74 w #[.string rest, .int .i64 a] (w.setCell ⟨g, 1, none⟩ (.int .i64 a)) := RR_set (RR_start h) 1 (.int .i64 a)
  have KS := hid hs
  clear hs h
  go_enter Try.func35, Try.ntmps35
  go_wp2_with fail
  go_end0
  exact ⟨rfl, KS.out.2, KS.out.1⟩
/-- What End returns. -/
def endV (rest : ByteArray) (err : Int) : Int := if err = 0 then (match rest.data.toList with | [] => 0 | _ :: _ => 9) else err
theorem cend_any (g : Nat) (rest : ByteArray) (err : Int) (w : World) (h : ReaderIs w g rest err) :
    Calls Try.prog 30 #[.pointer (some ⟨g, 0, none⟩)] w
      fun e w' => e = .returned (.int .i64 (endV rest err)) ∧ w' = w := by
  obtain ⟨h0, h1, h2, h3⟩ := ReaderIs_cells h
  clear h
  by_cases he : err = 0
  · subst he
    obtain ⟨⟨l⟩⟩ := rest
    cases l with
    | nil =>
      go_enter Try.func30, Try.ntmps30
      go_wp2_with fail
      go_ret
      exact ⟨rfl, rfl⟩
    | cons b l =>
      go_enter Try.func30, Try.ntmps30
      go_wp2_with fail
      go_ret
      exact ⟨rfl, rfl⟩
  · have hv : endV rest err = err := if_neg he
    have KV := hid hv
    have hq : (err == 0) = false := by rw [beq_eq_false_iff_ne]; exact he
    clear he hv
    go_enter Try.func30, Try.ntmps30
    go_wp2_with fail
    go_ret
    exact ⟨by rw [KV.out]; rfl, rfl⟩
end Go.Proofs.Ytoimmmcmlbaenaa
