/- The law's result of a call of a reader. -/
import Derived.Test.YtoimmmcmlbaenaaCWrt
namespace Go.Proofs.Ytoimmmcmlbaenaa
open Go.RowKit

/-- A result's cells. -/
def resC (a : Int) (t : ByteArray) (v : Value) (e : Int) : Array Value := #[.int .i64 a, .string t, v, .int .i64 e]
/-- The world in which a call is looked at. -/
def resW (k n : Int) (w : World) : World :=
  ((w.alloc (.cells #[.int .i64 k, .int .i64 n] 43)).alloc (.cells (resC 0 ⟨#[]⟩ (.slice none 0 0) 0) 39)).alloc (.cells (resC 0 ⟨#[]⟩ (.slice none 0 0) 0) 39)
theorem resW_below (k n : Int) (w : World) : Below w.heap.size w (resW k n w) :=
  (((Below.refl w.heap.size w).alloc (Nat.le_refl _) _).alloc (alloc_le (Nat.le_refl _) _) _).alloc (alloc_le (alloc_le (Nat.le_refl _) _) _) _
theorem resW_size (k n : Int) (w : World) : (resW k n w).heap.size = w.heap.size + 1 + 1 + 1 := by simp [resW]
theorem resW_new (k n : Int) (w : World) : (resW k n w).heap[w.heap.size + 1 + 1]? = some (.cells (resC 0 ⟨#[]⟩ (.slice none 0 0) 0) 39 (0, 0)) := by
  have h := heap_alloc_new ((w.alloc (.cells #[.int .i64 k, .int .i64 n] 43)).alloc (.cells (resC 0 ⟨#[]⟩ (.slice none 0 0) 0) 39)) (.cells (resC 0 ⟨#[]⟩ (.slice none 0 0) 0) 39)
  have e : ((w.alloc (.cells #[.int .i64 k, .int .i64 n] 43)).alloc (.cells (resC 0 ⟨#[]⟩ (.slice none 0 0) 0) 39)).heap.size = w.heap.size + 1 + 1 := by simp
  rw [e] at h
  exact h
theorem resW_res (k n : Int) (w : World) : (resW k n w).heap[w.heap.size + 1]? = some (.cells (resC 0 ⟨#[]⟩ (.slice none 0 0) 0) 39 (0, 0)) := by
  have h := heap_alloc_new (w.alloc (.cells #[.int .i64 k, .int .i64 n] 43)) (.cells (resC 0 ⟨#[]⟩ (.slice none 0 0) 0) 39)
  have h2 := heap_alloc_old ((w.alloc (.cells #[.int .i64 k, .int .i64 n] 43)).alloc (.cells (resC 0 ⟨#[]⟩ (.slice none 0 0) 0) 39)) (.cells (resC 0 ⟨#[]⟩ (.slice none 0 0) 0) 39) (Array.getElem?_eq_some_iff.1 h).1
  have h3 := h2.trans h
  have e : (w.alloc (.cells #[.int .i64 k, .int .i64 n] 43)).heap.size = w.heap.size + 1 := by simp
  rw [e] at h3
  exact h3
theorem resW_call (k n : Int) (w : World) : (resW k n w).heap[w.heap.size]? = some (.cells #[.int .i64 k, .int .i64 n] 43 (0, 0)) := by
  have h := heap_alloc_new w (.cells #[.int .i64 k, .int .i64 n] 43)
  have h2 := heap_alloc_old (w.alloc (.cells #[.int .i64 k, .int .i64 n] 43)) (.cells (resC 0 ⟨#[]⟩ (.slice none 0 0) 0) 39) (Array.getElem?_eq_some_iff.1 h).1
  have h3 := heap_alloc_old ((w.alloc (.cells #[.int .i64 k, .int .i64 n] 43)).alloc (.cells (resC 0 ⟨#[]⟩ (.slice none 0 0) 0) 39)) (.cells (resC 0 ⟨#[]⟩ (.slice none 0 0) 0) 39) (Array.getElem?_eq_some_iff.1 (h2.trans h)).1
  exact h3.trans (h2.trans h)
/-- Behind a reader's step: the two results stand as they stood. -/
structure ResAt (k n : Int) (g : Nat) (w w1 : World) : Prop where
  gb : w.grownBy w1 (some g)
  new : w1.heap[w.heap.size + 1 + 1]? = some (.cells (resC 0 ⟨#[]⟩ (.slice none 0 0) 0) 39 (0, 0))
  res : w1.heap[w.heap.size + 1]? = some (.cells (resC 0 ⟨#[]⟩ (.slice none 0 0) 0) 39 (0, 0))
theorem ResAt_of {k n : Int} {g : Nat} {w w1 : World} (hg : g < w.heap.size) (h : (resW k n w).grownBy w1 (some g)) : ResAt k n g w w1 :=
  ⟨gb_trans (gb_none (gb_of_below (resW_below k n w)) _) h, (gb_heap h (by rw [resW_size]; omega) (by omega)).trans (resW_new k n w), (gb_heap h (by rw [resW_size]; omega) (by omega)).trans (resW_res k n w)⟩
theorem cells4 {w : World} {b : Nat} {a : Int} {t : ByteArray} {v : Value} {e : Int} {T : TypeId} (h : w.heap[b]? = some (.cells (resC a t v e) T (0, 0))) :
    (w.cell? ⟨b, 0, none⟩ = some (.int .i64 a) ∧ w.cell? ⟨b, 1, none⟩ = some (.string t) ∧ w.cell? ⟨b, 2, none⟩ = some v ∧ w.cell? ⟨b, 3, none⟩ = some (.int .i64 e)) ∧ (w.frozen? ⟨b, 0, none⟩ = false ∧ w.frozen? ⟨b, 1, none⟩ = false ∧ w.frozen? ⟨b, 2, none⟩ = false ∧ w.frozen? ⟨b, 3, none⟩ = false) :=
  ⟨⟨cell_of_row w b 0 _ _ _ h, cell_of_row w b 1 _ _ _ h, cell_of_row w b 2 _ _ _ h, cell_of_row w b 3 _ _ _ h⟩, frozen_of_row w b 0 _ _ h, frozen_of_row w b 1 _ _ h, frozen_of_row w b 2 _ _ h, frozen_of_row w b 3 _ _ h⟩

/-- The result is laid into its place. -/
theorem res_end {w w2 : World} {g : Nat} {s' : ByteArray} {a : Int} {t : ByteArray} {v : Value} {e' : Int} (hg : g < w.heap.size) (hgb : w.grownBy w2 (some g)) (hR : ReaderIs w2 g s' e')
    (hres : w2.heap[w.heap.size + 1]? = some (.cells (resC 0 ⟨#[]⟩ (.slice none 0 0) 0) 39 (0, 0))) :
    (((((w2.setCell ⟨w.heap.size + 1 + 1, 3, none⟩ (.int .i64 e')).setCell ⟨w.heap.size + 1, 0, none⟩ (.int .i64 a)).setCell ⟨w.heap.size + 1, 1, none⟩ (.string t)).setCell ⟨w.heap.size + 1, 2, none⟩ v).setCell ⟨w.heap.size + 1, 3, none⟩ (.int .i64 e')).heap[w.heap.size + 1]? = some (.cells (resC a t v e') 39 (0, 0))
    ∧ ReaderIs (((((w2.setCell ⟨w.heap.size + 1 + 1, 3, none⟩ (.int .i64 e')).setCell ⟨w.heap.size + 1, 0, none⟩ (.int .i64 a)).setCell ⟨w.heap.size + 1, 1, none⟩ (.string t)).setCell ⟨w.heap.size + 1, 2, none⟩ v).setCell ⟨w.heap.size + 1, 3, none⟩ (.int .i64 e')) g s' e'
    ∧ w.grownBy (((((w2.setCell ⟨w.heap.size + 1 + 1, 3, none⟩ (.int .i64 e')).setCell ⟨w.heap.size + 1, 0, none⟩ (.int .i64 a)).setCell ⟨w.heap.size + 1, 1, none⟩ (.string t)).setCell ⟨w.heap.size + 1, 2, none⟩ v).setCell ⟨w.heap.size + 1, 3, none⟩ (.int .i64 e')) (some g) := by
  have h3 : (w2.setCell ⟨w.heap.size + 1 + 1, 3, none⟩ (.int .i64 e')).heap[w.heap.size + 1]? = some (.cells (resC 0 ⟨#[]⟩ (.slice none 0 0) 0) 39 (0, 0)) :=
    (heap_setCell_other _ _ _ _ (by show w.heap.size + 1 ≠ w.heap.size + 1 + 1; omega)).trans hres
  have hR3 : ReaderIs (w2.setCell ⟨w.heap.size + 1 + 1, 3, none⟩ (.int .i64 e')) g s' e' := (heap_setCell_other _ _ _ _ (by show g ≠ w.heap.size + 1 + 1; omega)).trans hR
  have hg3 : w.grownBy (w2.setCell ⟨w.heap.size + 1 + 1, 3, none⟩ (.int .i64 e')) (some g) := gb_setNew hgb (by show w.heap.size ≤ w.heap.size + 1 + 1; omega) _
  generalize w2.setCell ⟨w.heap.size + 1 + 1, 3, none⟩ (.int .i64 e') = w3 at h3 hR3 hg3 ⊢
  have hR4 := RR_set (RR_set (RR_set (RR_set (RR_start h3) 0 (.int .i64 a)) 1 (.string t)) 2 v) 3 (.int .i64 e')
  exact ⟨hR4.2, (gb_heap hR4.1 (Reader_lt hR3) (by omega)).trans hR3, gb_own hg3 hR4.1 (fun k e => by injection e with e; omega)⟩

set_option maxRecDepth 100000 in
set_option maxHeartbeats 2000000 in
theorem result0 (n : Int) (g : Nat) (s : ByteArray) (err : Int) (w : World) (h : ReaderIs w g s err) (hs : s.size ≤ 1099511627776) :
    Calls Try.prog 23 #[.pointer (some ⟨g, 0, none⟩), .agg #[.int .i64 0, .int .i64 n]] w
      fun e w' => e = .returned (.agg (resC (rCount 9223372036854775807 s err).1 ⟨#[]⟩ (.slice none 0 0) (rCount 9223372036854775807 s err).2.2)) ∧ ReaderIs w' g (rCount 9223372036854775807 s err).2.1 (rCount 9223372036854775807 s err).2.2 ∧ w.grownBy w' (some g) := by
  have hgl := Reader_lt h
  have hc := cruint_any g s err (resW 0 n w) (ReaderIs_below h (resW_below 0 n w)) (by omega)
  generalize rCount 9223372036854775807 s err = x at hc ⊢
  obtain ⟨a, s', e'⟩ := x
  simp only at hc ⊢
  have HC := hid (And.intro hc hgl)
  clear hc h hgl
  go_enter Try.func23, Try.ntmps23
  go_wp2_with fail
  refine HC.out.1.mono ?_
  rintro e w1 ⟨rfl, hR1, hg1⟩
  have hA := ResAt_of HC.out.2 hg1
  obtain ⟨⟨c0, c1, c2, c3⟩, f0, f1, f2, f3⟩ := cells4 hA.new
  have hS : RowRel (w.heap.size + 1 + 1) 39 w1 (resC a ⟨#[]⟩ (.slice none 0 0) 0) (w1.setCell ⟨w.heap.size + 1 + 1, 0, none⟩ (.int .i64 a)) := RR_set (RR_start hA.new) 0 _
  have KA := hid (And.intro hA (And.intro hR1 hS))
  clear hA hR1 hS hg1
  go_wp2_with fail
  have hS := KA.out.2.2
  generalize w1.setCell ⟨w.heap.size + 1 + 1, 0, none⟩ (.int .i64 a) = w2 at hS ⊢
  clear c0 c1 c2 c3 f0 f1 f2 f3
  have hR2 : ReaderIs w2 g s' e' := (gb_heap hS.1 (Reader_lt KA.out.2.1) (by have := HC.out.2; omega)).trans KA.out.2.1
  refine (cerror_any g s' e' w2 hR2).mono ?_
  rintro e w2' ⟨rfl, rfl⟩
  have hres := (gb_heap hS.1 (Array.getElem?_eq_some_iff.1 KA.out.1.res).1 (by omega)).trans KA.out.1.res
  have hgb : w.grownBy w2' (some g) := gb_own KA.out.1.gb hS.1 (fun k e => by injection e with e; omega)
  obtain ⟨⟨c0, c1, c2, c3⟩, f0, f1, f2, f3⟩ := cells4 hS.2
  obtain ⟨⟨d0, d1, d2, d3⟩, k0, k1, k2, k3⟩ := cells4 hres
  have KE := hid (res_end (a := a) (t := ⟨#[]⟩) (v := (.slice none 0 0)) HC.out.2 hgb hR2 hres)
  clear hS hR2 hres hgb
  go_wp2_with fail
  exact bodyPost_ret (v := .agg (resC a ⟨#[]⟩ (.slice none 0 0) e')) (results_cell_row rfl _ _ (w.heap.size + 1) 39 (resC a ⟨#[]⟩ (.slice none 0 0) e') (0, 0) _ rfl KE.out.1 Try.underlying39 rfl (by kernel_rfl)) rfl ⟨rfl, KE.out.2.1, KE.out.2.2⟩

set_option maxRecDepth 100000 in
set_option maxHeartbeats 2000000 in
theorem result1 (n : Int) (g : Nat) (s : ByteArray) (err : Int) (w : World) (h : ReaderIs w g s err) (hs : s.size ≤ 1099511627776) :
    Calls Try.prog 23 #[.pointer (some ⟨g, 0, none⟩), .agg #[.int .i64 1, .int .i64 n]] w
      fun e w' => e = .returned (.agg (resC (rInt s err).1 ⟨#[]⟩ (.slice none 0 0) (rInt s err).2.2)) ∧ ReaderIs w' g (rInt s err).2.1 (rInt s err).2.2 ∧ w.grownBy w' (some g) := by
  have hgl := Reader_lt h
  have hc := crint_any g s err (resW 1 n w) (ReaderIs_below h (resW_below 1 n w)) (by omega)
  generalize rInt s err = x at hc ⊢
  obtain ⟨a, s', e'⟩ := x
  simp only at hc ⊢
  have HC := hid (And.intro hc hgl)
  clear hc h hgl
  go_enter Try.func23, Try.ntmps23
  go_wp2_with fail
  refine HC.out.1.mono ?_
  rintro e w1 ⟨rfl, hR1, hg1⟩
  have hA := ResAt_of HC.out.2 hg1
  obtain ⟨⟨c0, c1, c2, c3⟩, f0, f1, f2, f3⟩ := cells4 hA.new
  have hS : RowRel (w.heap.size + 1 + 1) 39 w1 (resC a ⟨#[]⟩ (.slice none 0 0) 0) (w1.setCell ⟨w.heap.size + 1 + 1, 0, none⟩ (.int .i64 a)) := RR_set (RR_start hA.new) 0 _
  have KA := hid (And.intro hA (And.intro hR1 hS))
  clear hA hR1 hS hg1
  go_wp2_with fail
  have hS := KA.out.2.2
  generalize w1.setCell ⟨w.heap.size + 1 + 1, 0, none⟩ (.int .i64 a) = w2 at hS ⊢
  clear c0 c1 c2 c3 f0 f1 f2 f3
  have hR2 : ReaderIs w2 g s' e' := (gb_heap hS.1 (Reader_lt KA.out.2.1) (by have := HC.out.2; omega)).trans KA.out.2.1
  refine (cerror_any g s' e' w2 hR2).mono ?_
  rintro e w2' ⟨rfl, rfl⟩
  have hres := (gb_heap hS.1 (Array.getElem?_eq_some_iff.1 KA.out.1.res).1 (by omega)).trans KA.out.1.res
  have hgb : w.grownBy w2' (some g) := gb_own KA.out.1.gb hS.1 (fun k e => by injection e with e; omega)
  obtain ⟨⟨c0, c1, c2, c3⟩, f0, f1, f2, f3⟩ := cells4 hS.2
  obtain ⟨⟨d0, d1, d2, d3⟩, k0, k1, k2, k3⟩ := cells4 hres
  have KE := hid (res_end (a := a) (t := ⟨#[]⟩) (v := (.slice none 0 0)) HC.out.2 hgb hR2 hres)
  clear hS hR2 hres hgb
  go_wp2_with fail
  exact bodyPost_ret (v := .agg (resC a ⟨#[]⟩ (.slice none 0 0) e')) (results_cell_row rfl _ _ (w.heap.size + 1) 39 (resC a ⟨#[]⟩ (.slice none 0 0) e') (0, 0) _ rfl KE.out.1 Try.underlying39 rfl (by kernel_rfl)) rfl ⟨rfl, KE.out.2.1, KE.out.2.2⟩

set_option maxRecDepth 100000 in
set_option maxHeartbeats 2000000 in
theorem result2 (n : Int) (g : Nat) (s : ByteArray) (err : Int) (w : World) (h : ReaderIs w g s err) (hs : s.size ≤ 1099511627776) :
    Calls Try.prog 23 #[.pointer (some ⟨g, 0, none⟩), .agg #[.int .i64 2, .int .i64 n]] w
      fun e w' => e = .returned (.agg (resC 0 (rText s err).1 (.slice none 0 0) (rText s err).2.2)) ∧ ReaderIs w' g (rText s err).2.1 (rText s err).2.2 ∧ w.grownBy w' (some g) := by
  have hgl := Reader_lt h
  have hc := crtext_any g s err (resW 2 n w) (ReaderIs_below h (resW_below 2 n w)) (by omega)
  generalize rText s err = x at hc ⊢
  obtain ⟨a, s', e'⟩ := x
  simp only at hc ⊢
  have HC := hid (And.intro hc hgl)
  clear hc h hgl
  go_enter Try.func23, Try.ntmps23
  go_wp2_with fail
  refine HC.out.1.mono ?_
  rintro e w1 ⟨rfl, hR1, hg1⟩
  have hA := ResAt_of HC.out.2 hg1
  obtain ⟨⟨c0, c1, c2, c3⟩, f0, f1, f2, f3⟩ := cells4 hA.new
  have hS : RowRel (w.heap.size + 1 + 1) 39 w1 (resC 0 a (.slice none 0 0) 0) (w1.setCell ⟨w.heap.size + 1 + 1, 1, none⟩ (.string a)) := RR_set (RR_start hA.new) 1 _
  have KA := hid (And.intro hA (And.intro hR1 hS))
  clear hA hR1 hS hg1
  go_wp2_with fail
  have hS := KA.out.2.2
  generalize w1.setCell ⟨w.heap.size + 1 + 1, 1, none⟩ (.string a) = w2 at hS ⊢
  clear c0 c1 c2 c3 f0 f1 f2 f3
  have hR2 : ReaderIs w2 g s' e' := (gb_heap hS.1 (Reader_lt KA.out.2.1) (by have := HC.out.2; omega)).trans KA.out.2.1
  refine (cerror_any g s' e' w2 hR2).mono ?_
  rintro e w2' ⟨rfl, rfl⟩
  have hres := (gb_heap hS.1 (Array.getElem?_eq_some_iff.1 KA.out.1.res).1 (by omega)).trans KA.out.1.res
  have hgb : w.grownBy w2' (some g) := gb_own KA.out.1.gb hS.1 (fun k e => by injection e with e; omega)
  obtain ⟨⟨c0, c1, c2, c3⟩, f0, f1, f2, f3⟩ := cells4 hS.2
  obtain ⟨⟨d0, d1, d2, d3⟩, k0, k1, k2, k3⟩ := cells4 hres
  have KE := hid (res_end (a := 0) (t := a) (v := (.slice none 0 0)) HC.out.2 hgb hR2 hres)
  clear hS hR2 hres hgb
  go_wp2_with fail
  exact bodyPost_ret (v := .agg (resC 0 a (.slice none 0 0) e')) (results_cell_row rfl _ _ (w.heap.size + 1) 39 (resC 0 a (.slice none 0 0) e') (0, 0) _ rfl KE.out.1 Try.underlying39 rfl (by kernel_rfl)) rfl ⟨rfl, KE.out.2.1, KE.out.2.2⟩

set_option maxRecDepth 100000 in
set_option maxHeartbeats 2000000 in
theorem result3 (n : Int) (g : Nat) (s : ByteArray) (err : Int) (w : World) (h : ReaderIs w g s err) (hs : s.size ≤ 1099511627776) :
    Calls Try.prog 23 #[.pointer (some ⟨g, 0, none⟩), .agg #[.int .i64 3, .int .i64 n]] w
      fun e w' => e = .returned (.agg (resC (rCount n s err).1 ⟨#[]⟩ (.slice none 0 0) (rCount n s err).2.2)) ∧ ReaderIs w' g (rCount n s err).2.1 (rCount n s err).2.2 ∧ w.grownBy w' (some g) := by
  have hgl := Reader_lt h
  have hc := ccount_any n g s err (resW 3 n w) (ReaderIs_below h (resW_below 3 n w)) (by omega)
  generalize rCount n s err = x at hc ⊢
  obtain ⟨a, s', e'⟩ := x
  simp only at hc ⊢
  have HC := hid (And.intro hc hgl)
  clear hc h hgl
  go_enter Try.func23, Try.ntmps23
  go_wp2_with fail
  refine HC.out.1.mono ?_
  rintro e w1 ⟨rfl, hR1, hg1⟩
  have hA := ResAt_of HC.out.2 hg1
  obtain ⟨⟨c0, c1, c2, c3⟩, f0, f1, f2, f3⟩ := cells4 hA.new
  have hS : RowRel (w.heap.size + 1 + 1) 39 w1 (resC a ⟨#[]⟩ (.slice none 0 0) 0) (w1.setCell ⟨w.heap.size + 1 + 1, 0, none⟩ (.int .i64 a)) := RR_set (RR_start hA.new) 0 _
  have KA := hid (And.intro hA (And.intro hR1 hS))
  clear hA hR1 hS hg1
  go_wp2_with fail
  have hS := KA.out.2.2
  generalize w1.setCell ⟨w.heap.size + 1 + 1, 0, none⟩ (.int .i64 a) = w2 at hS ⊢
  clear c0 c1 c2 c3 f0 f1 f2 f3
  have hR2 : ReaderIs w2 g s' e' := (gb_heap hS.1 (Reader_lt KA.out.2.1) (by have := HC.out.2; omega)).trans KA.out.2.1
  refine (cerror_any g s' e' w2 hR2).mono ?_
  rintro e w2' ⟨rfl, rfl⟩
  have hres := (gb_heap hS.1 (Array.getElem?_eq_some_iff.1 KA.out.1.res).1 (by omega)).trans KA.out.1.res
  have hgb : w.grownBy w2' (some g) := gb_own KA.out.1.gb hS.1 (fun k e => by injection e with e; omega)
  obtain ⟨⟨c0, c1, c2, c3⟩, f0, f1, f2, f3⟩ := cells4 hS.2
  obtain ⟨⟨d0, d1, d2, d3⟩, k0, k1, k2, k3⟩ := cells4 hres
  have KE := hid (res_end (a := a) (t := ⟨#[]⟩) (v := (.slice none 0 0)) HC.out.2 hgb hR2 hres)
  clear hS hR2 hres hgb
  go_wp2_with fail
  exact bodyPost_ret (v := .agg (resC a ⟨#[]⟩ (.slice none 0 0) e')) (results_cell_row rfl _ _ (w.heap.size + 1) 39 (resC a ⟨#[]⟩ (.slice none 0 0) e') (0, 0) _ rfl KE.out.1 Try.underlying39 rfl (by kernel_rfl)) rfl ⟨rfl, KE.out.2.1, KE.out.2.2⟩

set_option maxRecDepth 100000 in
set_option maxHeartbeats 2000000 in
theorem result4 (n : Int) (g : Nat) (s : ByteArray) (err : Int) (w : World) (h : ReaderIs w g s err) (hs : s.size ≤ 1099511627776) :
    Calls Try.prog 23 #[.pointer (some ⟨g, 0, none⟩), .agg #[.int .i64 4, .int .i64 n]] w
      fun e w' => (∃ v, e = .returned (.agg (resC 0 ⟨#[]⟩ v (rTexts s err).2.2)) ∧ OwnS w' w.heap.size v (rTexts s err).1) ∧ ReaderIs w' g (rTexts s err).2.1 (rTexts s err).2.2 ∧ w.grownBy w' (some g) := by
  have hgl := Reader_lt h
  have hc := crtexts_any g s err (resW 4 n w) (ReaderIs_below h (resW_below 4 n w)) (by omega)
  generalize rTexts s err = x at hc ⊢
  obtain ⟨a, s', e'⟩ := x
  simp only at hc ⊢
  have HC := hid (And.intro hc hgl)
  clear hc h hgl
  go_enter Try.func23, Try.ntmps23
  go_wp2_with fail
  refine HC.out.1.mono ?_
  rintro e w1 ⟨⟨v, rfl, ho⟩, hR1, hg1⟩
  obtain ⟨bv, cv, rfl⟩ := own_slice ho
  have hlv := World.ownsRow.lt ho
  have hB1 := hg1.size
  have KO := hid (And.intro ho hlv)
  clear ho hlv
  have hA := ResAt_of HC.out.2 hg1
  obtain ⟨⟨c0, c1, c2, c3⟩, f0, f1, f2, f3⟩ := cells4 hA.new
  have hS : RowRel (w.heap.size + 1 + 1) 39 w1 (resC 0 ⟨#[]⟩ (.slice bv a.length cv) 0) (w1.setCell ⟨w.heap.size + 1 + 1, 2, none⟩ (.slice bv a.length cv)) := RR_set (RR_start hA.new) 2 _
  have KA := hid (And.intro hA (And.intro hR1 hS))
  clear hA hR1 hS hg1
  go_wp2_with fail
  have hS := KA.out.2.2
  generalize w1.setCell ⟨w.heap.size + 1 + 1, 2, none⟩ (.slice bv a.length cv) = w2 at hS ⊢
  clear c0 c1 c2 c3 f0 f1 f2 f3
  have hR2 : ReaderIs w2 g s' e' := (gb_heap hS.1 (Reader_lt KA.out.2.1) (by have := HC.out.2; omega)).trans KA.out.2.1
  refine (cerror_any g s' e' w2 hR2).mono ?_
  rintro e w2' ⟨rfl, rfl⟩
  have hres := (gb_heap hS.1 (Array.getElem?_eq_some_iff.1 KA.out.1.res).1 (by omega)).trans KA.out.1.res
  have hgb : w.grownBy w2' (some g) := gb_own KA.out.1.gb hS.1 (fun k e => by injection e with e; omega)
  obtain ⟨⟨c0, c1, c2, c3⟩, f0, f1, f2, f3⟩ := cells4 hS.2
  obtain ⟨⟨d0, d1, d2, d3⟩, k0, k1, k2, k3⟩ := cells4 hres
  have KE := hid (res_end (a := 0) (t := ⟨#[]⟩) (v := (.slice bv a.length cv)) HC.out.2 hgb hR2 hres)
  have hO2 : OwnS w2' w.heap.size (.slice bv a.length cv) a := by
    refine own_mono (base := (resW 4 n w).heap.size) ?_ (by rw [resW_size]; omega)
    exact World.ownsRow.kept KO.out.1 hS.1 (by cases hk : (Value.slice bv a.length cv).ownBlock with | none => exact Or.inl rfl | some k => exact Or.inr (fun e => by injection e with e; have := (KO.out.2 k hk).1; rw [resW_size] at this; omega))
  have hlo : ∀ k, (Value.slice bv a.length cv).ownBlock = some k → w.heap.size + 1 + 1 < k := fun k hk => by have := (KO.out.2 k hk).1; rw [resW_size] at this; omega
  have KL := hid (And.intro hO2 hlo)
  clear hO2 hlo
  clear hS hR2 hres hgb
  go_wp2_with fail
  refine bodyPost_ret (v := .agg (resC 0 ⟨#[]⟩ (.slice bv a.length cv) e')) (results_cell_row rfl _ _ (w.heap.size + 1) 39 (resC 0 ⟨#[]⟩ (.slice bv a.length cv) e') (0, 0) _ rfl KE.out.1 Try.underlying39 rfl (by kernel_rfl)) rfl ⟨⟨_, rfl, ?_⟩, KE.out.2.1, KE.out.2.2⟩
  have hne : ∀ b, b ≤ w.heap.size + 1 + 1 → (Value.slice bv a.length cv).ownBlock ≠ some b := fun b hb e => by have := KL.out.2 b e; omega
  exact ownsRow_setCell_other (ownsRow_setCell_other (ownsRow_setCell_other (ownsRow_setCell_other (ownsRow_setCell_other KL.out.1 (hne _ (by show w.heap.size + 1 + 1 ≤ _; omega)) _) (hne _ (by show w.heap.size + 1 ≤ _; omega)) _) (hne _ (by show w.heap.size + 1 ≤ _; omega)) _) (hne _ (by show w.heap.size + 1 ≤ _; omega)) _) (hne _ (by show w.heap.size + 1 ≤ _; omega)) _

set_option maxRecDepth 100000 in
set_option maxHeartbeats 2000000 in
theorem result5 (n : Int) (g : Nat) (s : ByteArray) (err : Int) (w : World) (h : ReaderIs w g s err) :
    Calls Try.prog 23 #[.pointer (some ⟨g, 0, none⟩), .agg #[.int .i64 5, .int .i64 n]] w
      fun e w' => e = .returned (.agg (resC 0 ⟨#[]⟩ (.slice none 0 0) (failE n err))) ∧ ReaderIs w' g s (failE n err) ∧ w.grownBy w' (some g) := by
  have hgl := Reader_lt h
  have hc := cfail_any g s err n (resW 5 n w) (ReaderIs_below h (resW_below 5 n w))
  generalize failE n err = e' at hc ⊢
  have HC := hid (And.intro hc hgl)
  clear hc h hgl
  go_enter Try.func23, Try.ntmps23
  go_wp2_with fail
  refine HC.out.1.mono ?_
  rintro e w1 ⟨rfl, hR1, hg1⟩
  have KA := hid (And.intro (ResAt_of HC.out.2 hg1) hR1)
  clear hR1 hg1
  go_wp2_with fail
  refine (cerror_any g s e' w1 KA.out.2).mono ?_
  rintro e w2 ⟨rfl, rfl⟩
  obtain ⟨⟨c0, c1, c2, c3⟩, f0, f1, f2, f3⟩ := cells4 KA.out.1.new
  obtain ⟨⟨d0, d1, d2, d3⟩, k0, k1, k2, k3⟩ := cells4 KA.out.1.res
  have KE := hid (res_end (a := 0) (t := ⟨#[]⟩) (v := .slice none 0 0) HC.out.2 KA.out.1.gb KA.out.2 KA.out.1.res)
  go_wp2_with fail
  exact bodyPost_ret (v := .agg (resC 0 ⟨#[]⟩ (.slice none 0 0) e')) (results_cell_row rfl _ _ (w.heap.size + 1) 39 (resC 0 ⟨#[]⟩ (.slice none 0 0) e') (0, 0) _ rfl KE.out.1 Try.underlying39 rfl (by kernel_rfl)) rfl ⟨rfl, KE.out.2.1, KE.out.2.2⟩

set_option maxRecDepth 100000 in
set_option maxHeartbeats 2000000 in
theorem result_no (k n : Int) (g : Nat) (s : ByteArray) (e' : Int) (w : World) (h : ReaderIs w g s e') (hk : k < 0 ∨ 6 < k) :
    Calls Try.prog 23 #[.pointer (some ⟨g, 0, none⟩), .agg #[.int .i64 k, .int .i64 n]] w
      fun e w' => e = .returned (.agg (resC 0 ⟨#[]⟩ (.slice none 0 0) e')) ∧ ReaderIs w' g s e' ∧ w.grownBy w' (some g) := by
  have hgl := Reader_lt h
  have HC := hid (And.intro trivial hgl)
  have KA := hid (And.intro (ResAt_of (k := k) (n := n) hgl (World.grownBy.refl _ _)) (ReaderIs_below h (resW_below k n w)))
  have q0 : (k == 0) = false := by rw [beq_eq_false_iff_ne]; omega
  have q1 : (k == 1) = false := by rw [beq_eq_false_iff_ne]; omega
  have q2 : (k == 2) = false := by rw [beq_eq_false_iff_ne]; omega
  have q3 : (k == 3) = false := by rw [beq_eq_false_iff_ne]; omega
  have q4 : (k == 4) = false := by rw [beq_eq_false_iff_ne]; omega
  have q5 : (k == 5) = false := by rw [beq_eq_false_iff_ne]; omega
  have q6 : (k == 6) = false := by rw [beq_eq_false_iff_ne]; omega
  clear h hgl hk
  go_enter Try.func23, Try.ntmps23
  go_wp2_with fail
  refine (cerror_any g s e' (resW k n w) KA.out.2).mono ?_
  rintro e w2 ⟨rfl, hw⟩
  subst hw
  obtain ⟨⟨c0, c1, c2, c3⟩, f0, f1, f2, f3⟩ := cells4 KA.out.1.new
  obtain ⟨⟨d0, d1, d2, d3⟩, k0, k1, k2, k3⟩ := cells4 KA.out.1.res
  have KE := hid (res_end (a := 0) (t := ⟨#[]⟩) (v := .slice none 0 0) HC.out.2 KA.out.1.gb KA.out.2 KA.out.1.res)
  go_wp2_with fail
  exact bodyPost_ret (v := .agg (resC 0 ⟨#[]⟩ (.slice none 0 0) e')) (results_cell_row rfl _ _ (w.heap.size + 1) 39 (resC 0 ⟨#[]⟩ (.slice none 0 0) e') (0, 0) _ rfl KE.out.1 Try.underlying39 rfl (by kernel_rfl)) rfl ⟨rfl, KE.out.2.1, KE.out.2.2⟩

set_option maxRecDepth 100000 in
set_option maxHeartbeats 2000000 in
theorem result6 (n : Int) (g : Nat) (s : ByteArray) (e' : Int) (w : World) (h : ReaderIs w g s e') :
    Calls Try.prog 23 #[.pointer (some ⟨g, 0, none⟩), .agg #[.int .i64 6, .int .i64 n]] w
      fun e w' => e = .returned (.agg (resC (endV s e') ⟨#[]⟩ (.slice none 0 0) e')) ∧ ReaderIs w' g s e' ∧ w.grownBy w' (some g) := by
  have hgl := Reader_lt h
  have hA0 := ResAt_of (k := 6) (n := n) hgl (World.grownBy.refl _ _)
  have hc := cend_any g s e' (resW 6 n w) (ReaderIs_below h (resW_below 6 n w))
  generalize endV s e' = a at hc ⊢
  have HC := hid (And.intro hc hgl)
  have K0 := hid (And.intro hA0 (ReaderIs_below h (resW_below 6 n w)))
  clear hc h hgl hA0
  go_enter Try.func23, Try.ntmps23
  go_wp2_with fail
  refine HC.out.1.mono ?_
  rintro e w1 ⟨rfl, hw⟩
  have hA : ResAt 6 n g w w1 := by rw [hw]; exact K0.out.1
  have hR1 : ReaderIs w1 g s e' := by rw [hw]; exact K0.out.2
  clear hw
  obtain ⟨⟨c0, c1, c2, c3⟩, f0, f1, f2, f3⟩ := cells4 hA.new
  have hS : RowRel (w.heap.size + 1 + 1) 39 w1 (resC a ⟨#[]⟩ (.slice none 0 0) 0) (w1.setCell ⟨w.heap.size + 1 + 1, 0, none⟩ (.int .i64 a)) := RR_set (RR_start hA.new) 0 _
  have KA := hid (And.intro hA (And.intro hR1 hS))
  clear hA hR1 hS
  go_wp2_with fail
  have hS := KA.out.2.2
  generalize w1.setCell ⟨w.heap.size + 1 + 1, 0, none⟩ (.int .i64 a) = w2 at hS ⊢
  clear c0 c1 c2 c3 f0 f1 f2 f3
  have hR2 : ReaderIs w2 g s e' := (gb_heap hS.1 (Reader_lt KA.out.2.1) (by have := HC.out.2; omega)).trans KA.out.2.1
  refine (cerror_any g s e' w2 hR2).mono ?_
  rintro e w2' ⟨rfl, rfl⟩
  have hres := (gb_heap hS.1 (Array.getElem?_eq_some_iff.1 KA.out.1.res).1 (by omega)).trans KA.out.1.res
  have hgb : w.grownBy w2' (some g) := gb_own KA.out.1.gb hS.1 (fun k e => by injection e with e; omega)
  obtain ⟨⟨c0, c1, c2, c3⟩, f0, f1, f2, f3⟩ := cells4 hS.2
  obtain ⟨⟨d0, d1, d2, d3⟩, k0, k1, k2, k3⟩ := cells4 hres
  have KE := hid (res_end (a := a) (t := ⟨#[]⟩) (v := (.slice none 0 0)) HC.out.2 hgb hR2 hres)
  clear hS hR2 hres hgb
  go_wp2_with fail
  exact bodyPost_ret (v := .agg (resC a ⟨#[]⟩ (.slice none 0 0) e')) (results_cell_row rfl _ _ (w.heap.size + 1) 39 (resC a ⟨#[]⟩ (.slice none 0 0) e') (0, 0) _ rfl KE.out.1 Try.underlying39 rfl (by kernel_rfl)) rfl ⟨rfl, KE.out.2.1, KE.out.2.2⟩

/-- What a call of a reader returns and leaves: the number, the text, the list, the bytes that are left, the error. -/
def rRes (k n : Int) (s : ByteArray) (e : Int) : Int × ByteArray × List ByteArray × ByteArray × Int :=
  if k = 0 then ((rCount 9223372036854775807 s e).1, ⟨#[]⟩, [], (rCount 9223372036854775807 s e).2)
  else if k = 1 then ((rInt s e).1, ⟨#[]⟩, [], (rInt s e).2)
  else if k = 2 then (0, (rText s e).1, [], (rText s e).2)
  else if k = 3 then ((rCount n s e).1, ⟨#[]⟩, [], (rCount n s e).2)
  else if k = 4 then (0, ⟨#[]⟩, (rTexts s e).1, (rTexts s e).2)
  else if k = 5 then (0, ⟨#[]⟩, [], s, failE n e)
  else if k = 6 then (endV s e, ⟨#[]⟩, [], s, e)
  else (0, ⟨#[]⟩, [], s, e)
theorem result_any (k n : Int) (g : Nat) (s : ByteArray) (err : Int) (w : World) (h : ReaderIs w g s err) (hs : s.size ≤ 1099511627776) :
    Calls Try.prog 23 #[.pointer (some ⟨g, 0, none⟩), .agg #[.int .i64 k, .int .i64 n]] w
      fun e w' => (∃ v, e = .returned (.agg (resC (rRes k n s err).1 (rRes k n s err).2.1 v (rRes k n s err).2.2.2.2)) ∧ OwnS w' w.heap.size v (rRes k n s err).2.2.1) ∧ ReaderIs w' g (rRes k n s err).2.2.2.1 (rRes k n s err).2.2.2.2 ∧ w.grownBy w' (some g) := by
  unfold rRes
  by_cases h0 : k = 0
  · subst h0; rw [if_pos rfl]
    exact (result0 n g s err w h hs).mono fun e w' ⟨h1, h2, h3⟩ => ⟨⟨_, h1, World.ownsRow_nil _ _ _ _⟩, h2, h3⟩
  rw [if_neg h0]
  by_cases h1 : k = 1
  · subst h1; rw [if_pos rfl]
    exact (result1 n g s err w h hs).mono fun e w' ⟨h1, h2, h3⟩ => ⟨⟨_, h1, World.ownsRow_nil _ _ _ _⟩, h2, h3⟩
  rw [if_neg h1]
  by_cases h2 : k = 2
  · subst h2; rw [if_pos rfl]
    exact (result2 n g s err w h hs).mono fun e w' ⟨h1, h2, h3⟩ => ⟨⟨_, h1, World.ownsRow_nil _ _ _ _⟩, h2, h3⟩
  rw [if_neg h2]
  by_cases h3 : k = 3
  · subst h3; rw [if_pos rfl]
    exact (result3 n g s err w h hs).mono fun e w' ⟨h1, h2, h3⟩ => ⟨⟨_, h1, World.ownsRow_nil _ _ _ _⟩, h2, h3⟩
  rw [if_neg h3]
  by_cases h4 : k = 4
  · subst h4; rw [if_pos rfl]
    exact result4 n g s err w h hs
  rw [if_neg h4]
  by_cases h5 : k = 5
  · subst h5; rw [if_pos rfl]
    exact (result5 n g s err w h).mono fun e w' ⟨h1, h2, h3⟩ => ⟨⟨_, h1, World.ownsRow_nil _ _ _ _⟩, h2, h3⟩
  rw [if_neg h5]
  by_cases h6 : k = 6
  · subst h6; rw [if_pos rfl]
    exact (result6 n g s err w h).mono fun e w' ⟨h1, h2, h3⟩ => ⟨⟨_, h1, World.ownsRow_nil _ _ _ _⟩, h2, h3⟩
  rw [if_neg h6]
  exact (result_no k n g s err w h (by omega)).mono fun e w' ⟨h1, h2, h3⟩ => ⟨⟨_, h1, World.ownsRow_nil _ _ _ _⟩, h2, h3⟩
theorem rRes_size (k n : Int) (s : ByteArray) (e : Int) : (rRes k n s e).2.2.2.1.size ≤ s.size := by
  have hl : ∀ (m : Nat) (acc : List ByteArray) (s : ByteArray) (e : Int), (rList m acc s e).2.1.size ≤ s.size := by
    intro m
    induction m with
    | zero => intro acc s e; exact Nat.le_refl _
    | succ m ih =>
      intro acc s e
      rw [rList]
      split
      · exact Nat.le_trans (ih _ _ _) (rText_size s e)
      · exact rText_size s e
  unfold rRes
  repeat' split
  · exact rCount_size _ s e
  · exact rNum_size s e
  · exact rText_size s e
  · exact rCount_size _ s e
  · exact Nat.le_trans (hl _ _ _ _) (rCount_size _ s e)
  · exact Nat.le_refl _
  · exact Nat.le_refl _
  · exact Nat.le_refl _
end Go.Proofs.Ytoimmmcmlbaenaa
