/- lexer: the reference's IsName, IsType. -/
import Derived.Test.YtjedcijddlilaaaGreatDoorLxR
namespace Go.Proofs.YtjedcijddlilaaaGreatDoor
open Go.RowKit

def kwB : List ByteArray := kwL.map fun l => ⟨l.toArray⟩
theorem kw_any (s : ByteArray) : (kwB.any fun p => p.toList == s.toList) = isKw s.data.toList := by
  unfold kwB isKw
  rw [List.any_map, ByteArray.toList_eq, Bool.eq_iff_iff, List.any_eq_true, List.contains_iff_mem]
  constructor
  · rintro ⟨x, hx, he⟩
    have h : x = s.data.toList := by
      have h2 := eq_of_beq he
      rw [ByteArray.toList_eq] at h2
      simpa using h2
    rw [← h]; exact hx
  · intro h
    refine ⟨_, h, ?_⟩
    simp [ByteArray.toList_eq]
/-- The keywords' list in the memory. -/
def kwW (w : World) : World := w.alloc (.cells (kwL.map fun l => Value.string ⟨l.toArray⟩).toArray 9)
theorem haskw_any (s : ByteArray) (w : World) :
    Calls Tryz.prog 149 #[.slice (some ⟨w.heap.size, 0, none⟩) 28 28, .string s] (kwW w) fun e w' => e = .returned (.bool (isKw s.data.toList)) ∧ w' = kwW w := by
  rw [← kw_any]
  have h := has_any w.heap.size 28 kwB s (kwW w) (by unfold kwB; rw [List.length_map]; decide) (fun j hj => by
    have hn : (kwW w).heap[w.heap.size]? = some (.cells (kwL.map fun l => Value.string ⟨l.toArray⟩).toArray 9 (0, 0)) := heap_alloc_new w _
    rw [cell_of_row (kwW w) w.heap.size j _ _ _ hn]
    unfold kwB at hj ⊢
    rw [List.length_map] at hj
    simp [List.getD_eq_getElem?_getD, hj])
  have hl : kwB.length = 28 := by unfold kwB; rw [List.length_map]; decide
  rw [hl] at h
  exact h
def nameB (l : List UInt8) : Bool := decide (1 ≤ l.length) && (decide (l.length ≤ 32) && (isSm (fst l) && ((spn isWd l == l.length) && !isKw l)))
def typeB (l : List UInt8) : Bool := decide (1 ≤ l.length) && (decide (l.length ≤ 32) && (isCp (fst l) && (spn isWd l == l.length)))

set_option maxRecDepth 100000 in
set_option maxHeartbeats 1000000 in
theorem risname_any (s : ByteArray) (w : World) (hs : s.size ≤ 9223372036854775807) :
    Calls Tryz.prog 91 #[.string s] w fun e w' => e = .returned (.bool (nameB s.data.toList)) ∧ Below w.heap.size w w' := by
  unfold nameB
  rw [size_list]
  have hc := fst_lt s.data.toList
  have hsm := fun w => rsmall_is (fst s.data.toList) w hc
  have hix := index0 s
  have HW := hid (fun w => rwords_any s w hs)
  have HR := hid (Below.refl w.heap.size w)
  have HK : Kpt (∀ w, Calls Tryz.prog 150 #[] w fun e w' => e = .returned (.slice (some ⟨w.heap.size, 0, none⟩) 28 28) ∧ w' = kwW w) := hid (fun w => rkeywords_any w)
  have HH := hid (fun w => haskw_any s w)
  have HB : Kpt (Below w.heap.size w (kwW w)) := hid ((Below.refl w.heap.size w).alloc (Nat.le_refl _) _)
  generalize isKw s.data.toList = B2 at HH ⊢
  generalize fst s.data.toList = c at *
  generalize (spn isWd s.data.toList == s.size) = B1 at *
  by_cases h1 : 1 ≤ s.size
  · have hix := hix h1
    have d1 : decide (1 ≤ s.size) = true := by simpa using h1
    rw [d1]
    by_cases h2 : s.size ≤ 32
    · have d2 : decide (s.size ≤ 32) = true := by simpa using h2
      rw [d2]
      cases q : isSm c with
      | true =>
        simp only [q] at hsm
        have HS := hid hsm
        clear hsm q d1 d2
        cases B1 with
        | true =>
          go_enter Tryz.func91, Tryz.ntmps91
          go_wp2_with fail
          refine (HS.out _).mono ?_
          rintro e w9 ⟨rfl, rfl⟩
          go_wp2_with fail
          refine (HW.out _).mono ?_
          rintro e w9 ⟨rfl, rfl⟩
          go_wp2_with fail
          refine (HK.out _).mono ?_
          rintro e w9 ⟨rfl, rfl⟩
          go_wp2_with fail
          refine (HH.out _).mono ?_
          rintro e w9 ⟨rfl, rfl⟩
          go_wp2_with fail
          go_ret
          exact ⟨rfl, HB.out⟩
        | false =>
          go_enter Tryz.func91, Tryz.ntmps91
          go_wp2_with fail
          refine (HS.out _).mono ?_
          rintro e w9 ⟨rfl, rfl⟩
          go_wp2_with fail
          refine (HW.out _).mono ?_
          rintro e w9 ⟨rfl, rfl⟩
          go_wp2_with fail
          go_ret
          exact ⟨rfl, HR.out⟩
      | false =>
        simp only [q] at hsm
        have HS := hid hsm
        clear hsm q d1 d2
        go_enter Tryz.func91, Tryz.ntmps91
        go_wp2_with fail
        refine (HS.out _).mono ?_
        rintro e w9 ⟨rfl, rfl⟩
        go_wp2_with fail
        go_ret
        exact ⟨rfl, HR.out⟩
    · have d2 : decide (s.size ≤ 32) = false := by simpa using h2
      rw [d2]
      clear d1 d2
      go_enter Tryz.func91, Tryz.ntmps91
      go_wp2_with fail
      go_ret
      exact ⟨rfl, HR.out⟩
  · have d1 : decide (1 ≤ s.size) = false := by simpa using h1
    rw [d1]
    clear d1
    go_enter Tryz.func91, Tryz.ntmps91
    go_wp2_with fail
    go_ret
    exact ⟨rfl, HR.out⟩

set_option maxRecDepth 100000 in
set_option maxHeartbeats 1000000 in
theorem ristype_any (s : ByteArray) (w : World) (hs : s.size ≤ 9223372036854775807) :
    Calls Tryz.prog 60 #[.string s] w fun e w' => e = .returned (.bool (typeB s.data.toList)) ∧ Below w.heap.size w w' := by
  unfold typeB
  rw [size_list]
  have hc := fst_lt s.data.toList
  have hsm := fun w => rcap_is (fst s.data.toList) w hc
  have hix := index0 s
  have HW := hid (fun w => rwords_any s w hs)
  have HR := hid (Below.refl w.heap.size w)
  generalize fst s.data.toList = c at *
  generalize (spn isWd s.data.toList == s.size) = B1 at *
  by_cases h1 : 1 ≤ s.size
  · have hix := hix h1
    have d1 : decide (1 ≤ s.size) = true := by simpa using h1
    rw [d1]
    by_cases h2 : s.size ≤ 32
    · have d2 : decide (s.size ≤ 32) = true := by simpa using h2
      rw [d2]
      cases q : isCp c with
      | true =>
        simp only [q] at hsm
        have HS := hid hsm
        clear hsm q d1 d2
        cases B1 with
        | true =>
          go_enter Tryz.func60, Tryz.ntmps60
          go_wp2_with fail
          refine (HS.out _).mono ?_
          rintro e w9 ⟨rfl, rfl⟩
          go_wp2_with fail
          refine (HW.out _).mono ?_
          rintro e w9 ⟨rfl, rfl⟩
          go_wp2_with fail
          go_ret
          exact ⟨rfl, HR.out⟩
        | false =>
          go_enter Tryz.func60, Tryz.ntmps60
          go_wp2_with fail
          refine (HS.out _).mono ?_
          rintro e w9 ⟨rfl, rfl⟩
          go_wp2_with fail
          refine (HW.out _).mono ?_
          rintro e w9 ⟨rfl, rfl⟩
          go_wp2_with fail
          go_ret
          exact ⟨rfl, HR.out⟩
      | false =>
        simp only [q] at hsm
        have HS := hid hsm
        clear hsm q d1 d2
        go_enter Tryz.func60, Tryz.ntmps60
        go_wp2_with fail
        refine (HS.out _).mono ?_
        rintro e w9 ⟨rfl, rfl⟩
        go_wp2_with fail
        go_ret
        exact ⟨rfl, HR.out⟩
    · have d2 : decide (s.size ≤ 32) = false := by simpa using h2
      rw [d2]
      clear d1 d2
      go_enter Tryz.func60, Tryz.ntmps60
      go_wp2_with fail
      go_ret
      exact ⟨rfl, HR.out⟩
  · have d1 : decide (1 ≤ s.size) = false := by simpa using h1
    rw [d1]
    clear d1
    go_enter Tryz.func60, Tryz.ntmps60
    go_wp2_with fail
    go_ret
    exact ⟨rfl, HR.out⟩

theorem nameB_is (l : List UInt8) : nameB l = isWk l 1 := by
  unfold nameB isWk isWrd wkOf isLt
  cases l with
  | nil => rfl
  | cons a l =>
    have h1 : decide (1 ≤ (a :: l).length) = true := by simp
    rw [h1]
    generalize (spn isWd (a :: l) == (a :: l).length) = Z
    generalize isKw (a :: l) = K
    generalize isSm (fst (a :: l)) = S
    generalize isCp (fst (a :: l)) = C
    by_cases h2 : 32 < (a :: l).length
    · rw [if_pos h2, decide_eq_false (by omega)]
      cases Z <;> cases K <;> cases S <;> cases C <;> rfl
    · rw [if_neg h2, decide_eq_true (by omega)]
      cases Z <;> cases K <;> cases S <;> cases C <;> rfl
theorem kw_small (l : List UInt8) (h : isKw l = true) : isSm (fst l) = true := by
  have hall : (kwL.all fun l => isSm (fst l)) = true := by decide +kernel
  unfold isKw at h
  rw [List.contains_iff_mem] at h
  exact List.all_eq_true.1 hall l h
theorem typeB_is (l : List UInt8) : typeB l = isWk l 2 := by
  unfold typeB isWk isWrd wkOf isLt
  cases l with
  | nil => rfl
  | cons a l =>
    have h1 : decide (1 ≤ (a :: l).length) = true := by simp
    have hk := kw_small (a :: l)
    have hx : isSm (fst (a :: l)) = true → isCp (fst (a :: l)) = false := by unfold isSm isCp; simp; omega
    rw [h1]
    generalize (spn isWd (a :: l) == (a :: l).length) = Z
    generalize isKw (a :: l) = K at hk ⊢
    generalize isSm (fst (a :: l)) = S at hk hx ⊢
    generalize isCp (fst (a :: l)) = C at hx ⊢
    by_cases h2 : 32 < (a :: l).length
    · rw [if_pos h2, decide_eq_false (by omega)]
      cases Z <;> cases K <;> cases S <;> cases C <;> first | rfl | (have := hk rfl; contradiction) | (have := hx rfl; contradiction)
    · rw [if_neg h2, decide_eq_true (by omega)]
      cases Z <;> cases K <;> cases S <;> cases C <;> first | rfl | (have := hk rfl; contradiction) | (have := hx rfl; contradiction)
end Go.Proofs.YtjedcijddlilaaaGreatDoor
