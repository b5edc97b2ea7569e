/- lexer: isWord, IsName, IsType, isSegment. -/
import Derived.Test.YtjedcijddlilaaaGreatDoorLxW
namespace Go.Proofs.YtjedcijddlilaaaGreatDoor
open Go.RowKit

/-- A word: not empty, a letter first, word characters alone. -/
def isWrd (l : List UInt8) : Bool := !l.isEmpty && isLt (fst l) && spn isWd l == l.length
/-- A word of a kind. -/
def isWk (l : List UInt8) (k : Int) : Bool := isWrd l && wkOf l == some k
def isSgm (l : List UInt8) : Bool := isWk l 1 && spn isSg l == l.length
theorem isWk_empty (l : List UInt8) (k : Int) (h : l = []) : isWk l k = false := by subst h; rfl
theorem isWk_letter (l : List UInt8) (k : Int) (h : isLt (fst l) = false) : isWk l k = false := by unfold isWk isWrd; rw [h]; simp
theorem isWk_short (l : List UInt8) (k : Int) (h : spn isWd l < l.length) : isWk l k = false := by
  unfold isWk isWrd; rw [beq_eq_false_iff_ne.2 (Nat.ne_of_lt h)]; simp
theorem isWk_kind (l : List UInt8) (k : Int) (h0 : l ≠ []) (h1 : isLt (fst l) = true) (h2 : ¬ spn isWd l < l.length) : isWk l k = (wkOf l == some k) := by
  have h3 := spn_le isWd l
  unfold isWk isWrd; rw [h1, beq_iff_eq.2 (by omega : spn isWd l = l.length)]; simp [h0]

set_option maxRecDepth 100000 in
set_option maxHeartbeats 2000000 in
theorem isword_any (s : ByteArray) (k : Int) (w : World) (hs : s.size ≤ 9223372036854775807) :
    Calls Tryz.prog 110 #[.string s, .int .i64 k] w fun e w' => e = .returned (.bool (isWk s.data.toList k)) ∧ w' = w := by
  by_cases h0 : s = ⟨#[]⟩
  · have hz := isWk_empty s.data.toList k (by rw [h0])
    rw [hz]
    clear hz
    subst h0
    go_enter Tryz.func110, Tryz.ntmps110
    go_wp2_with fail
    go_ret
    exact ⟨rfl, rfl⟩
  have hl0 : s.data.toList ≠ [] := fun h => h0 (by apply ByteArray.ext; apply Array.toList_inj.1; rw [h])
  have hne : (s.toList == []) = false := by rw [ByteArray.toList_eq]; simpa using hl0
  have hpos : 0 < s.size := by rw [← size_list]; exact List.length_pos_iff.2 hl0
  have hix := index0 s hpos
  have hc := fst_lt s.data.toList
  have hlet := fun w => letter_is (fst s.data.toList) w (fst_lt _)
  have hsp := fun w => span_word s w hs
  have hwk := fun w => wordkind_any s w hpos
  have ke := isWk_letter s.data.toList k
  have kk := isWk_kind s.data.toList k hl0
  have ks := isWk_short s.data.toList k
  rw [size_list] at kk ks
  generalize isWk s.data.toList k = R at ke kk ks ⊢
  generalize fst s.data.toList = c at hix hc hlet ke kk
  generalize spn isWd s.data.toList = n at hsp kk ks
  generalize wkOf s.data.toList = W at hwk kk
  clear hl0 h0
  cases q1 : isLt c with
  | false =>
    have hR := ke q1
    subst hR
    simp only [q1] at hlet
    have HL := hid hlet
    clear hlet hsp hwk ke kk ks q1
    go_enter Tryz.func110, Tryz.ntmps110
    go_wp2_with fail
    refine (HL.out _).mono ?_
    rintro e w1 ⟨rfl, rfl⟩
    go_wp2_with fail
    go_ret
    exact ⟨rfl, rfl⟩
  | true =>
    simp only [q1] at hlet
    have HL := hid hlet
    have HS := hid hsp
    have kk := kk q1
    clear hlet hsp ke q1
    by_cases h2 : n < s.size
    · have hR := ks h2
      subst hR
      clear hwk ks kk
      go_enter Tryz.func110, Tryz.ntmps110
      go_wp2_with fail
      refine (HL.out _).mono ?_
      rintro e w1 ⟨rfl, rfl⟩
      go_wp2_with fail
      refine (HS.out _).mono ?_
      rintro e w2 ⟨rfl, rfl⟩
      go_wp2_with fail
      go_ret
      exact ⟨rfl, rfl⟩
    · have hR := kk h2
      subst hR
      clear ks kk
      cases W with
      | none =>
        have HW : Kpt (∀ w, Calls Tryz.prog 171 #[.string s] w fun e w' => e = .returned (.tuple #[.int .i64 0, .bool false]) ∧ w' = w) := hid hwk
        clear hwk
        go_enter Tryz.func110, Tryz.ntmps110
        go_wp2_with fail
        refine (HL.out _).mono ?_
        rintro e w1 ⟨rfl, rfl⟩
        go_wp2_with fail
        refine (HS.out _).mono ?_
        rintro e w2 ⟨rfl, rfl⟩
        go_wp2_with fail
        refine (HW.out _).mono ?_
        rintro e w3 ⟨rfl, rfl⟩
        go_wp2_with fail
        go_ret
        exact ⟨rfl, rfl⟩
      | some j =>
        have HW : Kpt (∀ w, Calls Tryz.prog 171 #[.string s] w fun e w' => e = .returned (.tuple #[.int .i64 j, .bool true]) ∧ w' = w) := hid hwk
        have hq : (some j == some k) = (j == k) := rfl
        rw [hq]
        clear hwk hq
        go_enter Tryz.func110, Tryz.ntmps110
        go_wp2_with fail
        refine (HL.out _).mono ?_
        rintro e w1 ⟨rfl, rfl⟩
        go_wp2_with fail
        refine (HS.out _).mono ?_
        rintro e w2 ⟨rfl, rfl⟩
        go_wp2_with fail
        refine (HW.out _).mono ?_
        rintro e w3 ⟨rfl, rfl⟩
        go_wp2_with fail
        go_ret
        exact ⟨rfl, rfl⟩

set_option maxRecDepth 100000 in
theorem isname_any (s : ByteArray) (w : World) (hs : s.size ≤ 9223372036854775807) :
    Calls Tryz.prog 85 #[.string s] w fun e w' => e = .returned (.bool (isWk s.data.toList 1)) ∧ w' = w := by
  have HW := hid (fun w => isword_any s 1 w hs)
  generalize isWk s.data.toList 1 = R at HW ⊢
  clear hs
  go_enter Tryz.func85, Tryz.ntmps85
  go_wp2_with fail
  refine (HW.out _).mono ?_
  rintro e w3 ⟨rfl, rfl⟩
  go_wp2_with fail
  go_ret
  exact ⟨rfl, rfl⟩

set_option maxRecDepth 100000 in
theorem istype_any (s : ByteArray) (w : World) (hs : s.size ≤ 9223372036854775807) :
    Calls Tryz.prog 59 #[.string s] w fun e w' => e = .returned (.bool (isWk s.data.toList 2)) ∧ w' = w := by
  have HW := hid (fun w => isword_any s 2 w hs)
  generalize isWk s.data.toList 2 = R at HW ⊢
  clear hs
  go_enter Tryz.func59, Tryz.ntmps59
  go_wp2_with fail
  refine (HW.out _).mono ?_
  rintro e w3 ⟨rfl, rfl⟩
  go_wp2_with fail
  go_ret
  exact ⟨rfl, rfl⟩

set_option maxRecDepth 100000 in
theorem issegment_any (s : ByteArray) (w : World) (hs : s.size ≤ 9223372036854775807) :
    Calls Tryz.prog 186 #[.string s] w fun e w' => e = .returned (.bool (isSgm s.data.toList)) ∧ w' = w := by
  have hw := fun w => isword_any s 1 w hs
  have HS := hid (fun w => span_seg s w hs)
  unfold isSgm
  rw [size_list]
  generalize isWk s.data.toList 1 = R at hw ⊢
  generalize spn isSg s.data.toList = n at HS ⊢
  cases R with
  | false =>
    have HW := hid hw
    clear hw
    go_enter Tryz.func186, Tryz.ntmps186
    go_wp2_with fail
    refine (HW.out _).mono ?_
    rintro e w3 ⟨rfl, rfl⟩
    go_wp2_with fail
    go_ret
    exact ⟨rfl, rfl⟩
  | true =>
    have HW := hid hw
    clear hw
    go_enter Tryz.func186, Tryz.ntmps186
    go_wp2_with fail
    refine (HW.out _).mono ?_
    rintro e w3 ⟨rfl, rfl⟩
    go_wp2_with fail
    refine (HS.out _).mono ?_
    rintro e w4 ⟨rfl, rfl⟩
    go_wp2_with fail
    go_ret
    exact ⟨ret_bool (by rw [Bool.true_and, Bool.eq_iff_iff]; simp; omega), rfl⟩
end Go.Proofs.YtjedcijddlilaaaGreatDoor
