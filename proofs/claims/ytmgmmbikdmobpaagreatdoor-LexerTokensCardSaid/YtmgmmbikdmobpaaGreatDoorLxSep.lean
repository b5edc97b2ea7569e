/- lexer: separator. -/
import Derived.Test.YtmgmmbikdmobpaaGreatDoorLxW
import Derived.Test.YtmgmmbikdmobpaaGreatDoorShL
namespace Go.Proofs.YtmgmmbikdmobpaaGreatDoor
open Go.RowKit

theorem spn_cons (p : Nat → Bool) (b : UInt8) (l : List UInt8) : spn p (b :: l) = if p b.toNat = true then spn p l + 1 else 0 := by
  unfold spn
  rw [List.takeWhile_cons]
  by_cases h : p b.toNat = true
  · rw [if_pos h, if_pos h]; simp
  · rw [if_neg h, if_neg h]; rfl
/-- Two slashes at the beginning. -/
def cmt (l : List UInt8) : Bool := Lib.hasPrefix l [47, 47]
theorem cmt_pos {l : List UInt8} (h : cmt l = true) : 2 ≤ spn isNl l := by
  unfold cmt Lib.hasPrefix at h
  rw [List.isPrefixOf_iff_prefix] at h
  obtain ⟨t, rfl⟩ := h
  show 2 ≤ spn isNl (47 :: 47 :: t)
  rw [spn_cons, if_pos (by decide), spn_cons, if_pos (by decide)]
  omega
/-- The number of bytes of the blanks and comments at the beginning. -/
def sep (l : List UInt8) : Nat :=
  if _h : cmt (l.drop (spn isBl l)) = true then spn isBl l + spn isNl (l.drop (spn isBl l)) + sep (l.drop (spn isBl l + spn isNl (l.drop (spn isBl l)))) else spn isBl l
  termination_by l.length
  decreasing_by
    have h1 := cmt_pos _h
    have h2 := spn_le isNl (l.drop (spn isBl l))
    rw [List.length_drop] at h2 ⊢
    omega
theorem sep_no (l : List UInt8) (h : cmt (l.drop (spn isBl l)) = false) : sep l = spn isBl l := by
  rw [sep, dif_neg (by rw [h]; decide)]
theorem sep_yes (l : List UInt8) (h : cmt (l.drop (spn isBl l)) = true) : sep l = spn isBl l + spn isNl (l.drop (spn isBl l)) + sep (l.drop (spn isBl l + spn isNl (l.drop (spn isBl l)))) := by
  rw [sep, dif_pos h]
theorem sep_le (l : List UInt8) : sep l ≤ l.length := by
  have key : ∀ (n : Nat) (l : List UInt8), l.length ≤ n → sep l ≤ l.length := by
    intro n
    induction n with
    | zero =>
      intro l hl
      have : l = [] := List.eq_nil_of_length_eq_zero (by omega)
      subst this
      rw [sep_no _ (by decide)]
      exact spn_le _ _
    | succ n ih =>
      intro l hl
      have h0 := spn_le isBl l
      cases hc : cmt (l.drop (spn isBl l)) with
      | true =>
        have h1 := cmt_pos hc
        have h2 := spn_le isNl (l.drop (spn isBl l))
        rw [List.length_drop] at h2
        rw [sep_yes l hc]
        have h3 := ih (l.drop (spn isBl l + spn isNl (l.drop (spn isBl l)))) (by rw [List.length_drop]; omega)
        rw [List.length_drop] at h3
        omega
      | false => rw [sep_no l hc]; exact h0
  exact key _ l (Nat.le_refl _)
theorem from_bytes (s : ByteArray) (k : Nat) : (s.extract k s.size).data.toList = s.data.toList.drop k := by
  rw [ByteArray.data_extract]
  simp
  exact List.take_of_length_le (by rw [List.length_drop, size_list]; exact Nat.le_refl _)
theorem from_size (s : ByteArray) (k : Nat) : (s.extract k s.size).size = s.size - k := by rw [← size_list, from_bytes, List.length_drop, size_list]

set_option maxRecDepth 100000 in
set_option maxHeartbeats 2000000 in
theorem lsep_any (s : ByteArray) (w : World) (hs : s.size ≤ 4611686018427387904) :
    Calls Tryz.prog 25 #[.string s] w fun e w' => e = .returned (.int .i64 (sep s.data.toList : Int)) ∧ w' = w := by
  go_enter Tryz.func25, Tryz.ntmps25
  go_wp2_with fail
  go_loopw [3] (fun i wr => ∃ k : Nat, k ≤ s.size ∧ i = .int .i64 (k : Int) ∧ sep s.data.toList = k + sep (s.data.toList.drop k) ∧ wr = w) (fun i _ => s.size - (intOf i).toNat)
  case atStart => exact ⟨0, by omega, rfl, by rw [List.drop_zero]; omega, rfl⟩
  case round =>
    obtain ⟨k, hk, rfl, hsep, rfl⟩ := hrel
    have hb := fun w => span_blank (s.extract k s.size) w (by rw [from_size]; omega)
    have hble := spn_le isBl (s.data.toList.drop k)
    rw [List.length_drop, size_list] at hble
    simp only [from_bytes] at hb
    have hno := sep_no (s.data.toList.drop k)
    have hyes := sep_yes (s.data.toList.drop k)
    rw [List.drop_drop] at hno hyes
    generalize spn isBl (s.data.toList.drop k) = a at hb hble hno hyes
    have hp := Tryz.strings_HasPrefix (s.extract (k + a) s.size) ⟨#[47, 47]⟩
    rw [from_bytes] at hp
    have hl := fun w => span_line (s.extract (k + a) s.size) w (by rw [from_size]; omega)
    simp only [from_bytes] at hl
    have hlle := spn_le isNl (s.data.toList.drop (k + a))
    rw [List.length_drop, size_list] at hlle
    cases q : cmt (s.data.toList.drop (k + a)) with
    | true =>
      have hpos := cmt_pos q
      have hq2 : Lib.hasPrefix (s.data.toList.drop (k + a)) (ByteArray.mk #[47, 47]).data.toList = true := q
      rw [hq2] at hp
      have hy := hyes q
      generalize spn isNl (s.data.toList.drop (k + a)) = b at hl hlle hpos hy
      rw [List.drop_drop] at hy
      have hnext : Kpt (sep s.data.toList = k + a + b + sep (s.data.toList.drop (k + a + b))) := hid (by rw [hsep, hy]; rw [show k + (a + b) = k + a + b by omega]; omega)
      have HH := hid (And.intro hb (And.intro hp hl))
      clear hb hp hl hno hyes q hq2 hy hsep
      go_wp2_with fail
      refine (HH.out.1 _).mono ?_
      rintro e w1 ⟨rfl, rfl⟩
      go_wp2_with fail
      refine (HH.out.2.1 _).mono ?_
      rintro e w2 ⟨rfl, rfl⟩
      go_wp2_with fail
      refine (HH.out.2.2 _).mono ?_
      rintro e w3 ⟨rfl, rfl⟩
      go_wp2_with fail
      go_roundw
      case rel => exact ⟨k + a + b, by omega, by go_num, hnext.out, trivial⟩
      case measure => simp [intOf]; omega
    | false =>
      have hq2 : Lib.hasPrefix (s.data.toList.drop (k + a)) (ByteArray.mk #[47, 47]).data.toList = false := q
      rw [hq2] at hp
      have hn := hno q
      have hend : Kpt (sep s.data.toList = k + a) := hid (by rw [hsep, hn])
      have HH := hid (And.intro hb hp)
      clear hb hp hl hno hyes q hq2 hn hsep
      go_wp2_with fail
      refine (HH.out.1 _).mono ?_
      rintro e w1 ⟨rfl, rfl⟩
      go_wp2_with fail
      refine (HH.out.2 _).mono ?_
      rintro e w2 ⟨rfl, rfl⟩
      go_wp2_with fail
      go_ret
      exact ⟨by rw [hend.out]; rfl, rfl⟩
end Go.Proofs.YtmgmmbikdmobpaaGreatDoor
