/- lexer: Position, the program's and the reference's. -/
import Derived.Test.YtmgmmbikdmobpaaDoorLxW
import Derived.Test.YtmgmmbikdmobpaaDoorShM
namespace Go.Proofs.YtmgmmbikdmobpaaDoor
open Go.RowKit

/-- Line and column behind one byte more. -/
def posS (p : Nat × Nat) (b : UInt8) : Nat × Nat := if b = 10 then (p.1 + 1, 1) else (p.1, p.2 + 1)
/-- Line and column behind a list of bytes. -/
def posL (l : List UInt8) : Nat × Nat := l.foldl posS (1, 1)
/-- The offset within the source. -/
def offK (o : Int) (n : Nat) : Nat := min o.toNat n
theorem posL_step (s : ByteArray) (k : Nat) (h : k < s.size) : posL (s.data.toList.take (k + 1)) = posS (posL (s.data.toList.take k)) (s.data.toList.getD k 0) := by
  have hk : k < s.data.toList.length := by rw [size_list]; exact h
  unfold posL
  rw [List.take_add_one, List.foldl_append, List.getElem?_eq_getElem hk, List.getD_eq_getElem?_getD, List.getElem?_eq_getElem hk]
  rfl
theorem posL_count (s : ByteArray) (k : Nat) (h : k ≤ s.size) : (posL (s.data.toList.take k)).1 = 1 + (s.data.toList.take k).count 10 ∧ ((posL (s.data.toList.take k)).2 : Int) = k - Lib.lastIdx s 10 k := by
  induction k with
  | zero => exact ⟨rfl, rfl⟩
  | succ k ih =>
    have hk : k < s.data.toList.length := by rw [size_list]; omega
    obtain ⟨i1, i2⟩ := ih (by omega)
    have hb : s.data[k]! = s.data.toList.getD k 0 := by
      rw [List.getD_eq_getElem?_getD, List.getElem?_eq_getElem hk, getElem!_pos s.data k (by simpa using hk)]
      simp
    have hlist : s.data.toList.take (k + 1) = s.data.toList.take k ++ [s.data.toList.getD k 0] := by
      rw [List.take_add_one, List.getElem?_eq_getElem hk, List.getD_eq_getElem?_getD, List.getElem?_eq_getElem hk]; rfl
    rw [posL_step s k (by omega), hlist, List.count_append]
    have hidx : Lib.lastIdx s 10 (k + 1) = if ((s.data[k]!).toNat : Int) = 10 then (k : Int) else Lib.lastIdx s 10 k := rfl
    rw [hidx, hb]
    generalize s.data.toList.getD k 0 = b
    unfold posS
    by_cases hc : b = 10
    · subst hc
      simp only [if_true]
      refine ⟨?_, ?_⟩
      · rw [i1]; simp; omega
      · rw [if_pos (by rfl)]; omega
    · have hn : ¬ ((b.toNat : Int) = 10) := fun h => hc (by apply UInt8.toNat_inj.1; show b.toNat = 10; omega)
      rw [if_neg hc, if_neg hn]
      refine ⟨?_, ?_⟩
      · simp only; rw [i1, List.count_singleton]; simp [hc]
      · simp only; omega
theorem posL_all (s : ByteArray) : (1 : Int) + (Lib.countByte s.data.toList 10 : Nat) = ((posL s.data.toList).1 : Nat) ∧ (s.size : Int) - Lib.lastIndexByte s 10 = ((posL s.data.toList).2 : Nat) := by
  have h := posL_count s s.size (Nat.le_refl _)
  have ht : s.data.toList.take s.size = s.data.toList := by rw [← size_list, List.take_length]
  rw [ht] at h
  unfold Lib.countByte Lib.lastIndexByte
  omega

set_option maxRecDepth 100000 in
set_option maxHeartbeats 1000000 in
theorem position_any (s : ByteArray) (o : Int) (w : World) (hs : s.size < 4611686018427387904) (h0 : -9223372036854775808 ≤ o) (h1 : o ≤ 9223372036854775807) :
    Calls Tryd.prog 19 #[.string s, .int .i64 o] w fun e w' => e = .returned (.tuple #[.int .i64 ((posL (s.data.toList.take (offK o s.size))).1 : Nat), .int .i64 ((posL (s.data.toList.take (offK o s.size))).2 : Nat)]) ∧ w' = w := by
  have hk : (min (max o 0) (s.size : Int)).toNat = offK o s.size := by unfold offK; omega
  have hex := upto_bytes s (offK o s.size)
  have hlist : (s.extract 0 (offK o s.size)).data.toList = s.data.toList.take (offK o s.size) := by rw [hex, mk_list]
  have hle : (s.extract 0 (offK o s.size)).size ≤ s.size := by rw [ByteArray.size_extract]; omega
  rw [← hlist]
  rw [← hk] at hle ⊢
  clear hk hex hlist
  have hall : ∀ F : ByteArray, F.size ≤ s.size → ∃ (c : Nat) (x : Int), c ≤ s.size ∧ -1 ≤ x ∧ x ≤ s.size ∧ (∀ w, Calls Tryd.prog 29 #[.string F, .string ⟨#[10]⟩] w fun e w' => e = .returned (.int .i64 (c : Int)) ∧ w' = w) ∧ (∀ w, Calls Tryd.prog 30 #[.string F, .int .u8 10] w fun e w' => e = .returned (.int .i64 x) ∧ w' = w) ∧ (1 : Int) + (c : Int) = ((posL F.data.toList).1 : Nat) ∧ (F.size : Int) - x = ((posL F.data.toList).2 : Nat) := by
    intro F hF
    refine ⟨Lib.countByte F.data.toList 10, Lib.lastIndexByte F 10, ?_, ?_, ?_, fun w => Tryd.strings_Count_one F 10 w, fun w => Tryd.strings_LastIndexByte F 10 (by omega) w, (posL_all F).1, (posL_all F).2⟩
    · have hc : F.data.toList.count 10 ≤ F.data.toList.length := List.count_le_length
      unfold Lib.countByte
      rw [size_list] at hc; omega
    · rcases Lib.lastIndexByte_spec F 10 with ⟨h, _⟩ | ⟨i, hi, h, _⟩ <;> rw [h] <;> omega
    · rcases Lib.lastIndexByte_spec F 10 with ⟨h, _⟩ | ⟨i, hi, h, _⟩ <;> rw [h] <;> omega
  obtain ⟨c, x, hc, hx0, hx1, hC, hX, p1, p2⟩ := hall _ hle
  have HC := hid hC
  have HX := hid hX
  rw [← p1, ← p2]
  clear hall hC hX p1 p2
  go_enter Tryd.func19, Tryd.ntmps19
  go_wp2_with fail
  refine (HC.out _).mono ?_
  rintro e w1 ⟨rfl, rfl⟩
  go_wp2_with fail
  refine (HX.out _).mono ?_
  rintro e w2 ⟨rfl, rfl⟩
  go_wp2_with fail
  go_ret2
  exact ⟨by rw [ByteArray.size_extract, Nat.sub_zero]; rfl, rfl⟩

set_option maxRecDepth 100000 in
set_option maxHeartbeats 1000000 in
theorem rposition_any (s : ByteArray) (o : Int) (w : World) (hs : s.size < 4611686018427387904) (h0 : -9223372036854775808 ≤ o) (h1 : o ≤ 9223372036854775807) :
    Calls Tryd.prog 20 #[.string s, .int .i64 o] w fun e w' => e = .returned (.tuple #[.int .i64 ((posL (s.data.toList.take (offK o s.size))).1 : Nat), .int .i64 ((posL (s.data.toList.take (offK o s.size))).2 : Nat)]) ∧ w' = w := by
  have HN : Kpt (offK o s.size ≤ s.size ∧ (offK o s.size : Int) = min (max o 0) (s.size : Int)) := hid (by unfold offK; omega)
  have HB : Kpt (∀ k, (posL (s.data.toList.take k)).1 ≤ k + 1 ∧ (posL (s.data.toList.take k)).2 ≤ k + 1) := hid (by
    intro k
    induction k with
    | zero => exact ⟨Nat.le_refl _, Nat.le_refl _⟩
    | succ k ih =>
      by_cases hk : k < s.size
      · rw [posL_step s k hk]
        unfold posS
        split <;> simp only <;> omega
      · have e1 : s.data.toList.take (k + 1) = s.data.toList := List.take_of_length_le (by rw [size_list]; omega)
        have e2 : s.data.toList.take k = s.data.toList := List.take_of_length_le (by rw [size_list]; omega)
        rw [e1]; rw [e2] at ih; omega)
  generalize offK o s.size = N at HN ⊢
  go_enter Tryd.func20, Tryd.ntmps20
  go_wp2_with fail
  go_loopw [6, 7, 8] (fun a b i wr => ∃ k : Nat, k ≤ N ∧ i = .int .i64 (k : Int) ∧ a = .int .i64 ((posL (s.data.toList.take k)).1 : Nat) ∧ b = .int .i64 ((posL (s.data.toList.take k)).2 : Nat) ∧ wr = w) (fun _ _ i _ => s.size - (intOf i).toNat)
  case atStart => exact ⟨0, by omega, rfl, rfl, rfl, rfl⟩
  case round =>
    obtain ⟨k, hk, rfl, rfl, rfl, rfl⟩ := hrel
    by_cases hlt : k < N
    · have hks : k < s.size := by have := HN.out.1; omega
      have hko : (k : Int) < o := by have := HN.out.2; omega
      have HS := hid (posL_step s k hks)
      have hix := run_index_str s k hks
      have hcl := (s.data.toList.getD k 0).toNat_lt
      obtain ⟨hb1, hb2⟩ := HB.out k
      generalize posL (s.data.toList.take k) = p at HS hb1 hb2 ⊢
      generalize s.data.toList.getD k 0 = b at hix hcl HS
      obtain ⟨p1, p2⟩ := p
      simp only at hb1 hb2 ⊢
      by_cases hc : b = 10
      · subst hc
        have HS2 : Kpt (posL (s.data.toList.take (k + 1)) = (p1 + 1, 1)) := hid HS.out
        clear HS
        clear hk
        go_wp2_with fail
        go_roundw
        case rel => exact ⟨k + 1, by omega, by go_num, by rw [HS2.out]; rfl, by rw [HS2.out]; rfl, trivial⟩
        case measure => simp [intOf]; omega
      · have hn : (((b.toNat : Nat) : Int) == 10) = false := by rw [beq_eq_false_iff_ne]; exact fun h => hc (by apply UInt8.toNat_inj.1; show b.toNat = 10; omega)
        have HS2 : Kpt (posL (s.data.toList.take (k + 1)) = (p1, p2 + 1)) := hid (by rw [HS.out]; unfold posS; rw [if_neg hc])
        clear HS hc
        generalize b.toNat = c at hix hcl hn
        clear hk
        go_wp2_with fail
        go_roundw
        case rel => exact ⟨k + 1, by omega, by go_num, by rw [HS2.out], by rw [HS2.out]; go_num, trivial⟩
        case measure => simp [intOf]; omega
    · obtain rfl : k = N := by omega
      by_cases hks : k < s.size
      · have hko : ¬ ((k : Int) < o) := by have := HN.out.2; omega
        go_wp2_with fail
        go_ret2
        exact ⟨rfl, rfl⟩
      · go_wp2_with fail
        go_ret2
        exact ⟨rfl, rfl⟩
end Go.Proofs.YtmgmmbikdmobpaaDoor
