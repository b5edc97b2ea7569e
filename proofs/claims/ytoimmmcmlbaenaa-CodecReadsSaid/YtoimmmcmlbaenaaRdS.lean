/- codec: what a reader's calls return and leave. Plain definitions and facts. -/
import Derived.Test.YtoimmmcmlbaenaaRdN
import Derived.Test.YtoimmmcmlbaenaaCEach
namespace Go.Proofs.Ytoimmmcmlbaenaa

theorem readU_cons (i acc : Nat) (b : UInt8) (r : List UInt8) : readU i acc (b :: r) = if 10 ≤ i ∨ (0 < i ∧ b.toNat = 0) ∨ (i = 9 ∧ 1 < b.toNat) then none
    else if b.toNat < 128 then some (acc + b.toNat * 128 ^ i, r) else readU (i + 1) (acc + b.toNat % 128 * 128 ^ i) r := rfl
theorem readU_nil (i acc : Nat) : readU i acc [] = none := rfl
theorem readU_ten (i acc : Nat) (l : List UInt8) (h : 10 ≤ i) : readU i acc l = none := by
  cases l with
  | nil => rfl
  | cons b r => rw [readU_cons, if_pos (Or.inl h)]
theorem pow_next (i : Nat) : 128 ^ (i + 1) = 128 * 128 ^ i := by rw [Nat.pow_succ]; exact Nat.mul_comm _ _
theorem acc_next (acc c i : Nat) (h : acc < 128 ^ i) : acc + c % 128 * 128 ^ i < 128 ^ (i + 1) := by
  rw [pow_next]
  generalize 128 ^ i = q at h ⊢
  have h1 : c % 128 ≤ 127 := by omega
  have h2 : c % 128 * q ≤ 127 * q := Nat.mul_le_mul_right q h1
  omega
/-- What is read is what uvL writes. -/
theorem readU_back : ∀ (l : List UInt8) (i acc n : Nat) (r : List UInt8), acc < 128 ^ i → readU i acc l = some (n, r) → ∃ m, l = uvL m ++ r ∧ n = acc + m * 128 ^ i ∧ n < 18446744073709551616 ∧ (0 < i → 0 < m)
  | [], i, acc, n, r, _, h => by rw [readU_nil] at h; cases h
  | b :: l, i, acc, n, r, ha, h => by
    rw [readU_cons] at h
    by_cases hc : 10 ≤ i ∨ (0 < i ∧ b.toNat = 0) ∨ (i = 9 ∧ 1 < b.toNat)
    · rw [if_pos hc] at h; cases h
    · rw [if_neg hc] at h
      by_cases hb : b.toNat < 128
      · rw [if_pos hb] at h
        injection h with h
        injection h with h1 h2
        subst h2
        have hu : uvL b.toNat = [b] := by rw [uvL_less _ hb]; simp
        refine ⟨b.toNat, by rw [hu]; rfl, h1.symm, ?_, by omega⟩
        have hi : i ≤ 9 := by omega
        by_cases h9 : i = 9
        · subst h9
          have h9' : 128 ^ 9 = 9223372036854775808 := by decide
          rw [h9'] at ha h1
          have : b.toNat ≤ 1 := by omega
          omega
        · have hp : 128 ^ i ≤ 128 ^ 8 := Nat.pow_le_pow_right (by omega) (by omega)
          have h8 : 128 ^ 8 = 72057594037927936 := by decide
          rw [h8] at hp
          generalize 128 ^ i = q at ha h1 hp
          have h3 : b.toNat * q ≤ 127 * q := Nat.mul_le_mul_right q (by omega)
          omega
      · rw [if_neg hb] at h
        obtain ⟨m, hl, hn, hlt, hm⟩ := readU_back l (i + 1) _ n r (acc_next acc b.toNat i ha) h
        have hm0 := hm (by omega)
        have hbl : b.toNat < 256 := b.toNat_lt
        refine ⟨b.toNat % 128 + 128 * m, ?_, ?_, hlt, by omega⟩
        · rw [uvL_more _ (by omega)]
          have e1 : (b.toNat % 128 + 128 * m) % 128 + 128 = b.toNat := by omega
          have e2 : (b.toNat % 128 + 128 * m) / 128 = m := by omega
          rw [e1, e2, hl]
          simp
        · rw [hn, pow_next]
          generalize 128 ^ i = q
          rw [Nat.add_mul, ← Nat.mul_assoc, Nat.mul_comm m 128, Nat.add_assoc]
theorem readU_inv {l : List UInt8} {n : Nat} {r : List UInt8} (h : readU 0 0 l = some (n, r)) : l = uvL n ++ r ∧ n < 18446744073709551616 := by
  obtain ⟨m, hl, hn, hlt, _⟩ := readU_back l 0 0 n r (by simp) h
  have : n = m := by simpa using hn
  subst this
  exact ⟨hl, hlt⟩
theorem uvL_pos (n : Nat) : 0 < (uvL n).length := by
  by_cases h : n < 128
  · rw [uvL_less n h]; simp
  · rw [uvL_more n h]; simp

/-- Fail. -/
def failE (a e : Int) : Int := if e = 0 then a else e
/-- number. -/
def rNum (s : ByteArray) (e : Int) : Nat × ByteArray × Int :=
  if e = 0 then (match readU 0 0 s.data.toList with | some (n, r) => (n, ⟨r.toArray⟩, 0) | none => (0, s, 9)) else (0, s, e)
/-- Count. -/
def rCount (most : Int) (s : ByteArray) (e : Int) : Int × ByteArray × Int :=
  if most < ((rNum s e).1 : Int) ∨ 9223372036854775807 < (rNum s e).1 then (0, (rNum s e).2.1, failE 9 (rNum s e).2.2) else (((rNum s e).1 : Int), (rNum s e).2)
/-- A number's integer. -/
def zag (n : Nat) : Int := if n % 2 = 1 then -((n / 2 : Nat) : Int) - 1 else ((n / 2 : Nat) : Int)
/-- Int. -/
def rInt (s : ByteArray) (e : Int) : Int × ByteArray × Int := (zag (rNum s e).1, (rNum s e).2)
/-- The bytes from k on; the first k bytes. -/
def offB (s : ByteArray) (k : Nat) : ByteArray := s.extract k s.size
def upB (s : ByteArray) (k : Nat) : ByteArray := s.extract 0 k
/-- Text behind the size. -/
def rText1 (x : Int × ByteArray × Int) : ByteArray × ByteArray × Int :=
  if (x.2.1.size : Int) < x.1 then (ByteArray.empty, x.2.1, failE 9 x.2.2) else (upB x.2.1 x.1.toNat, offB x.2.1 x.1.toNat, x.2.2)
/-- Text. -/
def rText (s : ByteArray) (e : Int) : ByteArray × ByteArray × Int := rText1 (rCount 9223372036854775807 s e)
/-- list. -/
def rList : Nat → List ByteArray → ByteArray → Int → List ByteArray × ByteArray × Int
  | 0, acc, s, e => (acc, s, e)
  | k + 1, acc, s, e => if (rText s e).2.2 = 0 then rList k (acc ++ [(rText s e).1]) (rText s e).2.1 (rText s e).2.2 else ([], (rText s e).2.1, (rText s e).2.2)
/-- Texts. -/
def rTexts (s : ByteArray) (e : Int) : List ByteArray × ByteArray × Int :=
  rList (rCount (s.size : Int) s e).1.toNat [] (rCount (s.size : Int) s e).2.1 (rCount (s.size : Int) s e).2.2

theorem rNum_bad (s : ByteArray) (e : Int) (h : e ≠ 0) : rNum s e = (0, s, e) := if_neg h
theorem rNum_some (s : ByteArray) {n : Nat} {r : List UInt8} (h : readU 0 0 s.data.toList = some (n, r)) : rNum s 0 = (n, ⟨r.toArray⟩, 0) := by
  unfold rNum; rw [if_pos rfl, h]
theorem rNum_none (s : ByteArray) (h : readU 0 0 s.data.toList = none) : rNum s 0 = (0, s, 9) := by
  unfold rNum; rw [if_pos rfl, h]
theorem rNum_lt (s : ByteArray) (e : Int) : (rNum s e).1 < 18446744073709551616 := by
  by_cases he : e = 0
  · subst he
    cases h : readU 0 0 s.data.toList with
    | none => rw [rNum_none s h]; show (0:Nat) < _; decide
    | some x => obtain ⟨n, r⟩ := x; rw [rNum_some s h]; exact (readU_inv h).2
  · rw [rNum_bad s e he]; show (0:Nat) < _; decide
theorem size_mk (l : List UInt8) : (ByteArray.mk l.toArray).size = l.length := by show l.toArray.size = _; simp
theorem rNum_size (s : ByteArray) (e : Int) : (rNum s e).2.1.size ≤ s.size := by
  by_cases he : e = 0
  · subst he
    cases h : readU 0 0 s.data.toList with
    | none => rw [rNum_none s h]; exact Nat.le_refl _
    | some x =>
      obtain ⟨n, r⟩ := x
      rw [rNum_some s h]
      show (ByteArray.mk r.toArray).size ≤ _
      have h2 := congrArg List.length (readU_inv h).1
      rw [List.length_append, size_list] at h2
      rw [size_mk]; omega
  · rw [rNum_bad s e he]; exact Nat.le_refl _
theorem rCount_size (m : Int) (s : ByteArray) (e : Int) : (rCount m s e).2.1.size ≤ s.size := by
  unfold rCount; split <;> exact rNum_size s e
theorem rCount_nonneg (m : Int) (s : ByteArray) (e : Int) : 0 ≤ (rCount m s e).1 := by
  unfold rCount; split
  · exact Int.le_refl _
  · exact Int.natCast_nonneg _
theorem rCount_le (m : Int) (s : ByteArray) (e : Int) : (rCount m s e).1 ≤ 9223372036854775807 := by
  unfold rCount; split
  · show (0 : Int) ≤ _; decide
  · rename_i h; simp only [not_or, Int.not_lt, Nat.not_lt] at h; show ((rNum s e).1 : Int) ≤ _; omega
theorem rCount_most (m : Int) (s : ByteArray) (e : Int) (h : 0 ≤ m) : (rCount m s e).1 ≤ m := by
  unfold rCount; split
  · exact h
  · rename_i h; simp only [not_or, Int.not_lt, Nat.not_lt] at h; exact h.1
theorem offB_size (s : ByteArray) (k : Nat) : (offB s k).size ≤ s.size := by unfold offB; rw [ByteArray.size_extract]; omega
theorem rText_size (s : ByteArray) (e : Int) : (rText s e).2.1.size ≤ s.size := by
  unfold rText rText1; split
  · exact rCount_size _ s e
  · exact Nat.le_trans (offB_size _ _) (rCount_size _ s e)
end Go.Proofs.Ytoimmmcmlbaenaa
