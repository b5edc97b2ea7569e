/- codec: what is written is read back; what is cut off is not read; what is read is what would be written. Plain facts. -/
import Derived.Test.YtoimmmcmlbaenaaRdS
import Derived.Test.YtoimmmcmlbaenaaCTexts
namespace Go.Proofs.Ytoimmmcmlbaenaa

/-- The string of bytes. -/
def ba (l : List UInt8) : ByteArray := ⟨l.toArray⟩
theorem ba_list (l : List UInt8) : (ba l).data.toList = l := by simp [ba]
theorem ba_size (l : List UInt8) : (ba l).size = l.length := size_mk l
theorem ba_eta (s : ByteArray) : ba s.data.toList = s := by simp [ba]
theorem ba_off (a b : List UInt8) : offB (ba (a ++ b)) a.length = ba b := by
  unfold offB; apply ByteArray.ext; rw [ByteArray.data_extract]; apply Array.toList_inj.1
  simp [ba]
  exact List.take_of_length_le (by simp [ByteArray.size])
theorem ba_up (a b : List UInt8) : upB (ba (a ++ b)) a.length = ba a := by
  unfold upB; apply ByteArray.ext; rw [ByteArray.data_extract]; apply Array.toList_inj.1
  simp [ba]
theorem ba_inj {a b : List UInt8} (h : ba a = ba b) : a = b := by have := congrArg (fun s => s.data.toList) h; simpa [ba_list] using this
theorem size_list' (s : ByteArray) : s.data.toList.length = s.size := by rw [Array.length_toList]; rfl

theorem uvL_inj {n m : Nat} {r r' : List UInt8} (hn : n < 18446744073709551616) (hm : m < 18446744073709551616) (h : uvL n ++ r = uvL m ++ r') : n = m ∧ r = r' := by
  have h1 := readU_start n r hn
  rw [h, readU_start m r' hm] at h1
  injection h1 with h1
  injection h1 with h1 h2
  exact ⟨h1.symm, h2.symm⟩
theorem encU_inj {s t : ByteArray} {r r' : List UInt8} (hs : s.size < 18446744073709551616) (ht : t.size < 18446744073709551616) (h : encU s ++ r = encU t ++ r') : s = t ∧ r = r' := by
  unfold encU at h
  rw [List.append_assoc, List.append_assoc] at h
  obtain ⟨h1, h2⟩ := uvL_inj hs ht h
  obtain ⟨h3, h4⟩ := List.append_inj h2 (by rw [size_list', size_list', h1])
  refine ⟨?_, h4⟩
  rw [← ba_eta s, ← ba_eta t, h3]
theorem encUs_cons (s : ByteArray) (ps : List ByteArray) : encUs (s :: ps) = encU s ++ encUs ps := rfl
theorem encUs_nil : encUs [] = [] := rfl
theorem encUs_inj : ∀ {ps qs : List ByteArray} {r r' : List UInt8}, (∀ s ∈ ps, s.size < 18446744073709551616) → (∀ s ∈ qs, s.size < 18446744073709551616) → ps.length = qs.length → encUs ps ++ r = encUs qs ++ r' → ps = qs ∧ r = r'
  | [], [], r, r', _, _, _, h => ⟨rfl, h⟩
  | s :: ps, t :: qs, r, r', hp, hq, hl, h => by
    rw [encUs_cons, encUs_cons, List.append_assoc, List.append_assoc] at h
    obtain ⟨h1, h2⟩ := encU_inj (hp s List.mem_cons_self) (hq t List.mem_cons_self) h
    obtain ⟨h3, h4⟩ := encUs_inj (fun x hx => hp x (List.mem_cons_of_mem _ hx)) (fun x hx => hq x (List.mem_cons_of_mem _ hx)) (by simpa using hl) h2
    exact ⟨by rw [h1, h3], h4⟩
  | [], _ :: _, _, _, _, _, hl, _ => by simp at hl
  | _ :: _, [], _, _, _, _, hl, _ => by simp at hl
theorem encT_inj {ps qs : List ByteArray} {r r' : List UInt8} (hp : ∀ s ∈ ps, s.size < 18446744073709551616) (hq : ∀ s ∈ qs, s.size < 18446744073709551616) (hpl : ps.length < 18446744073709551616) (hql : qs.length < 18446744073709551616) (h : encT ps ++ r = encT qs ++ r') : ps = qs ∧ r = r' := by
  unfold encT at h
  rw [List.append_assoc, List.append_assoc] at h
  obtain ⟨h1, h2⟩ := uvL_inj hpl hql h
  exact encUs_inj hp hq h1 h2

theorem zag_zig (a : Int) : zag (zig a) = a := by
  unfold zag zig
  by_cases h : a < 0
  · rw [if_pos h, if_pos (by omega)]; omega
  · rw [if_neg h, if_neg (by omega)]; omega
theorem zig_zag (n : Nat) : zig (zag n) = n := by
  unfold zag zig
  by_cases h : n % 2 = 1
  · rw [if_pos h, if_pos (by omega)]; omega
  · rw [if_neg h, if_neg (by omega)]; omega

/-! ## What is written is read back. -/
theorem rNum_uv (n : Nat) (r : List UInt8) (h : n < 18446744073709551616) : rNum (ba (uvL n ++ r)) 0 = (n, ba r, 0) :=
  rNum_some _ (by rw [ba_list]; exact readU_start n r h)
theorem rCount_uv (m : Int) (n : Nat) (r : List UInt8) (h : n < 9223372036854775808) (hm : (n : Int) ≤ m) : rCount m (ba (uvL n ++ r)) 0 = ((n : Int), ba r, 0) := by
  unfold rCount
  rw [rNum_uv n r (by omega)]
  rw [if_neg (by simp only; omega)]
theorem rInt_uv (a : Int) (r : List UInt8) (h0 : -9223372036854775808 ≤ a) (h1 : a ≤ 9223372036854775807) : rInt (ba (uvL (zig a) ++ r)) 0 = (a, ba r, 0) := by
  unfold rInt
  rw [rNum_uv _ r (zig_lt a h0 h1)]
  simp only [zag_zig]
theorem rText_enc (s : ByteArray) (r : List UInt8) (h : s.size < 9223372036854775808) : rText (ba (encU s ++ r)) 0 = (s, ba r, 0) := by
  unfold rText encU
  rw [List.append_assoc, rCount_uv _ _ _ h (by omega)]
  unfold rText1
  simp only
  rw [ba_size, List.length_append, size_list', if_neg (by omega)]
  have e : ((s.size : Nat) : Int).toNat = s.data.toList.length := by rw [size_list']; omega
  rw [e, ba_up, ba_off, ba_eta]
theorem rList_enc : ∀ (ps acc : List ByteArray) (r : List UInt8), (∀ s ∈ ps, s.size < 9223372036854775808) → rList ps.length acc (ba (encUs ps ++ r)) 0 = (acc ++ ps, ba r, 0)
  | [], acc, r, _ => by simp [rList, encUs_nil]
  | s :: ps, acc, r, h => by
    rw [List.length_cons, rList, encUs_cons, List.append_assoc, rText_enc s _ (h s List.mem_cons_self)]
    simp only [if_true]
    rw [rList_enc ps (acc ++ [s]) r (fun x hx => h x (List.mem_cons_of_mem _ hx)), List.append_assoc]
    rfl
theorem encU_pos (s : ByteArray) : 0 < (encU s).length := by unfold encU; rw [List.length_append]; have := uvL_pos s.size; omega
theorem encUs_len (ps : List ByteArray) : ps.length ≤ (encUs ps).length := by
  induction ps with
  | nil => simp
  | cons s ps ih => rw [encUs_cons, List.length_append, List.length_cons]; have := encU_pos s; omega
theorem rTexts_enc (ps : List ByteArray) (r : List UInt8) (h : ∀ s ∈ ps, s.size < 9223372036854775808) (hl : ps.length < 9223372036854775808) : rTexts (ba (encT ps ++ r)) 0 = (ps, ba r, 0) := by
  unfold rTexts encT
  rw [List.append_assoc, rCount_uv _ _ _ hl (by rw [ba_size, List.length_append, List.length_append]; have := encUs_len ps; omega)]
  simp only [Int.toNat_natCast]
  rw [rList_enc ps [] r h]
  rfl

/-! ## What is cut off is not read. -/
theorem rNum_cut {n : Nat} {p q : List UInt8} (h : uvL n = p ++ q) (hq : q ≠ []) (hn : n < 18446744073709551616) : rNum (ba p) 0 = (0, ba p, 9) := by
  refine rNum_none _ ?_
  rw [ba_list]
  cases hr : readU 0 0 p with
  | none => rfl
  | some x =>
    obtain ⟨m, r⟩ := x
    obtain ⟨h1, h2⟩ := readU_inv hr
    have h3 : uvL n ++ [] = uvL m ++ (r ++ q) := by rw [List.append_nil, h, h1, List.append_assoc]
    obtain ⟨_, h4⟩ := uvL_inj hn h2 h3
    have := congrArg List.length h4
    rw [List.length_append, List.length_nil] at this
    exact absurd (List.eq_nil_of_length_eq_zero (by omega)) hq
theorem rText_cut_none {r : List UInt8} (h : readU 0 0 r = none) : (rText (ba r) 0).2.2 = 9 := by
  unfold rText rCount
  rw [rNum_none (ba r) (by rw [ba_list]; exact h)]
  rw [if_neg (by simp only; omega)]
  unfold rText1
  simp only
  rw [if_neg (by omega)]
theorem rList_cut : ∀ (ps acc : List ByteArray) (r q : List UInt8), (∀ s ∈ ps, s.size < 9223372036854775808) → encUs ps = r ++ q → q ≠ [] → (rList ps.length acc (ba r) 0).1 = [] ∧ (rList ps.length acc (ba r) 0).2.2 = 9
  | [], acc, r, q, _, h, hq => by
    rw [encUs_nil] at h
    have := congrArg List.length h
    rw [List.length_append, List.length_nil] at this
    exact absurd (List.eq_nil_of_length_eq_zero (by omega)) hq
  | s :: ps, acc, r, q, hs, h, hq => by
    rw [List.length_cons, rList]
    cases hr : readU 0 0 r with
    | none =>
      have h9 := rText_cut_none hr
      rw [if_neg (by rw [h9]; decide), h9]
      exact ⟨rfl, rfl⟩
    | some x =>
      obtain ⟨k, r1⟩ := x
      obtain ⟨h1, h2⟩ := readU_inv hr
      have hsz := hs s List.mem_cons_self
      have h3 : uvL s.size ++ (s.data.toList ++ encUs ps) = uvL k ++ (r1 ++ q) := by rw [← List.append_assoc, ← List.append_assoc (uvL k), ← h1, ← h, encUs_cons]; rfl
      obtain ⟨h4, h5⟩ := uvL_inj (by omega) h2 h3
      subst h4
      by_cases hlt : r1.length < s.size
      · have h9 : (rText (ba r) 0).2.2 = 9 := by
          unfold rText
          rw [h1, rCount_uv _ _ _ hsz (by omega)]
          unfold rText1
          simp only
          rw [ba_size, if_pos (by omega)]
          rfl
        rw [if_neg (by rw [h9]; decide), h9]
        exact ⟨rfl, rfl⟩
      · have h6 : s.data.toList = r1.take s.size := by
          have := congrArg (List.take s.size) h5
          rw [List.take_append_of_le_length (by rw [size_list']; omega), List.take_append_of_le_length (by omega)] at this
          rwa [List.take_of_length_le (by rw [size_list']; omega)] at this
        have h7 : r1 = s.data.toList ++ r1.drop s.size := by rw [h6, List.take_append_drop]
        have h8 : encUs ps = r1.drop s.size ++ q := by
          rw [h7, List.append_assoc] at h5
          exact List.append_cancel_left h5
        have h9 : r = encU s ++ r1.drop s.size := by
          unfold encU
          rw [List.append_assoc, ← h7, ← h1]
        rw [h9, rText_enc s _ hsz]
        simp only [if_true]
        exact rList_cut ps _ _ q (fun x hx => hs x (List.mem_cons_of_mem _ hx)) h8 hq
theorem rTexts_cut {ps : List ByteArray} {r q : List UInt8} (hs : ∀ s ∈ ps, s.size < 9223372036854775808) (hl : ps.length < 9223372036854775808) (h : encT ps = r ++ q) (hq : q ≠ []) : (rTexts (ba r) 0).1 = [] ∧ (rTexts (ba r) 0).2.2 = 9 := by
  unfold rTexts
  cases hr : readU 0 0 r with
  | none =>
    have h1 : rCount ((ba r).size : Int) (ba r) 0 = (0, ba r, 9) := by
      unfold rCount
      rw [rNum_none (ba r) (by rw [ba_list]; exact hr), if_neg (by simp only; omega)]
      rfl
    rw [h1]
    exact ⟨rfl, rfl⟩
  | some x =>
    obtain ⟨k, r1⟩ := x
    obtain ⟨h1, h2⟩ := readU_inv hr
    unfold encT at h
    have h3 : uvL ps.length ++ encUs ps = uvL k ++ (r1 ++ q) := by rw [h, h1, List.append_assoc]
    obtain ⟨h4, h5⟩ := uvL_inj (by omega) h2 h3
    subst h4
    by_cases hc : ps.length ≤ (ba r).size
    · rw [h1, rCount_uv _ _ _ hl (by rw [← h1]; omega)]
      simp only [Int.toNat_natCast]
      exact rList_cut ps [] r1 q hs h5 hq
    · have e : rCount ((ba r).size : Int) (ba r) 0 = (0, ba r1, 9) := by
        unfold rCount
        have e2 : rNum (ba r) 0 = (ps.length, ba r1, 0) := by rw [h1]; exact rNum_uv _ _ (by omega)
        rw [e2, if_pos (by simp only; omega)]
        rfl
      rw [e]
      exact ⟨rfl, rfl⟩
end Go.Proofs.Ytoimmmcmlbaenaa
