/- What is read without an error is what would be written. Plain facts. -/
import Derived.Test.YtoimmmcmlbaenaaCallN
namespace Go.Proofs.Ytoimmmcmlbaenaa

theorem rNum_good {s s' : ByteArray} {n : Nat} (h : rNum s 0 = (n, s', 0)) : s.data.toList = uvL n ++ s'.data.toList ∧ n < 18446744073709551616 := by
  cases hr : readU 0 0 s.data.toList with
  | none =>
    rw [rNum_none s hr] at h
    injection h with _ h
    injection h with _ h
    exact absurd h (by decide)
  | some x =>
    obtain ⟨m, r⟩ := x
    rw [rNum_some s hr] at h
    injection h with h1 h
    injection h with h2 _
    subst h1
    obtain ⟨h3, h4⟩ := readU_inv hr
    refine ⟨?_, h4⟩
    rw [h3, ← h2]
theorem failE_ne (e : Int) : failE 9 e ≠ 0 := by
  by_cases h : e = 0
  · rw [show failE 9 e = 9 from if_pos h]; decide
  · rw [show failE 9 e = e from if_neg h]; exact h
theorem rCount_good {m a : Int} {s s' : ByteArray} (h : rCount m s 0 = (a, s', 0)) : ∃ n : Nat, a = (n : Int) ∧ n < 9223372036854775808 ∧ s.data.toList = uvL n ++ s'.data.toList := by
  unfold rCount at h
  split at h
  · injection h with _ h
    injection h with _ h
    exact absurd h (failE_ne _)
  · rename_i hc
    simp only [not_or, Int.not_lt, Nat.not_lt] at hc
    injection h with h1 h2
    have hr : rNum s 0 = ((rNum s 0).1, s', 0) := Prod.ext rfl h2
    exact ⟨(rNum s 0).1, h1.symm, by omega, (rNum_good hr).1⟩
theorem rInt_good {a : Int} {s s' : ByteArray} (h : rInt s 0 = (a, s', 0)) : (-9223372036854775808 ≤ a ∧ a ≤ 9223372036854775807) ∧ s.data.toList = uvL (zig a) ++ s'.data.toList := by
  unfold rInt at h
  injection h with h1 h2
  have hr : rNum s 0 = ((rNum s 0).1, s', 0) := Prod.ext rfl h2
  obtain ⟨h3, h4⟩ := rNum_good hr
  rw [← h1, zig_zag]
  refine ⟨?_, h3⟩
  unfold zag
  split <;> omega
theorem split_at (s : ByteArray) (n : Nat) (h : n ≤ s.size) : s.data.toList = (upB s n).data.toList ++ (offB s n).data.toList ∧ (upB s n).size = n := by
  refine ⟨?_, ?_⟩
  · rw [upB_take, offB_drop, ba_list, ba_list, List.take_append_drop]
  · rw [upB_take, ba_size, List.length_take, size_list']; omega
theorem rText_good {t s s' : ByteArray} (h : rText s 0 = (t, s', 0)) : s.data.toList = encU t ++ s'.data.toList ∧ t.size ≤ s.size := by
  unfold rText rText1 at h
  split at h
  · injection h with _ h
    injection h with _ h
    exact absurd h (failE_ne _)
  · rename_i hc
    injection h with h1 h
    injection h with h2 h3
    have hr : rCount 9223372036854775807 s 0 = ((rCount 9223372036854775807 s 0).1, (rCount 9223372036854775807 s 0).2.1, 0) := Prod.ext rfl (Prod.ext rfl h3)
    obtain ⟨n, hn, hn2, hs⟩ := rCount_good hr
    rw [hn] at h1 h2 hc
    have hle : n ≤ (rCount 9223372036854775807 s 0).2.1.size := by omega
    obtain ⟨e1, e2⟩ := split_at _ n hle
    have e0 : ((n : Nat) : Int).toNat = n := by omega
    rw [e0] at h1 h2
    rw [h1] at e1 e2
    rw [h2] at e1
    refine ⟨?_, ?_⟩
    · unfold encU
      rw [hs, e1, e2, List.append_assoc]
    · have := congrArg List.length hs
      rw [List.length_append, size_list', size_list'] at this
      omega
theorem rList_good : ∀ (m : Nat) (acc : List ByteArray) (s s' : ByteArray) (l : List ByteArray), rList m acc s 0 = (l, s', 0) → ∃ ps, l = acc ++ ps ∧ ps.length = m ∧ s.data.toList = encUs ps ++ s'.data.toList
  | 0, acc, s, s', l, h => by
    rw [rList] at h
    injection h with h1 h
    injection h with h2 _
    exact ⟨[], by rw [List.append_nil, h1], rfl, by rw [h2]; rfl⟩
  | m + 1, acc, s, s', l, h => by
    rw [rList] at h
    by_cases he : (rText s 0).2.2 = 0
    · rw [if_pos he, he] at h
      have hr : rText s 0 = ((rText s 0).1, (rText s 0).2.1, 0) := Prod.ext rfl (Prod.ext rfl he)
      obtain ⟨h1, _⟩ := rText_good hr
      obtain ⟨ps, h2, h3, h4⟩ := rList_good m _ _ _ _ h
      refine ⟨(rText s 0).1 :: ps, ?_, by rw [List.length_cons, h3], ?_⟩
      · rw [h2, List.append_assoc]; rfl
      · rw [encUs_cons, List.append_assoc, ← h4]; exact h1
    · rw [if_neg he] at h
      injection h with _ h
      injection h with _ h
      exact absurd h he
theorem sizes_encUs (ps : List ByteArray) : ps.length + sizes ps ≤ (encUs ps).length := by
  induction ps with
  | nil => simp [sizes]
  | cons s ps ih =>
    rw [encUs_cons, List.length_append, List.length_cons, sizes_cons]
    have : s.size + 1 ≤ (encU s).length := by unfold encU; rw [List.length_append, size_list']; have := uvL_pos s.size; omega
    omega
theorem rTexts_good {l : List ByteArray} {s s' : ByteArray} (h : rTexts s 0 = (l, s', 0)) : s.data.toList = encT l ++ s'.data.toList ∧ l.length + sizes l ≤ s.size := by
  unfold rTexts at h
  by_cases he : (rCount (s.size : Int) s 0).2.2 = 0
  · have hr : rCount (s.size : Int) s 0 = ((rCount (s.size : Int) s 0).1, (rCount (s.size : Int) s 0).2.1, 0) := Prod.ext rfl (Prod.ext rfl he)
    obtain ⟨n, hn, hn2, hs⟩ := rCount_good hr
    rw [he, hn] at h
    have e0 : ((n : Nat) : Int).toNat = n := by omega
    rw [e0] at h
    obtain ⟨ps, h2, h3, h4⟩ := rList_good _ _ _ _ _ h
    rw [List.nil_append] at h2
    subst h2
    refine ⟨?_, ?_⟩
    · unfold encT
      rw [h3, List.append_assoc, ← h4, hs]
    · have h5 := congrArg List.length hs
      have h6 := congrArg List.length h4
      rw [List.length_append, size_list', size_list'] at h5
      rw [List.length_append, size_list', size_list'] at h6
      have := sizes_encUs l
      omega
  · have hz : (rCount (s.size : Int) s 0).1 = 0 := by
      unfold rCount at he ⊢
      split
      · rfl
      · rename_i hc
        rw [if_neg hc] at he
        cases hr : readU 0 0 s.data.toList with
        | none => rw [rNum_none s hr]; rfl
        | some x => obtain ⟨m, r⟩ := x; rw [rNum_some s hr] at he; exact absurd rfl he
    rw [hz] at h
    have : rList (0 : Int).toNat [] (rCount (s.size : Int) s 0).2.1 (rCount (s.size : Int) s 0).2.2 = ([], (rCount (s.size : Int) s 0).2.1, (rCount (s.size : Int) s 0).2.2) := rfl
    rw [this] at h
    injection h with _ h
    injection h with _ h
    exact absurd h he
end Go.Proofs.Ytoimmmcmlbaenaa
