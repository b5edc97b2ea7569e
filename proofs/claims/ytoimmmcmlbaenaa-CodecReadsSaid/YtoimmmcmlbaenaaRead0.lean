/- The reference's Read: its states, its results. Plain facts; a list of results in memory. -/
import Derived.Test.YtoimmmcmlbaenaaRrt
namespace Go.Proofs.Ytoimmmcmlbaenaa
open Go.RowKit

/-- What the reference has behind i calls: the bytes that are left, the error. -/
def stA (s : ByteArray) (K N : Nat → Int) : Nat → ByteArray × Int
  | 0 => (s, 0)
  | i + 1 => (if (rRes (K i) (N i) (stA s K N i).1 (stA s K N i).2).2.2.2.2 = 0 then (rRes (K i) (N i) (stA s K N i).1 (stA s K N i).2).2.2.2.1 else (stA s K N i).1, (rRes (K i) (N i) (stA s K N i).1 (stA s K N i).2).2.2.2.2)
def outA (s : ByteArray) (K N : Nat → Int) (i : Nat) : Int × ByteArray × List ByteArray × ByteArray × Int := rRes (K i) (N i) (stA s K N i).1 (stA s K N i).2

theorem rNum_or (s : ByteArray) : (rNum s 0).2.2 = 0 ∨ rNum s 0 = (0, s, 9) := by
  cases hr : readU 0 0 s.data.toList with
  | none => exact Or.inr (rNum_none s hr)
  | some x => obtain ⟨n, r⟩ := x; rw [rNum_some s hr]; exact Or.inl rfl
theorem rCount_or (m : Int) (s : ByteArray) : (rCount m s 0).2.2 = 0 ∨ ((rCount m s 0).1 = 0 ∧ (rCount m s 0).2.2 = 9) := by
  unfold rCount
  rcases rNum_or s with h | h
  · rw [h]
    split
    · exact Or.inr ⟨rfl, rfl⟩
    · exact Or.inl h
  · rw [h]
    split
    · exact Or.inr ⟨rfl, rfl⟩
    · exact Or.inr ⟨rfl, rfl⟩
theorem rCount_by (m : Int) (s : ByteArray) : (rCount m s 0).1 = (if (rCount 9223372036854775807 s 0).2.2 = 0 ∧ (rCount 9223372036854775807 s 0).1 ≤ m then (rCount 9223372036854775807 s 0).1 else 0)
    ∧ (rCount m s 0).2.2 = (if (rCount 9223372036854775807 s 0).2.2 = 0 ∧ (rCount 9223372036854775807 s 0).1 ≤ m then 0 else 9) ∧ (rCount m s 0).2.1 = (rCount 9223372036854775807 s 0).2.1 := by
  cases hr : readU 0 0 s.data.toList with
  | none =>
    have e : ∀ m : Int, rCount m s 0 = (0, s, 9) := by
      intro m
      unfold rCount
      rw [rNum_none s hr]
      split <;> rfl
    rw [e m, e 9223372036854775807]
    simp
  | some x =>
    obtain ⟨n, r⟩ := x
    have e : ∀ m : Int, rCount m s 0 = if m < (n : Int) ∨ 9223372036854775807 < n then (0, ba r, 9) else ((n : Int), ba r, 0) := by
      intro m
      unfold rCount
      rw [rNum_some s hr]
      rfl
    rw [e m, e 9223372036854775807]
    by_cases hbig : 9223372036854775807 < n
    · rw [if_pos (Or.inr hbig), if_pos (Or.inr hbig)]
      simp
    · rw [if_neg (c := (9223372036854775807 : Int) < (n : Int) ∨ 9223372036854775807 < n) (by omega)]
      by_cases hm : m < (n : Int)
      · have hm2 : ¬ (n : Int) ≤ m := by omega
        rw [if_pos (Or.inl hm)]
        simp [hm2]
      · have hm2 : (n : Int) ≤ m := by omega
        rw [if_neg (by omega)]
        simp [hm2]
theorem rInt_or (s : ByteArray) : (rInt s 0).2.2 = 0 ∨ ((rInt s 0).1 = 0 ∧ (rInt s 0).2.2 = 9) := by
  unfold rInt
  rcases rNum_or s with h | h
  · exact Or.inl h
  · rw [h]
    exact Or.inr ⟨by show zag 0 = 0; decide, rfl⟩
theorem rText_or (s : ByteArray) : (rText s 0).2.2 = 0 ∨ ((rText s 0).1 = ⟨#[]⟩ ∧ (rText s 0).2.2 = 9) := by
  unfold rText
  rcases rCount_or 9223372036854775807 s with h | ⟨h1, h2⟩
  · unfold rText1
    split
    · right
      rw [h]
      exact ⟨rfl, rfl⟩
    · exact Or.inl h
  · right
    unfold rText1
    rw [h1, h2, if_neg (by omega)]
    exact ⟨upB_zero _, rfl⟩
theorem rList_or : ∀ (m : Nat) (acc : List ByteArray) (s : ByteArray), (rList m acc s 0).2.2 = 0 ∨ ((rList m acc s 0).1 = [] ∧ (rList m acc s 0).2.2 = 9)
  | 0, _, _ => Or.inl rfl
  | m + 1, acc, s => by
    rw [rList]
    rcases rText_or s with h | ⟨_, h⟩
    · rw [if_pos h, h]
      exact rList_or m _ _
    · rw [if_neg (by rw [h]; decide)]
      exact Or.inr ⟨rfl, h⟩
theorem rTexts_or (s : ByteArray) : (rTexts s 0).2.2 = 0 ∨ ((rTexts s 0).1 = [] ∧ (rTexts s 0).2.2 = 9) := by
  unfold rTexts
  rcases rCount_or (s.size : Int) s with h | ⟨h1, h2⟩
  · rw [h]; exact rList_or _ _ _
  · rw [h1, h2]; exact Or.inr ⟨rfl, rfl⟩

/-- A result's cells, as a list. -/
def resL (x : Int × ByteArray × List ByteArray × ByteArray × Int) (v : Value) : List Value := [.int .i64 x.1, .string x.2.1, v, .int .i64 x.2.2.2.2]
/-- v owns n results, whose lists are owned, each in a row of its own. -/
structure OutIs (w : World) (B : Nat) (v : Value) (vs : Nat → Value) (F : Nat → Int × ByteArray × List ByteArray × ByteArray × Int) (n : Nat) : Prop where
  own : w.ownsRow B 39 4 v n ((List.range n).flatMap fun i => resL (F i) (vs i))
  lists : ∀ i, i < n → OwnS w B (vs i) (F i).2.2.1 ∧ ((vs i).ownBlock = none ∨ (vs i).ownBlock ≠ v.ownBlock)
theorem OwnS_new {w W : World} {B : Nat} {v : Value} {l : List ByteArray} (h : OwnS w B v l) (hb : Below w.heap.size w W) : OwnS W B v l := OwnS_below h hb (Nat.le_refl _)
theorem OutIs_snoc {w W w3 : World} {B : Nat} {v v' vn : Value} {vs : Nat → Value} {F : Nat → Int × ByteArray × List ByteArray × ByteArray × Int} {n : Nat} (h : OutIs w B v vs F n) (hb : Below w.heap.size w W)
    (hn : OwnS W B vn (F n).2.2.1) (hnew : ∀ k, vn.ownBlock = some k → w.heap.size ≤ k) (hown : w3.ownsRow B 39 4 v' (n + 1) (((List.range n).flatMap fun i => resL (F i) (vs i)) ++ resL (F n) vn))
    (hg : W.grownBy w3 v.ownBlock) (hat : v'.ownBlock = v.ownBlock ∨ v'.ownBlock = some W.heap.size) : OutIs w3 B v' (fun i => if i = n then vn else vs i) F (n + 1) := by
  have hvlt : ∀ k, v.ownBlock = some k → k < w.heap.size := fun k hk => (World.ownsRow.lt h.own k hk).2
  have key : ∀ (u : Value) (l : List ByteArray), OwnS W B u l → (u.ownBlock = none ∨ u.ownBlock ≠ v.ownBlock) → OwnS w3 B u l ∧ (u.ownBlock = none ∨ u.ownBlock ≠ v'.ownBlock) := by
    intro u l hu hne
    refine ⟨World.ownsRow.kept hu hg hne, ?_⟩
    rcases hne with h0 | h0
    · exact Or.inl h0
    · rcases hat with h1 | h1
      · rw [h1]; exact Or.inr h0
      · right
        rw [h1]
        intro e
        have := (World.ownsRow.lt hu _ e).2
        omega
  refine ⟨?_, fun i hi => ?_⟩
  · have e : ((List.range (n + 1)).flatMap fun i => resL (F i) (if i = n then vn else vs i)) = ((List.range n).flatMap fun i => resL (F i) (vs i)) ++ resL (F n) vn := by
      rw [List.range_succ, List.flatMap_append]
      congr 1
      · rw [List.flatMap_def, List.flatMap_def]
        congr 1
        apply List.map_congr_left
        intro i hi
        have := List.mem_range.1 hi
        rw [if_neg (by omega)]
      · simp
    rw [e]
    exact hown
  · by_cases hin : i = n
    · subst hin
      simp only [if_true]
      refine key vn _ hn ?_
      cases hk : vn.ownBlock with
      | none => exact Or.inl rfl
      | some k =>
        right
        intro e
        have h1 := hnew k hk
        have h2 := hvlt k e.symm
        omega
    · simp only [if_neg hin]
      obtain ⟨h1, h2⟩ := h.lists i (by omega)
      exact key (vs i) _ (OwnS_new h1 hb) h2
theorem infoRes : (Try.prog.info? 39).map (fun i => (i.zero, i.size, i.bytes)) = some (some (.agg #[.int .i64 0, .string ⟨#[]⟩, .slice none 0 0, .int .i64 0]), 4, 56) := by kernel_rfl
theorem cell_four_new (w : World) (a b c d : Value) (t : TypeId) : ∀ j u, [a, b, c, d][j]? = some u → (w.alloc (.cells #[a, b, c, d] t)).cell? ((⟨w.heap.size, 0, none⟩ : Addr).add j) = some u := by
  intro j u hj
  have hc := fun (j : Nat) => cell_of_row (w.alloc (.cells #[a, b, c, d] t)) w.heap.size j #[a, b, c, d] t (0, 0) (heap_alloc_new w _)
  rw [Addr.add_lit, Nat.zero_add, hc j]
  simpa using hj
theorem cell_four_at (w : World) (g : Nat) (a b c d : Value) (t : TypeId) (hg : w.heap.size = g) : ∀ j u, [a, b, c, d][j]? = some u → (w.alloc (.cells #[a, b, c, d] t)).cell? ((⟨g, 0, none⟩ : Addr).add j) = some u := by
  subst hg
  exact cell_four_new w a b c d t
theorem one_four {a b c d : Value} (ha : a.oneCell' = true) (hb : b.oneCell' = true) (hc : c.oneCell' = true) (hd : d.oneCell' = true) : ∀ u ∈ [a, b, c, d], u.oneCell' = true := by
  intro u hu
  simp only [List.mem_cons, List.not_mem_nil, or_false] at hu
  rcases hu with rfl | rfl | rfl | rfl <;> assumption
end Go.Proofs.Ytoimmmcmlbaenaa
