/- lexer: the parts of a path. -/
import Derived.Test.YtjedcijddlilaaaGreatDoorLxMj
import Derived.Test.YtjedcijddlilaaaGreatDoorLxI
namespace Go.Proofs.YtjedcijddlilaaaGreatDoor
open Go.RowKit

/-- The parts of a path. -/
def segL : List UInt8 → List (List UInt8)
  | [] => [[]]
  | b :: r => if b = 47 then [] :: segL r else match segL r with
    | [] => [[b]]
    | h :: t => (b :: h) :: t
theorem segL_ne (l : List UInt8) : segL l ≠ [] := by
  cases l with
  | nil => simp [segL]
  | cons b r =>
    unfold segL
    by_cases h : b = 47
    · rw [if_pos h]; simp
    · rw [if_neg h]; split <;> simp
theorem segL_none : ∀ (a : List UInt8), (∀ b ∈ a, b ≠ 47) → segL a = [a]
  | [], _ => rfl
  | b :: r, h => by
    rw [segL, if_neg (h b (by simp)), segL_none r (fun c hc => h c (by simp [hc]))]
theorem segL_app : ∀ (a r : List UInt8), (∀ b ∈ a, b ≠ 47) → segL (a ++ 47 :: r) = a :: segL r
  | [], r, _ => by rw [List.nil_append, segL, if_pos rfl]
  | b :: a, r, h => by
    rw [List.cons_append, segL, if_neg (h b (by simp)), segL_app a r (fun c hc => h c (by simp [hc]))]
/-- One byte more. -/
def segPut : List (List UInt8) → UInt8 → List (List UInt8)
  | [], b => [[b]]
  | [h], b => [h ++ [b]]
  | h :: t, b => h :: segPut t b
theorem segL_snoc (l : List UInt8) (b : UInt8) : segL (l ++ [b]) = if b = 47 then segL l ++ [[]] else segPut (segL l) b := by
  induction l with
  | nil =>
    rw [List.nil_append]
    by_cases h : b = 47
    · simp [segL, h]
    · simp [segL, segPut, h]
  | cons c l ih =>
    rw [List.cons_append, segL, segL, ih]
    by_cases hc : c = 47
    · rw [if_pos hc, if_pos hc]
      by_cases h : b = 47
      · rw [if_pos h, if_pos h]; rfl
      · rw [if_neg h, if_neg h]
        have hne := segL_ne l
        cases hs : segL l with
        | nil => exact absurd hs hne
        | cons x y => rfl
    · rw [if_neg hc, if_neg hc]
      have hne := segL_ne l
      cases hs : segL l with
      | nil => exact absurd hs hne
      | cons x y =>
        by_cases h : b = 47
        · rw [if_pos h, if_pos h]; rfl
        · rw [if_neg h, if_neg h]
          cases y with
          | nil => rfl
          | cons y z => rfl
theorem split_is : ∀ (n : Nat) (l : List UInt8), l.length ≤ n → Lib.splitK [47] 0 (Lib.count l [47]) l = segL l ∧ (segL l).length = Lib.count l [47] + 1 := by
  intro n
  induction n with
  | zero =>
    intro l hl
    obtain rfl : l = [] := List.length_eq_zero_iff.1 (by omega)
    exact ⟨rfl, rfl⟩
  | succ n ih =>
    intro l hl
    have hg := Lib.indexByte_ge l 47
    by_cases h : Lib.indexByte l 47 = -1
    · have hi : Lib.index l [47] = -1 := by rw [Lib.index_one]; exact h
      have hc : Lib.count l [47] = 0 := Lib.count_miss hi
      have hn := Lib.indexByte_none h
      have hs := segL_none l (fun b hb e => by
        obtain ⟨k, hk, hkb⟩ := List.getElem_of_mem hb
        exact hn k (by rw [List.getElem?_eq_getElem hk, hkb, e]))
      rw [hc, hs]
      exact ⟨rfl, rfl⟩
    · obtain ⟨i, hi⟩ : ∃ i : Nat, Lib.indexByte l 47 = i := ⟨(Lib.indexByte l 47).toNat, by omega⟩
      obtain ⟨h1, h2⟩ := Lib.indexByte_some hi
      have hx : Lib.index l [47] = (i : Int) := by rw [Lib.index_one]; exact hi
      have hc := Lib.count_hit (sub := [47]) (by simp) hx
      have hil : i < l.length := by
        by_cases hlt : i < l.length
        · exact hlt
        · rw [List.getElem?_eq_none (by omega)] at h1; cases h1
      have hd : (l.drop (i + 1)).length ≤ n := by rw [List.length_drop]; omega
      have hl2 : l = l.take i ++ 47 :: l.drop (i + 1) := by
        have e : l[i] = 47 := by rw [List.getElem?_eq_getElem hil] at h1; exact Option.some.inj h1
        conv => lhs; rw [← List.take_append_drop i l, List.drop_eq_getElem_cons hil, e]
      have hs : segL l = l.take i :: segL (l.drop (i + 1)) := by
        conv => lhs; rw [hl2]
        refine segL_app _ _ (fun b hb e => ?_)
        obtain ⟨k, hk, hkb⟩ := List.getElem_of_mem hb
        rw [List.length_take] at hk
        exact h2 k (by omega) (by rw [List.getElem_take] at hkb; rw [List.getElem?_eq_getElem (by omega), hkb, e])
      obtain ⟨i1, i2⟩ := ih (l.drop (i + 1)) hd
      have hlen1 : ([47] : List UInt8).length = 1 := rfl
      rw [hlen1] at hc
      rw [hc, Nat.add_comm 1, Lib.splitK, hs]
      have hm : ¬ (Lib.index l [47] == -1) = true := fun e => by have := beq_iff_eq.1 e; omega
      rw [if_neg hm, hx]
      refine ⟨?_, by rw [List.length_cons, i2]⟩
      rw [← i1]
      rfl
theorem splitB_is (s : ByteArray) : (Lib.splitB ⟨#[47]⟩ 0 (Lib.countB s ⟨#[47]⟩) s).map (·.data.toList) = segL s.data.toList ∧ (segL s.data.toList).length = Lib.countB s ⟨#[47]⟩ + 1 := by
  have h := split_is _ s.data.toList (Nat.le_refl _)
  exact ⟨(Lib.splitB_data _ _ _ _).trans h.1, h.2⟩
/-- The parts are not longer than the path. -/
theorem segL_le (l : List UInt8) : ∀ x ∈ segL l, x.length ≤ l.length := by
  induction l with
  | nil => intro x hx; simp [segL] at hx; rw [hx]; exact Nat.le_refl _
  | cons b r ih =>
    intro x hx
    rw [segL] at hx
    by_cases h : b = 47
    · rw [if_pos h] at hx
      rcases List.mem_cons.1 hx with rfl | hx
      · simp
      · have := ih x hx; simp; omega
    · rw [if_neg h] at hx
      cases hs : segL r with
      | nil => exact absurd hs (segL_ne r)
      | cons y z =>
        rw [hs] at hx ih
        simp only [] at hx
        rcases List.mem_cons.1 hx with rfl | hx
        · have := ih y (by simp); simp; omega
        · have := ih x (by simp [hx]); simp; omega

/-- The major version of a path, and the error. -/
def majL (l : List UInt8) : Int × Int :=
  if 64 < l.length then (0, 4) else if (segL l).all isSgm = true then
    (if (segL l).length < 2 ∨ (majV ((segL l).getLastD [])).2 = false then (0, 4) else ((majV ((segL l).getLastD [])).1, 0)) else (0, 4)
theorem majL_long {l : List UInt8} (h : 64 < l.length) : majL l = (0, 4) := by unfold majL; rw [if_pos h]
theorem majL_seg {l : List UInt8} (h : ¬ 64 < l.length) (hs : (segL l).all isSgm = false) : majL l = (0, 4) := by unfold majL; rw [if_neg h, hs]; rfl
theorem majL_no {l : List UInt8} (h : ¬ 64 < l.length) (hs : (segL l).all isSgm = true) (hn : (segL l).length < 2 ∨ (majV ((segL l).getLastD [])).2 = false) : majL l = (0, 4) := by unfold majL; rw [if_neg h, hs, if_pos rfl, if_pos hn]
theorem majL_ok {l : List UInt8} (h : ¬ 64 < l.length) (hs : (segL l).all isSgm = true) (hn : ¬ ((segL l).length < 2 ∨ (majV ((segL l).getLastD [])).2 = false)) : majL l = ((majV ((segL l).getLastD [])).1, 0) := by unfold majL; rw [if_neg h, hs, if_pos rfl, if_neg hn]

theorem cell_strs (w : World) (S : List ByteArray) (t : TypeId) (k : Nat) (hk : k < S.length) : (w.alloc (.cells (S.map Value.string).toArray t)).cell? ⟨w.heap.size, k, none⟩ = some (.string (S.getD k ⟨#[]⟩)) := by
  rw [cell_of_row _ _ _ _ _ _ (heap_alloc_new w _)]
  simp [List.getD, hk]
theorem all_of {S : List ByteArray} {L : List (List UInt8)} {p : List UInt8 → Bool} (hS : S.map (·.data.toList) = L) (h : ∀ j, j < S.length → p (S.getD j ⟨#[]⟩).data.toList = true) : L.all p = true := by
  subst hS
  rw [List.all_map, List.all_eq_true]
  intro x hx
  obtain ⟨j, hj, rfl⟩ := List.getElem_of_mem hx
  have := h j hj
  simpa [List.getD, hj] using this
theorem not_all {S : List ByteArray} {L : List (List UInt8)} {p : List UInt8 → Bool} (hS : S.map (·.data.toList) = L) (j : Nat) (hj : j < S.length) (h : p (S.getD j ⟨#[]⟩).data.toList = false) : L.all p = false := by
  subst hS
  cases hx : (S.map (·.data.toList)).all p with
  | false => rfl
  | true =>
    rw [List.all_map, List.all_eq_true] at hx
    have := hx S[j] (List.getElem_mem hj)
    rw [List.getD_eq_getElem?_getD, List.getElem?_eq_getElem hj, Option.getD_some] at h
    simp only [Function.comp] at this
    rw [this] at h; exact h
theorem last_of {S : List ByteArray} {L : List (List UInt8)} (hS : S.map (·.data.toList) = L) : L.getLastD [] = (S.getD (S.length - 1) ⟨#[]⟩).data.toList := by
  subst hS
  rw [List.getLastD_eq_getLast?, List.getLast?_eq_getElem?, List.length_map, List.getElem?_map, List.getD_eq_getElem?_getD]
  cases S[S.length - 1]? <;> rfl

set_option maxRecDepth 100000 in
set_option maxHeartbeats 4000000 in
theorem major_any (s : ByteArray) (w : World) (hE : Env w) :
    Calls Tryz.prog 140 #[.string s] w fun e w' => e = .returned (.tuple #[.int .i64 (majL s.data.toList).1, .int .i64 (majL s.data.toList).2]) ∧ Below w.heap.size w w' := by
  by_cases hbig : 64 < s.size
  · rw [majL_long (by rw [size_list]; exact hbig)]
    go_enter Tryz.func140, Tryz.ntmps140
    go_wp2_with fail
    go_ret2
    exact ⟨rfl, Below.refl _ _⟩
  · have hbl : ¬ 64 < s.data.toList.length := by rw [size_list]; exact hbig
    obtain ⟨hS, hN⟩ := splitB_is s
    obtain ⟨m, hm⟩ := hE.max
    have hcall := Tryz.strings_Split s ⟨#[47]⟩ m w (by omega) hm (by decide)
    have hle := segL_le s.data.toList
    rw [size_list] at hle
    have hNl := Lib.count_le s.data.toList [47]
    rw [size_list] at hNl
    have hN2 : Lib.countB s ⟨#[47]⟩ ≤ s.size + 1 := hNl
    generalize Lib.splitB ⟨#[47]⟩ 0 (Lib.countB s ⟨#[47]⟩) s = S at hS hcall
    have hSl : S.length = Lib.countB s ⟨#[47]⟩ + 1 := by rw [← hN, ← hS, List.length_map]
    rw [← hSl] at hcall
    have hlen : (segL s.data.toList).length = S.length := by rw [← hS, List.length_map]
    have hSle : ∀ j, j < S.length → (S.getD j ⟨#[]⟩).size ≤ 64 := fun j hj => by
      have h := hle (S.getD j ⟨#[]⟩).data.toList (by rw [← hS, List.mem_map]; exact ⟨S[j], List.getElem_mem hj, by simp [List.getD, hj]⟩)
      rw [size_list] at h; omega
    have hN1 : 1 ≤ S.length := by omega
    have hN9 : S.length ≤ 100 := by omega
    have hcl := cell_strs w S 9
    have hE2 := hE.below ((Below.refl _ w).alloc (Nat.le_refl _) (.cells (S.map Value.string).toArray 9))
    have hB2 := (Below.refl _ w).alloc (Nat.le_refl _) (.cells (S.map Value.string).toArray 9)
    have hl2 := last_of hS
    obtain ⟨R, hR⟩ : ∃ R, majL s.data.toList = R := ⟨_, rfl⟩
    rw [hR]
    have HR := hid hR
    clear hR
    have KS := hid (And.intro hS (And.intro hlen (And.intro hl2 (And.intro hSle (And.intro hbl trivial)))))
    have HC := hid hcall
    have HL := hid hcl
    have HW := hid (And.intro hE2 hB2)
    clear hS hN hm hcall hle hNl hN2 hSl hlen hSle hcl hE2 hB2 hbl hE hl2 m
    generalize hn : S.length = N at HC HL KS hN1 hN9
    have HN := hid hn
    clear hn
    go_enter Tryz.func140, Tryz.ntmps140
    go_wp2_with fail
    refine HC.out.mono ?_
    rintro e w2 ⟨rfl, hw2⟩
    rw [← hw2] at HL HW
    have HW2 := hid hw2.symm
    clear hw2
    go_wp2_with fail
    go_loopw [16] (fun i wr => ∃ k : Nat, k ≤ N ∧ i = .int .i64 (k : Int) ∧ (∀ j, j < k → isSgm (S.getD j ⟨#[]⟩).data.toList = true) ∧ wr = w2) (fun i _ => N - (intOf i).toNat)
    case atStart => exact ⟨0, by omega, rfl, fun j hj => absurd hj (by omega), rfl⟩
    case round =>
      obtain ⟨k, hk, rfl, hg, rfl⟩ := hrel
      by_cases hlt : k < N
      · have hck := HL.out k hlt
        have hsz := KS.out.2.2.2.1 k hlt
        have hcall2 := fun w => issegment_any (S.getD k ⟨#[]⟩) w (by omega)
        cases hq : isSgm (S.getD k ⟨#[]⟩).data.toList with
        | true =>
          rw [hq] at hcall2
          have HG := hid (And.intro hg hq)
          have HS2 := hid hcall2
          clear hg hq hcall2 hsz
          generalize S.getD k ⟨#[]⟩ = x at hck HS2
          go_wp2_with fail
          refine (HS2.out _).mono ?_
          rintro e w3 ⟨rfl, rfl⟩
          go_wp2_with fail
          go_roundw
          case rel =>
            refine ⟨k + 1, by omega, by go_num, fun j hj => ?_, trivial⟩
            by_cases hjk : j = k
            · rw [hjk]; exact HG.out.2
            · exact HG.out.1 j (by omega)
          case measure => simp [intOf]; omega
        | false =>
          rw [hq] at hcall2
          have hM := majL_seg KS.out.2.2.2.2.1 (not_all KS.out.1 k (by have := HN.out; omega) hq)
          have HS2 := hid hcall2
          obtain rfl : R = (0, 4) := HR.out.symm.trans hM
          clear hg hq hcall2 hsz hM
          generalize S.getD k ⟨#[]⟩ = x at hck HS2
          go_wp2_with fail
          refine (HS2.out _).mono ?_
          rintro e w3 ⟨rfl, rfl⟩
          go_wp2_with fail
          go_ret2
          exact ⟨rfl, HW.out.2⟩
      · obtain rfl : k = N := by omega
        have hall := all_of KS.out.1 (fun j hj => hg j (by have := HN.out; omega))
        have hck := HL.out (k - 1) (by omega)
        have hsz := KS.out.2.2.2.1 (k - 1) (by omega)
        have hlx := KS.out.2.2.1
        have hcall2 := fun w' (hb : Below wr.heap.size wr w') => majorversion_any (S.getD (k - 1) ⟨#[]⟩) w' (by omega) (HW.out.1.below hb)
        have hM : R = if k < 2 ∨ (majV (S.getD (k - 1) ⟨#[]⟩).data.toList).2 = false then (0, 4) else ((majV (S.getD (k - 1) ⟨#[]⟩).data.toList).1, 0) := by
          rw [← HR.out, ← hlx, ← KS.out.2.1]
          unfold majL
          rw [if_neg KS.out.2.2.2.2.1, hall, if_pos rfl]
        generalize S.getD (k - 1) ⟨#[]⟩ = x at hck hcall2 hM hsz
        generalize majV x.data.toList = Y at hcall2 hM
        obtain ⟨n, ok⟩ := Y
        have HC2 := hid hcall2
        have HB := hid HW.out.2
        have he1 : (k : Int) - 1 = ((k - 1 : Nat) : Int) := by omega
        by_cases h2 : k < 2
        · rw [if_pos (Or.inl h2)] at hM
          subst hM
          clear hall hg hcall2 hsz hlx
          go_wp2_with fail
          refine (HC2.out _ (Below.refl _ _)).mono ?_
          rintro e w4 ⟨rfl, hb4⟩
          have HB4 := hid hb4
          clear hb4
          go_wp2_with fail
          go_ret2
          exact ⟨rfl, HB.out.trans (HB4.out.mono HB.out.size)⟩
        · cases ok with
          | false =>
            rw [if_pos (Or.inr rfl)] at hM
            subst hM
            clear hall hg hcall2 hsz hlx
            go_wp2_with fail
            refine (HC2.out _ (Below.refl _ _)).mono ?_
            rintro e w4 ⟨rfl, hb4⟩
            have HB4 := hid hb4
            clear hb4
            go_wp2_with fail
            go_ret2
            exact ⟨rfl, HB.out.trans (HB4.out.mono HB.out.size)⟩
          | true =>
            rw [if_neg (by intro h; rcases h with h | h; exact h2 h; cases h)] at hM
            subst hM
            clear hall hg hcall2 hsz hlx
            go_wp2_with fail
            refine (HC2.out _ (Below.refl _ _)).mono ?_
            rintro e w4 ⟨rfl, hb4⟩
            have HB4 := hid hb4
            clear hb4
            go_wp2_with fail
            go_ret2
            exact ⟨rfl, HB.out.trans (HB4.out.mono HB.out.size)⟩

/-- The reference's and the program's word on a path. -/
def pathB (l : List UInt8) : Bool := (majL l).2 == 0
theorem ispath_any (s : ByteArray) (w : World) (hE : Env w) :
    Calls Tryz.prog 84 #[.string s] w fun e w' => e = .returned (.bool (pathB s.data.toList)) ∧ Below w.heap.size w w' := by
  have HM := hid (major_any s w hE)
  unfold pathB
  generalize majL s.data.toList = R at HM ⊢
  obtain ⟨n, er⟩ := R
  clear hE
  go_enter Tryz.func84, Tryz.ntmps84
  go_wp2_with fail
  refine HM.out.mono ?_
  rintro e w2 ⟨rfl, hb⟩
  have HB := hid hb
  clear hb
  go_wp2_with fail
  go_ret
  exact ⟨rfl, HB.out⟩
end Go.Proofs.YtjedcijddlilaaaGreatDoor
