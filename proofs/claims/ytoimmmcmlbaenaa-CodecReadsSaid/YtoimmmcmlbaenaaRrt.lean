/- The reference's ReadTexts. -/
import Derived.Test.YtoimmmcmlbaenaaRrd
namespace Go.Proofs.Ytoimmmcmlbaenaa
open Go.RowKit

theorem rList_bad : ∀ (m : Nat) (acc : List ByteArray) (s : ByteArray), (rList m acc s 0).2.2 ≠ 0 → (rList m acc s 0).1 = []
  | 0, acc, s, h => absurd rfl h
  | m + 1, acc, s, h => by
    rw [rList] at h ⊢
    by_cases he : (rText s 0).2.2 = 0
    · rw [if_pos he, he] at h ⊢
      exact rList_bad m _ _ h
    · rw [if_neg he]
theorem rList_much {m : Nat} {acc : List ByteArray} {s : ByteArray} (h : s.size < m) : (rList m acc s 0).2.2 ≠ 0 := by
  intro he
  have hr : rList m acc s 0 = ((rList m acc s 0).1, (rList m acc s 0).2.1, 0) := Prod.ext rfl (Prod.ext rfl he)
  obtain ⟨ps, _, h2, h3⟩ := rList_good _ _ _ _ _ hr
  have h4 := congrArg List.length h3
  rw [List.length_append, size_list', size_list'] at h4
  have := sizes_encUs ps
  omega
/-- What ReadTexts returns. -/
def RTs (B : Nat) (x : List ByteArray × ByteArray × Int) (sz : Nat) (e : Ending) (w' : World) : Prop :=
  if x.2.2 = 0 then ∃ v, e = .returned (.tuple #[v, .int .i64 ((sz - x.2.1.size : Nat) : Int), .bool true]) ∧ OwnS w' B v x.1 else e = .returned (.tuple #[.slice none 0 0, .int .i64 0, .bool false])

set_option maxRecDepth 100000 in
set_option maxHeartbeats 2000000 in
theorem refreadtexts_any (s : ByteArray) (p : Nat) (w : World) (hp : p ≤ s.size) (hs : s.size ≤ 1048576) :
    Calls Try.prog 44 #[.string s, .int .i64 (p : Int)] w
      fun e w' => RTs w.heap.size (rTexts (offB s p) 0) s.size e w' ∧ Below w.heap.size w w' := by
  obtain ⟨i0, hi, hz0, hz1, hz2⟩ := info_parts infoStr
  have h := refreaduint_any s p w hp hs
  generalize hx : rCount 9223372036854775807 (offB s p) 0 = x at h
  obtain ⟨a, s', e'⟩ := x
  -- the count with the lesser bound
  have hcount : rCount ((offB s p).size : Int) (offB s p) 0 = if e' = 0 ∧ a ≤ ((offB s p).size : Int) then (a, s', 0) else (0, s', 9) := by
    unfold rCount at hx ⊢
    cases hr : readU 0 0 (offB s p).data.toList with
    | none =>
      rw [rNum_none _ hr] at hx ⊢
      rw [if_neg (by simp only; omega)] at hx
      injection hx with h1 hx; injection hx with h2 h3
      rw [if_neg (by simp only; omega), ← h1, ← h2, ← h3]
      rw [if_neg (by intro h; exact absurd h.1 (by decide))]
      rfl
    | some y =>
      obtain ⟨n, r⟩ := y
      rw [rNum_some _ hr] at hx ⊢
      simp only at hx ⊢
      by_cases hbig : 9223372036854775807 < n
      · rw [if_pos (Or.inr hbig)] at hx ⊢
        injection hx with h1 hx; injection hx with h2 h3
        rw [← h1, ← h2, ← h3, if_neg (by intro h; exact absurd h.1 (failE_ne _))]
        rfl
      · rw [if_neg (by omega)] at hx
        injection hx with h1 hx; injection hx with h2 h3
        subst h1 h2 h3
        by_cases hle : (n : Int) ≤ ((offB s p).size : Int)
        · rw [if_neg (by omega), if_pos ⟨rfl, hle⟩]
        · rw [if_pos (Or.inl (by omega)), if_neg (by intro h; exact hle h.2)]
          rfl
  by_cases he : e' = 0
  · subst he
    obtain ⟨n, rfl, hn, hl⟩ := rCount_good hx
    obtain ⟨h1, h2, h3, h4⟩ := suffix_of hp hl
    have h5 : Calls Try.prog 41 #[.string s, .int .i64 (p : Int)] w fun e w' => e = .returned (.tuple #[.int .i64 (n : Int), .int .i64 ((s.size - s'.size : Nat) : Int), .bool true]) ∧ w' = w := h
    clear h hx hl
    have hos := off_size s p
    by_cases hgt : (s'.size : Int) < (n : Int)
    · have hbad : (rTexts (offB s p) 0).2.2 ≠ 0 := by
        unfold rTexts
        rw [hcount]
        split
        · have e0 : ((n : Nat) : Int).toNat = n := by omega
          show (rList ((n : Nat) : Int).toNat [] s' 0).2.2 ≠ 0
          rw [e0]
          exact rList_much (by omega)
        · show (9 : Int) ≠ 0
          decide
      have hfin : ∀ (e : Ending) (w' : World), e = .returned (.tuple #[.slice none 0 0, .int .i64 0, .bool false]) → RTs w.heap.size (rTexts (offB s p) 0) s.size e w' := by
        intro e w' h
        unfold RTs
        rw [if_neg hbad]
        exact h
      have hgt2 : (s.size : Int) - ((s.size - s'.size : Nat) : Int) < (n : Int) := by omega
      generalize s.size - s'.size = nx at h1 h2 h3 h4 h5 hgt2
      have HM := hid (And.intro h5 hfin)
      clear h5 hfin hbad hcount h1 hgt
      go_enter Try.func44, Try.ntmps44
      go_wp2_with fail
      refine HM.out.1.mono ?_
      rintro e w' ⟨rfl, rfl⟩
      go_wp2_with fail
      go_ret3
      exact ⟨HM.out.2 _ _ rfl, Below.refl _ _⟩
    · have hT : rTexts (offB s p) 0 = rList n [] s' 0 := by
        unfold rTexts
        rw [hcount, if_pos ⟨rfl, by omega⟩]
        have e0 : ((n : Nat) : Int).toNat = n := by omega
        show rList ((n : Nat) : Int).toNat [] s' 0 = _
        rw [e0]
      rw [hT]
      have hgt2 : ¬ (s.size : Int) - ((s.size - s'.size : Nat) : Int) < (n : Int) := by omega
      have hns : n ≤ 1048576 := by omega
      have h7 := h1
      generalize hnx : s.size - s'.size = nx at h1 h2 h3 h4 h5 h7 hgt2
      generalize hX : rList n [] s' 0 = X
      have HX := hid (And.intro hX h7)
      have HM := hid h5
      have ho := own_empty w w.heap.size 9 (Nat.le_refl _)
      have hb := (Below.refl w.heap.size w).alloc (Nat.le_refl _) (.cells #[] 9)
      have HO := hid (And.intro ho hb)
      clear h5 hcount h1 hgt hX hT h7 hnx ho hb
      go_enter Try.func44, Try.ntmps44
      go_wp2_with fail
      refine HM.out.mono ?_
      rintro e w' ⟨rfl, rfl⟩
      go_wp2_with fail
      go_loopw [8, 10, 11] (fun q v i wr => ∃ (k nq : Nat) (acc : List ByteArray), k ≤ n ∧ i = .int .i64 (k : Int) ∧ q = .int .i64 (nq : Int) ∧ nq ≤ s.size ∧ acc.length = k ∧ OwnS wr w'.heap.size v acc ∧ Below w'.heap.size w' wr ∧ X = rList (n - k) acc (offB s nq) 0) (fun _ _ i _ => n - (intOf i).toNat)
      case atStart => exact ⟨0, nx, [], by omega, rfl, rfl, h3, rfl, HO.out.1, HO.out.2, by rw [← HX.out.2]; exact HX.out.1.symm⟩
      case round =>
        obtain ⟨k, nq, acc, hk, rfl, rfl, hnq, hacc, hown, hbw, hX⟩ := hrel
        obtain ⟨bv, cv, rfl⟩ := own_slice hown
        subst hacc
        have KR := hid (And.intro hown (And.intro hbw hX))
        clear hown hbw hX
        by_cases hlt : acc.length < n
        · have ht := refreadtext_any s nq wr hnq hs
          have hstep : Kpt (X = if (rText (offB s nq) 0).2.2 = 0 then rList (n - (acc.length + 1)) (acc ++ [(rText (offB s nq) 0).1]) (rText (offB s nq) 0).2.1 (rText (offB s nq) 0).2.2 else ([], (rText (offB s nq) 0).2.1, (rText (offB s nq) 0).2.2)) := by
            refine hid (KR.out.2.2.trans ?_)
            rw [show n - acc.length = (n - (acc.length + 1)) + 1 by omega, rList]
          have hgoodT := fun (t s2 : ByteArray) (h : rText (offB s nq) 0 = (t, s2, 0)) => suffix_of hnq (rText_good h).1
          generalize rText (offB s nq) 0 = y at ht hstep hgoodT
          obtain ⟨t, s2, e2⟩ := y
          by_cases he2 : e2 = 0
          · subst he2
            obtain ⟨g1, g2, g3, g4⟩ := hgoodT t s2 rfl
            have ht2 : Calls Try.prog 43 #[.string s, .int .i64 (nq : Int)] wr fun e w' => e = .returned (.tuple #[.string t, .int .i64 ((s.size - s2.size : Nat) : Int), .bool true]) ∧ w' = wr := ht
            rw [if_pos rfl, g1] at hstep
            have KS := hid (And.intro ht2 hstep.out)
            clear ht ht2 hgoodT g1 g4 hstep
            generalize s.size - s2.size = nn at g2 g3 KS
            go_wp2_with fail
            refine KS.out.1.mono ?_
            rintro e w2 ⟨rfl, rfl⟩
            go_wp2_with (at_builtin; refine wpList_append_own _ rfl _ _ 22 rfl w'.heap.size 9 i0 (.string ByteArray.empty) 1 16 Try.underlying22 hi hz0 hz1 hz2 rfl (by decide) _ _ _ rfl (World.ownsRow.alloc KR.out.1 _) ⟨w2.heap.size, 0, none⟩ 1 1 _ rfl rfl (cell_one_new _ _ _) (fun x hx => by simp at hx; subst hx; rfl) (by unfold maxLen; omega) (by omega) (alloc_le KR.out.2.1.size _) ?_; intro v' w3 hown3 hgrow3 _; have hb3 : Below w'.heap.size w' w3 := Below.grown (KR.out.2.1.alloc KR.out.2.1.size _) hgrow3 (alloc_le KR.out.2.1.size _) (own_base KR.out.1); have K3 := hid (And.intro hown3 hb3); clear hown3 hgrow3 hb3)
            refine ⟨⟨acc.length + 1, nn, acc ++ [t], by omega, by go_num, rfl, g3, by rw [List.length_append]; rfl, ?_, K3.out.2, KS.out.2⟩, by simp [intOf]; omega⟩
            have h1 := K3.out.1
            unfold OwnS
            rw [List.length_append, List.map_append]
            exact h1
          · have hT : ∀ e w'', RT (t, s2, e2) s.size e ∧ w'' = wr → e = .returned (.tuple #[.string ⟨#[]⟩, .int .i64 0, .bool false]) ∧ w'' = wr := by
              rintro e w'' ⟨h1, h2⟩
              unfold RT at h1
              rw [if_neg he2] at h1
              exact ⟨h1, h2⟩
            have hfin : ∀ (e : Ending) (w'' : World), e = .returned (.tuple #[.slice none 0 0, .int .i64 0, .bool false]) → RTs w'.heap.size X s.size e w'' := by
              intro e w'' h
              have hx := hstep.out
              rw [if_neg he2] at hx
              unfold RTs
              rw [hx, if_neg he2]
              exact h
            have KS := hid (And.intro (ht.mono hT) hfin)
            clear ht hT hfin hgoodT hstep he2
            go_wp2_with fail
            refine KS.out.1.mono ?_
            rintro e w2 ⟨rfl, rfl⟩
            go_wp2_with fail
            go_ret3
            exact ⟨KS.out.2 _ _ rfl, KR.out.2.1⟩
        · obtain rfl : n = acc.length := by omega
          have hX : X = (acc, offB s nq, 0) := by
            have := KR.out.2.2
            rw [Nat.sub_self, rList] at this
            exact this
          have hfin : ∀ (v : Value) (w'' : World), OwnS w'' w'.heap.size v acc → RTs w'.heap.size X s.size (.returned (.tuple #[v, .int .i64 (nq : Int), .bool true])) w'' := by
            intro v w'' h
            unfold RTs
            rw [hX, if_pos rfl]
            refine ⟨v, ?_, h⟩
            simp only
            rw [off_size]
            have : s.size - (s.size - nq) = nq := by omega
            rw [this]
          have KX := hid hfin
          clear hX hfin
          go_wp2_with fail
          go_ret3
          exact ⟨KX.out _ _ KR.out.1, KR.out.2.1⟩
  · have hbad : (rTexts (offB s p) 0).2.2 ≠ 0 := by
      unfold rTexts
      rw [hcount, if_neg (by intro h; exact he h.1)]
      show (9 : Int) ≠ 0
      decide
    have hfin : ∀ (e : Ending) (w' : World), e = .returned (.tuple #[.slice none 0 0, .int .i64 0, .bool false]) → RTs w.heap.size (rTexts (offB s p) 0) s.size e w' := by
      intro e w' h
      unfold RTs
      rw [if_neg hbad]
      exact h
    have ha : ∀ e w', RI (a, s', e') s.size e ∧ w' = w → e = .returned (.tuple #[.int .i64 0, .int .i64 0, .bool false]) ∧ w' = w := by
      rintro e w' ⟨h1, h2⟩
      unfold RI at h1
      rw [if_neg he] at h1
      exact ⟨h1, h2⟩
    have HM := hid (And.intro (h.mono ha) hfin)
    clear h ha hfin hbad hcount hx he
    go_enter Try.func44, Try.ntmps44
    go_wp2_with fail
    refine HM.out.1.mono ?_
    rintro e w' ⟨rfl, rfl⟩
    go_wp2_with fail
    go_ret3
    exact ⟨HM.out.2 _ _ rfl, Below.refl _ _⟩
end Go.Proofs.Ytoimmmcmlbaenaa
