/- The reference's Read. -/
import Derived.Test.YtoimmmcmlbaenaaRead0
namespace Go.Proofs.Ytoimmmcmlbaenaa
open Go.RowKit

/-- A round of Read is closed. -/
theorem read_close {s : ByteArray} {K N : Nat → Int} {k P P' : Nat} {E e' a kk nn : Int} {t s' : ByteArray} {l : List ByteArray} {w wr W w3 : World} {v v' vn : Value} {vs : Nat → Value} {B : Nat}
    (hK : Kpt (OutIs wr B v vs (outA s K N) k ∧ Below B w wr ∧ outA s K N k = rRes kk nn (offB s P) E ∧ stA s K N (k + 1) = (if (rRes kk nn (offB s P) E).2.2.2.2 = 0 then (rRes kk nn (offB s P) E).2.2.2.1 else offB s P, (rRes kk nn (offB s P) E).2.2.2.2) ∧ True))
    (hy : rRes kk nn (offB s P) E = (a, t, l, s', e')) (hP' : (if e' = 0 then s' else offB s P) = offB s P') (hbW : Below wr.heap.size wr W) (hn : OwnS W B vn l) (hnew : ∀ k, vn.ownBlock = some k → wr.heap.size ≤ k)
    (hown : w3.ownsRow B 39 4 v' (k + 1) (((List.range k).flatMap fun i => resL (outA s K N i) (vs i)) ++ [.int .i64 a, .string t, vn, .int .i64 e']))
    (hg : W.grownBy w3 v.ownBlock) (hat : v'.ownBlock = v.ownBlock ∨ v'.ownBlock = some W.heap.size) (hB : B ≤ wr.heap.size) :
    stA s K N (k + 1) = (offB s P', e') ∧ OutIs w3 B v' (fun i => if i = k then vn else vs i) (outA s K N) (k + 1) ∧ Below B w w3 := by
  obtain ⟨h1, h2, h3, h4, _⟩ := hK.out
  rw [hy] at h3 h4
  refine ⟨?_, OutIs_snoc h1 hbW (by rw [h3]; exact hn) hnew (by rw [h3]; exact hown) hg hat, ?_⟩
  · rw [h4]
    show (if e' = 0 then s' else offB s P, e') = _
    rw [hP']
  · exact Below.grown (h2.trans (hbW.mono hB)) hg (Nat.le_trans hB hbW.size) (own_base h1.own)

set_option maxRecDepth 100000 in
set_option maxHeartbeats 40000000 in
theorem read_any (s : ByteArray) (vc : Value) (n : Nat) (K N : Nat → Int) (w : World) (hv : CallsN w vc n K N) (hs : s.size ≤ 1048576) (hn : n ≤ 30) :
    Calls Try.prog 21 #[.string s, vc] w
      fun e w' => (∃ v vs, e = .returned v ∧ OutIs w' w.heap.size v vs (outA s K N) n) ∧ Below w.heap.size w w' := by
  obtain ⟨i0, hi, hz0, hz1, hz2⟩ := info_parts infoRes
  obtain ⟨base, cap, rfl, hcells⟩ := hv
  have HC := hid hcells
  clear hcells
  have hoff0 : offB s 0 = s := offB_zero s
  have ho : OutIs (w.alloc (.cells #[] 39)) w.heap.size (.slice (some ⟨w.heap.size, 0, none⟩) 0 0) (fun _ => .slice none 0 0) (outA s K N) 0 :=
    ⟨⟨rfl, .inr ⟨w.heap.size, 0, #[], rfl, Nat.le_refl _, heap_alloc_new w _, Nat.le_refl _, Nat.zero_le _, rfl, rfl⟩⟩, fun i hi => absurd hi (by omega)⟩
  have hb := (Below.refl w.heap.size w).alloc (Nat.le_refl _) (.cells #[] 39)
  have HO := hid (And.intro ho (And.intro hb hoff0))
  clear ho hb hoff0
  go_enter Try.func21, Try.ntmps21
  go_wp2_with fail
  go_loopw [5, 6, 7, 8] (fun v p e i wr => ∃ (k P : Nat) (E : Int) (vs : Nat → Value), k ≤ n ∧ i = .int .i64 (k : Int) ∧ p = .int .i64 (P : Int) ∧ P ≤ s.size ∧ e = .int .i64 E ∧ stA s K N k = (offB s P, E) ∧ OutIs wr w.heap.size v vs (outA s K N) k ∧ Below w.heap.size w wr) (fun _ _ _ i _ => n - (intOf i).toNat)
  case atStart => exact ⟨0, 0, 0, _, by omega, rfl, rfl, by omega, rfl, by rw [HO.out.2.2]; rfl, HO.out.1, HO.out.2.1⟩
  case round =>
    obtain ⟨k, P, E, vs, hk, rfl, rfl, hP, rfl, hst, hout, hb⟩ := hrel
    by_cases hlt : k < n
    · obtain ⟨b, o, rfl, hc0, hc1⟩ := HC.out k hlt
      have hd0 := (hb.cell (p := ⟨b, o + k * 2, none⟩) (block_lt_any hc0)).trans hc0
      have hd1 := (hb.cell (p := ⟨b, o + k * 2 + 1, none⟩) (block_lt_any hc1)).trans hc1
      have hoA : outA s K N k = rRes (K k) (N k) (offB s P) E := by unfold outA; rw [hst]
      have hsA : stA s K N (k + 1) = (if (rRes (K k) (N k) (offB s P) E).2.2.2.2 = 0 then (rRes (K k) (N k) (offB s P) E).2.2.2.1 else offB s P, (rRes (K k) (N k) (offB s P) E).2.2.2.2) := by
        show (_, _) = _
        rw [hst]
      generalize K k = kk at hc0 hd0 hoA hsA
      generalize N k = nn at hc1 hd1 hoA hsA
      have hbl := hb.size
      have KR := hid (And.intro hout (And.intro hb (And.intro hoA (And.intro hsA trivial))))
      clear hc0 hc1 hst hout hb hoA hsA
      by_cases h5 : kk = 5
      · subst h5
        by_cases hE : E = 0
        · subst hE
          have HY := hid (show rRes 5 nn (offB s P) 0 = (0, ⟨#[]⟩, [], offB s P, nn) from rfl)
          go_wp2_with (at_builtin; refine wpList_append_own_at _ rfl _ _ 36 rfl w.heap.size 39 i0 _ 4 56 Try.underlying36 hi hz0 hz1 hz2 rfl (by decide) _ _ _ rfl (World.ownsRow.alloc (World.ownsRow.alloc (World.ownsRow.alloc KR.out.1.own _) _) _) ⟨_, 0, none⟩ 1 1 [.int .i64 _, .string _, .slice _ _ _, .int .i64 _] rfl rfl (cell_four_at _ _ _ _ _ _ _ (by simp)) (one_four rfl rfl rfl rfl) (by unfold maxLen; omega) (by omega) (alloc_le (alloc_le (alloc_le KR.out.2.1.size _) _) _) ?_; intro v' w3 hown3 hgrow3 _ hat3; have hgrow4 : World.grownBy _ w3 u5.ownBlock := hgrow3; have hat4 : v'.ownBlock = u5.ownBlock ∨ v'.ownBlock = some (World.heap _).size := hat3; have K3 := hid (And.intro hown3 (And.intro hgrow4 hat4)); clear hown3 hgrow3 hat3 hgrow4 hat4)
          have hcl := read_close KR HY.out (by split <;> rfl) ((((Below.refl _ _).alloc (Nat.le_refl _) _).alloc (alloc_le (Nat.le_refl _) _) _).alloc (alloc_le (alloc_le (Nat.le_refl _) _) _) _) (World.ownsRow_nil _ _ _ _) (fun k e => by simp [Value.ownBlock] at e) K3.out.1 K3.out.2.1 K3.out.2.2 hbl
          exact ⟨⟨k + 1, _, _, _, by omega, by go_num, rfl, hP, rfl, hcl.1, hcl.2.1, hcl.2.2⟩, by simp [intOf]; omega⟩
        · have qE : (E == 0) = false := by rw [beq_eq_false_iff_ne]; exact hE
          have hy : rRes 5 nn (offB s P) E = (0, ⟨#[]⟩, [], offB s P, E) := by rw [rRes_err _ _ _ hE]; rfl
          have HY := hid hy
          clear hE hy
          go_wp2_with (at_builtin; refine wpList_append_own_at _ rfl _ _ 36 rfl w.heap.size 39 i0 _ 4 56 Try.underlying36 hi hz0 hz1 hz2 rfl (by decide) _ _ _ rfl (World.ownsRow.alloc (World.ownsRow.alloc (World.ownsRow.alloc KR.out.1.own _) _) _) ⟨_, 0, none⟩ 1 1 [.int .i64 _, .string _, .slice _ _ _, .int .i64 _] rfl rfl (cell_four_at _ _ _ _ _ _ _ (by simp)) (one_four rfl rfl rfl rfl) (by unfold maxLen; omega) (by omega) (alloc_le (alloc_le (alloc_le KR.out.2.1.size _) _) _) ?_; intro v' w3 hown3 hgrow3 _ hat3; have hgrow4 : World.grownBy _ w3 u5.ownBlock := hgrow3; have hat4 : v'.ownBlock = u5.ownBlock ∨ v'.ownBlock = some (World.heap _).size := hat3; have K3 := hid (And.intro hown3 (And.intro hgrow4 hat4)); clear hown3 hgrow3 hat3 hgrow4 hat4)
          have hcl := read_close KR HY.out (by split <;> rfl) ((((Below.refl _ _).alloc (Nat.le_refl _) _).alloc (alloc_le (Nat.le_refl _) _) _).alloc (alloc_le (alloc_le (Nat.le_refl _) _) _) _) (World.ownsRow_nil _ _ _ _) (fun k e => by simp [Value.ownBlock] at e) K3.out.1 K3.out.2.1 K3.out.2.2 hbl
          exact ⟨⟨k + 1, _, _, _, by omega, by go_num, rfl, hP, rfl, hcl.1, hcl.2.1, hcl.2.2⟩, by simp [intOf]; omega⟩
      have q5 : (kk == 5) = false := by rw [beq_eq_false_iff_ne]; exact h5
      by_cases h6 : kk = 6
      · subst h6
        clear h5
        by_cases hE : E = 0
        · subst hE
          by_cases hPs : P = s.size
          · subst hPs
            have HY := hid (show rRes 6 nn (offB s s.size) 0 = (0, ⟨#[]⟩, [], offB s s.size, 0) by
              show (endV (offB s s.size) 0, _) = _
              have e : endV (offB s s.size) 0 = 0 := by unfold endV; rw [if_pos rfl, off_list, List.drop_of_length_le (by rw [size_list']; exact Nat.le_refl _)]
              rw [e])
            go_wp2_with (at_builtin; refine wpList_append_own_at _ rfl _ _ 36 rfl w.heap.size 39 i0 _ 4 56 Try.underlying36 hi hz0 hz1 hz2 rfl (by decide) _ _ _ rfl (World.ownsRow.alloc (World.ownsRow.alloc (World.ownsRow.alloc KR.out.1.own _) _) _) ⟨_, 0, none⟩ 1 1 [.int .i64 _, .string _, .slice _ _ _, .int .i64 _] rfl rfl (cell_four_at _ _ _ _ _ _ _ (by simp)) (one_four rfl rfl rfl rfl) (by unfold maxLen; omega) (by omega) (alloc_le (alloc_le (alloc_le KR.out.2.1.size _) _) _) ?_; intro v' w3 hown3 hgrow3 _ hat3; have hgrow4 : World.grownBy _ w3 u5.ownBlock := hgrow3; have hat4 : v'.ownBlock = u5.ownBlock ∨ v'.ownBlock = some (World.heap _).size := hat3; have K3 := hid (And.intro hown3 (And.intro hgrow4 hat4)); clear hown3 hgrow3 hat3 hgrow4 hat4)
            have hcl := read_close KR HY.out (by split <;> rfl) ((((Below.refl _ _).alloc (Nat.le_refl _) _).alloc (alloc_le (Nat.le_refl _) _) _).alloc (alloc_le (alloc_le (Nat.le_refl _) _) _) _) (World.ownsRow_nil _ _ _ _) (fun k e => by simp [Value.ownBlock] at e) K3.out.1 K3.out.2.1 K3.out.2.2 hbl
            exact ⟨⟨k + 1, _, _, _, by omega, by go_num, rfl, hP, rfl, hcl.1, hcl.2.1, hcl.2.2⟩, by simp [intOf]; omega⟩
          · have hne : ((P : Int) != (s.size : Int)) = true := by rw [bne_iff_ne]; omega
            have hne2 : (P == s.size) = false := by rw [beq_eq_false_iff_ne]; exact hPs
            have HY := hid (show rRes 6 nn (offB s P) 0 = (9, ⟨#[]⟩, [], offB s P, 0) by
              show (endV (offB s P) 0, _) = _
              have e : endV (offB s P) 0 = 9 := by
                unfold endV
                rw [if_pos rfl]
                have hl := size_list' (offB s P)
                rw [off_size] at hl
                cases hc : (offB s P).data.toList with
                | nil => rw [hc, List.length_nil] at hl; omega
                | cons x y => rfl
              rw [e])
            go_wp2_with (at_builtin; refine wpList_append_own_at _ rfl _ _ 36 rfl w.heap.size 39 i0 _ 4 56 Try.underlying36 hi hz0 hz1 hz2 rfl (by decide) _ _ _ rfl (World.ownsRow.alloc (World.ownsRow.alloc (World.ownsRow.alloc KR.out.1.own _) _) _) ⟨_, 0, none⟩ 1 1 [.int .i64 _, .string _, .slice _ _ _, .int .i64 _] rfl rfl (cell_four_at _ _ _ _ _ _ _ (by simp)) (one_four rfl rfl rfl rfl) (by unfold maxLen; omega) (by omega) (alloc_le (alloc_le (alloc_le KR.out.2.1.size _) _) _) ?_; intro v' w3 hown3 hgrow3 _ hat3; have hgrow4 : World.grownBy _ w3 u5.ownBlock := hgrow3; have hat4 : v'.ownBlock = u5.ownBlock ∨ v'.ownBlock = some (World.heap _).size := hat3; have K3 := hid (And.intro hown3 (And.intro hgrow4 hat4)); clear hown3 hgrow3 hat3 hgrow4 hat4)
            have hcl := read_close KR HY.out (by split <;> rfl) ((((Below.refl _ _).alloc (Nat.le_refl _) _).alloc (alloc_le (Nat.le_refl _) _) _).alloc (alloc_le (alloc_le (Nat.le_refl _) _) _) _) (World.ownsRow_nil _ _ _ _) (fun k e => by simp [Value.ownBlock] at e) K3.out.1 K3.out.2.1 K3.out.2.2 hbl
            exact ⟨⟨k + 1, _, _, _, by omega, by go_num, rfl, hP, rfl, hcl.1, hcl.2.1, hcl.2.2⟩, by simp [intOf]; omega⟩
        · have qE : (E == 0) = false := by rw [beq_eq_false_iff_ne]; exact hE
          have hy : rRes 6 nn (offB s P) E = (E, ⟨#[]⟩, [], offB s P, E) := by rw [rRes_err _ _ _ hE]; rfl
          have HY := hid hy
          clear hE hy
          go_wp2_with (at_builtin; refine wpList_append_own_at _ rfl _ _ 36 rfl w.heap.size 39 i0 _ 4 56 Try.underlying36 hi hz0 hz1 hz2 rfl (by decide) _ _ _ rfl (World.ownsRow.alloc (World.ownsRow.alloc (World.ownsRow.alloc KR.out.1.own _) _) _) ⟨_, 0, none⟩ 1 1 [.int .i64 _, .string _, .slice _ _ _, .int .i64 _] rfl rfl (cell_four_at _ _ _ _ _ _ _ (by simp)) (one_four rfl rfl rfl rfl) (by unfold maxLen; omega) (by omega) (alloc_le (alloc_le (alloc_le KR.out.2.1.size _) _) _) ?_; intro v' w3 hown3 hgrow3 _ hat3; have hgrow4 : World.grownBy _ w3 u5.ownBlock := hgrow3; have hat4 : v'.ownBlock = u5.ownBlock ∨ v'.ownBlock = some (World.heap _).size := hat3; have K3 := hid (And.intro hown3 (And.intro hgrow4 hat4)); clear hown3 hgrow3 hat3 hgrow4 hat4)
          have hcl := read_close KR HY.out (by split <;> rfl) ((((Below.refl _ _).alloc (Nat.le_refl _) _).alloc (alloc_le (Nat.le_refl _) _) _).alloc (alloc_le (alloc_le (Nat.le_refl _) _) _) _) (World.ownsRow_nil _ _ _ _) (fun k e => by simp [Value.ownBlock] at e) K3.out.1 K3.out.2.1 K3.out.2.2 hbl
          exact ⟨⟨k + 1, _, _, _, by omega, by go_num, rfl, hP, rfl, hcl.1, hcl.2.1, hcl.2.2⟩, by simp [intOf]; omega⟩
      have q6 : (kk == 6) = false := by rw [beq_eq_false_iff_ne]; exact h6
      by_cases hE : E = 0
      case neg =>
        have qE : (E == 0) = false := by rw [beq_eq_false_iff_ne]; exact hE
        have hy : rRes kk nn (offB s P) E = (0, ⟨#[]⟩, [], offB s P, E) := by rw [rRes_err _ _ _ hE, if_neg h6]
        have HY := hid hy
        clear h5 h6 hE hy
        go_wp2_with (at_builtin; refine wpList_append_own_at _ rfl _ _ 36 rfl w.heap.size 39 i0 _ 4 56 Try.underlying36 hi hz0 hz1 hz2 rfl (by decide) _ _ _ rfl (World.ownsRow.alloc (World.ownsRow.alloc (World.ownsRow.alloc KR.out.1.own _) _) _) ⟨_, 0, none⟩ 1 1 [.int .i64 _, .string _, .slice _ _ _, .int .i64 _] rfl rfl (cell_four_at _ _ _ _ _ _ _ (by simp)) (one_four rfl rfl rfl rfl) (by unfold maxLen; omega) (by omega) (alloc_le (alloc_le (alloc_le KR.out.2.1.size _) _) _) ?_; intro v' w3 hown3 hgrow3 _ hat3; have hgrow4 : World.grownBy _ w3 u5.ownBlock := hgrow3; have hat4 : v'.ownBlock = u5.ownBlock ∨ v'.ownBlock = some (World.heap _).size := hat3; have K3 := hid (And.intro hown3 (And.intro hgrow4 hat4)); clear hown3 hgrow3 hat3 hgrow4 hat4)
        have hcl := read_close KR HY.out (by split <;> rfl) ((((Below.refl _ _).alloc (Nat.le_refl _) _).alloc (alloc_le (Nat.le_refl _) _) _).alloc (alloc_le (alloc_le (Nat.le_refl _) _) _) _) (World.ownsRow_nil _ _ _ _) (fun k e => by simp [Value.ownBlock] at e) K3.out.1 K3.out.2.1 K3.out.2.2 hbl
        exact ⟨⟨k + 1, _, _, _, by omega, by go_num, rfl, hP, rfl, hcl.1, hcl.2.1, hcl.2.2⟩, by simp [intOf]; omega⟩
      subst hE
      by_cases h0 : kk = 0
      · subst h0
        have h := refreaduint_any s P ((wr.alloc (.cells #[.int .i64 0, .int .i64 nn] 43)).alloc (.cells #[.int .i64 0, .string ⟨#[]⟩, .slice none 0 0, .int .i64 0] 39)) hP hs
        have hor := rCount_or 9223372036854775807 (offB s P)
        have hyy : rRes 0 nn (offB s P) 0 = ((rCount 9223372036854775807 (offB s P) 0).1, ⟨#[]⟩, [], (rCount 9223372036854775807 (offB s P) 0).2) := rfl
        have hgd := fun (a : Int) (s' : ByteArray) (hx : rCount 9223372036854775807 (offB s P) 0 = (a, s', 0)) => suffix_of hP ((rCount_good hx).choose_spec.2.2)
        generalize rCount 9223372036854775807 (offB s P) 0 = x at h hor hyy hgd
        obtain ⟨a, s', e'⟩ := x
        by_cases he : e' = 0
        · subst he
          obtain ⟨g1, g2, g3, g4⟩ := hgd a s' rfl
          have h2 : Calls Try.prog 41 #[.string s, .int .i64 (P : Int)] _ fun e w' => e = .returned (.tuple #[.int .i64 a, .int .i64 ((s.size - s'.size : Nat) : Int), .bool true]) ∧ w' = _ := h
          have HY := hid (show rRes 0 nn (offB s P) 0 = (a, ⟨#[]⟩, [], s', 0) from hyy)
          have HH := hid (And.intro h2 g1)
          clear h h2 hor hyy hgd g1 g4
          generalize s.size - s'.size = nx at g2 g3 HH
          go_wp2_with fail
          refine HH.out.1.mono ?_
          rintro e w4 ⟨rfl, rfl⟩
          go_wp2_with (at_builtin; refine wpList_append_own_at _ rfl _ _ 36 rfl w.heap.size 39 i0 _ 4 56 Try.underlying36 hi hz0 hz1 hz2 rfl (by decide) _ _ _ rfl (World.ownsRow.alloc (World.ownsRow.alloc (World.ownsRow.alloc KR.out.1.own _) _) _) ⟨_, 0, none⟩ 1 1 [.int .i64 _, .string _, .slice _ _ _, .int .i64 _] rfl rfl (cell_four_at _ _ _ _ _ _ _ (by simp)) (one_four rfl rfl rfl rfl) (by unfold maxLen; omega) (by omega) (alloc_le (alloc_le (alloc_le KR.out.2.1.size _) _) _) ?_; intro v' w3 hown3 hgrow3 _ hat3; have hgrow4 : World.grownBy _ w3 u5.ownBlock := hgrow3; have hat4 : v'.ownBlock = u5.ownBlock ∨ v'.ownBlock = some (World.heap _).size := hat3; have K3 := hid (And.intro hown3 (And.intro hgrow4 hat4)); clear hown3 hgrow3 hat3 hgrow4 hat4)
          have hcl := read_close KR HY.out (by rw [if_pos rfl]; exact HH.out.2) ((((Below.refl _ _).alloc (Nat.le_refl _) _).alloc (alloc_le (Nat.le_refl _) _) _).alloc (alloc_le (alloc_le (Nat.le_refl _) _) _) _) (World.ownsRow_nil _ _ _ _) (fun k e => by simp [Value.ownBlock] at e) K3.out.1 K3.out.2.1 K3.out.2.2 hbl
          exact ⟨⟨k + 1, _, _, _, by omega, by go_num, rfl, g3, rfl, hcl.1, hcl.2.1, hcl.2.2⟩, by simp [intOf]; omega⟩
        · have hbad : a = 0 ∧ e' = 9 := hor.resolve_left he
          obtain ⟨rfl, rfl⟩ := hbad
          have h2 : Calls Try.prog 41 #[.string s, .int .i64 (P : Int)] _ fun e w' => e = .returned (.tuple #[.int .i64 0, .int .i64 0, .bool false]) ∧ w' = _ := h
          have HY := hid (show rRes 0 nn (offB s P) 0 = (0, ⟨#[]⟩, [], s', 9) from hyy)
          have HH := hid h2
          clear h h2 hor hyy hgd he
          go_wp2_with fail
          refine HH.out.mono ?_
          rintro e w4 ⟨rfl, rfl⟩
          go_wp2_with (at_builtin; refine wpList_append_own_at _ rfl _ _ 36 rfl w.heap.size 39 i0 _ 4 56 Try.underlying36 hi hz0 hz1 hz2 rfl (by decide) _ _ _ rfl (World.ownsRow.alloc (World.ownsRow.alloc (World.ownsRow.alloc KR.out.1.own _) _) _) ⟨_, 0, none⟩ 1 1 [.int .i64 _, .string _, .slice _ _ _, .int .i64 _] rfl rfl (cell_four_at _ _ _ _ _ _ _ (by simp)) (one_four rfl rfl rfl rfl) (by unfold maxLen; omega) (by omega) (alloc_le (alloc_le (alloc_le KR.out.2.1.size _) _) _) ?_; intro v' w3 hown3 hgrow3 _ hat3; have hgrow4 : World.grownBy _ w3 u5.ownBlock := hgrow3; have hat4 : v'.ownBlock = u5.ownBlock ∨ v'.ownBlock = some (World.heap _).size := hat3; have K3 := hid (And.intro hown3 (And.intro hgrow4 hat4)); clear hown3 hgrow3 hat3 hgrow4 hat4)
          have hcl := read_close KR HY.out (if_neg (by decide)) ((((Below.refl _ _).alloc (Nat.le_refl _) _).alloc (alloc_le (Nat.le_refl _) _) _).alloc (alloc_le (alloc_le (Nat.le_refl _) _) _) _) (World.ownsRow_nil _ _ _ _) (fun k e => by simp [Value.ownBlock] at e) K3.out.1 K3.out.2.1 K3.out.2.2 hbl
          exact ⟨⟨k + 1, _, _, _, by omega, by go_num, rfl, hP, rfl, hcl.1, hcl.2.1, hcl.2.2⟩, by simp [intOf]; omega⟩
      have q0 : (kk == 0) = false := by rw [beq_eq_false_iff_ne]; exact h0
      by_cases h1 : kk = 1
      · subst h1
        have h := refreadint_any s P ((wr.alloc (.cells #[.int .i64 1, .int .i64 nn] 43)).alloc (.cells #[.int .i64 0, .string ⟨#[]⟩, .slice none 0 0, .int .i64 0] 39)) hP hs
        have hor := rInt_or (offB s P)
        have hyy : rRes 1 nn (offB s P) 0 = ((rInt (offB s P) 0).1, ⟨#[]⟩, [], (rInt (offB s P) 0).2) := rfl
        have hgd := fun (a : Int) (s' : ByteArray) (hx : rInt (offB s P) 0 = (a, s', 0)) => suffix_of hP ((rInt_good hx).2)
        generalize rInt (offB s P) 0 = x at h hor hyy hgd
        obtain ⟨a, s', e'⟩ := x
        by_cases he : e' = 0
        · subst he
          obtain ⟨g1, g2, g3, g4⟩ := hgd a s' rfl
          have h2 : Calls Try.prog 42 #[.string s, .int .i64 (P : Int)] _ fun e w' => e = .returned (.tuple #[.int .i64 a, .int .i64 ((s.size - s'.size : Nat) : Int), .bool true]) ∧ w' = _ := h
          have HY := hid (show rRes 1 nn (offB s P) 0 = (a, ⟨#[]⟩, [], s', 0) from hyy)
          have HH := hid (And.intro h2 g1)
          clear h h2 hor hyy hgd g1 g4
          generalize s.size - s'.size = nx at g2 g3 HH
          go_wp2_with fail
          refine HH.out.1.mono ?_
          rintro e w4 ⟨rfl, rfl⟩
          go_wp2_with (at_builtin; refine wpList_append_own_at _ rfl _ _ 36 rfl w.heap.size 39 i0 _ 4 56 Try.underlying36 hi hz0 hz1 hz2 rfl (by decide) _ _ _ rfl (World.ownsRow.alloc (World.ownsRow.alloc (World.ownsRow.alloc KR.out.1.own _) _) _) ⟨_, 0, none⟩ 1 1 [.int .i64 _, .string _, .slice _ _ _, .int .i64 _] rfl rfl (cell_four_at _ _ _ _ _ _ _ (by simp)) (one_four rfl rfl rfl rfl) (by unfold maxLen; omega) (by omega) (alloc_le (alloc_le (alloc_le KR.out.2.1.size _) _) _) ?_; intro v' w3 hown3 hgrow3 _ hat3; have hgrow4 : World.grownBy _ w3 u5.ownBlock := hgrow3; have hat4 : v'.ownBlock = u5.ownBlock ∨ v'.ownBlock = some (World.heap _).size := hat3; have K3 := hid (And.intro hown3 (And.intro hgrow4 hat4)); clear hown3 hgrow3 hat3 hgrow4 hat4)
          have hcl := read_close KR HY.out (by rw [if_pos rfl]; exact HH.out.2) ((((Below.refl _ _).alloc (Nat.le_refl _) _).alloc (alloc_le (Nat.le_refl _) _) _).alloc (alloc_le (alloc_le (Nat.le_refl _) _) _) _) (World.ownsRow_nil _ _ _ _) (fun k e => by simp [Value.ownBlock] at e) K3.out.1 K3.out.2.1 K3.out.2.2 hbl
          exact ⟨⟨k + 1, _, _, _, by omega, by go_num, rfl, g3, rfl, hcl.1, hcl.2.1, hcl.2.2⟩, by simp [intOf]; omega⟩
        · have hbad : a = 0 ∧ e' = 9 := hor.resolve_left he
          obtain ⟨rfl, rfl⟩ := hbad
          have h2 : Calls Try.prog 42 #[.string s, .int .i64 (P : Int)] _ fun e w' => e = .returned (.tuple #[.int .i64 0, .int .i64 0, .bool false]) ∧ w' = _ := h
          have HY := hid (show rRes 1 nn (offB s P) 0 = (0, ⟨#[]⟩, [], s', 9) from hyy)
          have HH := hid h2
          clear h h2 hor hyy hgd he
          go_wp2_with fail
          refine HH.out.mono ?_
          rintro e w4 ⟨rfl, rfl⟩
          go_wp2_with (at_builtin; refine wpList_append_own_at _ rfl _ _ 36 rfl w.heap.size 39 i0 _ 4 56 Try.underlying36 hi hz0 hz1 hz2 rfl (by decide) _ _ _ rfl (World.ownsRow.alloc (World.ownsRow.alloc (World.ownsRow.alloc KR.out.1.own _) _) _) ⟨_, 0, none⟩ 1 1 [.int .i64 _, .string _, .slice _ _ _, .int .i64 _] rfl rfl (cell_four_at _ _ _ _ _ _ _ (by simp)) (one_four rfl rfl rfl rfl) (by unfold maxLen; omega) (by omega) (alloc_le (alloc_le (alloc_le KR.out.2.1.size _) _) _) ?_; intro v' w3 hown3 hgrow3 _ hat3; have hgrow4 : World.grownBy _ w3 u5.ownBlock := hgrow3; have hat4 : v'.ownBlock = u5.ownBlock ∨ v'.ownBlock = some (World.heap _).size := hat3; have K3 := hid (And.intro hown3 (And.intro hgrow4 hat4)); clear hown3 hgrow3 hat3 hgrow4 hat4)
          have hcl := read_close KR HY.out (if_neg (by decide)) ((((Below.refl _ _).alloc (Nat.le_refl _) _).alloc (alloc_le (Nat.le_refl _) _) _).alloc (alloc_le (alloc_le (Nat.le_refl _) _) _) _) (World.ownsRow_nil _ _ _ _) (fun k e => by simp [Value.ownBlock] at e) K3.out.1 K3.out.2.1 K3.out.2.2 hbl
          exact ⟨⟨k + 1, _, _, _, by omega, by go_num, rfl, hP, rfl, hcl.1, hcl.2.1, hcl.2.2⟩, by simp [intOf]; omega⟩
      have q1 : (kk == 1) = false := by rw [beq_eq_false_iff_ne]; exact h1
      by_cases h2 : kk = 2
      · subst h2
        have h := refreadtext_any s P ((wr.alloc (.cells #[.int .i64 2, .int .i64 nn] 43)).alloc (.cells #[.int .i64 0, .string ⟨#[]⟩, .slice none 0 0, .int .i64 0] 39)) hP hs
        have hor := rText_or (offB s P)
        have hyy : rRes 2 nn (offB s P) 0 = (0, (rText (offB s P) 0).1, [], (rText (offB s P) 0).2) := rfl
        have hgd := fun (a : ByteArray) (s' : ByteArray) (hx : rText (offB s P) 0 = (a, s', 0)) => suffix_of hP ((rText_good hx).1)
        generalize rText (offB s P) 0 = x at h hor hyy hgd
        obtain ⟨a, s', e'⟩ := x
        by_cases he : e' = 0
        · subst he
          obtain ⟨g1, g2, g3, g4⟩ := hgd a s' rfl
          have h2 : Calls Try.prog 43 #[.string s, .int .i64 (P : Int)] _ fun e w' => e = .returned (.tuple #[.string a, .int .i64 ((s.size - s'.size : Nat) : Int), .bool true]) ∧ w' = _ := h
          have HY := hid (show rRes 2 nn (offB s P) 0 = (0, a, [], s', 0) from hyy)
          have HH := hid (And.intro h2 g1)
          clear h h2 hor hyy hgd g1 g4
          generalize s.size - s'.size = nx at g2 g3 HH
          go_wp2_with fail
          refine HH.out.1.mono ?_
          rintro e w4 ⟨rfl, rfl⟩
          go_wp2_with (at_builtin; refine wpList_append_own_at _ rfl _ _ 36 rfl w.heap.size 39 i0 _ 4 56 Try.underlying36 hi hz0 hz1 hz2 rfl (by decide) _ _ _ rfl (World.ownsRow.alloc (World.ownsRow.alloc (World.ownsRow.alloc KR.out.1.own _) _) _) ⟨_, 0, none⟩ 1 1 [.int .i64 _, .string _, .slice _ _ _, .int .i64 _] rfl rfl (cell_four_at _ _ _ _ _ _ _ (by simp)) (one_four rfl rfl rfl rfl) (by unfold maxLen; omega) (by omega) (alloc_le (alloc_le (alloc_le KR.out.2.1.size _) _) _) ?_; intro v' w3 hown3 hgrow3 _ hat3; have hgrow4 : World.grownBy _ w3 u5.ownBlock := hgrow3; have hat4 : v'.ownBlock = u5.ownBlock ∨ v'.ownBlock = some (World.heap _).size := hat3; have K3 := hid (And.intro hown3 (And.intro hgrow4 hat4)); clear hown3 hgrow3 hat3 hgrow4 hat4)
          have hcl := read_close KR HY.out (by rw [if_pos rfl]; exact HH.out.2) ((((Below.refl _ _).alloc (Nat.le_refl _) _).alloc (alloc_le (Nat.le_refl _) _) _).alloc (alloc_le (alloc_le (Nat.le_refl _) _) _) _) (World.ownsRow_nil _ _ _ _) (fun k e => by simp [Value.ownBlock] at e) K3.out.1 K3.out.2.1 K3.out.2.2 hbl
          exact ⟨⟨k + 1, _, _, _, by omega, by go_num, rfl, g3, rfl, hcl.1, hcl.2.1, hcl.2.2⟩, by simp [intOf]; omega⟩
        · have hbad : a = ⟨#[]⟩ ∧ e' = 9 := hor.resolve_left he
          obtain ⟨rfl, rfl⟩ := hbad
          have h2 : Calls Try.prog 43 #[.string s, .int .i64 (P : Int)] _ fun e w' => e = .returned (.tuple #[.string ⟨#[]⟩, .int .i64 0, .bool false]) ∧ w' = _ := h
          have HY := hid (show rRes 2 nn (offB s P) 0 = (0, ⟨#[]⟩, [], s', 9) from hyy)
          have HH := hid h2
          clear h h2 hor hyy hgd he
          go_wp2_with fail
          refine HH.out.mono ?_
          rintro e w4 ⟨rfl, rfl⟩
          go_wp2_with (at_builtin; refine wpList_append_own_at _ rfl _ _ 36 rfl w.heap.size 39 i0 _ 4 56 Try.underlying36 hi hz0 hz1 hz2 rfl (by decide) _ _ _ rfl (World.ownsRow.alloc (World.ownsRow.alloc (World.ownsRow.alloc KR.out.1.own _) _) _) ⟨_, 0, none⟩ 1 1 [.int .i64 _, .string _, .slice _ _ _, .int .i64 _] rfl rfl (cell_four_at _ _ _ _ _ _ _ (by simp)) (one_four rfl rfl rfl rfl) (by unfold maxLen; omega) (by omega) (alloc_le (alloc_le (alloc_le KR.out.2.1.size _) _) _) ?_; intro v' w3 hown3 hgrow3 _ hat3; have hgrow4 : World.grownBy _ w3 u5.ownBlock := hgrow3; have hat4 : v'.ownBlock = u5.ownBlock ∨ v'.ownBlock = some (World.heap _).size := hat3; have K3 := hid (And.intro hown3 (And.intro hgrow4 hat4)); clear hown3 hgrow3 hat3 hgrow4 hat4)
          have hcl := read_close KR HY.out (if_neg (by decide)) ((((Below.refl _ _).alloc (Nat.le_refl _) _).alloc (alloc_le (Nat.le_refl _) _) _).alloc (alloc_le (alloc_le (Nat.le_refl _) _) _) _) (World.ownsRow_nil _ _ _ _) (fun k e => by simp [Value.ownBlock] at e) K3.out.1 K3.out.2.1 K3.out.2.2 hbl
          exact ⟨⟨k + 1, _, _, _, by omega, by go_num, rfl, hP, rfl, hcl.1, hcl.2.1, hcl.2.2⟩, by simp [intOf]; omega⟩
      have q2 : (kk == 2) = false := by rw [beq_eq_false_iff_ne]; exact h2
      by_cases h3 : kk = 3
      · subst h3
        have h := refreaduint_any s P ((wr.alloc (.cells #[.int .i64 3, .int .i64 nn] 43)).alloc (.cells #[.int .i64 0, .string ⟨#[]⟩, .slice none 0 0, .int .i64 0] 39)) hP hs
        have hor := rCount_or 9223372036854775807 (offB s P)
        have hby := rCount_by nn (offB s P)
        have hyy : rRes 3 nn (offB s P) 0 = ((rCount nn (offB s P) 0).1, ⟨#[]⟩, [], (rCount nn (offB s P) 0).2) := rfl
        have hgd := fun (a : Int) (s' : ByteArray) (hx : rCount 9223372036854775807 (offB s P) 0 = (a, s', 0)) => suffix_of hP (rCount_good hx).choose_spec.2.2
        generalize rCount 9223372036854775807 (offB s P) 0 = x at h hor hby hgd
        obtain ⟨a, s', e'⟩ := x
        simp only at hby
        have hyy2 : rRes 3 nn (offB s P) 0 = (if e' = 0 ∧ a ≤ nn then a else 0, ⟨#[]⟩, [], s', if e' = 0 ∧ a ≤ nn then 0 else 9) := by
          rw [hyy, hby.1]
          refine Prod.ext rfl (Prod.ext rfl (Prod.ext rfl ?_))
          exact Prod.ext hby.2.2 hby.2.1
        clear hyy hby
        by_cases he : e' = 0
        · subst he
          obtain ⟨g1, g2, g3, g4⟩ := hgd a s' rfl
          have h2 : Calls Try.prog 41 #[.string s, .int .i64 (P : Int)] _ fun e w' => e = .returned (.tuple #[.int .i64 a, .int .i64 ((s.size - s'.size : Nat) : Int), .bool true]) ∧ w' = _ := h
          have HH := hid (And.intro h2 g1)
          clear h h2 hor hgd g1 g4
          generalize s.size - s'.size = nx at g2 g3 HH
          by_cases hle : a ≤ nn
          · have HY := hid (show rRes 3 nn (offB s P) 0 = (a, ⟨#[]⟩, [], s', 0) by rw [hyy2, if_pos ⟨rfl, hle⟩, if_pos ⟨rfl, hle⟩])
            have hle2 : ¬ nn < a := by omega
            clear hyy2
            go_wp2_with fail
            refine HH.out.1.mono ?_
            rintro e w4 ⟨rfl, rfl⟩
            go_wp2_with (at_builtin; refine wpList_append_own_at _ rfl _ _ 36 rfl w.heap.size 39 i0 _ 4 56 Try.underlying36 hi hz0 hz1 hz2 rfl (by decide) _ _ _ rfl (World.ownsRow.alloc (World.ownsRow.alloc (World.ownsRow.alloc KR.out.1.own _) _) _) ⟨_, 0, none⟩ 1 1 [.int .i64 _, .string _, .slice _ _ _, .int .i64 _] rfl rfl (cell_four_at _ _ _ _ _ _ _ (by simp)) (one_four rfl rfl rfl rfl) (by unfold maxLen; omega) (by omega) (alloc_le (alloc_le (alloc_le KR.out.2.1.size _) _) _) ?_; intro v' w3 hown3 hgrow3 _ hat3; have hgrow4 : World.grownBy _ w3 u5.ownBlock := hgrow3; have hat4 : v'.ownBlock = u5.ownBlock ∨ v'.ownBlock = some (World.heap _).size := hat3; have K3 := hid (And.intro hown3 (And.intro hgrow4 hat4)); clear hown3 hgrow3 hat3 hgrow4 hat4)
            have hcl := read_close KR HY.out (by rw [if_pos rfl]; exact HH.out.2) ((((Below.refl _ _).alloc (Nat.le_refl _) _).alloc (alloc_le (Nat.le_refl _) _) _).alloc (alloc_le (alloc_le (Nat.le_refl _) _) _) _) (World.ownsRow_nil _ _ _ _) (fun k e => by simp [Value.ownBlock] at e) K3.out.1 K3.out.2.1 K3.out.2.2 hbl
            exact ⟨⟨k + 1, _, _, _, by omega, by go_num, rfl, g3, rfl, hcl.1, hcl.2.1, hcl.2.2⟩, by simp [intOf]; omega⟩
          · have HY := hid (show rRes 3 nn (offB s P) 0 = (0, ⟨#[]⟩, [], s', 9) by rw [hyy2, if_neg (fun h => hle h.2), if_neg (fun h => hle h.2)])
            have hle2 : nn < a := by omega
            clear hyy2
            go_wp2_with fail
            refine HH.out.1.mono ?_
            rintro e w4 ⟨rfl, rfl⟩
            go_wp2_with (at_builtin; refine wpList_append_own_at _ rfl _ _ 36 rfl w.heap.size 39 i0 _ 4 56 Try.underlying36 hi hz0 hz1 hz2 rfl (by decide) _ _ _ rfl (World.ownsRow.alloc (World.ownsRow.alloc (World.ownsRow.alloc KR.out.1.own _) _) _) ⟨_, 0, none⟩ 1 1 [.int .i64 _, .string _, .slice _ _ _, .int .i64 _] rfl rfl (cell_four_at _ _ _ _ _ _ _ (by simp)) (one_four rfl rfl rfl rfl) (by unfold maxLen; omega) (by omega) (alloc_le (alloc_le (alloc_le KR.out.2.1.size _) _) _) ?_; intro v' w3 hown3 hgrow3 _ hat3; have hgrow4 : World.grownBy _ w3 u5.ownBlock := hgrow3; have hat4 : v'.ownBlock = u5.ownBlock ∨ v'.ownBlock = some (World.heap _).size := hat3; have K3 := hid (And.intro hown3 (And.intro hgrow4 hat4)); clear hown3 hgrow3 hat3 hgrow4 hat4)
            have hcl := read_close KR HY.out (if_neg (by decide)) ((((Below.refl _ _).alloc (Nat.le_refl _) _).alloc (alloc_le (Nat.le_refl _) _) _).alloc (alloc_le (alloc_le (Nat.le_refl _) _) _) _) (World.ownsRow_nil _ _ _ _) (fun k e => by simp [Value.ownBlock] at e) K3.out.1 K3.out.2.1 K3.out.2.2 hbl
            exact ⟨⟨k + 1, _, _, _, by omega, by go_num, rfl, hP, rfl, hcl.1, hcl.2.1, hcl.2.2⟩, by simp [intOf]; omega⟩
        · have hbad : a = 0 ∧ e' = 9 := hor.resolve_left he
          obtain ⟨rfl, rfl⟩ := hbad
          have h2 : Calls Try.prog 41 #[.string s, .int .i64 (P : Int)] _ fun e w' => e = .returned (.tuple #[.int .i64 0, .int .i64 0, .bool false]) ∧ w' = _ := h
          have HY := hid (show rRes 3 nn (offB s P) 0 = (0, ⟨#[]⟩, [], s', 9) by rw [hyy2, if_neg (fun h => he h.1), if_neg (fun h => he h.1)])
          have HH := hid h2
          clear h h2 hor hgd he hyy2
          by_cases h0 : nn < 0
          · go_wp2_with fail
            refine HH.out.mono ?_
            rintro e w4 ⟨rfl, rfl⟩
            go_wp2_with (at_builtin; refine wpList_append_own_at _ rfl _ _ 36 rfl w.heap.size 39 i0 _ 4 56 Try.underlying36 hi hz0 hz1 hz2 rfl (by decide) _ _ _ rfl (World.ownsRow.alloc (World.ownsRow.alloc (World.ownsRow.alloc KR.out.1.own _) _) _) ⟨_, 0, none⟩ 1 1 [.int .i64 _, .string _, .slice _ _ _, .int .i64 _] rfl rfl (cell_four_at _ _ _ _ _ _ _ (by simp)) (one_four rfl rfl rfl rfl) (by unfold maxLen; omega) (by omega) (alloc_le (alloc_le (alloc_le KR.out.2.1.size _) _) _) ?_; intro v' w3 hown3 hgrow3 _ hat3; have hgrow4 : World.grownBy _ w3 u5.ownBlock := hgrow3; have hat4 : v'.ownBlock = u5.ownBlock ∨ v'.ownBlock = some (World.heap _).size := hat3; have K3 := hid (And.intro hown3 (And.intro hgrow4 hat4)); clear hown3 hgrow3 hat3 hgrow4 hat4)
            have hcl := read_close KR HY.out (if_neg (by decide)) ((((Below.refl _ _).alloc (Nat.le_refl _) _).alloc (alloc_le (Nat.le_refl _) _) _).alloc (alloc_le (alloc_le (Nat.le_refl _) _) _) _) (World.ownsRow_nil _ _ _ _) (fun k e => by simp [Value.ownBlock] at e) K3.out.1 K3.out.2.1 K3.out.2.2 hbl
            exact ⟨⟨k + 1, _, _, _, by omega, by go_num, rfl, hP, rfl, hcl.1, hcl.2.1, hcl.2.2⟩, by simp [intOf]; omega⟩
          · go_wp2_with fail
            refine HH.out.mono ?_
            rintro e w4 ⟨rfl, rfl⟩
            go_wp2_with (at_builtin; refine wpList_append_own_at _ rfl _ _ 36 rfl w.heap.size 39 i0 _ 4 56 Try.underlying36 hi hz0 hz1 hz2 rfl (by decide) _ _ _ rfl (World.ownsRow.alloc (World.ownsRow.alloc (World.ownsRow.alloc KR.out.1.own _) _) _) ⟨_, 0, none⟩ 1 1 [.int .i64 _, .string _, .slice _ _ _, .int .i64 _] rfl rfl (cell_four_at _ _ _ _ _ _ _ (by simp)) (one_four rfl rfl rfl rfl) (by unfold maxLen; omega) (by omega) (alloc_le (alloc_le (alloc_le KR.out.2.1.size _) _) _) ?_; intro v' w3 hown3 hgrow3 _ hat3; have hgrow4 : World.grownBy _ w3 u5.ownBlock := hgrow3; have hat4 : v'.ownBlock = u5.ownBlock ∨ v'.ownBlock = some (World.heap _).size := hat3; have K3 := hid (And.intro hown3 (And.intro hgrow4 hat4)); clear hown3 hgrow3 hat3 hgrow4 hat4)
            have hcl := read_close KR HY.out (if_neg (by decide)) ((((Below.refl _ _).alloc (Nat.le_refl _) _).alloc (alloc_le (Nat.le_refl _) _) _).alloc (alloc_le (alloc_le (Nat.le_refl _) _) _) _) (World.ownsRow_nil _ _ _ _) (fun k e => by simp [Value.ownBlock] at e) K3.out.1 K3.out.2.1 K3.out.2.2 hbl
            exact ⟨⟨k + 1, _, _, _, by omega, by go_num, rfl, hP, rfl, hcl.1, hcl.2.1, hcl.2.2⟩, by simp [intOf]; omega⟩
      have q3 : (kk == 3) = false := by rw [beq_eq_false_iff_ne]; exact h3
      by_cases h4 : kk = 4
      · subst h4
        have h := refreadtexts_any s P ((wr.alloc (.cells #[.int .i64 4, .int .i64 nn] 43)).alloc (.cells #[.int .i64 0, .string ⟨#[]⟩, .slice none 0 0, .int .i64 0] 39)) hP hs
        have hor := rTexts_or (offB s P)
        have hyy : rRes 4 nn (offB s P) 0 = (0, ⟨#[]⟩, (rTexts (offB s P) 0).1, (rTexts (offB s P) 0).2) := rfl
        have hgd := fun (l : List ByteArray) (s' : ByteArray) (hx : rTexts (offB s P) 0 = (l, s', 0)) => suffix_of hP (rTexts_good hx).1
        generalize rTexts (offB s P) 0 = x at h hor hyy hgd
        obtain ⟨l, s', e'⟩ := x
        by_cases he : e' = 0
        · subst he
          obtain ⟨g1, g2, g3, g4⟩ := hgd l s' rfl
          have h2 := h.mono (fun e w' (hh : RTs _ (l, s', 0) s.size e w' ∧ Below _ _ w') => (show (∃ v, e = .returned (.tuple #[v, .int .i64 ((s.size - s'.size : Nat) : Int), .bool true]) ∧ OwnS w' _ v l) ∧ Below _ _ w' from hh))
          have HY := hid (show rRes 4 nn (offB s P) 0 = (0, ⟨#[]⟩, l, s', 0) from hyy)
          have HH := hid (And.intro h2 g1)
          clear h h2 hor hyy hgd g1 g4
          generalize s.size - s'.size = nx at g2 g3 HH
          go_wp2_with fail
          refine HH.out.1.mono ?_
          rintro e w4 ⟨⟨v, rfl, ho⟩, hb4⟩
          obtain ⟨bv, cv, rfl⟩ := own_slice ho
          have hal := ((Below.refl wr.heap.size wr).alloc (Nat.le_refl _) (.cells #[.int .i64 4, .int .i64 nn] 43)).alloc (alloc_le (Nat.le_refl _) _) (.cells #[.int .i64 0, .string ⟨#[]⟩, .slice none 0 0, .int .i64 0] 39)
          have hnw := heap_alloc_new (wr.alloc (.cells #[.int .i64 4, .int .i64 nn] 43)) (.cells #[.int .i64 0, .string ⟨#[]⟩, .slice none 0 0, .int .i64 0] 39)
          have hsz0 : (wr.alloc (.cells #[.int .i64 4, .int .i64 nn] 43)).heap.size = wr.heap.size + 1 := by simp
          have hsz1 : ((wr.alloc (.cells #[.int .i64 4, .int .i64 nn] 43)).alloc (.cells #[.int .i64 0, .string ⟨#[]⟩, .slice none 0 0, .int .i64 0] 39)).heap.size = wr.heap.size + 1 + 1 := by simp
          rw [hsz0] at hnw
          have hr4 := (hb4.block (wr.heap.size + 1) (by rw [hsz1]; omega)).trans hnw
          have d0 := cell_of_row w4 (wr.heap.size + 1) 0 _ _ _ hr4
          have d1 := cell_of_row w4 (wr.heap.size + 1) 1 _ _ _ hr4
          have d2 := cell_of_row w4 (wr.heap.size + 1) 2 _ _ _ hr4
          have d3 := cell_of_row w4 (wr.heap.size + 1) 3 _ _ _ hr4
          have f0 := frozen_of_row w4 (wr.heap.size + 1) 0 _ _ hr4
          have f1 := frozen_of_row w4 (wr.heap.size + 1) 1 _ _ hr4
          have f2 := frozen_of_row w4 (wr.heap.size + 1) 2 _ _ hr4
          have f3 := frozen_of_row w4 (wr.heap.size + 1) 3 _ _ hr4
          have hz : wr.heap.size + 1 < w4.heap.size := (Array.getElem?_eq_some_iff.1 hr4).1
          have hb44 : Below wr.heap.size wr w4 := hal.trans (hb4.mono hal.size)
          have hne4 : ∀ k, u5.ownBlock = some k → k < wr.heap.size := fun k hk => (World.ownsRow.lt KR.out.1.own k hk).2
          have hne5 : u5.ownBlock ≠ some (wr.heap.size + 1) := fun e => by have := hne4 _ e; omega
          have ho4 : w4.ownsRow w.heap.size 39 4 u5 k ((List.range k).flatMap fun i => resL (outA s K N i) (vs i)) := World.ownsRow.kept KR.out.1.own (row := none) (gb_of_below hb44) (by cases hk : u5.ownBlock with | none => exact Or.inl rfl | some k => exact Or.inr (by simp))
          have hvl : ∀ k, (Value.slice bv l.length cv).ownBlock = some k → wr.heap.size + 1 < k := fun k hk => by have := (World.ownsRow.lt ho k hk).1; rw [hsz1] at this; omega
          have hvne : (Value.slice bv l.length cv).ownBlock ≠ some (wr.heap.size + 1) := fun e => by have := hvl _ e; omega
          have KV := hid (And.intro (own_mono (base' := w.heap.size) ho (by rw [hsz1]; omega)) (And.intro hvl hvne))
          clear ho hvl hvne
          have KW := hid (And.intro ho4 (And.intro hb44 hne5))
          clear hal hnw hsz0 hsz1 hb4 hr4 hb44 hne4 hne5 ho4
          go_wp2_with (at_builtin; refine wpList_append_own_at _ rfl _ _ 36 rfl w.heap.size 39 i0 _ 4 56 Try.underlying36 hi hz0 hz1 hz2 rfl (by decide) _ _ _ rfl (World.ownsRow.alloc (ownsRow_setCell_other (ownsRow_setCell_other KW.out.1 KW.out.2.2 _) KW.out.2.2 _) _) ⟨_, 0, none⟩ 1 1 [.int .i64 _, .string _, .slice _ _ _, .int .i64 _] rfl rfl (cell_four_at _ _ _ _ _ _ _ (by simp)) (one_four rfl rfl rfl rfl) (by unfold maxLen; omega) (by omega) (by simp; omega) ?_; intro v' w3 hown3 hgrow3 _ hat3; have hgrow4 : World.grownBy _ w3 u5.ownBlock := hgrow3; have hat4 : v'.ownBlock = u5.ownBlock ∨ v'.ownBlock = some (World.heap _).size := hat3; have K3 := hid (And.intro hown3 (And.intro hgrow4 hat4)); clear hown3 hgrow3 hat3 hgrow4 hat4)
          have hcl := read_close KR HY.out (by rw [if_pos rfl]; exact HH.out.2) (((KW.out.2.1.setCell (p := ⟨wr.heap.size + 1, 2, none⟩) (by show wr.heap.size ≤ wr.heap.size + 1; omega) _).setCell (p := ⟨wr.heap.size + 1, 3, none⟩) (by show wr.heap.size ≤ wr.heap.size + 1; omega) _).alloc (by simp; omega) _) (World.ownsRow.alloc (ownsRow_setCell_other (ownsRow_setCell_other KV.out.1 KV.out.2.2 _) KV.out.2.2 _) _) (fun k e => by have := KV.out.2.1 k e; omega) K3.out.1 K3.out.2.1 K3.out.2.2 hbl
          exact ⟨⟨k + 1, _, _, _, by omega, by go_num, rfl, g3, rfl, hcl.1, hcl.2.1, hcl.2.2⟩, by simp [intOf]; omega⟩
        · have hbad : l = [] ∧ e' = 9 := hor.resolve_left he
          obtain ⟨rfl, rfl⟩ := hbad
          have h2 := h.mono (fun e w' (hh : RTs _ ([], s', 9) s.size e w' ∧ Below _ _ w') => (show e = .returned (.tuple #[.slice none 0 0, .int .i64 0, .bool false]) ∧ Below _ _ w' from hh))
          have HY := hid (show rRes 4 nn (offB s P) 0 = (0, ⟨#[]⟩, [], s', 9) from hyy)
          have HH := hid h2
          clear h h2 hor hyy hgd he
          go_wp2_with fail
          refine HH.out.mono ?_
          rintro e w4 ⟨rfl, hb4⟩
          have hal := ((Below.refl wr.heap.size wr).alloc (Nat.le_refl _) (.cells #[.int .i64 4, .int .i64 nn] 43)).alloc (alloc_le (Nat.le_refl _) _) (.cells #[.int .i64 0, .string ⟨#[]⟩, .slice none 0 0, .int .i64 0] 39)
          have hnw := heap_alloc_new (wr.alloc (.cells #[.int .i64 4, .int .i64 nn] 43)) (.cells #[.int .i64 0, .string ⟨#[]⟩, .slice none 0 0, .int .i64 0] 39)
          have hsz0 : (wr.alloc (.cells #[.int .i64 4, .int .i64 nn] 43)).heap.size = wr.heap.size + 1 := by simp
          have hsz1 : ((wr.alloc (.cells #[.int .i64 4, .int .i64 nn] 43)).alloc (.cells #[.int .i64 0, .string ⟨#[]⟩, .slice none 0 0, .int .i64 0] 39)).heap.size = wr.heap.size + 1 + 1 := by simp
          rw [hsz0] at hnw
          have hr4 := (hb4.block (wr.heap.size + 1) (by rw [hsz1]; omega)).trans hnw
          have d0 := cell_of_row w4 (wr.heap.size + 1) 0 _ _ _ hr4
          have d1 := cell_of_row w4 (wr.heap.size + 1) 1 _ _ _ hr4
          have d2 := cell_of_row w4 (wr.heap.size + 1) 2 _ _ _ hr4
          have d3 := cell_of_row w4 (wr.heap.size + 1) 3 _ _ _ hr4
          have f0 := frozen_of_row w4 (wr.heap.size + 1) 0 _ _ hr4
          have f1 := frozen_of_row w4 (wr.heap.size + 1) 1 _ _ hr4
          have f2 := frozen_of_row w4 (wr.heap.size + 1) 2 _ _ hr4
          have f3 := frozen_of_row w4 (wr.heap.size + 1) 3 _ _ hr4
          have hz : wr.heap.size + 1 < w4.heap.size := (Array.getElem?_eq_some_iff.1 hr4).1
          have hb44 : Below wr.heap.size wr w4 := hal.trans (hb4.mono hal.size)
          have hne4 : ∀ k, u5.ownBlock = some k → k < wr.heap.size := fun k hk => (World.ownsRow.lt KR.out.1.own k hk).2
          have hne5 : u5.ownBlock ≠ some (wr.heap.size + 1) := fun e => by have := hne4 _ e; omega
          have ho4 : w4.ownsRow w.heap.size 39 4 u5 k ((List.range k).flatMap fun i => resL (outA s K N i) (vs i)) := World.ownsRow.kept KR.out.1.own (row := none) (gb_of_below hb44) (by cases hk : u5.ownBlock with | none => exact Or.inl rfl | some k => exact Or.inr (by simp))
          have KW := hid (And.intro ho4 (And.intro hb44 hne5))
          clear hal hnw hsz0 hsz1 hb4 hr4 hb44 hne4 hne5 ho4
          go_wp2_with (at_builtin; refine wpList_append_own_at _ rfl _ _ 36 rfl w.heap.size 39 i0 _ 4 56 Try.underlying36 hi hz0 hz1 hz2 rfl (by decide) _ _ _ rfl (World.ownsRow.alloc (ownsRow_setCell_other (ownsRow_setCell_other KW.out.1 KW.out.2.2 _) KW.out.2.2 _) _) ⟨_, 0, none⟩ 1 1 [.int .i64 _, .string _, .slice _ _ _, .int .i64 _] rfl rfl (cell_four_at _ _ _ _ _ _ _ (by simp)) (one_four rfl rfl rfl rfl) (by unfold maxLen; omega) (by omega) (by simp; omega) ?_; intro v' w3 hown3 hgrow3 _ hat3; have hgrow4 : World.grownBy _ w3 u5.ownBlock := hgrow3; have hat4 : v'.ownBlock = u5.ownBlock ∨ v'.ownBlock = some (World.heap _).size := hat3; have K3 := hid (And.intro hown3 (And.intro hgrow4 hat4)); clear hown3 hgrow3 hat3 hgrow4 hat4)
          have hcl := read_close KR HY.out (if_neg (by decide)) (((KW.out.2.1.setCell (p := ⟨wr.heap.size + 1, 2, none⟩) (by show wr.heap.size ≤ wr.heap.size + 1; omega) _).setCell (p := ⟨wr.heap.size + 1, 3, none⟩) (by show wr.heap.size ≤ wr.heap.size + 1; omega) _).alloc (by simp; omega) _) (World.ownsRow_nil _ _ _ _) (fun k e => by simp [Value.ownBlock] at e) K3.out.1 K3.out.2.1 K3.out.2.2 hbl
          exact ⟨⟨k + 1, _, _, _, by omega, by go_num, rfl, hP, rfl, hcl.1, hcl.2.1, hcl.2.2⟩, by simp [intOf]; omega⟩
      have q4 : (kk == 4) = false := by rw [beq_eq_false_iff_ne]; exact h4
      have HY := hid (show rRes kk nn (offB s P) 0 = (0, ⟨#[]⟩, [], offB s P, 0) by
        unfold rRes
        rw [if_neg h0, if_neg h1, if_neg h2, if_neg h3, if_neg h4, if_neg h5, if_neg h6])
      clear h0 h1 h2 h3 h4 h5 h6
      go_wp2_with (at_builtin; refine wpList_append_own_at _ rfl _ _ 36 rfl w.heap.size 39 i0 _ 4 56 Try.underlying36 hi hz0 hz1 hz2 rfl (by decide) _ _ _ rfl (World.ownsRow.alloc (World.ownsRow.alloc (World.ownsRow.alloc KR.out.1.own _) _) _) ⟨_, 0, none⟩ 1 1 [.int .i64 _, .string _, .slice _ _ _, .int .i64 _] rfl rfl (cell_four_at _ _ _ _ _ _ _ (by simp)) (one_four rfl rfl rfl rfl) (by unfold maxLen; omega) (by omega) (alloc_le (alloc_le (alloc_le KR.out.2.1.size _) _) _) ?_; intro v' w3 hown3 hgrow3 _ hat3; have hgrow4 : World.grownBy _ w3 u5.ownBlock := hgrow3; have hat4 : v'.ownBlock = u5.ownBlock ∨ v'.ownBlock = some (World.heap _).size := hat3; have K3 := hid (And.intro hown3 (And.intro hgrow4 hat4)); clear hown3 hgrow3 hat3 hgrow4 hat4)
      have hcl := read_close KR HY.out (by split <;> rfl) ((((Below.refl _ _).alloc (Nat.le_refl _) _).alloc (alloc_le (Nat.le_refl _) _) _).alloc (alloc_le (alloc_le (Nat.le_refl _) _) _) _) (World.ownsRow_nil _ _ _ _) (fun k e => by simp [Value.ownBlock] at e) K3.out.1 K3.out.2.1 K3.out.2.2 hbl
      exact ⟨⟨k + 1, _, _, _, by omega, by go_num, rfl, hP, rfl, hcl.1, hcl.2.1, hcl.2.2⟩, by simp [intOf]; omega⟩
    · obtain rfl : k = n := by omega
      have KR := hid (And.intro hout hb)
      clear hst hout hb
      go_wp2_with fail
      go_ret
      exact ⟨⟨_, _, rfl, KR.out.1⟩, KR.out.2⟩
end Go.Proofs.Ytoimmmcmlbaenaa
