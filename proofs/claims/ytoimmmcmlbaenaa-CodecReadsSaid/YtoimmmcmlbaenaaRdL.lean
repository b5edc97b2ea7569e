/- codec: the reader's list, Texts. -/
import Derived.Test.YtoimmmcmlbaenaaRdT
import Derived.Test.YtoimmmcmlbaenaaStrsB
namespace Go.Proofs.Ytoimmmcmlbaenaa
open Go.RowKit

theorem own_slice {w : World} {base size n : Nat} {e : TypeId} {v : Value} {xs : List Value} (h : w.ownsRow base e size v n xs) : ∃ b cap, v = .slice b n cap := by
  rcases Nat.eq_zero_or_pos n with h0 | h0
  · subst h0
    rcases h.2 with ⟨rfl, _⟩ | ⟨g, cap, cur, rfl, _⟩
    · exact ⟨_, _, rfl⟩
    · exact ⟨_, _, rfl⟩
  · obtain ⟨g, cap, rfl, _⟩ := h.form h0
    exact ⟨_, _, rfl⟩
theorem own_mono {w : World} {base base' : Nat} {e : TypeId} {size : Nat} {v : Value} {n : Nat} {xs : List Value} (h : w.ownsRow base e size v n xs) (hb : base' ≤ base) : w.ownsRow base' e size v n xs :=
  ⟨h.1, h.2.imp id fun ⟨g, cap, cur, h1, h2, h3⟩ => ⟨g, cap, cur, h1, Nat.le_trans hb h2, h3⟩⟩
/-- v owns the strings ps, from block B on. -/
def OwnS (w : World) (B : Nat) (v : Value) (ps : List ByteArray) : Prop := w.ownsRow B 9 1 v ps.length (ps.map Value.string)
theorem OwnS_gb {w w' : World} {B g : Nat} {v : Value} {ps : List ByteArray} (h : OwnS w B v ps) (hg : w.grownBy w' (some g)) (hgB : g < B) : OwnS w' B v ps := by
  refine World.ownsRow.kept h hg ?_
  cases hv : v.ownBlock with
  | none => exact Or.inl rfl
  | some k => exact Or.inr (fun e => by injection e with e; have := (World.ownsRow.lt h k hv).1; omega)
/-- Writes into rows of our own are new blocks to what was there. -/
theorem gb_own {w wr w3 : World} {g : Nat} {r : Option Nat} (h : w.grownBy wr (some g)) (h2 : wr.grownBy w3 r) (hr : ∀ k, r = some k → w.heap.size ≤ k) : w.grownBy w3 (some g) :=
  ⟨h2.os.trans h.os, h2.tape.trans h.tape, h2.output.trans h.output, Nat.le_trans h.size h2.size, fun i hi hne => (h2.block i (Nat.lt_of_lt_of_le hi h.size) (fun e => by have := hr i e.symm; omega)).trans (h.block i hi hne)⟩
theorem Reader_own {wr w3 : World} {g B : Nat} {s : ByteArray} {e : Int} {r : Option Nat} (h : ReaderIs wr g s e) (h2 : wr.grownBy w3 r) (hg : g < B) (hr : ∀ k, r = some k → B ≤ k) : ReaderIs w3 g s e :=
  (h2.block g (Array.getElem?_eq_some_iff.1 h).1 (fun e => by have := hr g e.symm; omega)).trans h
theorem Reader_lt {w : World} {g : Nat} {s : ByteArray} {e : Int} (h : ReaderIs w g s e) : g < w.heap.size := (Array.getElem?_eq_some_iff.1 h).1

set_option maxRecDepth 100000 in
set_option maxHeartbeats 1000000 in
theorem clist_any (n : Nat) (g : Nat) (s : ByteArray) (err : Int) (w : World) (h : ReaderIs w g s err) (hs : s.size ≤ 9223372036854775807) (hn : n ≤ 1099511627776) :
    Calls Try.prog 47 #[.pointer (some ⟨g, 0, none⟩), .int .i64 (n : Int), .func (.func 26) #[.pointer (some ⟨g, 0, none⟩)] #[]] w
      fun e w' => (∃ v, e = .returned v ∧ OwnS w' w.heap.size v (rList n [] s err).1) ∧ ReaderIs w' g (rList n [] s err).2.1 (rList n [] s err).2.2 ∧ w.grownBy w' (some g) := by
  obtain ⟨i0, hi, hz0, hz1, hz2⟩ := info_parts infoStr
  have hgl := Reader_lt h
  have HR := hid h
  clear h
  generalize hB : w.heap.size = B at hgl
  have HB := hid hB
  clear hB
  generalize hX : rList n [] s err = X
  have HX := hid hX
  clear hX
  go_enter Try.func47, Try.ntmps47
  go_wp2_with fail
  go_loopw [7] (fun v wr => ∃ (acc : List ByteArray) (s' : ByteArray) (e' : Int), acc.length ≤ n ∧ OwnS wr B v acc ∧ ReaderIs wr g s' e' ∧ s'.size ≤ s.size ∧ w.grownBy wr (some g) ∧ X = rList (n - acc.length) acc s' e' ∧ wr.heap.size ≥ B) (fun v _ => n - (match v with | .slice _ k _ => k | _ => 0))
  case atStart => exact ⟨[], s, err, by simp, World.ownsRow_nil w B _ 1, HR.out, Nat.le_refl _, World.grownBy.refl _ _, by rw [← HX.out]; rfl, by rw [HB.out]; exact Nat.le_refl _⟩
  case round =>
    obtain ⟨acc, s', e', hacc, hown, hR, hs', hg, hX, hBr⟩ := hrel
    obtain ⟨b, cap, rfl⟩ := own_slice hown
    have KR := hid (And.intro hown (And.intro hR (And.intro hg (And.intro hX hBr))))
    clear hown hR hg hX hBr
    by_cases hlt : acc.length < n
    · have ht := crtext_any g s' e' wr KR.out.2.1 (by omega)
      have hstep : Kpt (X = if (rText s' e').2.2 = 0 then rList (n - (acc.length + 1)) (acc ++ [(rText s' e').1]) (rText s' e').2.1 (rText s' e').2.2 else ([], (rText s' e').2.1, (rText s' e').2.2)) := by
        refine hid (KR.out.2.2.2.1.trans ?_)
        rw [show n - acc.length = (n - (acc.length + 1)) + 1 by omega, rList]
      have hsz := rText_size s' e'
      generalize rText s' e' = x at ht hstep hsz
      obtain ⟨t, s2, e2⟩ := x
      simp only at hsz
      have HT := hid ht
      clear ht
      go_wp2_with fail
      refine HT.out.mono ?_
      rintro e w2 ⟨rfl, hR2, hg2⟩
      have K2 := hid (And.intro (OwnS_gb KR.out.1 hg2 hgl) (And.intro hR2 (And.intro (gb_trans KR.out.2.2.1 hg2) (Nat.le_trans KR.out.2.2.2.2 hg2.size))))
      clear hR2 hg2
      by_cases he : e2 = 0
      · subst he
        rw [if_pos rfl] at hstep
        go_wp2_with (at_builtin; refine wpList_append_own _ rfl _ _ 22 rfl B 9 i0 (.string ByteArray.empty) 1 16 Try.underlying22 hi hz0 hz1 hz2 rfl (by decide) _ _ _ rfl (World.ownsRow.alloc K2.out.1 _) ⟨w2.heap.size, 0, none⟩ 1 1 _ rfl rfl (cell_one_new _ _ _) (fun x hx => by simp at hx; subst hx; rfl) (by unfold maxLen; omega) (by omega) (alloc_le K2.out.2.2.2 _) ?_; intro v' w3 hown3 hgrow3 _; have hR3 := Reader_own (ReaderIs_below K2.out.2.1 ((Below.refl _ _).alloc (Nat.le_refl _) _)) hgrow3 hgl (own_base K2.out.1); obtain ⟨c0, c1, c2, c3⟩ := ReaderIs_cells hR3; have K3 := hid (And.intro hown3 (And.intro hR3 (gb_own (gb_alloc K2.out.2.2.1 _) hgrow3 (by rw [HB.out]; exact own_base K2.out.1)))); have KS := hid (Nat.le_trans (alloc_le K2.out.2.2.2 _) hgrow3.size); clear hown3 hgrow3 hR3)
        obtain ⟨b', cap', rfl⟩ := own_slice K3.out.1
        refine ⟨⟨acc ++ [t], s2, 0, by rw [List.length_append]; simp; omega, ?_, K3.out.2.1, by omega, K3.out.2.2, ?_, KS.out⟩, ?_⟩
        · have h1 := K3.out.1
          unfold OwnS
          rw [List.length_append, List.map_append]
          exact h1
        · rw [List.length_append]
          exact hstep.out
        · simp
          omega
      · rw [if_neg he] at hstep
        have hq2 : (e2 != 0) = true := by rw [bne_iff_ne]; exact he
        clear he
        go_wp2_with (at_builtin; refine wpList_append_own _ rfl _ _ 22 rfl B 9 i0 (.string ByteArray.empty) 1 16 Try.underlying22 hi hz0 hz1 hz2 rfl (by decide) _ _ _ rfl (World.ownsRow.alloc K2.out.1 _) ⟨w2.heap.size, 0, none⟩ 1 1 _ rfl rfl (cell_one_new _ _ _) (fun x hx => by simp at hx; subst hx; rfl) (by unfold maxLen; omega) (by omega) (alloc_le K2.out.2.2.2 _) ?_; intro v' w3 hown3 hgrow3 _; have hR3 := Reader_own (ReaderIs_below K2.out.2.1 ((Below.refl _ _).alloc (Nat.le_refl _) _)) hgrow3 hgl (own_base K2.out.1); obtain ⟨c0, c1, c2, c3⟩ := ReaderIs_cells hR3; have K3 := hid (And.intro hown3 (And.intro hR3 (gb_own (gb_alloc K2.out.2.2.1 _) hgrow3 (by rw [HB.out]; exact own_base K2.out.1)))); have KS := hid (Nat.le_trans (alloc_le K2.out.2.2.2 _) hgrow3.size); clear hown3 hgrow3 hR3)
        go_ret
        rw [hstep.out]
        exact ⟨⟨_, rfl, World.ownsRow_nil _ _ _ _⟩, K3.out.2.1, K3.out.2.2⟩
    · obtain rfl : n = acc.length := by omega
      have hX : X = (acc, s', e') := by
        have := KR.out.2.2.2.1
        rw [Nat.sub_self, rList] at this
        exact this
      have KX := hid hX
      clear hX
      go_wp2_with fail
      go_ret
      rw [KX.out]
      exact ⟨⟨_, rfl, KR.out.1⟩, KR.out.2.1, KR.out.2.2.1⟩

set_option maxRecDepth 100000 in
set_option maxHeartbeats 1000000 in
theorem crtexts_any (g : Nat) (s : ByteArray) (err : Int) (w : World) (h : ReaderIs w g s err) (hs : s.size ≤ 1099511627776) :
    Calls Try.prog 28 #[.pointer (some ⟨g, 0, none⟩)] w
      fun e w' => (∃ v, e = .returned v ∧ OwnS w' w.heap.size v (rTexts s err).1) ∧ ReaderIs w' g (rTexts s err).2.1 (rTexts s err).2.2 ∧ w.grownBy w' (some g) := by
  obtain ⟨c0, c1, c2, c3⟩ := ReaderIs_cells h
  have hn := ccount_any (s.size : Int) g s err w h (by omega)
  have hnn := rCount_nonneg (s.size : Int) s err
  have hmost := rCount_most (s.size : Int) s err (by omega)
  have hsz := rCount_size (s.size : Int) s err
  unfold rTexts
  generalize rCount (s.size : Int) s err = x at hn hnn hmost hsz ⊢
  obtain ⟨n, s', e'⟩ := x
  simp only at hn hnn hmost hsz ⊢
  obtain ⟨n, rfl⟩ := Int.eq_ofNat_of_zero_le hnn
  simp only [Int.toNat_natCast]
  have hl := fun (w1 : World) (h1 : ReaderIs w1 g s' e') => clist_any n g s' e' w1 h1 (by omega) (by omega)
  generalize rList n [] s' e' = X at hl ⊢
  have HN := hid (And.intro hn hl)
  clear hn hl h
  go_enter Try.func28, Try.ntmps28
  go_wp2_with fail
  refine HN.out.1.mono ?_
  rintro e w1 ⟨rfl, hR, hg⟩
  have KR := hid (And.intro hR hg)
  clear hR hg c0 c1 c2 c3
  go_wp2_with fail
  refine (HN.out.2 w1 KR.out.1).mono ?_
  rintro e w2 ⟨⟨v, rfl, ho⟩, hR2, hg2⟩
  have K2 := hid (And.intro ho (And.intro hR2 (And.intro (gb_trans KR.out.2 hg2) KR.out.2.size)))
  clear ho hR2 hg2
  go_wp2_with fail
  go_ret
  exact ⟨⟨_, rfl, own_mono K2.out.1 K2.out.2.2.2⟩, K2.out.2.1, K2.out.2.2.1⟩
end Go.Proofs.Ytoimmmcmlbaenaa
