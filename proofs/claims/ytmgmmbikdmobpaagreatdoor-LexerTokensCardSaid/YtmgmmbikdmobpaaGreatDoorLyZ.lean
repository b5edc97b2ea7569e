/- lexer: the reference's Lex. -/
import Derived.Test.YtmgmmbikdmobpaaGreatDoorLyN
namespace Go.Proofs.YtmgmmbikdmobpaaGreatDoor
open Go.RowKit

set_option maxRecDepth 100000 in
set_option maxHeartbeats 8000000 in
theorem rlex_any (s : ByteArray) (w : World) :
    Calls Tryz.prog 6 #[.string s] w
      fun e w' => (∃ v, e = .returned (.tuple #[v, .int .i64 ((lexL s.data.toList).2.1 : Int), .int .i64 (lexL s.data.toList).2.2]) ∧ w'.ownsRow w.heap.size 32 3 v (lexL s.data.toList).1.length (tkCells (lexL s.data.toList).1)) ∧ Below w.heap.size w w' := by
  obtain ⟨i0, hi, hz0, hz1, hz2⟩ := info_parts infoTok
  by_cases hbig : 65536 < s.size
  · have hL : lexL s.data.toList = ([], 0, 7) := by unfold lexL; rw [if_pos (by rw [size_list]; exact hbig)]
    rw [hL]
    go_enter Tryz.func6, Tryz.ntmps6
    go_wp2_with fail
    exact bodyPost_ret (v := .tuple #[.slice none 0 0, .int .i64 0, .int .i64 7]) (by simp [results, Tryz.results6, go_sem]) rfl ⟨⟨_, rfl, World.ownsRow_nil _ _ _ _⟩, Below.refl _ _⟩
  · have hL : lexL s.data.toList = lexOut (toks s.data.toList s.data.toList.length (sep s.data.toList)) := by unfold lexL; rw [if_neg (by rw [size_list]; exact hbig)]; rfl
    have hall := toks_length s.data.toList s.data.toList.length (sep s.data.toList)
    have hsl := sep_le s.data.toList
    have HK := hid (fun (p : Nat) (hp : p ≤ s.size) (w : World) => rskip_any s p w (by omega) hp)
    have HT := hid (fun (t : ByteArray) (ht : t.size ≤ s.size) (h0 : 0 < t.size) (w : World) => rtoken_any t w (by omega) h0)
    rw [size_list] at hsl hall hL
    generalize lexL s.data.toList = R at hL ⊢
    have hk0 := HK.out 0 (by omega) (w.alloc (.cells #[] 32))
    rw [List.drop_zero] at hk0
    generalize hP : sep s.data.toList = P at hk0 hsl hall hL
    have HL := hid (And.intro hL hall)
    have HK0 := hid hk0
    clear hk0 hL hall hP
    go_enter Tryz.func6, Tryz.ntmps6
    go_wp2_with fail
    refine HK0.out.mono ?_
    rintro e W ⟨rfl, hW⟩
    have HR : Kpt (W.ownsRow w.heap.size 32 3 (.slice (some ⟨w.heap.size, 0, none⟩) 0 0) 0 [] ∧ Below w.heap.size w W) := hid (by
      rw [hW]
      exact ⟨⟨rfl, .inr ⟨w.heap.size, 0, #[], rfl, Nat.le_refl _, heap_alloc_new w _, Nat.le_refl _, Nat.zero_le _, rfl, rfl⟩⟩, (Below.refl w.heap.size w).alloc (Nat.le_refl _) _⟩)
    clear hW HK0
    go_wp2_with fail
    go_loopw [5, 6] (fun v i wr => ∃ (p f : Nat) (xs : List TkY), p ≤ s.size ∧ i = .int .i64 (p : Int) ∧ s.size ≤ f + p ∧ R = lexOut (xs ++ toks s.data.toList f p) ∧ xs.length + f ≤ s.size ∧ (∀ x ∈ xs, x.e = 0) ∧ wr.ownsRow w.heap.size 32 3 v xs.length (tkCells xs) ∧ Below w.heap.size w wr) (fun _ i _ => s.size - (intOf i).toNat)
    case atStart => exact ⟨P, s.size, [], hsl, rfl, by omega, HL.out.1, by simp, by simp, HR.out.1, HR.out.2⟩
    case round =>
      obtain ⟨p, f, xs, hp, rfl, hf, hR, hxf, hgood, hrow, hb⟩ := hrel
      clear HL HR hsl
      by_cases hlt : p < s.size
      · obtain ⟨f, rfl⟩ : ∃ k, f = k + 1 := ⟨f - 1, by omega⟩
        rw [toks, if_pos (by rw [size_list]; exact hlt)] at hR
        have hdl : 0 < (s.data.toList.drop p).length := by rw [List.length_drop, size_list]; omega
        have htk := HT.out (s.extract p s.size) (by rw [from_size]; omega) (by rw [from_size]; omega)
        rw [from_bytes] at htk
        cases q : nextT (s.data.toList.drop p) with
        | err er =>
          have he := nextT_err _ _ q
          rw [q] at hR htk
          have hR2 : R = ([], p, er) := hR.trans (lexOut_bad _ xs ⟨0, [], p, er⟩ (List.prefix_refl _) hgood (by show er ≠ 0; omega))
          have her : (er != 0) = true := by rw [bne_iff_ne]; omega
          have H1 := hid (And.intro htk (And.intro hR2 hb))
          clear htk hR2 hb hR q he hgood hrow hdl hxf hf
          go_wp2_with fail
          refine (H1.out.1 wr).mono ?_
          rintro e W1 ⟨he, hb1⟩
          have he2 : e = .returned (.tuple #[.agg #[.int .i64 0, .string ⟨#[]⟩, .int .i64 0], .int .i64 0, .int .i64 er]) := he
          subst he2
          have H2 := hid (H1.out.2.2.trans (hb1.mono H1.out.2.2.size))
          clear he hb1
          go_wp2_with fail
          exact bodyPost_ret (v := .tuple #[.slice none 0 0, .int .i64 (p : Int), .int .i64 er]) (by simp [results, Tryz.results6, go_sem]) rfl ⟨⟨.slice none 0 0, by rw [H1.out.2.1], by rw [H1.out.2.1]; exact World.ownsRow_nil _ _ _ _⟩, H2.out.alloc H2.out.size _⟩
        | tok k t n =>
          obtain ⟨n0, n1⟩ := nextT_le _ hdl k t n q
          rw [q] at hR htk
          have hso := sep_le (s.data.toList.drop (p + n))
          rw [List.length_drop, size_list] at hso
          rw [List.length_drop, size_list] at n1
          have hsk := HK.out (p + n) (by omega)
          have H1 := hid (And.intro htk (And.intro hrow (And.intro hb (And.intro hR hgood))))
          clear htk hb hR q hgood hrow hdl
          generalize hm : sep (s.data.toList.drop (p + n)) = m at hsk hso
          have HM := hid hm
          clear hm
          rw [Int.natCast_add] at hsk
          have H2 := hid hsk
          clear hsk
          go_wp2_with fail
          refine (H1.out.1 wr).mono ?_
          rintro e W1 ⟨he, hb1⟩
          have he2 : e = .returned (.tuple #[.agg #[.int .i64 k, .string ⟨t.toArray⟩, .int .i64 0], .int .i64 (n : Int), .int .i64 0]) := he
          subst he2
          have H3 := hid (And.intro (own_below H1.out.2.1 hb1) (H1.out.2.2.1.trans (hb1.mono H1.out.2.2.1.size)))
          clear he hb1
          go_wp2_with (at_builtin; refine wpList_append_own _ rfl _ _ 23 rfl w.heap.size 32 i0 _ 3 32 Tryz.underlying23 hi hz0 hz1 hz2 rfl (by decide) _ _ _ rfl ((H3.out.1.alloc _).alloc _) ⟨W1.heap.size + 1, 0, none⟩ 1 1 [.int .i64 _, .string _, .int .i64 _] rfl rfl (cell_three_at _ _ _ _ _ _ (by simp)) (one_three rfl rfl rfl) (by unfold maxLen; omega) (by omega) (alloc_le (alloc_le H3.out.2.size _) _) ?_; intro v' w1 hown' hgrow hnil; have hg4 : World.grownBy _ w1 u5.ownBlock := hgrow; have K3 := hid (And.intro hown' hg4); clear hown' hgrow hg4 hnil)
          refine (H2.out w1).mono ?_
          rintro e w2 ⟨rfl, rfl⟩
          go_wp2_with fail
          have hbw := Below.grown ((H3.out.2.alloc H3.out.2.size (.cells #[.int .i64 k, .string ⟨t.toArray⟩, .int .i64 (p : Int)] 32)).alloc (alloc_le H3.out.2.size _) (.cells #[.int .i64 k, .string ⟨t.toArray⟩, .int .i64 (p : Int)] 32)) K3.out.2 (alloc_le (alloc_le H3.out.2.size _) _) (fun b hb => own_base H3.out.1 b hb)
          have HB := hid hbw
          clear hbw
          refine ⟨⟨p + n + m, f, xs ++ [⟨k, t, p, 0⟩], by omega, by go_num, by omega, ?_, by rw [List.length_append]; simp; omega, ?_, ?_, HB.out⟩, by simp [intOf]; omega⟩
          · rw [List.append_assoc, ← HM.out]; exact H1.out.2.2.2.1
          · intro x hx
            rcases List.mem_append.1 hx with h | h
            · exact H1.out.2.2.2.2 x h
            · rw [List.mem_singleton.1 h]
          · rw [tkCells_snoc, List.length_append]; exact K3.out.1
      · obtain rfl : p = s.size := by omega
        rw [toks_end _ _ _ (by rw [size_list]; omega)] at hR
        have hR2 : R = (xs ++ [⟨0, [], s.size, 0⟩], 0, 0) := hR.trans (lexOut_good _ (fun x hx => by
          rcases List.mem_append.1 hx with h | h
          · exact hgood x h
          · rw [List.mem_singleton.1 h]))
        have H1 := hid (And.intro hR2 (And.intro hrow hb))
        clear hR hR2 hgood hb hrow
        go_wp2_with (at_builtin; refine wpList_append_own _ rfl _ _ 23 rfl w.heap.size 32 i0 _ 3 32 Tryz.underlying23 hi hz0 hz1 hz2 rfl (by decide) _ _ _ rfl (H1.out.2.1.alloc _) ⟨wr.heap.size, 0, none⟩ 1 1 [.int .i64 _, .string _, .int .i64 _] rfl rfl (cell_three_at _ _ _ _ _ _ rfl) (one_three rfl rfl rfl) (by unfold maxLen; omega) (by omega) (alloc_le H1.out.2.2.size _) ?_; intro v' w1 hown' hgrow hnil; have hg4 : World.grownBy _ w1 u5.ownBlock := hgrow; have K3 := hid (And.intro hown' hg4); clear hown' hgrow hg4 hnil)
        have hbw := Below.grown (H1.out.2.2.alloc H1.out.2.2.size (.cells #[.int .i64 0, .string ⟨#[]⟩, .int .i64 (s.size : Int)] 32)) K3.out.2 (alloc_le H1.out.2.2.size _) (fun b hb => own_base H1.out.2.1 b hb)
        exact bodyPost_ret (v := .tuple #[v', .int .i64 0, .int .i64 0]) (by simp [results, Tryz.results6, go_sem]) rfl ⟨⟨v', by rw [H1.out.1]; rfl, by rw [H1.out.1]; show w1.ownsRow _ _ _ _ (xs ++ [_]).length (tkCells (xs ++ [_])); rw [tkCells_snoc, List.length_append]; exact K3.out.1⟩, hbw⟩
end Go.Proofs.YtmgmmbikdmobpaaGreatDoor
