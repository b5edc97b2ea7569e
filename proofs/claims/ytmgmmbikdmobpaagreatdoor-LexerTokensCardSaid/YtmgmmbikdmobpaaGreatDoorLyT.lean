/- lexer: the reference's text. -/
import Derived.Test.YtmgmmbikdmobpaaGreatDoorLyC
namespace Go.Proofs.YtmgmmbikdmobpaaGreatDoor
open Go.RowKit

set_option maxRecDepth 100000 in
set_option maxHeartbeats 8000000 in
theorem rtext_any (s : ByteArray) (w : World) (hs : s.size ≤ 70368744177664) (h : 0 < s.size) :
    Calls Tryz.prog 27 #[.string s] w fun e w' => TkRet (textT s.data.toList) e ∧ Below w.heap.size w w' := by
  obtain ⟨i0, hi, hz0, hz1, hz2⟩ := info_parts infoU8
  have hnew := heap_alloc_new w (.cells #[.int .i64 0, .string ⟨#[]⟩, .int .i64 0] 32)
  have hbl := (Below.refl w.heap.size w).alloc (Nat.le_refl _) (.cells #[.int .i64 0, .string ⟨#[]⟩, .int .i64 0] 32)
  have hsz : (w.alloc (.cells #[.int .i64 0, .string ⟨#[]⟩, .int .i64 0] 32)).heap.size = w.heap.size + 1 := by simp
  generalize hX : textT s.data.toList = X
  have KE : Kpt (OwnB ((w.alloc (.cells #[.int .i64 0, .string ⟨#[]⟩, .int .i64 0] 32)).alloc (.cells #[] 5)) (w.heap.size + 1) (.slice (some ⟨w.heap.size + 1, 0, none⟩) 0 0) []) := hid (by
    have h2 := own_empty (w.alloc (.cells #[.int .i64 0, .string ⟨#[]⟩, .int .i64 0] 32)) (w.heap.size + 1) 5 (by rw [hsz]; exact Nat.le_refl _)
    rw [hsz] at h2
    exact h2)
  have HX := hid (And.intro hX (And.intro hnew (And.intro hbl hsz)))
  clear hX hnew hbl hsz
  go_enter Tryz.func27, Tryz.ntmps27
  go_wp2_with fail
  go_loopw [5, 6] (fun v i wr => ∃ (p : Nat) (acc : List UInt8), 1 ≤ p ∧ p ≤ s.size ∧ acc.length ≤ p ∧ i = .int .i64 (p : Int) ∧ OwnB wr (w.heap.size + 1) v acc ∧ X = rdT (s.data.toList.drop p) acc p ∧ wr.heap[w.heap.size]? = some (.cells #[.int .i64 0, .string ⟨#[]⟩, .int .i64 0] 32 (0, 0)) ∧ Below w.heap.size w wr) (fun _ i _ => s.size - (intOf i).toNat)
  case atStart => exact ⟨1, [], by omega, by omega, by simp, rfl, KE.out, HX.out.1.symm, (heap_alloc_old _ _ (by simp)).trans HX.out.2.1, HX.out.2.2.1.alloc HX.out.2.2.1.size _⟩
  case round =>
    obtain ⟨p, acc, hp1, hp, hacc, rfl, hown, hX, hres, hb⟩ := hrel
    have f0 := frozen_of_row wr w.heap.size 0 _ _ hres
    have f1 := frozen_of_row wr w.heap.size 1 _ _ hres
    have f2 := frozen_of_row wr w.heap.size 2 _ _ hres
    have c0 := cell_of_row wr w.heap.size 0 _ _ _ hres
    have c1 := cell_of_row wr w.heap.size 1 _ _ _ hres
    have c2 := cell_of_row wr w.heap.size 2 _ _ _ hres
    have hwl : w.heap.size + 1 ≤ wr.heap.size := (Array.getElem?_eq_some_iff.1 hres).1
    by_cases hlt : p < s.size
    · have hix := run_index_str s p hlt
      have hat := drop_at s p 0
      rw [Nat.add_zero] at hat
      rw [← hat] at hix
      have hc := at_lt (s.data.toList.drop p) 0
      have hrl : 0 < (s.data.toList.drop p).length := by rw [List.length_drop, size_list]; omega
      by_cases hq : at' (s.data.toList.drop p) 0 = 34
      · rw [rdT_quote _ _ _ hrl hq] at hX
        rw [hq] at hix
        have hcv := OwnB_str hown
        obtain ⟨g0, g1, g2⟩ := tk_end hres 4 ⟨acc.toArray⟩
        have KX := hid (And.intro hX (And.intro (tk_below hb 4 ⟨acc.toArray⟩) (And.intro g0 (And.intro g1 g2))))
        clear hX hb hq hat hc hrl hown hres g0 g1 g2
        go_wp2_with fail
        exact bodyPost_ret (v := .tuple #[.agg #[.int .i64 4, .string ⟨acc.toArray⟩, .int .i64 0], .int .i64 ((p : Int) + 1), .int .i64 0]) (by simp [results, Tryz.results27, go_sem, KX.out.2.2.1, KX.out.2.2.2.1, KX.out.2.2.2.2]) rfl ⟨by rw [KX.out.1]; rfl, KX.out.2.1⟩
      · have hqb : ((at' (s.data.toList.drop p) 0 : Nat) == 34) = false := by rw [beq_eq_false_iff_ne]; exact hq
        have hqi : ((at' (s.data.toList.drop p) 0 : Int) == 34) = false := by rw [beq_eq_false_iff_ne]; omega
        have hch := fun w => rchr_any (s.extract p s.size) w (by rw [from_size]; omega) (by rw [from_size]; omega) (by rw [from_bytes]; exact hq)
        simp only [from_bytes] at hch
        obtain ⟨hcl, hcb⟩ := chr_le (s.data.toList.drop p) hrl
        rw [List.length_drop, size_list] at hcl
        have hbad := rdT_bad (s.data.toList.drop p) acc p hrl hq
        have hnext := rdT_next (s.data.toList.drop p) acc p hrl hq
        generalize at' (s.data.toList.drop p) 0 = q at hix hqb hqi hc
        generalize hcx : chr (s.data.toList.drop p) = x at hch hcl hcb hbad hnext
        obtain ⟨c, n⟩ := x
        simp only at hcl hcb hbad hnext
        have HCH := hid hch
        clear hch hq hat hrl hcx
        by_cases hn : n = 0
        · subst hn
          have KX := hid (And.intro (hX.trans (hbad rfl)) (And.intro hb hres))
          clear hX hb hown hres hbad hnext
          go_wp2_with fail
          refine (HCH.out wr).mono ?_
          rintro e w2 ⟨he, m, rfl⟩
          have he2 : e = .returned (.tuple #[.int .u8 (c : Int), .int .i64 0]) := he
          subst he2
          clear he
          go_wp2_with fail
          obtain ⟨j0, j1, j2⟩ := tk_end (wr := wr.drewN m) KX.out.2.2 0 ⟨#[]⟩
          exact bodyPost_ret (v := .tuple #[.agg #[.int .i64 0, .string ⟨#[]⟩, .int .i64 0], .int .i64 0, .int .i64 3]) (by simp [results, Tryz.results27, go_sem, j0, j1, j2]) rfl ⟨by rw [KX.out.1]; rfl, below_drawn (tk_below KX.out.2.1 0 ⟨#[]⟩) m⟩
        · have hnp : 0 < n := by omega
          have hnb : ((n : Int) == 0) = false := by rw [beq_eq_false_iff_ne]; omega
          have hce : (c : Int) = ((UInt8.ofNat c).toNat : Int) := by rw [UInt8.toNat_ofNat_of_lt' (by show c < 256; omega)]
          have hx2 := hX.trans (hnext hn)
          rw [List.drop_drop] at hx2
          have KX := hid (And.intro hx2 (And.intro hb (And.intro hres (And.intro hown hce))))
          clear hX hb hown hres hbad hnext hx2 hce hn
          go_wp2_with fail
          refine (HCH.out wr).mono ?_
          rintro e w2 ⟨he, m, rfl⟩
          have he2 : e = .returned (.tuple #[.int .u8 (c : Int), .int .i64 (n : Int)]) := he
          subst he2
          clear he
          go_wp2_with (at_builtin; refine wpList_append_own _ rfl _ _ 48 rfl (w.heap.size + 1) 5 i0 (.int .u8 0) 1 1 Tryz.underlying48 hi hz0 hz1 hz2 rfl (by decide) _ _ _ rfl (World.ownsRow.alloc (show (wr.drewN m).ownsRow (w.heap.size + 1) 5 1 u5 acc.length (byteCells acc) from KX.out.2.2.2.1) _) ⟨wr.heap.size, 0, none⟩ 1 1 _ rfl rfl (cell_one_new _ _ _) (fun x hx => by simp at hx; subst hx; rfl) (by unfold maxLen; omega) (by omega) (by simp; omega) ?_; intro v' w3 hown3 hgrow3 _; have K3 := hid (And.intro hown3 hgrow3); clear hown3 hgrow3)
          have hown4 := K3.out.1
          rw [KX.out.2.2.2.2] at hown4
          have hne : ∀ k, u5.ownBlock = some k → w.heap.size + 1 ≤ k := own_base KX.out.2.2.2.1
          have hwa : Below w.heap.size w ((wr.alloc (.cells #[.int .u8 (c : Int)] 5)).drewN m) := below_drawn (KX.out.2.1.alloc KX.out.2.1.size _) m
          refine ⟨⟨p + n, acc ++ [UInt8.ofNat c], by omega, by omega, by rw [List.length_append]; simp; omega, by go_num, OwnB_snoc hown4, KX.out.1, ?_, ?_⟩, by simp [intOf]; omega⟩
          · refine (K3.out.2.block w.heap.size (by simp; omega) (fun e => by have := hne _ e.symm; omega)).trans ?_
            exact (heap_alloc_old wr _ (by omega)).trans KX.out.2.2.1
          · exact Below.grown hwa K3.out.2 (by simp; omega) (fun k hk => by have := hne k hk; omega)
    · have hX2 := hX.trans (rdT_end _ _ _ (by rw [List.length_drop, size_list]; omega))
      obtain ⟨g0, g1, g2⟩ := tk_end hres 0 ⟨#[]⟩
      have KX := hid (And.intro hX2 (And.intro (tk_below hb 0 ⟨#[]⟩) (And.intro g0 (And.intro g1 g2))))
      clear hX hX2 hb hown hres g0 g1 g2
      go_wp2_with fail
      exact bodyPost_ret (v := .tuple #[.agg #[.int .i64 0, .string ⟨#[]⟩, .int .i64 0], .int .i64 0, .int .i64 3]) (by simp [results, Tryz.results27, go_sem, KX.out.2.2.1, KX.out.2.2.2.1, KX.out.2.2.2.2]) rfl ⟨by rw [KX.out.1]; rfl, KX.out.2.1⟩
end Go.Proofs.YtmgmmbikdmobpaaGreatDoor
