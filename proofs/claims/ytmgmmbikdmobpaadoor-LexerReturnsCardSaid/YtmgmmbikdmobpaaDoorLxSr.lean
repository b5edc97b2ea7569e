/- lexer: the reference's parts of a path. -/
import Derived.Test.YtmgmmbikdmobpaaDoorLxSg
import Derived.Test.YtmgmmbikdmobpaaDoorLxR3
import Derived.Test.YtmgmmbikdmobpaaDoorLxQ
import Derived.RangeFuncBox
import Derived.Maps.AppendAt
namespace Go.Proofs.YtmgmmbikdmobpaaDoor
open Go.RowKit

def strV (l : List UInt8) : Value := .string ⟨l.toArray⟩
theorem infoStr : (Tryd.prog.info? 9).map (fun i => (i.zero, i.size, i.bytes)) = some (some (.string ByteArray.empty), 1, 16) := by kernel_rfl
theorem segL_length (l : List UInt8) : (segL l).length ≤ l.length + 1 := by
  have h := (split_is _ l (Nat.le_refl _)).2
  have := Lib.count_le l [47]
  induction l with
  | nil => simp [segL]
  | cons b r ih =>
    rw [segL]
    have ih' : (segL r).length ≤ r.length + 1 := ih ((split_is _ r (Nat.le_refl _)).2) (Lib.count_le r [47])
    by_cases h : b = 47
    · rw [if_pos h]; simp; omega
    · rw [if_neg h]
      cases hs : segL r with
      | nil => simp
      | cons x y => rw [hs] at ih'; simp at ih' ⊢; omega

theorem segPut_set : ∀ (L : List (List UInt8)) (b : UInt8), L ≠ [] → segPut L b = L.set (L.length - 1) (L.getD (L.length - 1) [] ++ [b])
  | [], _, h => absurd rfl h
  | [x], b, _ => by simp [segPut]
  | x :: y :: z, b, _ => by
    have ih := segPut_set (y :: z) b (by simp)
    rw [segPut, ih]
    · simp
    · intro h; cases h

set_option maxRecDepth 100000 in
set_option maxHeartbeats 4000000 in
theorem rsegments_any (s : ByteArray) (w : World) (hs : s.size ≤ 1048576) :
    Calls Tryd.prog 34 #[.string s] w fun e w' => (∃ v, e = .returned v ∧ w'.ownsRow w.heap.size 9 1 v (segL s.data.toList).length ((segL s.data.toList).map strV)) ∧ Below w.heap.size w w' := by
  obtain ⟨i0, hi, hz0, hz1, hz2⟩ := info_parts infoStr
  go_enter Tryd.func34, Tryd.ntmps34
  go_wp2_with fail
  go_loopw [3, 4] (fun v i wr => ∃ (k g cap : Nat), k ≤ s.size ∧ i = .int .i64 (k : Int) ∧ v = .slice (some ⟨g, 0, none⟩) (segL (s.data.toList.take k)).length cap ∧ wr.ownsRow w.heap.size 9 1 v (segL (s.data.toList.take k)).length ((segL (s.data.toList.take k)).map strV) ∧ Below w.heap.size w wr) (fun _ i _ => s.size - (intOf i).toNat)
  case atStart =>
    refine ⟨0, _, _, by omega, rfl, rfl, ?_, (Below.refl _ w).alloc (Nat.le_refl _) _⟩
    exact World.ownsRow_lit w #[.string ⟨#[]⟩] 1 (Nat.le_refl _) (by unfold maxLen; omega) rfl
  case round =>
    obtain ⟨k, g, cap, hk, rfl, rfl, hrow, hb⟩ := hrel
    by_cases hlt : k < s.size
    · have hix := indexk s k hlt
      have hlk : k < s.data.toList.length := by rw [size_list]; exact hlt
      have htk : s.data.toList.take (k + 1) = s.data.toList.take k ++ [s.data.toList[k]] := by rw [List.take_add_one, List.getElem?_eq_getElem hlk]; rfl
      have hsn := segL_snoc (s.data.toList.take k) s.data.toList[k]
      rw [← htk] at hsn
      have hat : at' s.data.toList k = (s.data.toList[k]).toNat := by unfold at'; rw [List.getD_eq_getElem?_getD, List.getElem?_eq_getElem hlk]; rfl
      rw [hat] at hix
      have hne := segL_ne (s.data.toList.take k)
      have hLl := segL_length (s.data.toList.take k)
      have hLe := segL_le (s.data.toList.take k)
      rw [List.length_take, size_list] at hLe
      rw [List.length_take] at hLl
      generalize segL (s.data.toList.take k) = L at hrow hsn hne hLl hLe
      generalize s.data.toList[k] = b at hix hsn
      have hN1 : 1 ≤ L.length := by cases L with | nil => exact absurd rfl hne | cons x y => simp
      have hN2 : L.length ≤ 1048577 := by omega
      clear hat htk hlk hLl
      by_cases h47 : b = 47
      · rw [if_pos h47] at hsn
        have hb47 : (((b.toNat : Nat) : Int) == 47) = true := by rw [h47]; rfl
        have KR := hid (And.intro hrow (And.intro hb (And.intro hsn (And.intro hne trivial))))
        clear hrow hb hsn hne hLe h47
        generalize hn : L.length = N at KR hN1 hN2 ⊢
        have HN := hid hn
        clear hn
        generalize hb9 : b.toNat = c at hix hb47
        have HB9 := hid hb9
        clear hb9
        go_wp2_with (at_builtin; refine wpList_append_own _ rfl _ _ 40 rfl w.heap.size 9 i0 _ 1 16 Tryd.underlying40 hi hz0 hz1 hz2 rfl (by decide) _ _ _ rfl (KR.out.1.alloc _) ⟨wr.heap.size, 0, none⟩ 1 1 [.string ⟨#[]⟩] rfl rfl (cell_one_new _ _ _) (by simp [Value.oneCell']) (by unfold maxLen; omega) (by omega) (alloc_le KR.out.2.1.size _) ?_; intro v' w3 hown3 hgrow3 _; obtain ⟨g', cap', rfl⟩ := ownsRow_succ hown3; have hgrow4 : World.grownBy _ w3 (some g) := hgrow3; have K3 := hid (And.intro hown3 hgrow4); clear hown3 hgrow3 hgrow4)
        exact ⟨⟨k + 1, g', cap', by omega, by go_num, by rw [KR.out.2.2.1, List.length_append, HN.out]; rfl, by rw [KR.out.2.2.1, List.length_append, List.map_append, HN.out]; exact K3.out.1, Below.grown (KR.out.2.1.alloc KR.out.2.1.size _) K3.out.2 (alloc_le KR.out.2.1.size _) (own_base KR.out.1)⟩, by simp [intOf]; omega⟩
      · rw [if_neg h47, segPut_set L b hne] at hsn
        have hb47 : (((b.toNat : Nat) : Int) == 47) = false := by
          rw [beq_eq_false_iff_ne]; intro h; exact h47 (UInt8.toNat_inj.1 (by show b.toNat = 47; omega))
        have hc := hrow.cellAt (L.length - 1) (by omega)
        have hl1 : L.length - 1 < L.length := by omega
        rw [List.getElem?_map, List.getElem?_eq_getElem hl1] at hc
        have hc' : wr.cell? ⟨g, L.length - 1, none⟩ = some (strV (L.getD (L.length - 1) [])) := by rw [hc]; simp [List.getD, hl1]
        have hf := hrow.frozenAt (L.length - 1)
        have hbt := b.toNat_lt
        have KR := hid (And.intro hrow (And.intro hb (And.intro hsn (And.intro hne hl1))))
        clear hrow hb hsn hne hl1 hc h47
        have hxl : (L.getD (L.length - 1) []).length ≤ 1048576 := by
          have := hLe (L.getD (L.length - 1) []) (by rw [List.getD_eq_getElem?_getD, List.getElem?_eq_getElem KR.out.2.2.2.2, Option.getD_some]; exact List.getElem_mem _)
          omega
        generalize L.getD (L.length - 1) [] = x at hc' KR hxl
        have hlim : ¬ 9223372036854775807 < x.length + 1 := by omega
        have hcat : (⟨x.toArray⟩ ++ ⟨#[b]⟩ : ByteArray) = ⟨(x ++ [b]).toArray⟩ := by apply ByteArray.ext; simp
        clear hxl hLe
        have he1 : (L.length : Int) - 1 = ((L.length - 1 : Nat) : Int) := by omega
        unfold strV at hc'
        generalize hn : L.length = N at hc' hf he1 KR hN1 hN2 ⊢
        have HN := hid hn
        clear hn
        have hcv : ∀ W : World, (convert 36 9 (.slice (some ⟨W.heap.size, 0, none⟩) 1 1)).run Tryd.prog (W.alloc (.cells #[.int .u8 (b.toNat : Int)] 5)) = .ok (.string ⟨([b] : List UInt8).toArray⟩) (W.alloc (.cells #[.int .u8 (b.toNat : Int)] 5)) := fun W => conv_lit W [b] 1 rfl
        have hcw : ∀ W : World, (convert 36 9 (.slice (some ⟨W.heap.size, 0, none⟩) 1 1)).run Tryd.prog (W.alloc (.cells #[.int .u8 (b.toNat : Int)] 5)).drew = .ok (.string ⟨([b] : List UInt8).toArray⟩) (W.alloc (.cells #[.int .u8 (b.toNat : Int)] 5)).drew := fun W => conv_lit W.drew [b] 1 rfl
        generalize hb9 : b.toNat = c at hix hb47 hbt hcv hcw
        have HB9 := hid hb9
        clear hb9
        have hc2 : (wr.alloc (.cells #[.int .u8 (c : Int)] 5)).cell? ⟨g, N - 1, none⟩ = _ := (((Below.refl wr.heap.size wr).alloc (Nat.le_refl _) _).cell (block_lt_any hc')).trans hc'
        have hf2 : (wr.alloc (.cells #[.int .u8 (c : Int)] 5)).frozen? ⟨g, N - 1, none⟩ = false := (((Below.refl wr.heap.size wr).alloc (Nat.le_refl _) _).frozen (block_lt_any hc')).trans hf
        go_wp2_with fail
        go_region
        all_goals go_wp2_with fail
        all_goals go_roundw
        case rel =>
          have hst := ((KR.out.1).alloc (.cells #[.int .u8 (c : Int)] 5)).stored (N - 1) (.string ⟨(x ++ [b]).toArray⟩)
          refine ⟨k + 1, g, cap, by omega, by go_num, ?_, ?_, ?_⟩
          · rw [KR.out.2.2.1, List.length_set, HN.out]
          · rw [KR.out.2.2.1, List.length_set, HN.out, List.map_set]
            exact hst.1.drew
          · exact (Below.grown (KR.out.2.1.alloc KR.out.2.1.size _) hst.2 (alloc_le KR.out.2.1.size _) (own_base KR.out.1)).drew
        case measure => simp [intOf]; omega
    · obtain rfl : k = s.size := by omega
      have htk : s.data.toList.take s.size = s.data.toList := List.take_of_length_le (by rw [size_list]; omega)
      rw [htk] at hrow ⊢
      have hn : ∃ N, N = (segL s.data.toList).length := ⟨_, rfl⟩
      obtain ⟨N, hn⟩ := hn
      rw [← hn] at hrow ⊢
      have KR := hid (And.intro hrow (And.intro hb hn))
      clear hrow hb htk hn
      go_wp2_with fail
      go_ret
      exact ⟨⟨.slice (some ⟨g, 0, none⟩) N cap, rfl, by rw [← KR.out.2.2]; exact KR.out.1⟩, KR.out.2.1⟩
end Go.Proofs.YtmgmmbikdmobpaaDoor
