/- syntax: slices.Equal of strings; the chapter's example. | syntax: what the chapter's example says, computed. -/
import Derived.Test.YthpkinmlpppglaaGreatDoorSyC
import Derived.Test.YthpkinmlpppglaaGreatDoorSyFr
import Derived.Test.YthpkinmlpppglaaGreatDoorSyZ
namespace Go.Proofs.YthpkinmlpppglaaGreatDoor
open Go.RowKit Go.Shelf
attribute [local go_sem] Oper.semAt_some

theorem take_eq_ne {ns ms : List ByteArray} {i : Nat} {s t : ByteArray} (hs : ns[i]? = some s) (ht : ms[i]? = some t) (h : ¬ s = t) : ¬ ns = ms := by
  rintro rfl
  rw [hs] at ht
  cases ht
  exact h rfl
set_option maxRecDepth 100000 in
set_option maxHeartbeats 2000000 in
theorem sequal_any (w0 : World) (ns ms : List ByteArray) (a b : Option Addr) (c d : Nat) (W : World) (hr : RowS w0 ns a) (hr' : RowS w0 ms b) (hW : Below w0.heap.size w0 W) (hl : ns.length ≤ 1099511627776) :
    Calls Tryz.prog 37 #[.slice a ns.length c, .slice b ms.length d] W fun e W' => e = .returned (.bool (decide (ns = ms))) ∧ Below W.heap.size W W' := by
  have HR := hid (And.intro hr (And.intro hr' hW))
  clear hr hr' hW
  by_cases hlm : ns.length = ms.length
  · obtain ⟨L, hL⟩ : ∃ L, ns.length = L := ⟨_, rfl⟩
    have HL := hid (And.intro hL (hlm.symm.trans hL))
    rw [← hlm]
    rw [hL] at hl ⊢
    clear hL hlm
    obtain ⟨R, hR⟩ : ∃ R, decide (ns = ms) = R := ⟨_, rfl⟩
    have HRR := hid hR
    rw [hR]
    clear hR
    go_enter Tryz.func37, Tryz.ntmps37
    go_wp2_with fail
    go_loopw [5, 13] (fun _ x wr => ∃ (i : Nat), x = .int .i64 (i : Int) ∧ i ≤ L ∧ ns.take i = ms.take i ∧ Below W.heap.size W wr) (fun _ x _ => L - (intOf x).toNat)
    case atStart => exact ⟨0, rfl, by omega, rfl, Below.refl _ _⟩
    case round =>
      obtain ⟨i, rfl, hi, hne, hB⟩ := hrel
      have HN := hid (And.intro hne hB)
      clear hne hB
      by_cases hlt : i < L
      · obtain ⟨b1, o1, rfl, hc⟩ : ∃ b o, a = some ⟨b, o, none⟩ ∧ ∀ (i : Nat) (s : ByteArray), ns[i]? = some s → w0.cell? ⟨b, o + i, none⟩ = some (.string s) := by
          rcases HR.out.1 with h | h
          · exfalso; have := HL.out.1; rw [h] at this; simp at this; omega
          · exact h
        obtain ⟨b2, o2, rfl, hc2⟩ : ∃ b' o, b = some ⟨b', o, none⟩ ∧ ∀ (i : Nat) (s : ByteArray), ms[i]? = some s → w0.cell? ⟨b', o + i, none⟩ = some (.string s) := by
          rcases HR.out.2.1 with h | h
          · exfalso; have := HL.out.2; rw [h] at this; simp at this; omega
          · exact h
        obtain ⟨s, hs⟩ : ∃ t, ns[i]? = some t := ⟨_, List.getElem?_eq_getElem (by rw [HL.out.1]; exact hlt)⟩
        obtain ⟨t, ht⟩ : ∃ t, ms[i]? = some t := ⟨_, List.getElem?_eq_getElem (by rw [HL.out.2]; exact hlt)⟩
        have hWr := HR.out.2.2.trans (HN.out.2.mono HR.out.2.2.size)
        have c0 := old_cell hWr (hc i s hs)
        have c1 := old_cell hWr (hc2 i t ht)
        have c00 := (show ∀ n, (wr.drewN n).cell? ⟨b1, o1 + i, none⟩ = _ from fun n => c0)
        have c11 := (show ∀ n, (wr.drewN n).cell? ⟨b2, o2 + i, none⟩ = _ from fun n => c1)
        by_cases he : s = t
        · have hee : (s.toList == t.toList) = true := by rw [he]; simp
          have htk : ns.take (i + 1) = ms.take (i + 1) := by rw [take_snoc hs, take_snoc ht, HN.out.1, he]
          have HK := hid htk
          clear he htk hc hc2 hs ht hWr
          go_wp2_with fail
          go_quiet (fail)
          go_wp2_with fail
          go_roundw
          case rel => exact ⟨i + 1, by go_num, by omega, HK.out, below_drawn HN.out.2 _⟩
          case measure => simp [intOf]; omega
        · have hee := toList_ne he
          have hres : R = false := by rw [← HRR.out]; exact decide_eq_false (take_eq_ne hs ht he)
          have HK := hid hres
          clear he hres hc hc2 hs ht hWr
          go_wp2_with fail
          go_quiet (fail)
          go_wp2_with fail
          go_ret
          exact ⟨by rw [HK.out] <;> rfl, below_drawn HN.out.2 _⟩
      · have hres : R = true := by
          rw [← HRR.out]
          refine decide_eq_true ?_
          have h := HN.out.1
          rwa [List.take_of_length_le (by rw [HL.out.1]; omega), List.take_of_length_le (by rw [HL.out.2]; omega)] at h
        have HK := hid hres
        clear hres
        go_wp2_with fail
        go_ret
        exact ⟨by rw [HK.out] <;> rfl, HN.out.2⟩
  · have hres : decide (ns = ms) = false := decide_eq_false (fun h => hlm (by rw [h]))
    rw [hres]
    have hlm2 : ((ns.length : Int) != (ms.length : Int)) = true := by simp; omega
    clear hres hlm
    go_enter Tryz.func37, Tryz.ntmps37
    go_wp2_with fail
    go_ret
    exact ⟨rfl, Below.refl _ _⟩

/-- The chapter's example with a type in the list. -/
def exT (t : Ty) : Ty :=
  ⟨8, ⟨#[]⟩, ⟨#[]⟩, .node ⟨#[]⟩ false 2 ⟨#[]⟩ ⟨#[]⟩ .nil .nil .nil,
    .node ⟨#[97]⟩ false 5 ⟨#[]⟩ ⟨#[]⟩ (.node ⟨#[]⟩ false t.k t.m t.n t.A t.F .nil) .nil (.node ⟨#[98]⟩ true 6 ⟨#[]⟩ ⟨#[]⟩ .nil .nil .nil)⟩
set_option maxRecDepth 100000 in
set_option maxHeartbeats 2000000 in
theorem example_any (t : Ty) (v : Value) (w : World) (hv : TyV w v t) :
    Calls Tryz.prog 51 #[v] w fun e w' => ∃ r, e = .returned r ∧ TyV w' r (exT t) ∧ Below w.heap.size w w' := by
  obtain ⟨x, rfl, rfl⟩ := tyI_of hv
  clear hv
  show Calls Tryz.prog 51 #[.agg #[.int .i64 x.t.k, .string x.t.m, .string x.t.n, .slice x.aa x.t.A.len x.ca, .slice x.af x.t.F.len x.cf]] w _
  obtain ⟨w5, hw5⟩ : ∃ w5, ((((w.alloc (.cells #[.int .i64 x.t.k, .string x.t.m, .string x.t.n, .slice x.aa x.t.A.len x.ca, .slice x.af x.t.F.len x.cf] 25)).alloc (.cells #[.int .i64 8, .string ⟨#[]⟩, .string ⟨#[]⟩, .slice (some ⟨w.heap.size + 1 + 1, 0, none⟩) 1 1, .slice (some ⟨w.heap.size + 1 + 1 + 1 + 1, 0, none⟩) 2 2] 25)).alloc (.cells #[.int .i64 2, .string ⟨#[]⟩, .string ⟨#[]⟩, .slice none 0 0, .slice none 0 0] 25)).alloc (.cells #[.int .i64 x.t.k, .string x.t.m, .string x.t.n, .slice x.aa x.t.A.len x.ca, .slice x.af x.t.F.len x.cf] 25)).alloc (.cells #[.string ⟨#[97]⟩, .int .i64 5, .string ⟨#[]⟩, .string ⟨#[]⟩, .slice (some ⟨w.heap.size + 1 + 1 + 1, 0, none⟩) 1 1, .slice none 0 0, .bool false, .string ⟨#[98]⟩, .int .i64 6, .string ⟨#[]⟩, .string ⟨#[]⟩, .slice none 0 0, .slice none 0 0, .bool true] 97) = w5 := ⟨_, rfl⟩
  have hb5 : Below w.heap.size w w5 := by rw [← hw5]; exact (((((Below.refl _ w).alloc (Nat.le_refl _) _).alloc (by simp) _).alloc (by simp <;> omega) _).alloc (by simp <;> omega) _).alloc (by simp <;> omega) _
  have e1 : w5.heap[w.heap.size + 1]? = some (.cells #[.int .i64 8, .string ⟨#[]⟩, .string ⟨#[]⟩, .slice (some ⟨w.heap.size + 1 + 1, 0, none⟩) 1 1, .slice (some ⟨w.heap.size + 1 + 1 + 1 + 1, 0, none⟩) 2 2] 25 (0, 0)) := by
    rw [← hw5]
    refine (Below.heap_alloc _ _ _ (by simp <;> omega)).trans ((Below.heap_alloc _ _ _ (by simp <;> omega)).trans ((Below.heap_alloc _ _ _ (by simp)).trans ?_))
    have h := World.alloc_heap_new (w.alloc (.cells #[.int .i64 x.t.k, .string x.t.m, .string x.t.n, .slice x.aa x.t.A.len x.ca, .slice x.af x.t.F.len x.cf] 25)) (.cells #[.int .i64 8, .string ⟨#[]⟩, .string ⟨#[]⟩, .slice (some ⟨w.heap.size + 1 + 1, 0, none⟩) 1 1, .slice (some ⟨w.heap.size + 1 + 1 + 1 + 1, 0, none⟩) 2 2] 25)
    simpa only [World.size_alloc] using h
  have e2 : w5.heap[w.heap.size + 1 + 1]? = some (.cells #[.int .i64 2, .string ⟨#[]⟩, .string ⟨#[]⟩, .slice none 0 0, .slice none 0 0] 25 (0, 0)) := by
    rw [← hw5]
    refine (Below.heap_alloc _ _ _ (by simp <;> omega)).trans ((Below.heap_alloc _ _ _ (by simp)).trans ?_)
    have h := World.alloc_heap_new ((w.alloc (.cells #[.int .i64 x.t.k, .string x.t.m, .string x.t.n, .slice x.aa x.t.A.len x.ca, .slice x.af x.t.F.len x.cf] 25)).alloc (.cells #[.int .i64 8, .string ⟨#[]⟩, .string ⟨#[]⟩, .slice (some ⟨w.heap.size + 1 + 1, 0, none⟩) 1 1, .slice (some ⟨w.heap.size + 1 + 1 + 1 + 1, 0, none⟩) 2 2] 25)) (.cells #[.int .i64 2, .string ⟨#[]⟩, .string ⟨#[]⟩, .slice none 0 0, .slice none 0 0] 25)
    simpa only [World.size_alloc] using h
  have e3 : w5.heap[w.heap.size + 1 + 1 + 1]? = some (.cells #[.int .i64 x.t.k, .string x.t.m, .string x.t.n, .slice x.aa x.t.A.len x.ca, .slice x.af x.t.F.len x.cf] 25 (0, 0)) := by
    rw [← hw5]
    refine (Below.heap_alloc _ _ _ (by simp)).trans ?_
    have h := World.alloc_heap_new (((w.alloc (.cells #[.int .i64 x.t.k, .string x.t.m, .string x.t.n, .slice x.aa x.t.A.len x.ca, .slice x.af x.t.F.len x.cf] 25)).alloc (.cells #[.int .i64 8, .string ⟨#[]⟩, .string ⟨#[]⟩, .slice (some ⟨w.heap.size + 1 + 1, 0, none⟩) 1 1, .slice (some ⟨w.heap.size + 1 + 1 + 1 + 1, 0, none⟩) 2 2] 25)).alloc (.cells #[.int .i64 2, .string ⟨#[]⟩, .string ⟨#[]⟩, .slice none 0 0, .slice none 0 0] 25)) (.cells #[.int .i64 x.t.k, .string x.t.m, .string x.t.n, .slice x.aa x.t.A.len x.ca, .slice x.af x.t.F.len x.cf] 25)
    simpa only [World.size_alloc] using h
  have e4 : w5.heap[w.heap.size + 1 + 1 + 1 + 1]? = some (.cells #[.string ⟨#[97]⟩, .int .i64 5, .string ⟨#[]⟩, .string ⟨#[]⟩, .slice (some ⟨w.heap.size + 1 + 1 + 1, 0, none⟩) 1 1, .slice none 0 0, .bool false, .string ⟨#[98]⟩, .int .i64 6, .string ⟨#[]⟩, .string ⟨#[]⟩, .slice none 0 0, .slice none 0 0, .bool true] 97 (0, 0)) := by
    rw [← hw5]
    have h := World.alloc_heap_new ((((w.alloc (.cells #[.int .i64 x.t.k, .string x.t.m, .string x.t.n, .slice x.aa x.t.A.len x.ca, .slice x.af x.t.F.len x.cf] 25)).alloc (.cells #[.int .i64 8, .string ⟨#[]⟩, .string ⟨#[]⟩, .slice (some ⟨w.heap.size + 1 + 1, 0, none⟩) 1 1, .slice (some ⟨w.heap.size + 1 + 1 + 1 + 1, 0, none⟩) 2 2] 25)).alloc (.cells #[.int .i64 2, .string ⟨#[]⟩, .string ⟨#[]⟩, .slice none 0 0, .slice none 0 0] 25)).alloc (.cells #[.int .i64 x.t.k, .string x.t.m, .string x.t.n, .slice x.aa x.t.A.len x.ca, .slice x.af x.t.F.len x.cf] 25)) (.cells #[.string ⟨#[97]⟩, .int .i64 5, .string ⟨#[]⟩, .string ⟨#[]⟩, .slice (some ⟨w.heap.size + 1 + 1 + 1, 0, none⟩) 1 1, .slice none 0 0, .bool false, .string ⟨#[98]⟩, .int .i64 6, .string ⟨#[]⟩, .string ⟨#[]⟩, .slice none 0 0, .slice none 0 0, .bool true] 97)
    simpa only [World.size_alloc] using h
  have m0 := cell_of_row w5 _ 0 _ _ _ e1
  have m1 := cell_of_row w5 _ 1 _ _ _ e1
  have m2 := cell_of_row w5 _ 2 _ _ _ e1
  have m3 := cell_of_row w5 _ 3 _ _ _ e1
  have m4 := cell_of_row w5 _ 4 _ _ _ e1
  have hA := SlW_below (⟨_, _, rfl, x.ha⟩ : SlW w (.slice x.aa x.t.A.len x.ca) x.t.A false) hb5
  have hF := SlW_below (⟨_, _, rfl, x.hf⟩ : SlW w (.slice x.af x.t.F.len x.cf) x.t.F true) hb5
  have hty : TyV w5 (.agg #[.int .i64 8, .string ⟨#[]⟩, .string ⟨#[]⟩, .slice (some ⟨w.heap.size + 1 + 1, 0, none⟩) 1 1, .slice (some ⟨w.heap.size + 1 + 1 + 1 + 1, 0, none⟩) 2 2]) (exT x.t) := by
    obtain ⟨a1, c1, ha1, hA⟩ := hA
    obtain ⟨a2, c2, ha2, hF⟩ := hF
    cases ha1
    cases ha2
    refine ⟨_, _, rfl, (by decide : (Lit.int .i64 8).wf = true), ⟨_, _, rfl, .inr ⟨_, 0, rfl, ?_⟩⟩, ⟨_, _, rfl, .inr ⟨_, 0, rfl, ?_⟩⟩⟩
    · show Lies w5 (.node ⟨#[]⟩ false 2 ⟨#[]⟩ ⟨#[]⟩ .nil .nil .nil) false (w.heap.size + 1 + 1) 0
      refine ⟨fun h => (by cases h), ⟨cell_of_row w5 _ 0 _ _ _ e2, by decide⟩, cell_of_row w5 _ 1 _ _ _ e2, cell_of_row w5 _ 2 _ _ _ e2, ⟨_, _, cell_of_row w5 _ 3 _ _ _ e2, .inl rfl⟩, ⟨_, _, cell_of_row w5 _ 4 _ _ _ e2, .inl rfl⟩, trivial⟩
    · show Lies w5 (.node ⟨#[97]⟩ false 5 ⟨#[]⟩ ⟨#[]⟩ (.node ⟨#[]⟩ false x.t.k x.t.m x.t.n x.t.A x.t.F .nil) .nil (.node ⟨#[98]⟩ true 6 ⟨#[]⟩ ⟨#[]⟩ .nil .nil .nil)) true (w.heap.size + 1 + 1 + 1 + 1) 0
      refine ⟨fun _ => ⟨cell_of_row w5 _ 0 _ _ _ e4, cell_of_row w5 _ 6 _ _ _ e4⟩, ⟨cell_of_row w5 _ 1 _ _ _ e4, by decide⟩, cell_of_row w5 _ 2 _ _ _ e4, cell_of_row w5 _ 3 _ _ _ e4, ⟨_, _, cell_of_row w5 _ 4 _ _ _ e4, .inr ⟨_, 0, rfl, ?_⟩⟩, ⟨_, _, cell_of_row w5 _ 5 _ _ _ e4, .inl rfl⟩,
        fun _ => ⟨cell_of_row w5 _ 7 _ _ _ e4, cell_of_row w5 _ 13 _ _ _ e4⟩, ⟨cell_of_row w5 _ 8 _ _ _ e4, by decide⟩, cell_of_row w5 _ 9 _ _ _ e4, cell_of_row w5 _ 10 _ _ _ e4, ⟨_, _, cell_of_row w5 _ 11 _ _ _ e4, .inl rfl⟩, ⟨_, _, cell_of_row w5 _ 12 _ _ _ e4, .inl rfl⟩, trivial⟩
      exact ⟨fun h => (by cases h), ⟨cell_of_row w5 _ 0 _ _ _ e3, x.hk⟩, cell_of_row w5 _ 1 _ _ _ e3, cell_of_row w5 _ 2 _ _ _ e3, ⟨_, _, cell_of_row w5 _ 3 _ _ _ e3, hA⟩, ⟨_, _, cell_of_row w5 _ 4 _ _ _ e3, hF⟩, trivial⟩
  have HT := hid (And.intro hty hb5)
  clear hty hb5 e1 e2 e3 e4 hA hF
  go_enter Tryz.func51, Tryz.ntmps51
  go_wp2_with fail
  refine ⟨rfl, .agg #[.int .i64 8, .string ⟨#[]⟩, .string ⟨#[]⟩, .slice (some ⟨w.heap.size + 1 + 1, 0, none⟩) 1 1, .slice (some ⟨w.heap.size + 1 + 1 + 1 + 1, 0, none⟩) 2 2], by simp [results, go_sem, Tryz.results51, m0, m1, m2, m3, m4], _, rfl, HT.out.1, HT.out.2⟩
end Go.Proofs.YthpkinmlpppglaaGreatDoor

namespace Go.Proofs.YthpkinmlpppglaaGreatDoor
open Go.RowKit Go.Shelf

def xVar : Ty := ⟨9, ⟨#[]⟩, ⟨#[88]⟩, .nil, .nil⟩
def xText : Ty := ⟨4, ⟨#[]⟩, ⟨#[]⟩, .nil, .nil⟩
def xBad : Ty := ⟨99, ⟨#[]⟩, ⟨#[]⟩, .nil, .nil⟩
def xTexts : Tr := .node ⟨#[]⟩ false 4 ⟨#[]⟩ ⟨#[]⟩ .nil .nil .nil
theorem aw_size : (exT xVar).size = 5 := rfl
theorem aw_depth : (exT xVar).depth = 3 := rfl
theorem aw_free : freeL (exT xVar) = [[88]] := by
  have h : dedup (varsL (exT xVar).nodes) = [[88]] := by decide
  unfold freeL
  rw [h]
  simp
theorem aw_sub : (exT xVar).sub (findTy [⟨#[88]⟩] xTexts) = exT xText := by
  simp [exT, xVar, xTexts, xText, Ty.sub, Tr.sub, findTy, idxN, Tr.els]
theorem aw_eq : ((exT xVar).sub (findTy [⟨#[88]⟩] xTexts)).eq (exT xText) = true := by rw [aw_sub]; exact Ty.eq_refl _
theorem aw_ne : (exT xVar).eq ((exT xVar).sub (findTy [⟨#[88]⟩] xTexts)) = false := by
  rw [aw_sub]
  simp [exT, xVar, xText, Ty.eq, Tr.eq]
theorem aw_chk : chkT (exT xVar) = 0 := by kernel_rfl
theorem aw_bad : chkT xBad = 1 := by kernel_rfl
theorem aw_path : pathB (ByteArray.mk #[97, 47, 118, 49]).data.toList = true := by kernel_rfl
theorem sh_of (t : Ty) (h1 : t.m.size ≤ 9223372036854775807) (h2 : t.n.size ≤ 9223372036854775807) (h3 : ∀ s ∈ namesT t, s.size ≤ 9223372036854775807) : t.Sh := ⟨h1, h2, h3⟩
theorem aw_sh : ∀ p ∈ (exT xVar).nodes, p.Sh := by
  intro p hp
  simp only [exT, xVar, Ty.nodes, Tr.nodes, List.mem_cons, List.append_nil, List.nil_append, List.cons_append, List.not_mem_nil, or_false] at hp
  rcases hp with rfl | rfl | rfl | rfl | rfl <;> refine ⟨(by decide), (by decide), ?_⟩ <;> intro s hs <;> simp [namesT, Tr.fds] at hs
  rcases hs with rfl | rfl <;> decide
theorem aw_badsh : ∀ p ∈ xBad.nodes, p.Sh := by
  intro p hp
  simp only [xBad, Ty.nodes, Tr.nodes, List.mem_cons, List.append_nil, List.not_mem_nil, or_false] at hp
  subst hp
  exact ⟨(by decide), (by decide), fun s hs => by simp [namesT, Tr.fds] at hs⟩
theorem aw_names : ∀ p ∈ (exT xVar).nodes, p.n.size ≤ maxLen := fun p hp => by
  have h := (aw_sh p hp).2.1
  unfold maxLen
  simp only [exT, xVar, Ty.nodes, Tr.nodes, List.mem_cons, List.append_nil, List.nil_append, List.cons_append, List.not_mem_nil, or_false] at hp
  rcases hp with rfl | rfl | rfl | rfl | rfl <;> decide
end Go.Proofs.YthpkinmlpppglaaGreatDoor
