/- syntax: slices.Equal of strings; the chapter's example. | syntax: what the chapter's example says, computed. | syntax: awake. -/
import Derived.Test.YtjedcijddlilaaaGreatDoorSyC
import Derived.Test.YtjedcijddlilaaaGreatDoorSyFr
import Derived.Test.YtjedcijddlilaaaGreatDoorSyZ
import Derived.Test.YtjedcijddlilaaaGreatDoorSyG2
namespace Go.Proofs.YtjedcijddlilaaaGreatDoor
open Go.RowKit Go.Shelf
attribute [local go_sem] Oper.semAt_some

theorem take_eq_ne {ns ms : List ByteArray} {i : Nat} {s t : ByteArray} (hs : ns[i]? = some s) (ht : ms[i]? = some t) (h : ¬ s = t) : ¬ ns = ms := by
  rintro rfl
  rw [hs] at ht
  cases ht
  exact h rfl
set_option maxRecDepth 100000 in
set_option maxHeartbeats 2000000 in
theorem sequal_any (w0 : World) (ns ms : List ByteArray) (a b : Option Addr) (c d : Nat) (W : World) (hr : RowS w0 ns a) (hr' : RowS w0 ms b) (hW : Below w0.heap.size w0 W) (hl : ns.length ≤ 1099511627776) :
    Calls Tryz.prog 21 #[.slice a ns.length c, .slice b ms.length d] W fun e W' => e = .returned (.bool (decide (ns = ms))) ∧ Below W.heap.size W W' := by
  have HR := hid (And.intro hr (And.intro hr' hW))
  clear hr hr' hW
  by_cases hlm : ns.length = ms.length
  · obtain ⟨L, hL⟩ : ∃ L, ns.length = L := ⟨_, rfl⟩
    have HL := hid (And.intro hL (hlm.symm.trans hL))
    rw [← hlm]
    rw [hL] at hl ⊢
    clear hL hlm
    obtain ⟨R, hR⟩ : ∃ R, decide (ns = ms) = R := ⟨_, rfl⟩
    have HRR := hid hR
    rw [hR]
    clear hR
    go_enter Tryz.func21, Tryz.ntmps21
    go_wp2_with fail
    go_loopw [5, 13] (fun _ x wr => ∃ (i : Nat), x = .int .i64 (i : Int) ∧ i ≤ L ∧ ns.take i = ms.take i ∧ Below W.heap.size W wr) (fun _ x _ => L - (intOf x).toNat)
    case atStart => exact ⟨0, rfl, by omega, rfl, Below.refl _ _⟩
    case round =>
      obtain ⟨i, rfl, hi, hne, hB⟩ := hrel
      have HN := hid (And.intro hne hB)
      clear hne hB
      by_cases hlt : i < L
      · obtain ⟨b1, o1, rfl, hc⟩ : ∃ b o, a = some ⟨b, o, none⟩ ∧ ∀ (i : Nat) (s : ByteArray), ns[i]? = some s → w0.cell? ⟨b, o + i, none⟩ = some (.string s) := by
          rcases HR.out.1 with h | h
          · exfalso; have := HL.out.1; rw [h] at this; simp at this; omega
          · exact h
        obtain ⟨b2, o2, rfl, hc2⟩ : ∃ b' o, b = some ⟨b', o, none⟩ ∧ ∀ (i : Nat) (s : ByteArray), ms[i]? = some s → w0.cell? ⟨b', o + i, none⟩ = some (.string s) := by
          rcases HR.out.2.1 with h | h
          · exfalso; have := HL.out.2; rw [h] at this; simp at this; omega
          · exact h
        obtain ⟨s, hs⟩ : ∃ t, ns[i]? = some t := ⟨_, List.getElem?_eq_getElem (by rw [HL.out.1]; exact hlt)⟩
        obtain ⟨t, ht⟩ : ∃ t, ms[i]? = some t := ⟨_, List.getElem?_eq_getElem (by rw [HL.out.2]; exact hlt)⟩
        have hWr := HR.out.2.2.trans (HN.out.2.mono HR.out.2.2.size)
        have c0 := old_cell hWr (hc i s hs)
        have c1 := old_cell hWr (hc2 i t ht)
        have c00 := (show ∀ n, (wr.drewN n).cell? ⟨b1, o1 + i, none⟩ = _ from fun n => c0)
        have c11 := (show ∀ n, (wr.drewN n).cell? ⟨b2, o2 + i, none⟩ = _ from fun n => c1)
        by_cases he : s = t
        · have hee : (s.toList == t.toList) = true := by rw [he]; simp
          have htk : ns.take (i + 1) = ms.take (i + 1) := by rw [take_snoc hs, take_snoc ht, HN.out.1, he]
          have HK := hid htk
          clear he htk hc hc2 hs ht hWr
          go_wp2_with fail
          go_quiet (fail)
          go_wp2_with fail
          go_roundw
          case rel => exact ⟨i + 1, by go_num, by omega, HK.out, below_drawn HN.out.2 _⟩
          case measure => simp [intOf]; omega
        · have hee := toList_ne he
          have hres : R = false := by rw [← HRR.out]; exact decide_eq_false (take_eq_ne hs ht he)
          have HK := hid hres
          clear he hres hc hc2 hs ht hWr
          go_wp2_with fail
          go_quiet (fail)
          go_wp2_with fail
          go_ret
          exact ⟨by rw [HK.out] <;> rfl, below_drawn HN.out.2 _⟩
      · have hres : R = true := by
          rw [← HRR.out]
          refine decide_eq_true ?_
          have h := HN.out.1
          rwa [List.take_of_length_le (by rw [HL.out.1]; omega), List.take_of_length_le (by rw [HL.out.2]; omega)] at h
        have HK := hid hres
        clear hres
        go_wp2_with fail
        go_ret
        exact ⟨by rw [HK.out] <;> rfl, HN.out.2⟩
  · have hres : decide (ns = ms) = false := decide_eq_false (fun h => hlm (by rw [h]))
    rw [hres]
    have hlm2 : ((ns.length : Int) != (ms.length : Int)) = true := by simp; omega
    clear hres hlm
    go_enter Tryz.func21, Tryz.ntmps21
    go_wp2_with fail
    go_ret
    exact ⟨rfl, Below.refl _ _⟩

/-- The chapter's example with a type in the list. -/
def exT (t : Ty) : Ty :=
  ⟨8, ⟨#[]⟩, ⟨#[]⟩, .node ⟨#[]⟩ false 2 ⟨#[]⟩ ⟨#[]⟩ .nil .nil .nil,
    .node ⟨#[97]⟩ false 5 ⟨#[]⟩ ⟨#[]⟩ (.node ⟨#[]⟩ false t.k t.m t.n t.A t.F .nil) .nil (.node ⟨#[98]⟩ true 6 ⟨#[]⟩ ⟨#[]⟩ .nil .nil .nil)⟩
set_option maxRecDepth 100000 in
set_option maxHeartbeats 2000000 in
theorem example_any (t : Ty) (v : Value) (w : World) (hv : TyV w v t) :
    Calls Tryz.prog 33 #[v] w fun e w' => ∃ r, e = .returned r ∧ TyV w' r (exT t) ∧ Below w.heap.size w w' := by
  obtain ⟨x, rfl, rfl⟩ := tyI_of hv
  clear hv
  show Calls Tryz.prog 33 #[.agg #[.int .i64 x.t.k, .string x.t.m, .string x.t.n, .slice x.aa x.t.A.len x.ca, .slice x.af x.t.F.len x.cf]] w _
  obtain ⟨w5, hw5⟩ : ∃ w5, ((((w.alloc (.cells #[.int .i64 x.t.k, .string x.t.m, .string x.t.n, .slice x.aa x.t.A.len x.ca, .slice x.af x.t.F.len x.cf] 25)).alloc (.cells #[.int .i64 8, .string ⟨#[]⟩, .string ⟨#[]⟩, .slice (some ⟨w.heap.size + 1 + 1, 0, none⟩) 1 1, .slice (some ⟨w.heap.size + 1 + 1 + 1 + 1, 0, none⟩) 2 2] 25)).alloc (.cells #[.int .i64 2, .string ⟨#[]⟩, .string ⟨#[]⟩, .slice none 0 0, .slice none 0 0] 25)).alloc (.cells #[.int .i64 x.t.k, .string x.t.m, .string x.t.n, .slice x.aa x.t.A.len x.ca, .slice x.af x.t.F.len x.cf] 25)).alloc (.cells #[.string ⟨#[97]⟩, .int .i64 5, .string ⟨#[]⟩, .string ⟨#[]⟩, .slice (some ⟨w.heap.size + 1 + 1 + 1, 0, none⟩) 1 1, .slice none 0 0, .bool false, .string ⟨#[98]⟩, .int .i64 6, .string ⟨#[]⟩, .string ⟨#[]⟩, .slice none 0 0, .slice none 0 0, .bool true] 86) = w5 := ⟨_, rfl⟩
  have hb5 : Below w.heap.size w w5 := by rw [← hw5]; exact (((((Below.refl _ w).alloc (Nat.le_refl _) _).alloc (by simp) _).alloc (by simp <;> omega) _).alloc (by simp <;> omega) _).alloc (by simp <;> omega) _
  have e1 : w5.heap[w.heap.size + 1]? = some (.cells #[.int .i64 8, .string ⟨#[]⟩, .string ⟨#[]⟩, .slice (some ⟨w.heap.size + 1 + 1, 0, none⟩) 1 1, .slice (some ⟨w.heap.size + 1 + 1 + 1 + 1, 0, none⟩) 2 2] 25 (0, 0)) := by
    rw [← hw5]
    refine (Below.heap_alloc _ _ _ (by simp <;> omega)).trans ((Below.heap_alloc _ _ _ (by simp <;> omega)).trans ((Below.heap_alloc _ _ _ (by simp)).trans ?_))
    have h := World.alloc_heap_new (w.alloc (.cells #[.int .i64 x.t.k, .string x.t.m, .string x.t.n, .slice x.aa x.t.A.len x.ca, .slice x.af x.t.F.len x.cf] 25)) (.cells #[.int .i64 8, .string ⟨#[]⟩, .string ⟨#[]⟩, .slice (some ⟨w.heap.size + 1 + 1, 0, none⟩) 1 1, .slice (some ⟨w.heap.size + 1 + 1 + 1 + 1, 0, none⟩) 2 2] 25)
    simpa only [World.size_alloc] using h
  have e2 : w5.heap[w.heap.size + 1 + 1]? = some (.cells #[.int .i64 2, .string ⟨#[]⟩, .string ⟨#[]⟩, .slice none 0 0, .slice none 0 0] 25 (0, 0)) := by
    rw [← hw5]
    refine (Below.heap_alloc _ _ _ (by simp <;> omega)).trans ((Below.heap_alloc _ _ _ (by simp)).trans ?_)
    have h := World.alloc_heap_new ((w.alloc (.cells #[.int .i64 x.t.k, .string x.t.m, .string x.t.n, .slice x.aa x.t.A.len x.ca, .slice x.af x.t.F.len x.cf] 25)).alloc (.cells #[.int .i64 8, .string ⟨#[]⟩, .string ⟨#[]⟩, .slice (some ⟨w.heap.size + 1 + 1, 0, none⟩) 1 1, .slice (some ⟨w.heap.size + 1 + 1 + 1 + 1, 0, none⟩) 2 2] 25)) (.cells #[.int .i64 2, .string ⟨#[]⟩, .string ⟨#[]⟩, .slice none 0 0, .slice none 0 0] 25)
    simpa only [World.size_alloc] using h
  have e3 : w5.heap[w.heap.size + 1 + 1 + 1]? = some (.cells #[.int .i64 x.t.k, .string x.t.m, .string x.t.n, .slice x.aa x.t.A.len x.ca, .slice x.af x.t.F.len x.cf] 25 (0, 0)) := by
    rw [← hw5]
    refine (Below.heap_alloc _ _ _ (by simp)).trans ?_
    have h := World.alloc_heap_new (((w.alloc (.cells #[.int .i64 x.t.k, .string x.t.m, .string x.t.n, .slice x.aa x.t.A.len x.ca, .slice x.af x.t.F.len x.cf] 25)).alloc (.cells #[.int .i64 8, .string ⟨#[]⟩, .string ⟨#[]⟩, .slice (some ⟨w.heap.size + 1 + 1, 0, none⟩) 1 1, .slice (some ⟨w.heap.size + 1 + 1 + 1 + 1, 0, none⟩) 2 2] 25)).alloc (.cells #[.int .i64 2, .string ⟨#[]⟩, .string ⟨#[]⟩, .slice none 0 0, .slice none 0 0] 25)) (.cells #[.int .i64 x.t.k, .string x.t.m, .string x.t.n, .slice x.aa x.t.A.len x.ca, .slice x.af x.t.F.len x.cf] 25)
    simpa only [World.size_alloc] using h
  have e4 : w5.heap[w.heap.size + 1 + 1 + 1 + 1]? = some (.cells #[.string ⟨#[97]⟩, .int .i64 5, .string ⟨#[]⟩, .string ⟨#[]⟩, .slice (some ⟨w.heap.size + 1 + 1 + 1, 0, none⟩) 1 1, .slice none 0 0, .bool false, .string ⟨#[98]⟩, .int .i64 6, .string ⟨#[]⟩, .string ⟨#[]⟩, .slice none 0 0, .slice none 0 0, .bool true] 86 (0, 0)) := by
    rw [← hw5]
    have h := World.alloc_heap_new ((((w.alloc (.cells #[.int .i64 x.t.k, .string x.t.m, .string x.t.n, .slice x.aa x.t.A.len x.ca, .slice x.af x.t.F.len x.cf] 25)).alloc (.cells #[.int .i64 8, .string ⟨#[]⟩, .string ⟨#[]⟩, .slice (some ⟨w.heap.size + 1 + 1, 0, none⟩) 1 1, .slice (some ⟨w.heap.size + 1 + 1 + 1 + 1, 0, none⟩) 2 2] 25)).alloc (.cells #[.int .i64 2, .string ⟨#[]⟩, .string ⟨#[]⟩, .slice none 0 0, .slice none 0 0] 25)).alloc (.cells #[.int .i64 x.t.k, .string x.t.m, .string x.t.n, .slice x.aa x.t.A.len x.ca, .slice x.af x.t.F.len x.cf] 25)) (.cells #[.string ⟨#[97]⟩, .int .i64 5, .string ⟨#[]⟩, .string ⟨#[]⟩, .slice (some ⟨w.heap.size + 1 + 1 + 1, 0, none⟩) 1 1, .slice none 0 0, .bool false, .string ⟨#[98]⟩, .int .i64 6, .string ⟨#[]⟩, .string ⟨#[]⟩, .slice none 0 0, .slice none 0 0, .bool true] 86)
    simpa only [World.size_alloc] using h
  have m0 := cell_of_row w5 _ 0 _ _ _ e1
  have m1 := cell_of_row w5 _ 1 _ _ _ e1
  have m2 := cell_of_row w5 _ 2 _ _ _ e1
  have m3 := cell_of_row w5 _ 3 _ _ _ e1
  have m4 := cell_of_row w5 _ 4 _ _ _ e1
  have hA := SlW_below (⟨_, _, rfl, x.ha⟩ : SlW w (.slice x.aa x.t.A.len x.ca) x.t.A false) hb5
  have hF := SlW_below (⟨_, _, rfl, x.hf⟩ : SlW w (.slice x.af x.t.F.len x.cf) x.t.F true) hb5
  have hty : TyV w5 (.agg #[.int .i64 8, .string ⟨#[]⟩, .string ⟨#[]⟩, .slice (some ⟨w.heap.size + 1 + 1, 0, none⟩) 1 1, .slice (some ⟨w.heap.size + 1 + 1 + 1 + 1, 0, none⟩) 2 2]) (exT x.t) := by
    obtain ⟨a1, c1, ha1, hA⟩ := hA
    obtain ⟨a2, c2, ha2, hF⟩ := hF
    cases ha1
    cases ha2
    refine ⟨_, _, rfl, (by decide : (Lit.int .i64 8).wf = true), ⟨_, _, rfl, .inr ⟨_, 0, rfl, ?_⟩⟩, ⟨_, _, rfl, .inr ⟨_, 0, rfl, ?_⟩⟩⟩
    · show Lies w5 (.node ⟨#[]⟩ false 2 ⟨#[]⟩ ⟨#[]⟩ .nil .nil .nil) false (w.heap.size + 1 + 1) 0
      refine ⟨fun h => (by cases h), ⟨cell_of_row w5 _ 0 _ _ _ e2, by decide⟩, cell_of_row w5 _ 1 _ _ _ e2, cell_of_row w5 _ 2 _ _ _ e2, ⟨_, _, cell_of_row w5 _ 3 _ _ _ e2, .inl rfl⟩, ⟨_, _, cell_of_row w5 _ 4 _ _ _ e2, .inl rfl⟩, trivial⟩
    · show Lies w5 (.node ⟨#[97]⟩ false 5 ⟨#[]⟩ ⟨#[]⟩ (.node ⟨#[]⟩ false x.t.k x.t.m x.t.n x.t.A x.t.F .nil) .nil (.node ⟨#[98]⟩ true 6 ⟨#[]⟩ ⟨#[]⟩ .nil .nil .nil)) true (w.heap.size + 1 + 1 + 1 + 1) 0
      refine ⟨fun _ => ⟨cell_of_row w5 _ 0 _ _ _ e4, cell_of_row w5 _ 6 _ _ _ e4⟩, ⟨cell_of_row w5 _ 1 _ _ _ e4, by decide⟩, cell_of_row w5 _ 2 _ _ _ e4, cell_of_row w5 _ 3 _ _ _ e4, ⟨_, _, cell_of_row w5 _ 4 _ _ _ e4, .inr ⟨_, 0, rfl, ?_⟩⟩, ⟨_, _, cell_of_row w5 _ 5 _ _ _ e4, .inl rfl⟩,
        fun _ => ⟨cell_of_row w5 _ 7 _ _ _ e4, cell_of_row w5 _ 13 _ _ _ e4⟩, ⟨cell_of_row w5 _ 8 _ _ _ e4, by decide⟩, cell_of_row w5 _ 9 _ _ _ e4, cell_of_row w5 _ 10 _ _ _ e4, ⟨_, _, cell_of_row w5 _ 11 _ _ _ e4, .inl rfl⟩, ⟨_, _, cell_of_row w5 _ 12 _ _ _ e4, .inl rfl⟩, trivial⟩
      exact ⟨fun h => (by cases h), ⟨cell_of_row w5 _ 0 _ _ _ e3, x.hk⟩, cell_of_row w5 _ 1 _ _ _ e3, cell_of_row w5 _ 2 _ _ _ e3, ⟨_, _, cell_of_row w5 _ 3 _ _ _ e3, hA⟩, ⟨_, _, cell_of_row w5 _ 4 _ _ _ e3, hF⟩, trivial⟩
  have HT := hid (And.intro hty hb5)
  clear hty hb5 e1 e2 e3 e4 hA hF
  go_enter Tryz.func33, Tryz.ntmps33
  go_wp2_with fail
  refine ⟨rfl, .agg #[.int .i64 8, .string ⟨#[]⟩, .string ⟨#[]⟩, .slice (some ⟨w.heap.size + 1 + 1, 0, none⟩) 1 1, .slice (some ⟨w.heap.size + 1 + 1 + 1 + 1, 0, none⟩) 2 2], by simp [results, go_sem, Tryz.results33, m0, m1, m2, m3, m4], _, rfl, HT.out.1, HT.out.2⟩
end Go.Proofs.YtjedcijddlilaaaGreatDoor

namespace Go.Proofs.YtjedcijddlilaaaGreatDoor
open Go.RowKit Go.Shelf

def xVar : Ty := ⟨9, ⟨#[]⟩, ⟨#[88]⟩, .nil, .nil⟩
def xText : Ty := ⟨4, ⟨#[]⟩, ⟨#[]⟩, .nil, .nil⟩
def xBad : Ty := ⟨99, ⟨#[]⟩, ⟨#[]⟩, .nil, .nil⟩
def xTexts : Tr := .node ⟨#[]⟩ false 4 ⟨#[]⟩ ⟨#[]⟩ .nil .nil .nil
theorem aw_size : (exT xVar).size = 5 := rfl
theorem aw_depth : (exT xVar).depth = 3 := rfl
theorem aw_free : freeL (exT xVar) = [[88]] := by
  have h : dedup (varsL (exT xVar).nodes) = [[88]] := by decide
  unfold freeL
  rw [h]
  simp
theorem aw_sub : (exT xVar).sub (findTy [⟨#[88]⟩] xTexts) = exT xText := by
  simp [exT, xVar, xTexts, xText, Ty.sub, Tr.sub, findTy, idxN, Tr.els]
theorem aw_eq : ((exT xVar).sub (findTy [⟨#[88]⟩] xTexts)).eq (exT xText) = true := by rw [aw_sub]; exact Ty.eq_refl _
theorem aw_ne : (exT xVar).eq ((exT xVar).sub (findTy [⟨#[88]⟩] xTexts)) = false := by
  rw [aw_sub]
  simp [exT, xVar, xText, Ty.eq, Tr.eq]
theorem aw_chk : chkT (exT xVar) = 0 := by kernel_rfl
theorem aw_bad : chkT xBad = 1 := by kernel_rfl
theorem aw_path : pathB (ByteArray.mk #[97, 47, 118, 49]).data.toList = true := by kernel_rfl
theorem sh_of (t : Ty) (h1 : t.m.size ≤ 9223372036854775807) (h2 : t.n.size ≤ 9223372036854775807) (h3 : ∀ s ∈ namesT t, s.size ≤ 9223372036854775807) : t.Sh := ⟨h1, h2, h3⟩
theorem aw_sh : ∀ p ∈ (exT xVar).nodes, p.Sh := by
  intro p hp
  simp only [exT, xVar, Ty.nodes, Tr.nodes, List.mem_cons, List.append_nil, List.nil_append, List.cons_append, List.not_mem_nil, or_false] at hp
  rcases hp with rfl | rfl | rfl | rfl | rfl <;> refine ⟨(by decide), (by decide), ?_⟩ <;> intro s hs <;> simp [namesT, Tr.fds] at hs
  rcases hs with rfl | rfl <;> decide
theorem aw_badsh : ∀ p ∈ xBad.nodes, p.Sh := by
  intro p hp
  simp only [xBad, Ty.nodes, Tr.nodes, List.mem_cons, List.append_nil, List.not_mem_nil, or_false] at hp
  subst hp
  exact ⟨(by decide), (by decide), fun s hs => by simp [namesT, Tr.fds] at hs⟩
theorem aw_names : ∀ p ∈ (exT xVar).nodes, p.n.size ≤ maxLen := fun p hp => by
  have h := (aw_sh p hp).2.1
  unfold maxLen
  simp only [exT, xVar, Ty.nodes, Tr.nodes, List.mem_cons, List.append_nil, List.nil_append, List.cons_append, List.not_mem_nil, or_false] at hp
  rcases hp with rfl | rfl | rfl | rfl | rfl <;> decide
end Go.Proofs.YtjedcijddlilaaaGreatDoor

namespace Go.Proofs.YtjedcijddlilaaaGreatDoor
open Go.RowKit Go.Shelf
attribute [local go_sem] Oper.semAt_some

/-- What stands while awake works: its boxes of t and u. -/
structure AwIn (w w2 w6 : World) (B1 B2 : Nat) (x : TyI w2) (r : TyC) (W : World) : Prop where
  below : Below w.heap.size w W
  b2 : Below w2.heap.size w2 W
  b6 : Below w6.heap.size w6 W
  row1 : W.heap[B1]? = some (.cells #[.int .i64 x.t.k, .string x.t.m, .string x.t.n, .slice x.aa x.t.A.len x.ca, .slice x.af x.t.F.len x.cf] 25 (0, 0))
  row2 : W.heap[B2]? = some (.cells #[.int .i64 r.t.k, .string r.t.m, .string r.t.n, .slice r.aa r.t.A.len r.ca, .slice r.af r.t.F.len r.cf] 25 (0, 0))
theorem AwIn.later {w w2 w6 : World} {B1 B2 : Nat} {x : TyI w2} {r : TyC} {W W' : World} (h : AwIn w w2 w6 B1 B2 x r W) (hb : Below W.heap.size W W') : AwIn w w2 w6 B1 B2 x r W' :=
  ⟨h.below.trans (hb.mono h.below.size), h.b2.trans (hb.mono h.b2.size), h.b6.trans (hb.mono h.b6.size), (hb.block _ (Array.getElem?_eq_some_iff.1 h.row1).1).trans h.row1, (hb.block _ (Array.getElem?_eq_some_iff.1 h.row2).1).trans h.row2⟩
theorem rowS_one {W : World} {b : Nat} {s : ByteArray} {t : TypeId} (h : W.heap[b]? = some (.cells #[.string s] t (0, 0))) : RowS W [s] (some ⟨b, 0, none⟩) :=
  .inr ⟨b, 0, rfl, fun i u hu => by
    cases i with
    | zero => cases hu; exact cell_of_row W b 0 _ _ _ h
    | succ i => simp at hu⟩
theorem RowS.below {W W' : World} {ns : List ByteArray} {a : Option Addr} (h : RowS W ns a) (hb : Below W.heap.size W W') : RowS W' ns a := by
  rcases h with h | ⟨b, o, h, hc⟩
  · exact .inl h
  · exact .inr ⟨b, o, h, fun i s hs => old_cell hb (hc i s hs)⟩

set_option maxRecDepth 100000 in
set_option maxHeartbeats 40000000 in
theorem awakeS_any (w : World) (hE : Env w) : Calls Tryz.prog 6 #[] w fun e w' => e = .returned (.bool true) ∧ Below w.heap.size w w' := by
  have HEnv := hid hE
  clear hE
  have HX := hid (fun w1 => example_any xVar (.agg #[.int .i64 9, .string ⟨#[]⟩, .string ⟨#[88]⟩, .slice none 0 0, .slice none 0 0]) w1 ⟨_, _, rfl, (show (Lit.int .i64 9).wf = true by decide), ⟨none, 0, rfl, .inl rfl⟩, ⟨none, 0, rfl, .inl rfl⟩⟩)
  go_enter Tryz.func6, Tryz.ntmps6
  go_wp2_with fail
  refine (HX.out _).mono ?_
  rintro e w2 ⟨v, rfl, htv, hb2⟩
  obtain ⟨w1, hw1⟩ : ∃ w1, w.alloc (.cells #[.int .i64 9, .string ⟨#[]⟩, .string ⟨#[88]⟩, .slice none 0 0, .slice none 0 0] 25) = w1 := ⟨_, rfl⟩
  rw [hw1] at hb2
  have hb1 : Below w.heap.size w w1 := by rw [← hw1]; exact (Below.refl _ w).alloc (Nat.le_refl _) _
  have H1 := hid hb1
  clear hb1 hw1
  obtain ⟨x, hxt, rfl⟩ := tyI_of htv
  have HXT := hid (And.intro hxt (And.intro htv hb2))
  clear hxt htv hb2
  dsimp only [TyI.v, TyI.cells]
  obtain ⟨w3, hw3⟩ : ∃ w3, w2.alloc (.cells #[.int .i64 x.t.k, .string x.t.m, .string x.t.n, .slice x.aa x.t.A.len x.ca, .slice x.af x.t.F.len x.cf] 25) = w3 := ⟨_, rfl⟩
  have hb3 : Below w2.heap.size w2 w3 := by rw [← hw3]; exact (Below.refl _ w2).alloc (Nat.le_refl _) _
  have e3 : w3.heap[w2.heap.size]? = some (.cells #[.int .i64 x.t.k, .string x.t.m, .string x.t.n, .slice x.aa x.t.A.len x.ca, .slice x.af x.t.F.len x.cf] 25 (0, 0)) := by rw [← hw3]; exact World.alloc_heap_new _ _
  have hs3 : w3.heap.size = w2.heap.size + 1 := by rw [← hw3]; simp
  obtain ⟨w4, hw4⟩ : ∃ w4, w3.alloc (.cells #[.string ⟨#[88]⟩] 9) = w4 := ⟨_, rfl⟩
  have hb4 : Below w3.heap.size w3 w4 := by rw [← hw4]; exact (Below.refl _ w3).alloc (Nat.le_refl _) _
  have e4 : w4.heap[w3.heap.size]? = some (.cells #[.string ⟨#[88]⟩] 9 (0, 0)) := by rw [← hw4]; exact World.alloc_heap_new _ _
  have hs4 : w4.heap.size = w3.heap.size + 1 := by rw [← hw4]; simp
  obtain ⟨w5, hw5⟩ : ∃ w5, w4.alloc (.cells #[.int .i64 4, .string ⟨#[]⟩, .string ⟨#[]⟩, .slice none 0 0, .slice none 0 0] 25) = w5 := ⟨_, rfl⟩
  have hb5 : Below w4.heap.size w4 w5 := by rw [← hw5]; exact (Below.refl _ w4).alloc (Nat.le_refl _) _
  have e5 : w5.heap[w4.heap.size]? = some (.cells #[.int .i64 4, .string ⟨#[]⟩, .string ⟨#[]⟩, .slice none 0 0, .slice none 0 0] 25 (0, 0)) := by rw [← hw5]; exact World.alloc_heap_new _ _
  have hs5 : w5.heap.size = w4.heap.size + 1 := by rw [← hw5]; simp
  have k0 := cell_of_row w3 _ 0 _ _ _ e3
  have k1 := cell_of_row w3 _ 1 _ _ _ e3
  have k2 := cell_of_row w3 _ 2 _ _ _ e3
  have k3 := cell_of_row w3 _ 3 _ _ _ e3
  have k4 := cell_of_row w3 _ 4 _ _ _ e3
  have hb25 : Below w2.heap.size w2 w5 := hb3.trans ((hb4.trans (hb5.mono hb4.size)).mono hb3.size)
  have htx : x.t.size ≤ 1099511627776 := by rw [HXT.out.1, aw_size]; omega
  have hlies : Lies w5 xTexts false w4.heap.size 0 :=
    ⟨fun h => (by cases h), ⟨cell_of_row w5 _ 0 _ _ _ e5, (by decide : (Lit.int .i64 4).wf = true)⟩, cell_of_row w5 _ 1 _ _ _ e5, cell_of_row w5 _ 2 _ _ _ e5, ⟨_, _, cell_of_row w5 _ 3 _ _ _ e5, .inl rfl⟩, ⟨_, _, cell_of_row w5 _ 4 _ _ _ e5, .inl rfl⟩, trivial⟩
  have hsub := subst_any (w := w5) [⟨#[88]⟩] (some ⟨w3.heap.size, 0, none⟩) 1 xTexts (some ⟨w4.heap.size, 0, none⟩) 1 (TyV_below x.tyV hb25) htx ((rowS_one e4).below hb5) (.inr ⟨_, 0, rfl, hlies⟩) (by decide) (by decide)
  have HSU := hid (show Calls Tryz.prog 19 #[.agg #[.int .i64 x.t.k, .string x.t.m, .string x.t.n, .slice x.aa x.t.A.len x.ca, .slice x.af x.t.F.len x.cf], .slice (some ⟨w3.heap.size, 0, none⟩) 1 1, .slice (some ⟨w4.heap.size, 0, none⟩) 1 1] w5 _ from hsub)
  have H5 := hid (And.intro (H1.out.trans ((HXT.out.2.2.trans (hb25.mono HXT.out.2.2.size)).mono H1.out.size)) (And.intro hb25 (((hb5.block _ (by omega)).trans (hb4.block _ (by omega))).trans e3)))
  have HSZ := hid (And.intro hs3 (And.intro hs4 hs5))
  clear hb3 e3 hb4 e4 hb5 e5 hb25 hlies hsub hs3 hs4 hs5
  go_wp2_with fail
  refine HSU.out.mono ?_
  rintro e w6 ⟨r, rfl, hrt, hrok, hb6⟩
  have HRT := hid (And.intro hrt (And.intro hrok.tyV hb6))
  clear hrt hrok hb6 k0 k1 k2 k3 k4
  dsimp only [TyC.v, TyC.cells]
  obtain ⟨w7, hw7⟩ : ∃ w7, w6.alloc (.cells #[.int .i64 r.t.k, .string r.t.m, .string r.t.n, .slice r.aa r.t.A.len r.ca, .slice r.af r.t.F.len r.cf] 25) = w7 := ⟨_, rfl⟩
  have hb7 : Below w6.heap.size w6 w7 := by rw [← hw7]; exact (Below.refl _ w6).alloc (Nat.le_refl _) _
  have e7 : w7.heap[w6.heap.size]? = some (.cells #[.int .i64 r.t.k, .string r.t.m, .string r.t.n, .slice r.aa r.t.A.len r.ca, .slice r.af r.t.F.len r.cf] 25 (0, 0)) := by rw [← hw7]; exact World.alloc_heap_new _ _
  have A7 : AwIn w w2 w6 w2.heap.size w6.heap.size x r w7 := by
    have hb56 := HRT.out.2.2
    have hs3 := HSZ.out.1
    have hs4 := HSZ.out.2.1
    have hs5 := HSZ.out.2.2
    have h57 : Below w5.heap.size w5 w7 := hb56.trans (hb7.mono hb56.size)
    exact ⟨H5.out.1.trans (h57.mono H5.out.1.size), H5.out.2.1.trans (h57.mono H5.out.2.1.size), hb7, (h57.block _ (by omega)).trans H5.out.2.2, e7⟩
  have HCM := hid (CheckModule0_any ⟨#[97, 47, 118, 49]⟩ w7 (HEnv.out.below A7.below) aw_path)
  have HA7 := hid A7
  clear hb7 e7 A7
  go_wp2_with fail
  refine HCM.out.mono ?_
  rintro e w8 ⟨rfl, hb8⟩
  have HA8 := hid (HA7.out.later hb8)
  clear hb8 hw3 hw4 hw5 hw7
  have HTX : Kpt (∀ W, Below w2.heap.size w2 W → TyV W (.agg #[.int .i64 x.t.k, .string x.t.m, .string x.t.n, .slice x.aa x.t.A.len x.ca, .slice x.af x.t.F.len x.cf]) (exT xVar)) := hid fun W hb => by rw [← HXT.out.1]; exact TyV_below x.tyV hb
  have HTR : Kpt (∀ W, Below w6.heap.size w6 W → TyV W (.agg #[.int .i64 r.t.k, .string r.t.m, .string r.t.n, .slice r.aa r.t.A.len r.ca, .slice r.af r.t.F.len r.cf]) ((exT xVar).sub (findTy [⟨#[88]⟩] xTexts))) := hid fun W hb => by
    have h := HRT.out.1
    rw [HXT.out.1] at h
    rw [← h]; exact TyV_below HRT.out.2.1 hb
  clear htx
  go_wp2_with fail
  refine region_G (S := AwIn w w2 w6 w2.heap.size w6.heap.size x r) (z := 54) (by kernel_rfl) ?_
  change wpAnyG _ _ _ _ _ _ 55 _ _ _
  have HD := hid (HA8.out.later (Below.refl _ w8).drew)
  generalize w8.drew = V0 at HD ⊢
  refine G_one (i := 0) (by kernel_rfl) rfl ?_
  have c0 := cell_of_row V0 _ 0 _ _ _ HD.out.row1
  have c1 := cell_of_row V0 _ 1 _ _ _ HD.out.row1
  have c2 := cell_of_row V0 _ 2 _ _ _ HD.out.row1
  have c3 := cell_of_row V0 _ 3 _ _ _ HD.out.row1
  have c4 := cell_of_row V0 _ 4 _ _ _ HD.out.row1
  go_wp2_with fail
  refine ⟨HD.out, ?_⟩
  clear c0 c1 c2 c3 c4
  refine G_one (i := 1) (by kernel_rfl) rfl ?_
  have hc := (show Calls Tryz.prog 34 #[.agg #[.int .i64 x.t.k, .string x.t.m, .string x.t.n, .slice x.aa x.t.A.len x.ca, .slice x.af x.t.F.len x.cf]] V0 fun e w' => e = .returned (.int .i64 5) ∧ Below V0.heap.size V0 w' from by have h := typeSize_any (HTX.out V0 HD.out.b2) (by rw [aw_size]; omega); rw [aw_size] at h; exact h)
  have HC := hid hc
  clear hc
  go_wp2_with fail
  refine HC.out.mono ?_
  rintro e V1 ⟨rfl, hb⟩
  have G1 := hid (HD.out.later hb)
  clear hb HC
  go_wp2_with fail
  refine ⟨G1.out, ?_⟩
  refine G_one (i := 2) (by kernel_rfl) rfl ?_
  go_wp2_with fail
  refine ⟨G1.out, ?_⟩
  refine G_one (i := 3) (by kernel_rfl) rfl ?_
  go_wp2_with fail
  refine ⟨G1.out, ?_⟩
  refine G_one (i := 4) (by kernel_rfl) rfl ?_
  have c0 := cell_of_row V1 _ 0 _ _ _ G1.out.row1
  have c1 := cell_of_row V1 _ 1 _ _ _ G1.out.row1
  have c2 := cell_of_row V1 _ 2 _ _ _ G1.out.row1
  have c3 := cell_of_row V1 _ 3 _ _ _ G1.out.row1
  have c4 := cell_of_row V1 _ 4 _ _ _ G1.out.row1
  go_wp2_with fail
  refine ⟨G1.out, ?_⟩
  clear c0 c1 c2 c3 c4
  refine G_one (i := 5) (by kernel_rfl) rfl ?_
  have hc := (show Calls Tryz.prog 35 #[.agg #[.int .i64 x.t.k, .string x.t.m, .string x.t.n, .slice x.aa x.t.A.len x.ca, .slice x.af x.t.F.len x.cf]] V1 fun e w' => e = .returned (.int .i64 3) ∧ Below V1.heap.size V1 w' from by have h := typeDepth_any (HTX.out V1 G1.out.b2) (by rw [aw_size]; omega); rw [aw_depth] at h; exact h)
  have HC := hid hc
  clear hc
  go_wp2_with fail
  refine HC.out.mono ?_
  rintro e V2 ⟨rfl, hb⟩
  have G2 := hid (G1.out.later hb)
  clear hb HC
  go_wp2_with fail
  refine ⟨G2.out, ?_⟩
  refine G_one (i := 6) (by kernel_rfl) rfl ?_
  go_wp2_with fail
  refine ⟨G2.out, ?_⟩
  refine G_one (i := 7) (by kernel_rfl) rfl ?_
  go_wp2_with fail
  refine ⟨G2.out, ?_⟩
  refine G_one (i := 8) (by kernel_rfl) rfl ?_
  go_wp2_with fail
  refine ⟨G2.out, ?_⟩
  refine G_take (i := 9) (v := .agg #[.int .i64 x.t.k, .string x.t.m, .string x.t.n, .slice x.aa x.t.A.len x.ca, .slice x.af x.t.F.len x.cf]) rfl (by kernel_rfl) (by kernel_rfl) (by kernel_rfl) (by kernel_rfl) (by decide) (by kernel_rfl) (fun _ _ _ h => h) (.inl ⟨by kernel_rfl, fun w' hS => ?y9⟩) G2.out ?_
  case y9 =>
    have c0 := cell_of_row w' _ 0 _ _ _ hS.row1
    have c1 := cell_of_row w' _ 1 _ _ _ hS.row1
    have c2 := cell_of_row w' _ 2 _ _ _ hS.row1
    have c3 := cell_of_row w' _ 3 _ _ _ hS.row1
    have c4 := cell_of_row w' _ 4 _ _ _ hS.row1
    simp [execOp, go_sem, c0, c1, c2, c3, c4]
  simp only [Act.put, List.setIfInBounds_toArray]
  refine G_two (i := 10) (j := 11) (by kernel_rfl) rfl rfl ?_ ?_
  · have hc := free_any (HTX.out V2 G2.out.b2) (by rw [aw_size]; omega) aw_names
    rw [aw_free] at hc
    have HC := hid hc
    clear hc
    go_wp2_with fail
    refine HC.out.mono ?_
    rintro e V3 ⟨fv, rfl, hfr, hb⟩
    obtain ⟨gf, cf, rfl, _, _⟩ := hfr.form (by decide)
    have F3 := hid (show RowS V3 [⟨#[88]⟩] (some ⟨gf, 0, none⟩) from rowS_own (n := 1) rfl hfr)
    have G3 := hid (G2.out.later hb)
    clear hb hfr HC
    go_wp2_with fail
    refine ⟨G3.out, ?_⟩
    refine G_one (i := 11) (by kernel_rfl) rfl ?_
    obtain ⟨V4, hV⟩ : ∃ V, V3.alloc (.cells #[.string ⟨#[88]⟩] 9) = V := ⟨_, rfl⟩
    have hb : Below V3.heap.size V3 V4 := by rw [← hV]; exact (Below.refl _ V3).alloc (Nat.le_refl _) _
    have hx : V4.heap[V3.heap.size]? = some (.cells #[.string ⟨#[88]⟩] 9 (0, 0)) := by rw [← hV]; exact World.alloc_heap_new _ _
    have S4 := hid (rowS_one hx)
    have G4 := hid (G3.out.later hb)
    have F4 := hid (F3.out.below hb)
    clear hb hx
    go_wp2_with fail
    clear hV
    refine ⟨G4.out, ?_⟩
    refine G_one (i := 12) (by kernel_rfl) rfl ?_
    have hc := (show Calls Tryz.prog 21 #[.slice (some ⟨gf, 0, none⟩) 1 cf, .slice (some ⟨V3.heap.size, 0, none⟩) 1 1] V4 fun e w' => e = .returned (.bool true) ∧ Below V4.heap.size V4 w' from by exact sequal_any V4 [⟨#[88]⟩] [⟨#[88]⟩] (some ⟨gf, 0, none⟩) (some ⟨V3.heap.size, 0, none⟩) cf 1 V4 F4.out S4.out (Below.refl _ _) (by decide))
    have HC := hid hc
    clear hc
    go_wp2_with fail
    refine HC.out.mono ?_
    rintro e V5 ⟨rfl, hb⟩
    have G5 := hid (G4.out.later hb)
    have F5 := hid (F4.out.below hb)
    have S5 := hid (S4.out.below hb)
    clear hb HC
    go_wp2_with fail
    refine ⟨G5.out, ?_⟩
    refine G_one (i := 13) (by kernel_rfl) rfl ?_
    go_wp2_with fail
    refine ⟨G5.out, ?_⟩
    refine G_one (i := 14) (by kernel_rfl) rfl ?_
    go_wp2_with fail
    refine ⟨G5.out, ?_⟩
    refine G_take (i := 15) (v := .agg #[.int .i64 r.t.k, .string r.t.m, .string r.t.n, .slice r.aa r.t.A.len r.ca, .slice r.af r.t.F.len r.cf]) rfl (by kernel_rfl) (by kernel_rfl) (by kernel_rfl) (by kernel_rfl) (by decide) (by kernel_rfl) (fun _ _ _ h => h) (.inl ⟨by kernel_rfl, fun w' hS => ?y15⟩) G5.out ?_
    case y15 =>
      have c0 := cell_of_row w' _ 0 _ _ _ hS.row2
      have c1 := cell_of_row w' _ 1 _ _ _ hS.row2
      have c2 := cell_of_row w' _ 2 _ _ _ hS.row2
      have c3 := cell_of_row w' _ 3 _ _ _ hS.row2
      have c4 := cell_of_row w' _ 4 _ _ _ hS.row2
      simp [execOp, go_sem, c0, c1, c2, c3, c4]
    simp only [Act.put, List.setIfInBounds_toArray]
    refine G_one (i := 16) (by kernel_rfl) rfl ?_
    go_wp2_with fail
    refine ⟨G5.out, ?_⟩
    refine G_one (i := 17) (by kernel_rfl) rfl ?_
    have hc := example_any xText (.agg #[.int .i64 4, .string ⟨#[]⟩, .string ⟨#[]⟩, .slice none 0 0, .slice none 0 0]) V5 ⟨_, _, rfl, (show (Lit.int .i64 4).wf = true by decide), ⟨none, 0, rfl, .inl rfl⟩, ⟨none, 0, rfl, .inl rfl⟩⟩
    have HC := hid hc
    clear hc
    go_wp2_with fail
    refine HC.out.mono ?_
    rintro e V6 ⟨v, rfl, htv, hb⟩
    have G6 := hid (G5.out.later hb)
    have HV := hid htv
    clear hb htv HC
    go_wp2_with fail
    refine ⟨G6.out, ?_⟩
    refine G_one (i := 18) (by kernel_rfl) rfl ?_
    have hc := (show Calls Tryz.prog 36 #[.agg #[.int .i64 r.t.k, .string r.t.m, .string r.t.n, .slice r.aa r.t.A.len r.ca, .slice r.af r.t.F.len r.cf], v] V6 fun e w' => e = .returned (.bool true) ∧ Below V6.heap.size V6 w' from by have h := eq_any (HTR.out V6 G6.out.b6) HV.out (by rw [aw_sub]; decide); rw [aw_eq] at h; exact h)
    have HC := hid hc
    clear hc
    go_wp2_with fail
    refine HC.out.mono ?_
    rintro e V7 ⟨rfl, hb⟩
    have G7 := hid (G6.out.later hb)
    clear hb HC
    go_wp2_with fail
    refine ⟨G7.out, ?_⟩
    refine G_one (i := 19) (by kernel_rfl) rfl ?_
    go_wp2_with fail
    refine ⟨G7.out, ?_⟩
    refine G_one (i := 20) (by kernel_rfl) rfl ?_
    go_wp2_with fail
    refine ⟨G7.out, ?_⟩
    refine G_take (i := 21) (v := .agg #[.int .i64 x.t.k, .string x.t.m, .string x.t.n, .slice x.aa x.t.A.len x.ca, .slice x.af x.t.F.len x.cf]) rfl (by kernel_rfl) (by kernel_rfl) (by kernel_rfl) (by kernel_rfl) (by decide) (by kernel_rfl) (fun _ _ _ h => h) (.inl ⟨by kernel_rfl, fun w' hS => ?y21⟩) G7.out ?_
    case y21 =>
      have c0 := cell_of_row w' _ 0 _ _ _ hS.row1
      have c1 := cell_of_row w' _ 1 _ _ _ hS.row1
      have c2 := cell_of_row w' _ 2 _ _ _ hS.row1
      have c3 := cell_of_row w' _ 3 _ _ _ hS.row1
      have c4 := cell_of_row w' _ 4 _ _ _ hS.row1
      simp [execOp, go_sem, c0, c1, c2, c3, c4]
    simp only [Act.put, List.setIfInBounds_toArray]
    refine G_one (i := 22) (by kernel_rfl) rfl ?_
    have c0 := cell_of_row V7 _ 0 _ _ _ G7.out.row2
    have c1 := cell_of_row V7 _ 1 _ _ _ G7.out.row2
    have c2 := cell_of_row V7 _ 2 _ _ _ G7.out.row2
    have c3 := cell_of_row V7 _ 3 _ _ _ G7.out.row2
    have c4 := cell_of_row V7 _ 4 _ _ _ G7.out.row2
    go_wp2_with fail
    refine ⟨G7.out, ?_⟩
    clear c0 c1 c2 c3 c4
    refine G_one (i := 23) (by kernel_rfl) rfl ?_
    have hc := (show Calls Tryz.prog 36 #[.agg #[.int .i64 x.t.k, .string x.t.m, .string x.t.n, .slice x.aa x.t.A.len x.ca, .slice x.af x.t.F.len x.cf], .agg #[.int .i64 r.t.k, .string r.t.m, .string r.t.n, .slice r.aa r.t.A.len r.ca, .slice r.af r.t.F.len r.cf]] V7 fun e w' => e = .returned (.bool false) ∧ Below V7.heap.size V7 w' from by have h := eq_any (HTX.out V7 G7.out.b2) (HTR.out V7 G7.out.b6) (by rw [aw_size]; omega); rw [aw_ne] at h; exact h)
    have HC := hid hc
    clear hc
    go_wp2_with fail
    refine HC.out.mono ?_
    rintro e V8 ⟨rfl, hb⟩
    have G8 := hid (G7.out.later hb)
    clear hb HC
    go_wp2_with fail
    refine ⟨G8.out, ?_⟩
    refine G_one (i := 24) (by kernel_rfl) rfl ?_
    go_wp2_with fail
    refine ⟨G8.out, ?_⟩
    refine G_one (i := 25) (by kernel_rfl) rfl ?_
    go_wp2_with fail
    refine ⟨G8.out, ?_⟩
    refine G_one (i := 26) (by kernel_rfl) rfl ?_
    go_wp2_with fail
    refine ⟨G8.out, ?_⟩
    refine G_one (i := 27) (by kernel_rfl) rfl ?_
    have c0 := cell_of_row V8 _ 0 _ _ _ G8.out.row1
    have c1 := cell_of_row V8 _ 1 _ _ _ G8.out.row1
    have c2 := cell_of_row V8 _ 2 _ _ _ G8.out.row1
    have c3 := cell_of_row V8 _ 3 _ _ _ G8.out.row1
    have c4 := cell_of_row V8 _ 4 _ _ _ G8.out.row1
    go_wp2_with fail
    refine ⟨G8.out, ?_⟩
    clear c0 c1 c2 c3 c4
    refine G_one (i := 28) (by kernel_rfl) rfl ?_
    have hc := (show Calls Tryz.prog 12 #[.agg #[.int .i64 x.t.k, .string x.t.m, .string x.t.n, .slice x.aa x.t.A.len x.ca, .slice x.af x.t.F.len x.cf]] V8 fun e w' => e = .returned (.int .i64 0) ∧ Below V8.heap.size V8 w' from by have h := checktype_any (exT xVar) _ V8 (HTX.out V8 G8.out.b2) (by rw [aw_size]; omega) aw_sh (HEnv.out.below G8.out.below); rw [aw_chk] at h; exact h)
    have HC := hid hc
    clear hc
    go_wp2_with fail
    refine HC.out.mono ?_
    rintro e V9 ⟨rfl, hb⟩
    have G9 := hid (G8.out.later hb)
    clear hb HC
    go_wp2_with fail
    refine ⟨G9.out, ?_⟩
    refine G_one (i := 29) (by kernel_rfl) rfl ?_
    go_wp2_with fail
    refine ⟨G9.out, ?_⟩
    refine G_one (i := 30) (by kernel_rfl) rfl ?_
    go_wp2_with fail
    refine ⟨G9.out, ?_⟩
    refine G_one (i := 31) (by kernel_rfl) rfl ?_
    go_wp2_with fail
    refine ⟨G9.out, ?_⟩
    refine G_one (i := 32) (by kernel_rfl) rfl ?_
    go_wp2_with fail
    refine ⟨G9.out, ?_⟩
    refine G_one (i := 33) (by kernel_rfl) rfl ?_
    have hc := (show Calls Tryz.prog 12 #[.agg #[.int .i64 99, .string ⟨#[]⟩, .string ⟨#[]⟩, .slice none 0 0, .slice none 0 0]] V9 fun e w' => e = .returned (.int .i64 1) ∧ Below V9.heap.size V9 w' from by have h := checktype_any xBad (.agg #[.int .i64 99, .string ⟨#[]⟩, .string ⟨#[]⟩, .slice none 0 0, .slice none 0 0]) V9 ⟨_, _, rfl, (show (Lit.int .i64 99).wf = true by decide), ⟨none, 0, rfl, .inl rfl⟩, ⟨none, 0, rfl, .inl rfl⟩⟩ (by decide) aw_badsh (HEnv.out.below G9.out.below); rw [aw_bad] at h; exact h)
    have HC := hid hc
    clear hc
    go_wp2_with fail
    refine HC.out.mono ?_
    rintro e V10 ⟨rfl, hb⟩
    have G10 := hid (G9.out.later hb)
    clear hb HC
    go_wp2_with fail
    refine ⟨G10.out, ?_⟩
    refine G_one (i := 34) (by kernel_rfl) rfl ?_
    go_wp2_with fail
    refine ⟨G10.out, ?_⟩
    refine G_one (i := 35) (by kernel_rfl) rfl ?_
    go_wp2_with fail
    refine ⟨G10.out, ?_⟩
    refine G_one (i := 36) (by kernel_rfl) rfl ?_
    go_wp2_with fail
    refine ⟨G10.out, ?_⟩
    refine G_one (i := 37) (by kernel_rfl) rfl ?_
    go_wp2_with fail
    refine ⟨G10.out, ?_⟩
    refine G_one (i := 38) (by kernel_rfl) rfl ?_
    have hc := ExprSize0_any V10
    have HC := hid hc
    clear hc
    go_wp2_with fail
    refine HC.out.mono ?_
    rintro e V11 ⟨rfl, hb⟩
    have G11 := hid (G10.out.later hb)
    clear hb HC
    go_wp2_with fail
    refine ⟨G11.out, ?_⟩
    refine G_one (i := 39) (by kernel_rfl) rfl ?_
    go_wp2_with fail
    refine ⟨G11.out, ?_⟩
    refine G_one (i := 40) (by kernel_rfl) rfl ?_
    go_wp2_with fail
    refine ⟨G11.out, ?_⟩
    refine G_one (i := 41) (by kernel_rfl) rfl ?_
    go_wp2_with fail
    refine ⟨G11.out, ?_⟩
    refine G_one (i := 42) (by kernel_rfl) rfl ?_
    go_wp2_with fail
    refine ⟨G11.out, ?_⟩
    refine G_one (i := 43) (by kernel_rfl) rfl ?_
    go_wp2_with fail
    refine ⟨G11.out, ?_⟩
    refine G_one (i := 44) (by kernel_rfl) rfl ?_
    go_wp2_with fail
    refine ⟨G11.out, ?_⟩
    refine G_one (i := 45) (by kernel_rfl) rfl ?_
    go_wp2_with fail
    refine ⟨G11.out, ?_⟩
    refine G_one (i := 46) (by kernel_rfl) rfl ?_
    go_wp2_with fail
    refine ⟨G11.out, ?_⟩
    refine G_one (i := 47) (by kernel_rfl) rfl ?_
    go_wp2_with fail
    refine ⟨G11.out, ?_⟩
    refine G_one (i := 48) (by kernel_rfl) rfl ?_
    go_wp2_with fail
    refine ⟨G11.out, ?_⟩
    refine G_one (i := 49) (by kernel_rfl) rfl ?_
    go_wp2_with fail
    refine ⟨G11.out, ?_⟩
    refine G_one (i := 50) (by kernel_rfl) rfl ?_
    go_wp2_with fail
    refine ⟨G11.out, ?_⟩
    refine G_one (i := 51) (by kernel_rfl) rfl ?_
    have hc := ModuleSize0_any ⟨#[]⟩ V11
    have HC := hid hc
    clear hc
    go_wp2_with fail
    refine HC.out.mono ?_
    rintro e V12 ⟨rfl, hb⟩
    have G12 := hid (G11.out.later hb)
    clear hb HC
    go_wp2_with fail
    refine ⟨G12.out, ?_⟩
    refine G_one (i := 52) (by kernel_rfl) rfl ?_
    go_wp2_with fail
    refine ⟨G12.out, ?_⟩
    refine G_one (i := 53) (by kernel_rfl) rfl ?_
    go_wp2_with fail
    refine ⟨G12.out, ?_⟩
    refine G_one (i := 54) (by kernel_rfl) rfl ?_
    go_wp2_with fail
    refine ⟨G12.out, ?_⟩
    refine G_end (by kernel_rfl) ?_
    go_wp2_with fail
    go_ret
    exact ⟨rfl, G12.out.below⟩
  · obtain ⟨V13, hV⟩ : ∃ V, V2.alloc (.cells #[.string ⟨#[88]⟩] 9) = V := ⟨_, rfl⟩
    have hb : Below V2.heap.size V2 V13 := by rw [← hV]; exact (Below.refl _ V2).alloc (Nat.le_refl _) _
    have hx : V13.heap[V2.heap.size]? = some (.cells #[.string ⟨#[88]⟩] 9 (0, 0)) := by rw [← hV]; exact World.alloc_heap_new _ _
    have S13 := hid (rowS_one hx)
    have G13 := hid (G2.out.later hb)
    clear hb hx
    go_wp2_with fail
    clear hV
    refine ⟨G13.out, ?_⟩
    refine G_one (i := 10) (by kernel_rfl) rfl ?_
    have hc := free_any (HTX.out V13 G13.out.b2) (by rw [aw_size]; omega) aw_names
    rw [aw_free] at hc
    have HC := hid hc
    clear hc
    go_wp2_with fail
    refine HC.out.mono ?_
    rintro e V14 ⟨fv, rfl, hfr, hb⟩
    obtain ⟨gf, cf, rfl, _, _⟩ := hfr.form (by decide)
    have F14 := hid (show RowS V14 [⟨#[88]⟩] (some ⟨gf, 0, none⟩) from rowS_own (n := 1) rfl hfr)
    have G14 := hid (G13.out.later hb)
    have S14 := hid (S13.out.below hb)
    clear hb hfr HC
    go_wp2_with fail
    refine ⟨G14.out, ?_⟩
    refine G_one (i := 12) (by kernel_rfl) rfl ?_
    have hc := (show Calls Tryz.prog 21 #[.slice (some ⟨gf, 0, none⟩) 1 cf, .slice (some ⟨V2.heap.size, 0, none⟩) 1 1] V14 fun e w' => e = .returned (.bool true) ∧ Below V14.heap.size V14 w' from by exact sequal_any V14 [⟨#[88]⟩] [⟨#[88]⟩] (some ⟨gf, 0, none⟩) (some ⟨V2.heap.size, 0, none⟩) cf 1 V14 F14.out S14.out (Below.refl _ _) (by decide))
    have HC := hid hc
    clear hc
    go_wp2_with fail
    refine HC.out.mono ?_
    rintro e V15 ⟨rfl, hb⟩
    have G15 := hid (G14.out.later hb)
    have F15 := hid (F14.out.below hb)
    have S15 := hid (S14.out.below hb)
    clear hb HC
    go_wp2_with fail
    refine ⟨G15.out, ?_⟩
    refine G_one (i := 13) (by kernel_rfl) rfl ?_
    go_wp2_with fail
    refine ⟨G15.out, ?_⟩
    refine G_one (i := 14) (by kernel_rfl) rfl ?_
    go_wp2_with fail
    refine ⟨G15.out, ?_⟩
    refine G_take (i := 15) (v := .agg #[.int .i64 r.t.k, .string r.t.m, .string r.t.n, .slice r.aa r.t.A.len r.ca, .slice r.af r.t.F.len r.cf]) rfl (by kernel_rfl) (by kernel_rfl) (by kernel_rfl) (by kernel_rfl) (by decide) (by kernel_rfl) (fun _ _ _ h => h) (.inl ⟨by kernel_rfl, fun w' hS => ?y15⟩) G15.out ?_
    case y15 =>
      have c0 := cell_of_row w' _ 0 _ _ _ hS.row2
      have c1 := cell_of_row w' _ 1 _ _ _ hS.row2
      have c2 := cell_of_row w' _ 2 _ _ _ hS.row2
      have c3 := cell_of_row w' _ 3 _ _ _ hS.row2
      have c4 := cell_of_row w' _ 4 _ _ _ hS.row2
      simp [execOp, go_sem, c0, c1, c2, c3, c4]
    simp only [Act.put, List.setIfInBounds_toArray]
    refine G_one (i := 16) (by kernel_rfl) rfl ?_
    go_wp2_with fail
    refine ⟨G15.out, ?_⟩
    refine G_one (i := 17) (by kernel_rfl) rfl ?_
    have hc := example_any xText (.agg #[.int .i64 4, .string ⟨#[]⟩, .string ⟨#[]⟩, .slice none 0 0, .slice none 0 0]) V15 ⟨_, _, rfl, (show (Lit.int .i64 4).wf = true by decide), ⟨none, 0, rfl, .inl rfl⟩, ⟨none, 0, rfl, .inl rfl⟩⟩
    have HC := hid hc
    clear hc
    go_wp2_with fail
    refine HC.out.mono ?_
    rintro e V16 ⟨v, rfl, htv, hb⟩
    have G16 := hid (G15.out.later hb)
    have HV := hid htv
    clear hb htv HC
    go_wp2_with fail
    refine ⟨G16.out, ?_⟩
    refine G_one (i := 18) (by kernel_rfl) rfl ?_
    have hc := (show Calls Tryz.prog 36 #[.agg #[.int .i64 r.t.k, .string r.t.m, .string r.t.n, .slice r.aa r.t.A.len r.ca, .slice r.af r.t.F.len r.cf], v] V16 fun e w' => e = .returned (.bool true) ∧ Below V16.heap.size V16 w' from by have h := eq_any (HTR.out V16 G16.out.b6) HV.out (by rw [aw_sub]; decide); rw [aw_eq] at h; exact h)
    have HC := hid hc
    clear hc
    go_wp2_with fail
    refine HC.out.mono ?_
    rintro e V17 ⟨rfl, hb⟩
    have G17 := hid (G16.out.later hb)
    clear hb HC
    go_wp2_with fail
    refine ⟨G17.out, ?_⟩
    refine G_one (i := 19) (by kernel_rfl) rfl ?_
    go_wp2_with fail
    refine ⟨G17.out, ?_⟩
    refine G_one (i := 20) (by kernel_rfl) rfl ?_
    go_wp2_with fail
    refine ⟨G17.out, ?_⟩
    refine G_take (i := 21) (v := .agg #[.int .i64 x.t.k, .string x.t.m, .string x.t.n, .slice x.aa x.t.A.len x.ca, .slice x.af x.t.F.len x.cf]) rfl (by kernel_rfl) (by kernel_rfl) (by kernel_rfl) (by kernel_rfl) (by decide) (by kernel_rfl) (fun _ _ _ h => h) (.inl ⟨by kernel_rfl, fun w' hS => ?y21⟩) G17.out ?_
    case y21 =>
      have c0 := cell_of_row w' _ 0 _ _ _ hS.row1
      have c1 := cell_of_row w' _ 1 _ _ _ hS.row1
      have c2 := cell_of_row w' _ 2 _ _ _ hS.row1
      have c3 := cell_of_row w' _ 3 _ _ _ hS.row1
      have c4 := cell_of_row w' _ 4 _ _ _ hS.row1
      simp [execOp, go_sem, c0, c1, c2, c3, c4]
    simp only [Act.put, List.setIfInBounds_toArray]
    refine G_one (i := 22) (by kernel_rfl) rfl ?_
    have c0 := cell_of_row V17 _ 0 _ _ _ G17.out.row2
    have c1 := cell_of_row V17 _ 1 _ _ _ G17.out.row2
    have c2 := cell_of_row V17 _ 2 _ _ _ G17.out.row2
    have c3 := cell_of_row V17 _ 3 _ _ _ G17.out.row2
    have c4 := cell_of_row V17 _ 4 _ _ _ G17.out.row2
    go_wp2_with fail
    refine ⟨G17.out, ?_⟩
    clear c0 c1 c2 c3 c4
    refine G_one (i := 23) (by kernel_rfl) rfl ?_
    have hc := (show Calls Tryz.prog 36 #[.agg #[.int .i64 x.t.k, .string x.t.m, .string x.t.n, .slice x.aa x.t.A.len x.ca, .slice x.af x.t.F.len x.cf], .agg #[.int .i64 r.t.k, .string r.t.m, .string r.t.n, .slice r.aa r.t.A.len r.ca, .slice r.af r.t.F.len r.cf]] V17 fun e w' => e = .returned (.bool false) ∧ Below V17.heap.size V17 w' from by have h := eq_any (HTX.out V17 G17.out.b2) (HTR.out V17 G17.out.b6) (by rw [aw_size]; omega); rw [aw_ne] at h; exact h)
    have HC := hid hc
    clear hc
    go_wp2_with fail
    refine HC.out.mono ?_
    rintro e V18 ⟨rfl, hb⟩
    have G18 := hid (G17.out.later hb)
    clear hb HC
    go_wp2_with fail
    refine ⟨G18.out, ?_⟩
    refine G_one (i := 24) (by kernel_rfl) rfl ?_
    go_wp2_with fail
    refine ⟨G18.out, ?_⟩
    refine G_one (i := 25) (by kernel_rfl) rfl ?_
    go_wp2_with fail
    refine ⟨G18.out, ?_⟩
    refine G_one (i := 26) (by kernel_rfl) rfl ?_
    go_wp2_with fail
    refine ⟨G18.out, ?_⟩
    refine G_one (i := 27) (by kernel_rfl) rfl ?_
    have c0 := cell_of_row V18 _ 0 _ _ _ G18.out.row1
    have c1 := cell_of_row V18 _ 1 _ _ _ G18.out.row1
    have c2 := cell_of_row V18 _ 2 _ _ _ G18.out.row1
    have c3 := cell_of_row V18 _ 3 _ _ _ G18.out.row1
    have c4 := cell_of_row V18 _ 4 _ _ _ G18.out.row1
    go_wp2_with fail
    refine ⟨G18.out, ?_⟩
    clear c0 c1 c2 c3 c4
    refine G_one (i := 28) (by kernel_rfl) rfl ?_
    have hc := (show Calls Tryz.prog 12 #[.agg #[.int .i64 x.t.k, .string x.t.m, .string x.t.n, .slice x.aa x.t.A.len x.ca, .slice x.af x.t.F.len x.cf]] V18 fun e w' => e = .returned (.int .i64 0) ∧ Below V18.heap.size V18 w' from by have h := checktype_any (exT xVar) _ V18 (HTX.out V18 G18.out.b2) (by rw [aw_size]; omega) aw_sh (HEnv.out.below G18.out.below); rw [aw_chk] at h; exact h)
    have HC := hid hc
    clear hc
    go_wp2_with fail
    refine HC.out.mono ?_
    rintro e V19 ⟨rfl, hb⟩
    have G19 := hid (G18.out.later hb)
    clear hb HC
    go_wp2_with fail
    refine ⟨G19.out, ?_⟩
    refine G_one (i := 29) (by kernel_rfl) rfl ?_
    go_wp2_with fail
    refine ⟨G19.out, ?_⟩
    refine G_one (i := 30) (by kernel_rfl) rfl ?_
    go_wp2_with fail
    refine ⟨G19.out, ?_⟩
    refine G_one (i := 31) (by kernel_rfl) rfl ?_
    go_wp2_with fail
    refine ⟨G19.out, ?_⟩
    refine G_one (i := 32) (by kernel_rfl) rfl ?_
    go_wp2_with fail
    refine ⟨G19.out, ?_⟩
    refine G_one (i := 33) (by kernel_rfl) rfl ?_
    have hc := (show Calls Tryz.prog 12 #[.agg #[.int .i64 99, .string ⟨#[]⟩, .string ⟨#[]⟩, .slice none 0 0, .slice none 0 0]] V19 fun e w' => e = .returned (.int .i64 1) ∧ Below V19.heap.size V19 w' from by have h := checktype_any xBad (.agg #[.int .i64 99, .string ⟨#[]⟩, .string ⟨#[]⟩, .slice none 0 0, .slice none 0 0]) V19 ⟨_, _, rfl, (show (Lit.int .i64 99).wf = true by decide), ⟨none, 0, rfl, .inl rfl⟩, ⟨none, 0, rfl, .inl rfl⟩⟩ (by decide) aw_badsh (HEnv.out.below G19.out.below); rw [aw_bad] at h; exact h)
    have HC := hid hc
    clear hc
    go_wp2_with fail
    refine HC.out.mono ?_
    rintro e V20 ⟨rfl, hb⟩
    have G20 := hid (G19.out.later hb)
    clear hb HC
    go_wp2_with fail
    refine ⟨G20.out, ?_⟩
    refine G_one (i := 34) (by kernel_rfl) rfl ?_
    go_wp2_with fail
    refine ⟨G20.out, ?_⟩
    refine G_one (i := 35) (by kernel_rfl) rfl ?_
    go_wp2_with fail
    refine ⟨G20.out, ?_⟩
    refine G_one (i := 36) (by kernel_rfl) rfl ?_
    go_wp2_with fail
    refine ⟨G20.out, ?_⟩
    refine G_one (i := 37) (by kernel_rfl) rfl ?_
    go_wp2_with fail
    refine ⟨G20.out, ?_⟩
    refine G_one (i := 38) (by kernel_rfl) rfl ?_
    have hc := ExprSize0_any V20
    have HC := hid hc
    clear hc
    go_wp2_with fail
    refine HC.out.mono ?_
    rintro e V21 ⟨rfl, hb⟩
    have G21 := hid (G20.out.later hb)
    clear hb HC
    go_wp2_with fail
    refine ⟨G21.out, ?_⟩
    refine G_one (i := 39) (by kernel_rfl) rfl ?_
    go_wp2_with fail
    refine ⟨G21.out, ?_⟩
    refine G_one (i := 40) (by kernel_rfl) rfl ?_
    go_wp2_with fail
    refine ⟨G21.out, ?_⟩
    refine G_one (i := 41) (by kernel_rfl) rfl ?_
    go_wp2_with fail
    refine ⟨G21.out, ?_⟩
    refine G_one (i := 42) (by kernel_rfl) rfl ?_
    go_wp2_with fail
    refine ⟨G21.out, ?_⟩
    refine G_one (i := 43) (by kernel_rfl) rfl ?_
    go_wp2_with fail
    refine ⟨G21.out, ?_⟩
    refine G_one (i := 44) (by kernel_rfl) rfl ?_
    go_wp2_with fail
    refine ⟨G21.out, ?_⟩
    refine G_one (i := 45) (by kernel_rfl) rfl ?_
    go_wp2_with fail
    refine ⟨G21.out, ?_⟩
    refine G_one (i := 46) (by kernel_rfl) rfl ?_
    go_wp2_with fail
    refine ⟨G21.out, ?_⟩
    refine G_one (i := 47) (by kernel_rfl) rfl ?_
    go_wp2_with fail
    refine ⟨G21.out, ?_⟩
    refine G_one (i := 48) (by kernel_rfl) rfl ?_
    go_wp2_with fail
    refine ⟨G21.out, ?_⟩
    refine G_one (i := 49) (by kernel_rfl) rfl ?_
    go_wp2_with fail
    refine ⟨G21.out, ?_⟩
    refine G_one (i := 50) (by kernel_rfl) rfl ?_
    go_wp2_with fail
    refine ⟨G21.out, ?_⟩
    refine G_one (i := 51) (by kernel_rfl) rfl ?_
    have hc := ModuleSize0_any ⟨#[]⟩ V21
    have HC := hid hc
    clear hc
    go_wp2_with fail
    refine HC.out.mono ?_
    rintro e V22 ⟨rfl, hb⟩
    have G22 := hid (G21.out.later hb)
    clear hb HC
    go_wp2_with fail
    refine ⟨G22.out, ?_⟩
    refine G_one (i := 52) (by kernel_rfl) rfl ?_
    go_wp2_with fail
    refine ⟨G22.out, ?_⟩
    refine G_one (i := 53) (by kernel_rfl) rfl ?_
    go_wp2_with fail
    refine ⟨G22.out, ?_⟩
    refine G_one (i := 54) (by kernel_rfl) rfl ?_
    go_wp2_with fail
    refine ⟨G22.out, ?_⟩
    refine G_end (by kernel_rfl) ?_
    go_wp2_with fail
    go_ret
    exact ⟨rfl, G22.out.below⟩
end Go.Proofs.YtjedcijddlilaaaGreatDoor
