/- syntax: Free. -/
import Derived.Test.YtjedcijddlilaaaGreatDoorSyN
import Derived.Test.YtjedcijddlilaaaGreatDoorShZ
import Derived.Maps.OwnIn
import Derived.Shelf.AbstractIn
namespace Go.Proofs.YtjedcijddlilaaaGreatDoor
open Go.RowKit Go.Shelf Go.Maps Go.Sort
attribute [local go_sem] Oper.semAt_some

def dedup : List (List UInt8) → List (List UInt8)
  | [] => []
  | x :: l => if x ∈ dedup l then dedup l else x :: dedup l
theorem mem_dedup (x : List UInt8) (l : List (List UInt8)) : x ∈ dedup l ↔ x ∈ l := by
  induction l with
  | nil => exact Iff.rfl
  | cons y l ih =>
    unfold dedup
    split
    · rename_i h
      rw [ih, List.mem_cons]
      constructor
      · exact .inr
      · rintro (rfl | h2)
        · exact ih.1 h |> fun h3 => h3
        · exact h2
    · rw [List.mem_cons, List.mem_cons, ih]
theorem nodup_dedup (l : List (List UInt8)) : (dedup l).Nodup := by
  induction l with
  | nil => exact List.nodup_nil
  | cons y l ih =>
    unfold dedup
    split
    · exact ih
    · rename_i h; exact List.nodup_cons.2 ⟨h, ih⟩
/-- The names of the variables, in the order of the nodes. -/
def varsL (l : List Ty) : List (List UInt8) := (l.filter (fun t => decide (t.k = 9))).map (fun t => t.n.data.toList)
def varD {H : Type} (l : List Ty) : DataW H := setOf (.lit (.bool true)) ((varsL l).map .string)
def freeL (t : Ty) : List (List UInt8) := (dedup (varsL t.nodes)).mergeSort leB
theorem varD_var {H : Type} (l : List Ty) (t : Ty) (h : t.k = 9) : varD (H := H) (l ++ [t]) = (varD l).put (.string t.n.data.toList) (.lit (.bool true)) := by
  simp [varD, varsL, h, setOf, List.filter_append]
theorem varD_not {H : Type} (l : List Ty) (t : Ty) (h : ¬ t.k = 9) : varD (H := H) (l ++ [t]) = varD l := by
  simp [varD, varsL, h, List.filter_append]
theorem sortsF (m : Nat) : AnyZ.SortsIn Tryz.prog Tryz.sortedF_ren Fence.wide m :=
  ⟨fun blk off cap ss W hH hblk hsz => callsIn_wide.2 (AnyM.slices_Sort_string Tryz.sortF blk off cap ss W hH hblk hsz),
   fun p cap W => callsIn_wide.2 (AnyM.slices_Sort_string_none Tryz.sortF p cap W)⟩
theorem free_perm {H : Type} {w : World} {P : Program} {k : TypeId} {R : Value → Option (DataW H × List MemPlace)} {b n : Nat} (l : List Ty) (hown : w.ownsMap P k R b n (varD l)) (hk : P.underlying k = some .string) :
    (dedup (varsL l)).Perm (strKeys (varD (H := H) l)) := by
  refine Collected.perm (left := fun _ => false) ⟨?_, fun x => ?_⟩ hown (string_keyed hk) hk (fun _ => rfl)
  · exact nodup_dedup _
  · rw [mem_dedup]
    unfold varD
    rw [has_setOf _ _ _ (fun y hy => by obtain ⟨z, _, rfl⟩ := List.mem_map.1 hy; trivial)]
    simp [List.any_map, Lit.sameKey]
theorem own_mapB {H : Type} {P : Program} {k : TypeId} {R : Value → Option (DataW H × List MemPlace)} {A B : World} {b c n : Nat} {D : DataW H} (h : A.ownsMap P k R c n D) (hc : c < b) (hb : RowKit.Below b A B) : B.ownsMap P k R c n D := by
  obtain ⟨es, clock, h1, h2⟩ := h
  exact ⟨es, clock, (hb.block c hc).trans h1, h2⟩
set_option maxRecDepth 100000 in
set_option maxHeartbeats 8000000 in
theorem free_any {t : Ty} {v : Value} {w : World} (hv : TyV w v t) (hbig : t.size ≤ 1099511627776) (hn : ∀ p ∈ t.nodes, p.n.size ≤ maxLen) :
    Calls Tryz.prog 22 #[v] w fun e w' => ∃ fv, e = .returned fv ∧ w'.ownsRow w.heap.size 9 1 fv (freeL t).length ((freeL t).map encStr) ∧ RowKit.Below w.heap.size w w' := by
  obtain ⟨x, rfl, rfl⟩ := tyI_of hv
  clear hv
  have hmm := @run_makeMap Tryz.prog
  have HN : Kpt (∀ w, Calls Tryz.prog 48 #[.agg #[.int .i64 x.t.k, .string x.t.m, .string x.t.n, .slice x.aa x.t.A.len x.ca, .slice x.af x.t.F.len x.cf]] w
    fun e w' => e = .returned (.func (.func 154) #[] #[.pointer (some ⟨w.heap.size + 1, 0, none⟩), .pointer (some ⟨w.heap.size + 2, 0, none⟩)]) ∧
      w' = ((w.alloc (.cells x.cells 25)).alloc (.cells x.cells 25)).alloc (.cells #[.func (.func 79) #[] #[]] 79)) := hid (fun w => typeNodes_any x w)
  have HXc := hid (show x.cells = #[.int .i64 x.t.k, .string x.t.m, .string x.t.n, .slice x.aa x.t.A.len x.ca, .slice x.af x.t.F.len x.cf] from rfl)
  have HNm := hid hn
  clear hn
  show Calls Tryz.prog 22 #[.agg #[.int .i64 x.t.k, .string x.t.m, .string x.t.n, .slice x.aa x.t.A.len x.ca, .slice x.af x.t.F.len x.cf]] w _
  refine (callsIn_wide (n := 9)).1 ?_
  refine callsIn_of_wp_marks Tryz.func22 rfl trivial ?_ rfl
  simp only [Tryz.ntmps22, List.size_toArray, List.length_cons, List.length_nil, Nat.reduceAdd, Nat.reduceSub, Array.replicate_succ, Array.replicate_zero, List.push_toArray, List.append_toArray, List.nil_append, List.cons_append]
  gi_wp2_with fail
  refine ⟨trivial, callsIn_wide.2 ((HN.out _).mono ?_)⟩
  rintro e W6 ⟨rfl, hW6⟩
  simp only [World.size_alloc] at hW6 ⊢
  rw [← HXc.out] at hW6
  gi_wp2_with fail
  have hm0 := World.ownsMap_made (w.alloc (.cells x.cells 25)) Tryz.prog 9 (plainElem (H := Unit) Tryz.prog 4)
  have b0 : Boxed W6 (w.heap.size + 1 + 1) 73 (.map (some (w.heap.size + 1))) := by
    rw [hW6]; have h := (((Boxed.new ((w.alloc (.cells x.cells 25)).alloc (.map #[] 0)) 73 (.map (some (w.heap.size + 1)))).alloc (.cells x.cells 25)).alloc (.cells x.cells 25)).alloc (.cells #[.func (.func 79) #[] #[]] 79)
    simpa only [World.size_alloc] using h
  have b1 : W6.ownsMap Tryz.prog 9 (plainElem (H := Unit) Tryz.prog 4) (w.heap.size + 1) 0 (.map []) := by
    rw [hW6]; have h := (((hm0.alloc (.cells #[.map (some (w.heap.size + 1))] 73)).alloc (.cells x.cells 25)).alloc (.cells x.cells 25)).alloc (.cells #[.func (.func 79) #[] #[]] 79)
    simpa only [World.size_alloc] using h
  have b2 : W6.heap[w.heap.size + 1 + 1 + 1 + 1]? = some (.cells x.cells 25 (0, 0)) := by
    rw [hW6]
    refine (RowKit.Below.heap_alloc _ _ _ (by simp)).trans ?_
    have h := World.alloc_heap_new ((((w.alloc (.cells x.cells 25)).alloc (.map #[] 0)).alloc (.cells #[.map (some (w.heap.size + 1))] 73)).alloc (.cells x.cells 25)) (.cells x.cells 25)
    simpa only [World.size_alloc] using h
  have b3 : Boxed W6 (w.heap.size + 1 + 1 + 1 + 2) 79 (.func (.func 79) #[] #[]) := by
    rw [hW6]; have h := Boxed.new (((((w.alloc (.cells x.cells 25)).alloc (.map #[] 0)).alloc (.cells #[.map (some (w.heap.size + 1))] 73)).alloc (.cells x.cells 25)).alloc (.cells x.cells 25)) 79 (.func (.func 79) #[] #[])
    simpa only [World.size_alloc] using h
  have hsz : W6.heap.size = w.heap.size + 6 := by rw [hW6]; simp
  have hB : RowKit.Below w.heap.size w W6 := by
    rw [hW6]; exact ((((((RowKit.Below.refl _ w).alloc (Nat.le_refl _) _).alloc (by simp) _).alloc (by simp; omega) _).alloc (by simp; omega) _).alloc (by simp; omega) _).alloc (by simp; omega) _
  clear hW6 hm0
  refine range_box 4 25 TyI.cells (gf := 154) (lb := #[.pointer (some ⟨w.heap.size + 1 + 1 + 1 + 1, 0, none⟩), .pointer (some ⟨w.heap.size + 1 + 1 + 1 + 2, 0, none⟩)]) rfl (enters_of Tryz.func154 (by kernel_rfl) rfl)
    (nodes_seq w x hbig (w.heap.size + 1 + 1 + 1 + 1) (w.heap.size + 1 + 1 + 1 + 2) W6 b2 b3 (KeepX.of_below hB) (fun i => i = w.heap.size + 1) (fun i hi => by omega))
    (fun i hi => by omega) (RowKit.Below.refl _ _) (fun _ => rfl)
    (fun pre W => W.ownsMap Tryz.prog 9 (plainElem (H := Unit) Tryz.prog 4) (w.heap.size + 1) pre.length (varD (pre.map (·.t))) ∧ Boxed W (w.heap.size + 1 + 1) 73 (.map (some (w.heap.size + 1))) ∧ RowKit.Below w.heap.size w W)
    (fun _ _ _ => False) ?hI (fun c s A B h _ => h) ⟨b1, b0, hB⟩ ?assign ?body ?done ?stop
  case hI =>
    intro s' A B hs hb
    exact ⟨own_mapB hs.1 (by omega) hb, (hb.block _ (by omega)).trans hs.2.1, hs.2.2.trans (hb.mono (by omega))⟩
  case assign =>
    intro m l' y W'
    dsimp only [TyI.v, TyI.cells]
    gi_wp2_with fail
    exact ⟨trivial, by simp⟩
  case body =>
    rintro m l' Bx pre y W7 hl hlB hwB hBW hbx ⟨r, hr⟩ ⟨h1, h2, h3⟩ hv
    have hlen : pre.length + 1 ≤ 1099511627776 := by
      have h := hv.length_le
      rw [List.length_map, List.length_append, List.length_singleton, Ty.nodes_len] at h
      omega
    rw [List.map_append] at hv
    have hns := HNm.out y.t (hv.subset (by simp))
    have e0 := cell_of_row W7 Bx 0 _ _ _ hbx
    have e2 := cell_of_row W7 Bx 2 _ _ _ hbx
    have e5 := h2.cell
    have HZ := hid (And.intro h2 h3)
    clear h2 h3 hv hbx
    dsimp only [TyI.v, TyI.cells] at e0 e2 ⊢
    by_cases hk : y.t.k = 9
    · have hkk : (y.t.k == 9) = true := by rw [hk]; rfl
      have HK := hid hk
      clear hk
      gi_wp2_with (gi_at_mapUpdate; go_loud (refine wpListIn_mapUpdate_own _ rfl _ _ _ 73 rfl 9 4 (Maps.string_keyed Tryz.underlying9) Tryz.underlying73 _ (w.heap.size + 1) pre.length _ rfl h1 (by unfold maxLen; omega) _ _ _ rfl rfl (WideMaps.keyOf_string_mk Tryz.underlying9 hns) _ [] (plainElem_bool Tryz.underlying4 true) ?_); intro w1 hown1 hgrow1)
      have hb7 : RowKit.Below w.heap.size W7 w1 := (RowKit.Below.refl _ W7).grown hgrow1 (by omega) (fun k e => by cases e; omega)
      refine ⟨⟨hgrow1.size, fun i hi hx => hgrow1.block i hi (fun e => hx (by cases e; rfl))⟩, ?_, (hgrow1.block _ (by omega) (by simp only [ne_eq, Option.some.injEq]; omega)).trans HZ.out.1, HZ.out.2.trans hb7⟩
      rw [List.map_append, List.length_append]
      have h9 := varD_var (H := Unit) (pre.map (·.t)) y.t HK.out
      simp only [List.map_cons, List.map_nil]
      rw [h9]
      exact hown1
    · have hkk : (y.t.k == 9) = false := by rw [beq_eq_false_iff_ne]; exact hk
      have HK := hid hk
      clear hk
      gi_wp2_with fail
      refine ⟨KeepX.refl _ _, ?_, HZ.out.1, HZ.out.2⟩
      rw [List.map_append, List.length_append]
      have h9 := varD_not (H := Unit) (pre.map (·.t)) y.t HK.out
      simp only [List.map_cons, List.map_nil]
      rw [h9]
      exact h1.mono (by omega)
  case done =>
    rintro D ys W9 hD hS ⟨h1, h2, h3⟩ hK
    have hs9 := h3.size
    have hlen : ys.length ≤ 1099511627776 := by
      have h := congrArg List.length hS
      rw [List.length_map, Ty.nodes_len] at h
      omega
    have hsz9 := h1.size_le
    have c0 := h2.cell
    have hbl := h1.lt
    have hseq : SeqGives Fence.wide 5 Tryz.prog 115 #[.pointer (some ⟨W9.heap.size, 0, none⟩)] encStr (fun ss => ss.Perm (strKeys (varD (H := Unit) (ys.map (·.t))))) (Maps.size (varD (H := Unit) (ys.map (·.t)))) (W9.alloc (.cells #[.map (some (w.heap.size + 1))] 73)) :=
      AnyZ.keys_gives (ρ := Tryz.keysF_ren) { Tryz.keysF with } Fence.wide _ trivial rfl (by omega) W9.heap.size (w.heap.size + 1) ys.length _ _ (by simp) (by simp) (by
        obtain ⟨es, clock, hb, Ft, hs, hD⟩ := h1
        exact ⟨es, clock, (RowKit.Below.heap_alloc _ _ _ hbl).trans hb, Ft, hs, hD⟩)
    have cK : ∀ mb W, CallsIn Fence.wide 8 Tryz.prog 66 #[.map mb] W fun e w' => e = .returned (.func (.func 115) #[] #[.pointer (some ⟨W.heap.size, 0, none⟩)]) ∧ w' = W.alloc (.cells #[.map mb] 73) := fun mb W => AnyZ.keys_in Tryz.keysF Fence.wide 8 trivial rfl mb W
    have cS := AnyZ.sorted_in Tryz.sortedF Fence.wide 8 trivial trivial trivial trivial rfl (by omega) (sortsF _) (enters_of Tryz.func27 (by kernel_rfl) rfl) 115 #[.pointer (some ⟨W9.heap.size, 0, none⟩)] trivial (enters_of Tryz.func115 (by kernel_rfl) rfl) _ _ (by unfold maxLen; omega) (by omega) _ hseq
    change CallsIn _ _ Tryz.prog 65 _ _ _ at cS
    have hfK : Fence.wide.fn 66 := trivial
    have hfS : Fence.wide.fn 65 := trivial
    have HP := hid (And.intro h1 (And.intro h3 (And.intro hK hS)))
    clear h1 h2 h3 hK hS hseq
    gi_wp2_with (first
      | (gi_at_call 66; refine (cK _ _).mono ?_; rintro e w' ⟨rfl, rfl⟩)
      | (gi_at_call 65; refine cS.mono ?_; rintro e w' ⟨v, ss, rfl, hS, hrow, hnil, hb⟩))
    have hDl : D < W9.heap.size := (Array.getElem?_eq_some_iff.1 HP.out.2.2.1).1
    have hal : RowKit.Below W9.heap.size W9 (W9.alloc (.cells #[.map (some (w.heap.size + 1))] 73)) := (RowKit.Below.refl _ W9).alloc (Nat.le_refl _) _
    have hb9 : RowKit.Below W9.heap.size W9 w' := hal.trans (hb.mono hal.size)
    have hKD : w'.heap[D]? = some (.deferred (some [])) := (hb9.block D hDl).trans HP.out.2.2.1
    have hpe := mergeSort_of_perm (hS.trans (free_perm (ys.map (·.t)) HP.out.1 Tryz.underlying9).symm)
    have hfl : (ss.mergeSort fun x y => decide (x ≤ y)) = freeL x.t := by
      unfold freeL; rw [← HP.out.2.2.2]; exact hpe
    have hln : ss.length = (freeL x.t).length := by rw [← hfl, List.length_mergeSort]
    rw [hfl, hln] at hrow
    refine ⟨by simp, .inl ⟨_, _, rfl, run_takeDeferred hKD, ?_⟩⟩
    refine ⟨_, results_tmp rfl _ _ _, v, rfl, ownsRow_putObj (ownsRow_base_a hrow (by simp; omega)) _ hKD rfl, (HP.out.2.1.trans (hb9.mono hs9)).trans (below_put (by omega) hKD)⟩
  case stop =>
    rintro D c pre W hD hv h _
    exact h.elim
end Go.Proofs.YtjedcijddlilaaaGreatDoor
