/- syntax: arguments that are lists of strings and of types; rows in own memory. | syntax: sorting by the law's own order. | syntax: sorting and thinning out lists of strings. | syntax: thinning out lists of uses. -/
import Derived.Test.YtjedcijddlilaaaGreatDoorSyOp
import Derived.SliceStrings
import Derived.Test.YtjedcijddlilaaaGreatDoorMn
import Derived.Test.YtjedcijddlilaaaGreatDoorSyL
import Derived.Test.YtjedcijddlilaaaGreatDoorShZ
import Derived.Shelf.Slices.CompactS
import Derived.Lib.SliceRun
import Derived.Lib.SlicesCompact
namespace Go.Proofs.YtjedcijddlilaaaGreatDoor
open Go.ChangeShapes Go.WideShapes Go.ChangeAt Go.RowKit

theorem bulk_strsA {H : Type} (l : List ByteArray) : Rows.uptoBulkAll (strs (H := H) l) = l.length + (l.map (·.size)).sum := by
  induction l with
  | nil => rfl
  | cons s l ih =>
    have e : strs (H := H) (s :: l) = .lit (.string s.data.toList) :: strs l := rfl
    rw [e, Rows.uptoBulkAll, ih, Rows.uptoBulk, List.map_cons, List.sum_cons, List.length_cons]
    have : s.data.toList.length = s.size := by rw [Array.length_toList]; rfl
    omega
theorem size_sum {l : List ByteArray} {s : ByteArray} (h : s ∈ l) : s.size ≤ (l.map (·.size)).sum := by
  induction l with
  | nil => cases h
  | cons x l ih =>
    rw [List.map_cons, List.sum_cons]
    rcases List.mem_cons.1 h with rfl | h
    · omega
    · have := ih h; omega
section
variable {H : Type} {enc : TypeId × Value → H} {W : World} {base : Nat} {v : Value} {d : DataW H} {p : List MemPlace}
set_option maxRecDepth 100000 in
theorem open_strsA (hval : Value.okWide Tryz.prog W .any base 44 v) (h : DataW.Trod enc Tryz.prog W 0 (fun _ => true) true 44 v d p) :
    ∃ (ns : List ByteArray) (an : Option Addr) (cn : Nat), v = .slice an ns.length cn ∧ RowS W ns an ∧ ns.length ≤ Rows.uptoBulk d ∧ ∀ s ∈ ns, s.size ≤ Rows.uptoBulk d := by
  obtain ⟨c, len, cap, rfl⟩ := okWide_slice Tryz.underlying44 hval
  obtain ⟨fuel, hf⟩ := h
  rcases open_strings Tryz.underlying44 Tryz.underlying9 cells_str hf with ⟨hcs, hx⟩ | ⟨a, len', cap', ss, hcs, _, hl, hm, hz, hx, hcell, hsz⟩
  · have hv : Value.slice c len cap = .slice none 0 0 := by
      have : [Value.slice c len cap] = [.slice none 0 0] := hcs
      injection this
    exact ⟨[], none, 0, hv, .inl rfl, Nat.zero_le _, fun s hs => by cases hs⟩
  · have hv : Value.slice c len cap = .slice (some a) len' cap' := by
      have : [Value.slice c len cap] = [.slice (some a) len' cap'] := hcs
      injection this
    injection hx with hx _
    subst hx
    rw [if_pos rfl] at hz
    have hlt : (ss.take len').length = len' := by rw [List.length_take, Nat.min_eq_left (by omega)]
    have hbk := bulk_strsA (H := H) (ss.take len')
    refine ⟨ss.take len', some a, cap', by rw [hv, hlt], ?_, ?_, fun s hs => ?_⟩
    · by_cases h0 : 0 < len'
      · have hsp : a.spot = none := by
          have h9 := hcell 0 (by omega)
          rw [Addr.add_zero'] at h9
          cases hs : a.spot with
          | none => rfl
          | some s => simp [World.cell?, hs] at h9; split at h9 <;> simp at h9
        obtain ⟨b, o, sp⟩ := a
        have hs2 : sp = none := hsp
        subst hs2
        refine .inr ⟨b, o, rfl, fun i s hs => ?_⟩
        have hi : i < len' := by have := (List.getElem?_eq_some_iff.1 hs).1; omega
        have h9 := hcell i (by omega)
        rw [Addr.add_lit] at h9
        rw [h9]
        rw [List.getElem?_take, if_pos hi] at hs
        simp only [List.getD, hs, Option.getD_some]
      · exact .inl (List.eq_nil_of_length_eq_zero (by omega))
    · rw [Rows.uptoBulk]
      omega
    · have := size_sum hs
      rw [Rows.uptoBulk]
      omega
set_option maxRecDepth 100000 in
theorem open_tysA (hval : Value.okWide Tryz.prog W .any base 22 v) (h : DataW.Trod enc Tryz.prog W 0 (fun _ => true) true 22 v d p) :
    ∃ (ts : Tr) (ta : Option Addr) (ct : Nat), v = .slice ta ts.len ct ∧ (ts = .nil ∨ ∃ b o, ta = some ⟨b, o, none⟩ ∧ Lies W ts false b o) ∧ ts.bk ≤ Rows.uptoBulk d := by
  obtain ⟨c, len, cap, rfl⟩ := okWide_slice Tryz.underlying22 hval
  obtain ⟨fuel, hf⟩ := h
  obtain ⟨T, ⟨a, c', h1, h2⟩, h3⟩ := open_typesB (fun m _ => open_tyB m) hf
  exact ⟨T, a, c', h1, h2, h3⟩
set_option maxRecDepth 100000 in
theorem open_tyO (hval : Value.okWide Tryz.prog W .any base 25 v) (h : DataW.Trod enc Tryz.prog W 0 (fun _ => true) true 25 v d p) : ∃ x : TyI W, v = x.v ∧ x.t.bk ≤ Rows.uptoBulk d := by
  obtain ⟨t, h1, h2⟩ := open_tyArg hval h
  obtain ⟨x, rfl, rfl⟩ := tyI_of h1
  exact ⟨x, rfl, h2⟩
end
end Go.Proofs.YtjedcijddlilaaaGreatDoor

namespace Go.Proofs.YtjedcijddlilaaaGreatDoor
open Go.RowKit Go.Shelf
attribute [local go_sem] Oper.semAt_some

theorem rowS_of_own {w : World} {base : Nat} {v : Value} {L : List ByteArray} (h : w.ownsRow base 9 1 v L.length (L.map Value.string)) : ∃ p c, v = .slice p L.length c ∧ RowS w L p := by
  obtain ⟨p, c, rfl⟩ := own_slice h
  refine ⟨p, c, rfl, ?_⟩
  by_cases h0 : 0 < L.length
  · obtain ⟨g, cap, hv, _⟩ := h.form h0
    cases hv
    refine .inr ⟨g, 0, rfl, fun i s hs => ?_⟩
    have h9 := h.cells (g := g) rfl i (.string s) (by rw [List.getElem?_map, hs]; rfl)
    rw [addA] at h9
    exact h9
  · exact .inl (List.eq_nil_of_length_eq_zero (by omega))
theorem usR_of_own {w : World} {base : Nat} {v : Value} {M : List Us} (h : w.ownsRow base 57 2 v M.length (M.flatMap Us.cl)) : ∃ p c, v = .slice p M.length c ∧ UsR w M p := by
  obtain ⟨p, c, rfl⟩ := own_slice h
  refine ⟨p, c, rfl, fun i u hu => ?_⟩
  obtain ⟨g, cap, hv, _⟩ := h.form (by have := (List.getElem?_eq_some_iff.1 hu).1; omega)
  cases hv
  have k0 := h.cells (g := g) rfl (i * 2) (.string u.m) (flat_at Us.cl 2 (fun _ => rfl) M i 0 u _ hu rfl)
  have k1 := h.cells (g := g) rfl (i * 2 + 1) (.string u.n) (flat_at Us.cl 2 (fun _ => rfl) M i 1 u _ hu rfl)
  rw [addA, Nat.zero_add] at k0 k1
  exact ⟨g, rfl, k0, k1⟩
theorem UsR.below {w w' : World} {M : List Us} {p : Option Addr} (h : UsR w M p) (hb : Below w.heap.size w w') : UsR w' M p := fun i u hu => by
  obtain ⟨g, h1, h2, h3⟩ := h i u hu
  exact ⟨g, h1, old_cell hb h2, old_cell hb h3⟩
theorem Frees.FL {t : Ty} {M : List ByteArray} (h : Frees t M) : M = FL t := by
  unfold Go.Proofs.YtjedcijddlilaaaGreatDoor.FL
  rw [← h.list, List.map_map]
  refine (List.map_id M).symm.trans (List.map_congr_left fun b _ => ?_)
  simp
theorem FL_cells (t : Ty) : (freeL t).map Go.Proofs.encStr = (FL t).map Value.string := by
  unfold FL
  rw [List.map_map]
  rfl
/-- append of a slice that may be nil. -/
theorem wpList_append_maybe {P : Program} {w : World} {ops : Array Oper} {rest : List Oper} {o : Oper} {a : Act} {Q : Exit → Act → World → Prop} (hgd : o.guard = none) (s x : Operand) (t : TypeId)
    (ho : o.op = .call { callee := .builtin .append, args := #[s, x], argTypes := #[t, t] })
    (base : Nat) (e : TypeId) (i : TypeInfo) (z : Value) (size bytes : Nat) (ht : P.underlying t = some (.slice e)) (hi : P.info? e = some i) (hz : i.zero = some z)
    (hsize : i.size = size) (hby : i.bytes = bytes) (hzs : z.cells.size = size) (hsz : 0 < size)
    (v : Value) (n : Nat) (xs : List Value) (hs : a.eval s = v) (hown : w.ownsRow base e size v n xs)
    (ta : Option Addr) (m c : Nat) (news : List Value) (hx : a.eval x = .slice ta m c) (hl : news.length = m * size) (hnews : ∀ j u, news[j]? = some u → ∃ ad, ta = some ad ∧ w.cell? (ad.add j) = some u) (h1 : ∀ u ∈ news, u.oneCell' = true)
    (h63 : n + m ≤ maxLen) (hbytes : (n + m) * bytes ≤ 140737488355328) (hbase : base ≤ w.heap.size)
    (h : ∀ v' w', w'.ownsRow base e size v' (n + m) (xs ++ news) → w.grownBy w' v.ownBlock → wpList P ops Q rest (a.put o.dst v') w') : wpList P ops Q (o :: rest) a w := by
  cases ta with
  | none =>
    have h0 : news = [] := by
      cases news with
      | nil => rfl
      | cons u l =>
        obtain ⟨ad, h9, _⟩ := hnews 0 u rfl
        cases h9
    have hm : m = 0 := by
      rw [h0, List.length_nil] at hl
      rcases Nat.eq_zero_or_pos m with h9 | h9
      · exact h9
      · have := Nat.mul_pos h9 hsz; omega
    subst h0 hm
    refine wpList_append_own_none' hgd s x t ho base e i size ht hi v n c xs hs hown hx (h v w ?_ ⟨rfl, rfl, rfl, Nat.le_refl _, fun _ _ _ => rfl⟩)
    rw [List.append_nil]
    exact hown
  | some ad =>
    exact wpList_append_own w hgd s x t ho base e i z size bytes ht hi hz hsize hby hzs hsz v n xs hs hown ad m c news hx hl (fun j u hu => by obtain ⟨ad', h9, h8⟩ := hnews j u hu; cases h9; exact h8) h1 h63 hbytes hbase fun v' w' h2 h3 _ => h v' w' h2 h3
/-- The references of a type, as a list in the memory. -/
def MenS (t : Ty) (v : Value) (w : World) : Prop := ∃ (M : List Us) (p : Option Addr) (c : Nat), Ments t M ∧ v = .slice p M.length c ∧ UsR w M p
theorem MenS.later {t : Ty} {v : Value} {w w' : World} (h : MenS t v w) (hb : Below w.heap.size w w') : MenS t v w' := by
  obtain ⟨M, p, c, h1, h2, h3⟩ := h
  exact ⟨M, p, c, h1, h2, h3.below hb⟩
theorem Tr.mod_bk (T : Tr) : ∀ p ∈ T.nodes, p.m.size ≤ T.bk := by
  induction T with
  | nil => intro p h; cases h
  | node fn op k m n A F nx ha hf hn =>
    intro p h
    simp only [Tr.nodes, List.mem_cons, List.mem_append] at h
    simp only [Tr.bk]
    rcases h with rfl | ((h | h) | h)
    · show m.size ≤ _; omega
    · have := ha p h; omega
    · have := hf p h; omega
    · have := hn p h; omega
theorem Ty.mod_bk (t : Ty) : ∀ p ∈ t.nodes, p.m.size ≤ t.bk := by
  intro p h
  unfold Ty.nodes at h
  unfold Ty.bk
  rcases List.mem_cons.1 h with rfl | h
  · omega
  · rcases List.mem_append.1 h with h | h
    · have := t.A.mod_bk p h; omega
    · have := t.F.mod_bk p h; omega
end Go.Proofs.YtjedcijddlilaaaGreatDoor

namespace Go.Proofs.YtjedcijddlilaaaGreatDoor
open Go.RowKit Go.Maps Go.Sort Go.Shelf Go.Lib
attribute [local go_sem] Oper.semAt_some

set_option maxRecDepth 100000 in
theorem rless_grow (a b : Us) (w : World) :
    Calls Tryz.prog 30 #[.agg #[.string a.m, .string a.n], .agg #[.string b.m, .string b.n]] w fun e w' => e = .returned (.bool (a.lt b)) ∧ ∃ os, w' = grow w os := by
  obtain ⟨am, an⟩ := a
  obtain ⟨bm, bn⟩ := b
  unfold Us.lt
  dsimp only
  have HB := hid (show ∃ os, ((w.alloc (.cells #[.string am, .string an] 57)).alloc (.cells #[.string bm, .string bn] 57)) = grow w os from ⟨#[.cells #[.string am, .string an] 57, .cells #[.string bm, .string bn] 57], by simp only [alloc_eq_grow, grow_grow]; rfl⟩)
  cases h1 : Op.bytesLess am.toList bm.toList with
  | true =>
    rw [if_pos rfl]
    go_enter Tryz.func30, Tryz.ntmps30
    go_wp2_with fail
    go_ret
    exact ⟨rfl, HB.out⟩
  | false =>
    rw [if_neg (by decide)]
    cases h2 : am.toList == bm.toList with
    | true =>
      rw [if_pos rfl]
      go_enter Tryz.func30, Tryz.ntmps30
      go_wp2_with fail
      go_ret
      exact ⟨rfl, HB.out⟩
    | false =>
      rw [if_neg (by decide)]
      go_enter Tryz.func30, Tryz.ntmps30
      go_wp2_with fail
      go_ret
      exact ⟨rfl, HB.out⟩
def cmpL (a b : Us) : Int := if a.lt b = true then -1 else 1
theorem cmpL_lt (a b : Us) : ltOf cmpL a b = a.lt b := by
  unfold ltOf cmpL
  cases a.lt b <;> rfl
theorem ltL : ltOf cmpL = ltOf cmpU := by
  funext a b
  rw [cmpL_lt, cmpU_lt]
set_option maxRecDepth 100000 in
theorem cmpL_any (a b : Us) (w : World) : Calls Tryz.prog 29 #[.agg #[.string a.m, .string a.n], .agg #[.string b.m, .string b.n]] w fun e w' => e = .returned (.int .i64 (cmpL a b)) ∧ ∃ q os', w' = grow (w.drewN q) os' := by
  unfold cmpL
  obtain ⟨W, hW⟩ : ∃ W, (w.alloc (.cells #[.string a.m, .string a.n] 57)).alloc (.cells #[.string b.m, .string b.n] 57) = W := ⟨_, rfl⟩
  have ha : W.heap[w.heap.size]? = some (.cells #[.string a.m, .string a.n] 57 (0, 0)) := by
    rw [← hW]; exact (Below.heap_alloc _ _ _ (by simp)).trans (World.alloc_heap_new w _)
  have hb : W.heap[w.heap.size + 1]? = some (.cells #[.string b.m, .string b.n] 57 (0, 0)) := by
    have h := World.alloc_heap_new (w.alloc (.cells #[.string a.m, .string a.n] 57)) (.cells #[.string b.m, .string b.n] 57)
    rw [hW, World.size_alloc] at h; exact h
  have hs : W.heap.size = w.heap.size + 2 := by rw [← hW]; simp
  have a0 := cell_of_row W _ 0 _ _ _ ha
  have a1 := cell_of_row W _ 1 _ _ _ ha
  have b0 := cell_of_row W _ 0 _ _ _ hb
  have b1 := cell_of_row W _ 1 _ _ _ hb
  have HC := hid (rless_grow a b W)
  have HW := hid (show ∃ os, W = grow w os from ⟨#[.cells #[.string a.m, .string a.n] 57, .cells #[.string b.m, .string b.n] 57], by rw [← hW]; simp only [alloc_eq_grow, grow_grow]; rfl⟩)
  generalize a.lt b = r at HC ⊢
  clear ha hb hs
  have fin : ∀ os, ∃ q os', grow W os = grow (w.drewN q) os' := fun os => by
    obtain ⟨o1, h1⟩ := HW.out
    exact ⟨0, o1 ++ os, by rw [h1, grow_grow]; rfl⟩
  have HFN := hid fin
  clear fin
  cases r with
  | true =>
    go_enter Tryz.func29, Tryz.ntmps29
    go_wp2_with fail
    refine HC.out.mono ?_
    rintro e w1 ⟨rfl, os, hw1⟩
    have HO := hid hw1
    clear hw1
    go_wp2_with fail
    go_ret
    exact ⟨rfl, by rw [HO.out]; exact HFN.out os⟩
  | false =>
    go_enter Tryz.func29, Tryz.ntmps29
    go_wp2_with fail
    refine HC.out.mono ?_
    rintro e w1 ⟨rfl, os, hw1⟩
    have HO := hid hw1
    clear hw1
    go_wp2_with fail
    go_ret
    exact ⟨rfl, by rw [HO.out]; exact HFN.out os⟩
set_option maxHeartbeats 1000000 in
theorem sortL_any (us : List Us) (v : Value) (base : Nat) (W : World) (hown : W.ownsRow base 57 2 v us.length (us.flatMap Us.cl)) (hl : us.length ≤ 1099511627776) :
    Calls Tryz.prog 28 #[v, .func (.func 29) #[] #[]] W fun e w' => e = .returned (.tuple #[]) ∧ w'.ownsRow base 57 2 v (sortedU us).length ((sortedU us).flatMap Us.cl) ∧ W.grownBy w' v.ownBlock := by
  have hln : (sortedU us).length = us.length := List.length_mergeSort _
  rcases hown.2 with ⟨rfl, h0⟩ | ⟨g, cap, cur, rfl, hbase, hb, h1, h2, h3, h4⟩
  · have hus : us = [] := List.eq_nil_of_length_eq_zero h0
    subst hus
    have hcon := AnyF.slices_SortFunc_none { Tryz.sfU with } none 0 (.func (.func 29) #[] #[]) W
    change Calls _ 28 _ _ _ at hcon
    have hs0 : sortedU [] = [] := List.mergeSort_nil
    rw [hs0]
    exact hcon.mono fun e w' h => ⟨h.1, by rw [h.2]; exact hown, by rw [h.2]; exact World.grownBy.refl _ _⟩
  · have hF : (flatK Us.cl 2 us.toArray).size = us.length * 2 := by simp
    have hH : HoldsK Us.cl 2 W g 0 us.toArray := holds_id hb (by rw [hF, flatU]; exact h4)
    have hcmp : CmpLays Tryz.prog 29 #[] Us.cl 2 cmpL g 0 us.toArray.size W := fun _ _ _ _ x y => cmpL_any x y _
    have hcon := AnyQ.slices_SortFunc_total Tryz.sfU 2 Tryz.isAgg57 Tryz.sizeOf57 Us.cl (fun _ => rfl) (fun x v hv => by simp [Us.cl] at hv; rcases hv with rfl | rfl <;> rfl) cmpL (by rw [ltL]; exact swoU) 29 #[] g 0 cap us.toArray W
      (enters_of Tryz.func29 (by kernel_rfl) rfl) hcmp hH (Array.getElem?_eq_some_iff.1 hb).1 (by simp; omega) (by rw [ltL]; exact totU)
    change Calls _ 28 _ _ _ at hcon
    refine hcon.mono ?_
    rintro e w' ⟨rfl, n, os, hw⟩
    rw [ltL] at hw
    subst hw
    have hFs : (flatK Us.cl 2 (sortedU us).toArray).size = us.length * 2 := by simp [hln]
    have hsz : (putCells id 0 (flatK Us.cl 2 (sortedU us).toArray) cur).size = cap * 2 := by rw [← h3]; simp [putCells]
    have htk : (putCells id 0 (flatK Us.cl 2 (sortedU us).toArray) cur).toList.take (us.length * 2) = (sortedU us).flatMap Us.cl := by
      have h := take_putI cur (flatK Us.cl 2 (sortedU us).toArray) (by rw [hFs, h3]; omega)
      rw [hFs, flatU] at h
      exact h
    rw [hln]
    refine ⟨rfl, ⟨by rw [len_flatU, hln], .inr ⟨g, cap, _, rfl, hbase, heap_sortedI (flatK Us.cl 2 (sortedU us).toArray) hb, h1, h2, hsz, htk⟩⟩, ?_⟩
    have hg9 := grownBy_sortedI (w := W) (g := g) (n := n) (os := os) (flatK Us.cl 2 (sortedU us).toArray)
    exact hg9
end Go.Proofs.YtjedcijddlilaaaGreatDoor

namespace Go.Proofs
def Tryz.compF_ren : Go.Shelf.Ren := ⟨fun | 194 => 31 | n => n, fun | 0 => 0 | 3 => 3 | 4 => 4 | 9 => 9 | 31 => 44 | n => n, fun | n => n⟩
theorem Tryz.compF : Go.Proofs.Lays.n194 Tryz.prog Tryz.compF_ren := {
  mixed := by kernel_rfl
  f194 := Tryz.func31
  t0 := Tryz.underlying0
  a0 := Tryz.isAgg0
  z0 := Tryz.sizeOf0
  v0 := Tryz.zeroValue0
  t3 := Tryz.underlying3
  a3 := Tryz.isAgg3
  z3 := Tryz.sizeOf3
  v3 := Tryz.zeroValue3
  t4 := Tryz.underlying4
  a4 := Tryz.isAgg4
  z4 := Tryz.sizeOf4
  v4 := Tryz.zeroValue4
  t9 := Tryz.underlying9
  a9 := Tryz.isAgg9
  z9 := Tryz.sizeOf9
  v9 := Tryz.zeroValue9
  t31 := Tryz.underlying44
  a31 := Tryz.isAgg44
  z31 := Tryz.sizeOf44
  v31 := Tryz.zeroValue44 }
end Go.Proofs
namespace Go.Proofs.YtjedcijddlilaaaGreatDoor
open Go.RowKit Go.Maps Go.Sort Go.Shelf Go.Lib
attribute [local go_sem] Oper.semAt_some

theorem holds_str {w : World} {g : Nat} {cur : Array Value} {e : TypeId} {zs : List (List UInt8)} (hb : w.heap[g]? = some (.cells cur e (0, 0))) (ht : cur.toList.take zs.length = zs.map encStr) : Holds encStr w g 0 zs.toArray := by
  intro j hj
  have hj2 : j < zs.length := by simpa using hj
  refine ⟨?_, by simp [World.frozen?, hb]⟩
  have h1 : (cur.toList.take zs.length)[j]? = (zs.map encStr)[j]? := by rw [ht]
  rw [List.getElem?_take_of_lt hj2, List.getElem?_map, List.getElem?_eq_getElem hj2] at h1
  simp only [World.cell?, hb, Nat.zero_add]
  simp only [Option.isSome_none, Bool.false_eq_true, if_false]
  rw [← Array.getElem?_toList, h1]
  simp [hj2]
theorem heap_sortedS {w : World} {g n : Nat} {os : Array Obj} {cur : Array Value} {e : TypeId} {fr : Nat × Nat} (d : Array (List UInt8)) (hb : w.heap[g]? = some (.cells cur e fr)) :
    (grow (putRow encStr (Sort.ahead w n) g 0 d) os).heap[g]? = some (.cells (putCells encStr 0 d cur) e fr) := by
  have hg : g < w.heap.size := (Array.getElem?_eq_some_iff.1 hb).1
  rw [heap_grow_old _ _ (by simpa using hg)]
  simp [putRow, mapBlock, Sort.ahead, Array.getElem?_modify, hb, onCells]
theorem grownBy_sortedS {w : World} {g n : Nat} {os : Array Obj} (d : Array (List UInt8)) : w.grownBy (grow (putRow encStr (Sort.ahead w n) g 0 d) os) (some g) := by
  refine ⟨rfl, rfl, rfl, by simp, fun k hk hne => ?_⟩
  rw [heap_grow_old _ _ (by simpa using hk)]
  have : g ≠ k := fun e => hne (by rw [e])
  simp [putRow, mapBlock, Sort.ahead, Array.getElem?_modify, this]
theorem take_putS (cur : Array Value) (ts : List (List UInt8)) (h : ts.length ≤ cur.size) : (putCells encStr 0 ts.toArray cur).toList.take ts.length = ts.map encStr := by
  apply List.ext_getElem?
  intro j
  by_cases hj : j < ts.length
  · rw [List.getElem?_take_of_lt hj, Array.getElem?_toList]
    simp [putCells, hj, show j < cur.size by omega]
  · rw [List.getElem?_take_eq_none (by omega), List.getElem?_eq_none (by simp; omega)]
set_option maxHeartbeats 1000000 in
theorem sortS_any (zs : List (List UInt8)) (v : Value) (base : Nat) (W : World) (hown : W.ownsRow base 9 1 v zs.length (zs.map encStr)) (hl : zs.length ≤ 1099511627776) :
    Calls Tryz.prog 27 #[v] W fun e w' => e = .returned (.tuple #[]) ∧ w'.ownsRow base 9 1 v zs.length ((zs.mergeSort fun x y => decide (x ≤ y)).map encStr) ∧ W.grownBy w' v.ownBlock := by
  obtain ⟨ts, hts⟩ : ∃ ts, (zs.mergeSort fun x y => decide (x ≤ y)) = ts := ⟨_, rfl⟩
  have hln : ts.length = zs.length := by rw [← hts]; exact List.length_mergeSort _
  rcases hown.2 with ⟨rfl, h0⟩ | ⟨g, cap, cur, rfl, hbase, hb, h1, h2, h3, h4⟩
  · have hz : zs = [] := List.eq_nil_of_length_eq_zero h0
    subst hz
    have hcon := AnyM.slices_Sort_string_none Tryz.sortF none 0 W
    change Calls _ 27 _ _ _ at hcon
    exact hcon.mono fun e w' h => ⟨h.1, by rw [h.2]; simpa using hown, by rw [h.2]; exact World.grownBy.refl _ _⟩
  · have hcon := AnyM.slices_Sort_string Tryz.sortF g 0 cap zs W (holds_str hb (by simpa using h4)) (Array.getElem?_eq_some_iff.1 hb).1 (by omega)
    change Calls _ 27 _ _ _ at hcon
    rw [hts] at hcon ⊢
    refine hcon.mono ?_
    rintro e w' ⟨rfl, n, os, rfl⟩
    have hsz : (putCells encStr 0 ts.toArray cur).size = cap * 1 := by rw [← h3]; simp [putCells]
    have htk := take_putS cur ts (by omega)
    rw [hln] at htk
    refine ⟨rfl, ⟨by simp [hln], .inr ⟨g, cap, _, rfl, hbase, heap_sortedS ts.toArray hb, h1, h2, hsz, by simpa using htk⟩⟩, ?_⟩
    have hg9 := grownBy_sortedS (w := W) (g := g) (n := n) (os := os) ts.toArray
    exact hg9
set_option maxHeartbeats 1000000 in
theorem compactS_any (zs : List (List UInt8)) (v : Value) (base : Nat) (W : World) (hown : W.ownsRow base 9 1 v zs.length (zs.map encStr)) (hl : zs.length ≤ 1099511627776) :
    Calls Tryz.prog 31 #[v] W fun e w' => ∃ p c, e = .returned (.slice p (Lib.compact zs).length c) ∧ (zs = [] ∨ ∃ g, p = some ⟨g, 0, none⟩ ∧ base ≤ g ∧ ∀ i s, (Lib.compact zs)[i]? = some s → w'.cell? ⟨g, i, none⟩ = some (encStr s)) ∧ W.grownBy w' v.ownBlock := by
  rcases hown.2 with ⟨rfl, h0⟩ | ⟨g, cap, cur, rfl, hbase, hb, h1, h2, h3, h4⟩
  · have hz : zs = [] := List.eq_nil_of_length_eq_zero h0
    subst hz
    have hcon := Any.slices_Compact_string_empty Tryz.compF none 0 W
    change Calls _ 31 _ _ _ at hcon
    exact hcon.mono fun e w' h => ⟨none, 0, h.1, .inl rfl, by rw [h.2]; exact World.grownBy.refl _ _⟩
  · have hcon := Any.slices_Compact_string Tryz.compF g 0 cap zs W (holds_str hb (by simpa using h4)) (by omega) (by omega)
    change Calls _ 31 _ _ _ at hcon
    refine hcon.mono ?_
    rintro e w' ⟨rfl, n, rfl⟩
    have hgr : putRow encStr (Sort.ahead W n) g 0 (Lib.compact zs ++ List.replicate (zs.length - (Lib.compact zs).length) []).toArray = grow (putRow encStr (Sort.ahead W n) g 0 (Lib.compact zs ++ List.replicate (zs.length - (Lib.compact zs).length) []).toArray) #[] := by simp [grow]; rfl
    have hcl : (Lib.compact zs).length ≤ zs.length := by
      unfold Lib.compact compactUpTo
      rw [List.length_map]
      exact Nat.le_trans (List.length_filter_le _ _) (by simp)
    rw [hgr]
    have hg9 := grownBy_sortedS (w := W) (g := g) (n := n) (os := #[]) (Lib.compact zs ++ List.replicate (zs.length - (Lib.compact zs).length) []).toArray
    have hh9 := heap_sortedS (w := W) (g := g) (n := n) (os := #[]) (Lib.compact zs ++ List.replicate (zs.length - (Lib.compact zs).length) []).toArray hb
    refine ⟨_, _, rfl, .inr ⟨g, rfl, hbase, fun i s hs => ?_⟩, ?_⟩
    · obtain ⟨hi, rfl⟩ := List.getElem?_eq_some_iff.1 hs
      have hi2 : i < cur.size := by omega
      simp only [World.cell?, hh9]
      simp [putCells, hi2, hcl]
      rw [if_pos (by omega), List.getElem?_append_left hi, List.getElem?_eq_getElem hi]; rfl
    · exact hg9
end Go.Proofs.YtjedcijddlilaaaGreatDoor

namespace Go.Proofs.YtjedcijddlilaaaGreatDoor
open Go.RowKit Go.Maps Go.Sort Go.Shelf Go.Lib
attribute [local go_sem] Oper.semAt_some

instance : DecidableEq Us := fun a b => if h : a.m = b.m ∧ a.n = b.n then .isTrue (by cases a; cases b; simp_all) else .isFalse (fun e => h (by rw [e]; exact ⟨rfl, rfl⟩))
theorem set_flatU (d : Array Us) (i : Nat) (x : Us) (hi : i < d.size) : setMany (flatK Us.cl 2 d) (i * 2) (Us.cl x) = flatK Us.cl 2 (d.setIfInBounds i x) := by
  refine ext_get! (by simp) fun t ht => ?_
  have ht' : t < d.size * 2 := by simpa using ht
  rw [get_setMany _ _ _ t (by simpa using ht'), get_flatK Us.cl 2 d t ht', get_flatK Us.cl 2 (d.setIfInBounds i x) t (by simpa using ht')]
  have hl : (Us.cl x).length = 2 := rfl
  rw [hl]
  by_cases hc : i * 2 ≤ t ∧ t < i * 2 + 2
  · have e := (blk_iff 2 i t (by omega)).1 hc
    rw [if_pos hc, e, getElem!_set_same d i x hi]
    congr 1
    omega
  · have e : t / 2 ≠ i := fun e => hc ((blk_iff 2 i t (by omega)).2 e)
    rw [if_neg hc, getElem!_set_other d i (t / 2) x e]
theorem holds_store {w : World} {g : Nat} {d : Array Us} (h : HoldsK Us.cl 2 w g 0 d) {i : Nat} (hi : i < d.size) (x : Us) : HoldsK Us.cl 2 (w.setCells g (i * 2) (Us.cl x)) g 0 (d.setIfInBounds i x) := by
  have e := setCells_putRow w g 0 (Us.cl x) (i * 2) (flatK Us.cl 2 d) (by simp [Us.cl]; omega)
  rw [show putRow id w g 0 (flatK Us.cl 2 d) = w from putRowK_self Us.cl 2 w g 0 d h, Nat.zero_add] at e
  rw [e, set_flatU d i x hi]
  exact holdsK_putRowK Us.cl 2 w g 0 d _ h (by simp)
theorem gr_setCell {a w : World} {g : Nat} (h : a.grownBy w (some g)) (o : Nat) (v : Value) : a.grownBy (w.setCell ⟨g, o, none⟩ v) (some g) := by
  refine ⟨h.os, h.tape, h.output, ?_, fun k hk hne => ?_⟩
  · have := h.size; simpa using this
  · rw [Below.heap_setCell w ⟨g, o, none⟩ v k (fun e => hne (by rw [e]))]
    exact h.block k hk hne
theorem gr_setCells {a : World} (g : Nat) : ∀ (vs : List Value) (o : Nat) (w : World), a.grownBy w (some g) → a.grownBy (w.setCells g o vs) (some g)
  | [], _, _, h => h
  | v :: r, o, _, h => gr_setCells g r (o + 1) _ (gr_setCell h o v)
theorem gr_drawn {a w : World} {r : Option Nat} (h : a.grownBy w r) (n : Nat) : a.grownBy (w.drewN n) r := ⟨h.os, h.tape, h.output, h.size, h.block⟩

theorem run_clear_use (w : World) (b o n c : Nat) (hn : 0 < n)
    (hc : ∀ j, j < n * 2 → (w.cell? ⟨b, o + j, none⟩).isSome = true) (hf : ∀ j, j < n * 2 → w.frozen? ⟨b, o + j, none⟩ = false) :
    ∃ vs : List Value, vs.length = n * 2 ∧ ∀ ty, (Builtin.clear_ #[51] ty #[.slice (some ⟨b, o, none⟩) n c]).run Tryz.prog w = .ok (.tuple #[]) (w.setCells b o vs) := by
  have hv : ∀ w, (zeroValue 57).run Tryz.prog w = .ok (.agg #[.string ⟨#[]⟩, .string ⟨#[]⟩]) w := Tryz.zeroValue57
  refine ⟨(Builtin.zeroCells #[.string ⟨#[]⟩, .string ⟨#[]⟩] n).toList, by simp [Builtin.zeroCells], fun ty => ?_⟩
  have hl : (Builtin.zeroCells #[.string ⟨#[]⟩, .string ⟨#[]⟩] n).toList.length = n * 2 := by simp [Builtin.zeroCells]
  have hst := run_storeCells_cells (P := Tryz.prog) b o (Builtin.zeroCells #[.string ⟨#[]⟩, .string ⟨#[]⟩] n).toList 0 w (by rw [hl]; simpa using hc) (by rw [hl]; simpa using hf) (by
    intro v hv'
    simp [Builtin.zeroCells] at hv'
    obtain ⟨a, _, rfl⟩ := hv'
    rcases (by omega : a % 2 = 0 ∨ a % 2 = 1) with h | h <;> rw [h] <;> rfl)
  simp only [Nat.add_zero] at hst
  obtain ⟨m, rfl⟩ : ∃ m, n = m + 1 := ⟨n - 1, by omega⟩
  simp [Builtin.clear_, run_underlying Tryz.underlying51, hv, Value.cells, hst]
set_option maxRecDepth 100000 in
set_option maxHeartbeats 4000000 in
theorem compactU_arr (d : Array Us) (g cap : Nat) (W : World) (hH : HoldsK Us.cl 2 W g 0 d) (hsz : d.size ≤ 1099511627776) (hcap : d.size ≤ cap) :
    Calls Tryz.prog 32 #[.slice (some ⟨g, 0, none⟩) d.size cap] W fun e w' => e = .returned (.slice (some ⟨g, 0, none⟩) (compactUpTo d d.size).length cap) ∧ (∀ i u, (compactUpTo d d.size)[i]? = some u → w'.cell? ⟨g, i * 2, none⟩ = some (.string u.m) ∧ w'.cell? ⟨g, i * 2 + 1, none⟩ = some (.string u.n)) ∧ W.grownBy w' (some g) := by
  have cellsU : ∀ {w : World} {dk : Array Us}, HoldsK Us.cl 2 w g 0 dk → ∀ i, i < dk.size → (w.cell? ⟨g, i * 2, none⟩ = some (.string dk[i]!.m) ∧ w.cell? ⟨g, i * 2 + 1, none⟩ = some (.string dk[i]!.n)) ∧ w.frozen? ⟨g, i * 2, none⟩ = false ∧ w.frozen? ⟨g, i * 2 + 1, none⟩ = false := fun {w dk} h i hi => by
    have h0 := h.cell (i := i) (c := 0) hi (by omega)
    have h1 := h.cell (i := i) (c := 1) hi (by omega)
    simp only [Nat.zero_add, Nat.add_zero] at h0 h1
    exact ⟨⟨h0.1, h1.1⟩, h0.2, h1.2⟩
  have HCU := hid @cellsU
  have HH := hid hH
  have fin : Kpt (∀ w', W.grownBy w' (some g) → (∀ j, j < d.size → keeps d j = true) → HoldsK Us.cl 2 w' g 0 d → (compactUpTo d d.size).length = d.size ∧ (∀ i u, (compactUpTo d d.size)[i]? = some u → w'.cell? ⟨g, i * 2, none⟩ = some (.string u.m) ∧ w'.cell? ⟨g, i * 2 + 1, none⟩ = some (.string u.n)) ∧ W.grownBy w' (some g)) := hid (fun w' hb hall h => by
    have e : compactUpTo d d.size = d.toList := by rw [compactUpTo_all d _ hall, range_map_get]
    rw [e]
    refine ⟨by simp, fun i u hu => ?_, hb⟩
    obtain ⟨hi, rfl⟩ := List.getElem?_eq_some_iff.1 hu
    have hi2 : i < d.size := by simpa using hi
    have h2 := (cellsU h i hi2).1
    rw [getElem!_pos d i hi2] at h2
    simpa using h2)
  clear hH cellsU
  by_cases h2 : d.size < 2
  · go_enter Tryz.func32, Tryz.ntmps32
    go_wp2_with fail
    go_ret
    have h := fin.out W (World.grownBy.refl _ _) (fun j hj => keeps_lt_one d j (by omega)) HH.out
    exact ⟨by rw [h.1]; rfl, h.2⟩
  · go_enter Tryz.func32, Tryz.ntmps32
    go_wp2_with fail
    go_loopw [3] (fun x wr => ∃ k : Nat, x = .int .i64 (k : Int) ∧ 1 ≤ k ∧ k ≤ d.size ∧ Kpt (∀ j, j < k → keeps d j = true) ∧ Kpt (HoldsK Us.cl 2 wr g 0 d) ∧ Kpt (W.grownBy wr (some g))) (fun x _ => d.size - (intOf x).toNat)
    case atStart => exact ⟨1, rfl, Nat.le_refl _, by omega, hid (keeps_lt_one d), HH, hid (World.grownBy.refl _ _)⟩
    case round =>
      obtain ⟨k, rfl, hk1, hk, HA, HHr, HB⟩ := hrel
      by_cases hlt : k < d.size
      · obtain ⟨⟨m1, n1⟩, _⟩ := HCU.out HHr.out k hlt
        obtain ⟨⟨m0, n0⟩, _⟩ := HCU.out HHr.out (k - 1) (by omega)
        have HX := hid (show keeps d k = decide (k = 0 ∨ d[k]! ≠ d[k - 1]!) from rfl)
        obtain ⟨x, hx⟩ : ∃ x, d[k]! = x := ⟨_, rfl⟩
        obtain ⟨y, hy⟩ : ∃ y, d[k - 1]! = y := ⟨_, rfl⟩
        rw [hx] at m1 n1
        rw [hy] at m0 n0
        have HXY := hid (And.intro hx hy)
        clear hx hy
        have p1 := (show ∀ n, (wr.drewN n).cell? ⟨g, k * 2, none⟩ = _ from fun n => m1)
        have p2 := (show ∀ n, (wr.drewN n).cell? ⟨g, k * 2 + 1, none⟩ = _ from fun n => n1)
        have p3 := (show ∀ n, (wr.drewN n).cell? ⟨g, (k - 1) * 2, none⟩ = _ from fun n => m0)
        have p4 := (show ∀ n, (wr.drewN n).cell? ⟨g, (k - 1) * 2 + 1, none⟩ = _ from fun n => n0)
        by_cases hdup : x = y
        · subst hdup
          go_wp2_with fail
          go_quiet (fail)
          go_wp2_with fail
          obtain ⟨wx, hwx⟩ : ∃ wx, wx = wr := ⟨_, rfl⟩
          subst hwx
          have HHx : ∀ n, HoldsK Us.cl 2 (wx.drewN n) g 0 d := fun n => holdsK_ahead Us.cl 2 wx n g 0 d HHr.out
          have HBx : ∀ n, W.grownBy (wx.drewN n) (some g) := fun n => gr_drawn HB.out n
          have HHX := hid HHx
          have HBX := hid HBx
          have HC0 := hid (CompInv.start HA.out (keeps_neg (by omega) (by rw [HXY.out.1, HXY.out.2])))
          clear p1 p2 p3 p4 m0 m1 n0 n1 HHx HBx HA HHr HB HX HXY
          go_loopw [3, 5] (fun x y wr => ∃ (kk k2 : Nat) (dk : Array Us), x = .int .i64 (kk : Int) ∧ y = .int .i64 (k2 : Int) ∧ 1 ≤ k2 ∧ k + k2 ≤ d.size ∧ kk < k + k2 ∧ Kpt (HoldsK Us.cl 2 wr g 0 dk) ∧ Kpt (CompInv d (k + k2) kk dk) ∧ Kpt (W.grownBy wr (some g))) (fun _ y _ => d.size - (intOf y).toNat)
          case atStart => exact ⟨k, 1, d, rfl, rfl, Nat.le_refl _, by omega, by omega, hid (HHX.out _), HC0, hid (HBX.out _)⟩
          case round =>
            obtain ⟨kk, k2, dk, rfl, rfl, h12, hle, hkl, HHr, HI, HB⟩ := hrel
            have hds := HI.out.size
            by_cases hlt2 : k + k2 < d.size
            · obtain ⟨⟨m1, n1⟩, _⟩ := HCU.out HHr.out (k + k2) (by omega)
              obtain ⟨⟨m0, n0⟩, _⟩ := HCU.out HHr.out (k + k2 - 1) (by omega)
              obtain ⟨⟨mk, nk⟩, fk, gk⟩ := HCU.out HHr.out kk (by omega)
              rw [HI.out.high (k + k2) (by omega), show (k + k2) * 2 = k * 2 + k2 * 2 by omega] at m1 n1
              rw [HI.out.high (k + k2 - 1) (by omega), show (k + k2 - 1) * 2 = k * 2 + (k2 - 1) * 2 by omega] at m0 n0
              obtain ⟨u, hu⟩ : ∃ u, d[k + k2]! = u := ⟨_, rfl⟩
              obtain ⟨v, hv⟩ : ∃ v, d[k + k2 - 1]! = v := ⟨_, rfl⟩
              rw [hu] at m1 n1
              rw [hv] at m0 n0
              generalize dk[kk]! = old at mk nk
              have HUV := hid (And.intro hu hv)
              clear hu hv
              have hk2b : k2 ≤ 1099511627776 := by omega
              have hkkb : kk ≤ 1099511627776 := by omega
              have p1 := (show ∀ n, (wr.drewN n).cell? ⟨g, k * 2 + k2 * 2, none⟩ = _ from fun n => m1)
              have p2 := (show ∀ n, (wr.drewN n).cell? ⟨g, k * 2 + k2 * 2 + 1, none⟩ = _ from fun n => n1)
              have p3 := (show ∀ n, (wr.drewN n).cell? ⟨g, k * 2 + (k2 - 1) * 2, none⟩ = _ from fun n => m0)
              have p4 := (show ∀ n, (wr.drewN n).cell? ⟨g, k * 2 + (k2 - 1) * 2 + 1, none⟩ = _ from fun n => n0)
              have p5 := (show ∀ n, (wr.drewN n).cell? ⟨g, kk * 2, none⟩ = _ from fun n => mk)
              have p6 := (show ∀ n, (wr.drewN n).cell? ⟨g, kk * 2 + 1, none⟩ = _ from fun n => nk)
              have p7 := (show ∀ n, (wr.drewN n).frozen? ⟨g, kk * 2, none⟩ = false from fun n => fk)
              have p8 := (show ∀ n, (wr.drewN n).frozen? ⟨g, kk * 2 + 1, none⟩ = false from fun n => gk)
              by_cases huv : u = v
              · subst huv
                go_wp2_with fail
                go_quiet (fail)
                go_wp2_with fail
                go_roundw
                case rel => exact ⟨kk, k2 + 1, dk, rfl, by go_num, by omega, by omega, by omega, hid (holdsK_ahead Us.cl 2 wr _ g 0 dk HHr.out), hid (HI.out.skip (keeps_neg (by omega) (by rw [HUV.out.1, HUV.out.2]))), hid (gr_drawn HB.out _)⟩
                case measure => simp [intOf]; omega
              · have HR := hid (HI.out.keep hlt2 (keeps_pos (by rw [HUV.out.1, HUV.out.2]; exact huv)))
                have hc : u.m.toList ≠ v.m.toList ∨ (u.m.toList = v.m.toList ∧ u.n.toList ≠ v.n.toList) := by
                  by_cases h1 : u.m.toList = v.m.toList
                  · refine .inr ⟨h1, fun h2 => huv ?_⟩
                    have e1 : u.m = v.m := Classical.byContradiction fun h => by have := toList_ne h; rw [h1] at this; simp at this
                    have e2 : u.n = v.n := Classical.byContradiction fun h => by have := toList_ne h; rw [h2] at this; simp at this
                    cases u; cases v; simp_all
                  · exact .inl h1
                clear huv
                rcases hc with hc | ⟨hc, hc2⟩
                all_goals
                  go_wp2_with fail
                  go_quiet (fail)
                  go_wp2_with fail
                  go_roundw
                  case rel => exact ⟨kk + 1, k2 + 1, dk.setIfInBounds kk u, by go_num, by go_num, by omega, by omega, by omega, hid (holds_store (holdsK_ahead Us.cl 2 wr nq g 0 dk HHr.out) (by omega) u), hid (by have h := HR.out; rw [HUV.out.1] at h; exact h), hid (gr_setCells g (Us.cl u) (kk * 2) _ (gr_drawn HB.out _))⟩
                  case measure => simp [intOf]; omega
            · have hend : k + k2 = d.size := by omega
              have hI := HI.out
              rw [hend] at hI
              have hll := hI.len
              obtain ⟨vs, hvl, hcl⟩ := run_clear_use wr g (kk * 2) (d.size - kk) (cap - kk) (by omega)
                (fun j hj => by
                  have h9 := HCU.out HHr.out (kk + j / 2) (by omega)
                  rcases (by omega : j % 2 = 0 ∨ j % 2 = 1) with h | h
                  · rw [show kk * 2 + j = (kk + j / 2) * 2 by omega, h9.1.1]; rfl
                  · rw [show kk * 2 + j = (kk + j / 2) * 2 + 1 by omega, h9.1.2]; rfl)
                (fun j hj => by
                  have h9 := HCU.out HHr.out (kk + j / 2) (by omega)
                  rcases (by omega : j % 2 = 0 ∨ j % 2 = 1) with h | h
                  · rw [show kk * 2 + j = (kk + j / 2) * 2 by omega, h9.2.1]
                  · rw [show kk * 2 + j = (kk + j / 2) * 2 + 1 by omega, h9.2.2])
              have HFI := hid (show (∀ i u, (compactUpTo d d.size)[i]? = some u → (wr.setCells g (kk * 2) vs).cell? ⟨g, i * 2, none⟩ = some (.string u.m) ∧ (wr.setCells g (kk * 2) vs).cell? ⟨g, i * 2 + 1, none⟩ = some (.string u.n)) ∧ W.grownBy (wr.setCells g (kk * 2) vs) (some g) by
                refine ⟨fun i u hu => ?_, gr_setCells g vs (kk * 2) _ HB.out⟩
                have hi : i < kk := by rw [← hll]; exact (List.getElem?_eq_some_iff.1 hu).1
                have h8 := hI.low i hi
                rw [hu] at h8
                injection h8 with h8
                have h9 := HCU.out HHr.out i (by omega)
                rw [← h8] at h9
                rw [World.cell?_setCells_out g vs (kk * 2) wr _ (fun _ _ => .inl (by show i * 2 < kk * 2; omega)), World.cell?_setCells_out g vs (kk * 2) wr _ (fun _ _ => .inl (by show i * 2 + 1 < kk * 2; omega))]
                exact h9.1)
              have HL := hid hll
              clear hI HI HCU hll HHr hvl
              have hkc : kk ≤ cap := by omega
              generalize wr.setCells g (kk * 2) vs = wz at hcl HFI
              go_wp2_with fail
              go_ret
              exact ⟨by rw [HL.out]; rfl, HFI.out⟩
        · have HR := hid (keeps_pos (d := d) (m := k) (by rw [HXY.out.1, HXY.out.2]; exact hdup))
          have hc : x.m.toList ≠ y.m.toList ∨ (x.m.toList = y.m.toList ∧ x.n.toList ≠ y.n.toList) := by
            by_cases h1 : x.m.toList = y.m.toList
            · refine .inr ⟨h1, fun h2 => hdup ?_⟩
              have e1 : x.m = y.m := Classical.byContradiction fun h => by have := toList_ne h; rw [h1] at this; simp at this
              have e2 : x.n = y.n := Classical.byContradiction fun h => by have := toList_ne h; rw [h2] at this; simp at this
              cases x; cases y; simp_all
            · exact .inl h1
          clear hdup
          rcases hc with hc | ⟨hc, hc2⟩
          all_goals
            go_wp2_with fail
            go_quiet (fail)
            go_wp2_with fail
            go_roundw
            case rel =>
              refine ⟨k + 1, by go_num, by omega, by omega, hid (fun j hj => ?_), hid (holdsK_ahead Us.cl 2 wr _ g 0 d HHr.out), hid (gr_drawn HB.out _)⟩
              by_cases e : j = k
              · subst e; exact HR.out
              · exact HA.out j (by omega)
            case measure => simp [intOf]; omega
      · obtain rfl : k = d.size := by omega
        go_wp2_with fail
        go_ret
        have h := fin.out wr HB.out HA.out HHr.out
        exact ⟨by rw [h.1]; rfl, h.2⟩

set_option maxHeartbeats 1000000 in
theorem compactU_any (us : List Us) (v : Value) (base : Nat) (W : World) (hown : W.ownsRow base 57 2 v us.length (us.flatMap Us.cl)) (hl : us.length ≤ 1099511627776) :
    Calls Tryz.prog 32 #[v] W fun e w' => ∃ p c, e = .returned (.slice p (Lib.compact us).length c) ∧ UsR w' (Lib.compact us) p ∧ W.grownBy w' v.ownBlock := by
  rcases hown.2 with ⟨rfl, h0⟩ | ⟨g, cap, cur, rfl, hbase, hb, h1, h2, h3, h4⟩
  · have hus : us = [] := List.eq_nil_of_length_eq_zero h0
    subst hus
    go_enter Tryz.func32, Tryz.ntmps32
    go_wp2_with fail
    go_ret
    exact ⟨none, 0, rfl, fun i u hu => by simp [Lib.compact, compactUpTo] at hu, World.grownBy.refl _ _⟩
  · have hF : (flatK Us.cl 2 us.toArray).size = us.length * 2 := by simp
    have hH : HoldsK Us.cl 2 W g 0 us.toArray := holds_id hb (by rw [hF, flatU]; exact h4)
    have h := compactU_arr us.toArray g cap W hH (by simpa using hl) (by simpa using h1)
    simp only [List.size_toArray] at h
    exact h.mono fun e w' ⟨h1, h2, h3⟩ => ⟨_, _, h1, fun i u hu => ⟨g, rfl, h2 i u hu⟩, h3⟩
end Go.Proofs.YtjedcijddlilaaaGreatDoor
