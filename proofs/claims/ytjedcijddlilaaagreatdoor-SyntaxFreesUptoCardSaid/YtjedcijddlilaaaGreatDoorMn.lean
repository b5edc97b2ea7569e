/- syntax: a range over an iterator that tells what it gives, for invariants that own what the rounds have made. | syntax: a use as the key of a map. | syntax: the keys of a map of uses, one by one, and collected. | syntax: what an iterator of uses gives, collected. | syntax: uses, compared and sorted. | syntax: how Mentions compares two uses. | The library's slices.SortFunc at this program's uses: the numbers are what the shelf's command found in this dump. | syntax: uses that an iterator gives, sorted. | syntax: Mentions. -/
import Derived.Test.YtjedcijddlilaaaGreatDoorSyR
import Derived.Shelf.SlIter.Nil
import Derived.Test.YtjedcijddlilaaaGreatDoorRg
import Derived.Maps.OwnIn
import Derived.Sort.KeysCollected
import Derived.DeepKeys4
import Derived.Test.YtjedcijddlilaaaGreatDoorSyS3
import Derived.Shelf.SlSortCmp.Insertion
import Derived.Test.YtjedcijddlilaaaGreatDoorQuietTail
import Derived.Shelf.SlLaysF0
import Derived.Shelf.SlGeneric
import Derived.Shelf.SlSortCmp.NoneTotal
import Derived.Ground.SlsfProg
import Derived.Test.YtjedcijddlilaaaGreatDoorProg
import Derived.Sort.OwnSorted
import Derived.Test.YtjedcijddlilaaaGreatDoorSyN
namespace Go.Proofs.YtjedcijddlilaaaGreatDoor
open Go.RowKit Go.Shelf

/-- What is not a block of cells. -/
def NC (o : Obj) : Prop := ∀ c t d, o ≠ .cells c t d
theorem nc_walk {o : Obj} (h : o.isWalk = true) : NC o := fun c t d e => by subst e; cases h
theorem nc_loop (r : Loop) : NC (.loop r) := fun _ _ _ e => by cases e
theorem nc_def (d : Option (List Deferred)) : NC (.deferred d) := fun _ _ _ e => by cases e
def KeepNC (W W' : World) : Prop := W.heap.size ≤ W'.heap.size ∧ ∀ (k : Nat) (o : Obj), W.heap[k]? = some o → NC o → W'.heap[k]? = some o
theorem KeepNC.refl (W : World) : KeepNC W W := ⟨Nat.le_refl _, fun _ _ h _ => h⟩
theorem KeepNC.trans {A B C : World} (h : KeepNC A B) (k : KeepNC B C) : KeepNC A C := ⟨Nat.le_trans h.1 k.1, fun i o h1 h2 => k.2 i o (h.2 i o h1 h2) h2⟩
theorem KeepNC.grown {A B : World} {row : Option Nat} (h : A.grownBy B row) (hrow : ∀ r, row = some r → ∀ o, A.heap[r]? = some o → ¬ NC o) : KeepNC A B :=
  ⟨h.size, fun k o h1 h2 => (h.block k (Array.getElem?_eq_some_iff.1 h1).1 (fun e => hrow k e.symm o h1 h2)).trans h1⟩
/-- It abides what turns no cells, but makes new ones. -/
def Abid {α : Type} (b : Nat) (I : List α → World → Prop) : Prop := ∀ s W W' row, I s W → W.grownBy W' row → (∀ r, row = some r → b ≤ r ∧ ∃ o, W.heap[r]? = some o ∧ NC o) → I s W'
def PostG {α : Type} (I : List α → World → Prop) (xs : List α) (W : World) : Exit → Act → World → Prop
  | .normal, _, W' => KeepNC W W' ∧ I xs W'
  | .ret, _, _ => False
  | .exit _, _, _ => False
  | .goto _, _, _ => False
  | .panic _, _, _ => False
  | .outgrown, _, _ => False
set_option maxHeartbeats 1000000 in
theorem range_gives {α : Type} {n : Nat} {P : Program} {w : World} {g : Operand} {ps : Array Tmp} {assign body : Code} {Q : Exit → Act → World → Prop} {a : Act}
    {gf : Nat} {lb : Array Value} (hg : a.eval g = .func (.func gf) #[] lb) (eg : ∀ args w, (callFunc gf args).run P w = .ok (.enter gf args) w)
    {enc : α → Value} {S : List α → Prop} {N : Nat} (hseq : SeqGives Fence.wide (n - 1) P gf lb enc S N w) (hn : 1 ≤ n) (hps : ps.size = 1)
    (I : List α → World → Prop) (hI : Abid w.heap.size I) (h0 : I [] w) (Ax : Nat → α → Act → World → Prop)
    (hassign : ∀ (m l : Nat) (x : α) (W : World), w.heap.size ≤ l → l < W.heap.size →
      assign.wpIn (Fence.wide.inRound l) m P (Exit.then (fun a' W' => W.grownBy W' none ∧ Ax l x a' W') (fun _ _ _ => False)) { tmps := (ps.zip #[enc x]).foldl (fun t (p, v) => t.setIfInBounds p v) a.tmps, defers := [] } W)
    (hbody : ∀ (m l : Nat) (pre : List α) (x : α) (a' : Act) (Wa Wb : World), w.heap.size ≤ l → (∃ r, Wb.heap[l]? = some (.loop r)) → Ax l x a' Wa → Wa.grownBy Wb (some l) → I pre Wb → pre.length < N →
      body.wpIn (Fence.wide.inRound l) m P (PostG I (pre ++ [x]) Wb) a' Wb)
    (hdone : ∀ (D : Nat) (xs : List α) (W : World), w.heap.size ≤ D → S xs → I xs W → W.heap[D]? = some (.deferred (some [])) → Q .normal { a with defers := { target := .collected D, args := #[] } :: a.defers } W) :
    (Code.rangeFunc g ps assign body).wpIn Fence.wide n P Q a w := by
  refine wpIn_rangeFunc ?_
  intro fn hfn
  obtain ⟨rec, hrec⟩ : ∃ rec : LoopState → Option Code → Loop, rec = fun st pe => { state := st, pending := pe, fn, tmps := a.tmps, params := ps, assign, body, defers := w.heap.size } := ⟨_, rfl⟩
  obtain ⟨W1, hW1⟩ : ∃ W1, w.alloc (.deferred (some [])) = W1 := ⟨_, rfl⟩
  obtain ⟨W2, hW2⟩ : ∃ W2, W1.alloc (.loop (rec .ready none)) = W2 := ⟨_, rfl⟩
  have hent : (Instr.enterLoop fn a.tmps ps assign body none).run P w = .ok (w.heap.size + 1, [{ target := .collected w.heap.size, args := #[] }]) W2 := by
    rw [← hW2, ← hW1, hrec]
    exact run_enterLoop_outer fn a.tmps ps assign body
  have hs1 : W1.heap.size = w.heap.size + 1 := by rw [← hW1, World.size_alloc]
  have hs2 : W2.heap.size = w.heap.size + 2 := by rw [← hW2, World.size_alloc, hs1]
  have hg1 : w.grownBy W1 none := by rw [← hW1]; exact World.grownBy_alloc _ _ _
  have hg2 : W1.grownBy W2 none := by rw [← hW2]; exact World.grownBy_alloc _ _ _
  have hL2 : W2.heap[w.heap.size + 1]? = some (.loop (rec .ready none)) := by rw [← hW2, ← hs1]; exact World.alloc_heap_new _ _
  have hD2 : W2.heap[w.heap.size]? = some (.deferred (some [])) := by
    refine (hg2.block _ (by omega) (by simp)).trans ?_
    rw [← hW1]
    exact World.alloc_heap_new _ _
  have hb2 : Below w.heap.size w W2 := by rw [← hW2, ← hW1]; exact ((Below.refl _ w).alloc (Nat.le_refl _) _).alloc (by simp) _
  refine ⟨w.heap.size + 1, [{ target := .collected w.heap.size, args := #[] }], W2, { target := .fn (.func gf) lb, args := #[.func (.yield (w.heap.size + 1)) #[] #[]] }, W2, gf, #[.func (.yield (w.heap.size + 1)) #[] #[]] ++ lb, W2, hent, ?_, ?_, ?_, ?_, ?_⟩
  · simp only [resolve, hg]
    simp [go_sem]
  · intro f' _
    trivial
  · simp [invoke, go_sem, eg]
  · intro _
    exact hn
  have hI2 : I [] W2 := hI _ _ _ none (hI _ _ _ none h0 hg1 (fun r e => by cases e)) hg2 (fun r e => by cases e)
  refine (hseq (w.heap.size + 1) (fun pre W => I pre W ∧ W.heap[w.heap.size + 1]? = some (.loop (rec .ready none)) ∧ W.heap[w.heap.size]? = some (.deferred (some []))) W2 hb2 ?_ ?_ ⟨hI2, hL2, hD2⟩).mono ?_
  · rintro s W W' row ⟨h1, h2, h3⟩ hgr hrow
    refine ⟨hI s W W' row h1 hgr fun r e => ?_, ?_, ?_⟩
    · obtain ⟨hr1, o, ho, hw⟩ := hrow r e
      exact ⟨by omega, o, ho, nc_walk hw⟩
    · exact (hgr.block _ (Array.getElem?_eq_some_iff.1 h2).1 (fun e => by have := (hrow _ e.symm).1; omega)).trans h2
    · exact (hgr.block _ (Array.getElem?_eq_some_iff.1 h3).1 (fun e => by have := (hrow _ e.symm).1; omega)).trans h3
  · rintro pre x W ⟨hi, hlw, hdw⟩ hlen
    have hlt : w.heap.size + 1 < W.heap.size := (Array.getElem?_eq_some_iff.1 hlw).1
    have hy := run_yield (P := P) (args := #[enc x]) hlw (by rw [hrec]; simp [hps])
    rw [hrec] at hy
    refine ⟨fn, _, assign, body, hy, roundIn_of_wpIn hfn (wpIn_mono (hassign _ _ x W (by omega) hlt) ?_)⟩
    intro e a' Wa hq
    cases e with
    | normal =>
      obtain ⟨hga, hax⟩ := hq
      have hla : Wa.heap[w.heap.size + 1]? = some (.loop (rec .ready none)) := (hga.block _ hlt (by simp)).trans hlw
      have hda : Wa.heap[w.heap.size]? = some (.deferred (some [])) := (hga.block _ (by omega) (by simp)).trans hdw
      have hlta : w.heap.size + 1 < Wa.heap.size := (Array.getElem?_eq_some_iff.1 hla).1
      refine ⟨_, run_beginRound hla (by rw [hrec]), ?_⟩
      obtain ⟨Wb, hWb⟩ : ∃ Wb, Wa.putObj (w.heap.size + 1) (.loop { rec .ready none with state := .busy }) = Wb := ⟨_, rfl⟩
      rw [hWb]
      have hgb : Wa.grownBy Wb (some (w.heap.size + 1)) := by rw [← hWb]; exact grownBy_putObj_a _ _ _
      have hlb : Wb.heap[w.heap.size + 1]? = some (.loop { rec .ready none with state := .busy }) := by rw [← hWb]; exact World.putObj_heap_same hlta
      have hdb : Wb.heap[w.heap.size]? = some (.deferred (some [])) := (hgb.block _ (by omega) (by simp)).trans hda
      have hIb : I pre Wb := hI _ _ _ _ (hI _ _ _ none hi hga (fun r e => by cases e)) hgb (fun r e => by cases e; exact ⟨by omega, _, hla, nc_loop _⟩)
      refine wpIn_mono (hbody _ _ pre x a' Wa Wb (by omega) ⟨_, hlb⟩ hax hgb hIb hlen) ?_
      rintro e a3 W3 hp
      cases e with
      | normal =>
        obtain ⟨hk, hi3⟩ := hp
        have hl3 := hk.2 _ _ hlb (nc_loop _)
        have hd3 := hk.2 _ _ hdb (nc_def _)
        have hlt3 : w.heap.size + 1 < W3.heap.size := (Array.getElem?_eq_some_iff.1 hl3).1
        have hr : (Instr.endRound (w.heap.size + 1) none).run P W3 = .ok (.bool true) (W3.putObj (w.heap.size + 1) (.loop (rec .ready none))) := by
          have h := run_endRound (P := P) none hl3
          rw [hrec] at h ⊢
          exact h
        refine ⟨_, _, hr, rfl, ⟨hI _ _ _ _ hi3 (grownBy_putObj_a _ _ _) (fun r e => by cases e; exact ⟨by omega, _, hl3, nc_loop _⟩), World.putObj_heap_same hlt3, (World.putObj_heap_other (by omega)).trans hd3⟩, ?_⟩
        refine ⟨?_, fun k o hk1 hw => ?_⟩
        · rw [putObj_size]
          exact Nat.le_trans hga.size (Nat.le_trans hgb.size hk.1)
        · have hkl : k ≠ w.heap.size + 1 := fun e => by rw [e, hlw] at hk1; cases hk1; cases hw
          have hkb : Wb.heap[k]? = some o := (hgb.block k (Nat.lt_of_lt_of_le (Array.getElem?_eq_some_iff.1 hk1).1 hga.size) (by simp [hkl])).trans ((hga.block k (Array.getElem?_eq_some_iff.1 hk1).1 (by simp)).trans hk1)
          exact (World.putObj_heap_other hkl).trans (hk.2 k o hkb (nc_walk hw))
      | ret => exact hp.elim
      | exit _ => exact hp.elim
      | goto _ => exact hp.elim
      | panic _ => exact hp.elim
      | outgrown => exact hp.elim
    | ret => exact hq.elim
    | exit _ => exact hq.elim
    | goto _ => exact hq.elim
    | panic _ => exact hq.elim
    | outgrown => exact hq.elim
  · rintro e W3 ⟨⟨v, rfl⟩, xs, hS, hi3, hl3, hd3⟩
    refine ⟨none, _, by have h := run_endLoop (P := P) hl3 (by rw [hrec]; simp); rw [hrec] at h; exact h, ?_⟩
    exact hdone w.heap.size xs _ (Nat.le_refl _) hS (hI _ _ _ _ hi3 (grownBy_putObj_a _ _ _) (fun r e => by cases e; exact ⟨by omega, _, hl3, nc_loop _⟩)) ((World.putObj_heap_other (by omega)).trans hd3)
end Go.Proofs.YtjedcijddlilaaaGreatDoor

namespace Go.Proofs.YtjedcijddlilaaaGreatDoor
open Go.RowKit Go.Shelf Go.Maps Go.Sort
theorem len_two {α : Type} {l : List α} (h : l.length = 2) : ∃ a b, l = [a, b] := by
  match l, h with
  | [a, b], _ => exact ⟨a, b, rfl⟩
section
variable {P : Program} {k t : TypeId} {f0 f1 : Field}
theorem keyLits_str (ht : P.underlying t = some .string) {d : Nat} {cs : List Value} {ls : List Lit} (h : P.keyLits (d + 1) t cs = some ls) : ∃ s : ByteArray, cs = [.string s] ∧ s.size ≤ maxLen ∧ ls = [.string s.data.toList] := by
  unfold Program.keyLits at h
  rw [ht] at h
  split at h <;> simp_all
theorem keyOf_two (hu : P.underlying k = some (.struct #[f0, f1])) (h0 : f0.offset = 0 ∧ f0.type = t ∧ (f0.name != "_") = true) (h1 : f1.offset = 1 ∧ f1.type = t ∧ (f1.name != "_") = true) (ht : P.underlying t = some .string) (hc : P.cellsOf k = 2) (hct : P.cellsOf t = 1) (hkt : P.keyType k = true)
    {d : Nat} (hd : P.types.size + 1 = d + 1 + 1) {a b : ByteArray} (ha : a.size ≤ maxLen) (hb : b.size ≤ maxLen) : keyOf P k (.agg #[.string a, .string b]) = some (.string (keyBytes [.string a.data.toList, .string b.data.toList])) := by
  have hf : (Value.agg #[.string a, .string b]).formed P k = true := by simp [Value.formed, hu, hc]
  have hl : ∀ s : ByteArray, s.size ≤ maxLen → P.keyLits (d + 1) t [.string s] = some [.string s.data.toList] := fun s hs => by
    simp [Program.keyLits, ht, hs]
  unfold keyOf
  rw [hu]
  simp only [hkt, hf, Bool.and_self, if_true, hd]
  unfold Program.keyLits
  rw [hu]
  simp [hc, hct, h0, h1, hl a ha, hl b hb, Value.cells]
theorem keyOf_two_inv (hu : P.underlying k = some (.struct #[f0, f1])) (h0 : f0.offset = 0 ∧ f0.type = t ∧ (f0.name != "_") = true) (h1 : f1.offset = 1 ∧ f1.type = t ∧ (f1.name != "_") = true) (ht : P.underlying t = some .string) (hc : P.cellsOf k = 2) (hct : P.cellsOf t = 1)
    {d : Nat} (hd : P.types.size + 1 = d + 1 + 1) {v : Value} {kl : Lit} (h : keyOf P k v = some kl) : ∃ a b : ByteArray, v = .agg #[.string a, .string b] ∧ a.size ≤ maxLen ∧ b.size ≤ maxLen ∧ kl = .string (keyBytes [.string a.data.toList, .string b.data.toList]) := by
  unfold keyOf at h
  rw [hu] at h
  dsimp only at h
  split at h
  · rename_i hkf
    rw [Bool.and_eq_true] at hkf
    have hf := hkf.2
    obtain ⟨ls, hls, rfl⟩ := Option.map_eq_some_iff.1 h
    rw [hd] at hls
    unfold Program.keyLits at hls
    rw [hu] at hls
    cases v <;> simp [Value.formed, hu, hc] at hf
    rename_i cs
    obtain ⟨x, y, hxy⟩ := len_two (l := cs.toList) (by simpa using hf)
    have hcs : cs = #[x, y] := by rw [← Array.toArray_toList (xs := cs), hxy]
    subst hcs
    cases hx : P.keyLits (d + 1) t [x] with
    | none => simp [hc, hct, h0, h1, Value.cells, hx] at hls
    | some l =>
      cases hy : P.keyLits (d + 1) t [y] with
      | none => simp [hc, hct, h0, h1, Value.cells, hx, hy] at hls
      | some l2 =>
        obtain ⟨a, ha, ha2, rfl⟩ := keyLits_str ht hx
        obtain ⟨b, hb, hb2, rfl⟩ := keyLits_str ht hy
        simp [hc, hct, h0, h1, Value.cells, hx, hy] at hls
        subst hls
        cases ha
        cases hb
        exact ⟨a, b, rfl, ha2, hb2, rfl⟩
  · cases h
end

theorem laidOutU : laidOutB Tryz.prog = true := by kernel_rfl
theorem lawU : WideMaps.KeyLaw Tryz.prog 57 := deep_law_laid laidOutU (m := 2) (by omega) (of_decide_eq_true (by kernel_rfl)) (by kernel_rfl) (by rw [Tryz.underlying57])
theorem keyedU : Keyed Tryz.prog 57 := Keyed.of_law lawU
def keyU (u : Us) : List UInt8 := keyBytes [.string u.m.data.toList, .string u.n.data.toList]
def Us.v (u : Us) : Value := .agg #[.string u.m, .string u.n]
/-- The strings of a use are such as the machine holds. -/
def Us.fits (u : Us) : Prop := u.m.size ≤ maxLen ∧ u.n.size ≤ maxLen
theorem sizeU : Tryz.prog.types.size + 1 = (Tryz.prog.types.size - 1) + 1 + 1 := by
  have h : 57 < Tryz.prog.types.size := of_decide_eq_true (by kernel_rfl)
  omega
theorem keyOfU {u : Us} (h : u.fits) : keyOf Tryz.prog 57 u.v = some (.string (keyU u)) :=
  keyOf_two Tryz.underlying57 ⟨rfl, rfl, rfl⟩ ⟨rfl, rfl, rfl⟩ Tryz.underlying9 (by kernel_rfl) (by kernel_rfl) (by kernel_rfl) sizeU h.1 h.2
theorem keyOfU_inv {v : Value} {kl : Lit} (h : keyOf Tryz.prog 57 v = some kl) : ∃ u : Us, v = u.v ∧ u.fits ∧ kl = .string (keyU u) := by
  obtain ⟨a, b, rfl, ha, hb, rfl⟩ := keyOf_two_inv Tryz.underlying57 ⟨rfl, rfl, rfl⟩ ⟨rfl, rfl, rfl⟩ Tryz.underlying9 (by kernel_rfl) (by kernel_rfl) sizeU h
  exact ⟨⟨a, b⟩, rfl, ⟨ha, hb⟩, rfl⟩
theorem keyU_inj {u y : Us} (hu : u.fits) (hy : y.fits) (h : keyU u = keyU y) : u = y := by
  have h1 := lawU.inj (keyOfU hu) (by rw [h]; exact keyOfU hy)
  obtain ⟨um, un⟩ := u
  obtain ⟨ym, yn⟩ := y
  simp only [Us.v, Value.agg.injEq] at h1
  have h2 := congrArg Array.toList h1
  simp only [List.cons.injEq, Value.string.injEq, and_true] at h2
  rw [h2.1, h2.2]
theorem Us.v_inj {u y : Us} (h : u.v = y.v) : u = y := by
  obtain ⟨um, un⟩ := u
  obtain ⟨ym, yn⟩ := y
  simp only [Us.v, Value.agg.injEq] at h
  have h2 := congrArg Array.toList h
  simp only [List.cons.injEq, Value.string.injEq, and_true] at h2
  rw [h2.1, h2.2]
/-- The references among some nodes, in their order, and as a set. -/
def usesL (l : List Ty) : List Us := (l.filter (fun t => decide (t.k = 10))).map (fun t => ⟨t.m, t.n⟩)
def useD {H : Type} (l : List Ty) : DataW H := setOf (.lit (.bool true)) ((usesL l).map fun u => .string (keyU u))
theorem useD_ref {H : Type} (l : List Ty) (t : Ty) (h : t.k = 10) : useD (H := H) (l ++ [t]) = (useD l).put (.string (keyU ⟨t.m, t.n⟩)) (.lit (.bool true)) := by
  simp [useD, usesL, h, setOf, List.filter_append]
theorem useD_not {H : Type} (l : List Ty) (t : Ty) (h : ¬ t.k = 10) : useD (H := H) (l ++ [t]) = useD l := by
  simp [useD, usesL, h, List.filter_append]
theorem mem_usesL (l : List Ty) (z : Us) : z ∈ usesL l ↔ UseIn l z := by
  unfold usesL UseIn
  simp only [List.mem_map, List.mem_filter, decide_eq_true_eq]
  constructor
  · rintro ⟨u, ⟨h1, h2⟩, h3⟩; exact ⟨u, h1, h2, h3⟩
  · rintro ⟨u, h1, h2, h3⟩; exact ⟨u, ⟨h1, h2⟩, h3⟩
theorem has_useD {H : Type} (l : List Ty) (x : List UInt8) : has (useD (H := H) l) (.string x) = true ↔ x ∈ (usesL l).map keyU := by
  unfold useD
  rw [has_setOf _ _ _ (fun y hy => by obtain ⟨z, _, rfl⟩ := List.mem_map.1 hy; trivial)]
  simp [List.any_map, Lit.sameKey]
theorem own_mapU {H : Type} {P : Program} {k : TypeId} {R : Value → Option (DataW H × List MemPlace)} {A B : World} {b c n : Nat} {D : DataW H} (h : A.ownsMap P k R c n D) (hc : c < b) (hb : RowKit.Below b A B) : B.ownsMap P k R c n D := by
  obtain ⟨es, clock, h1, h2⟩ := h
  exact ⟨es, clock, (hb.block c hc).trans h1, h2⟩
/-- What a range over the keys has given in the end. -/
structure GotU {H : Type} (D0 : DataW H) (us : List Us) : Prop where
  nodup : (us.map keyU).Nodup
  mem : ∀ x, x ∈ us.map keyU ↔ has D0 (.string x) = true
  fits : ∀ u ∈ us, u.fits
theorem GotU.uses {H : Type} {l : List Ty} {us : List Us} (h : GotU (useD (H := H) l) us) (hl : ∀ t ∈ l, t.m.size ≤ maxLen ∧ t.n.size ≤ maxLen) : us.Nodup ∧ ∀ z, z ∈ us ↔ UseIn l z := by
  have hfit : ∀ u ∈ usesL l, u.fits := fun u hu => by
    obtain ⟨t, ht, _, rfl⟩ := (mem_usesL l u).1 hu
    exact hl t ht
  refine ⟨(List.pairwise_map.1 h.nodup).imp fun hab e => hab (congrArg keyU e), fun z => ?_⟩
  rw [← mem_usesL]
  constructor
  · intro hz
    obtain ⟨y, hy, he⟩ := List.mem_map.1 ((has_useD l (keyU z)).1 ((h.mem _).1 (List.mem_map.2 ⟨z, hz, rfl⟩)))
    rw [← keyU_inj (hfit y hy) (h.fits z hz) he]
    exact hy
  · intro hz
    obtain ⟨y, hy, he⟩ := List.mem_map.1 ((h.mem _).2 ((has_useD l (keyU z)).2 (List.mem_map.2 ⟨z, hz, rfl⟩)))
    rw [← keyU_inj (h.fits y hy) (hfit z hz) he]
    exact hy
end Go.Proofs.YtjedcijddlilaaaGreatDoor

namespace Go.Proofs.YtjedcijddlilaaaGreatDoor
open Go.RowKit Go.Maps Go.Sort Go.Shelf
attribute [local go_sem] Oper.semAt_some

/-- While the keys come. -/
structure CollU {H : Type} (D0 : DataW H) (left : Lit → Bool) (us : List Us) : Prop where
  col : Collected D0 left (us.map keyU)
  fits : ∀ u ∈ us, u.fits
theorem CollU.step {H : Type} {D0 : DataW H} {left : Lit → Bool} {us : List Us} (h : CollU D0 left us) {x : Us} {y : DataW H} (hx : x.fits) (hlk : left (.string (keyU x)) = true) (hat : ∀ zd, D0.atKey (.string (keyU x)) zd = y) :
    CollU D0 (fun z => left z && !z.sameKey (.string (keyU x))) (us ++ [x]) := by
  refine ⟨?_, fun u hu => ?_⟩
  · rw [List.map_append]
    exact h.col.step hlk hat
  · rcases List.mem_append.1 hu with hu | hu
    · exact h.fits u hu
    · rw [List.mem_singleton.1 hu]; exact hx
theorem CollU.got {H : Type} {D0 : DataW H} {left : Lit → Bool} {us : List Us} (h : CollU D0 left us) (hl : ∀ kl, left kl = false) : GotU D0 us :=
  ⟨h.col.1, fun x => by rw [h.col.2 x, hl]; simp, h.fits⟩

set_option maxRecDepth 100000 in
set_option maxHeartbeats 4000000 in
theorem keysU_in {H : Type} (n : Nat) (l Bm b nn : Nat) (D0 : DataW H) {R : Value → Option (DataW H × List MemPlace)} (J : List Us → World → Prop)
    (hY : ∀ pre x W, J pre W → pre.length < Maps.size D0 → YieldAt Fence.wide (n - 1) Tryz.prog l #[x.v] W fun e W' => e = .returned (.bool true) ∧ J (pre ++ [x]) W' ∧ KeepsWalks W W')
    (W : World) (hn : 1 ≤ n) (hJ : AbidesFrom W.heap.size J) (hm : W.cell? ⟨Bm, 0, none⟩ = some (.map (some b))) (hown : W.ownsMap Tryz.prog 57 R b nn D0) (h0 : J [] W) :
    CallsIn Fence.wide n Tryz.prog 117 #[.func (.yield l) #[] #[], .pointer (some ⟨Bm, 0, none⟩)] W fun e W' => (∃ v, e = .returned v) ∧ ∃ us : List Us, GotU D0 us ∧ J us W' := by
  refine callsIn_of_wp Tryz.func117 rfl trivial ?_ rfl
  simp only [Tryz.ntmps117, List.size_toArray, List.length_cons, List.length_nil, Nat.reduceAdd, Nat.reduceSub, Array.replicate_succ, Array.replicate_zero, List.push_toArray, List.append_toArray, List.nil_append, List.cons_append]
  gi_wp2_with (first
    | (gi_at_range; refine wpListIn_range_own _ rfl _ 97 rfl 57 4 keyedU Tryz.underlying97 _ b nn _ rfl hown ?_; intro w0 hrg0 hg0 hs0)
    | gi_in)
  go_frame
  gi_loopw [3] (fun _ wr => ∃ (left : Lit → Bool) (cnt : Nat) (us : List Us), wr.ranges Tryz.prog 57 R b W.heap.size nn D0 left cnt ∧ us.length + cnt ≤ Maps.size D0 ∧ CollU D0 left us ∧ J us wr)
    (fun _ wr => wr.rangeLeft b W.heap.size)
  case atStart =>
    exact ⟨_, _, [], hrg0, by simp, ⟨Collected.start D0, fun u hu => by cases hu⟩, hJ [] W w0 none h0 hg0 (fun r e => by cases e)⟩
  case round =>
    obtain ⟨left, cnt, us, hrg, hcs, hC, hJs⟩ := hrel
    gi_wp2_with (first
      | (gi_at_next; refine wpListIn_next_ranges _ rfl _ rfl 57 keyedU R Us.v id (fun key kl hk => by obtain ⟨x, hx, _⟩ := keyOfU_inv hk; exact ⟨x, hx⟩) (fun v _ _ => ⟨v, rfl⟩) b W.heap.size nn _ _ _ rfl hrg ?_ ?_)
      | gi_in)
    · -- nothing is left
      intro hc0 hl0
      gi_wp2
      go_end0
      exact ⟨⟨_, rfl⟩, us, hC.got hl0, hJs⟩
    · -- a key has come
      intro x c kl yd yp w2 cnt2 hkey hlk hv hat hrg2 hlt hg2 hs2 hen
      obtain ⟨x', ex, hfit, rfl⟩ := keyOfU_inv hkey
      obtain rfl : x = x' := Us.v_inj ex
      have hJ2 : J us w2 := hJ us wr w2 (some W.heap.size) hJs hg2 (fun r e => by cases e; exact ⟨Nat.le_refl _, hrg.iter_walk⟩)
      have hJ3 : J us (w2.alloc (.cells #[.string x.m, .string x.n] 57)) := hJ us w2 _ none hJ2 (World.grownBy_alloc _ _ _) (fun r e => by cases e)
      have hrg3 := hrg2.of_walks (KeepsWalks.alloc w2 (.cells #[.string x.m, .string x.n] 57))
      obtain ⟨fn, tmps, assign, body, hy, hR⟩ := hY us x _ hJ3 (by omega)
      obtain ⟨xm, xn⟩ := x
      have HF := hid (And.intro hfit (And.intro hlk hat))
      clear hs2 hfit hkey hJ2 hJ3 hlk hat ex
      dsimp only [Us.v] at *
      gi_wp2
      refine hR.mono ?_
      rintro e W3 ⟨rfl, hJ4, hk3⟩
      gi_wp2
      have hrg4 := hrg3.of_walks hk3
      go_roundw
      case rel => exact ⟨_, cnt2, us ++ [⟨xm, xn⟩], hrg4, by simp; omega, hC.step HF.out.1 HF.out.2.1 HF.out.2.2, hJ4⟩
      case measure => rw [hrg4.left_eq, hrg.left_eq]; exact hlt
theorem keysU_gives {H : Type} (n : Nat) (hn : 1 ≤ n) (Bm b nn : Nat) (D0 : DataW H) {R : Value → Option (DataW H × List MemPlace)} (w : World) (hm : w.cell? ⟨Bm, 0, none⟩ = some (.map (some b))) (hown : w.ownsMap Tryz.prog 57 R b nn D0) :
    SeqGives Fence.wide n Tryz.prog 117 #[.pointer (some ⟨Bm, 0, none⟩)] Us.v (fun us => GotU D0 us) (Maps.size D0) w := fun l J W hW hJ hY h0 =>
  keysU_in n l Bm b nn D0 J hY W hn hJ (old_cell hW hm) (own_mapU hown hown.lt hW) h0
set_option maxHeartbeats 1000000 in
theorem keysU_any (mb : Option Nat) (n : Nat) (w : World) :
    CallsIn Fence.wide n Tryz.prog 70 #[.map mb] w fun e w' => e = .returned (.func (.func 117) #[] #[.pointer (some ⟨w.heap.size, 0, none⟩)]) ∧ w' = w.alloc (.cells #[.map mb] 97) := by
  refine callsIn_of_wp Tryz.func70 rfl trivial ?_ rfl
  simp only [Tryz.ntmps70, List.size_toArray, List.length_cons, List.length_nil, Nat.reduceAdd, Nat.reduceSub, Array.replicate_succ, Array.replicate_zero, List.push_toArray, List.append_toArray, List.nil_append, List.cons_append]
  gi_wp2_with fail
  go_ret
  exact ⟨rfl, rfl⟩
end Go.Proofs.YtjedcijddlilaaaGreatDoor

namespace Go.Proofs.YtjedcijddlilaaaGreatDoor
open Go.RowKit Go.Maps Go.Sort Go.Shelf
attribute [local go_sem] Oper.semAt_some

theorem ownU_abid {W W' : World} {base : Nat} {e : TypeId} {size : Nat} {v : Value} {k : Nat} {xs : List Value} (h : W.ownsRow base e size v k xs) {row : Option Nat} (hg : W.grownBy W' row)
    (hrow : ∀ r, row = some r → ∃ o, W.heap[r]? = some o ∧ NC o) : W'.ownsRow base e size v k xs := by
  refine h.kept hg ?_
  cases row with
  | none =>
    cases v.ownBlock with
    | none => exact .inl rfl
    | some b => exact .inr (by simp)
  | some r =>
    obtain ⟨o, ho, hn⟩ := hrow r rfl
    exact ownsRow_ne_a h ho (fun cur => hn _ _ _)
theorem heap_abid {W W' : World} {B : Nat} {c : Array Value} {t : TypeId} {d : Nat × Nat} (h : W.heap[B]? = some (.cells c t d)) {row : Option Nat} (hg : W.grownBy W' row)
    (hrow : ∀ r, row = some r → ∃ o, W.heap[r]? = some o ∧ NC o) : W'.heap[B]? = some (.cells c t d) := by
  refine (hg.block B (Array.getElem?_eq_some_iff.1 h).1 fun e => ?_).trans h
  obtain ⟨o, ho, hn⟩ := hrow B e.symm
  rw [h] at ho
  cases ho
  exact hn _ _ _ rfl
/-- Between two rounds: the box holds a slice that owns what has come. -/
def ApU (w0 : World) (us : List Us) (W : World) : Prop := (∃ v, W.heap[w0.heap.size]? = some (.cells #[v] 51 (0, 0)) ∧ W.ownsRow (w0.heap.size + 1) 57 2 v us.length (us.flatMap Us.cl)) ∧ Below w0.heap.size w0 W
theorem apU_abid (w0 : World) (b : Nat) (hb : w0.heap.size ≤ b) : Abid b (ApU w0) := by
  rintro us W W' row ⟨⟨v, h1, h2⟩, h3⟩ hg hrow
  exact ⟨⟨v, heap_abid h1 hg (fun r e => (hrow r e).2), ownU_abid h2 hg (fun r e => (hrow r e).2)⟩, h3.grown hg h3.size (fun r e => Nat.le_trans hb (hrow r e).1)⟩
set_option maxRecDepth 100000 in
set_option maxHeartbeats 4000000 in
theorem appendU_in (n : Nat) (hn : 2 ≤ n) (g : Nat) (lb : Array Value) (eg : ∀ args w, (callFunc g args).run Tryz.prog w = .ok (.enter g args) w)
    (S : List Us → Prop) (N : Nat) (hN : N ≤ 1099511627776) (w : World) (hseq : SeqGives Fence.wide (n - 1) Tryz.prog g lb Us.v S N w) :
    CallsIn Fence.wide n Tryz.prog 174 #[.slice none 0 0, .func (.func g) #[] lb] w fun e w' => ∃ (v : Value) (us : List Us), e = .returned v ∧ S us ∧ w'.ownsRow (w.heap.size + 1) 57 2 v us.length (us.flatMap Us.cl) ∧ Below w.heap.size w w' := by
  obtain ⟨i0, hi, hz0, hz1, hz2⟩ := info_parts infoUs
  refine callsIn_of_wp_marks Tryz.func174 rfl trivial ?_ rfl
  simp only [Tryz.ntmps174, List.size_toArray, List.length_cons, List.length_nil, Nat.reduceAdd, Nat.reduceSub, Array.replicate_succ, Array.replicate_zero, List.push_toArray, List.append_toArray, List.nil_append, List.cons_append]
  gi_wp2_with fail
  obtain ⟨W0, hW0⟩ : ∃ W0, w.alloc (.cells #[.slice none 0 0] 51) = W0 := ⟨_, rfl⟩
  have hs0 : W0.heap.size = w.heap.size + 1 := by rw [← hW0]; simp
  have hv0 : W0.heap[w.heap.size]? = some (.cells #[.slice none 0 0] 51 (0, 0)) := by rw [← hW0]; exact World.alloc_heap_new w _
  have hb0 : Below w.heap.size w W0 := by rw [← hW0]; exact (Below.refl _ w).alloc (Nat.le_refl _) _
  rw [hW0]
  refine range_gives rfl eg (hseq.later hb0) (by omega) rfl (ApU w) (apU_abid w _ (by omega)) ⟨⟨_, hv0, World.ownsRow_nil _ _ _ _⟩, hb0⟩
    (fun l x a' W' => ∃ Bx, l < Bx ∧ W'.heap[Bx]? = some (.cells #[.string x.m, .string x.n] 57 (0, 0)) ∧ a' = { tmps := #[.slice none 0 0, .func (.func g) #[] lb, .pointer (some ⟨w.heap.size, 0, none⟩), undef, .slice none 0 0, .pointer (some ⟨Bx, 0, none⟩), .func (.func g) #[] lb, .agg #[.string x.m, .string x.n], undef, undef, undef, undef, undef], defers := [] }) ?assign ?body ?done
  case assign =>
    intro m l x W _ hl
    dsimp only [Us.v]
    gi_wp2_with fail
    exact ⟨World.grownBy_alloc _ _ _, W.heap.size, hl, World.alloc_heap_new _ _, rfl⟩
  case body =>
    rintro m l pre x a' Wa Wb hl hr ⟨Bx, hBx, hbx, rfl⟩ hgb ⟨⟨v, hv, hrow⟩, hbel⟩ hlen
    have hlx : Bx ≠ l := Nat.ne_of_gt hBx
    have hbx2 : Wb.heap[Bx]? = some (.cells #[.string x.m, .string x.n] 57 (0, 0)) := (hgb.block Bx (Array.getElem?_eq_some_iff.1 hbx).1 (by simp [hlx])).trans hbx
    have e0 := cell_of_row Wb Bx 0 _ _ _ hbx2
    have e1 := cell_of_row Wb Bx 1 _ _ _ hbx2
    have e2 := cell_of_row Wb w.heap.size 0 _ _ _ hv
    have hsB : w.heap.size < Wb.heap.size := (Array.getElem?_eq_some_iff.1 hv).1
    have hnews : ∀ (j : Nat) (u : Value), [Value.string x.m, .string x.n][j]? = some u → (Wb.alloc (.cells #[.string x.m, .string x.n] 57)).cell? ((⟨Wb.heap.size, 0, none⟩ : Addr).add j) = some u := fun j u hu => by
      rw [addA, Nat.zero_add]
      have hr := World.alloc_heap_new Wb (.cells #[.string x.m, .string x.n] 57)
      rcases j with _ | _ | j
      · cases hu; exact cell_of_row _ _ 0 _ _ _ hr
      · cases hu; exact cell_of_row _ _ 1 _ _ _ hr
      · simp at hu
    have HV := hid (And.intro hv (And.intro hrow hbel))
    clear hbel hbx2 hbx hr hgb
    gi_wp2_with (gi_at_builtin; refine wpListIn_append_own _ rfl _ _ 51 rfl (w.heap.size + 1) 57 i0 _ 2 32 Tryz.underlying51 hi hz0 hz1 hz2 rfl (by decide) _ _ _ rfl (hrow.alloc _) ⟨Wb.heap.size, 0, none⟩ 1 1 [.string x.m, .string x.n] rfl rfl hnews (fun u hu => by simp at hu; rcases hu with rfl | rfl <;> rfl) (by unfold maxLen; omega) (by omega) (by simp; omega) ?_
                 intro v' w3 hown hg3 _
                 obtain ⟨g', c', rfl⟩ := ownsRow_succ hown
                 have hv3 : w3.heap[w.heap.size]? = some (.cells #[v] 51 (0, 0)) := (hg3.block w.heap.size (by simp; omega) (fun e => by have h := (HV.out.2.1.lt _ e.symm).1; omega)).trans ((Below.heap_alloc _ _ _ hsB).trans HV.out.1)
                 obtain ⟨hc3, hf3⟩ := cell_of_box_a hv3)
    have hg4 := grownBy_setCell0_a w3 w.heap.size (.slice (some ⟨g', 0, none⟩) (pre.length + 1) c')
    have hgA : Wb.grownBy (Wb.alloc (.cells #[.string x.m, .string x.n] 57)) none := World.grownBy_alloc _ _ _
    have hbA : Below w.heap.size w (Wb.alloc (.cells #[.string x.m, .string x.n] 57)) := HV.out.2.2.alloc HV.out.2.2.size _
    have hb3 : Below w.heap.size w w3 := hbA.grown hg3 hbA.size (fun k e => by have h := (HV.out.2.1.lt _ e).1; omega)
    refine ⟨(KeepNC.grown hgA (fun r e => by cases e)).trans ((KeepNC.grown hg3 fun r e o ho hn => ?_).trans (KeepNC.grown hg4 fun r e o ho hn => ?_)), ⟨_, heap_setCell_box_a _ hv3, ?_⟩, hb3.grown hg4 hb3.size (fun k e => by cases e; exact Nat.le_refl _)⟩
    · rcases (HV.out.2.1.alloc (.cells #[.string x.m, .string x.n] 57)).2 with ⟨h, _⟩ | ⟨b, cap, cur, hv9, _, hb9, _⟩
      · subst h; cases e
      · subst hv9
        cases e
        have h9 := hb9.symm.trans ho
        cases h9
        exact hn _ _ _ rfl
    · cases e
      rw [hv3] at ho
      cases ho
      exact hn _ _ _ rfl
    · have h := hown.kept hg4 (.inr fun e => by have h := (hown.lt _ e).1; omega)
      rw [List.flatMap_append, List.length_append]
      exact h
  case done =>
    rintro D us W hD hS ⟨⟨v, hv, hrow⟩, hbel⟩ hDef
    have e2 := cell_of_row W w.heap.size 0 _ _ _ hv
    gi_wp2_with fail
    refine ⟨by simp, .inl ⟨_, _, rfl, run_takeDeferred hDef, ?_⟩⟩
    exact ⟨_, results_tmp rfl _ _ _, v, us, rfl, hS, ownU_abid hrow (grownBy_putObj_a _ _ _) (fun r e => by cases e; exact ⟨_, hDef, nc_def _⟩), hbel.grown (grownBy_putObj_a _ _ _) hbel.size (fun k e => by cases e; omega)⟩
set_option maxHeartbeats 1000000 in
theorem collectU_in (n : Nat) (hn : 3 ≤ n) (g : Nat) (lb : Array Value) (eg : ∀ args w, (callFunc g args).run Tryz.prog w = .ok (.enter g args) w)
    (S : List Us → Prop) (N : Nat) (hN : N ≤ 1099511627776) (w : World) (hseq : SeqGives Fence.wide (n - 1 - 1) Tryz.prog g lb Us.v S N w) :
    CallsIn Fence.wide n Tryz.prog 116 #[.func (.func g) #[] lb] w fun e w' => ∃ (v : Value) (us : List Us), e = .returned v ∧ S us ∧ w'.ownsRow (w.heap.size + 1) 57 2 v us.length (us.flatMap Us.cl) ∧ Below w.heap.size w w' := by
  refine callsIn_of_wp Tryz.func116 rfl trivial ?_ rfl
  simp only [Tryz.ntmps116, List.size_toArray, List.length_cons, List.length_nil, Nat.reduceAdd, Nat.reduceSub, Array.replicate_succ, Array.replicate_zero, List.push_toArray, List.append_toArray, List.nil_append, List.cons_append]
  have HA := appendU_in (n - 1) (by omega) g lb eg S N hN w hseq
  have h1 : 1 ≤ n := by omega
  have hfA : Fence.wide.fn 174 := trivial
  gi_wp2_with (gi_at_call 174; refine HA.mono ?_; rintro e w' ⟨v, us, rfl, hS, hrow, hb⟩)
  go_ret
  exact ⟨v, us, rfl, hS, hrow, hb⟩
end Go.Proofs.YtjedcijddlilaaaGreatDoor

namespace Go.Proofs.YtjedcijddlilaaaGreatDoor
open Go.RowKit Go.Shelf Go.Sort Go.Lib

def cmpS (a b : ByteArray) : Int := if Op.bytesLess a.toList b.toList then -1 else if Op.bytesLess b.toList a.toList then 1 else 0
def cmpU (a b : Us) : Int := if cmpS a.m b.m = 0 then cmpS a.n b.n else cmpS a.m b.m
theorem cmpS_neg (a b : ByteArray) : cmpS a b < 0 ↔ a.toList < b.toList := by
  unfold cmpS
  rw [bytesLess_eq, bytesLess_eq]
  by_cases h1 : a.toList < b.toList
  · simp [h1]
  · by_cases h2 : b.toList < a.toList
    · simp [h1, h2]
    · simp [h1, h2]
theorem cmpS_zero (a b : ByteArray) : cmpS a b = 0 ↔ a.toList = b.toList := by
  unfold cmpS
  rw [bytesLess_eq, bytesLess_eq]
  by_cases h1 : a.toList < b.toList
  · simp [h1]
    intro e
    rw [e] at h1
    exact List.lt_irrefl _ h1
  · by_cases h2 : b.toList < a.toList
    · simp [h1, h2]
      intro e
      rw [e] at h2
      exact List.lt_irrefl _ h2
    · simp [h1, h2]
      exact List.le_antisymm (List.not_lt.1 h2) (List.not_lt.1 h1)
theorem cmpU_lt (a b : Us) : ltOf cmpU a b = a.lt b := by
  have h : ltOf cmpU a b = true ↔ a.lt b = true := by
    unfold ltOf cmpU
    rw [decide_eq_true_eq, Us.lt_iff]
    by_cases h0 : cmpS a.m b.m = 0
    · rw [if_pos h0, cmpS_neg]
      have e := (cmpS_zero _ _).1 h0
      rw [e]
      constructor
      · exact fun h => .inr ⟨rfl, h⟩
      · rintro (h | ⟨_, h⟩)
        · exact absurd h (List.lt_irrefl _)
        · exact h
    · rw [if_neg h0, cmpS_neg]
      constructor
      · exact .inl
      · rintro (h | ⟨h, _⟩)
        · exact h
        · exact absurd ((cmpS_zero _ _).2 h) h0
  cases h1 : a.lt b with
  | true => exact h.2 h1
  | false =>
    cases h2 : ltOf cmpU a b with
    | true => rw [h.1 h2] at h1; cases h1
    | false => rfl
theorem Us.nt {a b : Us} (h1 : a.lt b = false) (h2 : b.lt a = false) : a = b := Classical.byContradiction fun h => by
  rw [Us.tri (by rw [h1]; decide) h] at h2
  cases h2
theorem swoU : SWO (ltOf cmpU) where
  irrefl x := by
    rw [cmpU_lt]
    cases h : x.lt x with
    | true => exact (Us.irr x h).elim
    | false => rfl
  trans x y z h1 h2 := by
    rw [cmpU_lt] at *
    exact Us.trans h1 h2
  ntrans x y z h1 h2 := by
    rw [cmpU_lt] at *
    cases h3 : x.lt z with
    | false => rfl
    | true =>
      cases h4 : y.lt x with
      | true => rw [Us.trans h4 h3] at h2; cases h2
      | false => rw [Us.nt h1 h4, h2] at h3; cases h3
theorem totU (x y : Us) (h1 : ltOf cmpU x y = false) (h2 : ltOf cmpU y x = false) : x = y := by
  rw [cmpU_lt] at *
  exact Us.nt h1 h2
def sortedU (us : List Us) : List Us := us.mergeSort fun x y => !(ltOf cmpU) y x
theorem sortedU_perm (us : List Us) : (sortedU us).Perm us := List.mergeSort_perm _ _
theorem sortedU_sort {us : List Us} (h : us.Nodup) : SortU (sortedU us) := by
  have hp : (sortedU us).Pairwise (fun x y => (!(ltOf cmpU) y x) = true) := by
    refine List.pairwise_mergeSort (fun a b c h1 h2 => ?_) (fun a b => ?_) us
    · rw [cmpU_lt] at *
      simp only [Bool.not_eq_eq_eq_not, Bool.not_true] at *
      cases h3 : c.lt a with
      | false => rfl
      | true =>
        cases h4 : b.lt c with
        | true => rw [Us.trans h4 h3] at h1; cases h1
        | false =>
          rw [Us.nt h2 h4, h1] at h3
          cases h3
    · rw [cmpU_lt, cmpU_lt]
      cases h3 : b.lt a with
      | false => rfl
      | true =>
        cases h4 : a.lt b with
        | false => rfl
        | true => exact (Us.asym h3 h4).elim
  have hn : (sortedU us).Nodup := (sortedU_perm us).nodup_iff.2 h
  refine List.Pairwise.imp (fun {a b} hab => ?_) (List.pairwise_and_iff.2 ⟨hp, hn⟩)
  have h1 := hab.1
  rw [cmpU_lt] at h1
  exact Us.tri (by simp_all) (fun e => hab.2 e.symm)
end Go.Proofs.YtjedcijddlilaaaGreatDoor

namespace Go.Proofs.YtjedcijddlilaaaGreatDoor
open Go.RowKit Go.Shelf Go.Sort
attribute [local go_sem] Oper.semAt_some

set_option maxRecDepth 100000 in
theorem isNaN_any (s : ByteArray) (w : World) : Calls Tryz.prog 118 #[.string s] w fun e w' => e = .returned (.bool false) ∧ w' = w := by
  go_enter Tryz.func118, Tryz.ntmps118
  go_wp2_with fail
  go_ret
  exact ⟨by simp, rfl⟩
set_option maxRecDepth 100000 in
theorem compare_any (a b : ByteArray) (w : World) : Calls Tryz.prog 73 #[.string a, .string b] w fun e w' => e = .returned (.int .i64 (cmpS a b)) ∧ w' = w := by
  have HN := hid isNaN_any
  unfold cmpS
  cases h1 : Op.bytesLess a.toList b.toList with
  | true =>
    go_enter Tryz.func73, Tryz.ntmps73
    go_wp2_with (go_at_call 118; refine (HN.out _ _).mono ?_; rintro e w' ⟨rfl, rfl⟩)
    go_ret
    exact ⟨rfl, rfl⟩
  | false =>
    cases h2 : Op.bytesLess b.toList a.toList with
    | true =>
      have h3 : (a.toList == b.toList) = false := by
        rw [beq_eq_false_iff_ne]
        intro e
        rw [bytesLess_eq, e] at h2
        exact List.lt_irrefl _ (of_decide_eq_true h2)
      go_enter Tryz.func73, Tryz.ntmps73
      go_wp2_with (go_at_call 118; refine (HN.out _ _).mono ?_; rintro e w' ⟨rfl, rfl⟩)
      go_ret
      exact ⟨rfl, rfl⟩
    | false =>
      have h3 : (a.toList == b.toList) = true := by
        rw [beq_iff_eq]
        rw [bytesLess_eq] at h1 h2
        exact List.le_antisymm (List.not_lt.1 (of_decide_eq_false h2)) (List.not_lt.1 (of_decide_eq_false h1))
      go_enter Tryz.func73, Tryz.ntmps73
      go_wp2_with (go_at_call 118; refine (HN.out _ _).mono ?_; rintro e w' ⟨rfl, rfl⟩)
      go_ret
      exact ⟨rfl, rfl⟩
set_option maxRecDepth 100000 in
set_option maxHeartbeats 2000000 in
theorem or_any (x y : Int) (g : Nat) (w : World) (h0 : w.cell? ⟨g, 0, none⟩ = some (.int .i64 x)) (h1 : w.cell? ⟨g, 1, none⟩ = some (.int .i64 y)) :
    Calls Tryz.prog 72 #[.slice (some ⟨g, 0, none⟩) 2 2] w fun e w' => e = .returned (.int .i64 (if x = 0 then y else x)) ∧ w' = w := by
  by_cases hx : x = 0
  · rw [if_pos hx]
    subst hx
    by_cases hy : y = 0
    · subst hy
      go_enter Tryz.func72, Tryz.ntmps72
      go_wp2_with fail
      refine wp_loop_rounds 3 ?_
      rw [rounds_succ]
      go_wp2_with fail
      rw [rounds_succ]
      go_wp2_with fail
      rw [rounds_succ]
      go_wp2_with fail
      go_ret
      exact ⟨rfl, rfl⟩
    · have hyy : (y == 0) = false := by rw [beq_eq_false_iff_ne]; exact hy
      clear hy
      go_enter Tryz.func72, Tryz.ntmps72
      go_wp2_with fail
      refine wp_loop_rounds 3 ?_
      rw [rounds_succ]
      go_wp2_with fail
      rw [rounds_succ]
      go_wp2_with fail
      go_ret
      exact ⟨rfl, rfl⟩
  · rw [if_neg hx]
    have hxx : (x == 0) = false := by rw [beq_eq_false_iff_ne]; exact hx
    clear hx
    go_enter Tryz.func72, Tryz.ntmps72
    go_wp2_with fail
    refine wp_loop_rounds 3 ?_
    rw [rounds_succ]
    go_wp2_with fail
    go_ret
    exact ⟨rfl, rfl⟩
set_option maxRecDepth 100000 in
set_option maxHeartbeats 4000000 in
theorem cmpU_any (a b : Us) (w : World) : Calls Tryz.prog 71 #[.agg #[.string a.m, .string a.n], .agg #[.string b.m, .string b.n]] w fun e w' => e = .returned (.int .i64 (cmpU a b)) ∧ ∃ q os', w' = grow (w.drewN q) os' := by
  obtain ⟨am, an⟩ := a
  obtain ⟨bm, bn⟩ := b
  unfold cmpU
  dsimp only
  obtain ⟨W, hW⟩ : ∃ W, (w.alloc (.cells #[.string am, .string an] 57)).alloc (.cells #[.string bm, .string bn] 57) = W := ⟨_, rfl⟩
  have ha : W.heap[w.heap.size]? = some (.cells #[.string am, .string an] 57 (0, 0)) := by
    rw [← hW]; exact (Below.heap_alloc _ _ _ (by simp)).trans (World.alloc_heap_new w _)
  have hb : W.heap[w.heap.size + 1]? = some (.cells #[.string bm, .string bn] 57 (0, 0)) := by
    have h := World.alloc_heap_new (w.alloc (.cells #[.string am, .string an] 57)) (.cells #[.string bm, .string bn] 57)
    rw [hW, World.size_alloc] at h; exact h
  have hs : W.heap.size = w.heap.size + 2 := by rw [← hW]; simp
  have R1 : Kpt (∀ n, Calls Tryz.prog 73 #[.string am, .string bm] (W.drewN n) fun e w' => e = .returned (.int .i64 (cmpS am bm)) ∧ ∃ m, w' = W.drewN m) := hid fun n => (compare_any am bm _).mono fun _ _ h => ⟨h.1, n, h.2⟩
  have R2 : Kpt (∀ n, Calls Tryz.prog 73 #[.string an, .string bn] (W.drewN n) fun e w' => e = .returned (.int .i64 (cmpS an bn)) ∧ ∃ m, w' = W.drewN m) := hid fun n => (compare_any an bn _).mono fun _ _ h => ⟨h.1, n, h.2⟩
  generalize cmpS am bm = x at R1 ⊢
  generalize cmpS an bn = y at R2 ⊢
  obtain ⟨z, hz⟩ : ∃ z, (if x = 0 then y else x) = z := ⟨_, rfl⟩
  rw [hz]
  have HZ := hid hz
  clear hz
  have a0 := cell_of_row W _ 0 _ _ _ ha
  have a1 := cell_of_row W _ 1 _ _ _ ha
  have b0 := cell_of_row W _ 0 _ _ _ hb
  have b1 := cell_of_row W _ 1 _ _ _ hb
  have HW := hid (And.intro hW hs)
  clear ha hb hs
  go_enter Tryz.func71, Tryz.ntmps71
  go_wp2_with fail
  refine wp_region_quiet_tail 10 (by kernel_rfl) (by kernel_rfl) ?_
  simp only [List.take_succ_cons, List.take_zero, List.drop_succ_cons, List.drop_zero]
  repeat (go_big_quiet_step ((go_at_call 73; first | (with_reducible exact R1.out _) | (with_reducible exact R2.out _))))
  refine wpQuiet_nil ?_
  intro _ hw'
  obtain ⟨nq, hx⟩ := hw'
  subst hx
  clear a0 a1 b0 b1 R1 R2
  have HO : Kpt (∀ W', W'.heap[W.heap.size]? = some (.cells #[.int .i64 x, .int .i64 y] 3 (0, 0)) → Calls Tryz.prog 72 #[.slice (some ⟨W.heap.size, 0, none⟩) 2 2] W' fun e w' => e = .returned (.int .i64 z) ∧ w' = W') := hid fun W' h => by rw [← HZ.out]; exact or_any x y _ W' (cell_of_row _ _ 0 _ _ _ h) (cell_of_row _ _ 1 _ _ _ h)
  have hnew := World.alloc_heap_new (W.drewN nq) (.cells #[.int .i64 x, .int .i64 y] 3)
  have HC := HO.out _ hnew
  clear HO hnew
  go_wp2_with (go_at_call 72; refine HC.mono ?_; rintro e w' ⟨rfl, rfl⟩)
  go_ret
  refine ⟨rfl, nq, #[.cells #[.string am, .string an] 57 , .cells #[.string bm, .string bn] 57, .cells #[.int .i64 x, .int .i64 y] 3], ?_⟩
  rw [← HW.out.1]
  simp only [alloc_eq_grow, grow_grow]
  rfl
end Go.Proofs.YtjedcijddlilaaaGreatDoor

namespace Go.Proofs
open Go.Shelf
def Tryz.sfU_ren : Go.Shelf.Ren := ⟨fun | 6 => 28 | 15 => 76 | 14 => 77 | 28 => 128 | 29 => 129 | 20 => 130 | 21 => 131 | 22 => 132 | 23 => 133 | 24 => 134 | 25 => 135 | 26 => 136 | 27 => 137 | 46 => 180 | 47 => 176 | 48 => 177 | 49 => 181 | 50 => 182 | 57 => 198 | n => n, fun | 22 => 51 | 24 => 57 | 25 => 59 | 3 => 3 | 39 => 107 | 0 => 0 | 53 => 145 | 55 => 147 | 4 => 4 | 46 => 137 | 45 => 136 | 50 => 142 | 5 => 5 | 9 => 9 | 66 => 176 | 70 => 180 | 76 => 189 | 77 => 190 | n => n, fun | n => n⟩
theorem Tryz.sfU : Go.Proofs.SlLaysF0.n6 Tryz.prog Tryz.sfU_ren := {
  mixed := by kernel_rfl
  f6 := ⟨Tryz.f28.name, by decide, Tryz.func28.trans (congrArg some (by kernel_rfl))⟩
  f14 := ⟨Tryz.f77.name, by decide, Tryz.func77.trans (congrArg some (by kernel_rfl))⟩
  f15 := Tryz.func76.trans (congrArg some (by kernel_rfl))
  f20 := ⟨Tryz.f130.name, by decide, Tryz.func130.trans (congrArg some (by kernel_rfl))⟩
  f21 := ⟨Tryz.f131.name, by decide, Tryz.func131.trans (congrArg some (by kernel_rfl))⟩
  f22 := ⟨Tryz.f132.name, by decide, Tryz.func132.trans (congrArg some (by kernel_rfl))⟩
  f23 := ⟨Tryz.f133.name, by decide, Tryz.func133.trans (congrArg some (by kernel_rfl))⟩
  f24 := ⟨Tryz.f134.name, by decide, Tryz.func134.trans (congrArg some (by kernel_rfl))⟩
  f25 := ⟨Tryz.f135.name, by decide, Tryz.func135.trans (congrArg some (by kernel_rfl))⟩
  f26 := ⟨Tryz.f136.name, by decide, Tryz.func136.trans (congrArg some (by kernel_rfl))⟩
  f27 := ⟨Tryz.f137.name, by decide, Tryz.func137.trans (congrArg some (by kernel_rfl))⟩
  f28 := Tryz.func128.trans (congrArg some (by kernel_rfl))
  f29 := Tryz.func129.trans (congrArg some (by kernel_rfl))
  f46 := ⟨Tryz.f180.name, by decide, Tryz.func180.trans (congrArg some (by kernel_rfl))⟩
  f47 := Tryz.func176.trans (congrArg some (by kernel_rfl))
  f48 := Tryz.func177.trans (congrArg some (by kernel_rfl))
  f49 := ⟨Tryz.f181.name, by decide, Tryz.func181.trans (congrArg some (by kernel_rfl))⟩
  f50 := ⟨Tryz.f182.name, by decide, Tryz.func182.trans (congrArg some (by kernel_rfl))⟩
  f57 := ⟨Tryz.f198.name, by decide, Tryz.func198.trans (congrArg some (by kernel_rfl))⟩
  t0 := Tryz.underlying0
  a0 := Tryz.isAgg0
  z0 := Tryz.sizeOf0
  v0 := Tryz.zeroValue0
  t3 := Tryz.underlying3
  a3 := Tryz.isAgg3
  z3 := Tryz.sizeOf3
  v3 := Tryz.zeroValue3
  t4 := Tryz.underlying4
  a4 := Tryz.isAgg4
  z4 := Tryz.sizeOf4
  v4 := Tryz.zeroValue4
  t5 := Tryz.underlying5
  a5 := Tryz.isAgg5
  z5 := Tryz.sizeOf5
  v5 := Tryz.zeroValue5
  t9 := Tryz.underlying9
  a9 := Tryz.isAgg9
  z9 := Tryz.sizeOf9
  v9 := Tryz.zeroValue9
  t22 := Tryz.underlying51
  a22 := Tryz.isAgg51
  z22 := Tryz.sizeOf51
  v22 := Tryz.zeroValue51
  t25 := Tryz.underlying59
  a25 := Tryz.isAgg59
  z25 := Tryz.sizeOf59
  v25 := Tryz.zeroValue59
  t39 := Tryz.underlying107
  a39 := Tryz.isAgg107
  z39 := Tryz.sizeOf107
  v39 := Tryz.zeroValue107
  t45 := Tryz.underlying136
  a45 := Tryz.isAgg136
  z45 := Tryz.sizeOf136
  v45 := Tryz.zeroValue136
  t46 := Tryz.underlying137
  a46 := Tryz.isAgg137
  z46 := Tryz.sizeOf137
  v46 := Tryz.zeroValue137
  t50 := Tryz.underlying142
  a50 := Tryz.isAgg142
  z50 := Tryz.sizeOf142
  v50 := Tryz.zeroValue142
  t53 := Tryz.underlying145
  a53 := Tryz.isAgg145
  z53 := Tryz.sizeOf145
  v53 := Tryz.zeroValue145
  t55 := Tryz.underlying147
  a55 := Tryz.isAgg147
  z55 := Tryz.sizeOf147
  v55 := Tryz.zeroValue147
  t66 := Tryz.underlying176
  a66 := Tryz.isAgg176
  z66 := Tryz.sizeOf176
  v66 := Tryz.zeroValue176
  t70 := Tryz.underlying180
  a70 := Tryz.isAgg180
  z70 := Tryz.sizeOf180
  v70 := Tryz.zeroValue180
  t76 := Tryz.underlying189
  a76 := Tryz.isAgg189
  z76 := Tryz.sizeOf189
  v76 := Tryz.zeroValue189
  t77 := Tryz.underlying190
  a77 := Tryz.isAgg190
  z77 := Tryz.sizeOf190
  v77 := Tryz.zeroValue190 }
end Go.Proofs

namespace Go.Proofs.YtjedcijddlilaaaGreatDoor
open Go.RowKit Go.Maps Go.Sort Go.Shelf Go.Lib
attribute [local go_sem] Oper.semAt_some

instance : Inhabited Us := ⟨⟨⟨#[]⟩, ⟨#[]⟩⟩⟩
theorem flatU (us : List Us) : (flatK Us.cl 2 us.toArray).toList = us.flatMap Us.cl := by
  refine List.ext_getElem? fun t => ?_
  by_cases ht : t < us.length * 2
  · have hj : t / 2 < us.length := by omega
    have hm : t % 2 < 2 := Nat.mod_lt _ (by omega)
    have h1 : us[t / 2]? = some us[t / 2] := List.getElem?_eq_getElem hj
    have h2 : (Us.cl us[t / 2])[t % 2]? = some (Us.cl us[t / 2])[t % 2]! := by
      rw [List.getElem?_eq_getElem (by simpa [Us.cl] using hm), List.getElem!_eq_getElem?_getD, List.getElem?_eq_getElem (by simpa [Us.cl] using hm)]
      rfl
    have h3 := flat_at Us.cl 2 (fun _ => rfl) us (t / 2) (t % 2) _ _ h1 h2
    rw [show t / 2 * 2 + t % 2 = t by omega] at h3
    rw [h3]
    have h4 := get_flatK Us.cl 2 us.toArray t (by simpa using ht)
    have h5 : t < (flatK Us.cl 2 us.toArray).size := by simpa using ht
    rw [Array.getElem?_toList, Array.getElem?_eq_getElem h5]
    rw [getElem!_pos _ t h5] at h4
    rw [h4]
    simp [hj]
  · rw [List.getElem?_eq_none (by simp; omega), List.getElem?_eq_none (by rw [len_flatU]; omega)]
theorem holds_id {w : World} {g : Nat} {cur : Array Value} {e : TypeId} {F : Array Value} (hb : w.heap[g]? = some (.cells cur e (0, 0))) (ht : cur.toList.take F.size = F.toList) : Holds id w g 0 F := by
  intro j hj
  refine ⟨?_, by simp [World.frozen?, hb]⟩
  have h1 : (cur.toList.take F.size)[j]? = F.toList[j]? := by rw [ht]
  rw [List.getElem?_take_of_lt hj] at h1
  simp only [World.cell?, hb, Nat.zero_add]
  simp only [Option.isSome_none, Bool.false_eq_true, if_false]
  rw [← Array.getElem?_toList, h1]
  simp [hj]
theorem heap_sortedI {w : World} {g n : Nat} {os : Array Obj} {cur : Array Value} {e : TypeId} {fr : Nat × Nat} (d : Array Value) (hb : w.heap[g]? = some (.cells cur e fr)) :
    (grow (putRow id (Sort.ahead w n) g 0 d) os).heap[g]? = some (.cells (putCells id 0 d cur) e fr) := by
  have hg : g < w.heap.size := (Array.getElem?_eq_some_iff.1 hb).1
  rw [heap_grow_old _ _ (by simpa using hg)]
  simp [putRow, mapBlock, Sort.ahead, Array.getElem?_modify, hb, onCells]
theorem grownBy_sortedI {w : World} {g n : Nat} {os : Array Obj} (d : Array Value) : w.grownBy (grow (putRow id (Sort.ahead w n) g 0 d) os) (some g) := by
  refine ⟨rfl, rfl, rfl, by simp, fun k hk hne => ?_⟩
  rw [heap_grow_old _ _ (by simpa using hk)]
  have : g ≠ k := fun e => hne (by rw [e])
  simp [putRow, mapBlock, Sort.ahead, Array.getElem?_modify, this]
theorem take_putI (cur : Array Value) (ts : Array Value) (h : ts.size ≤ cur.size) : (putCells id 0 ts cur).toList.take ts.size = ts.toList := by
  apply List.ext_getElem?
  intro j
  by_cases hj : j < ts.size
  · rw [List.getElem?_take_of_lt hj, Array.getElem?_toList]
    simp [putCells, hj, show j < cur.size by omega]
  · rw [List.getElem?_take_eq_none (by omega), List.getElem?_eq_none (by simp; omega)]
set_option maxHeartbeats 1000000 in
theorem sortU_any (us : List Us) (v : Value) (base : Nat) (W : World) (hown : W.ownsRow base 57 2 v us.length (us.flatMap Us.cl)) (hl : us.length ≤ 1099511627776) :
    Calls Tryz.prog 28 #[v, .func (.func 71) #[] #[]] W fun e w' => e = .returned (.tuple #[]) ∧ w'.ownsRow base 57 2 v (sortedU us).length ((sortedU us).flatMap Us.cl) ∧ Below base W w' := by
  have hln : (sortedU us).length = us.length := List.length_mergeSort _
  rcases hown.2 with ⟨rfl, h0⟩ | ⟨g, cap, cur, rfl, hbase, hb, h1, h2, h3, h4⟩
  · have hus : us = [] := List.eq_nil_of_length_eq_zero h0
    subst hus
    have hcon := AnyF.slices_SortFunc_none { Tryz.sfU with } none 0 (.func (.func 71) #[] #[]) W
    change Calls _ 28 _ _ _ at hcon
    have hs0 : sortedU [] = [] := List.mergeSort_nil
    rw [hs0]
    exact hcon.mono fun e w' h => ⟨h.1, by rw [h.2]; exact hown, by rw [h.2]; exact Below.refl _ _⟩
  · have hF : (flatK Us.cl 2 us.toArray).size = us.length * 2 := by simp
    have hH : HoldsK Us.cl 2 W g 0 us.toArray := holds_id hb (by rw [hF, flatU]; exact h4)
    have hcmp : CmpLays Tryz.prog 71 #[] Us.cl 2 cmpU g 0 us.toArray.size W := fun _ _ _ _ x y => cmpU_any x y _
    have hcon := AnyQ.slices_SortFunc_total Tryz.sfU 2 Tryz.isAgg57 Tryz.sizeOf57 Us.cl (fun _ => rfl) (fun x v hv => by simp [Us.cl] at hv; rcases hv with rfl | rfl <;> rfl) cmpU swoU 71 #[] g 0 cap us.toArray W
      (enters_of Tryz.func71 (by kernel_rfl) rfl) hcmp hH (Array.getElem?_eq_some_iff.1 hb).1 (by simp; omega) totU
    change Calls _ 28 _ _ _ at hcon
    refine hcon.mono ?_
    rintro e w' ⟨rfl, n, os, rfl⟩
    have hFs : (flatK Us.cl 2 (sortedU us).toArray).size = us.length * 2 := by simp [hln]
    have hsz : (putCells id 0 (flatK Us.cl 2 (sortedU us).toArray) cur).size = cap * 2 := by rw [← h3]; simp [putCells]
    have htk : (putCells id 0 (flatK Us.cl 2 (sortedU us).toArray) cur).toList.take (us.length * 2) = (sortedU us).flatMap Us.cl := by
      have h := take_putI cur (flatK Us.cl 2 (sortedU us).toArray) (by rw [hFs, h3]; omega)
      rw [hFs, flatU] at h
      exact h
    rw [hln]
    refine ⟨rfl, ⟨by rw [len_flatU, hln], .inr ⟨g, cap, _, rfl, hbase, heap_sortedI (flatK Us.cl 2 (sortedU us).toArray) hb, h1, h2, hsz, htk⟩⟩, ?_⟩
    have hgl := (Array.getElem?_eq_some_iff.1 hb).1
    have hg9 := grownBy_sortedI (w := W) (g := g) (n := n) (os := os) (flatK Us.cl 2 (sortedU us).toArray)
    exact ⟨hg9.os, hg9.tape, hg9.output, hg9.size, fun i hi => hg9.block i (Nat.lt_of_lt_of_le hi (by omega)) (fun e => by cases e; omega)⟩
set_option maxHeartbeats 1000000 in
theorem sortedU_in (n : Nat) (hn : 4 ≤ n) (g : Nat) (lb : Array Value) (eg : ∀ args w, (callFunc g args).run Tryz.prog w = .ok (.enter g args) w)
    (S : List Us → Prop) (N : Nat) (hN : N ≤ 1099511627776) (hS : ∀ us, S us → us.length ≤ 1099511627776) (w : World) (hseq : SeqGives Fence.wide (n - 1 - 1 - 1) Tryz.prog g lb Us.v S N w) :
    CallsIn Fence.wide n Tryz.prog 69 #[.func (.func g) #[] lb, .func (.func 71) #[] #[]] w fun e w' => ∃ (v : Value) (us : List Us), e = .returned v ∧ S us ∧ w'.ownsRow (w.heap.size + 1) 57 2 v (sortedU us).length ((sortedU us).flatMap Us.cl) ∧ Below w.heap.size w w' := by
  refine callsIn_of_wp Tryz.func69 rfl trivial ?_ rfl
  simp only [Tryz.ntmps69, List.size_toArray, List.length_cons, List.length_nil, Nat.reduceAdd, Nat.reduceSub, Array.replicate_succ, Array.replicate_zero, List.push_toArray, List.append_toArray, List.nil_append, List.cons_append]
  have HA := collectU_in (n - 1) (by omega) g lb eg S N hN w hseq
  have h1 : 1 ≤ n := by omega
  have hfA : Fence.wide.fn 116 := trivial
  have hfB : Fence.wide.fn 28 := trivial
  gi_wp2_with (first
    | (gi_at_call 116; refine HA.mono ?_; rintro e W1 ⟨v, us, rfl, hSu, hrow, hb⟩; have HB := hid ((callsIn_wide (n := n - 1)).2 (sortU_any us v (w.heap.size + 1) W1 hrow (hS us hSu))))
    | (gi_at_call 28; refine HB.out.mono ?_; rintro e W2 ⟨rfl, hrow2, hb2⟩))
  go_ret
  exact ⟨v, us, rfl, hSu, hrow2, hb.trans (hb2.mono (Nat.le_succ _))⟩
end Go.Proofs.YtjedcijddlilaaaGreatDoor

namespace Go.Proofs.YtjedcijddlilaaaGreatDoor
open Go.RowKit Go.Shelf Go.Maps Go.Sort
attribute [local go_sem] Oper.semAt_some

set_option maxRecDepth 100000 in
set_option maxHeartbeats 8000000 in
theorem mentions_any {t : Ty} {v : Value} {w : World} (hv : TyV w v t) (hbig : t.size ≤ 1099511627776) (hn : ∀ p ∈ t.nodes, p.m.size ≤ maxLen ∧ p.n.size ≤ maxLen) :
    Calls Tryz.prog 25 #[v] w fun e w' => ∃ (fv : Value) (M : List Us), Ments t M ∧ e = .returned fv ∧ w'.ownsRow w.heap.size 57 2 fv M.length (M.flatMap Us.cl) ∧ RowKit.Below w.heap.size w w' := by
  obtain ⟨x, rfl, rfl⟩ := tyI_of hv
  clear hv
  have hmm := @run_makeMap Tryz.prog
  have HN : Kpt (∀ w, Calls Tryz.prog 48 #[.agg #[.int .i64 x.t.k, .string x.t.m, .string x.t.n, .slice x.aa x.t.A.len x.ca, .slice x.af x.t.F.len x.cf]] w
    fun e w' => e = .returned (.func (.func 154) #[] #[.pointer (some ⟨w.heap.size + 1, 0, none⟩), .pointer (some ⟨w.heap.size + 2, 0, none⟩)]) ∧
      w' = ((w.alloc (.cells x.cells 25)).alloc (.cells x.cells 25)).alloc (.cells #[.func (.func 79) #[] #[]] 79)) := hid (fun w => typeNodes_any x w)
  have HXc := hid (show x.cells = #[.int .i64 x.t.k, .string x.t.m, .string x.t.n, .slice x.aa x.t.A.len x.ca, .slice x.af x.t.F.len x.cf] from rfl)
  have HNm := hid hn
  clear hn
  show Calls Tryz.prog 25 #[.agg #[.int .i64 x.t.k, .string x.t.m, .string x.t.n, .slice x.aa x.t.A.len x.ca, .slice x.af x.t.F.len x.cf]] w _
  refine (callsIn_wide (n := 9)).1 ?_
  refine callsIn_of_wp_marks Tryz.func25 rfl trivial ?_ rfl
  simp only [Tryz.ntmps25, List.size_toArray, List.length_cons, List.length_nil, Nat.reduceAdd, Nat.reduceSub, Array.replicate_succ, Array.replicate_zero, List.push_toArray, List.append_toArray, List.nil_append, List.cons_append]
  gi_wp2_with fail
  refine ⟨trivial, callsIn_wide.2 ((HN.out _).mono ?_)⟩
  rintro e W6 ⟨rfl, hW6⟩
  simp only [World.size_alloc] at hW6 ⊢
  rw [← HXc.out] at hW6
  gi_wp2_with fail
  have hm0 := World.ownsMap_made (w.alloc (.cells x.cells 25)) Tryz.prog 57 (plainElem (H := Unit) Tryz.prog 4)
  have b0 : Boxed W6 (w.heap.size + 1 + 1) 97 (.map (some (w.heap.size + 1))) := by
    rw [hW6]; have h := (((Boxed.new ((w.alloc (.cells x.cells 25)).alloc (.map #[] 0)) 97 (.map (some (w.heap.size + 1)))).alloc (.cells x.cells 25)).alloc (.cells x.cells 25)).alloc (.cells #[.func (.func 79) #[] #[]] 79)
    simpa only [World.size_alloc] using h
  have b1 : W6.ownsMap Tryz.prog 57 (plainElem (H := Unit) Tryz.prog 4) (w.heap.size + 1) 0 (.map []) := by
    rw [hW6]; have h := (((hm0.alloc (.cells #[.map (some (w.heap.size + 1))] 97)).alloc (.cells x.cells 25)).alloc (.cells x.cells 25)).alloc (.cells #[.func (.func 79) #[] #[]] 79)
    simpa only [World.size_alloc] using h
  have b2 : W6.heap[w.heap.size + 1 + 1 + 1 + 1]? = some (.cells x.cells 25 (0, 0)) := by
    rw [hW6]
    refine (RowKit.Below.heap_alloc _ _ _ (by simp)).trans ?_
    have h := World.alloc_heap_new ((((w.alloc (.cells x.cells 25)).alloc (.map #[] 0)).alloc (.cells #[.map (some (w.heap.size + 1))] 97)).alloc (.cells x.cells 25)) (.cells x.cells 25)
    simpa only [World.size_alloc] using h
  have b3 : Boxed W6 (w.heap.size + 1 + 1 + 1 + 2) 79 (.func (.func 79) #[] #[]) := by
    rw [hW6]; have h := Boxed.new (((((w.alloc (.cells x.cells 25)).alloc (.map #[] 0)).alloc (.cells #[.map (some (w.heap.size + 1))] 97)).alloc (.cells x.cells 25)).alloc (.cells x.cells 25)) 79 (.func (.func 79) #[] #[])
    simpa only [World.size_alloc] using h
  have hsz : W6.heap.size = w.heap.size + 6 := by rw [hW6]; simp
  have hB : RowKit.Below w.heap.size w W6 := by
    rw [hW6]; exact ((((((RowKit.Below.refl _ w).alloc (Nat.le_refl _) _).alloc (by simp) _).alloc (by simp; omega) _).alloc (by simp; omega) _).alloc (by simp; omega) _).alloc (by simp; omega) _
  clear hW6 hm0
  refine range_box 4 25 TyI.cells (gf := 154) (lb := #[.pointer (some ⟨w.heap.size + 1 + 1 + 1 + 1, 0, none⟩), .pointer (some ⟨w.heap.size + 1 + 1 + 1 + 2, 0, none⟩)]) rfl (enters_of Tryz.func154 (by kernel_rfl) rfl)
    (nodes_seq w x hbig (w.heap.size + 1 + 1 + 1 + 1) (w.heap.size + 1 + 1 + 1 + 2) W6 b2 b3 (KeepX.of_below hB) (fun i => i = w.heap.size + 1) (fun i hi => by omega))
    (fun i hi => by omega) (RowKit.Below.refl _ _) (fun _ => rfl)
    (fun pre W => W.ownsMap Tryz.prog 57 (plainElem (H := Unit) Tryz.prog 4) (w.heap.size + 1) pre.length (useD (pre.map (·.t))) ∧ Boxed W (w.heap.size + 1 + 1) 97 (.map (some (w.heap.size + 1))) ∧ RowKit.Below w.heap.size w W)
    (fun _ _ _ => False) ?hI (fun c s A B h _ => h) ⟨b1, b0, hB⟩ ?assign ?body ?done ?stop
  case hI =>
    intro s' A B hs hb
    exact ⟨own_mapU hs.1 (by omega) hb, (hb.block _ (by omega)).trans hs.2.1, hs.2.2.trans (hb.mono (by omega))⟩
  case assign =>
    intro m l' y W'
    dsimp only [TyI.v, TyI.cells]
    gi_wp2_with fail
    exact ⟨trivial, by simp⟩
  case body =>
    rintro m l' Bx pre y W7 hl hlB hwB hBW hbx ⟨r, hr⟩ ⟨h1, h2, h3⟩ hv
    have hlen : pre.length + 1 ≤ 1099511627776 := by
      have h := hv.length_le
      rw [List.length_map, List.length_append, List.length_singleton, Ty.nodes_len] at h
      omega
    rw [List.map_append] at hv
    have hns := HNm.out y.t (hv.subset (by simp))
    have e0 := cell_of_row W7 Bx 0 _ _ _ hbx
    have e1 := cell_of_row W7 Bx 1 _ _ _ hbx
    have e2 := cell_of_row W7 Bx 2 _ _ _ hbx
    have e5 := h2.cell
    have HZ := hid (And.intro h2 h3)
    clear h2 h3 hv hbx
    dsimp only [TyI.v, TyI.cells] at e0 e1 e2 ⊢
    by_cases hk : y.t.k = 10
    · have hkk : (y.t.k == 10) = true := by rw [hk]; rfl
      have HK := hid hk
      clear hk
      gi_wp2_with (gi_at_mapUpdate; go_loud (refine wpListIn_mapUpdate_own _ rfl _ _ _ 97 rfl 57 4 keyedU Tryz.underlying97 _ (w.heap.size + 1) pre.length _ rfl h1 (by unfold maxLen; omega) _ _ _ rfl rfl (keyOfU (u := ⟨y.t.m, y.t.n⟩) hns) _ [] (plainElem_bool Tryz.underlying4 true) ?_); intro w1 hown1 hgrow1)
      have hb7 : RowKit.Below w.heap.size W7 w1 := (RowKit.Below.refl _ W7).grown hgrow1 (by omega) (fun k e => by cases e; omega)
      refine ⟨⟨hgrow1.size, fun i hi hx => hgrow1.block i hi (fun e => hx (by cases e; rfl))⟩, ?_, (hgrow1.block _ (by omega) (by simp only [ne_eq, Option.some.injEq]; omega)).trans HZ.out.1, HZ.out.2.trans hb7⟩
      rw [List.map_append, List.length_append]
      have h9 := useD_ref (H := Unit) (pre.map (·.t)) y.t HK.out
      simp only [List.map_cons, List.map_nil]
      rw [h9]
      exact hown1
    · have hkk : (y.t.k == 10) = false := by rw [beq_eq_false_iff_ne]; exact hk
      have HK := hid hk
      clear hk
      gi_wp2_with fail
      refine ⟨KeepX.refl _ _, ?_, HZ.out.1, HZ.out.2⟩
      rw [List.map_append, List.length_append]
      have h9 := useD_not (H := Unit) (pre.map (·.t)) y.t HK.out
      simp only [List.map_cons, List.map_nil]
      rw [h9]
      exact h1.mono (by omega)
  case done =>
    rintro D ys W9 hD hS ⟨h1, h2, h3⟩ hK
    have hs9 := h3.size
    have hlen : ys.length ≤ 1099511627776 := by
      have h := congrArg List.length hS
      rw [List.length_map, Ty.nodes_len] at h
      omega
    have hsz9 := h1.size_le
    have c0 := h2.cell
    have hbl := h1.lt
    have hseq := SeqGives.bounded (keysU_gives 5 (by omega) W9.heap.size (w.heap.size + 1) ys.length (useD (H := Unit) (ys.map (·.t))) (W9.alloc (.cells #[.map (some (w.heap.size + 1))] 97)) (cell_of_row _ _ 0 _ _ _ (World.alloc_heap_new W9 _)) (own_mapU h1 hbl ((Below.refl _ W9).alloc (Nat.le_refl _) _)))
    have hN : Maps.size (useD (H := Unit) (ys.map (·.t))) ≤ x.t.size := by
      have h := congrArg List.length hS
      rw [List.length_map, Ty.nodes_len] at h
      omega
    have cK := fun (mb : Option Nat) (W : World) => keysU_any mb 8 W
    have cS := sortedU_in 8 (by omega) 117 #[.pointer (some ⟨W9.heap.size, 0, none⟩)] (enters_of Tryz.func117 (by kernel_rfl) rfl) _ _ (by omega) (fun us h => by have h9 := h.2; omega) _ hseq
    have hfK : Fence.wide.fn 70 := trivial
    have hfS : Fence.wide.fn 69 := trivial
    have HP := hid (And.intro hN (And.intro h3 (And.intro hK hS)))
    clear h1 h2 h3 hK hS hseq hN
    gi_wp2_with (first
      | (gi_at_call 70; refine (cK _ _).mono ?_; rintro e w' ⟨rfl, rfl⟩)
      | (gi_at_call 69; refine cS.mono ?_; rintro e w' ⟨v, us, rfl, hG, hrow, hb⟩))
    have hDl : D < W9.heap.size := (Array.getElem?_eq_some_iff.1 HP.out.2.2.1).1
    have hal : RowKit.Below W9.heap.size W9 (W9.alloc (.cells #[.map (some (w.heap.size + 1))] 97)) := (RowKit.Below.refl _ W9).alloc (Nat.le_refl _) _
    have hb9 : RowKit.Below W9.heap.size W9 w' := hal.trans (hb.mono hal.size)
    have hKD : w'.heap[D]? = some (.deferred (some [])) := (hb9.block D hDl).trans HP.out.2.2.1
    have hu := hG.1.uses (fun t ht => HNm.out t (by rw [← HP.out.2.2.2]; exact ht))
    have hM : Ments x.t (sortedU us) := by
      refine ⟨sortedU_sort hu.1, fun z => ?_, ?_⟩
      · rw [(sortedU_perm us).mem_iff, hu.2 z, HP.out.2.2.2]
      · have h8 := HP.out.1
        have h9 := hG.2
        have h7 : (sortedU us).length = us.length := List.length_mergeSort _
        omega
    refine ⟨by simp, .inl ⟨_, _, rfl, run_takeDeferred hKD, ?_⟩⟩
    refine ⟨_, results_tmp rfl _ _ _, v, sortedU us, hM, rfl, ownsRow_putObj (own_mono hrow (by simp; omega)) _ hKD rfl, (HP.out.2.1.trans (hb9.mono hs9)).trans (below_put (by omega) hKD)⟩
  case stop =>
    rintro D c pre W hD hv h _
    exact h.elim
end Go.Proofs.YtjedcijddlilaaaGreatDoor
