/- syntax: a range over an iterator that calls itself: a law of one's own, for invariants that speak of what lay ahead of the loop. -/
import Derived.Test.YtjedcijddlilaaaGreatDoorSyP
import Derived.RangeFuncNested
import Derived.RangeFuncBox
import Derived.RangeFuncBound
import Derived.RangeFuncCalls
import Derived.RangeFuncLeaves
import Derived.Shelf.Abstract
import Derived.WalkKit
import Derived.OwnWalkIn
import Derived.TacticsInMore
import Derived.RegionIn
import Derived.LoopNIn
import Derived.LoopIn
namespace Go.Proofs.YtjedcijddlilaaaGreatDoor
open Go.RowKit

/-- All that lay lies as it lay, but what X names. -/
def KeepX (X : Nat → Prop) (W W' : World) : Prop := W.heap.size ≤ W'.heap.size ∧ ∀ i, i < W.heap.size → ¬ X i → W'.heap[i]? = W.heap[i]?
theorem KeepX.refl (X : Nat → Prop) (W : World) : KeepX X W W := ⟨Nat.le_refl _, fun _ _ _ => rfl⟩
theorem KeepX.trans {X : Nat → Prop} {A B C : World} (h : KeepX X A B) (k : KeepX X B C) : KeepX X A C := ⟨Nat.le_trans h.1 k.1, fun i hi hx => (k.2 i (Nat.lt_of_lt_of_le hi h.1) hx).trans (h.2 i hi hx)⟩
theorem KeepX.mono {X Y : Nat → Prop} {A B : World} (h : KeepX X A B) (hxy : ∀ i, X i → Y i) : KeepX Y A B := ⟨h.1, fun i hi hx => h.2 i hi fun hx' => hx (hxy i hx')⟩
theorem KeepX.of_below {X : Nat → Prop} {A B : World} (h : Below A.heap.size A B) : KeepX X A B := ⟨h.size, fun i hi _ => h.block i hi⟩
theorem KeepX.put {A : World} {l : Nat} (o : Obj) : KeepX (fun i => i = l) A (A.putObj l o) := ⟨by simp [World.putObj], fun i _ hx => World.putObj_heap_other hx⟩
theorem KeepX.cell {X : Nat → Prop} {A B : World} (h : KeepX X A B) {a : Addr} {v : Value} (hx : ¬ X a.block) (hc : A.cell? a = some v) : B.cell? a = some v := by
  have hl := World.block_lt_of_cell? A a hc
  have hb := h.2 _ hl hx
  unfold World.cell? at hc ⊢
  rw [hb]; exact hc
theorem KeepX.old {X : Nat → Prop} {w0 A B : World} (h : KeepX (fun _ => False) w0 A) (k : KeepX X A B) (hX : ∀ i, X i → w0.heap.size ≤ i) : KeepX (fun _ => False) w0 B :=
  ⟨Nat.le_trans h.1 k.1, fun i hi _ => (k.2 i (Nat.lt_of_lt_of_le hi h.1) (fun hx => by have := hX i hx; omega)).trans (h.2 i hi (fun hf => hf))⟩
theorem KeepX.set (A : World) (B : Nat) (v : Value) : KeepX (fun i => i = B) A (A.setCell ⟨B, 0, none⟩ v) :=
  ⟨(grownBy_setCell' A B v).size, fun i hi hx => (grownBy_setCell' A B v).block i hi (fun e => hx (by cases e; rfl))⟩
theorem below_set {b : Nat} (A : World) {B : Nat} (v : Value) (h : b ≤ B) : Below b A (A.setCell ⟨B, 0, none⟩ v) := (Below.refl b A).setCell (p := ⟨B, 0, none⟩) h v
theorem putObj_size (A : World) (l : Nat) (o : Obj) : (A.putObj l o).heap.size = A.heap.size := by simp [World.putObj]
theorem below_put {b : Nat} {A : World} {l : Nat} {o o' : Obj} (hl : b ≤ l) (h : A.heap[l]? = some o) : Below b A (A.putObj l o') :=
  (Below.refl b A).grown (grownBy_putObj' A l o') (by have := (Array.getElem?_eq_some_iff.1 h).1; omega) (fun k e => by cases e; omega)

/-- How a round may be left. -/
def PostX {α : Type} (X : Nat → Prop) (b : Nat) (I : List α → World → Prop) (Ix : Code → List α → World → Prop) (xs : List α) (W : World) : Exit → Act → World → Prop
  | .normal, _, W' => KeepX X W W' ∧ I xs W'
  | .ret, _, W' => KeepX (· < b) W W' ∧ Ix .ret xs W'
  | .exit id, _, W' => KeepX (· < b) W W' ∧ Ix (.exit id) xs W'
  | .goto t, _, W' => KeepX (· < b) W W' ∧ Ix (.goto t) xs W'
  | .panic _, _, _ => False
  | .outgrown, _, _ => False
/-- Stable under what leaves all below b. -/
def Stab {α : Type} (b : Nat) (J : List α → World → Prop) : Prop := ∀ s A B, J s A → Below b A B → J s B
theorem Stab.mono {α : Type} {b c : Nat} {J : List α → World → Prop} (h : Stab b J) (hbc : b ≤ c) : Stab c J := fun s A B hj hb => h s A B hj (hb.mono hbc)

/-- An iterator's word. -/
def SeqB {α : Type} (P : Program) (g : Nat) (lb : Array Value) (encs : α → Array Value) (X : Nat → Prop) (S V : List α → Prop) (w : World) : Prop :=
  ∀ (n l : Nat) (J Jx : List α → World → Prop) (W : World), Below w.heap.size w W → Stab W.heap.size J → Stab W.heap.size Jx →
    (∀ m pre x W1, J pre W1 → V (pre ++ [x]) → YieldAt Fence.wide m P l (encs x) W1 fun e W' =>
      (e = .returned (.bool true) ∧ J (pre ++ [x]) W' ∧ KeepX X W1 W') ∨ (e = .returned (.bool false) ∧ Jx (pre ++ [x]) W' ∧ KeepX (· < W.heap.size) W1 W')) →
    J [] W →
    CallsIn Fence.wide n P g (#[.func (.yield l) #[] #[]] ++ lb) W fun e W' => (∃ v, e = .returned v) ∧ ((∃ xs, S xs ∧ J xs W') ∨ (∃ pre, V pre ∧ Jx pre W'))

theorem round_wide {m m' : Nat} {P : Program} {l : Nat} {f : FuncId} {tmps : Array Value} {assign body : Code} {w : World} {R : Ending → World → Prop}
    (h : RoundIn Fence.wide m P l f tmps assign body w R) : RoundIn Fence.wide m' P l f tmps assign body w R := ⟨h.1, fun c cs _ => h.2 c cs (fun d hd => by cases hd)⟩
theorem yield_wide {m m' : Nat} {P : Program} {l : Nat} {args : Array Value} {W : World} {R : Ending → World → Prop} (h : YieldAt Fence.wide m P l args W R) : YieldAt Fence.wide m' P l args W R := by
  obtain ⟨fn, tmps, assign, body, hy, hR⟩ := h
  exact ⟨fn, tmps, assign, body, hy, round_wide hR⟩

set_option maxHeartbeats 1000000 in
/-- The loop, entered. -/
theorem range_core {α : Type} {F : Fence} {n : Nat} {P : Program} {w : World} {g : Operand} {ps : Array Tmp} {assign body : Code} {Q : Exit → Act → World → Prop} {a : Act}
    (hF : F = Fence.wide ∨ ∃ l₀, F = Fence.wide.inRound l₀) {gf : Nat} {lb : Array Value} (hg : a.eval g = .func (.func gf) #[] lb) (eg : ∀ args w, (callFunc gf args).run P w = .ok (.enter gf args) w)
    {l df : Nat} {mark : List Deferred} {W1 : World}
    (henter : ∀ fn, (Instr.enterLoop fn a.tmps ps assign body F.round).run P w = .ok (l, mark) (W1.alloc (.loop { state := .ready, pending := none, fn, tmps := a.tmps, params := ps, assign, body, defers := df })))
    (hW1 : Below w.heap.size w W1) (hl : l = W1.heap.size)
    {encs : α → Array Value} {X : Nat → Prop} {S V : List α → Prop} {w0 : World} (hseq : SeqB P gf lb encs X S V w0)
    (hX : ∀ i, X i → i < w.heap.size) (hb0 : Below w0.heap.size w0 w) (hps : ∀ x, (encs x).size = ps.size)
    (I : List α → World → Prop) (Ix : Code → List α → World → Prop) (hI : Stab w.heap.size I) (hIx : ∀ c, Stab w.heap.size (Ix c)) (h0 : I [] w) (Ax : α → Act → World → World → Prop)
    (hassign : ∀ (m l : Nat) (pre : List α) (x : α) (W : World), I pre W → l < W.heap.size → w.heap.size ≤ l →
      assign.wpIn (F.inRound l) m P (Exit.then (fun a' W' => Below W.heap.size W W' ∧ Ax x a' W W') (fun _ _ _ => False)) { tmps := (ps.zip (encs x)).foldl (fun t (p, v) => t.setIfInBounds p v) a.tmps, defers := [] } W)
    (hbody : ∀ (m l : Nat) (pre : List α) (x : α) (a' : Act) (W Wa Wb : World), w.heap.size ≤ l → l < W.heap.size → (∃ r, Wb.heap[l]? = some (.loop r)) → Below W.heap.size W Wa → Ax x a' W Wa → I pre Wb → KeepX (fun i => i = l) Wa Wb → V (pre ++ [x]) →
      body.wpIn (F.inRound l) m P (PostX X w.heap.size I Ix (pre ++ [x]) Wb) a' Wb)
    (hdone : ∀ (xs : List α) (W : World), S xs → I xs W → (∀ i, w.heap.size ≤ i → i < l → W.heap[i]? = W1.heap[i]?) → Q .normal { a with defers := mark ++ a.defers } W)
    (hstop : ∀ (c : Code) (pre : List α) (W : World), V pre → Ix c pre W → (∀ i, w.heap.size ≤ i → i < l → W.heap[i]? = W1.heap[i]?) → c.wpIn F n P Q { a with defers := mark ++ a.defers } W) :
    (Code.rangeFunc g ps assign body).wpIn F n P Q a w := by
  refine wpIn_rangeFunc ?_
  intro fn hfn
  obtain ⟨rec, hrec⟩ : ∃ rec : LoopState → Option Code → Loop, rec = fun st pe => { state := st, pending := pe, fn, tmps := a.tmps, params := ps, assign, body, defers := df } := ⟨_, rfl⟩
  have hent := henter fn
  have hr0 : ({ state := .ready, pending := none, fn, tmps := a.tmps, params := ps, assign, body, defers := df } : Loop) = rec .ready none := by rw [hrec]
  rw [hr0] at hent
  obtain ⟨W2, hW2⟩ : ∃ W2, W1.alloc (.loop (rec .ready none)) = W2 := ⟨_, rfl⟩
  rw [hW2] at hent
  have hL2 : W2.heap[l]? = some (.loop (rec .ready none)) := by rw [← hW2, hl]; exact World.alloc_heap_new _ _
  have hB12 : Below W1.heap.size W1 W2 := by rw [← hW2]; exact (Below.refl _ W1).alloc (Nat.le_refl _) _
  have hB2 : Below w.heap.size w W2 := hW1.trans (hB12.mono hW1.size)
  have hs2 : W2.heap.size = l + 1 := by rw [← hW2, World.size_alloc, hl]
  have hwl : w.heap.size ≤ l := by rw [hl]; exact hW1.size
  refine ⟨l, mark, W2, { target := .fn (.func gf) lb, args := #[.func (.yield l) #[] #[]] }, W2, gf, #[.func (.yield l) #[] #[]] ++ lb, W2, hent, ?_, ?_, ?_, ?_, ?_⟩
  · simp only [resolve, hg]
    simp [go_sem]
  · intro f' hf'
    rcases hF with rfl | ⟨_, rfl⟩ <;> trivial
  · simp [invoke, go_sem, eg]
  · intro h
    rcases hF with rfl | ⟨_, rfl⟩ <;> cases h
  have hcall := hseq (n - 1) l
    (fun pre W => I pre W ∧ W.heap[l]? = some (.loop (rec .ready none)) ∧ ∀ i, w.heap.size ≤ i → i < l → W.heap[i]? = W1.heap[i]?)
    (fun pre W => ∃ c, Ix c pre W ∧ W.heap[l]? = some (.loop (rec .done (some c))) ∧ ∀ i, w.heap.size ≤ i → i < l → W.heap[i]? = W1.heap[i]?)
    W2 (hb0.trans (hB2.mono hb0.size))
    (fun s A B hs hb => ⟨hI s A B hs.1 (hb.mono (by omega)), (hb.block l (by omega)).trans hs.2.1, fun i h1 h2 => (hb.block i (by omega)).trans (hs.2.2 i h1 h2)⟩)
    (fun s A B hs hb => by
      obtain ⟨c, h1, h2, h3⟩ := hs
      exact ⟨c, hIx c s A B h1 (hb.mono (by omega)), (hb.block l (by omega)).trans h2, fun i h4 h5 => (hb.block i (by omega)).trans (h3 i h4 h5)⟩)
    ?_ ⟨hI _ _ _ h0 hB2, hL2, fun i _ h2 => hB12.block i (by omega)⟩
  · have conv : ∀ {ags : Array Value} {R : Ending → World → Prop}, CallsIn Fence.wide (n - 1) P gf ags W2 R → CallsIn F (n - 1) P gf ags W2 R := by
      intro ags R h
      rcases hF with rfl | ⟨l₀, rfl⟩
      · exact h
      · exact h.inRound l₀
    refine (conv hcall).mono ?_
    rintro e W3 ⟨⟨v, rfl⟩, (⟨xs, hS, hi, hl3, hfr⟩ | ⟨pre, hSp, c, hi, hl3, hfr⟩)⟩
    · refine ⟨none, _, by have := run_endLoop (P := P) hl3 (by rw [hrec]; simp); rw [hrec] at this; exact this, ?_⟩
      exact hdone xs _ hS (hI _ _ _ hi (below_put hwl hl3)) fun i h1 h2 => (World.putObj_heap_other (by omega)).trans (hfr i h1 h2)
    · refine ⟨some c, _, by have := run_endLoop (P := P) hl3 (by rw [hrec]; simp); rw [hrec] at this; exact this, ?_⟩
      exact hstop c pre _ hSp (hIx _ _ _ _ hi (below_put hwl hl3)) fun i h1 h2 => (World.putObj_heap_other (by omega)).trans (hfr i h1 h2)
  · rintro m pre x W ⟨hi, hlw, hfr⟩ hlen
    have hlt : l < W.heap.size := (Array.getElem?_eq_some_iff.1 hlw).1
    have hy := run_yield (P := P) (args := encs x) hlw (by rw [hrec]; exact hps x)
    rw [hrec] at hy
    refine ⟨fn, _, assign, body, hy, ?_⟩
    have hR : RoundIn F m P l fn ((ps.zip (encs x)).foldl (fun t (p, v) => t.setIfInBounds p v) a.tmps) assign body W fun e W' =>
      (e = .returned (.bool true) ∧ (I (pre ++ [x]) W' ∧ W'.heap[l]? = some (.loop (rec .ready none)) ∧ ∀ i, w.heap.size ≤ i → i < l → W'.heap[i]? = W1.heap[i]?) ∧ KeepX X W W') ∨
      (e = .returned (.bool false) ∧ (∃ c, Ix c (pre ++ [x]) W' ∧ W'.heap[l]? = some (.loop (rec .done (some c))) ∧ ∀ i, w.heap.size ≤ i → i < l → W'.heap[i]? = W1.heap[i]?) ∧ KeepX (· < W2.heap.size) W W') := by
      refine roundIn_of_wpIn hfn (wpIn_mono (hassign m l pre x W hi hlt hwl) ?_)
      intro e a' Wa hq
      cases e with
      | normal =>
        obtain ⟨hba, hax⟩ := hq
        have hla : Wa.heap[l]? = some (.loop (rec .ready none)) := (hba.block l hlt).trans hlw
        have hlta : l < Wa.heap.size := (Array.getElem?_eq_some_iff.1 hla).1
        refine ⟨_, run_beginRound hla (by rw [hrec]), ?_⟩
        have hlb : (Wa.putObj l (.loop { rec .ready none with state := .busy })).heap[l]? = some (.loop { rec .ready none with state := .busy }) := World.putObj_heap_same hlta
        have hIb : I pre (Wa.putObj l (.loop { rec .ready none with state := .busy })) := hI _ _ _ (hI _ _ _ hi (hba.mono (by omega))) (below_put hwl hla)
        have hkb : KeepX (fun i => i = l) Wa (Wa.putObj l (.loop { rec .ready none with state := .busy })) := KeepX.put _
        refine wpIn_mono (hbody m l pre x a' W Wa _ hwl hlt ⟨_, hlb⟩ hba hax hIb hkb hlen) ?_
        have fin : ∀ (jump : Option Code) (W3 : World), KeepX (· < w.heap.size) (Wa.putObj l (.loop { rec .ready none with state := .busy })) W3 →
            (Instr.endRound l jump).run P W3 = .ok (.bool jump.isNone) (W3.putObj l (.loop (rec (if jump.isNone then .ready else .done) jump))) ∧
            W3.heap[l]? = some (.loop { rec .ready none with state := .busy }) ∧ KeepX (· < W2.heap.size) W (W3.putObj l (.loop (rec (if jump.isNone then .ready else .done) jump))) ∧
            (W3.putObj l (.loop (rec (if jump.isNone then .ready else .done) jump))).heap[l]? = some (.loop (rec (if jump.isNone then .ready else .done) jump)) ∧
            ∀ i, w.heap.size ≤ i → i < l → (W3.putObj l (.loop (rec (if jump.isNone then .ready else .done) jump))).heap[i]? = W1.heap[i]? := fun jump W3 hk3 => by
          have hl3 : W3.heap[l]? = some (.loop { rec .ready none with state := .busy }) := (hk3.2 l (by rw [putObj_size]; omega) (by omega)).trans hlb
          have := run_endRound (P := P) jump hl3
          rw [hrec] at this ⊢
          refine ⟨this, by rw [hrec] at hl3; exact hl3, ⟨by rw [putObj_size]; exact Nat.le_trans hba.size (Nat.le_trans (by rw [putObj_size]; exact Nat.le_refl _) hk3.1), fun i hi' hx => by
            have hx' : ¬ i < W2.heap.size := hx
            have hil : ¬ i = l := by omega
            rw [World.putObj_heap_other hil, hk3.2 i (by rw [putObj_size]; exact Nat.lt_of_lt_of_le hi' hba.size) (by omega), World.putObj_heap_other hil, hba.block i hi']⟩, World.putObj_heap_same (Array.getElem?_eq_some_iff.1 hl3).1, fun i h1 h2 => ?_⟩
          rw [World.putObj_heap_other (by omega), hk3.2 i (by rw [putObj_size]; omega) (by omega), World.putObj_heap_other (by omega), hba.block i (by omega), hfr i h1 h2]
        rintro e a3 W3 hp
        cases e with
        | normal =>
          obtain ⟨hk3, hi3⟩ := hp
          obtain ⟨hr, hl3, _, hl4, hf4⟩ := fin none W3 (hk3.mono hX)
          refine ⟨_, _, hr, .inl ⟨rfl, ⟨hI _ _ _ hi3 (below_put hwl hl3), hl4, hf4⟩, ?_⟩⟩
          refine ⟨by rw [putObj_size]; exact Nat.le_trans hba.size (Nat.le_trans (by rw [putObj_size]; exact Nat.le_refl _) hk3.1), fun i hi' hx => ?_⟩
          by_cases hil : i = l
          · subst hil; rw [hlw]; exact hl4
          · rw [World.putObj_heap_other hil, hk3.2 i (by rw [putObj_size]; exact Nat.lt_of_lt_of_le hi' hba.size) hx, World.putObj_heap_other hil, hba.block i hi']
        | ret =>
          obtain ⟨hk3, hi3⟩ := hp
          obtain ⟨hr, hl3, hk4, hl4, hf4⟩ := fin (some .ret) W3 hk3
          exact ⟨_, _, hr, .inr ⟨rfl, ⟨.ret, hIx _ _ _ _ hi3 (below_put hwl hl3), hl4, hf4⟩, hk4⟩⟩
        | exit id =>
          obtain ⟨hk3, hi3⟩ := hp
          obtain ⟨hr, hl3, hk4, hl4, hf4⟩ := fin (some (.exit id)) W3 hk3
          exact ⟨_, _, hr, .inr ⟨rfl, ⟨.exit id, hIx _ _ _ _ hi3 (below_put hwl hl3), hl4, hf4⟩, hk4⟩⟩
        | goto t =>
          obtain ⟨hk3, hi3⟩ := hp
          obtain ⟨hr, hl3, hk4, hl4, hf4⟩ := fin (some (.goto t)) W3 hk3
          exact ⟨_, _, hr, .inr ⟨rfl, ⟨.goto t, hIx _ _ _ _ hi3 (below_put hwl hl3), hl4, hf4⟩, hk4⟩⟩
        | panic ch => exact hp.elim
        | outgrown => exact hp.elim
      | ret => exact hq.elim
      | exit _ => exact hq.elim
      | goto _ => exact hq.elim
      | panic _ => exact hq.elim
      | outgrown => exact hq.elim
    rcases hF with rfl | ⟨l₀, rfl⟩
    · exact hR
    · exact hR

/-- An outermost loop. -/
theorem range_out {α : Type} {n : Nat} {P : Program} {w : World} {g : Operand} {ps : Array Tmp} {assign body : Code} {Q : Exit → Act → World → Prop} {a : Act}
    {gf : Nat} {lb : Array Value} (hg : a.eval g = .func (.func gf) #[] lb) (eg : ∀ args w, (callFunc gf args).run P w = .ok (.enter gf args) w)
    {encs : α → Array Value} {X : Nat → Prop} {S V : List α → Prop} {w0 : World} (hseq : SeqB P gf lb encs X S V w0)
    (hX : ∀ i, X i → i < w.heap.size) (hb0 : Below w0.heap.size w0 w) (hps : ∀ x, (encs x).size = ps.size)
    (I : List α → World → Prop) (Ix : Code → List α → World → Prop) (hI : Stab w.heap.size I) (hIx : ∀ c, Stab w.heap.size (Ix c)) (h0 : I [] w) (Ax : α → Act → World → World → Prop)
    (hassign : ∀ (m l : Nat) (pre : List α) (x : α) (W : World), I pre W → l < W.heap.size → w.heap.size ≤ l →
      assign.wpIn (Fence.wide.inRound l) m P (Exit.then (fun a' W' => Below W.heap.size W W' ∧ Ax x a' W W') (fun _ _ _ => False)) { tmps := (ps.zip (encs x)).foldl (fun t (p, v) => t.setIfInBounds p v) a.tmps, defers := [] } W)
    (hbody : ∀ (m l : Nat) (pre : List α) (x : α) (a' : Act) (W Wa Wb : World), w.heap.size ≤ l → l < W.heap.size → (∃ r, Wb.heap[l]? = some (.loop r)) → Below W.heap.size W Wa → Ax x a' W Wa → I pre Wb → KeepX (fun i => i = l) Wa Wb → V (pre ++ [x]) →
      body.wpIn (Fence.wide.inRound l) m P (PostX X w.heap.size I Ix (pre ++ [x]) Wb) a' Wb)
    (hdone : ∀ (D : Nat) (xs : List α) (W : World), w.heap.size ≤ D → S xs → I xs W → W.heap[D]? = some (.deferred (some [])) → Q .normal { a with defers := { target := .collected D, args := #[] } :: a.defers } W)
    (hstop : ∀ (D : Nat) (c : Code) (pre : List α) (W : World), w.heap.size ≤ D → V pre → Ix c pre W → W.heap[D]? = some (.deferred (some [])) → c.wpIn Fence.wide n P Q { a with defers := { target := .collected D, args := #[] } :: a.defers } W) :
    (Code.rangeFunc g ps assign body).wpIn Fence.wide n P Q a w := by
  have hK : (w.alloc (.deferred (some []))).heap[w.heap.size]? = some (.deferred (some [])) := World.alloc_heap_new w _
  refine range_core (F := Fence.wide) (W1 := w.alloc (.deferred (some []))) (l := w.heap.size + 1) (df := w.heap.size) (mark := [{ target := .collected w.heap.size, args := #[] }]) (.inl rfl) hg eg
    (fun fn => run_enterLoop_outer fn a.tmps ps assign body) ((Below.refl _ w).alloc (Nat.le_refl _) _) (by rw [World.size_alloc]) hseq hX hb0 hps I Ix hI hIx h0 Ax hassign hbody ?_ ?_
  · intro xs W hS hi hfr
    exact hdone w.heap.size xs W (Nat.le_refl _) hS hi ((hfr _ (Nat.le_refl _) (by omega)).trans hK)
  · intro c pre W hS hi hfr
    exact hstop w.heap.size c pre W (Nat.le_refl _) hS hi ((hfr _ (Nat.le_refl _) (by omega)).trans hK)
/-- An outermost loop whose variable is boxed. -/
theorem range_box {α : Type} {n : Nat} {P : Program} {w : World} {g : Operand} {ps : Array Tmp} {assign body : Code} {Q : Exit → Act → World → Prop} {a : Act} (bt : Nat) (ty : TypeId) (cl : α → Array Value)
    {gf : Nat} {lb : Array Value} (hg : a.eval g = .func (.func gf) #[] lb) (eg : ∀ args w, (callFunc gf args).run P w = .ok (.enter gf args) w)
    {encs : α → Array Value} {X : Nat → Prop} {S V : List α → Prop} {w0 : World} (hseq : SeqB P gf lb encs X S V w0)
    (hX : ∀ i, X i → i < w.heap.size) (hb0 : Below w0.heap.size w0 w) (hps : ∀ x, (encs x).size = ps.size)
    (I : List α → World → Prop) (Ix : Code → List α → World → Prop) (hI : Stab w.heap.size I) (hIx : ∀ c, Stab w.heap.size (Ix c)) (h0 : I [] w)
    (hassign : ∀ (m l : Nat) (x : α) (W : World),
      assign.wpIn (Fence.wide.inRound l) m P (Exit.then (fun a' W' => W' = W.alloc (.cells (cl x) ty) ∧ a' = { tmps := ((ps.zip (encs x)).foldl (fun t (p, v) => t.setIfInBounds p v) a.tmps).setIfInBounds bt (.pointer (some ⟨W.heap.size, 0, none⟩)), defers := [] }) (fun _ _ _ => False)) { tmps := (ps.zip (encs x)).foldl (fun t (p, v) => t.setIfInBounds p v) a.tmps, defers := [] } W)
    (hbody : ∀ (m l Bx : Nat) (pre : List α) (x : α) (W : World), w.heap.size ≤ l → l < Bx → w.heap.size ≤ Bx → Bx < W.heap.size → W.heap[Bx]? = some (.cells (cl x) ty (0, 0)) → (∃ r, W.heap[l]? = some (.loop r)) → I pre W → V (pre ++ [x]) →
      body.wpIn (Fence.wide.inRound l) m P (PostX X w.heap.size I Ix (pre ++ [x]) W) { tmps := ((ps.zip (encs x)).foldl (fun t (p, v) => t.setIfInBounds p v) a.tmps).setIfInBounds bt (.pointer (some ⟨Bx, 0, none⟩)), defers := [] } W)
    (hdone : ∀ (D : Nat) (xs : List α) (W : World), w.heap.size ≤ D → S xs → I xs W → W.heap[D]? = some (.deferred (some [])) → Q .normal { a with defers := { target := .collected D, args := #[] } :: a.defers } W)
    (hstop : ∀ (D : Nat) (c : Code) (pre : List α) (W : World), w.heap.size ≤ D → V pre → Ix c pre W → W.heap[D]? = some (.deferred (some [])) → c.wpIn Fence.wide n P Q { a with defers := { target := .collected D, args := #[] } :: a.defers } W) :
    (Code.rangeFunc g ps assign body).wpIn Fence.wide n P Q a w := by
  refine range_out hg eg hseq hX hb0 hps I Ix hI hIx h0 (fun x a' W W' => W' = W.alloc (.cells (cl x) ty) ∧ a' = { tmps := ((ps.zip (encs x)).foldl (fun t (p, v) => t.setIfInBounds p v) a.tmps).setIfInBounds bt (.pointer (some ⟨W.heap.size, 0, none⟩)), defers := [] }) ?_ ?_ hdone hstop
  · intro m l pre x W _ _ _
    refine wpIn_mono (hassign m l x W) ?_
    intro e a' W' h
    cases e with
    | normal => exact ⟨by rw [h.1]; exact (Below.refl _ W).alloc (Nat.le_refl _) _, h⟩
    | ret => exact h.elim
    | exit _ => exact h.elim
    | goto _ => exact h.elim
    | panic _ => exact h.elim
    | outgrown => exact h.elim
  · rintro m l pre x a' W Wa Wb hl hlw hr hba ⟨rfl, rfl⟩ hi hk hv
    have h1 := World.alloc_heap_new W (.cells (cl x) ty)
    have h2 : W.heap.size < (W.alloc (.cells (cl x) ty)).heap.size := by rw [World.size_alloc]; omega
    exact hbody m l W.heap.size pre x Wb hl hlw (by omega) (Nat.lt_of_lt_of_le h2 hk.1) ((hk.2 _ h2 (by omega)).trans h1) hr hi hv
/-- An outermost loop whose variable is not boxed. -/
theorem range_plain {α : Type} {n : Nat} {P : Program} {w : World} {g : Operand} {ps : Array Tmp} {body : Code} {Q : Exit → Act → World → Prop} {a : Act}
    {gf : Nat} {lb : Array Value} (hg : a.eval g = .func (.func gf) #[] lb) (eg : ∀ args w, (callFunc gf args).run P w = .ok (.enter gf args) w)
    {encs : α → Array Value} {X : Nat → Prop} {S V : List α → Prop} {w0 : World} (hseq : SeqB P gf lb encs X S V w0)
    (hX : ∀ i, X i → i < w.heap.size) (hb0 : Below w0.heap.size w0 w) (hps : ∀ x, (encs x).size = ps.size)
    (I : List α → World → Prop) (Ix : Code → List α → World → Prop) (hI : Stab w.heap.size I) (hIx : ∀ c, Stab w.heap.size (Ix c)) (h0 : I [] w)
    (hbody : ∀ (m l : Nat) (pre : List α) (x : α) (W : World), w.heap.size ≤ l → (∃ r, W.heap[l]? = some (.loop r)) → I pre W → V (pre ++ [x]) →
      body.wpIn (Fence.wide.inRound l) m P (PostX X w.heap.size I Ix (pre ++ [x]) W) { tmps := (ps.zip (encs x)).foldl (fun t (p, v) => t.setIfInBounds p v) a.tmps, defers := [] } W)
    (hdone : ∀ (D : Nat) (xs : List α) (W : World), w.heap.size ≤ D → S xs → I xs W → W.heap[D]? = some (.deferred (some [])) → Q .normal { a with defers := { target := .collected D, args := #[] } :: a.defers } W)
    (hstop : ∀ (D : Nat) (c : Code) (pre : List α) (W : World), w.heap.size ≤ D → V pre → Ix c pre W → W.heap[D]? = some (.deferred (some [])) → c.wpIn Fence.wide n P Q { a with defers := { target := .collected D, args := #[] } :: a.defers } W) :
    (Code.rangeFunc g ps .skip body).wpIn Fence.wide n P Q a w := by
  refine range_out hg eg hseq hX hb0 hps I Ix hI hIx h0 (fun x a' W W' => W' = W ∧ a' = { tmps := (ps.zip (encs x)).foldl (fun t (p, v) => t.setIfInBounds p v) a.tmps, defers := [] }) ?_ ?_ hdone hstop
  · intro m l pre x W _ _ _
    gi_wp2
    exact Below.refl _ _
  · rintro m l pre x a' W Wa Wb hl hlw hr hba ⟨rfl, rfl⟩ hi hk hv
    exact hbody m l pre x Wb hl hr hi hv
end Go.Proofs.YtjedcijddlilaaaGreatDoor
