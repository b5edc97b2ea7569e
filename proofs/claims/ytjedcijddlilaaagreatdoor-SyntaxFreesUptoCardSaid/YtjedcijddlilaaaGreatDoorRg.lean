/- syntax: the reference's Less, SameUses. | syntax: lists of uses that increase. | syntax: the reference's InsertUse. | syntax: the reference's Mentions. -/
import Derived.Test.YtjedcijddlilaaaGreatDoorSyC
import Derived.Test.YtjedcijddlilaaaGreatDoorRf
import Derived.Shelf.SlSortCmp.QuietGrown
namespace Go.Proofs.YtjedcijddlilaaaGreatDoor
open Go.RowKit Go.Shelf
attribute [local go_sem] Oper.semAt_some

/-- A use: a module and a name. -/
structure Us where
  m : ByteArray
  n : ByteArray
def Us.cells (u : Us) : Array Value := #[.string u.m, .string u.n]
/-- Whether a use comes before another one. -/
def Us.lt (a b : Us) : Bool := if Op.bytesLess a.m.toList b.m.toList then true else if a.m.toList == b.m.toList then Op.bytesLess a.n.toList b.n.toList else false

set_option maxRecDepth 100000 in
theorem rless_any (a b : Us) (w : World) :
    Calls Tryz.prog 30 #[.agg #[.string a.m, .string a.n], .agg #[.string b.m, .string b.n]] w fun e w' => e = .returned (.bool (a.lt b)) ∧ Below w.heap.size w w' := by
  obtain ⟨am, an⟩ := a
  obtain ⟨bm, bn⟩ := b
  unfold Us.lt
  dsimp only
  have HB := hid (show Below w.heap.size w ((w.alloc (.cells #[.string am, .string an] 57)).alloc (.cells #[.string bm, .string bn] 57)) from ((Below.refl _ w).alloc (Nat.le_refl _) _).alloc (by simp) _)
  cases h1 : Op.bytesLess am.toList bm.toList with
  | true =>
    rw [if_pos rfl]
    go_enter Tryz.func30, Tryz.ntmps30
    go_wp2_with fail
    go_ret
    exact ⟨rfl, HB.out⟩
  | false =>
    rw [if_neg (by decide)]
    cases h2 : am.toList == bm.toList with
    | true =>
      rw [if_pos rfl]
      go_enter Tryz.func30, Tryz.ntmps30
      go_wp2_with fail
      go_ret
      exact ⟨rfl, HB.out⟩
    | false =>
      rw [if_neg (by decide)]
      go_enter Tryz.func30, Tryz.ntmps30
      go_wp2_with fail
      go_ret
      exact ⟨rfl, HB.out⟩
end Go.Proofs.YtjedcijddlilaaaGreatDoor

namespace Go.Proofs.YtjedcijddlilaaaGreatDoor
open Go.RowKit Go.Shelf
attribute [local go_sem] Oper.semAt_some

/-- A row of uses in the memory. -/
def UsR (w : World) (L : List Us) (p : Option Addr) : Prop :=
  ∀ i u, L[i]? = some u → ∃ g, p = some ⟨g, 0, none⟩ ∧ w.cell? ⟨g, i * 2, none⟩ = some (.string u.m) ∧ w.cell? ⟨g, i * 2 + 1, none⟩ = some (.string u.n)
def Us.same (a b : Us) : Bool := a.m.toList == b.m.toList && a.n.toList == b.n.toList
def sameU : List Us → List Us → Bool
  | [], [] => true
  | a :: l, b :: r => a.same b && sameU l r
  | _, _ => false
theorem sameU_len : ∀ {l r : List Us}, sameU l r = true → l.length = r.length
  | [], [], _ => rfl
  | a :: l, b :: r, h => by
    unfold sameU at h
    rw [Bool.and_eq_true] at h
    rw [List.length_cons, List.length_cons, sameU_len h.2]
  | [], _ :: _, h => by cases h
  | _ :: _, [], h => by cases h
theorem sameU_step {l r : List Us} {i : Nat} {a b : Us} (ha : l[i]? = some a) (hb : r[i]? = some b) : sameU (l.drop i) (r.drop i) = (a.same b && sameU (l.drop (i + 1)) (r.drop (i + 1))) := by
  obtain ⟨h1, rfl⟩ := List.getElem?_eq_some_iff.1 ha
  obtain ⟨h2, rfl⟩ := List.getElem?_eq_some_iff.1 hb
  rw [List.drop_eq_getElem_cons h1, List.drop_eq_getElem_cons h2]
  rfl
set_option maxRecDepth 100000 in
theorem rsame_any (A B : List Us) (pa pb : Option Addr) (ca cb : Nat) (w : World) (ha : UsR w A pa) (hb : UsR w B pb) (hl : A.length ≤ 1099511627776) (hl2 : B.length ≤ 1099511627776) :
    Calls Tryz.prog 24 #[.slice pa A.length ca, .slice pb B.length cb] w fun e w' => e = .returned (.bool (sameU A B)) ∧ Below w.heap.size w w' := by
  obtain ⟨L, hL⟩ : ∃ L, A.length = L := ⟨_, rfl⟩
  by_cases he : A.length = B.length
  · have H1 := hid (And.intro ha (And.intro hb (And.intro he hL)))
    rw [← he, hL]
    rw [hL] at hl
    clear ha hb he hL hl2
    go_enter Tryz.func24, Tryz.ntmps24
    go_wp2_with fail
    go_loopw [5] (fun a wr => ∃ (i : Nat), a = .int .i64 (i : Int) ∧ i ≤ L ∧ Below w.heap.size w wr ∧ sameU A B = sameU (A.drop i) (B.drop i)) (fun a _ => L - (intOf a).toNat)
    case atStart => exact ⟨0, rfl, Nat.zero_le _, Below.refl _ _, rfl⟩
    case round =>
      obtain ⟨i, rfl, hi, hB, hs⟩ := hrel
      by_cases hlt : i < L
      · obtain ⟨x, hx⟩ : ∃ x, A[i]? = some x := ⟨_, List.getElem?_eq_getElem (by rw [H1.out.2.2.2]; exact hlt)⟩
        obtain ⟨y, hy⟩ : ∃ y, B[i]? = some y := ⟨_, List.getElem?_eq_getElem (by rw [← H1.out.2.2.1, H1.out.2.2.2]; exact hlt)⟩
        obtain ⟨g, rfl, d0, d1⟩ := H1.out.1 i x hx
        obtain ⟨k, rfl, d2, d3⟩ := H1.out.2.1 i y hy
        have d0 := old_cell hB d0
        have d1 := old_cell hB d1
        have d2 := old_cell hB d2
        have d3 := old_cell hB d3
        rw [sameU_step hx hy] at hs
        have HB := hid hB
        have HS := hid hs
        clear hs hx hy hB
        obtain ⟨xm, xn⟩ := x
        obtain ⟨ym, yn⟩ := y
        unfold Us.same at HS
        dsimp only at d0 d1 d2 d3 HS
        cases h1 : xm.toList == ym.toList with
        | true =>
          cases h2 : xn.toList == yn.toList with
          | true =>
            rw [h1, h2] at HS
            go_wp2_with fail
            go_quiet (fail)
            go_wp2_with fail
            go_roundw
            case rel => exact ⟨i + 1, by go_num, by omega, below_drawn HB.out _, by rw [HS.out]; rfl⟩
            case measure => simp [intOf]; omega
          | false =>
            rw [h1, h2] at HS
            go_wp2_with fail
            go_quiet (fail)
            go_wp2_with fail
            go_ret
            exact ⟨by rw [HS.out]; rfl, below_drawn HB.out _⟩
        | false =>
          rw [h1] at HS
          go_wp2_with fail
          go_quiet (fail)
          go_wp2_with fail
          go_ret
          exact ⟨by rw [HS.out]; rfl, below_drawn HB.out _⟩
      · obtain rfl : i = L := by omega
        have hz : sameU A B = true := by
          rw [hs, List.drop_eq_nil_of_le (by rw [H1.out.2.2.2]; exact Nat.le_refl _), List.drop_eq_nil_of_le (by rw [← H1.out.2.2.1, H1.out.2.2.2]; exact Nat.le_refl _)]
          rfl
        have HZ := hid hz
        have HB := hid hB
        clear hs hz hB
        go_wp2_with fail
        go_ret
        exact ⟨by rw [HZ.out] <;> rfl, HB.out⟩
  · have hz : sameU A B = false := by
      cases h : sameU A B with
      | false => rfl
      | true => exact absurd (sameU_len h) he
    rw [hz]
    have hne : ((A.length : Int) == (B.length : Int)) = false := by rw [beq_eq_false_iff_ne]; omega
    clear hz ha hb
    generalize A.length = M at hne hl hL he ⊢
    generalize B.length = K at hne hl2 he ⊢
    go_enter Tryz.func24, Tryz.ntmps24
    go_wp2_with fail
    go_ret
    exact ⟨rfl, Below.refl _ _⟩
end Go.Proofs.YtjedcijddlilaaaGreatDoor

namespace Go.Proofs.YtjedcijddlilaaaGreatDoor
open Go.RowKit Go.Shelf Go.Sort

theorem Us.ext2 {a b : Us} (h1 : a.m.toList = b.m.toList) (h2 : a.n.toList = b.n.toList) : a = b := by
  obtain ⟨am, an⟩ := a
  obtain ⟨bm, bn⟩ := b
  have e1 : am = bm := Classical.byContradiction fun h => by have h3 := toList_ne h; dsimp only at h1; rw [h1] at h3; simp at h3
  have e2 : an = bn := Classical.byContradiction fun h => by have h3 := toList_ne h; dsimp only at h2; rw [h2] at h3; simp at h3
  rw [e1, e2]
theorem Us.same_iff (a b : Us) : a.same b = true ↔ a = b := by
  unfold Us.same
  rw [Bool.and_eq_true, beq_iff_eq, beq_iff_eq]
  exact ⟨fun h => Us.ext2 h.1 h.2, fun h => by rw [h]; exact ⟨rfl, rfl⟩⟩
theorem Us.same_ne {a b : Us} (h : a ≠ b) : a.same b = false := by
  cases hs : a.same b with
  | false => rfl
  | true => exact absurd ((Us.same_iff a b).1 hs) h
theorem Us.lt_iff (a b : Us) : a.lt b = true ↔ a.m.toList < b.m.toList ∨ (a.m.toList = b.m.toList ∧ a.n.toList < b.n.toList) := by
  unfold Us.lt
  rw [bytesLess_eq, bytesLess_eq]
  by_cases h1 : a.m.toList < b.m.toList
  · simp [h1]
  · by_cases h2 : a.m.toList = b.m.toList
    · simp [h1, h2]
    · simp [h1, h2]
theorem Us.irr (a : Us) : ¬ a.lt a = true := by
  rw [Us.lt_iff]
  rintro (h | ⟨_, h⟩)
  · exact List.lt_irrefl _ h
  · exact List.lt_irrefl _ h
theorem Us.trans {a b c : Us} (h1 : a.lt b = true) (h2 : b.lt c = true) : a.lt c = true := by
  rw [Us.lt_iff] at *
  rcases h1 with h1 | ⟨h1, h3⟩
  · rcases h2 with h2 | ⟨h2, h4⟩
    · exact .inl (List.lt_trans h1 h2)
    · exact .inl (h2 ▸ h1)
  · rcases h2 with h2 | ⟨h2, h4⟩
    · exact .inl (h1 ▸ h2)
    · exact .inr ⟨h1.trans h2, List.lt_trans h3 h4⟩
theorem Us.tri {a b : Us} (h1 : ¬ a.lt b = true) (h2 : ¬ a = b) : b.lt a = true := by
  rw [Us.lt_iff] at *
  by_cases e1 : a.m.toList = b.m.toList
  · by_cases e2 : a.n.toList = b.n.toList
    · exact absurd (Us.ext2 e1 e2) h2
    · refine .inr ⟨e1.symm, ?_⟩
      rcases List.le_iff_lt_or_eq.1 (List.not_lt.1 fun h => h1 (.inr ⟨e1, h⟩)) with h3 | h3
      · exact h3
      · exact absurd h3.symm e2
  · refine .inl ?_
    rcases List.le_iff_lt_or_eq.1 (List.not_lt.1 fun h => h1 (.inl h)) with h3 | h3
    · exact h3
    · exact absurd h3.symm e1
theorem Us.asym {a b : Us} (h1 : a.lt b = true) (h2 : b.lt a = true) : False := Us.irr _ (Us.trans h1 h2)

/-- The place of a use in a list that increases. -/
def posU (s : Us) : List Us → Nat
  | [] => 0
  | a :: l => if a.lt s then posU s l + 1 else 0
def insU (L : List Us) (s : Us) : List Us := match L[posU s L]? with
  | some a => if a.same s then L else L.take (posU s L) ++ s :: L.drop (posU s L)
  | none => L.take (posU s L) ++ s :: L.drop (posU s L)
theorem posU_le (s : Us) : ∀ L : List Us, posU s L ≤ L.length
  | [] => Nat.le_refl _
  | a :: l => by
    unfold posU
    have := posU_le s l
    split
    · rw [List.length_cons]; omega
    · exact Nat.zero_le _
theorem posU_step {s a : Us} {L : List Us} {i : Nat} (h : L[i]? = some a) : posU s (L.drop i) = if a.lt s then posU s (L.drop (i + 1)) + 1 else 0 := by
  obtain ⟨h1, rfl⟩ := List.getElem?_eq_some_iff.1 h
  rw [List.drop_eq_getElem_cons h1]
  rfl
theorem insU_nil (s : Us) : insU [] s = [s] := rfl
theorem insU_cons (s a : Us) (l : List Us) : insU (a :: l) s = if a.lt s then a :: insU l s else if a.same s then a :: l else s :: a :: l := by
  unfold insU
  cases h : a.lt s with
  | true =>
    have hp : posU s (a :: l) = posU s l + 1 := by rw [posU, h]; rfl
    rw [hp, if_pos rfl, List.getElem?_cons_succ, List.take_succ_cons, List.drop_succ_cons]
    cases l[posU s l]? with
    | none => rfl
    | some b =>
      dsimp only
      split <;> simp
  | false =>
    have hp : posU s (a :: l) = 0 := by rw [posU, h]; rfl
    rw [hp, List.getElem?_cons_zero]
    simp
theorem mem_insU (s z : Us) : ∀ L : List Us, z ∈ insU L s ↔ z ∈ L ∨ z = s
  | [] => by rw [insU_nil]; simp
  | a :: l => by
    rw [insU_cons]
    split
    · rw [List.mem_cons, List.mem_cons, mem_insU s z l, or_assoc]
    · split
      · rename_i h
        obtain rfl := (Us.same_iff a s).1 h
        constructor
        · exact .inl
        · rintro (h | rfl)
          · exact h
          · exact List.mem_cons_self
      · simp only [List.mem_cons]
        constructor
        · rintro (h | h)
          · exact .inr h
          · exact .inl h
        · rintro (h | h)
          · exact .inr h
          · exact .inl h
theorem len_insU (s : Us) : ∀ L : List Us, (insU L s).length ≤ L.length + 1
  | [] => Nat.le_refl _
  | a :: l => by
    rw [insU_cons]
    have := len_insU s l
    split
    · simp only [List.length_cons]; omega
    · split <;> simp only [List.length_cons] <;> omega
def SortU (L : List Us) : Prop := L.Pairwise (fun a b => a.lt b = true)
theorem sort_insU (s : Us) : ∀ L : List Us, SortU L → SortU (insU L s)
  | [], _ => by rw [insU_nil]; exact List.pairwise_singleton _ _
  | a :: l, h => by
    have h1 := List.pairwise_cons.1 h
    rw [insU_cons]
    by_cases hlt : a.lt s = true
    · rw [if_pos hlt]
      refine List.pairwise_cons.2 ⟨fun b hb => ?_, sort_insU s l h1.2⟩
      rcases (mem_insU s b l).1 hb with hb | rfl
      · exact h1.1 b hb
      · exact hlt
    · rw [if_neg hlt]
      split
      · exact h
      · rename_i hne
        have hsa : s.lt a = true := Us.tri hlt fun e => hne ((Us.same_iff a s).2 e)
        refine List.pairwise_cons.2 ⟨fun b hb => ?_, h⟩
        rcases List.mem_cons.1 hb with rfl | hb
        · exact hsa
        · exact Us.trans hsa (h1.1 b hb)
theorem SortU.nodup {L : List Us} (h : SortU L) : L.Nodup := List.Pairwise.imp (fun {a b} hab e => by subst e; exact Us.irr _ hab) h
/-- Of one set there is one list that increases. -/
theorem SortU.uniq {L M : List Us} (h1 : SortU L) (h2 : SortU M) (h : ∀ z, z ∈ L ↔ z ∈ M) : L = M := by
  have hp : L.Perm M := (List.perm_ext_iff_of_nodup h1.nodup h2.nodup).2 h
  unfold SortU at h1 h2
  exact List.Perm.eq_of_pairwise (le := fun (a b : Us) => a.lt b) (fun a b _ _ x y => (Us.asym x y).elim) h1 h2 hp
theorem sameU_self : ∀ L : List Us, sameU L L = true
  | [] => rfl
  | a :: l => by unfold sameU; rw [(Us.same_iff a a).2 rfl, sameU_self l]; rfl

/-- The references among some nodes. -/
def UseIn (l : List Ty) (z : Us) : Prop := ∃ u ∈ l, u.k = 10 ∧ Us.mk u.m u.n = z
structure Ments (t : Ty) (M : List Us) : Prop where
  sort : SortU M
  mem : ∀ z, z ∈ M ↔ UseIn t.nodes z
  len : M.length ≤ t.size
theorem Ments.uniq {t : Ty} {L M : List Us} (h1 : Ments t L) (h2 : Ments t M) : L = M := h1.sort.uniq h2.sort fun z => (h1.mem z).trans (h2.mem z).symm
/-- The references of a node itself, and of the first of its parts. -/
def OutU (t : Ty) (i : Nat) (M : List Us) : Prop := SortU M ∧ (∀ z, z ∈ M ↔ (t.k = 10 ∧ Us.mk t.m t.n = z) ∨ UseIn ((t.parts.take i).flatMap Ty.nodes) z) ∧ M.length ≤ psum t.parts i
theorem OutU.done {t : Ty} {M : List Us} (h : OutU t t.parts.length M) : Ments t M := by
  refine ⟨h.1, fun z => ?_, ?_⟩
  · rw [h.2.1 z, List.take_length, Ty.nodes_parts]
    unfold UseIn
    simp only [List.mem_cons, exists_eq_or_imp]
  · have := h.2.2
    unfold psum at this
    rw [List.take_length, ← Ty.size_parts] at this
    exact this
/-- While the references of a part are put in. -/
def InU (t : Ty) (i k : Nat) (l M : List Us) : Prop := SortU M ∧ (∀ z, z ∈ M ↔ ((t.k = 10 ∧ Us.mk t.m t.n = z) ∨ UseIn ((t.parts.take i).flatMap Ty.nodes) z) ∨ z ∈ l.take k) ∧ M.length ≤ psum t.parts i + k
theorem InU.start {t : Ty} {i : Nat} {l M : List Us} (h : OutU t i M) : InU t i 0 l M := by
  refine ⟨h.1, fun z => ?_, h.2.2⟩
  rw [h.2.1 z, List.take_zero]
  simp
theorem InU.next {t : Ty} {i k : Nat} {l M : List Us} {s : Us} (h : InU t i k l M) (hs : l[k]? = some s) : InU t i (k + 1) l (insU M s) := by
  refine ⟨sort_insU s M h.1, fun z => ?_, ?_⟩
  · rw [mem_insU, h.2.1 z, List.take_add_one, hs, List.mem_append, or_assoc (a := _ ∨ _)]
    simp
  · have := len_insU s M
    have := h.2.2
    omega
theorem InU.done {t y : Ty} {i : Nat} {l M : List Us} (h : InU t i l.length l M) (hy : t.parts[i]? = some y) (hl : Ments y l) : OutU t (i + 1) M := by
  refine ⟨h.1, fun z => ?_, ?_⟩
  · rw [h.2.1 z, List.take_length, hl.mem z, List.take_add_one, hy]
    unfold UseIn
    simp only [Option.toList_some, List.flatMap_append, List.flatMap_cons, List.flatMap_nil, List.append_nil, List.mem_append]
    constructor
    · rintro ((h | ⟨u, h1, h2⟩) | ⟨u, h1, h2⟩)
      · exact .inl h
      · exact .inr ⟨u, .inl h1, h2⟩
      · exact .inr ⟨u, .inr h1, h2⟩
    · rintro (h | ⟨u, h1 | h1, h2⟩)
      · exact .inl (.inl h)
      · exact .inl (.inr ⟨u, h1, h2⟩)
      · exact .inr ⟨u, h1, h2⟩
  · rw [psum_succ hy]
    have := h.2.2
    have := hl.len
    omega
end Go.Proofs.YtjedcijddlilaaaGreatDoor

namespace Go.Proofs.YtjedcijddlilaaaGreatDoor
open Go.RowKit Go.Shelf Go.Sort
attribute [local go_sem] Oper.semAt_some

def Us.cl (u : Us) : List Value := [.string u.m, .string u.n]
theorem infoUs : (Tryz.prog.info? 57).map (fun i => (i.zero, i.size, i.bytes)) = some (some (.agg #[.string ⟨#[]⟩, .string ⟨#[]⟩]), 2, 32) := by kernel_rfl
theorem len_flatU (us : List Us) : (us.flatMap Us.cl).length = us.length * 2 := by
  induction us with
  | nil => rfl
  | cons u us ih => rw [List.flatMap_cons, List.length_append, ih, List.length_cons]; simp [Us.cl]; omega
theorem one_flatU (us : List Us) : ∀ u ∈ us.flatMap Us.cl, u.oneCell' = true := fun u hu => by
  obtain ⟨x, _, hx⟩ := List.mem_flatMap.1 hu
  simp [Us.cl] at hx
  rcases hx with rfl | rfl <;> rfl
theorem flat_take {L : List Us} {i j : Nat} {u : Value} (h : ((L.take i).flatMap Us.cl)[j]? = some u) : (L.flatMap Us.cl)[j]? = some u := by
  rw [← List.take_append_drop i L, List.flatMap_append, List.getElem?_append_left (List.getElem?_eq_some_iff.1 h).1]
  exact h
theorem flat_drop {L : List Us} {i j : Nat} {u : Value} (hi : i ≤ L.length) (h : ((L.drop i).flatMap Us.cl)[j]? = some u) : (L.flatMap Us.cl)[i * 2 + j]? = some u := by
  have hl : ((L.take i).flatMap Us.cl).length = i * 2 := by rw [len_flatU, List.length_take]; omega
  rw [← List.take_append_drop i L, List.flatMap_append, List.getElem?_append_right (by rw [hl]; omega), hl, Nat.add_sub_cancel_left]
  exact h
theorem below_growU {b : Nat} {w : World} (n : Nat) (os : Array Obj) (hb : b ≤ w.heap.size) : Below b w (grow (w.drewN n) os) := by
  refine ⟨rfl, rfl, rfl, by simp, fun i hi => ?_⟩
  rw [heap_grow_old _ _ (by show i < w.heap.size; omega)]
  rfl
set_option maxRecDepth 100000 in
theorem rless_grown (a b : Us) (w : World) :
    Calls Tryz.prog 30 #[.agg #[.string a.m, .string a.n], .agg #[.string b.m, .string b.n]] w fun e w' => e = .returned (.bool (a.lt b)) ∧ ∃ q os', w' = grow (w.drewN q) os' := by
  obtain ⟨am, an⟩ := a
  obtain ⟨bm, bn⟩ := b
  unfold Us.lt
  dsimp only
  have HB := hid (show ∃ q os', (w.alloc (.cells #[.string am, .string an] 57)).alloc (.cells #[.string bm, .string bn] 57) = grow (w.drewN q) os' from ⟨0, #[.cells #[.string am, .string an] 57, .cells #[.string bm, .string bn] 57], by simp only [alloc_eq_grow, grow_grow]; rfl⟩)
  cases h1 : Op.bytesLess am.toList bm.toList with
  | true =>
    rw [if_pos rfl]
    go_enter Tryz.func30, Tryz.ntmps30
    go_wp2_with fail
    go_ret
    exact ⟨rfl, HB.out⟩
  | false =>
    rw [if_neg (by decide)]
    cases h2 : am.toList == bm.toList with
    | true =>
      rw [if_pos rfl]
      go_enter Tryz.func30, Tryz.ntmps30
      go_wp2_with fail
      go_ret
      exact ⟨rfl, HB.out⟩
    | false =>
      rw [if_neg (by decide)]
      go_enter Tryz.func30, Tryz.ntmps30
      go_wp2_with fail
      go_ret
      exact ⟨rfl, HB.out⟩
def FactV (g n c k : Nat) (s : Us) : Nat → Value → World → Prop
  | 1, v, _ => v = .slice (some ⟨g, 0, none⟩) n c
  | 2, v, _ => v = .int .i64 (k : Int)
  | 3, v, _ => v = .slice (some ⟨g, 0, none⟩) k c
  | 5, v, _ => v = .agg #[.string s.m, .string s.n]
  | 8, v, _ => v = .slice (some ⟨g, 0, none⟩) n c
  | 9, v, _ => v = .int .i64 (k : Int)
  | 10, v, _ => ∃ o, v = .slice (some ⟨g, o, none⟩) (n - k) (c - k) ∧ (k < n → o = k * 2)
  | _, _, _ => True
theorem FactV.any {g n c k : Nat} {s : Us} (j : Nat) (v : Value) (w w' : World) (h : FactV g n c k s j v w) : FactV g n c k s j v w' := by
  unfold FactV at h ⊢
  split <;> simp_all
/-- The row so far, and the row of the use alone. -/
structure RelV (b k : Nat) (A D : List Us) (s : Us) (listed : Array Bool) (a : Act) (w : World) : Prop where
  o4 : listed.getD 0 false = false → listed.getD 4 false = false
  o7 : listed.getD 4 false = false → listed.getD 7 false = false
  o11 : listed.getD 7 false = false → listed.getD 11 false = false
  r0 : listed.getD 0 false = true → listed.getD 4 false = false → w.ownsRow b 57 2 (a.tmps.getD 33 undef) 0 []
  r4 : listed.getD 4 false = true → listed.getD 7 false = false → w.ownsRow b 57 2 (a.tmps.getD 37 undef) k (A.flatMap Us.cl)
  r7 : listed.getD 7 false = true → listed.getD 11 false = false → w.ownsRow b 57 2 (a.tmps.getD 40 undef) (k + 1) ((A ++ [s]).flatMap Us.cl)
  r11 : listed.getD 11 false = true → w.ownsRow b 57 2 (a.tmps.getD 44 undef) (k + 1 + D.length) ((A ++ [s] ++ D).flatMap Us.cl)
  r6 : listed.getD 6 false = true → ∃ h, a.tmps.getD 39 undef = .slice (some ⟨h, 0, none⟩) 1 1 ∧ (listed.getD 7 false = false → w.cell? ⟨h, 0, none⟩ = some (.string s.m) ∧ w.cell? ⟨h, 1, none⟩ = some (.string s.n)) ∧ h < w.heap.size ∧ (listed.getD 0 false = true → listed.getD 4 false = false → (a.tmps.getD 33 undef).ownBlock ≠ some h)
theorem RelV.step {b k j : Nat} {A D : List Us} {s : Us} {listed : Array Bool} {a a' : Act} {w : World} (h : RelV b k A D s listed a w) (h0 : j ≠ 0) (h4 : j ≠ 4) (h6 : j ≠ 6) (h7 : j ≠ 7) (h11 : j ≠ 11)
    (t33 : a'.tmps.getD 33 undef = a.tmps.getD 33 undef) (t37 : a'.tmps.getD 37 undef = a.tmps.getD 37 undef) (t39 : a'.tmps.getD 39 undef = a.tmps.getD 39 undef) (t40 : a'.tmps.getD 40 undef = a.tmps.getD 40 undef) (t44 : a'.tmps.getD 44 undef = a.tmps.getD 44 undef) :
    RelV b k A D s (listed.setIfInBounds j true) a' w := by
  constructor <;> simp only [getD_set_ne false h0, getD_set_ne false h4, getD_set_ne false h6, getD_set_ne false h7, getD_set_ne false h11, t33, t37, t39, t40, t44]
  · exact h.o4
  · exact h.o7
  · exact h.o11
  · exact h.r0
  · exact h.r4
  · exact h.r7
  · exact h.r11
  · exact h.r6
set_option maxRecDepth 100000 in
set_option maxHeartbeats 32000000 in
theorem rinsertU_any (L : List Us) (s : Us) (base g c : Nat) (W0 : World) (hown : W0.ownsRow base 57 2 (.slice (some ⟨g, 0, none⟩) L.length c) L.length (L.flatMap Us.cl)) (hbase : base ≤ W0.heap.size) (hl : L.length < 1099511627776) :
    Calls Tryz.prog 74 #[.slice (some ⟨g, 0, none⟩) L.length c, .agg #[.string s.m, .string s.n]] W0 fun e W' => ∃ g' c', e = .returned (.slice (some ⟨g', 0, none⟩) (insU L s).length c') ∧ W'.ownsRow base 57 2 (.slice (some ⟨g', 0, none⟩) (insU L s).length c') (insU L s).length ((insU L s).flatMap Us.cl) ∧ Below W0.heap.size W0 W' := by
  obtain ⟨i0, hi, hz0, hz1, hz2⟩ := info_parts infoUs
  have hcc : L.length ≤ c := by
    rcases hown.2 with ⟨h, _⟩ | ⟨g2, cap, cur, hv, _, _, h, _⟩
    · cases h
    · cases hv; exact h
  obtain ⟨W, hW⟩ : ∃ W, W0.alloc (.cells #[.string s.m, .string s.n] 57) = W := ⟨_, rfl⟩
  obtain ⟨bx, hbx⟩ : ∃ bx, W0.heap.size = bx := ⟨_, rfl⟩
  have hB0 : Below W0.heap.size W0 W := by rw [← hW]; exact (Below.refl _ W0).alloc (Nat.le_refl _) _
  have hX0 : W.heap[bx]? = some (.cells #[.string s.m, .string s.n] 57 (0, 0)) := by rw [← hW, ← hbx]; exact World.alloc_heap_new _ _
  have HX : Kpt (∀ w, Below W.heap.size W w → w.cell? ⟨bx, 0, none⟩ = some (.string s.m) ∧ w.cell? ⟨bx, 1, none⟩ = some (.string s.n)) := hid fun w hw => ⟨old_cell hw (cell_of_row _ _ 0 _ _ _ hX0), old_cell hw (cell_of_row _ _ 1 _ _ _ hX0)⟩
  have hown1 : W.ownsRow base 57 2 (.slice (some ⟨g, 0, none⟩) L.length c) L.length (L.flatMap Us.cl) := own_belowS hown hB0
  have HF : Kpt (∀ w, Below W.heap.size W w → ∀ j u, (L.flatMap Us.cl)[j]? = some u → w.cell? ⟨g, j, none⟩ = some u) := hid fun w hw j u hu => by
    have h := hown1.cells (g := g) rfl j u hu
    have h9 := old_cell hw h
    rw [addA, Nat.zero_add] at h9
    exact h9
  have HC : Kpt (∀ w, Below W.heap.size W w → ∀ i a, L[i]? = some a → w.cell? ⟨g, i * 2, none⟩ = some (.string a.m) ∧ w.cell? ⟨g, i * 2 + 1, none⟩ = some (.string a.n)) := hid fun w hw i a ha =>
    ⟨HF.out w hw (i * 2) _ (flat_at Us.cl 2 (fun _ => rfl) L i 0 a _ ha rfl), HF.out w hw (i * 2 + 1) _ (flat_at Us.cl 2 (fun _ => rfl) L i 1 a _ ha rfl)⟩
  have hmix : Tryz.prog.follows .mixedOrders = true := by kernel_rfl
  obtain ⟨n, hn⟩ : ∃ n, L.length = n := ⟨_, rfl⟩
  have HN := hid hn
  have HOWN := hid hown1
  have HBASE := hid (show base ≤ W.heap.size from Nat.le_trans hbase hB0.size)
  have HPL := hid (posU_le s L)
  have HB00 := hid hB0
  rw [hn] at hcc hl
  rw [hn]
  clear hn hown hbase hown1 hB0 hX0
  go_enter Tryz.func74, Tryz.ntmps74
  go_wp2_with fail

  have HWW := hid (And.intro hW hbx)
  clear hW hbx
  go_loopw [5] (fun a wr => ∃ (i : Nat), a = .int .i64 (i : Int) ∧ i ≤ n ∧ Below W.heap.size W wr ∧ Kpt (posU s L = i + posU s (L.drop i))) (fun a _ => n - (intOf a).toNat)
  case atStart => exact ⟨0, rfl, Nat.zero_le _, Below.refl _ _, ⟨by rw [List.drop_zero, Nat.zero_add]⟩⟩
  case round =>
    obtain ⟨i, rfl, hi9, hB, hp⟩ := hrel
    by_cases hlt : i < n
    · obtain ⟨a, ha⟩ : ∃ a, L[i]? = some a := ⟨_, List.getElem?_eq_getElem (by rw [HN.out]; exact hlt)⟩
      have hgb : g < wr.heap.size := World.block_lt_of_cell? _ _ (HC.out wr hB i a ha).1
      have hbb : bx < wr.heap.size := World.block_lt_of_cell? _ _ (HX.out wr hB).1
      have d0 : ∀ (k : Nat) (os : Array Obj), (grow (wr.drewN k) os).cell? ⟨g, i * 2, none⟩ = some (.string a.m) := cell_grown hgb (HC.out wr hB i a ha).1
      have d1 : ∀ (k : Nat) (os : Array Obj), (grow (wr.drewN k) os).cell? ⟨g, i * 2 + 1, none⟩ = some (.string a.n) := cell_grown hgb (HC.out wr hB i a ha).2
      have d2 : ∀ (k : Nat) (os : Array Obj), (grow (wr.drewN k) os).cell? ⟨bx, 0, none⟩ = some (.string s.m) := cell_grown hbb (HX.out wr hB).1
      have d3 : ∀ (k : Nat) (os : Array Obj), (grow (wr.drewN k) os).cell? ⟨bx, 1, none⟩ = some (.string s.n) := cell_grown hbb (HX.out wr hB).2
      have hp2 := hp.out
      rw [posU_step ha] at hp2
      have HA := hid ha
      have HLS := hid (fun w => rless_grown a s w)
      have HB := hid hB
      clear hB hp ha hgb hbb
      cases hls : a.lt s with
      | true =>
        have HP2 := hid (show posU s L = (i + 1) + posU s (L.drop (i + 1)) by rw [hp2, hls]; simp; omega)
        have HLT := hid (fun w => by have h := HLS.out w; rw [hls] at h; exact h)
        clear hp2 hls HLS
        go_wp2_with fail
        go_quiet_grown (first | (go_at_call 30; refine Calls.grown_of (HLT.out _)))
        have hBg : Below W.heap.size W (grow (wr.drewN nq) osq) := HB.out.trans (below_growU nq osq HB.out.size)
        generalize grow (wr.drewN nq) osq = wv at hBg ⊢
        have HBg := hid hBg
        clear hBg d0 d1 d2 d3
        go_wp2_with fail
        go_roundw
        case rel => exact ⟨i + 1, by go_num, by omega, HBg.out, ⟨HP2.out⟩⟩
        case measure => simp [intOf]; omega
      | false =>
        have hpi : posU s L = i := by rw [hp2, hls]; simp
        have HLT := hid (fun w => by have h := HLS.out w; rw [hls] at h; exact h)
        have HPI := hid hpi
        clear hp2 hls HLS hpi
        go_wp2_with fail
        go_quiet_grown (first | (go_at_call 30; refine Calls.grown_of (HLT.out _)))
        have hBg : Below W.heap.size W (grow (wr.drewN nq) osq) := HB.out.trans (below_growU nq osq HB.out.size)
        generalize grow (wr.drewN nq) osq = wv at hBg ⊢
        have f0 := (HC.out wv hBg i a HA.out).1
        have f1 := (HC.out wv hBg i a HA.out).2
        have f2 := (HX.out wv hBg).1
        have f3 := (HX.out wv hBg).2
        have HBg := hid hBg
        clear hBg d0 d1 d2 d3 HB
        by_cases he : a = s
        · have hee : (a.m.toList == s.m.toList) = true := by rw [he]; simp
          have hee2 : (a.n.toList == s.n.toList) = true := by rw [he]; simp
          have HINS := hid (show insU L s = L by unfold insU; rw [HPI.out, HA.out]; dsimp only; rw [(Us.same_iff a s).2 he, if_pos rfl])
          clear he
          go_wp2_with fail
          go_quiet (fail)
          go_wp2_with fail
          go_ret
          rw [HINS.out, HN.out]
          exact ⟨g, c, rfl, by have h := own_belowS HOWN.out (below_drawn HBg.out nq); rw [HN.out] at h; exact h, HB00.out.trans ((below_drawn HBg.out nq).mono HB00.out.size)⟩
        · have HINS := hid (show insU L s = L.take i ++ s :: L.drop i by unfold insU; rw [HPI.out, HA.out]; dsimp only; rw [Us.same_ne he, if_neg (by decide)])
          cases h1 : a.m.toList == s.m.toList with
          | false =>
            clear he
            go_wp2_with fail
            go_quiet (fail)
            go_wp2_with fail
            have hB2 := below_drawn HBg.out nq
            generalize wv.drewN nq = wr at hB2 ⊢
            have HB := hid hB2
            clear hB2 f0 f1 f2 f3 HBg
            clear h1
            refine wp_region_any (by kernel_rfl) ?_
            change wpAny _ _ _ _ 13 _ _ (World.drew _)
            have HBD : Kpt (Below W.heap.size W wr.drew) := hid HB.out.drew
            generalize wr.drew = V0 at HBD ⊢
            have HBX : Kpt (∀ w, Below V0.heap.size V0 w → w.cell? ⟨bx, 0, none⟩ = some (.string s.m) ∧ w.cell? ⟨bx, 1, none⟩ = some (.string s.n)) := hid fun w hw => HX.out w (HBD.out.trans (hw.mono HBD.out.size))
            have HCV : Kpt (∀ w, Below V0.heap.size V0 w → ∀ j u, (L.flatMap Us.cl)[j]? = some u → w.cell? ⟨g, j, none⟩ = some u) := hid fun w hw => HF.out w (HBD.out.trans (hw.mono HBD.out.size))
            have hkc : i ≤ c := by omega
            have hlA : (L.take i).length = i := by rw [List.length_take, HN.out]; omega
            have hlD : (L.drop i).length = n - i := by rw [List.length_drop, HN.out]
            refine wpAny_flow3 (n := 12) (Fact := FactV g n c i s) (Fx := FxI _ _ _ _ _ _ _ _ _ _ _ _ _ _ _ _ _ _ _ _ _ _ _ _ _ _ _ _ _ _ _ _ _) (G := fun w => Below V0.heap.size V0 w) (Rel := RelV V0.heap.size i (L.take i) (L.drop i) s) (by kernel_rfl) ?back ?last ?step ?tail 13 _ _ _ ⟨rfl, rfl, ⟨_, _, _, _, _, _, _, _, _, _, _, _, rfl⟩, Below.refl _ _, ⟨fun _ => getD_replicate_false _ _, fun _ => getD_replicate_false _ _, fun _ => getD_replicate_false _ _, fun h => absurd h (by rw [getD_replicate_false]; decide), fun h => absurd h (by rw [getD_replicate_false]; decide), fun h => absurd h (by rw [getD_replicate_false]; decide), fun h => absurd h (by rw [getD_replicate_false]; decide), fun h => absurd h (by rw [getD_replicate_false]; decide)⟩, fun j hj hl => absurd hl (by rw [getD_replicate_false]; decide)⟩ (by decide)
            case back => exact flow_back_of (by kernel_rfl)
            case last => exact flow_last_of (by kernel_rfl)
            case step =>
              rintro j hj listed a w hls hun hRl ⟨u33, u34, u35, u36, u37, u38, u39, u40, u41, u42, u43, u44, rfl⟩ hG hw
              rcases (by omega : j = 0 ∨ j = 1 ∨ j = 2 ∨ j = 3 ∨ j = 4 ∨ j = 5 ∨ j = 6 ∨ j = 7 ∨ j = 8 ∨ j = 9 ∨ j = 10 ∨ j = 11) with rfl | rfl | rfl | rfl | rfl | rfl | rfl | rfl | rfl | rfl | rfl | rfl
              · have h0 : listed.getD 0 false = false := by rw [← getD_in (by rw [hls]; omega), hun]
                have h4 := hRl.o4 h0
                have h7 := hRl.o7 h4
                have h11 := hRl.o11 h7
                refine wpOp_of_list (i := 0) rfl ?_
                go_wp2_with fail
                refine ⟨⟨_, _, _, _, _, _, _, _, _, _, _, _, rfl⟩, hG.alloc hG.size _, trivial, (fun j hj hne => by rcases (by omega : j = 0 ∨ j = 1 ∨ j = 2 ∨ j = 3 ∨ j = 4 ∨ j = 5 ∨ j = 6 ∨ j = 7 ∨ j = 8 ∨ j = 9 ∨ j = 10 ∨ j = 11) with rfl | rfl | rfl | rfl | rfl | rfl | rfl | rfl | rfl | rfl | rfl | rfl <;> first | exact absurd rfl hne | rfl), fun j v h => FactV.any j v _ _ h, ?_⟩
                constructor <;> simp only [getD_set_ne false (show (0 : Nat) ≠ 4 by decide), getD_set_ne false (show (0 : Nat) ≠ 6 by decide), getD_set_ne false (show (0 : Nat) ≠ 7 by decide), getD_set_ne false (show (0 : Nat) ≠ 11 by decide), h4, h7, h11]
                · intro _; trivial
                · intro _; trivial
                · intro _; trivial
                · intro _ _; exact World.ownsRow_made w #[] 0 hG.size (by unfold maxLen; omega) rfl
                · intro h; cases h
                · intro h; cases h
                · intro h; cases h
                · intro h6; obtain ⟨h, e, hc6, hlt6, _⟩ := hRl.r6 h6; exact ⟨h, e, fun _ => ⟨old_cell ((Below.refl _ w).alloc (Nat.le_refl _) _) (hc6 h7).1, old_cell ((Below.refl _ w).alloc (Nat.le_refl _) _) (hc6 h7).2⟩, by simp; omega, fun _ _ => by simp [Value.ownBlock]; omega⟩
              · skip
                refine wpOp_of_list (i := 1) rfl ?_
                go_wp2_with fail
                exact ⟨⟨_, _, _, _, _, _, _, _, _, _, _, _, rfl⟩, hG, by first | rfl | (show _ = _; simp), (fun j hj hne => by rcases (by omega : j = 0 ∨ j = 1 ∨ j = 2 ∨ j = 3 ∨ j = 4 ∨ j = 5 ∨ j = 6 ∨ j = 7 ∨ j = 8 ∨ j = 9 ∨ j = 10 ∨ j = 11) with rfl | rfl | rfl | rfl | rfl | rfl | rfl | rfl | rfl | rfl | rfl | rfl <;> first | exact absurd rfl hne | rfl), fun j v h => FactV.any j v _ _ h, hRl.step (by decide) (by decide) (by decide) (by decide) (by decide) rfl rfl rfl rfl rfl⟩
              · skip
                refine wpOp_of_list (i := 2) rfl ?_
                go_wp2_with fail
                exact ⟨⟨_, _, _, _, _, _, _, _, _, _, _, _, rfl⟩, hG, by first | rfl | (show _ = _; simp), (fun j hj hne => by rcases (by omega : j = 0 ∨ j = 1 ∨ j = 2 ∨ j = 3 ∨ j = 4 ∨ j = 5 ∨ j = 6 ∨ j = 7 ∨ j = 8 ∨ j = 9 ∨ j = 10 ∨ j = 11) with rfl | rfl | rfl | rfl | rfl | rfl | rfl | rfl | rfl | rfl | rfl | rfl <;> first | exact absurd rfl hne | rfl), fun j v h => FactV.any j v _ _ h, hRl.step (by decide) (by decide) (by decide) (by decide) (by decide) rfl rfl rfl rfl rfl⟩
              · skip
                obtain rfl : u34 = .slice (some ⟨g, 0, none⟩) n c := (hw 1 (by kernel_rfl)).2
                obtain rfl : u35 = .int .i64 (i : Int) := (hw 2 (by kernel_rfl)).2
                refine wpOp_of_list (i := 3) rfl ?_
                go_wp2_with fail
                exact ⟨⟨_, _, _, _, _, _, _, _, _, _, _, _, rfl⟩, hG, by first | rfl | (show _ = _; simp), (fun j hj hne => by rcases (by omega : j = 0 ∨ j = 1 ∨ j = 2 ∨ j = 3 ∨ j = 4 ∨ j = 5 ∨ j = 6 ∨ j = 7 ∨ j = 8 ∨ j = 9 ∨ j = 10 ∨ j = 11) with rfl | rfl | rfl | rfl | rfl | rfl | rfl | rfl | rfl | rfl | rfl | rfl <;> first | exact absurd rfl hne | rfl), fun j v h => FactV.any j v _ _ h, hRl.step (by decide) (by decide) (by decide) (by decide) (by decide) rfl rfl rfl rfl rfl⟩
              · have h4 : listed.getD 4 false = false := by rw [← getD_in (by rw [hls]; omega), hun]
                have h7 := hRl.o7 h4
                have h11 := hRl.o11 h7
                have h0 := (hw 0 (by kernel_rfl)).1
                obtain rfl : u36 = .slice (some ⟨g, 0, none⟩) i c := (hw 3 (by kernel_rfl)).2
                have own : w.ownsRow V0.heap.size 57 2 u33 0 [] := hRl.r0 h0 h4
                refine wpOp_of_list (i := 4) rfl ?_
                refine wpList_append_own _ rfl _ _ 51 rfl V0.heap.size 57 i0 _ 2 32 Tryz.underlying51 hi hz0 hz1 hz2 rfl (by decide) _ _ _ rfl own ⟨g, 0, none⟩ i c ((L.take i).flatMap Us.cl) rfl (by rw [len_flatU, hlA]) (fun j u hu => ?news4) (one_flatU _) (by unfold maxLen; omega) (by omega) hG.size ?_
                case news4 => rw [addA, Nat.zero_add]; exact HCV.out w hG j u (flat_take hu)
                intro v' w' hown hgrow _
                refine ⟨⟨_, _, _, _, _, _, _, _, _, _, _, _, rfl⟩, Below.grown hG hgrow hG.size (own_base own), trivial, (fun j hj hne => by rcases (by omega : j = 0 ∨ j = 1 ∨ j = 2 ∨ j = 3 ∨ j = 4 ∨ j = 5 ∨ j = 6 ∨ j = 7 ∨ j = 8 ∨ j = 9 ∨ j = 10 ∨ j = 11) with rfl | rfl | rfl | rfl | rfl | rfl | rfl | rfl | rfl | rfl | rfl | rfl <;> first | exact absurd rfl hne | rfl), fun j v h => FactV.any j v _ _ h, ?_⟩
                have hs4 : (listed.setIfInBounds 4 true).getD 4 false = true := by simp [hls]
                constructor <;> simp only [getD_set_ne false (show (4 : Nat) ≠ 0 by decide), getD_set_ne false (show (4 : Nat) ≠ 6 by decide), getD_set_ne false (show (4 : Nat) ≠ 7 by decide), getD_set_ne false (show (4 : Nat) ≠ 11 by decide), h0, h7, h11, hs4]
                · intro h; cases h
                · intro _; trivial
                · intro _; trivial
                · intro _ h; cases h
                · intro _ _; rw [Nat.zero_add, List.nil_append] at hown; exact hown
                · intro h; cases h
                · intro h; cases h
                · intro h6; obtain ⟨h, e, hc6, hlt6, hne⟩ := hRl.r6 h6; exact ⟨h, e, fun _ => ⟨far_cell hgrow (hc6 h7).1 (fun e => hne h0 h4 e.symm), far_cell hgrow (hc6 h7).2 (fun e => hne h0 h4 e.symm)⟩, Nat.lt_of_lt_of_le hlt6 hgrow.size, fun _ h => by cases h⟩
              · skip
                obtain ⟨e0, e1⟩ := HBX.out w hG
                refine wpOp_of_list (i := 5) rfl ?_
                go_wp2_with fail
                exact ⟨⟨_, _, _, _, _, _, _, _, _, _, _, _, rfl⟩, hG, by first | rfl | (show _ = _; simp), (fun j hj hne => by rcases (by omega : j = 0 ∨ j = 1 ∨ j = 2 ∨ j = 3 ∨ j = 4 ∨ j = 5 ∨ j = 6 ∨ j = 7 ∨ j = 8 ∨ j = 9 ∨ j = 10 ∨ j = 11) with rfl | rfl | rfl | rfl | rfl | rfl | rfl | rfl | rfl | rfl | rfl | rfl <;> first | exact absurd rfl hne | rfl), fun j v h => FactV.any j v _ _ h, hRl.step (by decide) (by decide) (by decide) (by decide) (by decide) rfl rfl rfl rfl rfl⟩
              · have h6 : listed.getD 6 false = false := by rw [← getD_in (by rw [hls]; omega), hun]
                obtain rfl : u38 = .agg #[.string s.m, .string s.n] := (hw 5 (by kernel_rfl)).2
                refine wpOp_of_list (i := 6) rfl ?_
                go_wp2_with fail
                refine ⟨⟨_, _, _, _, _, _, _, _, _, _, _, _, rfl⟩, hG.alloc hG.size _, trivial, (fun j hj hne => by rcases (by omega : j = 0 ∨ j = 1 ∨ j = 2 ∨ j = 3 ∨ j = 4 ∨ j = 5 ∨ j = 6 ∨ j = 7 ∨ j = 8 ∨ j = 9 ∨ j = 10 ∨ j = 11) with rfl | rfl | rfl | rfl | rfl | rfl | rfl | rfl | rfl | rfl | rfl | rfl <;> first | exact absurd rfl hne | rfl), fun j v h => FactV.any j v _ _ h, ?_⟩
                constructor <;> simp only [getD_set_ne false (show (6 : Nat) ≠ 0 by decide), getD_set_ne false (show (6 : Nat) ≠ 4 by decide), getD_set_ne false (show (6 : Nat) ≠ 7 by decide), getD_set_ne false (show (6 : Nat) ≠ 11 by decide)]
                · exact hRl.o4
                · exact hRl.o7
                · exact hRl.o11
                · intro x y; exact (hRl.r0 x y).alloc _
                · intro x y; exact (hRl.r4 x y).alloc _
                · intro x y; exact (hRl.r7 x y).alloc _
                · intro x; exact (hRl.r11 x).alloc _
                · intro _; exact ⟨w.heap.size, rfl, fun _ => ⟨cell_of_row _ _ 0 _ _ _ (World.alloc_heap_new w (.cells #[.string s.m, .string s.n] 57)), cell_of_row _ _ 1 _ _ _ (World.alloc_heap_new w (.cells #[.string s.m, .string s.n] 57))⟩, by simp, fun x y e => Nat.lt_irrefl _ ((hRl.r0 x y).lt _ e).2⟩
              · have h7 : listed.getD 7 false = false := by rw [← getD_in (by rw [hls]; omega), hun]
                have h11 := hRl.o11 h7
                have h4 := (hw 4 (by kernel_rfl)).1
                obtain ⟨h, e39, hc6, hlt6, _⟩ := hRl.r6 (hw 6 (by kernel_rfl)).1
                obtain rfl : u39 = .slice (some ⟨h, 0, none⟩) 1 1 := e39
                have hc6 := hc6 h7
                have own : w.ownsRow V0.heap.size 57 2 u37 i ((L.take i).flatMap Us.cl) := hRl.r4 h4 h7
                refine wpOp_of_list (i := 7) rfl ?_
                refine wpList_append_own _ rfl _ _ 51 rfl V0.heap.size 57 i0 _ 2 32 Tryz.underlying51 hi hz0 hz1 hz2 rfl (by decide) _ _ _ rfl own ⟨h, 0, none⟩ 1 1 [.string s.m, .string s.n] rfl rfl (fun j u hu => ?news7) (fun u hu => by simp at hu; rcases hu with rfl | rfl <;> rfl) (by unfold maxLen; omega) (by omega) hG.size ?_
                case news7 =>
                  rw [addA, Nat.zero_add]
                  rcases j with _ | _ | j
                  · cases hu; exact hc6.1
                  · cases hu; exact hc6.2
                  · simp at hu
                intro v' w' hown hgrow _
                refine ⟨⟨_, _, _, _, _, _, _, _, _, _, _, _, rfl⟩, Below.grown hG hgrow hG.size (own_base own), trivial, (fun j hj hne => by rcases (by omega : j = 0 ∨ j = 1 ∨ j = 2 ∨ j = 3 ∨ j = 4 ∨ j = 5 ∨ j = 6 ∨ j = 7 ∨ j = 8 ∨ j = 9 ∨ j = 10 ∨ j = 11) with rfl | rfl | rfl | rfl | rfl | rfl | rfl | rfl | rfl | rfl | rfl | rfl <;> first | exact absurd rfl hne | rfl), fun j v h => FactV.any j v _ _ h, ?_⟩
                have hs7 : (listed.setIfInBounds 7 true).getD 7 false = true := by simp [hls]
                constructor <;> simp only [getD_set_ne false (show (7 : Nat) ≠ 0 by decide), getD_set_ne false (show (7 : Nat) ≠ 4 by decide), getD_set_ne false (show (7 : Nat) ≠ 6 by decide), getD_set_ne false (show (7 : Nat) ≠ 11 by decide), h4, h11, hs7]
                · exact fun x => absurd (hRl.o4 x) (by rw [h4]; decide)
                · intro h; cases h
                · intro _; trivial
                · intro _ h; cases h
                · intro _ h; cases h
                · intro _ _; rw [List.flatMap_append]; exact hown
                · intro h; cases h
                · intro _; exact ⟨h, rfl, (fun x => by cases x), Nat.lt_of_lt_of_le hlt6 hgrow.size, fun _ x => by cases x⟩
              · skip
                refine wpOp_of_list (i := 8) rfl ?_
                go_wp2_with fail
                exact ⟨⟨_, _, _, _, _, _, _, _, _, _, _, _, rfl⟩, hG, by first | rfl | (show _ = _; simp), (fun j hj hne => by rcases (by omega : j = 0 ∨ j = 1 ∨ j = 2 ∨ j = 3 ∨ j = 4 ∨ j = 5 ∨ j = 6 ∨ j = 7 ∨ j = 8 ∨ j = 9 ∨ j = 10 ∨ j = 11) with rfl | rfl | rfl | rfl | rfl | rfl | rfl | rfl | rfl | rfl | rfl | rfl <;> first | exact absurd rfl hne | rfl), fun j v h => FactV.any j v _ _ h, hRl.step (by decide) (by decide) (by decide) (by decide) (by decide) rfl rfl rfl rfl rfl⟩
              · skip
                refine wpOp_of_list (i := 9) rfl ?_
                go_wp2_with fail
                exact ⟨⟨_, _, _, _, _, _, _, _, _, _, _, _, rfl⟩, hG, by first | rfl | (show _ = _; simp), (fun j hj hne => by rcases (by omega : j = 0 ∨ j = 1 ∨ j = 2 ∨ j = 3 ∨ j = 4 ∨ j = 5 ∨ j = 6 ∨ j = 7 ∨ j = 8 ∨ j = 9 ∨ j = 10 ∨ j = 11) with rfl | rfl | rfl | rfl | rfl | rfl | rfl | rfl | rfl | rfl | rfl | rfl <;> first | exact absurd rfl hne | rfl), fun j v h => FactV.any j v _ _ h, hRl.step (by decide) (by decide) (by decide) (by decide) (by decide) rfl rfl rfl rfl rfl⟩
              · skip
                obtain rfl : u41 = .slice (some ⟨g, 0, none⟩) n c := (hw 8 (by kernel_rfl)).2
                obtain rfl : u42 = .int .i64 (i : Int) := (hw 9 (by kernel_rfl)).2
                refine wpOp_of_list (i := 10) rfl ?_
                go_wp2_with fail
                exact ⟨⟨_, _, _, _, _, _, _, _, _, _, _, _, rfl⟩, hG, ⟨i * 2, (by first | rfl | (simp)), fun _ => rfl⟩, (fun j hj hne => by rcases (by omega : j = 0 ∨ j = 1 ∨ j = 2 ∨ j = 3 ∨ j = 4 ∨ j = 5 ∨ j = 6 ∨ j = 7 ∨ j = 8 ∨ j = 9 ∨ j = 10 ∨ j = 11) with rfl | rfl | rfl | rfl | rfl | rfl | rfl | rfl | rfl | rfl | rfl | rfl <;> first | exact absurd rfl hne | rfl), fun j v h => FactV.any j v _ _ h, hRl.step (by decide) (by decide) (by decide) (by decide) (by decide) rfl rfl rfl rfl rfl⟩
              · have h11 : listed.getD 11 false = false := by rw [← getD_in (by rw [hls]; omega), hun]
                have h7 := (hw 7 (by kernel_rfl)).1
                obtain ⟨o, he43, ho⟩ : ∃ o, u43 = .slice (some ⟨g, o, none⟩) (n - i) (c - i) ∧ (i < n → o = i * 2) := (hw 10 (by kernel_rfl)).2
                subst he43
                have own : w.ownsRow V0.heap.size 57 2 u40 (i + 1) ((L.take i ++ [s]).flatMap Us.cl) := hRl.r7 h7 h11
                refine wpOp_of_list (i := 11) rfl ?_
                refine wpList_append_own _ rfl _ _ 51 rfl V0.heap.size 57 i0 _ 2 32 Tryz.underlying51 hi hz0 hz1 hz2 rfl (by decide) _ _ _ rfl own ⟨g, o, none⟩ (n - i) (c - i) ((L.drop i).flatMap Us.cl) rfl (by rw [len_flatU, hlD]) (fun j u hu => ?news11) (one_flatU _) (by unfold maxLen; omega) (by omega) hG.size ?_
                case news11 =>
                  have hin : i < n := by have h := (List.getElem?_eq_some_iff.1 hu).1; rw [len_flatU, hlD] at h; omega
                  rw [ho hin, addA]
                  exact HCV.out w hG (i * 2 + j) u (flat_drop (by rw [HN.out]; omega) hu)
                intro v' w' hown hgrow _
                refine ⟨⟨_, _, _, _, _, _, _, _, _, _, _, _, rfl⟩, Below.grown hG hgrow hG.size (own_base own), trivial, (fun j hj hne => by rcases (by omega : j = 0 ∨ j = 1 ∨ j = 2 ∨ j = 3 ∨ j = 4 ∨ j = 5 ∨ j = 6 ∨ j = 7 ∨ j = 8 ∨ j = 9 ∨ j = 10 ∨ j = 11) with rfl | rfl | rfl | rfl | rfl | rfl | rfl | rfl | rfl | rfl | rfl | rfl <;> first | exact absurd rfl hne | rfl), fun j v h => FactV.any j v _ _ h, ?_⟩
                have hs11 : (listed.setIfInBounds 11 true).getD 11 false = true := by simp [hls]
                have h4 : listed.getD 4 false = true := by cases h : listed.getD 4 false with | true => rfl | false => rw [hRl.o7 h] at h7; cases h7
                constructor <;> simp only [getD_set_ne false (show (11 : Nat) ≠ 0 by decide), getD_set_ne false (show (11 : Nat) ≠ 4 by decide), getD_set_ne false (show (11 : Nat) ≠ 6 by decide), getD_set_ne false (show (11 : Nat) ≠ 7 by decide), h7, h4, hs11]
                · exact fun x => absurd (hRl.o4 x) (by rw [h4]; decide)
                · intro h; cases h
                · intro h; cases h
                · intro _ h; cases h
                · intro _ h; cases h
                · intro _ h; cases h
                · intro _; rw [List.flatMap_append, hlD]; exact hown
                · intro h6; obtain ⟨h, e39, _, hlt6, _⟩ := hRl.r6 h6; exact ⟨h, e39, (fun x => by cases x), Nat.lt_of_lt_of_le hlt6 hgrow.size, fun _ x => by cases x⟩
            case tail =>
              rintro listed a w hall hRl ⟨u33, u34, u35, u36, u37, u38, u39, u40, u41, u42, u43, u44, rfl⟩ hG hf
              have own : w.ownsRow V0.heap.size 57 2 u44 (i + 1 + (L.drop i).length) ((L.take i ++ [s] ++ L.drop i).flatMap Us.cl) := hRl.r11 (hall 11 (by omega))
              rw [hlD, show i + 1 + (n - i) = n + 1 by omega] at own
              obtain ⟨g', c', rfl⟩ := ownsRow_succ own
              have HO := hid (And.intro own hG)
              clear own hG hRl hf hall
              refine wpOp_of_list (i := 12) rfl ?_
              go_wp2_with fail
              dsimp only [gQ]
              go_wp2_with fail
              go_ret
              have hle : (insU L s).length = n + 1 := by rw [HINS.out, List.length_append, List.length_cons, hlA, hlD]; omega
              rw [hle]
              refine ⟨g', c', rfl, ?_, HB00.out.trans ((HBD.out.trans (HO.out.2.mono HBD.out.size)).mono HB00.out.size)⟩
              have h9 := own_mono HO.out.1 (Nat.le_trans HBASE.out HBD.out.size)
              rw [HINS.out]
              rw [List.append_assoc] at h9
              exact h9
          | true =>
            have h2 : (a.n.toList == s.n.toList) = false := by have h := Us.same_ne he; unfold Us.same at h; rw [h1, Bool.true_and] at h; exact h
            clear he
            go_wp2_with fail
            go_quiet (fail)
            go_wp2_with fail
            have hB2 := below_drawn HBg.out nq
            generalize wv.drewN nq = wr at hB2 ⊢
            have HB := hid hB2
            clear hB2 f0 f1 f2 f3 HBg
            clear h1 h2
            refine wp_region_any (by kernel_rfl) ?_
            change wpAny _ _ _ _ 13 _ _ (World.drew _)
            have HBD : Kpt (Below W.heap.size W wr.drew) := hid HB.out.drew
            generalize wr.drew = V0 at HBD ⊢
            have HBX : Kpt (∀ w, Below V0.heap.size V0 w → w.cell? ⟨bx, 0, none⟩ = some (.string s.m) ∧ w.cell? ⟨bx, 1, none⟩ = some (.string s.n)) := hid fun w hw => HX.out w (HBD.out.trans (hw.mono HBD.out.size))
            have HCV : Kpt (∀ w, Below V0.heap.size V0 w → ∀ j u, (L.flatMap Us.cl)[j]? = some u → w.cell? ⟨g, j, none⟩ = some u) := hid fun w hw => HF.out w (HBD.out.trans (hw.mono HBD.out.size))
            have hkc : i ≤ c := by omega
            have hlA : (L.take i).length = i := by rw [List.length_take, HN.out]; omega
            have hlD : (L.drop i).length = n - i := by rw [List.length_drop, HN.out]
            refine wpAny_flow3 (n := 12) (Fact := FactV g n c i s) (Fx := FxI _ _ _ _ _ _ _ _ _ _ _ _ _ _ _ _ _ _ _ _ _ _ _ _ _ _ _ _ _ _ _ _ _) (G := fun w => Below V0.heap.size V0 w) (Rel := RelV V0.heap.size i (L.take i) (L.drop i) s) (by kernel_rfl) ?back ?last ?step ?tail 13 _ _ _ ⟨rfl, rfl, ⟨_, _, _, _, _, _, _, _, _, _, _, _, rfl⟩, Below.refl _ _, ⟨fun _ => getD_replicate_false _ _, fun _ => getD_replicate_false _ _, fun _ => getD_replicate_false _ _, fun h => absurd h (by rw [getD_replicate_false]; decide), fun h => absurd h (by rw [getD_replicate_false]; decide), fun h => absurd h (by rw [getD_replicate_false]; decide), fun h => absurd h (by rw [getD_replicate_false]; decide), fun h => absurd h (by rw [getD_replicate_false]; decide)⟩, fun j hj hl => absurd hl (by rw [getD_replicate_false]; decide)⟩ (by decide)
            case back => exact flow_back_of (by kernel_rfl)
            case last => exact flow_last_of (by kernel_rfl)
            case step =>
              rintro j hj listed a w hls hun hRl ⟨u33, u34, u35, u36, u37, u38, u39, u40, u41, u42, u43, u44, rfl⟩ hG hw
              rcases (by omega : j = 0 ∨ j = 1 ∨ j = 2 ∨ j = 3 ∨ j = 4 ∨ j = 5 ∨ j = 6 ∨ j = 7 ∨ j = 8 ∨ j = 9 ∨ j = 10 ∨ j = 11) with rfl | rfl | rfl | rfl | rfl | rfl | rfl | rfl | rfl | rfl | rfl | rfl
              · have h0 : listed.getD 0 false = false := by rw [← getD_in (by rw [hls]; omega), hun]
                have h4 := hRl.o4 h0
                have h7 := hRl.o7 h4
                have h11 := hRl.o11 h7
                refine wpOp_of_list (i := 0) rfl ?_
                go_wp2_with fail
                refine ⟨⟨_, _, _, _, _, _, _, _, _, _, _, _, rfl⟩, hG.alloc hG.size _, trivial, (fun j hj hne => by rcases (by omega : j = 0 ∨ j = 1 ∨ j = 2 ∨ j = 3 ∨ j = 4 ∨ j = 5 ∨ j = 6 ∨ j = 7 ∨ j = 8 ∨ j = 9 ∨ j = 10 ∨ j = 11) with rfl | rfl | rfl | rfl | rfl | rfl | rfl | rfl | rfl | rfl | rfl | rfl <;> first | exact absurd rfl hne | rfl), fun j v h => FactV.any j v _ _ h, ?_⟩
                constructor <;> simp only [getD_set_ne false (show (0 : Nat) ≠ 4 by decide), getD_set_ne false (show (0 : Nat) ≠ 6 by decide), getD_set_ne false (show (0 : Nat) ≠ 7 by decide), getD_set_ne false (show (0 : Nat) ≠ 11 by decide), h4, h7, h11]
                · intro _; trivial
                · intro _; trivial
                · intro _; trivial
                · intro _ _; exact World.ownsRow_made w #[] 0 hG.size (by unfold maxLen; omega) rfl
                · intro h; cases h
                · intro h; cases h
                · intro h; cases h
                · intro h6; obtain ⟨h, e, hc6, hlt6, _⟩ := hRl.r6 h6; exact ⟨h, e, fun _ => ⟨old_cell ((Below.refl _ w).alloc (Nat.le_refl _) _) (hc6 h7).1, old_cell ((Below.refl _ w).alloc (Nat.le_refl _) _) (hc6 h7).2⟩, by simp; omega, fun _ _ => by simp [Value.ownBlock]; omega⟩
              · skip
                refine wpOp_of_list (i := 1) rfl ?_
                go_wp2_with fail
                exact ⟨⟨_, _, _, _, _, _, _, _, _, _, _, _, rfl⟩, hG, by first | rfl | (show _ = _; simp), (fun j hj hne => by rcases (by omega : j = 0 ∨ j = 1 ∨ j = 2 ∨ j = 3 ∨ j = 4 ∨ j = 5 ∨ j = 6 ∨ j = 7 ∨ j = 8 ∨ j = 9 ∨ j = 10 ∨ j = 11) with rfl | rfl | rfl | rfl | rfl | rfl | rfl | rfl | rfl | rfl | rfl | rfl <;> first | exact absurd rfl hne | rfl), fun j v h => FactV.any j v _ _ h, hRl.step (by decide) (by decide) (by decide) (by decide) (by decide) rfl rfl rfl rfl rfl⟩
              · skip
                refine wpOp_of_list (i := 2) rfl ?_
                go_wp2_with fail
                exact ⟨⟨_, _, _, _, _, _, _, _, _, _, _, _, rfl⟩, hG, by first | rfl | (show _ = _; simp), (fun j hj hne => by rcases (by omega : j = 0 ∨ j = 1 ∨ j = 2 ∨ j = 3 ∨ j = 4 ∨ j = 5 ∨ j = 6 ∨ j = 7 ∨ j = 8 ∨ j = 9 ∨ j = 10 ∨ j = 11) with rfl | rfl | rfl | rfl | rfl | rfl | rfl | rfl | rfl | rfl | rfl | rfl <;> first | exact absurd rfl hne | rfl), fun j v h => FactV.any j v _ _ h, hRl.step (by decide) (by decide) (by decide) (by decide) (by decide) rfl rfl rfl rfl rfl⟩
              · skip
                obtain rfl : u34 = .slice (some ⟨g, 0, none⟩) n c := (hw 1 (by kernel_rfl)).2
                obtain rfl : u35 = .int .i64 (i : Int) := (hw 2 (by kernel_rfl)).2
                refine wpOp_of_list (i := 3) rfl ?_
                go_wp2_with fail
                exact ⟨⟨_, _, _, _, _, _, _, _, _, _, _, _, rfl⟩, hG, by first | rfl | (show _ = _; simp), (fun j hj hne => by rcases (by omega : j = 0 ∨ j = 1 ∨ j = 2 ∨ j = 3 ∨ j = 4 ∨ j = 5 ∨ j = 6 ∨ j = 7 ∨ j = 8 ∨ j = 9 ∨ j = 10 ∨ j = 11) with rfl | rfl | rfl | rfl | rfl | rfl | rfl | rfl | rfl | rfl | rfl | rfl <;> first | exact absurd rfl hne | rfl), fun j v h => FactV.any j v _ _ h, hRl.step (by decide) (by decide) (by decide) (by decide) (by decide) rfl rfl rfl rfl rfl⟩
              · have h4 : listed.getD 4 false = false := by rw [← getD_in (by rw [hls]; omega), hun]
                have h7 := hRl.o7 h4
                have h11 := hRl.o11 h7
                have h0 := (hw 0 (by kernel_rfl)).1
                obtain rfl : u36 = .slice (some ⟨g, 0, none⟩) i c := (hw 3 (by kernel_rfl)).2
                have own : w.ownsRow V0.heap.size 57 2 u33 0 [] := hRl.r0 h0 h4
                refine wpOp_of_list (i := 4) rfl ?_
                refine wpList_append_own _ rfl _ _ 51 rfl V0.heap.size 57 i0 _ 2 32 Tryz.underlying51 hi hz0 hz1 hz2 rfl (by decide) _ _ _ rfl own ⟨g, 0, none⟩ i c ((L.take i).flatMap Us.cl) rfl (by rw [len_flatU, hlA]) (fun j u hu => ?news4) (one_flatU _) (by unfold maxLen; omega) (by omega) hG.size ?_
                case news4 => rw [addA, Nat.zero_add]; exact HCV.out w hG j u (flat_take hu)
                intro v' w' hown hgrow _
                refine ⟨⟨_, _, _, _, _, _, _, _, _, _, _, _, rfl⟩, Below.grown hG hgrow hG.size (own_base own), trivial, (fun j hj hne => by rcases (by omega : j = 0 ∨ j = 1 ∨ j = 2 ∨ j = 3 ∨ j = 4 ∨ j = 5 ∨ j = 6 ∨ j = 7 ∨ j = 8 ∨ j = 9 ∨ j = 10 ∨ j = 11) with rfl | rfl | rfl | rfl | rfl | rfl | rfl | rfl | rfl | rfl | rfl | rfl <;> first | exact absurd rfl hne | rfl), fun j v h => FactV.any j v _ _ h, ?_⟩
                have hs4 : (listed.setIfInBounds 4 true).getD 4 false = true := by simp [hls]
                constructor <;> simp only [getD_set_ne false (show (4 : Nat) ≠ 0 by decide), getD_set_ne false (show (4 : Nat) ≠ 6 by decide), getD_set_ne false (show (4 : Nat) ≠ 7 by decide), getD_set_ne false (show (4 : Nat) ≠ 11 by decide), h0, h7, h11, hs4]
                · intro h; cases h
                · intro _; trivial
                · intro _; trivial
                · intro _ h; cases h
                · intro _ _; rw [Nat.zero_add, List.nil_append] at hown; exact hown
                · intro h; cases h
                · intro h; cases h
                · intro h6; obtain ⟨h, e, hc6, hlt6, hne⟩ := hRl.r6 h6; exact ⟨h, e, fun _ => ⟨far_cell hgrow (hc6 h7).1 (fun e => hne h0 h4 e.symm), far_cell hgrow (hc6 h7).2 (fun e => hne h0 h4 e.symm)⟩, Nat.lt_of_lt_of_le hlt6 hgrow.size, fun _ h => by cases h⟩
              · skip
                obtain ⟨e0, e1⟩ := HBX.out w hG
                refine wpOp_of_list (i := 5) rfl ?_
                go_wp2_with fail
                exact ⟨⟨_, _, _, _, _, _, _, _, _, _, _, _, rfl⟩, hG, by first | rfl | (show _ = _; simp), (fun j hj hne => by rcases (by omega : j = 0 ∨ j = 1 ∨ j = 2 ∨ j = 3 ∨ j = 4 ∨ j = 5 ∨ j = 6 ∨ j = 7 ∨ j = 8 ∨ j = 9 ∨ j = 10 ∨ j = 11) with rfl | rfl | rfl | rfl | rfl | rfl | rfl | rfl | rfl | rfl | rfl | rfl <;> first | exact absurd rfl hne | rfl), fun j v h => FactV.any j v _ _ h, hRl.step (by decide) (by decide) (by decide) (by decide) (by decide) rfl rfl rfl rfl rfl⟩
              · have h6 : listed.getD 6 false = false := by rw [← getD_in (by rw [hls]; omega), hun]
                obtain rfl : u38 = .agg #[.string s.m, .string s.n] := (hw 5 (by kernel_rfl)).2
                refine wpOp_of_list (i := 6) rfl ?_
                go_wp2_with fail
                refine ⟨⟨_, _, _, _, _, _, _, _, _, _, _, _, rfl⟩, hG.alloc hG.size _, trivial, (fun j hj hne => by rcases (by omega : j = 0 ∨ j = 1 ∨ j = 2 ∨ j = 3 ∨ j = 4 ∨ j = 5 ∨ j = 6 ∨ j = 7 ∨ j = 8 ∨ j = 9 ∨ j = 10 ∨ j = 11) with rfl | rfl | rfl | rfl | rfl | rfl | rfl | rfl | rfl | rfl | rfl | rfl <;> first | exact absurd rfl hne | rfl), fun j v h => FactV.any j v _ _ h, ?_⟩
                constructor <;> simp only [getD_set_ne false (show (6 : Nat) ≠ 0 by decide), getD_set_ne false (show (6 : Nat) ≠ 4 by decide), getD_set_ne false (show (6 : Nat) ≠ 7 by decide), getD_set_ne false (show (6 : Nat) ≠ 11 by decide)]
                · exact hRl.o4
                · exact hRl.o7
                · exact hRl.o11
                · intro x y; exact (hRl.r0 x y).alloc _
                · intro x y; exact (hRl.r4 x y).alloc _
                · intro x y; exact (hRl.r7 x y).alloc _
                · intro x; exact (hRl.r11 x).alloc _
                · intro _; exact ⟨w.heap.size, rfl, fun _ => ⟨cell_of_row _ _ 0 _ _ _ (World.alloc_heap_new w (.cells #[.string s.m, .string s.n] 57)), cell_of_row _ _ 1 _ _ _ (World.alloc_heap_new w (.cells #[.string s.m, .string s.n] 57))⟩, by simp, fun x y e => Nat.lt_irrefl _ ((hRl.r0 x y).lt _ e).2⟩
              · have h7 : listed.getD 7 false = false := by rw [← getD_in (by rw [hls]; omega), hun]
                have h11 := hRl.o11 h7
                have h4 := (hw 4 (by kernel_rfl)).1
                obtain ⟨h, e39, hc6, hlt6, _⟩ := hRl.r6 (hw 6 (by kernel_rfl)).1
                obtain rfl : u39 = .slice (some ⟨h, 0, none⟩) 1 1 := e39
                have hc6 := hc6 h7
                have own : w.ownsRow V0.heap.size 57 2 u37 i ((L.take i).flatMap Us.cl) := hRl.r4 h4 h7
                refine wpOp_of_list (i := 7) rfl ?_
                refine wpList_append_own _ rfl _ _ 51 rfl V0.heap.size 57 i0 _ 2 32 Tryz.underlying51 hi hz0 hz1 hz2 rfl (by decide) _ _ _ rfl own ⟨h, 0, none⟩ 1 1 [.string s.m, .string s.n] rfl rfl (fun j u hu => ?news7) (fun u hu => by simp at hu; rcases hu with rfl | rfl <;> rfl) (by unfold maxLen; omega) (by omega) hG.size ?_
                case news7 =>
                  rw [addA, Nat.zero_add]
                  rcases j with _ | _ | j
                  · cases hu; exact hc6.1
                  · cases hu; exact hc6.2
                  · simp at hu
                intro v' w' hown hgrow _
                refine ⟨⟨_, _, _, _, _, _, _, _, _, _, _, _, rfl⟩, Below.grown hG hgrow hG.size (own_base own), trivial, (fun j hj hne => by rcases (by omega : j = 0 ∨ j = 1 ∨ j = 2 ∨ j = 3 ∨ j = 4 ∨ j = 5 ∨ j = 6 ∨ j = 7 ∨ j = 8 ∨ j = 9 ∨ j = 10 ∨ j = 11) with rfl | rfl | rfl | rfl | rfl | rfl | rfl | rfl | rfl | rfl | rfl | rfl <;> first | exact absurd rfl hne | rfl), fun j v h => FactV.any j v _ _ h, ?_⟩
                have hs7 : (listed.setIfInBounds 7 true).getD 7 false = true := by simp [hls]
                constructor <;> simp only [getD_set_ne false (show (7 : Nat) ≠ 0 by decide), getD_set_ne false (show (7 : Nat) ≠ 4 by decide), getD_set_ne false (show (7 : Nat) ≠ 6 by decide), getD_set_ne false (show (7 : Nat) ≠ 11 by decide), h4, h11, hs7]
                · exact fun x => absurd (hRl.o4 x) (by rw [h4]; decide)
                · intro h; cases h
                · intro _; trivial
                · intro _ h; cases h
                · intro _ h; cases h
                · intro _ _; rw [List.flatMap_append]; exact hown
                · intro h; cases h
                · intro _; exact ⟨h, rfl, (fun x => by cases x), Nat.lt_of_lt_of_le hlt6 hgrow.size, fun _ x => by cases x⟩
              · skip
                refine wpOp_of_list (i := 8) rfl ?_
                go_wp2_with fail
                exact ⟨⟨_, _, _, _, _, _, _, _, _, _, _, _, rfl⟩, hG, by first | rfl | (show _ = _; simp), (fun j hj hne => by rcases (by omega : j = 0 ∨ j = 1 ∨ j = 2 ∨ j = 3 ∨ j = 4 ∨ j = 5 ∨ j = 6 ∨ j = 7 ∨ j = 8 ∨ j = 9 ∨ j = 10 ∨ j = 11) with rfl | rfl | rfl | rfl | rfl | rfl | rfl | rfl | rfl | rfl | rfl | rfl <;> first | exact absurd rfl hne | rfl), fun j v h => FactV.any j v _ _ h, hRl.step (by decide) (by decide) (by decide) (by decide) (by decide) rfl rfl rfl rfl rfl⟩
              · skip
                refine wpOp_of_list (i := 9) rfl ?_
                go_wp2_with fail
                exact ⟨⟨_, _, _, _, _, _, _, _, _, _, _, _, rfl⟩, hG, by first | rfl | (show _ = _; simp), (fun j hj hne => by rcases (by omega : j = 0 ∨ j = 1 ∨ j = 2 ∨ j = 3 ∨ j = 4 ∨ j = 5 ∨ j = 6 ∨ j = 7 ∨ j = 8 ∨ j = 9 ∨ j = 10 ∨ j = 11) with rfl | rfl | rfl | rfl | rfl | rfl | rfl | rfl | rfl | rfl | rfl | rfl <;> first | exact absurd rfl hne | rfl), fun j v h => FactV.any j v _ _ h, hRl.step (by decide) (by decide) (by decide) (by decide) (by decide) rfl rfl rfl rfl rfl⟩
              · skip
                obtain rfl : u41 = .slice (some ⟨g, 0, none⟩) n c := (hw 8 (by kernel_rfl)).2
                obtain rfl : u42 = .int .i64 (i : Int) := (hw 9 (by kernel_rfl)).2
                refine wpOp_of_list (i := 10) rfl ?_
                go_wp2_with fail
                exact ⟨⟨_, _, _, _, _, _, _, _, _, _, _, _, rfl⟩, hG, ⟨i * 2, (by first | rfl | (simp)), fun _ => rfl⟩, (fun j hj hne => by rcases (by omega : j = 0 ∨ j = 1 ∨ j = 2 ∨ j = 3 ∨ j = 4 ∨ j = 5 ∨ j = 6 ∨ j = 7 ∨ j = 8 ∨ j = 9 ∨ j = 10 ∨ j = 11) with rfl | rfl | rfl | rfl | rfl | rfl | rfl | rfl | rfl | rfl | rfl | rfl <;> first | exact absurd rfl hne | rfl), fun j v h => FactV.any j v _ _ h, hRl.step (by decide) (by decide) (by decide) (by decide) (by decide) rfl rfl rfl rfl rfl⟩
              · have h11 : listed.getD 11 false = false := by rw [← getD_in (by rw [hls]; omega), hun]
                have h7 := (hw 7 (by kernel_rfl)).1
                obtain ⟨o, he43, ho⟩ : ∃ o, u43 = .slice (some ⟨g, o, none⟩) (n - i) (c - i) ∧ (i < n → o = i * 2) := (hw 10 (by kernel_rfl)).2
                subst he43
                have own : w.ownsRow V0.heap.size 57 2 u40 (i + 1) ((L.take i ++ [s]).flatMap Us.cl) := hRl.r7 h7 h11
                refine wpOp_of_list (i := 11) rfl ?_
                refine wpList_append_own _ rfl _ _ 51 rfl V0.heap.size 57 i0 _ 2 32 Tryz.underlying51 hi hz0 hz1 hz2 rfl (by decide) _ _ _ rfl own ⟨g, o, none⟩ (n - i) (c - i) ((L.drop i).flatMap Us.cl) rfl (by rw [len_flatU, hlD]) (fun j u hu => ?news11) (one_flatU _) (by unfold maxLen; omega) (by omega) hG.size ?_
                case news11 =>
                  have hin : i < n := by have h := (List.getElem?_eq_some_iff.1 hu).1; rw [len_flatU, hlD] at h; omega
                  rw [ho hin, addA]
                  exact HCV.out w hG (i * 2 + j) u (flat_drop (by rw [HN.out]; omega) hu)
                intro v' w' hown hgrow _
                refine ⟨⟨_, _, _, _, _, _, _, _, _, _, _, _, rfl⟩, Below.grown hG hgrow hG.size (own_base own), trivial, (fun j hj hne => by rcases (by omega : j = 0 ∨ j = 1 ∨ j = 2 ∨ j = 3 ∨ j = 4 ∨ j = 5 ∨ j = 6 ∨ j = 7 ∨ j = 8 ∨ j = 9 ∨ j = 10 ∨ j = 11) with rfl | rfl | rfl | rfl | rfl | rfl | rfl | rfl | rfl | rfl | rfl | rfl <;> first | exact absurd rfl hne | rfl), fun j v h => FactV.any j v _ _ h, ?_⟩
                have hs11 : (listed.setIfInBounds 11 true).getD 11 false = true := by simp [hls]
                have h4 : listed.getD 4 false = true := by cases h : listed.getD 4 false with | true => rfl | false => rw [hRl.o7 h] at h7; cases h7
                constructor <;> simp only [getD_set_ne false (show (11 : Nat) ≠ 0 by decide), getD_set_ne false (show (11 : Nat) ≠ 4 by decide), getD_set_ne false (show (11 : Nat) ≠ 6 by decide), getD_set_ne false (show (11 : Nat) ≠ 7 by decide), h7, h4, hs11]
                · exact fun x => absurd (hRl.o4 x) (by rw [h4]; decide)
                · intro h; cases h
                · intro h; cases h
                · intro _ h; cases h
                · intro _ h; cases h
                · intro _ h; cases h
                · intro _; rw [List.flatMap_append, hlD]; exact hown
                · intro h6; obtain ⟨h, e39, _, hlt6, _⟩ := hRl.r6 h6; exact ⟨h, e39, (fun x => by cases x), Nat.lt_of_lt_of_le hlt6 hgrow.size, fun _ x => by cases x⟩
            case tail =>
              rintro listed a w hall hRl ⟨u33, u34, u35, u36, u37, u38, u39, u40, u41, u42, u43, u44, rfl⟩ hG hf
              have own : w.ownsRow V0.heap.size 57 2 u44 (i + 1 + (L.drop i).length) ((L.take i ++ [s] ++ L.drop i).flatMap Us.cl) := hRl.r11 (hall 11 (by omega))
              rw [hlD, show i + 1 + (n - i) = n + 1 by omega] at own
              obtain ⟨g', c', rfl⟩ := ownsRow_succ own
              have HO := hid (And.intro own hG)
              clear own hG hRl hf hall
              refine wpOp_of_list (i := 12) rfl ?_
              go_wp2_with fail
              dsimp only [gQ]
              go_wp2_with fail
              go_ret
              have hle : (insU L s).length = n + 1 := by rw [HINS.out, List.length_append, List.length_cons, hlA, hlD]; omega
              rw [hle]
              refine ⟨g', c', rfl, ?_, HB00.out.trans ((HBD.out.trans (HO.out.2.mono HBD.out.size)).mono HB00.out.size)⟩
              have h9 := own_mono HO.out.1 (Nat.le_trans HBASE.out HBD.out.size)
              rw [HINS.out]
              rw [List.append_assoc] at h9
              exact h9
    · obtain rfl : i = n := by omega
      have HINS := hid (show insU L s = L.take i ++ s :: L.drop i by
        have hpi : posU s L = i := by have h := hp.out; rw [List.drop_eq_nil_of_le (by rw [HN.out]; exact Nat.le_refl _)] at h; exact h
        unfold insU
        rw [hpi, List.getElem?_eq_none (by rw [HN.out]; exact Nat.le_refl _)])
      have HB3 := hid hB
      clear hp hB
      go_wp2_with fail
      go_quiet (fail)
      have hB2 := below_drawn HB3.out nq
      generalize wr.drewN nq = wv at hB2 ⊢
      have HBg := hid hB2
      clear hB2 nq
      go_wp2_with fail
      go_quiet (fail)
      go_wp2_with fail
      have hB2 := below_drawn HBg.out nq
      generalize wv.drewN nq = wr at hB2 ⊢
      have HB := hid hB2
      clear hB2 HBg
      refine wp_region_any (by kernel_rfl) ?_
      change wpAny _ _ _ _ 13 _ _ (World.drew _)
      have HBD : Kpt (Below W.heap.size W wr.drew) := hid HB.out.drew
      generalize wr.drew = V0 at HBD ⊢
      have HBX : Kpt (∀ w, Below V0.heap.size V0 w → w.cell? ⟨bx, 0, none⟩ = some (.string s.m) ∧ w.cell? ⟨bx, 1, none⟩ = some (.string s.n)) := hid fun w hw => HX.out w (HBD.out.trans (hw.mono HBD.out.size))
      have HCV : Kpt (∀ w, Below V0.heap.size V0 w → ∀ j u, (L.flatMap Us.cl)[j]? = some u → w.cell? ⟨g, j, none⟩ = some u) := hid fun w hw => HF.out w (HBD.out.trans (hw.mono HBD.out.size))
      have hkc : i ≤ c := by omega
      have hlA : (L.take i).length = i := by rw [List.length_take, HN.out]; omega
      have hlD : (L.drop i).length = i - i := by rw [List.length_drop, HN.out]
      refine wpAny_flow3 (n := 12) (Fact := FactV g i c i s) (Fx := FxI _ _ _ _ _ _ _ _ _ _ _ _ _ _ _ _ _ _ _ _ _ _ _ _ _ _ _ _ _ _ _ _ _) (G := fun w => Below V0.heap.size V0 w) (Rel := RelV V0.heap.size i (L.take i) (L.drop i) s) (by kernel_rfl) ?back ?last ?step ?tail 13 _ _ _ ⟨rfl, rfl, ⟨_, _, _, _, _, _, _, _, _, _, _, _, rfl⟩, Below.refl _ _, ⟨fun _ => getD_replicate_false _ _, fun _ => getD_replicate_false _ _, fun _ => getD_replicate_false _ _, fun h => absurd h (by rw [getD_replicate_false]; decide), fun h => absurd h (by rw [getD_replicate_false]; decide), fun h => absurd h (by rw [getD_replicate_false]; decide), fun h => absurd h (by rw [getD_replicate_false]; decide), fun h => absurd h (by rw [getD_replicate_false]; decide)⟩, fun j hj hl => absurd hl (by rw [getD_replicate_false]; decide)⟩ (by decide)
      case back => exact flow_back_of (by kernel_rfl)
      case last => exact flow_last_of (by kernel_rfl)
      case step =>
        rintro j hj listed a w hls hun hRl ⟨u33, u34, u35, u36, u37, u38, u39, u40, u41, u42, u43, u44, rfl⟩ hG hw
        rcases (by omega : j = 0 ∨ j = 1 ∨ j = 2 ∨ j = 3 ∨ j = 4 ∨ j = 5 ∨ j = 6 ∨ j = 7 ∨ j = 8 ∨ j = 9 ∨ j = 10 ∨ j = 11) with rfl | rfl | rfl | rfl | rfl | rfl | rfl | rfl | rfl | rfl | rfl | rfl
        · have h0 : listed.getD 0 false = false := by rw [← getD_in (by rw [hls]; omega), hun]
          have h4 := hRl.o4 h0
          have h7 := hRl.o7 h4
          have h11 := hRl.o11 h7
          refine wpOp_of_list (i := 0) rfl ?_
          go_wp2_with fail
          refine ⟨⟨_, _, _, _, _, _, _, _, _, _, _, _, rfl⟩, hG.alloc hG.size _, trivial, (fun j hj hne => by rcases (by omega : j = 0 ∨ j = 1 ∨ j = 2 ∨ j = 3 ∨ j = 4 ∨ j = 5 ∨ j = 6 ∨ j = 7 ∨ j = 8 ∨ j = 9 ∨ j = 10 ∨ j = 11) with rfl | rfl | rfl | rfl | rfl | rfl | rfl | rfl | rfl | rfl | rfl | rfl <;> first | exact absurd rfl hne | rfl), fun j v h => FactV.any j v _ _ h, ?_⟩
          constructor <;> simp only [getD_set_ne false (show (0 : Nat) ≠ 4 by decide), getD_set_ne false (show (0 : Nat) ≠ 6 by decide), getD_set_ne false (show (0 : Nat) ≠ 7 by decide), getD_set_ne false (show (0 : Nat) ≠ 11 by decide), h4, h7, h11]
          · intro _; trivial
          · intro _; trivial
          · intro _; trivial
          · intro _ _; exact World.ownsRow_made w #[] 0 hG.size (by unfold maxLen; omega) rfl
          · intro h; cases h
          · intro h; cases h
          · intro h; cases h
          · intro h6; obtain ⟨h, e, hc6, hlt6, _⟩ := hRl.r6 h6; exact ⟨h, e, fun _ => ⟨old_cell ((Below.refl _ w).alloc (Nat.le_refl _) _) (hc6 h7).1, old_cell ((Below.refl _ w).alloc (Nat.le_refl _) _) (hc6 h7).2⟩, by simp; omega, fun _ _ => by simp [Value.ownBlock]; omega⟩
        · skip
          refine wpOp_of_list (i := 1) rfl ?_
          go_wp2_with fail
          exact ⟨⟨_, _, _, _, _, _, _, _, _, _, _, _, rfl⟩, hG, by first | rfl | (show _ = _; simp), (fun j hj hne => by rcases (by omega : j = 0 ∨ j = 1 ∨ j = 2 ∨ j = 3 ∨ j = 4 ∨ j = 5 ∨ j = 6 ∨ j = 7 ∨ j = 8 ∨ j = 9 ∨ j = 10 ∨ j = 11) with rfl | rfl | rfl | rfl | rfl | rfl | rfl | rfl | rfl | rfl | rfl | rfl <;> first | exact absurd rfl hne | rfl), fun j v h => FactV.any j v _ _ h, hRl.step (by decide) (by decide) (by decide) (by decide) (by decide) rfl rfl rfl rfl rfl⟩
        · skip
          refine wpOp_of_list (i := 2) rfl ?_
          go_wp2_with fail
          exact ⟨⟨_, _, _, _, _, _, _, _, _, _, _, _, rfl⟩, hG, by first | rfl | (show _ = _; simp), (fun j hj hne => by rcases (by omega : j = 0 ∨ j = 1 ∨ j = 2 ∨ j = 3 ∨ j = 4 ∨ j = 5 ∨ j = 6 ∨ j = 7 ∨ j = 8 ∨ j = 9 ∨ j = 10 ∨ j = 11) with rfl | rfl | rfl | rfl | rfl | rfl | rfl | rfl | rfl | rfl | rfl | rfl <;> first | exact absurd rfl hne | rfl), fun j v h => FactV.any j v _ _ h, hRl.step (by decide) (by decide) (by decide) (by decide) (by decide) rfl rfl rfl rfl rfl⟩
        · skip
          obtain rfl : u34 = .slice (some ⟨g, 0, none⟩) i c := (hw 1 (by kernel_rfl)).2
          obtain rfl : u35 = .int .i64 (i : Int) := (hw 2 (by kernel_rfl)).2
          refine wpOp_of_list (i := 3) rfl ?_
          go_wp2_with fail
          exact ⟨⟨_, _, _, _, _, _, _, _, _, _, _, _, rfl⟩, hG, by first | rfl | (show _ = _; simp), (fun j hj hne => by rcases (by omega : j = 0 ∨ j = 1 ∨ j = 2 ∨ j = 3 ∨ j = 4 ∨ j = 5 ∨ j = 6 ∨ j = 7 ∨ j = 8 ∨ j = 9 ∨ j = 10 ∨ j = 11) with rfl | rfl | rfl | rfl | rfl | rfl | rfl | rfl | rfl | rfl | rfl | rfl <;> first | exact absurd rfl hne | rfl), fun j v h => FactV.any j v _ _ h, hRl.step (by decide) (by decide) (by decide) (by decide) (by decide) rfl rfl rfl rfl rfl⟩
        · have h4 : listed.getD 4 false = false := by rw [← getD_in (by rw [hls]; omega), hun]
          have h7 := hRl.o7 h4
          have h11 := hRl.o11 h7
          have h0 := (hw 0 (by kernel_rfl)).1
          obtain rfl : u36 = .slice (some ⟨g, 0, none⟩) i c := (hw 3 (by kernel_rfl)).2
          have own : w.ownsRow V0.heap.size 57 2 u33 0 [] := hRl.r0 h0 h4
          refine wpOp_of_list (i := 4) rfl ?_
          refine wpList_append_own _ rfl _ _ 51 rfl V0.heap.size 57 i0 _ 2 32 Tryz.underlying51 hi hz0 hz1 hz2 rfl (by decide) _ _ _ rfl own ⟨g, 0, none⟩ i c ((L.take i).flatMap Us.cl) rfl (by rw [len_flatU, hlA]) (fun j u hu => ?news4) (one_flatU _) (by unfold maxLen; omega) (by omega) hG.size ?_
          case news4 => rw [addA, Nat.zero_add]; exact HCV.out w hG j u (flat_take hu)
          intro v' w' hown hgrow _
          refine ⟨⟨_, _, _, _, _, _, _, _, _, _, _, _, rfl⟩, Below.grown hG hgrow hG.size (own_base own), trivial, (fun j hj hne => by rcases (by omega : j = 0 ∨ j = 1 ∨ j = 2 ∨ j = 3 ∨ j = 4 ∨ j = 5 ∨ j = 6 ∨ j = 7 ∨ j = 8 ∨ j = 9 ∨ j = 10 ∨ j = 11) with rfl | rfl | rfl | rfl | rfl | rfl | rfl | rfl | rfl | rfl | rfl | rfl <;> first | exact absurd rfl hne | rfl), fun j v h => FactV.any j v _ _ h, ?_⟩
          have hs4 : (listed.setIfInBounds 4 true).getD 4 false = true := by simp [hls]
          constructor <;> simp only [getD_set_ne false (show (4 : Nat) ≠ 0 by decide), getD_set_ne false (show (4 : Nat) ≠ 6 by decide), getD_set_ne false (show (4 : Nat) ≠ 7 by decide), getD_set_ne false (show (4 : Nat) ≠ 11 by decide), h0, h7, h11, hs4]
          · intro h; cases h
          · intro _; trivial
          · intro _; trivial
          · intro _ h; cases h
          · intro _ _; rw [Nat.zero_add, List.nil_append] at hown; exact hown
          · intro h; cases h
          · intro h; cases h
          · intro h6; obtain ⟨h, e, hc6, hlt6, hne⟩ := hRl.r6 h6; exact ⟨h, e, fun _ => ⟨far_cell hgrow (hc6 h7).1 (fun e => hne h0 h4 e.symm), far_cell hgrow (hc6 h7).2 (fun e => hne h0 h4 e.symm)⟩, Nat.lt_of_lt_of_le hlt6 hgrow.size, fun _ h => by cases h⟩
        · skip
          obtain ⟨e0, e1⟩ := HBX.out w hG
          refine wpOp_of_list (i := 5) rfl ?_
          go_wp2_with fail
          exact ⟨⟨_, _, _, _, _, _, _, _, _, _, _, _, rfl⟩, hG, by first | rfl | (show _ = _; simp), (fun j hj hne => by rcases (by omega : j = 0 ∨ j = 1 ∨ j = 2 ∨ j = 3 ∨ j = 4 ∨ j = 5 ∨ j = 6 ∨ j = 7 ∨ j = 8 ∨ j = 9 ∨ j = 10 ∨ j = 11) with rfl | rfl | rfl | rfl | rfl | rfl | rfl | rfl | rfl | rfl | rfl | rfl <;> first | exact absurd rfl hne | rfl), fun j v h => FactV.any j v _ _ h, hRl.step (by decide) (by decide) (by decide) (by decide) (by decide) rfl rfl rfl rfl rfl⟩
        · have h6 : listed.getD 6 false = false := by rw [← getD_in (by rw [hls]; omega), hun]
          obtain rfl : u38 = .agg #[.string s.m, .string s.n] := (hw 5 (by kernel_rfl)).2
          refine wpOp_of_list (i := 6) rfl ?_
          go_wp2_with fail
          refine ⟨⟨_, _, _, _, _, _, _, _, _, _, _, _, rfl⟩, hG.alloc hG.size _, trivial, (fun j hj hne => by rcases (by omega : j = 0 ∨ j = 1 ∨ j = 2 ∨ j = 3 ∨ j = 4 ∨ j = 5 ∨ j = 6 ∨ j = 7 ∨ j = 8 ∨ j = 9 ∨ j = 10 ∨ j = 11) with rfl | rfl | rfl | rfl | rfl | rfl | rfl | rfl | rfl | rfl | rfl | rfl <;> first | exact absurd rfl hne | rfl), fun j v h => FactV.any j v _ _ h, ?_⟩
          constructor <;> simp only [getD_set_ne false (show (6 : Nat) ≠ 0 by decide), getD_set_ne false (show (6 : Nat) ≠ 4 by decide), getD_set_ne false (show (6 : Nat) ≠ 7 by decide), getD_set_ne false (show (6 : Nat) ≠ 11 by decide)]
          · exact hRl.o4
          · exact hRl.o7
          · exact hRl.o11
          · intro x y; exact (hRl.r0 x y).alloc _
          · intro x y; exact (hRl.r4 x y).alloc _
          · intro x y; exact (hRl.r7 x y).alloc _
          · intro x; exact (hRl.r11 x).alloc _
          · intro _; exact ⟨w.heap.size, rfl, fun _ => ⟨cell_of_row _ _ 0 _ _ _ (World.alloc_heap_new w (.cells #[.string s.m, .string s.n] 57)), cell_of_row _ _ 1 _ _ _ (World.alloc_heap_new w (.cells #[.string s.m, .string s.n] 57))⟩, by simp, fun x y e => Nat.lt_irrefl _ ((hRl.r0 x y).lt _ e).2⟩
        · have h7 : listed.getD 7 false = false := by rw [← getD_in (by rw [hls]; omega), hun]
          have h11 := hRl.o11 h7
          have h4 := (hw 4 (by kernel_rfl)).1
          obtain ⟨h, e39, hc6, hlt6, _⟩ := hRl.r6 (hw 6 (by kernel_rfl)).1
          obtain rfl : u39 = .slice (some ⟨h, 0, none⟩) 1 1 := e39
          have hc6 := hc6 h7
          have own : w.ownsRow V0.heap.size 57 2 u37 i ((L.take i).flatMap Us.cl) := hRl.r4 h4 h7
          refine wpOp_of_list (i := 7) rfl ?_
          refine wpList_append_own _ rfl _ _ 51 rfl V0.heap.size 57 i0 _ 2 32 Tryz.underlying51 hi hz0 hz1 hz2 rfl (by decide) _ _ _ rfl own ⟨h, 0, none⟩ 1 1 [.string s.m, .string s.n] rfl rfl (fun j u hu => ?news7) (fun u hu => by simp at hu; rcases hu with rfl | rfl <;> rfl) (by unfold maxLen; omega) (by omega) hG.size ?_
          case news7 =>
            rw [addA, Nat.zero_add]
            rcases j with _ | _ | j
            · cases hu; exact hc6.1
            · cases hu; exact hc6.2
            · simp at hu
          intro v' w' hown hgrow _
          refine ⟨⟨_, _, _, _, _, _, _, _, _, _, _, _, rfl⟩, Below.grown hG hgrow hG.size (own_base own), trivial, (fun j hj hne => by rcases (by omega : j = 0 ∨ j = 1 ∨ j = 2 ∨ j = 3 ∨ j = 4 ∨ j = 5 ∨ j = 6 ∨ j = 7 ∨ j = 8 ∨ j = 9 ∨ j = 10 ∨ j = 11) with rfl | rfl | rfl | rfl | rfl | rfl | rfl | rfl | rfl | rfl | rfl | rfl <;> first | exact absurd rfl hne | rfl), fun j v h => FactV.any j v _ _ h, ?_⟩
          have hs7 : (listed.setIfInBounds 7 true).getD 7 false = true := by simp [hls]
          constructor <;> simp only [getD_set_ne false (show (7 : Nat) ≠ 0 by decide), getD_set_ne false (show (7 : Nat) ≠ 4 by decide), getD_set_ne false (show (7 : Nat) ≠ 6 by decide), getD_set_ne false (show (7 : Nat) ≠ 11 by decide), h4, h11, hs7]
          · exact fun x => absurd (hRl.o4 x) (by rw [h4]; decide)
          · intro h; cases h
          · intro _; trivial
          · intro _ h; cases h
          · intro _ h; cases h
          · intro _ _; rw [List.flatMap_append]; exact hown
          · intro h; cases h
          · intro _; exact ⟨h, rfl, (fun x => by cases x), Nat.lt_of_lt_of_le hlt6 hgrow.size, fun _ x => by cases x⟩
        · skip
          refine wpOp_of_list (i := 8) rfl ?_
          go_wp2_with fail
          exact ⟨⟨_, _, _, _, _, _, _, _, _, _, _, _, rfl⟩, hG, by first | rfl | (show _ = _; simp), (fun j hj hne => by rcases (by omega : j = 0 ∨ j = 1 ∨ j = 2 ∨ j = 3 ∨ j = 4 ∨ j = 5 ∨ j = 6 ∨ j = 7 ∨ j = 8 ∨ j = 9 ∨ j = 10 ∨ j = 11) with rfl | rfl | rfl | rfl | rfl | rfl | rfl | rfl | rfl | rfl | rfl | rfl <;> first | exact absurd rfl hne | rfl), fun j v h => FactV.any j v _ _ h, hRl.step (by decide) (by decide) (by decide) (by decide) (by decide) rfl rfl rfl rfl rfl⟩
        · skip
          refine wpOp_of_list (i := 9) rfl ?_
          go_wp2_with fail
          exact ⟨⟨_, _, _, _, _, _, _, _, _, _, _, _, rfl⟩, hG, by first | rfl | (show _ = _; simp), (fun j hj hne => by rcases (by omega : j = 0 ∨ j = 1 ∨ j = 2 ∨ j = 3 ∨ j = 4 ∨ j = 5 ∨ j = 6 ∨ j = 7 ∨ j = 8 ∨ j = 9 ∨ j = 10 ∨ j = 11) with rfl | rfl | rfl | rfl | rfl | rfl | rfl | rfl | rfl | rfl | rfl | rfl <;> first | exact absurd rfl hne | rfl), fun j v h => FactV.any j v _ _ h, hRl.step (by decide) (by decide) (by decide) (by decide) (by decide) rfl rfl rfl rfl rfl⟩
        · skip
          obtain rfl : u41 = .slice (some ⟨g, 0, none⟩) i c := (hw 8 (by kernel_rfl)).2
          obtain rfl : u42 = .int .i64 (i : Int) := (hw 9 (by kernel_rfl)).2
          by_cases hci : c = i
          · have hci2 := hci.symm; subst hci2
            refine wpOp_of_list (i := 10) rfl ?_
            go_wp2_with fail
            exact ⟨⟨_, _, _, _, _, _, _, _, _, _, _, _, rfl⟩, hG, ⟨0, (by first | rfl | (rw [Nat.sub_self]; rfl)), fun h => absurd h (Nat.lt_irrefl _)⟩, (fun j hj hne => by rcases (by omega : j = 0 ∨ j = 1 ∨ j = 2 ∨ j = 3 ∨ j = 4 ∨ j = 5 ∨ j = 6 ∨ j = 7 ∨ j = 8 ∨ j = 9 ∨ j = 10 ∨ j = 11) with rfl | rfl | rfl | rfl | rfl | rfl | rfl | rfl | rfl | rfl | rfl | rfl <;> first | exact absurd rfl hne | rfl), fun j v h => FactV.any j v _ _ h, hRl.step (by decide) (by decide) (by decide) (by decide) (by decide) rfl rfl rfl rfl rfl⟩
          · skip
            refine wpOp_of_list (i := 10) rfl ?_
            go_wp2_with fail
            exact ⟨⟨_, _, _, _, _, _, _, _, _, _, _, _, rfl⟩, hG, ⟨i * 2, (by first | rfl | (rw [Nat.sub_self]; rfl) | simp), fun _ => rfl⟩, (fun j hj hne => by rcases (by omega : j = 0 ∨ j = 1 ∨ j = 2 ∨ j = 3 ∨ j = 4 ∨ j = 5 ∨ j = 6 ∨ j = 7 ∨ j = 8 ∨ j = 9 ∨ j = 10 ∨ j = 11) with rfl | rfl | rfl | rfl | rfl | rfl | rfl | rfl | rfl | rfl | rfl | rfl <;> first | exact absurd rfl hne | rfl), fun j v h => FactV.any j v _ _ h, hRl.step (by decide) (by decide) (by decide) (by decide) (by decide) rfl rfl rfl rfl rfl⟩
        · have h11 : listed.getD 11 false = false := by rw [← getD_in (by rw [hls]; omega), hun]
          have h7 := (hw 7 (by kernel_rfl)).1
          obtain ⟨o, he43, ho⟩ : ∃ o, u43 = .slice (some ⟨g, o, none⟩) (i - i) (c - i) ∧ (i < i → o = i * 2) := (hw 10 (by kernel_rfl)).2
          subst he43
          have own : w.ownsRow V0.heap.size 57 2 u40 (i + 1) ((L.take i ++ [s]).flatMap Us.cl) := hRl.r7 h7 h11
          refine wpOp_of_list (i := 11) rfl ?_
          refine wpList_append_own _ rfl _ _ 51 rfl V0.heap.size 57 i0 _ 2 32 Tryz.underlying51 hi hz0 hz1 hz2 rfl (by decide) _ _ _ rfl own ⟨g, o, none⟩ (i - i) (c - i) ((L.drop i).flatMap Us.cl) rfl (by rw [len_flatU, hlD]) (fun j u hu => ?news11) (one_flatU _) (by unfold maxLen; omega) (by omega) hG.size ?_
          case news11 =>
            have hin : i < i := by have h := (List.getElem?_eq_some_iff.1 hu).1; rw [len_flatU, hlD] at h; omega
            rw [ho hin, addA]
            exact HCV.out w hG (i * 2 + j) u (flat_drop (by rw [HN.out]; omega) hu)
          intro v' w' hown hgrow _
          refine ⟨⟨_, _, _, _, _, _, _, _, _, _, _, _, rfl⟩, Below.grown hG hgrow hG.size (own_base own), trivial, (fun j hj hne => by rcases (by omega : j = 0 ∨ j = 1 ∨ j = 2 ∨ j = 3 ∨ j = 4 ∨ j = 5 ∨ j = 6 ∨ j = 7 ∨ j = 8 ∨ j = 9 ∨ j = 10 ∨ j = 11) with rfl | rfl | rfl | rfl | rfl | rfl | rfl | rfl | rfl | rfl | rfl | rfl <;> first | exact absurd rfl hne | rfl), fun j v h => FactV.any j v _ _ h, ?_⟩
          have hs11 : (listed.setIfInBounds 11 true).getD 11 false = true := by simp [hls]
          have h4 : listed.getD 4 false = true := by cases h : listed.getD 4 false with | true => rfl | false => rw [hRl.o7 h] at h7; cases h7
          constructor <;> simp only [getD_set_ne false (show (11 : Nat) ≠ 0 by decide), getD_set_ne false (show (11 : Nat) ≠ 4 by decide), getD_set_ne false (show (11 : Nat) ≠ 6 by decide), getD_set_ne false (show (11 : Nat) ≠ 7 by decide), h7, h4, hs11]
          · exact fun x => absurd (hRl.o4 x) (by rw [h4]; decide)
          · intro h; cases h
          · intro h; cases h
          · intro _ h; cases h
          · intro _ h; cases h
          · intro _ h; cases h
          · intro _; rw [List.flatMap_append, hlD]; exact hown
          · intro h6; obtain ⟨h, e39, _, hlt6, _⟩ := hRl.r6 h6; exact ⟨h, e39, (fun x => by cases x), Nat.lt_of_lt_of_le hlt6 hgrow.size, fun _ x => by cases x⟩
      case tail =>
        rintro listed a w hall hRl ⟨u33, u34, u35, u36, u37, u38, u39, u40, u41, u42, u43, u44, rfl⟩ hG hf
        have own : w.ownsRow V0.heap.size 57 2 u44 (i + 1 + (L.drop i).length) ((L.take i ++ [s] ++ L.drop i).flatMap Us.cl) := hRl.r11 (hall 11 (by omega))
        rw [hlD, show i + 1 + (i - i) = i + 1 by omega] at own
        obtain ⟨g', c', rfl⟩ := ownsRow_succ own
        have HO := hid (And.intro own hG)
        clear own hG hRl hf hall
        refine wpOp_of_list (i := 12) rfl ?_
        go_wp2_with fail
        dsimp only [gQ]
        go_wp2_with fail
        go_ret
        have hle : (insU L s).length = i + 1 := by rw [HINS.out, List.length_append, List.length_cons, hlA, hlD]; omega
        rw [hle]
        refine ⟨g', c', rfl, ?_, HB00.out.trans ((HBD.out.trans (HO.out.2.mono HBD.out.size)).mono HB00.out.size)⟩
        have h9 := own_mono HO.out.1 (Nat.le_trans HBASE.out HBD.out.size)
        rw [HINS.out]
        rw [List.append_assoc] at h9
        exact h9
end Go.Proofs.YtjedcijddlilaaaGreatDoor

namespace Go.Proofs.YtjedcijddlilaaaGreatDoor
open Go.RowKit Go.Shelf Go.Sort
attribute [local go_sem] Oper.semAt_some

def RgT (w0 : World) (s : Nat) : Prop := ∀ x : TyI w0, x.t.size ≤ s → ∀ W, Below w0.heap.size w0 W → Calls Tryz.prog 26 #[.agg #[.int .i64 x.t.k, .string x.t.m, .string x.t.n, .slice x.aa x.t.A.len x.ca, .slice x.af x.t.F.len x.cf]] W
  fun e W' => ∃ M g c, Ments x.t M ∧ e = .returned (.slice (some ⟨g, 0, none⟩) M.length c) ∧ W'.ownsRow W.heap.size 57 2 (.slice (some ⟨g, 0, none⟩) M.length c) M.length (M.flatMap Us.cl) ∧ Below W.heap.size W W'
set_option maxRecDepth 100000 in
set_option maxHeartbeats 16000000 in
theorem rg_step (w0 : World) (s : Nat) (hs : s + 1 ≤ 1099511627775) (ih : RgT w0 s) : RgT w0 (s + 1) := by
  intro x hx W hW
  have HI := hid ih
  clear ih
  obtain ⟨i0, hi, hz0, hz1, hz2⟩ := info_parts infoUs
  obtain ⟨wa, hwa⟩ : ∃ wa, W.alloc (.cells #[.int .i64 x.t.k, .string x.t.m, .string x.t.n, .slice x.aa x.t.A.len x.ca, .slice x.af x.t.F.len x.cf] 25) = wa := ⟨_, rfl⟩
  have hba : Below W.heap.size W wa := by rw [← hwa]; exact (Below.refl _ W).alloc (Nat.le_refl _) _
  have hea : wa.heap[W.heap.size]? = some (.cells #[.int .i64 x.t.k, .string x.t.m, .string x.t.n, .slice x.aa x.t.A.len x.ca, .slice x.af x.t.F.len x.cf] 25 (0, 0)) := by rw [← hwa]; exact World.alloc_heap_new _ _
  have hsa : wa.heap.size = W.heap.size + 1 := by rw [← hwa]; simp
  obtain ⟨wb, hwb⟩ : ∃ wb, wa.alloc (.cells #[] 57) = wb := ⟨_, rfl⟩
  have hbb : Below wa.heap.size wa wb := by rw [← hwb]; exact (Below.refl _ wa).alloc (Nat.le_refl _) _
  have hob : wb.ownsRow (W.heap.size + 1) 57 2 (.slice (some ⟨W.heap.size + 1, 0, none⟩) 0 0) 0 [] := by rw [← hwb, ← hsa]; exact World.ownsRow_made wa #[] 0 (by omega) (by unfold maxLen; omega) rfl
  have HR : Kpt (∀ w, Below wa.heap.size wa w → w.heap[W.heap.size]? = some (.cells #[.int .i64 x.t.k, .string x.t.m, .string x.t.n, .slice x.aa x.t.A.len x.ca, .slice x.af x.t.F.len x.cf] 25 (0, 0))) := hid fun w hb => (hb.block _ (by omega)).trans hea
  have HOLD : Kpt (∀ w, Below wa.heap.size wa w → Below w0.heap.size w0 w) := hid fun w hb => hW.trans ((hba.trans (hb.mono hba.size)).mono hW.size)
  have HFIN : Kpt (∀ w, Below wa.heap.size wa w → Below W.heap.size W w) := hid fun w hb => hba.trans (hb.mono hba.size)
  have HBB := hid hbb
  have HOB := hid hob
  have hsb := hbb.size
  have hrb := HR.out wb hbb
  have k0 := cell_of_row wb _ 0 _ _ _ hrb
  have k1 := cell_of_row wb _ 1 _ _ _ hrb
  have k2 := cell_of_row wb _ 2 _ _ _ hrb
  clear hba hea hW hbb hob hrb
  by_cases hk9 : x.t.k = 10
  · have HO0 : Kpt (OutU x.t 0 [⟨x.t.m, x.t.n⟩]) := hid ⟨List.pairwise_singleton _ _, fun z => by unfold UseIn; simp [hk9, eq_comm], by unfold psum; simp⟩
    have hkk : (x.t.k == 10) = true := by rw [hk9]; rfl
    clear hk9
    obtain ⟨C, hC⟩ : ∃ C, (Question.appendCap 1 0 57).cut (wb.tape wb.drawn (Question.appendCap 1 0 57)) = C := ⟨_, rfl⟩
    have hC0 : C = 1 + wb.tape wb.drawn (Question.appendCap 1 0 57) % (2 ^ 63 - 1) := by rw [← hC]; rfl
    have hC1 : 1 ≤ C ∧ C ≤ maxLen := by
      have h := Nat.mod_lt (wb.tape wb.drawn (Question.appendCap 1 0 57)) (show 0 < 2 ^ 63 - 1 by decide)
      rw [hC0]
      unfold maxLen
      omega
    clear hC0
    obtain ⟨w3, hw3⟩ : ∃ w3, ((wb.alloc (.cells #[.string x.t.m, .string x.t.n] 57)).alloc (.cells (#[.string x.t.m, .string x.t.n] ++ Builtin.zeroCells #[.string ⟨#[]⟩, .string ⟨#[]⟩] (C - 1)) 57)).drew = w3 := ⟨_, rfl⟩
    have H3 := hid (show Below wa.heap.size wa w3 by rw [← hw3]; exact ((HBB.out.alloc (by omega) _).alloc (alloc_le (by omega) _) _).drew)
    have hown3 : w3.ownsRow (W.heap.size + 1) 57 2 (.slice (some ⟨wb.heap.size + 1, 0, none⟩) [(⟨x.t.m, x.t.n⟩ : Us)].length C) [(⟨x.t.m, x.t.n⟩ : Us)].length ([(⟨x.t.m, x.t.n⟩ : Us)].flatMap Us.cl) := by
      rw [← hw3]
      refine ⟨rfl, .inr ⟨wb.heap.size + 1, C, #[.string x.t.m, .string x.t.n] ++ Builtin.zeroCells #[.string ⟨#[]⟩, .string ⟨#[]⟩] (C - 1), rfl, by omega, ?_, hC1.1, hC1.2, ?_, ?_⟩⟩
      · have h := World.alloc_heap_new (wb.alloc (.cells #[.string x.t.m, .string x.t.n] 57)) (.cells (#[.string x.t.m, .string x.t.n] ++ Builtin.zeroCells #[.string ⟨#[]⟩, .string ⟨#[]⟩] (C - 1)) 57)
        rw [World.size_alloc] at h
        exact h
      · rw [Array.size_append, size_zeroCells]; simp; omega
      · simp [Us.cl]
    have HW3 := hid hown3
    clear hown3
    have hr3 := HR.out w3 H3.out
    have q0 := cell_of_row w3 _ 0 _ _ _ hr3
    have q1 := cell_of_row w3 _ 1 _ _ _ hr3
    have q2 := cell_of_row w3 _ 2 _ _ _ hr3
    have q3 := cell_of_row w3 _ 3 _ _ _ hr3
    have q4 := cell_of_row w3 _ 4 _ _ _ hr3
    have hs3 := H3.out.size
    clear hr3
    go_enter Tryz.func26, Tryz.ntmps26
    have HP := hid (rparts_any w0 x w3 (HOLD.out w3 H3.out) (by omega))
    go_wp2_with fail
    refine HP.out.mono ?_
    rintro e w1 ⟨v, rs, rfl, hrs, hrow, hb1⟩
    obtain ⟨p, c1, rfl⟩ := own_slice hrow
    clear q0 q1 q2 q3 q4 k0 k1 k2 hwa hwb hw3 hC
    have hln : rs.length = x.t.parts.length := by rw [← hrs, List.length_map]
    have hpz : psum x.t.parts x.t.parts.length = x.t.size := by unfold psum; rw [List.take_length, ← Ty.size_parts]
    have hpl : x.t.parts.length < x.t.size := by
      have h : ∀ l : List Ty, l.length ≤ (l.map Ty.size).sum := fun l => by
        induction l with
        | nil => exact Nat.le_refl _
        | cons a l ih => simp only [List.length_cons, List.map_cons, List.sum_cons, Ty.size]; omega
      rw [Ty.size_parts]
      have := h x.t.parts
      omega
    obtain ⟨L, hL⟩ : ∃ L, rs.length = L := ⟨_, rfl⟩
    rw [hL] at hrow ⊢
    have hLs : L < x.t.size := by omega
    have HB1 := hid (H3.out.trans (hb1.mono H3.out.size))
    have hs1 := HB1.out.size
    have HO1 := hid (own_belowS HW3.out hb1)
    have H1 := hid (And.intro hrs (And.intro hrow (And.intro hL (And.intro (hln.symm.trans hL) hpz))))
    clear hrs hrow hb1 hln hpz hpl hL
    go_wp2_with fail
    go_loopw [3, 5] (fun q a wr => ∃ (i : Nat) (M : List Us) (g c : Nat), a = .int .i64 (i : Int) ∧ i ≤ L ∧ q = .slice (some ⟨g, 0, none⟩) M.length c ∧ Kpt (OutU x.t i M) ∧ Kpt (wr.ownsRow (W.heap.size + 1) 57 2 (.slice (some ⟨g, 0, none⟩) M.length c) M.length (M.flatMap Us.cl)) ∧ Kpt (Below w1.heap.size w1 wr)) (fun _ a _ => L - (intOf a).toNat)
    case atStart => exact ⟨0, [⟨x.t.m, x.t.n⟩], (wb.heap.size + 1), C, rfl, Nat.zero_le _, rfl, HO0, HO1, ⟨Below.refl _ _⟩⟩
    case round =>
      obtain ⟨i, M, g, c, rfl, hi9, rfl, hout, hown, hB⟩ := hrel
      by_cases hlt : i < L
      · obtain ⟨gp, cap, hv, _, _⟩ := H1.out.2.1.form (by omega)
        cases hv
        obtain ⟨y, hy⟩ : ∃ y, rs[i]? = some y := ⟨_, List.getElem?_eq_getElem (by rw [H1.out.2.2.1]; exact hlt)⟩
        have hc : ∀ j u, y.cells.toList[j]? = some u → j < 5 → wr.cell? ⟨gp, i * 5 + j, none⟩ = some u := fun j u hu hj => by
          refine old_cell hB.out ?_
          rw [H1.out.2.1.cellAt (i * 5 + j) (by omega)]
          exact flat_at (fun y : TyI w0 => y.cells.toList) 5 (fun _ => rfl) rs i j y u hy hu
        have d0 := hc 0 _ rfl (by omega)
        have d1 := hc 1 _ rfl (by omega)
        have d2 := hc 2 _ rfl (by omega)
        have d3 := hc 3 _ rfl (by omega)
        have d4 := hc 4 _ rfl (by omega)
        have hyp : x.t.parts[i]? = some y.t := by rw [← H1.out.1, List.getElem?_map, hy]; rfl
        have hys : y.t.size < x.t.size := Ty.part_size (List.mem_of_getElem? hyp)
        have hps := psum_succ hyp
        have hpl := psum_le x.t.parts (i + 1)
        rw [H1.out.2.2.2.2] at hpl
        have HBR := hid (HB1.out.trans (hB.out.mono HB1.out.size))
        have hswr := HBR.out.size
        have HC := hid (HI.out y (by omega) wr (HOLD.out wr HBR.out))
        have HY := hid hyp
        have HLN := hid (And.intro hps hpl)
        have HXS := hid hx
        clear hc hy hyp hps hpl
        simp only [Nat.add_zero] at d0
        go_wp2_with fail
        refine HC.out.mono ?_
        rintro e w4 ⟨l, gl, cl, hfl, rfl, hol, hb4⟩
        have H4 := hid hb4
        have HOL := hid hol
        have HFL := hid hfl
        have HLL := hid hfl.len
        have hs4 := hb4.size
        have HO4 := hid (own_belowS hown.out hb4)
        obtain ⟨N, hN⟩ : ∃ N, l.length = N := ⟨_, rfl⟩
        rw [hN]
        have HN := hid hN
        have hNs : N ≤ 1099511627775 := by have := hfl.len; omega
        clear hb4 hol hfl hN d0 d1 d2 d3 d4
        go_wp2_with fail
        go_loopw [3, 7] (fun q a wr2 => ∃ (k : Nat) (M2 : List Us) (g2 c2 : Nat), a = .int .i64 (k : Int) ∧ k ≤ N ∧ q = .slice (some ⟨g2, 0, none⟩) M2.length c2 ∧ Kpt (InU x.t i k l M2) ∧ Kpt (wr2.ownsRow (W.heap.size + 1) 57 2 (.slice (some ⟨g2, 0, none⟩) M2.length c2) M2.length (M2.flatMap Us.cl)) ∧ Kpt (Below w4.heap.size w4 wr2)) (fun _ a _ => N - (intOf a).toNat)
        case atStart => exact ⟨0, M, g, c, rfl, Nat.zero_le _, rfl, ⟨InU.start hout.out⟩, HO4, ⟨Below.refl _ _⟩⟩
        case round =>
          obtain ⟨k, M2, g2, c2, rfl, hk8, rfl, hin, hown2, hB2⟩ := hrel
          have hs5 := hB2.out.size
          by_cases hk : k < N
          · obtain ⟨z, hz⟩ : ∃ z, l[k]? = some z := ⟨_, List.getElem?_eq_getElem (by rw [HN.out]; exact hk)⟩
            have hdz : ∀ j u, z.cl[j]? = some u → wr.cell? ⟨gl, k * 2 + j, none⟩ = some u := fun j u hu => by
              have h := HOL.out.cells (g := gl) rfl (k * 2 + j) u (flat_at Us.cl 2 (fun _ => rfl) l k j z u hz hu)
              rw [addA, Nat.zero_add] at h
              exact old_cell hB2.out h
            have dz := hdz 0 _ rfl
            have dz1 := hdz 1 _ rfl
            simp only [Nat.add_zero] at dz
            clear hdz
            have HIN := hid (rinsertU_any M2 z (W.heap.size + 1) g2 c2 wr hown2.out (by omega) (by have h1 := hin.out.2.2; have h2 := HLN.out; have h3 := HLL.out; have h4 := HN.out; omega))
            have HZ := hid hz
            clear hz
            go_wp2_with fail
            refine HIN.out.mono ?_
            rintro e w5 ⟨g', c', rfl, ho5, hb5⟩
            have H5 := hid (And.intro ho5 hb5)
            clear ho5 hb5 dz dz1
            go_wp2_with fail
            go_roundw
            case rel => exact ⟨k + 1, insU M2 z, g', c', by go_num, by omega, rfl, ⟨InU.next hin.out HZ.out⟩, ⟨H5.out.1⟩, ⟨hB2.out.trans (H5.out.2.mono hB2.out.size)⟩⟩
            case measure => simp [intOf]; omega
          · obtain rfl : k = N := by omega
            go_wp2_with fail
            go_roundw
            case rel => exact ⟨i + 1, M2, g2, c2, by go_num, by omega, rfl, ⟨InU.done (by rw [HN.out]; exact hin.out) HY.out HFL.out⟩, hown2, ⟨hB.out.trans ((H4.out.trans (hB2.out.mono H4.out.size)).mono hB.out.size)⟩⟩
            case measure => simp [intOf]; omega
      · obtain rfl : i = L := by omega
        go_wp2_with fail
        go_ret
        refine ⟨M, g, c, OutU.done (by rw [H1.out.2.2.2.1]; exact hout.out), rfl, own_mono hown.out (Nat.le_succ _), HFIN.out wr (HB1.out.trans (hB.out.mono HB1.out.size))⟩
  · have HO0 : Kpt (OutU x.t 0 []) := hid ⟨List.Pairwise.nil, fun z => by unfold UseIn; simp [hk9], by unfold psum; simp⟩
    have hkk : (x.t.k == 10) = false := by rw [beq_eq_false_iff_ne]; exact hk9
    have hrb := HR.out wb HBB.out
    have k3 := cell_of_row wb _ 3 _ _ _ hrb
    have k4 := cell_of_row wb _ 4 _ _ _ hrb
    clear hk9 hrb
    go_enter Tryz.func26, Tryz.ntmps26
    have HP := hid (rparts_any w0 x wb (HOLD.out wb HBB.out) (by omega))
    go_wp2_with fail
    refine HP.out.mono ?_
    rintro e w1 ⟨v, rs, rfl, hrs, hrow, hb1⟩
    obtain ⟨p, c1, rfl⟩ := own_slice hrow
    clear k0 k1 k2 k3 k4 hwa hwb
    have hln : rs.length = x.t.parts.length := by rw [← hrs, List.length_map]
    have hpz : psum x.t.parts x.t.parts.length = x.t.size := by unfold psum; rw [List.take_length, ← Ty.size_parts]
    have hpl : x.t.parts.length < x.t.size := by
      have h : ∀ l : List Ty, l.length ≤ (l.map Ty.size).sum := fun l => by
        induction l with
        | nil => exact Nat.le_refl _
        | cons a l ih => simp only [List.length_cons, List.map_cons, List.sum_cons, Ty.size]; omega
      rw [Ty.size_parts]
      have := h x.t.parts
      omega
    obtain ⟨L, hL⟩ : ∃ L, rs.length = L := ⟨_, rfl⟩
    rw [hL] at hrow ⊢
    have hLs : L < x.t.size := by omega
    have HB1 := hid (HBB.out.trans (hb1.mono HBB.out.size))
    have hs1 := HB1.out.size
    have HO1 := hid (own_belowS HOB.out hb1)
    have H1 := hid (And.intro hrs (And.intro hrow (And.intro hL (And.intro (hln.symm.trans hL) hpz))))
    clear hrs hrow hb1 hln hpz hpl hL
    go_wp2_with fail
    go_loopw [3, 5] (fun q a wr => ∃ (i : Nat) (M : List Us) (g c : Nat), a = .int .i64 (i : Int) ∧ i ≤ L ∧ q = .slice (some ⟨g, 0, none⟩) M.length c ∧ Kpt (OutU x.t i M) ∧ Kpt (wr.ownsRow (W.heap.size + 1) 57 2 (.slice (some ⟨g, 0, none⟩) M.length c) M.length (M.flatMap Us.cl)) ∧ Kpt (Below w1.heap.size w1 wr)) (fun _ a _ => L - (intOf a).toNat)
    case atStart => exact ⟨0, [], (W.heap.size + 1), 0, rfl, Nat.zero_le _, rfl, HO0, HO1, ⟨Below.refl _ _⟩⟩
    case round =>
      obtain ⟨i, M, g, c, rfl, hi9, rfl, hout, hown, hB⟩ := hrel
      by_cases hlt : i < L
      · obtain ⟨gp, cap, hv, _, _⟩ := H1.out.2.1.form (by omega)
        cases hv
        obtain ⟨y, hy⟩ : ∃ y, rs[i]? = some y := ⟨_, List.getElem?_eq_getElem (by rw [H1.out.2.2.1]; exact hlt)⟩
        have hc : ∀ j u, y.cells.toList[j]? = some u → j < 5 → wr.cell? ⟨gp, i * 5 + j, none⟩ = some u := fun j u hu hj => by
          refine old_cell hB.out ?_
          rw [H1.out.2.1.cellAt (i * 5 + j) (by omega)]
          exact flat_at (fun y : TyI w0 => y.cells.toList) 5 (fun _ => rfl) rs i j y u hy hu
        have d0 := hc 0 _ rfl (by omega)
        have d1 := hc 1 _ rfl (by omega)
        have d2 := hc 2 _ rfl (by omega)
        have d3 := hc 3 _ rfl (by omega)
        have d4 := hc 4 _ rfl (by omega)
        have hyp : x.t.parts[i]? = some y.t := by rw [← H1.out.1, List.getElem?_map, hy]; rfl
        have hys : y.t.size < x.t.size := Ty.part_size (List.mem_of_getElem? hyp)
        have hps := psum_succ hyp
        have hpl := psum_le x.t.parts (i + 1)
        rw [H1.out.2.2.2.2] at hpl
        have HBR := hid (HB1.out.trans (hB.out.mono HB1.out.size))
        have hswr := HBR.out.size
        have HC := hid (HI.out y (by omega) wr (HOLD.out wr HBR.out))
        have HY := hid hyp
        have HLN := hid (And.intro hps hpl)
        have HXS := hid hx
        clear hc hy hyp hps hpl
        simp only [Nat.add_zero] at d0
        go_wp2_with fail
        refine HC.out.mono ?_
        rintro e w4 ⟨l, gl, cl, hfl, rfl, hol, hb4⟩
        have H4 := hid hb4
        have HOL := hid hol
        have HFL := hid hfl
        have HLL := hid hfl.len
        have hs4 := hb4.size
        have HO4 := hid (own_belowS hown.out hb4)
        obtain ⟨N, hN⟩ : ∃ N, l.length = N := ⟨_, rfl⟩
        rw [hN]
        have HN := hid hN
        have hNs : N ≤ 1099511627775 := by have := hfl.len; omega
        clear hb4 hol hfl hN d0 d1 d2 d3 d4
        go_wp2_with fail
        go_loopw [3, 7] (fun q a wr2 => ∃ (k : Nat) (M2 : List Us) (g2 c2 : Nat), a = .int .i64 (k : Int) ∧ k ≤ N ∧ q = .slice (some ⟨g2, 0, none⟩) M2.length c2 ∧ Kpt (InU x.t i k l M2) ∧ Kpt (wr2.ownsRow (W.heap.size + 1) 57 2 (.slice (some ⟨g2, 0, none⟩) M2.length c2) M2.length (M2.flatMap Us.cl)) ∧ Kpt (Below w4.heap.size w4 wr2)) (fun _ a _ => N - (intOf a).toNat)
        case atStart => exact ⟨0, M, g, c, rfl, Nat.zero_le _, rfl, ⟨InU.start hout.out⟩, HO4, ⟨Below.refl _ _⟩⟩
        case round =>
          obtain ⟨k, M2, g2, c2, rfl, hk8, rfl, hin, hown2, hB2⟩ := hrel
          have hs5 := hB2.out.size
          by_cases hk : k < N
          · obtain ⟨z, hz⟩ : ∃ z, l[k]? = some z := ⟨_, List.getElem?_eq_getElem (by rw [HN.out]; exact hk)⟩
            have hdz : ∀ j u, z.cl[j]? = some u → wr.cell? ⟨gl, k * 2 + j, none⟩ = some u := fun j u hu => by
              have h := HOL.out.cells (g := gl) rfl (k * 2 + j) u (flat_at Us.cl 2 (fun _ => rfl) l k j z u hz hu)
              rw [addA, Nat.zero_add] at h
              exact old_cell hB2.out h
            have dz := hdz 0 _ rfl
            have dz1 := hdz 1 _ rfl
            simp only [Nat.add_zero] at dz
            clear hdz
            have HIN := hid (rinsertU_any M2 z (W.heap.size + 1) g2 c2 wr hown2.out (by omega) (by have h1 := hin.out.2.2; have h2 := HLN.out; have h3 := HLL.out; have h4 := HN.out; omega))
            have HZ := hid hz
            clear hz
            go_wp2_with fail
            refine HIN.out.mono ?_
            rintro e w5 ⟨g', c', rfl, ho5, hb5⟩
            have H5 := hid (And.intro ho5 hb5)
            clear ho5 hb5 dz dz1
            go_wp2_with fail
            go_roundw
            case rel => exact ⟨k + 1, insU M2 z, g', c', by go_num, by omega, rfl, ⟨InU.next hin.out HZ.out⟩, ⟨H5.out.1⟩, ⟨hB2.out.trans (H5.out.2.mono hB2.out.size)⟩⟩
            case measure => simp [intOf]; omega
          · obtain rfl : k = N := by omega
            go_wp2_with fail
            go_roundw
            case rel => exact ⟨i + 1, M2, g2, c2, by go_num, by omega, rfl, ⟨InU.done (by rw [HN.out]; exact hin.out) HY.out HFL.out⟩, hown2, ⟨hB.out.trans ((H4.out.trans (hB2.out.mono H4.out.size)).mono hB.out.size)⟩⟩
            case measure => simp [intOf]; omega
      · obtain rfl : i = L := by omega
        go_wp2_with fail
        go_ret
        refine ⟨M, g, c, OutU.done (by rw [H1.out.2.2.2.1]; exact hout.out), rfl, own_mono hown.out (Nat.le_succ _), HFIN.out wr (HB1.out.trans (hB.out.mono HB1.out.size))⟩
theorem rg_all (w0 : World) : ∀ s : Nat, s ≤ 1099511627775 → RgT w0 s := by
  intro s
  induction s with
  | zero => intro _ x hx; exact absurd hx (by unfold Ty.size; omega)
  | succ s ih => intro hs; exact rg_step w0 s hs (ih (by omega))
end Go.Proofs.YtjedcijddlilaaaGreatDoor
