/- lexer: Lex. -/
import Derived.Test.YtmgmmbikdmobpaaGreatDoorLxTk2
import Derived.RangeFuncNested
import Derived.RangeFuncBound
import Derived.RangeFuncCalls
import Derived.RangeFuncLeaves
import Derived.Shelf.Abstract
import Derived.WalkKit
import Derived.OwnWalkIn
import Derived.TacticsInMore
import Derived.RegionIn
import Derived.LoopNIn
import Derived.LoopIn
import Derived.Maps.AppendAt
namespace Go.Proofs.YtmgmmbikdmobpaaGreatDoor
open Go.RowKit Go.Shelf
attribute [local go_sem] Oper.semAt_some

def TkY.cells (x : TkY) : List Value := [.int .i64 x.k, .string ⟨x.t.toArray⟩, .int .i64 (x.o : Int)]
def tkCells (xs : List TkY) : List Value := xs.flatMap TkY.cells
theorem tkCells_snoc (xs : List TkY) (x : TkY) : tkCells (xs ++ [x]) = tkCells xs ++ x.cells := by simp [tkCells]
/-- What Lex returns of what the iterator hands on. -/
def lexOut (xs : List TkY) : List TkY × Nat × Int := match xs.find? (fun x => x.e != 0) with | some x => ([], x.o, x.e) | none => (xs, 0, 0)
def lexL (l : List UInt8) : List TkY × Nat × Int := if 65536 < l.length then ([], 0, 7) else lexOut (allT l)
theorem lexOut_good (xs : List TkY) (h : ∀ x ∈ xs, x.e = 0) : lexOut xs = (xs, 0, 0) := by
  unfold lexOut
  rw [List.find?_eq_none.2 (fun x hx => by simp [h x hx])]
theorem lexOut_bad (ys pre : List TkY) (x : TkY) (hp : pre ++ [x] <+: ys) (h : ∀ x ∈ pre, x.e = 0) (hx : x.e ≠ 0) : lexOut ys = ([], x.o, x.e) := by
  obtain ⟨r, rfl⟩ := hp
  unfold lexOut
  rw [List.append_assoc, List.find?_append, List.find?_eq_none.2 (fun y hy => by simp [h y hy])]
  simp [hx]
theorem toks_length (l : List UInt8) : ∀ f p, (toks l f p).length ≤ f + 1
  | 0, p => by simp [toks]
  | f + 1, p => by
    rw [toks]
    split
    · split
      · simp
      · simp only [List.length_cons]
        exact Nat.succ_le_succ (toks_length l f _)
    · simp
theorem allT_length (l : List UInt8) : (allT l).length ≤ l.length + 1 := toks_length l _ _

theorem infoTok : (Tryz.prog.info? 32).map (fun i => (i.zero, i.size, i.bytes)) = some (some (.agg #[.int .i64 0, .string ⟨#[]⟩, .int .i64 0]), 3, 32) := by kernel_rfl

theorem cell_three_at (w : World) (g : Nat) (a b c : Value) (t : TypeId) (hg : w.heap.size = g) : ∀ j u, [a, b, c][j]? = some u → (w.alloc (.cells #[a, b, c] t)).cell? ((⟨g, 0, none⟩ : Addr).add j) = some u := by
  subst hg
  intro j u hj
  have hc := fun (j : Nat) => cell_of_row (w.alloc (.cells #[a, b, c] t)) w.heap.size j #[a, b, c] t (0, 0) (heap_alloc_new w _)
  rw [Addr.add_lit, Nat.zero_add, hc j]
  simpa using hj
theorem one_three {a b c : Value} (ha : a.oneCell' = true) (hb : b.oneCell' = true) (hc : c.oneCell' = true) : ∀ u ∈ [a, b, c], u.oneCell' = true := by
  intro u hu
  simp only [List.mem_cons, List.not_mem_nil, or_false] at hu
  rcases hu with rfl | rfl | rfl <;> assumption
/-- A row of cells abides the turn of what is no cells. -/
theorem row_own {X Y : World} {row : Option Nat} {B : Nat} {cs : Array Value} {t : TypeId} (h : X.heap[B]? = some (.cells cs t (0, 0))) (hg : X.grownBy Y row) (hr : ∀ r, row = some r → ∃ o : Obj, X.heap[r]? = some o ∧ o.isCells = false) : Y.heap[B]? = some (.cells cs t (0, 0)) :=
  (hg.block B (Array.getElem?_eq_some_iff.1 h).1 (fun e' => by obtain ⟨o, ho, hc⟩ := hr B e'.symm; rw [h] at ho; cases ho; cases hc)).trans h
theorem box_own {X Y : World} {row : Option Nat} {B : Nat} {v : Value} {t : TypeId} (h : Boxed X B t v) (hg : X.grownBy Y row) (hr : ∀ r, row = some r → ∃ o : Obj, X.heap[r]? = some o ∧ o.isCells = false) : Boxed Y B t v := row_own h hg hr

set_option maxRecDepth 100000 in
set_option maxHeartbeats 4000000 in
theorem lex_any (s : ByteArray) (w : World) :
    Calls Tryz.prog 5 #[.string s] w
      fun e w' => (∃ v, e = .returned (.tuple #[v, .int .i64 ((lexL s.data.toList).2.1 : Int), .int .i64 (lexL s.data.toList).2.2]) ∧ w'.ownsRow w.heap.size 32 3 v (lexL s.data.toList).1.length (tkCells (lexL s.data.toList).1)) ∧ Below w.heap.size w w' := by
  obtain ⟨i0, hi, hz0, hz1, hz2⟩ := info_parts infoTok
  refine (callsIn_wide (n := 9)).1 ?_
  refine callsIn_of_wp_marks Tryz.func5 rfl trivial ?_ rfl
  simp only [Tryz.ntmps5, List.size_toArray, List.length_cons, List.length_nil, Nat.reduceAdd, Nat.reduceSub, Array.replicate_succ, Array.replicate_zero, List.push_toArray, List.append_toArray, List.nil_append, List.cons_append]
  by_cases hbig : 65536 < s.size
  · have hL : lexL s.data.toList = ([], 0, 7) := by unfold lexL; rw [if_pos (by rw [size_list]; exact hbig)]
    rw [hL]
    gi_wp2_with fail
    have c0 := (((Boxed.new w 23 (.slice none 0 0)).alloc (.cells #[.int .i64 0] 3)).alloc (.cells #[.int .i64 7] 24)).cell
    have c1 := ((Boxed.new (w.alloc (.cells #[.slice none 0 0] 23)) 3 (.int .i64 0)).alloc (.cells #[.int .i64 7] 24)).cell
    have c2 := (Boxed.new ((w.alloc (.cells #[.slice none 0 0] 23)).alloc (.cells #[.int .i64 0] 3)) 24 (.int .i64 7)).cell
    simp only [World.size_alloc] at c1 c2
    exact ⟨.tuple #[.slice none 0 0, .int .i64 0, .int .i64 7], by simp [results, Tryz.results5, go_sem, c0, c1, c2], ⟨_, rfl, World.ownsRow_nil _ _ _ _⟩, (((Below.refl _ w).alloc (Nat.le_refl _) _).alloc (alloc_le (Nat.le_refl _) _) _).alloc (alloc_le (alloc_le (Nat.le_refl _) _) _) _⟩
  · have hall := allT_length s.data.toList
    rw [size_list] at hall
    have hL : lexL s.data.toList = lexOut (allT s.data.toList) := by unfold lexL; rw [if_neg (by rw [size_list]; exact hbig)]
    rw [hL]
    clear hL
    gi_wp2_with fail
    refine ⟨trivial, callsIn_wide.2 ((tokens_any s _).mono ?_)⟩
    rintro e W0 ⟨rfl, hW0⟩
    gi_wp2_with fail
    rw [← hW0]
    have b0 : Boxed W0 w.heap.size 23 (.slice none 0 0) := by
      rw [hW0]; exact ((((Boxed.new w _ _).alloc _).alloc _).alloc _).alloc _
    have b1 : Boxed W0 (w.heap.size + 1) 3 (.int .i64 0) := by
      rw [hW0]; have h := (((Boxed.new (w.alloc (.cells #[.slice none 0 0] 23)) 3 (.int .i64 0)).alloc (.cells #[.int .i64 0] 24)).alloc (.cells #[.slice none 0 0] 23)).alloc (.cells #[.string s] 9)
      simpa only [World.size_alloc] using h
    have b2 : Boxed W0 (w.heap.size + 1 + 1) 24 (.int .i64 0) := by
      rw [hW0]; have h := ((Boxed.new ((w.alloc (.cells #[.slice none 0 0] 23)).alloc (.cells #[.int .i64 0] 3)) 24 (.int .i64 0)).alloc (.cells #[.slice none 0 0] 23)).alloc (.cells #[.string s] 9)
      simpa only [World.size_alloc] using h
    have b3 : Boxed W0 (w.heap.size + 1 + 1 + 1) 23 (.slice none 0 0) := by
      rw [hW0]; have h := (Boxed.new (((w.alloc (.cells #[.slice none 0 0] 23)).alloc (.cells #[.int .i64 0] 3)).alloc (.cells #[.int .i64 0] 24)) 23 (.slice none 0 0)).alloc (.cells #[.string s] 9)
      simpa only [World.size_alloc] using h
    have b4 : Boxed W0 (w.heap.size + 1 + 1 + 1 + 1) 9 (.string s) := by
      rw [hW0]; have h := Boxed.new ((((w.alloc (.cells #[.slice none 0 0] 23)).alloc (.cells #[.int .i64 0] 3)).alloc (.cells #[.int .i64 0] 24)).alloc (.cells #[.slice none 0 0] 23)) 9 (.string s)
      simpa only [World.size_alloc] using h
    have hsz : W0.heap.size = w.heap.size + 5 := by rw [hW0]; simp
    have hB0 : Below w.heap.size w W0 := by
      rw [hW0]; exact (((((Below.refl _ w).alloc (Nat.le_refl _) _).alloc (by simp) _).alloc (by simp; omega) _).alloc (by simp; omega) _).alloc (by simp; omega) _
    clear hW0
    refine wpIn_rangeFunc_ownH rfl (by omega) (gf := 24) (lb := #[.pointer (some ⟨w.heap.size + 1 + 1 + 1 + 1, 0, none⟩)]) rfl trivial (enters_of Tryz.func24 (by kernel_rfl) rfl)
      (tokens_stops 8 (by omega) s (by omega) (w.heap.size + 1 + 1 + 1 + 1) W0 b4) keepB_t (keepB_b (by omega)) (Below.refl _ _) (fun _ => rfl)
      (fun pre W => (∃ v, Boxed W (w.heap.size + 1 + 1 + 1) 23 v ∧ W.ownsRow w.heap.size 32 3 v pre.length (tkCells pre) ∧ ∀ x ∈ pre, x.e = 0) ∧ ((Boxed W w.heap.size 23 (.slice none 0 0) ∧ Boxed W (w.heap.size + 1) 3 (.int .i64 0)) ∧ Boxed W (w.heap.size + 1 + 1) 24 (.int .i64 0)) ∧ Boxed W (w.heap.size + 1 + 1 + 1 + 1) 9 (.string s) ∧ Below w.heap.size w W)
      (fun c pre W => (c = .ret ∧ ∃ q x, pre = q ++ [x] ∧ (∀ y ∈ q, y.e = 0) ∧ x.e ≠ 0 ∧ Boxed W w.heap.size 23 (.slice none 0 0) ∧ Boxed W (w.heap.size + 1) 3 (.int .i64 (x.o : Int)) ∧ Boxed W (w.heap.size + 1 + 1) 24 (.int .i64 x.e)) ∧ Below w.heap.size w W)
      (OwnFrom.and (Own.from (holdsRow_own w.heap.size (w.heap.size + 1 + 1 + 1) 23 32 3 (fun pre => pre.length) (fun pre => tkCells pre) (fun pre _ => ∀ x ∈ pre, x.e = 0)) _) (OwnFrom.and (OwnFrom.and (OwnFrom.and (Own.from (boxed_own _ _ _) _) (Own.from (boxed_own _ _ _) _)) (Own.from (boxed_own _ _ _) _)) (OwnFrom.and (Own.from (boxed_own _ _ _) _) (ownFrom_below (Nat.le_refl _) (by omega)))))
      (fun c pre X Y row hs hg hr => by
        obtain ⟨⟨hc, q, x, h1, h2, h3, h4, h5, h6⟩, hb⟩ := hs
        have hr' := fun r e => (hr r e).2
        exact ⟨⟨hc, q, x, h1, h2, h3, box_own h4 hg hr', box_own h5 hg hr', box_own h6 hg hr'⟩, ownFrom_below (Nat.le_refl _) (by omega) () X Y row hb hg hr⟩)
      ⟨⟨_, b3, World.ownsRow_nil _ _ _ _, by simp⟩, ⟨⟨b0, b1⟩, b2⟩, b4, hB0⟩
      (fun x a' W => ∃ Bx, W.heap[Bx]? = some (.cells #[.int .i64 x.k, .string ⟨x.t.toArray⟩, .int .i64 (x.o : Int)] 32 (0, 0)) ∧ a' = { tmps := #[.string s, undef, .pointer (some ⟨w.heap.size, 0, none⟩), .pointer (some ⟨w.heap.size + 1, 0, none⟩), .pointer (some ⟨w.heap.size + 1 + 1, 0, none⟩), .pointer (some ⟨w.heap.size + 1 + 1 + 1, 0, none⟩), .pointer (some ⟨Bx, 0, none⟩), .int .i64 x.e, .string s, .int .i64 (s.size : Int), .bool (decide (65536 < (s.size : Int))), .string s, .func (.func 24) #[] #[.pointer (some ⟨w.heap.size + 1 + 1 + 1 + 1, 0, none⟩)], .agg #[.int .i64 x.k, .string ⟨x.t.toArray⟩, .int .i64 (x.o : Int)], .int .i64 x.e, undef, undef, undef, undef, undef, undef, undef, undef, undef, undef], defers := [] })
      (fun x a' _ X Y row hs hg hr => by obtain ⟨Bx, h2, h3⟩ := hs; exact ⟨Bx, row_own h2 hg (fun r e => (hr r e).2), h3⟩)
      ?assign ?body ?done ?stop
    case assign =>
      rintro l pre x W K ⟨⟨v, hv, hrow, hgood⟩, ⟨⟨d0, d1⟩, d2⟩, d4, hB⟩ hK
      dsimp only [TkY.enc]
      gi_wp2_with fail
      exact hK _ _ ((KeepsOthers.alloc _ _).from _) (fun o ho => (World.grownBy_alloc W _ none).block _ (Array.getElem?_eq_some_iff.1 ho).1 (by simp) |>.trans ho) ⟨⟨v, hv.alloc _, hrow.alloc _, hgood⟩, ⟨⟨d0.alloc _, d1.alloc _⟩, d2.alloc _⟩, d4.alloc _, hB.alloc hB.size _⟩ ⟨W.heap.size, heap_alloc_new W _, rfl⟩
    case body =>
      rintro l pre x a' W hl ⟨r, hr⟩ ⟨⟨v, hv, hrow, hgood⟩, ⟨⟨d0, d1⟩, d2⟩, d4, hB⟩ ⟨Bx, hX, rfl⟩ hlt
      by_cases hx : x.e = 0
      · have q : (x.e != 0) = false := by rw [hx]; rfl
        have hc := hv.cell
        have e0 := cell_of_row W Bx 0 _ _ _ hX
        have e1 := cell_of_row W Bx 1 _ _ _ hX
        have e2 := cell_of_row W Bx 2 _ _ _ hX
        gi_wp2_with (gi_at_builtin; refine wpListIn_append_own _ rfl _ _ 23 rfl w.heap.size 32 i0 _ 3 32 Tryz.underlying23 hi hz0 hz1 hz2 rfl (by decide) _ _ _ rfl (hrow.alloc _) ⟨W.heap.size, 0, none⟩ 1 1 [.int .i64 _, .string _, .int .i64 _] rfl rfl (cell_three_at _ _ _ _ _ _ rfl) (one_three rfl rfl rfl) (by unfold maxLen; omega) (by omega) (alloc_le hB.size _) ?_; intro v' w1 hown' hgrow _; obtain ⟨g', cap', rfl⟩ := ownsRow_succ hown'; obtain ⟨hv1, hv2, hr2, hk2, hb2⟩ := hv.appended (by decide) hrow hB.size (by omega) hown' hgrow; have hc1 := hv1.cell; have hf1 := hv1.frozen)
        have hall4 : ∀ y ∈ pre ++ [x], y.e = 0 := by
          intro y hy
          rcases List.mem_append.1 hy with h | h
          · exact hgood y h
          · rw [List.mem_singleton.1 h]; exact hx
        obtain ⟨tmpO, htmp⟩ : ∃ o, o = Obj.cells #[.int .i64 x.k, .string ⟨x.t.toArray⟩, .int .i64 (x.o : Int)] 32 := ⟨_, rfl⟩
        rw [← htmp] at hgrow
        have k0 := (((d0.alloc tmpO).kept hgrow ((d0.alloc tmpO).not_row (by decide) (hrow.alloc tmpO))).other (B' := w.heap.size + 1 + 1 + 1) (by omega) (.slice (some ⟨g', 0, none⟩) (pre.length + 1) cap'))
        have k1 := (((d1.alloc tmpO).kept hgrow ((d1.alloc tmpO).not_row (by decide) (hrow.alloc tmpO))).other (B' := w.heap.size + 1 + 1 + 1) (by omega) (.slice (some ⟨g', 0, none⟩) (pre.length + 1) cap'))
        have k2 := (((d2.alloc tmpO).kept hgrow ((d2.alloc tmpO).not_row (by decide) (hrow.alloc tmpO))).other (B' := w.heap.size + 1 + 1 + 1) (by omega) (.slice (some ⟨g', 0, none⟩) (pre.length + 1) cap'))
        have k4 := (((d4.alloc tmpO).kept hgrow ((d4.alloc tmpO).not_row (by decide) (hrow.alloc tmpO))).other (B' := w.heap.size + 1 + 1 + 1) (by omega) (.slice (some ⟨g', 0, none⟩) (pre.length + 1) cap'))
        exact ⟨hk2.from _, fun o ho => by rw [d4] at ho; cases ho; exact k4, ⟨⟨_, hv2, by rw [tkCells_snoc, List.length_append]; exact hr2, hall4⟩, ⟨⟨k0, k1⟩, k2⟩, k4, hB.trans hb2⟩⟩
      · have q : (x.e != 0) = true := by rw [bne_iff_ne]; exact hx
        have e2 := cell_of_row W Bx 2 _ _ _ hX
        have c0 := d0.cell
        have c1 := d1.cell
        have c2 := d2.cell
        have f0 := d0.frozen
        have f1 := d1.frozen
        have f2 := d2.frozen
        have n0 : Bx ≠ w.heap.size := by
          intro e; subst e; rw [show W.heap[w.heap.size]? = _ from d0] at hX; cases hX
        gi_wp2_with fail
        gi_region
        all_goals gi_wp2_with fail
        all_goals (refine ⟨?_, ⟨rfl, pre, x, rfl, hgood, hx, ?_, ?_, ?_⟩, ?_⟩)
        all_goals first
          | exact ((((KeepsOthers.setCell _ _ _).trans (KeepsOthers.setCell _ _ _)).trans (KeepsOthers.setCell _ _ _)).trans (KeepsOthers.drew _)).from _
          | exact ((d0.set (.slice none 0 0)).other (by omega) _).other (by omega) _
          | exact ((d1.other (by omega) _).set (.int .i64 (x.o : Int))).other (by omega) _
          | exact ((d2.other (by omega) _).other (by omega) _).set (.int .i64 x.e)
          | exact (((hB.setCell (p := ⟨w.heap.size, 0, none⟩) (Nat.le_refl _) _).setCell (p := ⟨w.heap.size + 1, 0, none⟩) (by simp) _).setCell (p := ⟨w.heap.size + 1 + 1, 0, none⟩) (by simp; omega) _).drew
    case done =>
      rintro D ys W hD rfl ⟨⟨v, hv, hrow, hgood⟩, ⟨⟨d0, d1⟩, d2⟩, d4, hB⟩ hK
      obtain ⟨b, k, c, rfl⟩ : ∃ b k c, v = .slice b k c := by
        rcases hrow.2 with ⟨h, _⟩ | ⟨g, cap, cur, h, _⟩
        · exact ⟨_, _, _, h⟩
        · exact ⟨_, _, _, h⟩
      have hc := hv.cell
      have c0 := d0.cell
      have c1 := d1.cell
      have c2 := d2.cell
      have f0 := d0.frozen
      have f1 := d1.frozen
      have f2 := d2.frozen
      have hq := lexOut_good _ hgood
      gi_wp2_with fail
      rw [hq]
      have hK1 := (((KeepsOthers.setCell W ⟨w.heap.size, 0, none⟩ (.slice b k c)).trans (KeepsOthers.setCell _ ⟨w.heap.size + 1, 0, none⟩ (.int .i64 0))).trans (KeepsOthers.setCell _ ⟨w.heap.size + 1 + 1, 0, none⟩ (.int .i64 0))).same D _ hK rfl
      have hB1 := ((hB.setCell (p := ⟨w.heap.size, 0, none⟩) (Nat.le_refl _) (.slice b k c)).setCell (p := ⟨w.heap.size + 1, 0, none⟩) (by simp) (.int .i64 0)).setCell (p := ⟨w.heap.size + 1 + 1, 0, none⟩) (by simp; omega) (.int .i64 0)
      have r1 := hrow.kept (grownBy_setCell' W w.heap.size (.slice b k c)) (.inr (d0.not_row (by decide) hrow).symm)
      have x1 := d1.other (B' := w.heap.size) (by omega) (.slice b k c)
      have x2 := d2.other (B' := w.heap.size) (by omega) (.slice b k c)
      have r2 := r1.kept (grownBy_setCell' _ (w.heap.size + 1) (.int .i64 0)) (.inr (x1.not_row (by decide) r1).symm)
      have y2 := x2.other (B' := w.heap.size + 1) (by omega) (.int .i64 0)
      have r3 := r2.kept (grownBy_setCell' _ (w.heap.size + 1 + 1) (.int .i64 0)) (.inr (y2.not_row (by decide) r2).symm)
      have z0 := ((d0.set (.slice b k c)).other (B' := w.heap.size + 1) (by omega) (.int .i64 0)).other (B' := w.heap.size + 1 + 1) (by omega) (.int .i64 0)
      have z1 := (x1.set (.int .i64 0)).other (B' := w.heap.size + 1 + 1) (by omega) (.int .i64 0)
      have z2 := y2.set (.int .i64 0)
      refine ⟨by simp, .inl ⟨_, _, rfl, run_takeDeferred hK1, ?_⟩⟩
      have m0 := (box_own z0 (grownBy_putObj' _ D (.deferred none)) (fun r e => by cases e; exact ⟨_, hK1, rfl⟩)).cell
      have m1 := (box_own z1 (grownBy_putObj' _ D (.deferred none)) (fun r e => by cases e; exact ⟨_, hK1, rfl⟩)).cell
      have m2 := (box_own z2 (grownBy_putObj' _ D (.deferred none)) (fun r e => by cases e; exact ⟨_, hK1, rfl⟩)).cell
      have r4 := ownsRow_putObj r3 (.deferred none) hK1 rfl
      have hB2 := hB1.trans (belowK_b (w := w) (Nat.le_refl _) _ D _ (.deferred none) (by omega) hK1 rfl rfl)
      generalize (((W.setCell ⟨w.heap.size, 0, none⟩ (.slice b k c)).setCell ⟨w.heap.size + 1, 0, none⟩ (.int .i64 0)).setCell ⟨w.heap.size + 1 + 1, 0, none⟩ (.int .i64 0)).putObj D (.deferred none) = W9 at m0 m1 m2 r4 hB2 ⊢
      exact ⟨.tuple #[.slice b k c, .int .i64 0, .int .i64 0], by simp [results, Tryz.results5, go_sem, m0, m1, m2], ⟨_, rfl, r4⟩, hB2⟩
    case stop =>
      rintro D c pre W hD hp ⟨⟨rfl, q, x, rfl, h2, h3, h4, h5, h6⟩, hB⟩ hK
      have c0 := h4.cell
      have c1 := h5.cell
      have c2 := h6.cell
      have hq := lexOut_bad _ q x hp h2 h3
      gi_wp2_with fail
      rw [hq]
      refine ⟨by simp, .inl ⟨_, _, rfl, run_takeDeferred hK, ?_⟩⟩
      have m0 := (box_own h4 (grownBy_putObj' W D (.deferred none)) (fun r e => by cases e; exact ⟨_, hK, rfl⟩)).cell
      have m1 := (box_own h5 (grownBy_putObj' W D (.deferred none)) (fun r e => by cases e; exact ⟨_, hK, rfl⟩)).cell
      have m2 := (box_own h6 (grownBy_putObj' W D (.deferred none)) (fun r e => by cases e; exact ⟨_, hK, rfl⟩)).cell
      exact ⟨.tuple #[.slice none 0 0, .int .i64 (x.o : Int), .int .i64 x.e], by simp [results, Tryz.results5, go_sem, m0, m1, m2], ⟨_, rfl, World.ownsRow_nil _ _ _ _⟩, hB.trans (belowK_b (w := w) (Nat.le_refl _) W D _ _ (by omega) hK rfl rfl)⟩
end Go.Proofs.YtmgmmbikdmobpaaGreatDoor
