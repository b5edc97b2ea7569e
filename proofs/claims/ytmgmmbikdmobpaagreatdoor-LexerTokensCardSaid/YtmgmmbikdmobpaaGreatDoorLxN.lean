/- lexer: next. -/
import Derived.Test.YtmgmmbikdmobpaaGreatDoorLxY
namespace Go.Proofs.YtmgmmbikdmobpaaGreatDoor
open Go.RowKit

def Tk.k : Tk → Int | .tok k _ _ => k | .err _ => 0
def Tk.t : Tk → List UInt8 | .tok _ t _ => t | .err _ => []
def Tk.n : Tk → Nat | .tok _ _ n => n | .err _ => 0
def Tk.er : Tk → Int | .tok _ _ _ => 0 | .err e => e
theorem tk_val {x : Tk} {e : Ending} (h : TkRet x e) : Ending.returned (.tuple #[.agg #[.int .i64 x.k, .string ⟨x.t.toArray⟩, .int .i64 0], .int .i64 (x.n : Int), .int .i64 x.er]) = e := by
  cases x <;> exact Eq.symm h
theorem tk_mk (x : Tk) : TkRet x (.returned (.tuple #[.agg #[.int .i64 x.k, .string ⟨x.t.toArray⟩, .int .i64 0], .int .i64 (x.n : Int), .int .i64 x.er])) := by
  cases x <;> rfl
def nextT (l : List UInt8) : Tk := if isLt (fst l) = true then wordT l else if isDg (fst l) = true then numT l else if fst l = 34 then textT l else symT l

set_option maxRecDepth 100000 in
set_option maxHeartbeats 4000000 in
theorem lnext_any (s : ByteArray) (w : World) (hs : s.size ≤ 70368744177664) (h : 0 < s.size) :
    Calls Tryz.prog 26 #[.string s] w fun e w' => TkRet (nextT s.data.toList) e ∧ Below w.heap.size w w' := by
  have hix := index0 s h
  have hc := fst_lt s.data.toList
  have hlet := fun w => letter_is (fst s.data.toList) w (fst_lt _)
  have hdig := fun w => digit_is (fst s.data.toList) w (fst_lt _)
  have hnew := heap_alloc_new w (.cells #[.int .i64 0, .string ⟨#[]⟩, .int .i64 0] 32)
  have hbl := (Below.refl w.heap.size w).alloc (Nat.le_refl _) (.cells #[.int .i64 0, .string ⟨#[]⟩, .int .i64 0] 32)
  have hsz : (w.alloc (.cells #[.int .i64 0, .string ⟨#[]⟩, .int .i64 0] 32)).heap.size = w.heap.size + 1 := by simp
  have hwf : isLt (fst s.data.toList) = true → isWd (fst s.data.toList) = true := fun h => by unfold isWd; rw [h]; rfl
  unfold nextT
  generalize hcq : fst s.data.toList = c at hix hc hlet hdig hwf ⊢
  have HF := hid hcq
  clear hcq
  cases q1 : isLt c with
  | true =>
    rw [if_pos rfl]
    simp only [q1] at hlet
    have hw1 := hwf q1
    have HL := hid hlet
    clear hlet hdig q1 hwf
    have hcall := fun w => lword_any s w (by omega) (by rw [HF.out]; exact hw1) h
    generalize wordT s.data.toList = X at hcall ⊢
    have HC := hid (And.intro hcall (And.intro hnew (And.intro hbl hsz)))
    clear hcall hnew hbl hsz
    go_enter Tryz.func26, Tryz.ntmps26
    go_wp2_with fail
    refine (HL.out _).mono ?_
    rintro e w1 ⟨rfl, rfl⟩
    go_wp2_with fail
    refine (HC.out.1 _).mono ?_
    rintro e w2 ⟨he, hb2⟩
    obtain rfl := tk_val he
    have hres : w2.heap[w.heap.size]? = some (.cells #[.int .i64 0, .string ⟨#[]⟩, .int .i64 0] 32 (0, 0)) := (hb2.block w.heap.size (by rw [HC.out.2.2.2]; omega)).trans HC.out.2.1
    have hbw := HC.out.2.2.1.trans (hb2.mono HC.out.2.2.1.size)
    have f0 := frozen_of_row w2 w.heap.size 0 _ _ hres
    have f1 := frozen_of_row w2 w.heap.size 1 _ _ hres
    have f2 := frozen_of_row w2 w.heap.size 2 _ _ hres
    have c0 := cell_of_row w2 w.heap.size 0 _ _ _ hres
    have c1 := cell_of_row w2 w.heap.size 1 _ _ _ hres
    have c2 := cell_of_row w2 w.heap.size 2 _ _ _ hres
    obtain ⟨g0, g1, g2⟩ := tk_end hres X.k ⟨X.t.toArray⟩
    have KX := hid (And.intro (tk_below hbw X.k ⟨X.t.toArray⟩) (And.intro g0 (And.intro g1 g2)))
    have KT := hid (tk_mk X)
    clear hres hbw hb2 g0 g1 g2 he
    generalize X.k = xk at *
    generalize X.t = xt at *
    generalize X.n = xn at *
    generalize X.er = xe at *
    go_wp2_with fail
    exact bodyPost_ret (v := .tuple #[.agg #[.int .i64 xk, .string ⟨xt.toArray⟩, .int .i64 0], .int .i64 (xn : Int), .int .i64 xe]) (by simp [results, Tryz.results26, go_sem, KX.out.2.1, KX.out.2.2.1, KX.out.2.2.2]) rfl ⟨KT.out, KX.out.1⟩
  | false =>
    rw [if_neg (by decide)]
    simp only [q1] at hlet
    have HL := hid hlet
    clear hlet q1 hwf
    cases q2 : isDg c with
    | true =>
      rw [if_pos rfl]
      simp only [q2] at hdig
      have HD := hid hdig
      clear hdig q2
      have hcall := fun w => lnumber_any s w (by omega) h
      generalize numT s.data.toList = X at hcall ⊢
      have HC := hid (And.intro hcall (And.intro hnew (And.intro hbl hsz)))
      clear hcall hnew hbl hsz
      go_enter Tryz.func26, Tryz.ntmps26
      go_wp2_with fail
      refine (HL.out _).mono ?_
      rintro e w1 ⟨rfl, rfl⟩
      go_wp2_with fail
      refine (HD.out _).mono ?_
      rintro e w1 ⟨rfl, rfl⟩
      go_wp2_with fail
      refine (HC.out.1 _).mono ?_
      rintro e w2 ⟨he, hb2⟩
      obtain rfl := tk_val he
      have hres : w2.heap[w.heap.size]? = some (.cells #[.int .i64 0, .string ⟨#[]⟩, .int .i64 0] 32 (0, 0)) := (hb2.block w.heap.size (by rw [HC.out.2.2.2]; omega)).trans HC.out.2.1
      have hbw := HC.out.2.2.1.trans (hb2.mono HC.out.2.2.1.size)
      have f0 := frozen_of_row w2 w.heap.size 0 _ _ hres
      have f1 := frozen_of_row w2 w.heap.size 1 _ _ hres
      have f2 := frozen_of_row w2 w.heap.size 2 _ _ hres
      have c0 := cell_of_row w2 w.heap.size 0 _ _ _ hres
      have c1 := cell_of_row w2 w.heap.size 1 _ _ _ hres
      have c2 := cell_of_row w2 w.heap.size 2 _ _ _ hres
      obtain ⟨g0, g1, g2⟩ := tk_end hres X.k ⟨X.t.toArray⟩
      have KX := hid (And.intro (tk_below hbw X.k ⟨X.t.toArray⟩) (And.intro g0 (And.intro g1 g2)))
      have KT := hid (tk_mk X)
      clear hres hbw hb2 g0 g1 g2 he
      generalize X.k = xk at *
      generalize X.t = xt at *
      generalize X.n = xn at *
      generalize X.er = xe at *
      go_wp2_with fail
      exact bodyPost_ret (v := .tuple #[.agg #[.int .i64 xk, .string ⟨xt.toArray⟩, .int .i64 0], .int .i64 (xn : Int), .int .i64 xe]) (by simp [results, Tryz.results26, go_sem, KX.out.2.1, KX.out.2.2.1, KX.out.2.2.2]) rfl ⟨KT.out, KX.out.1⟩
    | false =>
      rw [if_neg (by decide)]
      simp only [q2] at hdig
      have HD := hid hdig
      clear hdig q2
      by_cases h34 : c = 34
      · rw [if_pos h34]
        subst h34
        have hcall := fun w => ltext_any s w hs h
        generalize textT s.data.toList = X at hcall ⊢
        have HC := hid (And.intro hcall (And.intro hnew (And.intro hbl hsz)))
        clear hcall hnew hbl hsz
        go_enter Tryz.func26, Tryz.ntmps26
        go_wp2_with fail
        refine (HL.out _).mono ?_
        rintro e w1 ⟨rfl, rfl⟩
        go_wp2_with fail
        refine (HD.out _).mono ?_
        rintro e w1 ⟨rfl, rfl⟩
        go_wp2_with fail
        refine (HC.out.1 _).mono ?_
        rintro e w2 ⟨he, hb2⟩
        obtain rfl := tk_val he
        have hres : w2.heap[w.heap.size]? = some (.cells #[.int .i64 0, .string ⟨#[]⟩, .int .i64 0] 32 (0, 0)) := (hb2.block w.heap.size (by rw [HC.out.2.2.2]; omega)).trans HC.out.2.1
        have hbw := HC.out.2.2.1.trans (hb2.mono HC.out.2.2.1.size)
        have f0 := frozen_of_row w2 w.heap.size 0 _ _ hres
        have f1 := frozen_of_row w2 w.heap.size 1 _ _ hres
        have f2 := frozen_of_row w2 w.heap.size 2 _ _ hres
        have c0 := cell_of_row w2 w.heap.size 0 _ _ _ hres
        have c1 := cell_of_row w2 w.heap.size 1 _ _ _ hres
        have c2 := cell_of_row w2 w.heap.size 2 _ _ _ hres
        obtain ⟨g0, g1, g2⟩ := tk_end hres X.k ⟨X.t.toArray⟩
        have KX := hid (And.intro (tk_below hbw X.k ⟨X.t.toArray⟩) (And.intro g0 (And.intro g1 g2)))
        have KT := hid (tk_mk X)
        clear hres hbw hb2 g0 g1 g2 he
        generalize X.k = xk at *
        generalize X.t = xt at *
        generalize X.n = xn at *
        generalize X.er = xe at *
        go_wp2_with fail
        exact bodyPost_ret (v := .tuple #[.agg #[.int .i64 xk, .string ⟨xt.toArray⟩, .int .i64 0], .int .i64 (xn : Int), .int .i64 xe]) (by simp [results, Tryz.results26, go_sem, KX.out.2.1, KX.out.2.2.1, KX.out.2.2.2]) rfl ⟨KT.out, KX.out.1⟩
      · rw [if_neg h34]
        have hb : ((c : Int) == 34) = false := by rw [beq_eq_false_iff_ne]; omega
        clear h34
        have hcall := fun w => lsymbol_any s w
        generalize symT s.data.toList = X at hcall ⊢
        have HC := hid (And.intro hcall (And.intro hnew (And.intro hbl hsz)))
        clear hcall hnew hbl hsz
        go_enter Tryz.func26, Tryz.ntmps26
        go_wp2_with fail
        refine (HL.out _).mono ?_
        rintro e w1 ⟨rfl, rfl⟩
        go_wp2_with fail
        refine (HD.out _).mono ?_
        rintro e w1 ⟨rfl, rfl⟩
        go_wp2_with fail
        refine (HC.out.1 _).mono ?_
        rintro e w2 ⟨he, hb2⟩
        obtain rfl := tk_val he
        have hres : w2.heap[w.heap.size]? = some (.cells #[.int .i64 0, .string ⟨#[]⟩, .int .i64 0] 32 (0, 0)) := (hb2.block w.heap.size (by rw [HC.out.2.2.2]; omega)).trans HC.out.2.1
        have hbw := HC.out.2.2.1.trans (hb2.mono HC.out.2.2.1.size)
        have f0 := frozen_of_row w2 w.heap.size 0 _ _ hres
        have f1 := frozen_of_row w2 w.heap.size 1 _ _ hres
        have f2 := frozen_of_row w2 w.heap.size 2 _ _ hres
        have c0 := cell_of_row w2 w.heap.size 0 _ _ _ hres
        have c1 := cell_of_row w2 w.heap.size 1 _ _ _ hres
        have c2 := cell_of_row w2 w.heap.size 2 _ _ _ hres
        obtain ⟨g0, g1, g2⟩ := tk_end hres X.k ⟨X.t.toArray⟩
        have KX := hid (And.intro (tk_below hbw X.k ⟨X.t.toArray⟩) (And.intro g0 (And.intro g1 g2)))
        have KT := hid (tk_mk X)
        clear hres hbw hb2 g0 g1 g2 he
        generalize X.k = xk at *
        generalize X.t = xt at *
        generalize X.n = xn at *
        generalize X.er = xe at *
        go_wp2_with fail
        exact bodyPost_ret (v := .tuple #[.agg #[.int .i64 xk, .string ⟨xt.toArray⟩, .int .i64 0], .int .i64 (xn : Int), .int .i64 xe]) (by simp [results, Tryz.results26, go_sem, KX.out.2.1, KX.out.2.2.1, KX.out.2.2.2]) rfl ⟨KT.out, KX.out.1⟩
end Go.Proofs.YtmgmmbikdmobpaaGreatDoor
