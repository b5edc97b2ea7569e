/- lexer: the iterator over the tokens. -/
import Derived.Test.YtmgmmbikdmobpaaGreatDoorLxNe
import Derived.RangeFuncKeeps
import Derived.RangeFuncNested
import Derived.RangeFuncBox
import Derived.RangeFuncLeaves
import Derived.WalkKit
import Derived.OwnWalkIn
import Derived.TacticsInMore
import Derived.RegionIn
import Derived.LoopNIn
import Derived.LoopIn
namespace Go.Proofs.YtmgmmbikdmobpaaGreatDoor
open Go.RowKit

/-- What the iterator hands on: kind, text, offset, error. -/
structure TkY where
  k : Int
  t : List UInt8
  o : Nat
  e : Int
def TkY.enc (x : TkY) : Array Value := #[.agg #[.int .i64 x.k, .string ⟨x.t.toArray⟩, .int .i64 (x.o : Int)], .int .i64 x.e]
/-- What a round keeps: block B. -/
def KeepB (B : Nat) (W W' : World) : Prop := ∀ o, W.heap[B]? = some o → W'.heap[B]? = some o
theorem keepB_t {B : Nat} {X Y Z : World} (h : KeepB B X Y) (k : KeepB B Y Z) : KeepB B X Z := fun o ho => k o (h o ho)
theorem keepB_b {B : Nat} {w : World} (hB : B < w.heap.size) (W : World) (l : Nat) (o o' : Obj) (hl : w.heap.size ≤ l) (_ : W.heap[l]? = some o) (_ : o.isCells = false) (_ : o.isWalk = false) : KeepB B W (W.putObj l o') := fun c hc =>
  ((grownBy_putObj' W l o').block B (Array.getElem?_eq_some_iff.1 hc).1 (fun e => by cases e; omega)).trans hc
/-- The tokens from an offset on. -/
def toks (l : List UInt8) : Nat → Nat → List TkY
  | 0, p => [⟨0, [], p, 0⟩]
  | f + 1, p => if p < l.length then
      match nextT (l.drop p) with
      | .err e => [⟨0, [], p, e⟩]
      | .tok k t n => ⟨k, t, p, 0⟩ :: toks l f (p + n + sep (l.drop (p + n)))
    else [⟨0, [], p, 0⟩]
theorem toks_end (l : List UInt8) (f p : Nat) (h : ¬ p < l.length) : toks l f p = [⟨0, [], p, 0⟩] := by
  cases f with
  | zero => rfl
  | succ f => rw [toks, if_neg h]
def allT (l : List UInt8) : List TkY := toks l l.length (sep l)

set_option maxRecDepth 100000 in
set_option maxHeartbeats 4000000 in
theorem tokens1_in (n : Nat) (hn : 1 ≤ n) (s : ByteArray) (hs : s.size ≤ 70368744177664) (B : Nat) (l : Nat) (J Jx : List TkY → World → Prop) (W : World) (hbx : Boxed W B 9 (.string s))
    (hJA : AbidesFrom W.heap.size J)
    (hY : ∀ pre x W1, J pre W1 → pre.length < (allT s.data.toList).length → YieldAt Fence.wide (n - 1) Tryz.prog l x.enc W1 fun e W' => (e = .returned (.bool true) ∧ J (pre ++ [x]) W' ∧ KeepB B W1 W') ∨ (e = .returned (.bool false) ∧ Jx (pre ++ [x]) W'))
    (h0 : J [] W) :
    CallsIn Fence.wide n Tryz.prog 24 #[.func (.yield l) #[] #[], .pointer (some ⟨B, 0, none⟩)] W fun e W' => (∃ v, e = .returned v) ∧ ((∃ xs, xs = allT s.data.toList ∧ J xs W') ∨ (∃ pre, pre <+: allT s.data.toList ∧ Jx pre W')) := by
  have HS := hid (fun (t : ByteArray) (w : World) (ht : t.size ≤ s.size) => lsep_any t w (by omega))
  have HN := hid (fun (t : ByteArray) (w : World) (ht : t.size ≤ s.size) (hp : 0 < t.size) => lnext_any t w (by omega) hp)
  have hsl := sep_le s.data.toList
  rw [size_list] at hsl
  refine callsIn_of_wp Tryz.func24 rfl trivial ?_ rfl
  simp only [Tryz.ntmps24, List.size_toArray, List.length_cons, List.length_nil, Nat.reduceAdd, Nat.reduceSub, Array.replicate_succ, Array.replicate_zero, List.push_toArray, List.append_toArray, List.nil_append, List.cons_append]
  have hc := hbx.cell
  gi_wp2_with fail
  refine ⟨trivial, callsIn_wide.2 ((HS.out s W (Nat.le_refl _)).mono ?_)⟩
  rintro e W2 ⟨rfl, rfl⟩
  gi_wp2_with fail
  gi_loopw [3] (fun a wr => ∃ (pre : List TkY) (f p : Nat), a = .int .i64 (p : Int) ∧ p ≤ s.size ∧ s.size ≤ f + p ∧ allT s.data.toList = pre ++ toks s.data.toList f p ∧ J pre wr ∧ Boxed wr B 9 (.string s)) (fun a _ => s.size - (intOf a).toNat)
  case atStart => exact ⟨[], s.size, sep s.data.toList, rfl, hsl, by omega, by unfold allT; rw [size_list]; rfl, h0, hbx⟩
  case round =>
    obtain ⟨pre, f, p, rfl, hp, hf, hall, hJ, hbw⟩ := hrel
    have hcr : wr.cell? ⟨B, 0, none⟩ = some (.string s) := hbw.cell
    by_cases hlt : p < s.size
    · have hfs := from_size s p
      have hfb := from_bytes s p
      have hlp : p < s.data.toList.length := by rw [size_list]; exact hlt
      have hdl : (s.data.toList.drop p).length = s.size - p := by rw [List.length_drop, size_list]
      obtain ⟨f, rfl⟩ : ∃ f', f = f' + 1 := ⟨f - 1, by omega⟩
      rw [toks, if_pos hlp] at hall
      have hnx := HN.out (s.extract p s.size) wr (by rw [hfs]; omega) (by rw [hfs]; omega)
      rw [hfb] at hnx
      have hle := nextT_le (s.data.toList.drop p) (by rw [hdl]; omega)
      generalize hX : nextT (s.data.toList.drop p) = X at hnx hle hall
      have HX := hid (And.intro hnx (And.intro hX hfb))
      clear hnx hX hfb hfs
      cases X with
      | err er =>
        gi_wp2_with fail
        refine ⟨trivial, callsIn_wide.2 (HX.out.1.mono ?_)⟩
        rintro e w3 ⟨he, hb3⟩
        obtain rfl := Eq.symm he
        have hb4 : Below wr.heap.size wr (w3.alloc (.cells #[.int .i64 0, .string ⟨#[]⟩, .int .i64 (p : Int)] 32)) := hb3.alloc hb3.size _
        have hJ4 := hJA pre wr _ none hJ (⟨hb4.os, hb4.tape, hb4.output, hb4.size, fun i hi _ => hb4.block i hi⟩ : wr.grownBy (w3.alloc (.cells #[.int .i64 0, .string ⟨#[]⟩, .int .i64 (p : Int)] 32)) none) (fun r e => by cases e)
        have hlen : pre.length < (allT s.data.toList).length := by rw [hall]; simp
        obtain ⟨fn, tmps, assign, body, hy, hR⟩ := hY pre ⟨0, [], p, er⟩ _ hJ4 hlen
        dsimp only [TkY.enc] at hy
        gi_wp2_with fail
        refine hR.mono ?_
        rintro e W3 (⟨rfl, hJ3, hk3⟩ | ⟨rfl, hJx3⟩)
        · have hne : (er == 0) = false := by rw [beq_eq_false_iff_ne]; have := nextT_err _ _ HX.out.2.1; omega
          gi_wp2_with fail
          refine bodyPost_ret (results_none rfl _ _ _) rfl ?_
          exact ⟨⟨_, rfl⟩, .inl ⟨_, hall.symm, hJ3⟩⟩
        · gi_wp2_with fail
          refine bodyPost_ret (results_none rfl _ _ _) rfl ?_
          exact ⟨⟨_, rfl⟩, .inr ⟨_, by rw [hall]; exact List.prefix_refl _, hJx3⟩⟩
      | tok k t m =>
        obtain ⟨hm0, hm1⟩ := hle k t m rfl
        rw [hdl] at hm1
        gi_wp2_with fail
        refine ⟨trivial, callsIn_wide.2 (HX.out.1.mono ?_)⟩
        rintro e w3 ⟨he, hb3⟩
        obtain rfl := Eq.symm he
        have hb4 : Below wr.heap.size wr (w3.alloc (.cells #[.int .i64 k, .string ⟨t.toArray⟩, .int .i64 (p : Int)] 32)) := hb3.alloc hb3.size _
        have hJ4 := hJA pre wr _ none hJ (⟨hb4.os, hb4.tape, hb4.output, hb4.size, fun i hi _ => hb4.block i hi⟩ : wr.grownBy (w3.alloc (.cells #[.int .i64 k, .string ⟨t.toArray⟩, .int .i64 (p : Int)] 32)) none) (fun r e => by cases e)
        have hlen : pre.length < (allT s.data.toList).length := by rw [hall]; simp
        obtain ⟨fn, tmps, assign, body, hy, hR⟩ := hY pre ⟨k, t, p, 0⟩ _ hJ4 hlen
        dsimp only [TkY.enc] at hy
        have hfs := from_size s (p + m)
        have hfb := from_bytes s (p + m)
        have hsp := sep_le (s.data.toList.drop (p + m))
        rw [List.length_drop, size_list] at hsp
        have hcall := HS.out (s.extract (p + m) s.size)
        rw [hfs, hfb] at hcall
        generalize sep (s.data.toList.drop (p + m)) = q at hall hsp hcall
        have HC := hid hcall
        clear hcall hfs hfb
        gi_wp2_with fail
        refine hR.mono ?_
        rintro e W3 (⟨rfl, hJ3, hk3⟩ | ⟨rfl, hJx3⟩)
        · have hbn : Boxed W3 B 9 (.string s) := hk3 _ ((hb4.block B hbw.lt).trans hbw)
          have hc3 : W3.cell? ⟨B, 0, none⟩ = some (.string s) := hbn.cell
          gi_wp2_with fail
          refine ⟨trivial, callsIn_wide.2 ((HC.out W3 (by omega)).mono ?_)⟩
          rintro e W4 ⟨rfl, rfl⟩
          gi_wp2_with fail
          go_roundw
          case rel => exact ⟨pre ++ [⟨k, t, p, 0⟩], f, p + m + q, by go_num, by omega, by omega, by rw [hall]; simp, hJ3, hbn⟩
          case measure => simp [intOf]; omega
        · gi_wp2_with fail
          refine bodyPost_ret (results_none rfl _ _ _) rfl ?_
          exact ⟨⟨_, rfl⟩, .inr ⟨_, by rw [hall]; simp, hJx3⟩⟩
    · rw [toks_end _ _ _ (by rw [size_list]; exact hlt)] at hall
      have hlen : pre.length < (allT s.data.toList).length := by rw [hall]; simp
      obtain ⟨fn, tmps, assign, body, hy, hR⟩ := hY pre ⟨0, [], p, 0⟩ wr hJ hlen
      dsimp only [TkY.enc] at hy
      gi_wp2_with fail
      refine hR.mono ?_
      rintro e W3 (⟨rfl, hJ3, hk3⟩ | ⟨rfl, hJx3⟩)
      · gi_wp2_with fail
        go_end0
        exact ⟨⟨_, rfl⟩, .inl ⟨_, hall.symm, hJ3⟩⟩
      · gi_wp2_with fail
        go_end0
        exact ⟨⟨_, rfl⟩, .inr ⟨_, by rw [hall]; exact List.prefix_refl _, hJx3⟩⟩
end Go.Proofs.YtmgmmbikdmobpaaGreatDoor
