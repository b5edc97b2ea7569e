/- (*Hash).Sum. -/
import Derived.Test.YtijohbohdceggaaWrite
namespace Go.Proofs.Ytijohbohdceggaa
open Go.RowKit

/-- The block behind the last whole one, with the first byte of the padding and zeros. -/
def padB (m : List UInt8) : List UInt8 := tailOf m ++ [128] ++ List.replicate (63 - m.length % 64) 0
/-- The last block of m that has a place for the length. -/
def lastB (m : List UInt8) : List UInt8 := if m.length % 64 < 56 then padB m else List.replicate 64 0
def beforeLast (m : List UInt8) : S8 := if m.length % 64 < 56 then stateOf m else comp (stateOf m) (padB m)
/-- The digest of a list of bytes. -/
def sha (m : List UInt8) : List UInt8 := bytesOf (comp (beforeLast m) (partB (lastB m) 56 (be8 (8 * m.length))))
theorem padB_length (m : List UInt8) : (padB m).length = 64 := by
  simp [padB, tailOf_length]; omega
theorem lastB_length (m : List UInt8) : (lastB m).length = 64 := by unfold lastB; split; exact padB_length m; simp
theorem be8_length (n : Nat) : (be8 n).length = 8 := by simp [be8]

theorem part_zero (s : S8) (blk : List UInt8) (n k j : Nat) (h : k + j ≤ blk.length) : part (hcells s blk n) (8 + k) (List.replicate j (.int .u8 0)) = hcells s (partB blk k (List.replicate j 0)) n := by
  have := part_bytes s blk n k (List.replicate j 0) (by simpa using h)
  rw [← this]
  simp [byteCells]

/-- The part behind the first byte of the padding, as a slice: at the end it is empty. -/
theorem slice_rest (B N : Nat) (w : World) (s : S8) (m blk : List UInt8) (hb : blk.length = 64) (hm : m.length = N) (ht : blk.take (N % 64) = tailOf m) :
    ∃ off, (Instr.sliceAt 65 (.pointer (some ⟨B, 8, none⟩)) (some (.int .u64 ((N : Int) % 64 + 1))) none none).run Try.prog w = .ok (.slice (some ⟨B, off, none⟩) (63 - N % 64) (63 - N % 64)) w ∧
      off + (63 - N % 64) ≤ 73 ∧ part (hcells s (partB blk (N % 64) [128]) N) off (List.replicate (63 - N % 64) (.int .u8 0)) = hcells s (padB m) N := by
  have hlt := Nat.mod_lt N (show 0 < 64 by omega)
  have hl : (partB blk (N % 64) [128]).length = 64 := by rw [partB_length _ _ _ (by simp; omega), hb]
  have hrun : (Instr.sliceAt 65 (.pointer (some ⟨B, 8, none⟩)) (some (.int .u64 ((N : Int) % 64 + 1))) none none).run Try.prog w =
      .ok (.slice (some (if 64 = N % 64 + 1 then ⟨B, 8, none⟩ else ⟨B, 8 + (N % 64 + 1), none⟩)) (63 - N % 64) (63 - N % 64)) w := by
    rw [run_sliceAt_array_l w _ _ (show Try.prog.underlying 65 = some (.array (Try.prog.arrayLen 65) (Try.prog.elem 65)) by kernel_rfl) .u64 _ (by omega) (by rw [show Try.prog.arrayLen 65 = 64 by kernel_rfl]; omega)]
    rw [show Try.prog.arrayLen 65 = 64 by kernel_rfl, show ((sizeOf (Try.prog.elem 65)).run Try.prog w) = .ok 1 w by kernel_rfl]
    have e1 : ((N : Int) % 64 + 1).toNat = N % 64 + 1 := by omega
    simp only [Result.andThen, slicedAt, e1, Nat.mul_one, Addr.add_lit]
    congr 2
    all_goals omega
  have e2 : partB (partB blk (N % 64) [128]) (N % 64 + 1) (List.replicate (63 - N % 64) 0) = padB m := by
    have h1 : (partB blk (N % 64) [128]).take (N % 64 + 1) = tailOf m ++ [128] := by
      unfold partB
      rw [List.take_append_of_le_length (by simp; omega), List.take_of_length_le (by simp; omega), ht]
    rw [partB, h1, List.drop_eq_nil_of_le (by rw [hl]; simp; omega), padB, hm]
    simp
  by_cases h : 64 = N % 64 + 1
  · refine ⟨8, by rw [hrun, if_pos h], by omega, ?_⟩
    have h0 : 63 - N % 64 = 0 := by omega
    rw [← e2, h0]
    simp [part, partB]
  · refine ⟨8 + (N % 64 + 1), by rw [hrun, if_neg h], by omega, ?_⟩
    rw [part_zero _ _ _ _ _ (by rw [hl]; omega), e2]

theorem wpList_clear_rowV {P : Program} {ops : Array Oper} {rest : List Oper} {o : Oper} {a : Act} {w : World} {Q : Exit → Act → World → Prop} (hgd : o.guard = none) (d : Operand) (dT : TypeId)
    (ho : o.op = .call { callee := .builtin .clear, args := #[d], argTypes := #[dT] }) (elem : TypeId) (hu : P.underlying dT = some (.slice elem))
    (g off n c : Nat) (t : TypeId) (cur : List Value) (z : Value) (hd : a.eval d = .slice (some ⟨g, off, none⟩) n c) (hz : ∀ w, (zeroValue elem).run P w = .ok z w) (hzc : z.cells = #[z]) (h1 : z.oneCell' = true)
    (hg : w.heap[g]? = some (.cells cur.toArray t (0, 0))) (hfit : off + n ≤ cur.length)
    (h : Stop (∀ w3, w3.heap[g]? = some (.cells (part cur off (List.replicate n z)).toArray t (0, 0)) → w.grownBy w3 (some g) → wpList P ops Q rest (a.put o.dst (.tuple #[])) w3)) :
    wpList P ops Q (o :: rest) a w :=
  wpList_clear_row hgd d dT ho elem hu g off n c t cur z hd (hz w) hzc h1 hg hfit (h _ (setRow_heap _ _ _ _ _ _ hg) (gb_row (World.grownBy.refl _ _) _))
theorem set_part (cur : List Value) (k : Nat) (v : Value) (h : k < cur.length) : cur.toArray.setIfInBounds k v = (part cur k [v]).toArray := by
  rw [List.setIfInBounds_toArray, part, List.set_eq_take_append_cons_drop, if_pos h]
  simp
theorem set_byte (s : S8) (blk : List UInt8) (n k : Nat) (b : UInt8) (h : k < blk.length) : (hcells s blk n).toArray.setIfInBounds (8 + k) (.int .u8 (b.toNat : Int)) = (hcells s (partB blk k [b]) n).toArray := by
  rw [set_part _ _ _ (by simp [hcells, S8.list, byteCells_length]; omega)]
  exact congrArg List.toArray (part_bytes s blk n k [b] (by simp; omega))

theorem below_drawn {B : Nat} {a w : World} (h : Below B a w) (n : Nat) : Below B a (w.drewN n) := ⟨h.os, h.tape, h.output, h.size, h.block⟩
theorem slice_len (B : Nat) (w : World) : (Instr.sliceAt 65 (.pointer (some ⟨B, 8, none⟩)) (some (.int .i64 56)) none none).run Try.prog w = .ok (.slice (some ⟨B, 64, none⟩) 8 8) w := by
  kernel_rfl
theorem slice_all (B : Nat) (w : World) : (Instr.sliceAt 65 (.pointer (some ⟨B, 8, none⟩)) none none none).run Try.prog w = .ok (.slice (some ⟨B, 8, none⟩) 64 64) w := by
  kernel_rfl
theorem hcells_one (s : S8) (blk : List UInt8) (n : Nat) : (hcells s blk n).toArray.all (·.oneCell') = true := by simp [hcells, byteCells, Value.oneCell']
theorem hcells_asize (s : S8) (blk : List UInt8) (n : Nat) (h : blk.length = 64) : (hcells s blk n).toArray.size = 73 := by simp [hcells_length _ _ _ h]

set_option maxRecDepth 100000 in
set_option maxHeartbeats 2000000 in
theorem sum_any (g : Nat) (m : List UInt8) (w : World) (h : HashIs w g m) (hm : m.length < 1152921504606846976) :
    Calls Try.prog 22 #[.pointer (some ⟨g, 0, none⟩)] w
      fun e w' => e = .returned (.string ⟨(sha m).toArray⟩) ∧ Below w.heap.size w w' := by
  obtain ⟨blk, hl, ht, hg⟩ := h
  obtain ⟨N, hN⟩ : ∃ N, N = m.length := ⟨_, rfl⟩
  rw [← hN] at ht hg hm
  have hlt := Nat.mod_lt N (show 0 < 64 by omega)
  have hgw : g < w.heap.size := (Array.getElem?_eq_some_iff.1 hg).1
  have HZ := hid (hcells_asize (stateOf m) blk N hl)
  have hfin : (w.alloc (.cells (hcells ZS Z64B 0).toArray 67)).setRow w.heap.size (hcells (stateOf m) blk N).toArray = w.alloc (.cells (hcells (stateOf m) blk N).toArray 67) := alloc_setRow _ _ _ _
  have HF := hid hfin
  have HN := hid hN
  clear hfin hN
  go_enter Try.func22, Try.ntmps22
  go_wp2_with (first
    | (with_reducible refine wpList_run_alloc rfl 67 rfl (hcells ZS Z64B 0).toArray (by kernel_rfl) ?_)
    | (with_reducible refine wpList_load_row rfl 67 _ rfl g rfl 67 _ (0, 0) _ hg Try.underlying67 rfl (by rw [HZ.out]; kernel_rfl) ?_)
    | (with_reducible refine stop_store 67 _ _ rfl ?_))
  unfold Stop
  refine wpList_store_row rfl 67 _ _ rfl w.heap.size (hcells (stateOf m) blk N).toArray rfl rfl 67 _ (heap_alloc_new _ _) (by rw [HZ.out]; kernel_rfl) ((show (hcells ZS Z64B 0).toArray.size = 73 by kernel_rfl).trans HZ.out.symm) (hcells_one _ _ _) ?_
  dsimp only [Act.put]
  rw [HF.out]
  have hw1 := heap_alloc_new w (.cells (hcells (stateOf m) blk N).toArray 67)
  have hb1 : Below w.heap.size w (w.alloc (.cells (hcells (stateOf m) blk N).toArray 67)) := (Below.refl _ _).alloc (Nat.le_refl _) _
  generalize w.alloc (.cells (hcells (stateOf m) blk N).toArray 67) = w1 at hw1 hb1
  have hg1 := (hb1.block g hgw).trans hg
  have hcell := (cell_of_row w1 g 72 _ _ _ hg1).trans (by simpa using hcells_len (stateOf m) blk N hl)
  have hf1 := frozen_of_row w1 w.heap.size (8 + N % 64) _ _ hw1
  have hc1 : w1.cell? ⟨w.heap.size, 8 + N % 64, none⟩ = some (.int .u8 ((blk.getD (N % 64) 0).toNat : Int)) := (cell_of_row _ _ _ _ _ _ hw1).trans (by simpa using hcells_byte (stateOf m) blk N (N % 64) (by omega))
  generalize ((blk.getD (N % 64) 0).toNat : Int) = old at hc1
  have KW := hid (And.intro hw1 (And.intro hb1 (And.intro hg1 (And.intro hg ht))))
  clear hw1 hb1 hg1 hg ht HF HZ
  have hx : (0 : Int) ≤ (N : Int) % 64 := by omega
  have hx2 : (N : Int) % 64 < 64 := by omega
  go_wp2_with fail
  obtain ⟨hw1, hb1, hg1, hg, ht⟩ := KW.out
  have hw2 := heap_setCell_same w1 w.heap.size (8 + N % 64) _ _ (.int .u8 128) hw1
  rw [show (Value.int .u8 128) = .int .u8 ((128 : UInt8).toNat : Int) from rfl, set_byte _ _ _ _ _ (by omega)] at hw2
  rw [show (Value.int .u8 ((128 : UInt8).toNat : Int)) = .int .u8 128 from rfl] at hw2
  have hb2 : Below w.heap.size w (w1.setCell ⟨w.heap.size, 8 + N % 64, none⟩ (.int .u8 128)) := hb1.setCell (Nat.le_refl _) _
  generalize w1.setCell ⟨w.heap.size, 8 + N % 64, none⟩ (.int .u8 128) = w2 at hw2 hb2
  obtain ⟨off, hsl, hfit, hpart⟩ := slice_rest w.heap.size N w2 (stateOf m) m blk hl HN.out.symm ht
  rw [hsl]
  have hfit2 : off + (63 - N % 64) ≤ (hcells (stateOf m) (partB blk (N % 64) [128]) N).length := by rw [hcells_length _ _ _ (by rw [partB_length _ _ _ (by simp; omega), hl])]; exact hfit
  clear hsl hw1 hb1 hg1 ht KW hcell hf1 hc1
  have KP := hid (And.intro hpart (And.intro hb2 hg))
  clear hpart hb2 hg
  go_wp2_with (with_reducible refine wpList_clear_rowV rfl _ 34 rfl 5 Try.underlying34 w.heap.size off (63 - N % 64) (63 - N % 64) 67 _ (.int .u8 0) rfl (fun _ => by kernel_rfl) (by kernel_rfl) (by kernel_rfl) hw2 hfit2 ?_)
  unfold Stop
  intro w3 hw3 hgr
  obtain ⟨hpart, hb2, hg⟩ := KP.out
  rw [hpart] at hw3
  have hb3 : Below w.heap.size w w3 := hb2.trans (below_of_gb hgr hb2.size (Nat.le_refl _))
  clear hpart hb2 hgr hw2 hfit hfit2 KP
  have hlen : (padB m).length = 64 := padB_length m
  by_cases h56 : N % 64 < 56
  · have hq : ¬ (56 < (N : Int) % 64 + 1) := by omega
    have hS : stateOf m = beforeLast m := by unfold beforeLast; rw [if_pos (by rw [← HN.out]; exact h56)]
    have hL : padB m = lastB m := by unfold lastB; rw [if_pos (by rw [← HN.out]; exact h56)]
    rw [hS, hL] at hw3
    have hl' := lastB_length m
    have hsha : bytesOf (comp (beforeLast m) (partB (lastB m) 56 (be8 (8 * N)))) = sha m := by rw [HN.out]; rfl
    clear hlen hS hL
    generalize beforeLast m = S' at hw3 hsha
    generalize lastB m = blk' at hw3 hsha hl'
    have HS := hid hsha
    clear hsha
    have hsha := HS
    have hcN : w3.cell? ⟨g, 72, none⟩ = some (.int .u64 (N : Int)) := by
      rw [hb3.cell (p := ⟨g, 72, none⟩) hgw]; exact (cell_of_row w g 72 _ _ _ hg).trans (by simpa using hcells_len (stateOf m) blk N hl)
    have put := putLength_any w.heap.size 64 8 (8 * N) 67 (hcells S' blk' N)
    rw [show ((8 * N : Nat) : Int) = 8 * (N : Int) by omega] at put
    have KR := hid (And.intro hw3 (And.intro hb3 put))
    have hsl := slice_len w.heap.size w3
    clear hw3 hb3 hg put
    go_wp2_with fail
    refine wp_region_quiet_tail 7 (by kernel_rfl) (by kernel_rfl) ?_
    simp only [List.take_succ_cons, List.take_zero, List.drop_succ_cons, List.drop_zero]
    repeat (go_big_quiet_step (fail))
    refine wpQuiet_nil ?_
    intro _ hw'
    obtain ⟨nq, hx⟩ := hw'
    subst hx
    obtain ⟨hw3, hb3, put⟩ := KR.out
    go_wp2_with fail
    refine (put (w3.drewN nq) hw3 (by rw [hcells_length _ _ _ hl']; omega) (by omega)).mono ?_
    rintro e w4 ⟨rfl, hR⟩
    rw [part_bytes S' blk' N 56 _ (by rw [be8_length, hl']; omega)] at hR
    have hl4 : (partB blk' 56 (be8 (8 * N))).length = 64 := by rw [partB_length _ _ _ (by rw [be8_length, hl']; omega), hl']
    have hb4 : Below w.heap.size w w4 := (below_drawn hb3 nq).trans (below_of_gb hR.1 hb3.size (Nat.le_refl _))
    have hw4 := hR.2
    have sc := fun (j : Nat) (v : BitVec 32) (hj : S'.list[j]? = some v) => show w4.cell? ⟨w.heap.size, j, none⟩ = some (.int .u32 (u v)) from
      (cell_of_row _ _ _ _ _ _ hw4).trans (by simpa using hcells_word _ _ _ j v hj)
    have s0 := sc 0 S'.a rfl
    have s1 := sc 1 S'.b rfl
    have s2 := sc 2 S'.c rfl
    have s3 := sc 3 S'.d rfl
    have s4 := sc 4 S'.e rfl
    have s5 := sc 5 S'.f rfl
    have s6 := sc 6 S'.g rfl
    have s7 := sc 7 S'.h rfl
    have call := compress_lit S'.a S'.b S'.c S'.d S'.e S'.f S'.g S'.h (partB blk' 56 (be8 (8 * N))) w.heap.size 8 w4
      (fun j hj => (cell_of_row _ _ _ _ _ _ hw4).trans (by simpa using hcells_byte _ _ _ j (by omega)))
    have K4 := hid (And.intro call hb4)
    clear sc call hb4 hw4 hR hw3 hb3 put KR hsl
    go_wp2_with fail
    refine K4.out.1.mono ?_
    rintro e w5 ⟨rfl, hb5⟩
    have hb5' := K4.out.2.trans (hb5.mono K4.out.2.size)
    clear hb5 K4
    go_wp2_with fail
    refine (digest_any _ w5).mono ?_
    rintro e w6 ⟨rfl, hb6⟩
    have K6 := hid (hb5'.trans (hb6.mono hb5'.size))
    clear hb5' hb6
    go_wp2_with fail
    go_ret
    exact ⟨by rw [← hsha.out]; rfl, K6.out⟩
  · have hq : 56 < (N : Int) % 64 + 1 := by omega
    have sc := fun (j : Nat) (v : BitVec 32) (hj : (stateOf m).list[j]? = some v) => show w3.cell? ⟨w.heap.size, j, none⟩ = some (.int .u32 (u v)) from
      (cell_of_row _ _ _ _ _ _ hw3).trans (by simpa using hcells_word _ _ _ j v hj)
    have s0 := sc 0 (stateOf m).a rfl
    have s1 := sc 1 (stateOf m).b rfl
    have s2 := sc 2 (stateOf m).c rfl
    have s3 := sc 3 (stateOf m).d rfl
    have s4 := sc 4 (stateOf m).e rfl
    have s5 := sc 5 (stateOf m).f rfl
    have s6 := sc 6 (stateOf m).g rfl
    have s7 := sc 7 (stateOf m).h rfl
    have call := compress_lit (stateOf m).a (stateOf m).b (stateOf m).c (stateOf m).d (stateOf m).e (stateOf m).f (stateOf m).g (stateOf m).h (padB m) w.heap.size 8 w3
      (fun j hj => (cell_of_row _ _ _ _ _ _ hw3).trans (by simpa using hcells_byte _ _ _ j (by omega)))
    have KR := hid (And.intro hw3 (And.intro hb3 (And.intro hg call)))
    clear sc call hw3 hb3 hg
    go_wp2_with fail
    obtain ⟨hw3, hb3, hg, call⟩ := KR.out
    refine call.mono ?_
    rintro e w7 ⟨rfl, hb7⟩
    have hw7 : w7.heap[w.heap.size]? = some (.cells (hcells (stateOf m) (padB m) N).toArray 67 (0, 0)) := (hb7.block _ (Array.getElem?_eq_some_iff.1 hw3).1).trans hw3
    have hb7' := hb3.trans (hb7.mono hb3.size)
    clear hw3 hb3 hg call hb7 s0 s1 s2 s3 s4 s5 s6 s7
    have K7 := hid hb7'
    clear hb7'
    go_wp2_with (with_reducible refine stop_store 64 _ _ rfl ?_)
    unfold Stop
    have hl7 := hcells_length (stateOf m) (padB m) N hlen
    refine wpList_store_part rfl 64 _ _ rfl w.heap.size 0 _ rfl rfl 67 _ hw7 (by rw [UC_size]; kernel_rfl) (by rw [UC_size, hl7]; show 0 + 8 ≤ 73; decide) (UC_one _) ?_
    rw [part_words]
    dsimp only [Act.put]
    have hw8 := setRow_heap w7 w.heap.size _ (hcells (comp (stateOf m) (padB m)) (padB m) N).toArray _ _ hw7
    have hb8 := K7.out.trans (below_row w7 (Nat.le_refl w.heap.size) (hcells (comp (stateOf m) (padB m)) (padB m) N).toArray)
    clear hw7 K7 hl7
    generalize w7.setRow w.heap.size _ = w8 at hw8 hb8
    have hl8 : 8 + 64 ≤ (hcells (comp (stateOf m) (padB m)) (padB m) N).length := by rw [hcells_length _ _ _ hlen]; decide
    have hsa := slice_all w.heap.size w8
    have K8 := hid hb8
    clear hb8
    go_wp2_with (with_reducible refine wpList_clear_rowV rfl _ 34 rfl 5 Try.underlying34 w.heap.size 8 64 64 67 _ (.int .u8 0) rfl (fun _ => by kernel_rfl) (by kernel_rfl) (by kernel_rfl) hw8 hl8 ?_)
    unfold Stop
    intro w9 hw9 hgr9
    have hz : part (hcells (comp (stateOf m) (padB m)) (padB m) N) 8 (List.replicate 64 (.int .u8 0)) = hcells (comp (stateOf m) (padB m)) (partB (padB m) 0 (List.replicate 64 0)) N := part_zero (comp (stateOf m) (padB m)) (padB m) N 0 64 (by omega)
    have hz2 : partB (padB m) 0 (List.replicate 64 0) = List.replicate 64 0 := by
      rw [partB, List.drop_eq_nil_of_le (by simp; omega)]; simp
    replace hw9 : w9.heap[w.heap.size]? = some (.cells (part (hcells (comp (stateOf m) (padB m)) (padB m) N) 8 (List.replicate 64 (.int .u8 0))).toArray 67 (0, 0)) := hw9
    rw [hz, hz2] at hw9
    have hb9 : Below w.heap.size w w9 := K8.out.trans (below_of_gb hgr9 K8.out.size (Nat.le_refl _))
    have hS : comp (stateOf m) (padB m) = beforeLast m := by unfold beforeLast; rw [if_neg (by rw [← HN.out]; exact h56)]
    have hL : List.replicate 64 (0 : UInt8) = lastB m := by unfold lastB; rw [if_neg (by rw [← HN.out]; exact h56)]
    rw [hS, hL] at hw9
    have hl' := lastB_length m
    have hsha : bytesOf (comp (beforeLast m) (partB (lastB m) 56 (be8 (8 * N)))) = sha m := by rw [HN.out]; rfl
    obtain ⟨-, -, hg, -⟩ := KR.out
    clear hz hz2 hgr9 K8 hw8 hl8 hsa hlen hS hL KR
    generalize beforeLast m = S' at hw9 hsha
    generalize lastB m = blk' at hw9 hsha hl'
    have HS := hid hsha
    clear hsha
    have hsha := HS
    have hcN : w9.cell? ⟨g, 72, none⟩ = some (.int .u64 (N : Int)) := by
      rw [hb9.cell (p := ⟨g, 72, none⟩) hgw]; exact (cell_of_row w g 72 _ _ _ hg).trans (by simpa using hcells_len (stateOf m) blk N hl)
    have put := putLength_any w.heap.size 64 8 (8 * N) 67 (hcells S' blk' N)
    rw [show ((8 * N : Nat) : Int) = 8 * (N : Int) by omega] at put
    have KR := hid (And.intro hw9 (And.intro hb9 put))
    have hsl := slice_len w.heap.size w9
    clear hw9 hb9 hg put
    go_wp2_with fail
    refine wp_region_quiet_tail 7 (by kernel_rfl) (by kernel_rfl) ?_
    simp only [List.take_succ_cons, List.take_zero, List.drop_succ_cons, List.drop_zero]
    repeat (go_big_quiet_step (fail))
    refine wpQuiet_nil ?_
    intro _ hw'
    obtain ⟨nq, hx⟩ := hw'
    subst hx
    obtain ⟨hw9, hb9, put⟩ := KR.out
    go_wp2_with fail
    refine (put (w9.drewN nq) hw9 (by rw [hcells_length _ _ _ hl']; omega) (by omega)).mono ?_
    rintro e w4 ⟨rfl, hR⟩
    rw [part_bytes S' blk' N 56 _ (by rw [be8_length, hl']; omega)] at hR
    have hl4 : (partB blk' 56 (be8 (8 * N))).length = 64 := by rw [partB_length _ _ _ (by rw [be8_length, hl']; omega), hl']
    have hb4 : Below w.heap.size w w4 := (below_drawn hb9 nq).trans (below_of_gb hR.1 hb9.size (Nat.le_refl _))
    have hw4 := hR.2
    have sc := fun (j : Nat) (v : BitVec 32) (hj : S'.list[j]? = some v) => show w4.cell? ⟨w.heap.size, j, none⟩ = some (.int .u32 (u v)) from
      (cell_of_row _ _ _ _ _ _ hw4).trans (by simpa using hcells_word _ _ _ j v hj)
    have s0 := sc 0 S'.a rfl
    have s1 := sc 1 S'.b rfl
    have s2 := sc 2 S'.c rfl
    have s3 := sc 3 S'.d rfl
    have s4 := sc 4 S'.e rfl
    have s5 := sc 5 S'.f rfl
    have s6 := sc 6 S'.g rfl
    have s7 := sc 7 S'.h rfl
    have call := compress_lit S'.a S'.b S'.c S'.d S'.e S'.f S'.g S'.h (partB blk' 56 (be8 (8 * N))) w.heap.size 8 w4
      (fun j hj => (cell_of_row _ _ _ _ _ _ hw4).trans (by simpa using hcells_byte _ _ _ j (by omega)))
    have K4 := hid (And.intro call hb4)
    clear sc call hb4 hw4 hR hw9 hb9 put KR hsl
    go_wp2_with fail
    refine K4.out.1.mono ?_
    rintro e w5 ⟨rfl, hb5⟩
    have hb5' := K4.out.2.trans (hb5.mono K4.out.2.size)
    clear hb5 K4
    go_wp2_with fail
    refine (digest_any _ w5).mono ?_
    rintro e w6 ⟨rfl, hb6⟩
    have K6 := hid (hb5'.trans (hb6.mono hb5'.size))
    clear hb5' hb6
    go_wp2_with fail
    go_ret
    exact ⟨by rw [← hsha.out]; rfl, K6.out⟩
end Go.Proofs.Ytijohbohdceggaa
