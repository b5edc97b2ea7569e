/- The message schedule of a block. -/
import Derived.Test.YtijohbohdceggaaK
import Derived.Test.YtijohbohdceggaaQuietTail
namespace Go.Proofs.Ytijohbohdceggaa
open Go.RowKit
attribute [local go_sem ↓ high] u_and u_or u_xor u_not u_add shl_rule shr_rule shl_lit shr_lit u_byte

/-- Four bytes, most significant first. -/
def word4 (a b c d : UInt8) : BitVec 32 := bw a <<< 24 ||| bw b <<< 16 ||| bw c <<< 8 ||| bw d

def BC (l : List UInt8) : Array Value := (l.map fun x => Value.int .u8 (x.toNat : Int)).toArray


/-- 64 words that are zero. -/
def Z64 : List (BitVec 32) := List.replicate 64 0
/-- The first k words of a block. -/
def firstW (bs : List UInt8) (k : Nat) : List (BitVec 32) := (List.range k).map fun i => word4 (bs.getD (4 * i) 0) (bs.getD (4 * i + 1) 0) (bs.getD (4 * i + 2) 0) (bs.getD (4 * i + 3) 0)
/-- One word more. -/
def stepW (l : List (BitVec 32)) : List (BitVec 32) :=
  l ++ [rot2s 17 19 10 (l.getD (l.length - 2) 0) + l.getD (l.length - 7) 0 + rot2s 7 18 3 (l.getD (l.length - 15) 0) + l.getD (l.length - 16) 0]
def iterW : Nat → List (BitVec 32) → List (BitVec 32)
  | 0, l => l
  | n + 1, l => stepW (iterW n l)
/-- The schedule of a block. -/
def sched (bs : List UInt8) : List (BitVec 32) := iterW 48 (firstW bs 16)
theorem firstW_length (bs : List UInt8) (k : Nat) : (firstW bs k).length = k := by simp [firstW]
theorem firstW_succ (bs : List UInt8) (k : Nat) : firstW bs (k + 1) = firstW bs k ++ [word4 (bs.getD (4 * k) 0) (bs.getD (4 * k + 1) 0) (bs.getD (4 * k + 2) 0) (bs.getD (4 * k + 3) 0)] := by
  simp [firstW, List.range_succ]
theorem iterW_length (n : Nat) (l : List (BitVec 32)) : (iterW n l).length = l.length + n := by
  induction n with
  | zero => rfl
  | succ n ih => simp [iterW, stepW, ih]; omega
theorem sched_length (bs : List UInt8) : (sched bs).length = 64 := by rw [sched, iterW_length, firstW_length]
/-- The cells of an array of 64 words of which the first ones are known. -/
def UP (l : List (BitVec 32)) : Array Value := UC (l ++ List.replicate (64 - l.length) 0)
theorem UP_get (l : List (BitVec 32)) (k : Nat) (hk : k < l.length) : (UP l)[k]? = some (.int .u32 (u (l.getD k 0))) := by
  rw [UP, UC_get _ _ (by simp; omega)]
  congr 3
  simp [List.getD, List.getElem?_append_left hk]
theorem UP_size (l : List (BitVec 32)) (h : l.length ≤ 64) : (UP l).size = 64 := by rw [UP, UC_size]; simp; omega
theorem UP_next (l : List (BitVec 32)) (x : BitVec 32) (h : l.length < 64) : (UP l).setIfInBounds l.length (.int .u32 (u x)) = UP (l ++ [x]) := UC_next l 64 x h
theorem UP_full (l : List (BitVec 32)) (h : l.length = 64) : UP l = UC l := by rw [UP, h]; simp
theorem UP_nil : UP [] = UC Z64 := rfl

theorem slice_four (g o k : Nat) (w : World) (hk : k < 16) : (Instr.sliceAt 65 (.pointer (some ⟨g, o, none⟩)) (some (.int .i64 (4 * (k : Int)))) (some (.int .i64 (4 * (k : Int) + 4))) none).run Try.prog w =
    .ok (.slice (some ⟨g, o + 4 * k, none⟩) 4 (64 - 4 * k)) w := by
  rw [run_sliceAt_array_lh w _ _ (show Try.prog.underlying 65 = some (.array (Try.prog.arrayLen 65) (Try.prog.elem 65)) by kernel_rfl) .i64 .i64 _ _ (by omega) (by omega) (by rw [show Try.prog.arrayLen 65 = 64 by kernel_rfl]; omega)]
  rw [show Try.prog.arrayLen 65 = 64 by kernel_rfl, show ((sizeOf (Try.prog.elem 65)).run Try.prog w) = .ok 1 w by kernel_rfl]
  have e1 : (4 * (k : Int)).toNat = 4 * k := by omega
  have e2 : (4 * (k : Int) + 4).toNat = 4 * k + 4 := by omega
  simp only [Result.andThen, slicedAt, e1, e2, if_neg (show ¬ 64 = 4 * k by omega), Nat.mul_one, Nat.add_sub_cancel_left, Addr.add_lit]


set_option maxRecDepth 100000 in
set_option maxHeartbeats 1000000 in
theorem schedule_any (bs : List UInt8) (g o : Nat) (w : World) (hc : ∀ j, j < 64 → w.cell? ⟨g, o + j, none⟩ = some (.int .u8 ((bs.getD j 0).toNat : Int))) :
    Calls Try.prog 43 #[.pointer (some ⟨g, o, none⟩)] w
      fun e w' => e = .returned (.agg (UC (sched bs))) ∧ Below w.heap.size w w' := by
  have hg : g < w.heap.size := block_lt_of_cell (hc 0 (by omega))
  have HC := hid hc
  clear hc
  go_enter Try.func43, Try.ntmps43
  go_wp2_with (with_reducible refine wpList_run_alloc rfl 76 rfl (UC Z64) (by kernel_rfl) ?_)
  go_loopw [9] (fun v wr => ∃ k : Nat, k ≤ 16 ∧ v = .int .i64 k ∧ RowRel (w.heap.size + 1) 76 ((w.alloc (.cells (UC Z64) 76)).alloc (.cells (UC Z64) 76)) (UP (firstW bs k)) wr) (fun v _ => 16 - (intOf v).toNat)
  case atStart => exact ⟨0, by omega, rfl, RR_start (heap_alloc2_new w _ _)⟩
  case round =>
    obtain ⟨k, hk, rfl, hS⟩ := hrel
    have hwz : ((w.alloc (.cells (UC Z64) 76)).alloc (.cells (UC Z64) 76)).heap.size = w.heap.size + 2 := by simp
    by_cases hlt : k < 16
    · have hsl := slice_four g o k wr hlt
      have cell : ∀ j, j < 64 → wr.cell? ⟨g, o + j, none⟩ = some (.int .u8 ((bs.getD j 0).toNat : Int)) := by
        intro j hj
        rw [RR_far hS (by omega) (by omega), ← HC.out j hj]
        exact (Below.alloc (Below.alloc (Below.refl w.heap.size w) (Nat.le_refl _) _) (by simp) _).cell (p := ⟨g, o + j, none⟩) hg
      have c0 := cell (4 * k) (by omega)
      have c1 := cell (4 * k + 1) (by omega)
      have c2 := cell (4 * k + 2) (by omega)
      have c3 := cell (4 * k + 3) (by omega)
      simp only [← Nat.add_assoc] at c1 c2 c3 c0
      have hsucc := firstW_succ bs k
      generalize bs.getD (4 * k) 0 = b0 at c0 hsucc
      generalize bs.getD (4 * k + 1) 0 = b1 at c1 hsucc
      generalize bs.getD (4 * k + 2) 0 = b2 at c2 hsucc
      generalize bs.getD (4 * k + 3) 0 = b3 at c3 hsucc
      have HS := hid hsucc
      have HW := hid hwz
      clear cell hsucc hwz
      go_wp2_with fail
      refine wp_region_quiet_tail 24 (by kernel_rfl) (by kernel_rfl) ?_
      simp only [List.take_succ_cons, List.take_zero, List.drop_succ_cons, List.drop_zero]
      repeat (go_big_quiet_step (fail))
      refine wpQuiet_nil ?_
      intro _ hw'
      obtain ⟨nq, hw''⟩ := hw'
      subst hw''
      have hf := RR_free hS k
      obtain ⟨old, ho⟩ := RR_some hS k (by rw [UP_size _ (by rw [firstW_length]; omega)]; omega)
      go_wp2
      refine ⟨⟨k + 1, by omega, by go_num, ?_⟩, by simp [intOf]; omega⟩
      have := RR_set (RR_drew hS nq) k (.int .u32 (u (word4 b0 b1 b2 b3)))
      have e := UP_next (firstW bs k) (word4 b0 b1 b2 b3) (by rw [firstW_length]; omega)
      rw [firstW_length] at e
      rw [e, ← HS.out] at this
      exact this
    · obtain rfl : k = 16 := by omega
      have hB : Below w.heap.size w wr := below_of_gb (gb_trans (gb_trans (World.grownBy_alloc w _ (some (w.heap.size + 1))) (World.grownBy_alloc _ _ _)) hS.1) (Nat.le_refl _) (by omega)
      have hr : wr.heap[w.heap.size]? = some (.cells (UC Z64) 76 (0, 0)) := by
        rw [gb_heap hS.1 (by omega) (by omega)]; exact heap_alloc2_old w _ _
      have hS2 := hS.2
      clear hS hwz HC
      go_wp2_with fail
      refine (shifted_abs 7 18 3 _).mono ?_
      rintro e w1 ⟨pa, pb, pc, rfl, hb1, ca, cb, cc, hp1, hp2, hp3⟩
      go_wp2_with fail
      refine (shifted_abs 17 19 10 _).mono ?_
      rintro e w2 ⟨qa, qb, qc, rfl, hb2, da, db, dc, hq1, hq2, hq3⟩
      have ea := (hb2.cell (block_lt_of_cell ca)).trans ca
      have eb := (hb2.cell (block_lt_of_cell cb)).trans cb
      have ec := (hb2.cell (block_lt_of_cell cc)).trans cc
      have hlt1 : w.heap.size + 1 < wr.heap.size := (Array.getElem?_eq_some_iff.1 hS2).1
      have hs1 := hb1.size
      have hs2 := hb2.size
      have hbb : Below w.heap.size w w2 := (hB.trans (hb1.mono (by omega))).trans (hb2.mono (by omega))
      have hr2 : w2.heap[w.heap.size]? = some (.cells (UC Z64) 76 (0, 0)) := by rw [hb2.block _ (by omega), hb1.block _ (by omega), hr]
      have hS3 : w2.heap[w.heap.size + 1]? = some (.cells (UP (firstW bs 16)) 76 (0, 0)) := by rw [hb2.block _ (by omega), hb1.block _ (by omega), hS2]
      replace hp1 : w.heap.size + 1 < pa.block := by omega
      replace hp2 : w.heap.size + 1 < pb.block := by omega
      replace hp3 : w.heap.size + 1 < pc.block := by omega
      replace hq1 : w.heap.size + 1 < qa.block := by omega
      replace hq2 : w.heap.size + 1 < qb.block := by omega
      replace hq3 : w.heap.size + 1 < qc.block := by omega
      clear ca cb cc hS2 hr hB hlt hk hb1 hb2 hs1 hs2
      go_wp2_with fail
      go_loopw [8] (fun v wr => ∃ i : Nat, 16 ≤ i ∧ i ≤ 64 ∧ v = .int .i64 i ∧ RowRel (w.heap.size + 1) 76 w2 (UP (iterW (i - 16) (firstW bs 16))) wr) (fun v _ => 64 - (intOf v).toNat)
      case atStart => exact ⟨16, by omega, by omega, rfl, RR_start hS3⟩
      case round =>
        clear hS3
        obtain ⟨i, hi, hi2, rfl, hT⟩ := hrel
        obtain ⟨L, hL⟩ : ∃ L, L = iterW (i - 16) (firstW bs 16) := ⟨_, rfl⟩
        have hll : L.length = i := by rw [hL, iterW_length, firstW_length]; omega
        by_cases hlt : i < 64
        · have hnext : iterW (i + 1 - 16) (firstW bs 16) = stepW L := by rw [hL, show i + 1 - 16 = (i - 16) + 1 by omega]; rfl
          rw [← hL] at hT
          have get : ∀ j, j < i → wr.cell? ⟨w.heap.size + 1, j, none⟩ = some (.int .u32 (u (L.getD j 0))) := fun j hj => RR_cell hT (UP_get L j (by omega))
          have c2 := get (i - 2) (by omega)
          have c7 := get (i - 7) (by omega)
          have c15 := get (i - 15) (by omega)
          have c16 := get (i - 16) (by omega)
          have hstep : stepW L = L ++ [rot2s 17 19 10 (L.getD (i - 2) 0) + L.getD (i - 7) 0 + rot2s 7 18 3 (L.getD (i - 15) 0) + L.getD (i - 16) 0] := by rw [← hll]; rfl
          rw [hstep] at hnext
          generalize L.getD (i - 2) 0 = x2 at c2 hnext
          generalize L.getD (i - 7) 0 = x7 at c7 hnext
          generalize L.getD (i - 15) 0 = x15 at c15 hnext
          generalize L.getD (i - 16) 0 = x16 at c16 hnext
          have far : ∀ (p : Addr) v, w.heap.size + 1 < p.block → w2.cell? p = some v → wr.cell? p = some v := fun p v hp hv => hT.1.cell hv (by intro e; injection e with e; omega)
          have s1 := fun (x : BitVec 32) (n : Nat) => Calls.quiet_of (w := wr) (n := n) (shifted1_any x 17 19 10 qa qb qc (wr.drewN n) (by omega) (by omega) (by omega) (by omega) (far _ _ hq1 da) (far _ _ hq2 db) (far _ _ hq3 dc))
          have s0 := fun (x : BitVec 32) (n : Nat) => Calls.quiet_of (w := wr) (n := n) (shifted1_any x 7 18 3 pa pb pc (wr.drewN n) (by omega) (by omega) (by omega) (by omega) (far _ _ hp1 ea) (far _ _ hp2 eb) (far _ _ hp3 ec))
          have S1 := hid s1
          have S0 := hid s0
          have HN := hid hnext
          have HLL := hid hll
          clear s1 s0 far hstep hnext hll hL get
          go_wp2_with fail
          refine wp_region_quiet_tail 25 (by kernel_rfl) (by kernel_rfl) ?_
          simp only [List.take_succ_cons, List.take_zero, List.drop_succ_cons, List.drop_zero]
          repeat (go_big_quiet_step ((go_at_call 51; first | (with_reducible exact S1.out _ _) | (with_reducible exact S0.out _ _))))
          refine wpQuiet_nil ?_
          intro _ hw'
          obtain ⟨nq, hw''⟩ := hw'
          subst hw''
          have hf := RR_free hT i
          obtain ⟨old, ho⟩ := RR_some hT i (by rw [UP_size _ (by rw [HLL.out]; omega)]; omega)
          go_wp2
          refine ⟨⟨i + 1, by omega, by omega, by go_num, ?_⟩, by simp [intOf]; omega⟩
          have := RR_set (RR_drew hT nq) i (.int .u32 (u (rot2s 17 19 10 x2 + x7 + rot2s 7 18 3 x15 + x16)))
          have e := UP_next L (rot2s 17 19 10 x2 + x7 + rot2s 7 18 3 x15 + x16) (by rw [HLL.out]; omega)
          rw [HLL.out] at e
          rw [e, ← HN.out] at this
          exact this
        · obtain rfl : i = 64 := by omega
          have hfull : UP (iterW 48 (firstW bs 16)) = UC (sched bs) := UP_full _ (sched_length bs)
          have hT' : RowRel (w.heap.size + 1) 76 w2 (UC (sched bs)) wr := by rw [← hfull]; exact hT
          have hh := hT'.2
          have h0 : wr.heap[w.heap.size]? = some (.cells (UC Z64) 76 (0, 0)) := by
            rw [gb_heap hT'.1 (Array.getElem?_eq_some_iff.1 hr2).1 (by omega)]; exact hr2
          have hz : (UC (sched bs)).size = 64 := by rw [UC_size, sched_length]
          have hz0 : (UC Z64).size = 64 := by rw [UC_size]; rfl
          have hb3 : Below w.heap.size w wr := hbb.trans (below_of_gb hT'.1 hbb.size (by omega))
          clear hT hfull hL hll da db dc ea eb ec
          have HZ := hid hz
          have HZ0 := hid hz0
          clear hz hz0
          go_wp2_with (first
            | (with_reducible refine wpList_load_row rfl 76 _ rfl (w.heap.size + 1) rfl 76 (UC (sched bs)) (0, 0) _ hh Try.underlying76 rfl (by rw [HZ.out]; kernel_rfl) ?_)
            | (with_reducible refine wpList_store_row rfl 76 _ _ rfl w.heap.size (UC (sched bs)) rfl rfl 76 _ h0 (by rw [HZ.out]; kernel_rfl) (by rw [HZ.out, HZ0.out]) (UC_one _) ?_))
          exact bodyPost_ret (v := .agg (UC (sched bs))) (results_cell_row rfl _ _ w.heap.size 76 (UC (sched bs)) (0, 0) _ rfl (setRow_heap _ _ _ _ _ _ h0) Try.underlying76 rfl (by rw [HZ.out]; kernel_rfl)) rfl ⟨rfl, hb3.trans (below_row _ (Nat.le_refl _) _)⟩
end Go.Proofs.Ytijohbohdceggaa
