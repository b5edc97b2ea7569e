/- The compression of a block. -/
import Derived.Test.YtijohbohdceggaaSched
namespace Go.Proofs.Ytijohbohdceggaa
open Go.RowKit
attribute [local go_sem ↓ high] u_and u_or u_xor u_not u_unot u_add shl_rule shr_rule shl_lit shr_lit u_byte
attribute [local go_sem high] u_unot

/-- Eight words. -/
structure S8 where
  a : BitVec 32
  b : BitVec 32
  c : BitVec 32
  d : BitVec 32
  e : BitVec 32
  f : BitVec 32
  g : BitVec 32
  h : BitVec 32
def S8.list (s : S8) : List (BitVec 32) := [s.a, s.b, s.c, s.d, s.e, s.f, s.g, s.h]
/-- The first sum of a step. -/
def tone (s : S8) (k w : BitVec 32) : BitVec 32 := s.h + rot3 6 11 25 s.e + (s.e &&& s.f ^^^ ~~~s.e &&& s.g) + k + w
/-- The second one. -/
def ttwo (s : S8) : BitVec 32 := rot3 2 13 22 s.a + (s.a &&& s.b ^^^ s.a &&& s.c ^^^ s.b &&& s.c)
/-- One step. -/
def stepS (k w : BitVec 32) (s : S8) : S8 := ⟨tone s k w + ttwo s, s.a, s.b, s.c, s.d + tone s k w, s.e, s.f, s.g⟩
def iterS (ws : List (BitVec 32)) : Nat → S8 → S8
  | 0, s => s
  | n + 1, s => stepS (KL.getD n 0) (ws.getD n 0) (iterS ws n s)
def addS (s t : S8) : S8 := ⟨s.a + t.a, s.b + t.b, s.c + t.c, s.d + t.d, s.e + t.e, s.f + t.f, s.g + t.g, s.h + t.h⟩
def Z8 : List (BitVec 32) := List.replicate 8 0
/-- The state after a block. -/
def comp (s : S8) (bs : List UInt8) : S8 := addS s (iterS (sched bs) 64 s)

/-- The sums of which the first j are made. -/
def mixS (s t : S8) (j : Nat) : List (BitVec 32) := (List.range 8).map fun i => if i < j then s.list.getD i 0 + t.list.getD i 0 else s.list.getD i 0
theorem eight {j : Nat} (h : j < 8) : j = 0 ∨ j = 1 ∨ j = 2 ∨ j = 3 ∨ j = 4 ∨ j = 5 ∨ j = 6 ∨ j = 7 := by omega
theorem mix_get (s t : S8) (j : Nat) (h : j < 8) : (UC (mixS s t j))[j]? = some (.int .u32 (u (s.list.getD j 0))) := by
  rcases eight h with rfl | rfl | rfl | rfl | rfl | rfl | rfl | rfl <;> rfl
theorem mix_set (s t : S8) (j : Nat) (h : j < 8) : (UC (mixS s t j)).setIfInBounds j (.int .u32 (u (s.list.getD j 0 + t.list.getD j 0))) = UC (mixS s t (j + 1)) := by
  rcases eight h with rfl | rfl | rfl | rfl | rfl | rfl | rfl | rfl <;> rfl
theorem mix_end (s t : S8) : mixS s t 8 = (addS s t).list := rfl
theorem mix_start (s t : S8) : mixS s t 0 = s.list := rfl
theorem index8 (S : S8) (w : World) (j : Nat) (h : j < 8) : (Instr.index 64 (.agg #[.int .u32 (u S.a), .int .u32 (u S.b), .int .u32 (u S.c), .int .u32 (u S.d), .int .u32 (u S.e), .int .u32 (u S.f), .int .u32 (u S.g), .int .u32 (u S.h)]) (.int .i64 (j : Int))).run Try.prog w =
    .ok (.int .u32 (u (S.list.getD j 0))) w := by
  rcases eight h with rfl | rfl | rfl | rfl | rfl | rfl | rfl | rfl <;> kernel_rfl

set_option maxRecDepth 100000 in
set_option maxHeartbeats 1000000 in
theorem compress_any (s : S8) (bs : List UInt8) (g o : Nat) (w : World) (hc : ∀ j, j < 64 → w.cell? ⟨g, o + j, none⟩ = some (.int .u8 ((bs.getD j 0).toNat : Int))) :
    Calls Try.prog 35 #[.agg (UC s.list), .pointer (some ⟨g, o, none⟩)] w
      fun e w' => e = .returned (.agg (UC (comp s bs).list)) ∧ Below w.heap.size w w' := by
  have hg : g < w.heap.size := block_lt_of_cell (hc 0 (by omega))
  have HC := hid hc
  clear hc
  go_enter Try.func35, Try.ntmps35
  go_wp2_with (with_reducible refine wpList_run_alloc rfl 64 rfl (UC Z8) (by kernel_rfl) ?_)
  obtain ⟨w1, hw1⟩ : ∃ w1, w1 = (w.alloc (.cells (UC s.list) 64)).alloc (.cells (UC Z8) 64) := ⟨_, rfl⟩
  have hs1 : w1.heap[w.heap.size]? = some (.cells (UC s.list) 64 (0, 0)) := by rw [hw1]; exact heap_alloc2_old w _ _
  have hz1 : w1.heap[w.heap.size + 1]? = some (.cells (UC Z8) 64 (0, 0)) := by rw [hw1]; exact heap_alloc2_new w _ _
  have hn1 : w.heap.size + 2 = w1.heap.size := by rw [hw1]; simp
  have hb1 : Below w.heap.size w w1 := by rw [hw1]; exact ((Below.refl _ _).alloc (Nat.le_refl _) _).alloc (by simp) _
  rw [← hw1]
  clear hw1
  replace hn1 : w.heap.size + 2 ≤ w1.heap.size := by omega
  refine (constants_any _).mono ?_
  rintro e w2 ⟨rfl, rfl⟩
  go_wp2_with fail
  have hcell : ∀ j, j < 64 → (w1.alloc (.cells (UC KL) 76)).cell? ⟨g, o + j, none⟩ = some (.int .u8 ((bs.getD j 0).toNat : Int)) := by
    intro j hj
    rw [← HC.out j hj, ← hb1.cell (p := ⟨g, o + j, none⟩) hg]
    exact ((Below.refl w1.heap.size w1).alloc (Nat.le_refl _) _).cell (p := ⟨g, o + j, none⟩) (by show g < _; omega)
  have hb2 := (Below.refl w1.heap.size w1).alloc (Nat.le_refl _) (.cells (UC KL) 76)
  generalize w1.alloc (.cells (UC KL) 76) = wx at hcell hb2
  refine (schedule_any bs g o wx hcell).mono ?_
  clear hcell
  rintro e w2 ⟨rfl, hb3⟩
  replace hb2 : Below w1.heap.size w1 w2 := hb2.trans (hb3.mono hb2.size)
  clear hb3
  have hn2 := hb2.size
  have hs2 : w2.heap[w.heap.size]? = some (.cells (UC s.list) 64 (0, 0)) := by rw [hb2.block _ (by omega)]; exact hs1
  have hz2 : w2.heap[w.heap.size + 1]? = some (.cells (UC Z8) 64 (0, 0)) := by rw [hb2.block _ (by omega)]; exact hz1
  have hB2 : Below w.heap.size w w2 := hb1.trans (hb2.mono (by omega))
  replace hn2 : w.heap.size + 2 ≤ w2.heap.size := by omega
  clear hs1 hz1 hb1 hb2 hn1 HC hg
  have HW := hid (show (UC (sched bs)).size = 64 by rw [UC_size, sched_length])
  go_wp2_with (first
    | (with_reducible refine wpList_run_alloc rfl 76 rfl (UC Z64) (by kernel_rfl) ?_) | (with_reducible refine stop_store 76 _ _ rfl ?_))
  have hk := heap_alloc2_old w2 (.cells (UC Z64) 76) (.cells (UC Z64) 76)
  have hw := heap_alloc2_new w2 (.cells (UC Z64) 76) (.cells (UC Z64) 76)
  have hb3 : Below w2.heap.size w2 ((w2.alloc (.cells (UC Z64) 76)).alloc (.cells (UC Z64) 76)) := ((Below.refl _ _).alloc (Nat.le_refl _) _).alloc (by simp) _
  generalize ((w2.alloc (.cells (UC Z64) 76)).alloc (.cells (UC Z64) 76)) = w3 at hk hw hb3
  unfold Stop
  refine wpList_store_row rfl 76 _ _ rfl w2.heap.size (UC KL) rfl rfl 76 _ hk (by kernel_rfl) (by kernel_rfl) (UC_one _) ?_
  refine wpList_store_row rfl 76 _ _ rfl (w2.heap.size + 1) (UC (sched bs)) rfl rfl 76 _ ((setRow_other _ _ _ _ (by omega)).trans hw) (by rw [HW.out]; kernel_rfl) (by rw [HW.out]; kernel_rfl) (UC_one _) ?_
  have hk4 : ((w3.setRow w2.heap.size (UC KL)).setRow (w2.heap.size + 1) (UC (sched bs))).heap[w2.heap.size]? = some (.cells (UC KL) 76 (0, 0)) :=
    (setRow_other _ _ _ _ (by omega)).trans (setRow_heap _ _ _ _ _ _ hk)
  have hw4 : ((w3.setRow w2.heap.size (UC KL)).setRow (w2.heap.size + 1) (UC (sched bs))).heap[w2.heap.size + 1]? = some (.cells (UC (sched bs)) 76 (0, 0)) :=
    setRow_heap _ _ _ _ _ _ ((setRow_other _ _ _ _ (by omega)).trans hw)
  have hb4 : Below w2.heap.size w2 ((w3.setRow w2.heap.size (UC KL)).setRow (w2.heap.size + 1) (UC (sched bs))) :=
    (hb3.trans (below_row _ (Nat.le_refl _) _)).trans (below_row _ (by omega) _)
  generalize ((w3.setRow w2.heap.size (UC KL)).setRow (w2.heap.size + 1) (UC (sched bs))) = w4 at hk4 hw4 hb4
  clear hk hw hb3
  have hs4 : w4.heap[w.heap.size]? = some (.cells (UC s.list) 64 (0, 0)) := by rw [hb4.block _ (by omega)]; exact hs2
  have hz4 : w4.heap[w.heap.size + 1]? = some (.cells (UC Z8) 64 (0, 0)) := by rw [hb4.block _ (by omega)]; exact hz2
  have hB4 : Below w.heap.size w w4 := hB2.trans (hb4.mono (by omega))
  have hl4 : w2.heap.size + 1 < w4.heap.size := (Array.getElem?_eq_some_iff.1 hw4).1
  clear hs2 hz2 hB2 hb4
  generalize w2.heap.size = N at hk4 hw4 hn2 hl4
  go_wp2_with fail
  refine (rotations_abs 2 13 22 w4).mono ?_
  rintro e w5 ⟨pa, pb, pc, rfl, hb1, ca, cb, cc, -, -, -⟩
  go_wp2_with fail
  refine (rotations_abs 6 11 25 w5).mono ?_
  rintro e w6 ⟨qa, qb, qc, rfl, hb2, da, db, dc, -, -, -⟩
  have ea := (hb2.cell (block_lt_of_cell ca)).trans ca
  have eb := (hb2.cell (block_lt_of_cell cb)).trans cb
  have ec := (hb2.cell (block_lt_of_cell cc)).trans cc
  have hz5 := hb1.size
  have hb6 : Below w4.heap.size w4 w6 := hb1.trans (hb2.mono hz5)
  have hs6 : w6.heap[w.heap.size]? = some (.cells (UC s.list) 64 (0, 0)) := by rw [hb6.block _ (by omega)]; exact hs4
  have hz6 : w6.heap[w.heap.size + 1]? = some (.cells (UC Z8) 64 (0, 0)) := by rw [hb6.block _ (by omega)]; exact hz4
  have hk6 : w6.heap[N]? = some (.cells (UC KL) 76 (0, 0)) := by rw [hb6.block _ (by omega)]; exact hk4
  have hw6 : w6.heap[N + 1]? = some (.cells (UC (sched bs)) 76 (0, 0)) := by rw [hb6.block _ (by omega)]; exact hw4
  have hB6 : Below w.heap.size w w6 := hB4.trans (hb6.mono hB4.size)
  have hn6 : w.heap.size + 2 ≤ w6.heap.size := by have := hb6.size; omega
  clear ca cb cc hb1 hb2 hz5 hb6 hs4 hz4 hk4 hw4 hB4 hl4
  have sc := fun j x (hj : s.list[j]? = some x) => show w6.cell? ⟨w.heap.size, j, none⟩ = some (.int .u32 (u x)) from (cell_of_row _ _ _ _ _ _ hs6).trans (by simp [UC, hj])
  have s0 := sc 0 s.a rfl
  have s1 := sc 1 s.b rfl
  have s2 := sc 2 s.c rfl
  have s3 := sc 3 s.d rfl
  have s4 := sc 4 s.e rfl
  have s5 := sc 5 s.f rfl
  have s6 := sc 6 s.g rfl
  have s7 := sc 7 s.h rfl
  clear sc
  go_wp2_with fail
  go_quiet (fail)
  clear s0 s1 s2 s3 s4 s5 s6 s7
  go_wp2_with fail
  go_loopw [9, 10, 11, 12, 13, 14, 15, 16, 43] (fun a b c d e f g h i wr => ∃ k n : Nat, k ≤ 64 ∧ i = .int .i64 k ∧
      (a = .int .u32 (u (iterS (sched bs) k s).a) ∧ b = .int .u32 (u (iterS (sched bs) k s).b) ∧ c = .int .u32 (u (iterS (sched bs) k s).c) ∧ d = .int .u32 (u (iterS (sched bs) k s).d) ∧
       e = .int .u32 (u (iterS (sched bs) k s).e) ∧ f = .int .u32 (u (iterS (sched bs) k s).f) ∧ g = .int .u32 (u (iterS (sched bs) k s).g) ∧ h = .int .u32 (u (iterS (sched bs) k s).h)) ∧ wr = w6.drewN n)
      (fun _ _ _ _ _ _ _ _ i _ => 64 - (intOf i).toNat)
  case atStart => exact ⟨0, nq, by omega, rfl, ⟨rfl, rfl, rfl, rfl, rfl, rfl, rfl, rfl⟩, rfl⟩
  case round =>
    obtain ⟨k, n, hk, rfl, ⟨rfl, rfl, rfl, rfl, rfl, rfl, rfl, rfl⟩, hwr⟩ := hrel
    obtain ⟨S, hS⟩ : ∃ S, S = iterS (sched bs) k s := ⟨_, rfl⟩
    rw [← hS]
    by_cases hlt : k < 64
    · have hsucc : iterS (sched bs) (k + 1) s = stepS (KL.getD k 0) ((sched bs).getD k 0) S := by rw [hS]; rfl
      have kc : wr.cell? ⟨N, k, none⟩ = some (.int .u32 (u (KL.getD k 0))) := by
        rw [hwr]; exact (cell_of_row w6 _ _ _ _ _ hk6).trans (UC_get _ _ hlt)
      have wc : wr.cell? ⟨N + 1, k, none⟩ = some (.int .u32 (u ((sched bs).getD k 0))) := by
        rw [hwr]; exact (cell_of_row w6 _ _ _ _ _ hw6).trans (UC_get _ _ (by rw [sched_length]; exact hlt))
      generalize KL.getD k 0 = kk at kc hsucc
      generalize (sched bs).getD k 0 = ww at wc hsucc
      have f1 := fun (x : BitVec 32) (n : Nat) => Calls.quiet_of (w := wr) (n := n) (rotations1_any x 6 11 25 qa qb qc (wr.drewN n) (by omega) (by omega) (by omega) (by omega) (by omega) (by omega) (by rw [hwr]; exact da) (by rw [hwr]; exact db) (by rw [hwr]; exact dc))
      have f0 := fun (x : BitVec 32) (n : Nat) => Calls.quiet_of (w := wr) (n := n) (rotations1_any x 2 13 22 pa pb pc (wr.drewN n) (by omega) (by omega) (by omega) (by omega) (by omega) (by omega) (by rw [hwr]; exact ea) (by rw [hwr]; exact eb) (by rw [hwr]; exact ec))
      have F1 := hid f1
      have F0 := hid f0
      have HS := hid hsucc
      have HR := hid hwr
      clear f1 f0 hsucc hwr hS
      go_wp2_with fail
      go_quiet ((go_at_call 48; first | (with_reducible exact F1.out _ _)))
      go_wp2_with fail
      refine (F0.out _ _).mono ?_
      rintro e w' ⟨rfl, m, rfl⟩
      go_wp2_with fail
      refine ⟨⟨k + 1, n + m, by omega, by go_num, ?_, ?_⟩, by simp [intOf]; omega⟩
      · rw [HS.out]; exact ⟨rfl, rfl, rfl, rfl, rfl, rfl, rfl, rfl⟩
      · rw [HR.out]; simp
    · obtain rfl : k = 64 := by omega
      have hS2 := hid hS
      have hs7 : wr.heap[w.heap.size]? = some (.cells (UC s.list) 64 (0, 0)) := by rw [hwr]; exact hs6
      have hz7 : wr.heap[w.heap.size + 1]? = some (.cells (UC Z8) 64 (0, 0)) := by rw [hwr]; exact hz6
      have hB7 : Below w.heap.size w wr := by rw [hwr]; exact ⟨hB6.os, hB6.tape, hB6.output, hB6.size, hB6.block⟩
      have hl7 : w.heap.size + 1 < wr.heap.size := (Array.getElem?_eq_some_iff.1 hz7).1
      clear hwr hS da db dc ea eb ec hs6 hz6 hk6 hw6 hB6 hn6 hk
      go_wp2_with fail
      go_loopw [105] (fun i wr2 => ∃ j : Nat, j ≤ 8 ∧ i = .int .i64 j ∧ RowRel w.heap.size 64 wr (UC (mixS s S j)) wr2) (fun i _ => 8 - (intOf i).toNat)
      case atStart => exact ⟨0, by omega, rfl, RR_start hs7⟩
      case round =>
        obtain ⟨j, hj, rfl, hT⟩ := hrel
        by_cases hlt2 : j < 8
        · have ix := index8 S wr j hlt2
          have cj := RR_cell hT (mix_get s S j hlt2)
          have fj := RR_free hT j
          have hset := mix_set s S j hlt2
          generalize s.list.getD j 0 = x at cj hset
          generalize S.list.getD j 0 = y at ix hset
          have HSET := hid hset
          clear hset
          go_wp2_with fail
          refine ⟨⟨j + 1, by omega, by go_num, ?_⟩, by simp [intOf]; omega⟩
          rw [← HSET.out]
          exact RR_set hT j _
        · obtain rfl : j = 8 := by omega
          have hs8 : wr.heap[w.heap.size]? = some (.cells (UC (comp s bs).list) 64 (0, 0)) := by
            rw [hT.2, mix_end, hS2.out]; rfl
          have hz8 : wr.heap[w.heap.size + 1]? = some (.cells (UC Z8) 64 (0, 0)) := by rw [gb_heap hT.1 hl7 (by omega)]; exact hz7
          have hB8 : Below w.heap.size w wr := hB7.trans (below_of_gb hT.1 hB7.size (Nat.le_refl _))
          clear hT hs7 hz7 hB7
          have HZ := hid (show (UC (comp s bs).list).size = 8 from rfl)
          go_wp2_with (first
            | (with_reducible refine wpList_load_row rfl 64 _ rfl w.heap.size rfl 64 (UC (comp s bs).list) (0, 0) _ hs8 Try.underlying64 rfl (by rw [HZ.out]; kernel_rfl) ?_)
            | (with_reducible refine wpList_store_row rfl 64 _ _ rfl (w.heap.size + 1) (UC (comp s bs).list) rfl rfl 64 _ hz8 (by rw [HZ.out]; kernel_rfl) ((show (UC Z8).size = 8 from rfl).trans HZ.out.symm) (UC_one _) ?_))
          exact bodyPost_ret (v := .agg (UC (comp s bs).list)) (results_cell_row rfl _ _ (w.heap.size + 1) 64 (UC (comp s bs).list) (0, 0) _ rfl (setRow_heap _ _ _ _ _ _ hz8) Try.underlying64 rfl (by rw [HZ.out]; kernel_rfl)) rfl ⟨rfl, hB8.trans (below_row _ (by omega) _)⟩
end Go.Proofs.Ytijohbohdceggaa
