/- The reference's schedule. -/
import Derived.Test.YtijohbohdceggaaRefK
import Derived.Test.YtijohbohdceggaaMoveTail
namespace Go.Proofs.Ytijohbohdceggaa
open Go.RowKit
attribute [local go_sem ↓ high] u_and u_or u_xor u_not u_add shl_rule shr_rule shl_lit shr_lit u_byte

theorem rotr_lit (x : BitVec 32) (n : Nat) (w : World) (h0 : 0 < n) (h1 : n < 32) :
    Calls Try.prog 41 #[.int .u32 (u x), .int .i64 (OfNat.ofNat n)] w fun e w' => e = .returned (.int .u32 (u (x.rotateRight n))) ∧ ∃ k, w' = w.drewN k := rotr_nat x n w h0 h1

theorem infoU32 : (Try.prog.info? 52).map (fun i => (i.zero, i.size, i.bytes)) = some (some (.int .u32 0), 1, 4) := by kernel_rfl
/-- The cells of words. -/
def wordCells (l : List (BitVec 32)) : List Value := l.map fun x => Value.int .u32 (u x)
theorem wordCells_get (l : List (BitVec 32)) (k : Nat) (h : k < l.length) : (wordCells l)[k]? = some (.int .u32 (u (l.getD k 0))) := by
  simp [wordCells, List.getD, h]
theorem alloc_le {B : Nat} {w : World} (h : B ≤ w.heap.size) (o : Obj) : B ≤ (w.alloc o).heap.size := by simp; omega
theorem one_word (x : BitVec 32) : ∀ v ∈ [Value.int .u32 (u x)], v.oneCell' = true := fun v hv => by
  rw [List.mem_singleton] at hv
  subst hv
  rfl
/-- An owned row of words, its slice written out, its words read. -/
theorem own_words {w : World} {base : Nat} {v : Value} {n : Nat} {l : List (BitVec 32)} (h : w.ownsRow base 52 1 v n (wordCells l)) (hn : 0 < n) :
    ∃ g cap, v = .slice (some ⟨g, 0, none⟩) n cap ∧ base ≤ g ∧ g < w.heap.size ∧ l.length = n ∧ ∀ k, k < n → w.cell? ⟨g, k, none⟩ = some (.int .u32 (u (l.getD k 0))) := by
  obtain ⟨g, cap, rfl, hb, hg⟩ := h.form hn
  have hl : l.length = n := by have := h.1; simp [wordCells] at this; omega
  refine ⟨g, cap, rfl, hb, hg, hl, fun k hk => ?_⟩
  rw [h.cellAt k (by omega)]
  exact wordCells_get l k (by omega)
theorem own_base_any {w : World} {base : Nat} {e : TypeId} {size : Nat} {v : Value} {n : Nat} {xs : List Value} (h : w.ownsRow base e size v n xs) : ∀ k, v.ownBlock = some k → base ≤ k := own_base h
theorem own_empty32 (w : World) (base : Nat) (h : base ≤ w.heap.size) : (w.alloc (.cells #[] 52)).ownsRow base 52 1 (.slice (some ⟨w.heap.size, 0, none⟩) 0 0) 0 (wordCells []) :=
  own_empty w base 52 h

set_option maxRecDepth 100000 in
set_option maxHeartbeats 4000000 in
theorem refschedule_any (s : ByteArray) (w : World) (hs : s.size = 64) :
    Calls Try.prog 39 #[.string s] w
      fun e w' => (∃ v, e = .returned v ∧ w'.ownsRow w.heap.size 52 1 v 64 (wordCells (sched s.data.toList))) ∧ Below w.heap.size w w' := by
  obtain ⟨i0, hi, hz0, hz1, hz2⟩ := info_parts infoU32
  have HS := hid hs
  have hsz : (s.size : Int) = 64 := by omega
  clear hs
  go_enter Try.func39, Try.ntmps39
  go_wp2_with fail
  have hown := own_empty32 w w.heap.size (Nat.le_refl _)
  have hb : Below w.heap.size w (w.alloc (.cells #[] 52)) := (Below.refl _ _).alloc (Nat.le_refl _) _
  generalize w.alloc (.cells #[] 52) = w1 at hown hb
  go_loopw [3, 4] (fun t i wr => ∃ k : Nat, k ≤ 16 ∧ i = .int .i64 ((4 * k : Nat) : Int) ∧ wr.ownsRow w.heap.size 52 1 t k (wordCells (firstW s.data.toList k)) ∧ Below w.heap.size w wr) (fun _ i _ => 64 - (intOf i).toNat)
  case atStart => exact ⟨0, by omega, rfl, hown, hb⟩
  case round =>
    obtain ⟨k, hk, rfl, ho, hbw⟩ := hrel
    by_cases hlt : k < 16
    · have ix : ∀ j, j < 4 → ∀ w, (Instr.index 9 (.string s) (.int .i64 ((4 * k + j : Nat) : Int))).run Try.prog w = .ok (.int .u8 ((s.data.toList.getD (4 * k + j) 0).toNat : Int)) w := fun j hj w => run_index_str s (4 * k + j) (by have := HS.out; omega) w
      have i0' := ix 0 (by omega)
      have i1 := ix 1 (by omega)
      have i2 := ix 2 (by omega)
      have i3 := ix 3 (by omega)
      rw [show ((4 * k + 0 : Nat) : Int) = 4 * (k : Int) by omega] at i0'
      rw [show ((4 * k + 1 : Nat) : Int) = 4 * (k : Int) + 1 by omega] at i1
      rw [show ((4 * k + 2 : Nat) : Int) = 4 * (k : Int) + 2 by omega] at i2
      rw [show ((4 * k + 3 : Nat) : Int) = 4 * (k : Int) + 3 by omega] at i3
      have hnx := firstW_succ s.data.toList k
      rw [show ((4 * k : Nat) : Int) = 4 * (k : Int) by omega]
      simp only [Nat.add_zero] at i0'
      clear ix
      generalize s.data.toList.getD (4 * k) 0 = b0 at i0' hnx
      generalize s.data.toList.getD (4 * k + 1) 0 = b1 at i1 hnx
      generalize s.data.toList.getD (4 * k + 2) 0 = b2 at i2 hnx
      generalize s.data.toList.getD (4 * k + 3) 0 = b3 at i3 hnx
      have hcs : wordCells (firstW s.data.toList (k + 1)) = wordCells (firstW s.data.toList k) ++ [.int .u32 (u (word4 b0 b1 b2 b3))] := by rw [hnx]; simp [wordCells]
      have KO := hid (And.intro ho (And.intro hbw hcs))
      have q1 : IntKind.i64.wrap (4 * (k : Int) + 1) = 4 * (k : Int) + 1 := IntWalk.i64_in _ (by omega)
      have q2 : IntKind.i64.wrap (4 * (k : Int) + 2) = 4 * (k : Int) + 2 := IntWalk.i64_in _ (by omega)
      have q3 : IntKind.i64.wrap (4 * (k : Int) + 3) = 4 * (k : Int) + 3 := IntWalk.i64_in _ (by omega)
      clear ho hbw hcs hnx hown hb
      go_wp2_with fail
      refine wp_region_move_tail 25 (.tmp 3) (by kernel_rfl) (by kernel_rfl) rfl rfl u3 rfl (fun _ _ _ h => h) ?_
      simp only [List.take_succ_cons, List.take_zero, List.drop_succ_cons, List.drop_zero]
      simp only [Act.put, List.setIfInBounds_toArray, List.set_cons_succ, List.set_cons_zero]
      repeat (go_big_quiet_step (fail))
      refine wpQuiet_nil ?_
      intro _ hw'
      obtain ⟨nq, hx⟩ := hw'
      subst hx
      go_wp2_with (at_builtin; refine wpList_append_own _ rfl _ _ 53 rfl w.heap.size 52 i0 (.int .u32 0) 1 4 Try.underlying53 hi hz0 hz1 hz2 rfl (by decide) _ _ _ rfl (World.ownsRow.alloc KO.out.1 _) ⟨wr.heap.size, 0, none⟩ 1 1 _ rfl rfl (cell_one_new _ _ _) (one_word _) (by unfold maxLen; omega) (by omega) (alloc_le KO.out.2.1.size _) ?_; intro v' w3 hown' hgrow3 hnil3)
      have hb2 : Below w.heap.size w w3 := Below.grown ((below_drawn KO.out.2.1 _).alloc KO.out.2.1.size _) hgrow3 (alloc_le KO.out.2.1.size _) (own_base KO.out.1)
      refine ⟨⟨k + 1, by omega, by go_num, by rw [KO.out.2.2]; exact hown', hb2⟩, by simp [intOf]; omega⟩
    · obtain rfl : k = 16 := by omega
      rw [show ((4 * 16 : Nat) : Int) = 64 from rfl]
      have KW := hid hbw
      have KO := hid ho
      clear hbw ho hown hb
      go_wp2_with fail
      go_loopw [3, 5] (fun t i wr => ∃ k : Nat, k ≤ 48 ∧ i = .int .i64 (16 + (k : Int)) ∧ wr.ownsRow w.heap.size 52 1 t (16 + k) (wordCells (iterW k (firstW s.data.toList 16))) ∧ Below w.heap.size w wr) (fun _ i _ => 64 - (intOf i).toNat)
      case atStart => exact ⟨0, by omega, rfl, KO.out, KW.out⟩
      case round =>
        clear KO KW
        obtain ⟨k, hk, rfl, ho, hbw⟩ := hrel
        by_cases hlt : k < 48
        · obtain ⟨g, cap, rfl, hbg, hgl, hll, hcell⟩ := own_words ho (by omega)
          have c15 := hcell (k + 1) (by omega)
          have c2 := hcell (k + 14) (by omega)
          have c7 := hcell (k + 9) (by omega)
          have c16 := hcell k (by omega)
          have hstep : iterW (k + 1) (firstW s.data.toList 16) = stepW (iterW k (firstW s.data.toList 16)) := rfl
          unfold stepW at hstep
          rw [hll, show 16 + k - 2 = k + 14 by omega, show 16 + k - 7 = k + 9 by omega, show 16 + k - 15 = k + 1 by omega, show 16 + k - 16 = k by omega] at hstep
          generalize (iterW k (firstW s.data.toList 16)).getD (k + 1) 0 = x15 at c15 hstep
          generalize (iterW k (firstW s.data.toList 16)).getD (k + 14) 0 = x2 at c2 hstep
          generalize (iterW k (firstW s.data.toList 16)).getD (k + 9) 0 = x7 at c7 hstep
          generalize (iterW k (firstW s.data.toList 16)).getD k 0 = x16 at c16 hstep
          have hcs : wordCells (iterW (k + 1) (firstW s.data.toList 16)) = wordCells (iterW k (firstW s.data.toList 16)) ++ [.int .u32 (u (rot2s 17 19 10 x2 + x7 + rot2s 7 18 3 x15 + x16))] := by rw [hstep]; simp [wordCells]
          have p15 : (16 + (k : Int) - 15).toNat = k + 1 := by omega
          have p2 : (16 + (k : Int) - 2).toNat = k + 14 := by omega
          have p7 : (16 + (k : Int) - 7).toNat = k + 9 := by omega
          have p16 : (16 + (k : Int) - 16).toNat = k := by omega
          have q15 : IntKind.i64.wrap (16 + (k : Int) - 15) = 16 + (k : Int) - 15 := IntWalk.i64_in _ (by omega)
          have q2 : IntKind.i64.wrap (16 + (k : Int) - 2) = 16 + (k : Int) - 2 := IntWalk.i64_in _ (by omega)
          have q7 : IntKind.i64.wrap (16 + (k : Int) - 7) = 16 + (k : Int) - 7 := IntWalk.i64_in _ (by omega)
          have q16 : IntKind.i64.wrap (16 + (k : Int) - 16) = 16 + (k : Int) - 16 := IntWalk.i64_in _ (by omega)
          have KO := hid (And.intro ho (And.intro hbw hcs))
          clear ho hbw hcs hstep hcell
          go_wp2_with fail
          go_quiet (fail)
          go_wp2_with fail
          refine (rotr_lit x15 7 _ (by decide) (by decide)).mono ?_
          rintro e w4 ⟨rfl, n4, rfl⟩
          go_wp2_with fail
          refine (rotr_lit x15 18 _ (by decide) (by decide)).mono ?_
          rintro e w5 ⟨rfl, n5, rfl⟩
          go_wp2_with fail
          refine (rotr_lit x2 17 _ (by decide) (by decide)).mono ?_
          rintro e w6 ⟨rfl, n6, rfl⟩
          go_wp2_with fail
          refine (rotr_lit x2 19 _ (by decide) (by decide)).mono ?_
          rintro e w7 ⟨rfl, n7, rfl⟩
          go_wp2_with fail
          generalize h1 : x15.rotateRight 7 ^^^ x15.rotateRight 18 ^^^ x15 >>> 3 = s0
          generalize h2 : x2.rotateRight 17 ^^^ x2.rotateRight 19 ^^^ x2 >>> 10 = s1
          have KS := hid (And.intro h1 h2)
          clear h1 h2
          refine wp_region_move_tail 15 (.tmp 3) (by kernel_rfl) (by kernel_rfl) rfl rfl (.slice (some ⟨g, 0, none⟩) (16 + k) cap) rfl (fun _ _ _ h => h) ?_
          simp only [List.take_succ_cons, List.take_zero, List.drop_succ_cons, List.drop_zero]
          simp only [Act.put, List.setIfInBounds_toArray, List.set_cons_succ, List.set_cons_zero]
          repeat (go_big_quiet_step (fail))
          refine wpQuiet_nil ?_
          intro _ hw'
          obtain ⟨nq, hx⟩ := hw'
          subst hx
          clear c15 c2 c7 c16 p15 p2 p7 p16 q15 q2 q7 q16
          go_wp2_with (at_builtin; refine wpList_append_own _ rfl _ _ 53 rfl w.heap.size 52 i0 (.int .u32 0) 1 4 Try.underlying53 hi hz0 hz1 hz2 rfl (by decide) _ _ _ rfl (World.ownsRow.alloc KO.out.1 _) ⟨wr.heap.size, 0, none⟩ 1 1 _ rfl rfl (cell_one_new _ _ _) (one_word _) (by unfold maxLen; omega) (by omega) (alloc_le KO.out.2.1.size _) ?_; intro v' w3 hown' hgrow3 hnil3)
          have hb2 : Below w.heap.size w w3 := Below.grown ((below_drawn KO.out.2.1 _).alloc KO.out.2.1.size _) hgrow3 (alloc_le KO.out.2.1.size _) (own_base KO.out.1)
          have KN := hid (And.intro hown' hb2)
          clear hown' hgrow3 hnil3 hb2
          go_wp2_with fail
          go_roundw
          case rel => exact ⟨k + 1, by omega, by go_num, by rw [KO.out.2.2]; unfold rot2s; rw [KS.out.1, KS.out.2]; exact KN.out.1, KN.out.2⟩
          case measure => simp [intOf]; omega
        · obtain rfl : k = 48 := by omega
          have KO := hid (And.intro ho hbw)
          clear ho hbw
          go_wp2_with fail
          go_ret
          exact ⟨⟨_, rfl, KO.out.1⟩, KO.out.2⟩
end Go.Proofs.Ytijohbohdceggaa
