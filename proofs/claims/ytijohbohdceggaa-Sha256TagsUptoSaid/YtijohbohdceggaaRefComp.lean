/- The reference's compress. -/
import Derived.Test.YtijohbohdceggaaRefSched
namespace Go.Proofs.Ytijohbohdceggaa
open Go.RowKit
attribute [local go_sem ↓ high] u_and u_or u_xor u_not u_add shl_rule shr_rule shl_lit shr_lit u_byte
attribute [local go_sem high] u_unot

theorem rotr6 (x : BitVec 32) (w : World) : Calls Try.prog 41 #[.int .u32 (u x), .int .i64 6] w fun e w' => e = .returned (.int .u32 (u (x.rotateRight 6))) ∧ ∃ k, w' = w.drewN k := rotr_nat x 6 w (by decide) (by decide)
theorem rotr11 (x : BitVec 32) (w : World) : Calls Try.prog 41 #[.int .u32 (u x), .int .i64 11] w fun e w' => e = .returned (.int .u32 (u (x.rotateRight 11))) ∧ ∃ k, w' = w.drewN k := rotr_nat x 11 w (by decide) (by decide)
theorem rotr25 (x : BitVec 32) (w : World) : Calls Try.prog 41 #[.int .u32 (u x), .int .i64 25] w fun e w' => e = .returned (.int .u32 (u (x.rotateRight 25))) ∧ ∃ k, w' = w.drewN k := rotr_nat x 25 w (by decide) (by decide)
theorem rotr2 (x : BitVec 32) (w : World) : Calls Try.prog 41 #[.int .u32 (u x), .int .i64 2] w fun e w' => e = .returned (.int .u32 (u (x.rotateRight 2))) ∧ ∃ k, w' = w.drewN k := rotr_nat x 2 w (by decide) (by decide)
theorem rotr13 (x : BitVec 32) (w : World) : Calls Try.prog 41 #[.int .u32 (u x), .int .i64 13] w fun e w' => e = .returned (.int .u32 (u (x.rotateRight 13))) ∧ ∃ k, w' = w.drewN k := rotr_nat x 13 w (by decide) (by decide)
theorem rotr22 (x : BitVec 32) (w : World) : Calls Try.prog 41 #[.int .u32 (u x), .int .i64 22] w fun e w' => e = .returned (.int .u32 (u (x.rotateRight 22))) ∧ ∃ k, w' = w.drewN k := rotr_nat x 22 w (by decide) (by decide)

/-- v is a slice of the words l. -/
def WordsAt (w : World) (g : Nat) (l : List (BitVec 32)) : Prop := ∀ k, k < l.length → w.cell? ⟨g, k, none⟩ = some (.int .u32 (u (l.getD k 0)))
theorem WordsAt_lt {w : World} {g : Nat} {l : List (BitVec 32)} (h : WordsAt w g l) (hl : 0 < l.length) : g < w.heap.size := block_lt_of_cell (h 0 hl)
theorem WordsAt_below {w w' : World} {g : Nat} {l : List (BitVec 32)} (h : WordsAt w g l) (hl : 0 < l.length) (hb : Below w.heap.size w w') : WordsAt w' g l :=
  fun k hk => (hb.cell (p := ⟨g, k, none⟩) (WordsAt_lt h hl)).trans (h k hk)
theorem WordsAt_new (w : World) (l : List (BitVec 32)) : WordsAt (w.alloc (.cells (UC l) 52)) w.heap.size l := fun k hk =>
  (cell_of_row _ _ _ _ _ _ (heap_alloc_new w _)).trans (UC_get l k hk)

set_option maxRecDepth 100000 in
set_option maxHeartbeats 1600000 in
theorem refcompress_any (s : S8) (b : ByteArray) (g cap : Nat) (w : World) (hb : b.size = 64) (hc : WordsAt w g s.list) :
    Calls Try.prog 29 #[.slice (some ⟨g, 0, none⟩) 8 cap, .string b] w
      fun e w' => (∃ g', e = .returned (.slice (some ⟨g', 0, none⟩) 8 8) ∧ w.heap.size ≤ g' ∧ WordsAt w' g' (comp s b.data.toList).list) ∧ Below w.heap.size w w' := by
  go_enter Try.func29, Try.ntmps29
  go_wp2_with fail
  refine (refschedule_any b w hb).mono ?_
  rintro e w1 ⟨⟨v, rfl, ho⟩, hb1⟩
  have hc1 := WordsAt_below hc (show 0 < 8 by decide) hb1
  obtain ⟨gs, cs, rfl, hgs, hgl, hll, hws⟩ := own_words ho (by omega)
  clear ho hc hll hgs
  go_wp2_with fail
  refine (refconstants_any w1).mono ?_
  rintro e w2 ⟨rfl, hw2⟩
  have hb12 : Below w1.heap.size w1 w2 := by rw [hw2]; exact (Below.refl _ _).alloc (Nat.le_refl _) _
  have hk2 : WordsAt w2 w1.heap.size KL := by rw [hw2]; exact WordsAt_new w1 KL
  have hc2 := WordsAt_below hc1 (show 0 < 8 by decide) hb12
  have hs2 : ∀ k, k < 64 → w2.cell? ⟨gs, k, none⟩ = some (.int .u32 (u ((sched b.data.toList).getD k 0))) := fun k hk => (hb12.cell (p := ⟨gs, k, none⟩) hgl).trans (hws k hk)
  have hb2 := hb1.trans (hb12.mono hb1.size)
  generalize w1.heap.size = gk at hk2 ⊢
  clear hw2 hws hc1 hb1 hb12 hgl
  have c0 : w2.cell? ⟨g, 0, none⟩ = some (.int .u32 (u s.a)) := hc2 0 (show 0 < 8 by decide)
  have c1 : w2.cell? ⟨g, 1, none⟩ = some (.int .u32 (u s.b)) := hc2 1 (show 1 < 8 by decide)
  have c2 : w2.cell? ⟨g, 2, none⟩ = some (.int .u32 (u s.c)) := hc2 2 (show 2 < 8 by decide)
  have c3 : w2.cell? ⟨g, 3, none⟩ = some (.int .u32 (u s.d)) := hc2 3 (show 3 < 8 by decide)
  have c4 : w2.cell? ⟨g, 4, none⟩ = some (.int .u32 (u s.e)) := hc2 4 (show 4 < 8 by decide)
  have c5 : w2.cell? ⟨g, 5, none⟩ = some (.int .u32 (u s.f)) := hc2 5 (show 5 < 8 by decide)
  have c6 : w2.cell? ⟨g, 6, none⟩ = some (.int .u32 (u s.g)) := hc2 6 (show 6 < 8 by decide)
  have c7 : w2.cell? ⟨g, 7, none⟩ = some (.int .u32 (u s.h)) := hc2 7 (show 7 < 8 by decide)
  have KA := hid (And.intro hk2 (And.intro hs2 hb2))
  have KC := hid (And.intro c0 (And.intro c1 (And.intro c2 (And.intro c3 (And.intro c4 (And.intro c5 (And.intro c6 c7)))))))
  clear hk2 hs2 hb2 hc2
  go_wp2_with fail
  go_quiet (fail)
  clear c0 c1 c2 c3 c4 c5 c6 c7
  go_wp2_with fail
  go_loopw [7, 8, 9, 10, 11, 12, 13, 14, 15] (fun va vb vc vd ve vf vg vh i wr => ∃ k : Nat, k ≤ 64 ∧ i = .int .i64 k ∧ va = .int .u32 (u (iterS (sched b.data.toList) k s).a) ∧ vb = .int .u32 (u (iterS (sched b.data.toList) k s).b) ∧ vc = .int .u32 (u (iterS (sched b.data.toList) k s).c) ∧ vd = .int .u32 (u (iterS (sched b.data.toList) k s).d) ∧ ve = .int .u32 (u (iterS (sched b.data.toList) k s).e) ∧ vf = .int .u32 (u (iterS (sched b.data.toList) k s).f) ∧ vg = .int .u32 (u (iterS (sched b.data.toList) k s).g) ∧ vh = .int .u32 (u (iterS (sched b.data.toList) k s).h) ∧ ∃ n, wr = w2.drewN n) (fun _ _ _ _ _ _ _ _ i _ => 64 - (intOf i).toNat)
  case atStart => exact ⟨0, by omega, rfl, rfl, rfl, rfl, rfl, rfl, rfl, rfl, rfl, _, rfl⟩
  case round =>
    obtain ⟨k, hk, rfl, rfl, rfl, rfl, rfl, rfl, rfl, rfl, rfl, hrw⟩ := hrel
    by_cases hlt : k < 64
    · have hck : wr.cell? ⟨gk, k, none⟩ = some (.int .u32 (u (KL.getD k 0))) := by obtain ⟨n, rfl⟩ := hrw; exact KA.out.1 k hlt
      have hcw : wr.cell? ⟨gs, k, none⟩ = some (.int .u32 (u ((sched b.data.toList).getD k 0))) := by obtain ⟨n, rfl⟩ := hrw; exact KA.out.2.1 k hlt
      have KR := hid hrw
      clear hrw
      have hnext : iterS (sched b.data.toList) (k + 1) s = stepS (KL.getD k 0) ((sched b.data.toList).getD k 0) (iterS (sched b.data.toList) k s) := rfl
      generalize iterS (sched b.data.toList) k s = S at hnext ⊢
      generalize (sched b.data.toList).getD k 0 = wk at hcw hnext
      generalize KL.getD k 0 = kk at hck hnext
      obtain ⟨sa, sb, sc, sd, se, sf, sg, sh⟩ := S
      have KN := hid hnext
      clear hnext
      have R6 := hid (show ∀ n, Calls Try.prog 41 #[.int .u32 (u se), .int .i64 6] (wr.drewN n) (fun e w'' => e = .returned (.int .u32 (u (se.rotateRight 6))) ∧ ∃ m, w'' = wr.drewN m) from fun n => Calls.quiet_of (rotr6 se _))
      have R11 := hid (show ∀ n, Calls Try.prog 41 #[.int .u32 (u se), .int .i64 11] (wr.drewN n) (fun e w'' => e = .returned (.int .u32 (u (se.rotateRight 11))) ∧ ∃ m, w'' = wr.drewN m) from fun n => Calls.quiet_of (rotr11 se _))
      have R25 := hid (show ∀ n, Calls Try.prog 41 #[.int .u32 (u se), .int .i64 25] (wr.drewN n) (fun e w'' => e = .returned (.int .u32 (u (se.rotateRight 25))) ∧ ∃ m, w'' = wr.drewN m) from fun n => Calls.quiet_of (rotr25 se _))
      go_wp2_with fail
      go_quiet ((go_at_call 41; first | (with_reducible exact R6.out _) | (with_reducible exact R11.out _) | (with_reducible exact R25.out _)))
      clear hck hcw
      go_wp2_with fail
      refine (rotr2 sa _).mono ?_
      rintro e w4 ⟨rfl, n4, rfl⟩
      go_wp2_with fail
      refine (rotr13 sa _).mono ?_
      rintro e w5 ⟨rfl, n5, rfl⟩
      go_wp2_with fail
      refine (rotr22 sa _).mono ?_
      rintro e w6 ⟨rfl, n6, rfl⟩
      go_wp2_with fail
      go_roundw
      case rel => 
        obtain ⟨nr, hnr⟩ := KR.out
        exact ⟨k + 1, by omega, by go_num, by rw [KN.out]; rfl, by rw [KN.out]; rfl, by rw [KN.out]; rfl, by rw [KN.out]; rfl, by rw [KN.out]; rfl, by rw [KN.out]; rfl, by rw [KN.out]; rfl, by rw [KN.out]; rfl, _, by rw [hnr, World.drewN_drewN]⟩
      case measure => simp [intOf]; omega
    · obtain rfl : k = 64 := by omega
      have hcomp : comp s b.data.toList = addS s (iterS (sched b.data.toList) 64 s) := rfl
      generalize iterS (sched b.data.toList) 64 s = T at hcomp ⊢
      rw [show ((64 : Nat) : Int) = 64 from rfl]
      have hbr : Below w.heap.size w wr := by obtain ⟨n, rfl⟩ := hrw; exact below_drawn KA.out.2.2 n
      have hall : wr.cell? ⟨g, 0, none⟩ = some (.int .u32 (u s.a)) ∧ wr.cell? ⟨g, 1, none⟩ = some (.int .u32 (u s.b)) ∧ wr.cell? ⟨g, 2, none⟩ = some (.int .u32 (u s.c)) ∧ wr.cell? ⟨g, 3, none⟩ = some (.int .u32 (u s.d)) ∧ wr.cell? ⟨g, 4, none⟩ = some (.int .u32 (u s.e)) ∧ wr.cell? ⟨g, 5, none⟩ = some (.int .u32 (u s.f)) ∧ wr.cell? ⟨g, 6, none⟩ = some (.int .u32 (u s.g)) ∧ wr.cell? ⟨g, 7, none⟩ = some (.int .u32 (u s.h)) := by obtain ⟨n, rfl⟩ := hrw; exact KC.out
      obtain ⟨c0, c1, c2, c3, c4, c5, c6, c7⟩ := hall
      have KE := hid (And.intro hcomp hbr)
      clear hcomp hbr hrw
      go_wp2_with fail
      refine wp_region_quiet_tail 40 (by kernel_rfl) (by kernel_rfl) ?_
      simp only [List.take_succ_cons, List.take_zero, List.drop_succ_cons, List.drop_zero]
      repeat (go_big_quiet_step (fail))
      refine wpQuiet_nil ?_
      intro _ hw'
      obtain ⟨nq, hx⟩ := hw'
      subst hx
      clear c0 c1 c2 c3 c4 c5 c6 c7
      go_wp2_with fail
      go_ret
      refine ⟨⟨_, rfl, ?_, ?_⟩, ?_⟩
      · exact KE.out.2.size
      · rw [KE.out.1]
        exact WordsAt_new (wr.drewN _) (addS s T).list
      · exact (below_drawn KE.out.2 _).alloc KE.out.2.size _
end Go.Proofs.Ytijohbohdceggaa
