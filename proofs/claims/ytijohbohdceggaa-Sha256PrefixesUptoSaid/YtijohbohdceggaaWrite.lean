/- Write. -/
import Derived.Test.YtijohbohdceggaaDigest
namespace Go.Proofs.Ytijohbohdceggaa
open Go.RowKit

def strLen : Value → Nat
  | .string b => b.size
  | _ => 0

theorem wpList_copy_strV {P : Program} {ops : Array Oper} {rest : List Oper} {o : Oper} {a : Act} {w : World} {Q : Exit → Act → World → Prop} (hgd : o.guard = none) (d s : Operand) (dT sT : TypeId)
    (ho : o.op = .call { callee := .builtin .copy, args := #[d, s], argTypes := #[dT, sT] }) (elem : TypeId) (hu : P.underlying dT = some (.slice elem)) (hsz : (P.info? elem).map (·.size) = some 1)
    (g off dLen dCap : Nat) (t : TypeId) (str : ByteArray) (cur : List Value) (hd : a.eval d = .slice (some ⟨g, off, none⟩) dLen dCap) (hs : a.eval s = .string str)
    (hg : w.heap[g]? = some (.cells cur.toArray t (0, 0))) (hfit : off + dLen ≤ cur.length)
    (h : Stop (∀ w2 (c : Nat), Kpt (c = Nat.min str.size dLen) → w2.heap[g]? = some (.cells (part cur off (byteCells (str.data.toList.take c))).toArray t (0, 0)) → w.grownBy w2 (some g) →
      wpList P ops Q rest (a.put o.dst (.int .i64 (c : Int))) w2)) :
    wpList P ops Q (o :: rest) a w :=
  wpList_copy_str hgd d s dT sT ho elem hu hsz g off dLen dCap t str cur hd hs hg hfit
    (h _ _ ⟨rfl⟩ (setRow_heap _ _ _ _ _ _ hg) (gb_row (World.grownBy.refl _ _) _))

theorem slice_from (g n : Nat) (w : World) (hn : n < 64) : (Instr.sliceAt 65 (.pointer (some ⟨g, 8, none⟩)) (some (.int .u64 (n : Int))) none none).run Try.prog w =
    .ok (.slice (some ⟨g, 8 + n, none⟩) (64 - n) (64 - n)) w := by
  rw [run_sliceAt_array_l w _ _ (show Try.prog.underlying 65 = some (.array (Try.prog.arrayLen 65) (Try.prog.elem 65)) by kernel_rfl) .u64 _ (by omega) (by rw [show Try.prog.arrayLen 65 = 64 by kernel_rfl]; omega)]
  rw [show Try.prog.arrayLen 65 = 64 by kernel_rfl, show ((sizeOf (Try.prog.elem 65)).run Try.prog w) = .ok 1 w by kernel_rfl]
  have e1 : (n : Int).toNat = n := by omega
  simp only [Result.andThen, slicedAt, e1, if_neg (show ¬ 64 = n by omega), Nat.mul_one, Addr.add_lit]

theorem slice_rem (g N : Nat) (w : World) : (Instr.sliceAt 65 (.pointer (some ⟨g, 8, none⟩)) (some (.int .u64 ((N : Int) % 64))) none none).run Try.prog w =
    .ok (.slice (some ⟨g, 8 + N % 64, none⟩) (64 - N % 64) (64 - N % 64)) w := by
  have := slice_from g (N % 64) w (Nat.mod_lt _ (by omega))
  rwa [show ((N % 64 : Nat) : Int) = (N : Int) % 64 by omega] at this

theorem compress_lit (a b c d e f g' h : BitVec 32) (bs : List UInt8) (g o : Nat) (w : World) (hc : ∀ j, j < 64 → w.cell? ⟨g, o + j, none⟩ = some (.int .u8 ((bs.getD j 0).toNat : Int))) :
    Calls Try.prog 35 #[.agg #[.int .u32 (u a), .int .u32 (u b), .int .u32 (u c), .int .u32 (u d), .int .u32 (u e), .int .u32 (u f), .int .u32 (u g'), .int .u32 (u h)], .pointer (some ⟨g, o, none⟩)] w
      fun e' w' => e' = .returned (.agg (UC (comp ⟨a, b, c, d, e, f, g', h⟩ bs).list)) ∧ Below w.heap.size w w' :=
  compress_any ⟨a, b, c, d, e, f, g', h⟩ bs g o w hc

/-- What stands after a part of a string was copied into the block. -/
theorem copied {w : World} {g : Nat} {m c : List UInt8} {blk : List UInt8} (hl : blk.length = 64) (h : m.length % 64 + c.length ≤ 64)
    (hg : w.heap[g]? = some (.cells (hcells (stateOf m) (partB blk (m.length % 64) c) m.length).toArray 67 (0, 0))) :
    (w.setCell ⟨g, 72, none⟩ (.int .u64 ((m.length : Int) + (c.length : Int)))).heap[g]? = some (.cells (hcells (stateOf m) (partB blk (m.length % 64) c) (m ++ c).length).toArray 67 (0, 0)) := by
  rw [heap_setCell_same _ _ _ _ _ _ hg, show ((m.length : Int) + (c.length : Int)) = ((m ++ c).length : Int) by simp, set_len _ _ _ _ (by rw [partB_length _ _ _ (by omega), hl])]

theorem copied_less {w : World} {g : Nat} {m c : List UInt8} {blk : List UInt8} (hl : blk.length = 64) (ht : blk.take (m.length % 64) = tailOf m) (h : m.length % 64 + c.length < 64)
    (hg : w.heap[g]? = some (.cells (hcells (stateOf m) (partB blk (m.length % 64) c) (m ++ c).length).toArray 67 (0, 0))) : HashIs w g (m ++ c) := by
  refine ⟨partB blk (m.length % 64) c, by rw [partB_length _ _ _ (by omega), hl], ?_, by rw [state_less m c h]; exact hg⟩
  rw [tail_less m c h, ← ht, show (m ++ c).length % 64 = m.length % 64 + c.length by simp; omega]
  have e : (blk.take (m.length % 64) ++ c).length = m.length % 64 + c.length := by simp; omega
  rw [partB, List.take_append_of_le_length (by omega), List.take_of_length_le (by omega)]

theorem copied_full {w : World} {g : Nat} {m c : List UInt8} {blk : List UInt8} (hl : blk.length = 64) (ht : blk.take (m.length % 64) = tailOf m) (h : m.length % 64 + c.length = 64)
    (hg : w.heap[g]? = some (.cells (hcells (comp (stateOf m) (partB blk (m.length % 64) c)) (partB blk (m.length % 64) c) (m ++ c).length).toArray 67 (0, 0))) : HashIs w g (m ++ c) := by
  have e : partB blk (m.length % 64) c = tailOf m ++ c := by
    unfold partB
    rw [List.drop_eq_nil_of_le (by omega), List.append_nil, ht]
  refine ⟨partB blk (m.length % 64) c, by rw [partB_length _ _ _ (by omega), hl], ?_, by rw [state_full m c h, ← e]; exact hg⟩
  rw [tail_full m c h, show (m ++ c).length % 64 = 0 by simp; omega]
  rfl

set_option maxRecDepth 100000 in
set_option maxHeartbeats 1000000 in
theorem write_any (g : Nat) (m : List UInt8) (s : ByteArray) (w : World) (h : HashIs w g m) (hb : m.length + s.size < 4611686018427387904) :
    Calls Try.prog 21 #[.pointer (some ⟨g, 0, none⟩), .string s] w
      fun e w' => e = .returned (.tuple #[]) ∧ HashIs w' g (m ++ s.data.toList) ∧ w.grownBy w' (some g) := by
  go_enter Try.func21, Try.ntmps21
  go_wp2_with fail
  go_loopw [1] (fun v wr => ∃ (t : ByteArray) (m' : List UInt8), v = .string t ∧ m' ++ t.data.toList = m ++ s.data.toList ∧ HashIs wr g m' ∧ w.grownBy wr (some g)) (fun v _ => strLen v)
  case atStart => exact ⟨s, m, rfl, rfl, h, World.grownBy.refl _ _⟩
  case round =>
    obtain ⟨t, m', rfl, hmt, hH, hgr⟩ := hrel
    by_cases h0 : 0 < t.size
    · have hlen : m'.length + t.size < 4611686018427387904 := by
        have := congrArg List.length hmt
        simp only [List.length_append, Array.length_toList] at this
        have e1 : t.data.size = t.size := rfl
        have e2 : s.data.size = s.size := rfl
        omega
      obtain ⟨blk, hbl, hbt, hg⟩ := hH
      have hN : m'.length % 64 < 64 := Nat.mod_lt _ (by omega)
      have hsl := slice_rem g m'.length wr
      have hcell := (cell_of_row wr g 72 _ _ _ hg).trans (by simpa using hcells_len (stateOf m') blk m'.length hbl)
      have hfit : 8 + m'.length % 64 + (64 - m'.length % 64) ≤ (hcells (stateOf m') blk m'.length).length := by rw [hcells_length _ _ _ hbl]; omega
      have KM := hid (And.intro hmt (And.intro hgr hbt))
      clear hmt hgr h hbt hb
      go_wp2_with (with_reducible refine wpList_copy_strV rfl _ _ 34 9 rfl 5 Try.underlying34 (by kernel_rfl) g (8 + m'.length % 64) (64 - m'.length % 64) (64 - m'.length % 64) 67 t _ rfl rfl hg hfit ?_)
      unfold Stop
      intro w2 c ⟨hc⟩ hg2 hgr2
      have hc0 : 0 < c := by rw [hc]; exact (Nat.lt_min.2 ⟨h0, by omega⟩)
      have hc1 : c ≤ t.size := by rw [hc]; exact Nat.min_le_left _ _
      have hc2 : c ≤ 64 - m'.length % 64 := by rw [hc]; exact Nat.min_le_right _ _
      have hcl : (t.data.toList.take c).length = c := by rw [List.length_take, Array.length_toList]; show min c t.size = c; omega
      rw [part_bytes _ _ _ _ _ (by rw [hcl, hbl]; omega)] at hg2
      have hbl2 : (partB blk (m'.length % 64) (t.data.toList.take c)).length = 64 := by rw [partB_length _ _ _ (by rw [hcl, hbl]; omega), hbl]
      have hcell2 := (cell_of_row w2 g 72 _ _ _ hg2).trans (by simpa using hcells_len (stateOf m') _ m'.length hbl2)
      have hf2 := frozen_of_row w2 g 72 _ _ hg2
      have hc1' : (c : Int) ≤ (t.size : Int) := by omega
      have hc0' : 0 ≤ (c : Int) := by omega
      have KC := hid (And.intro hc (And.intro hcl hbl2))
      clear hc hcl hbl2 hcell hsl hfit hg
      have hw : (t.extract c t.size).data.toList = t.data.toList.drop c := by
        simp [ByteArray.data_extract]
        exact List.take_of_length_le (by rw [List.length_drop, Array.length_toList]; exact Nat.le_refl _)
      have hs3 : (t.extract c t.size).size < t.size := by simp; omega
      have HW := hid (And.intro hw hs3)
      clear hw hs3
      by_cases hfull : m'.length % 64 + c = 64
      · have hq : (((m'.length : Int) + (c : Int)) % 64 == 0) = true := by rw [beq_iff_eq]; omega
        go_wp2_with fail
        obtain ⟨hc, hcl, hbl2⟩ := KC.out
        obtain ⟨hmt, hgr, hbt⟩ := KM.out
        have h3 := copied (c := t.data.toList.take c) hbl (by omega) hg2
        rw [hcl] at h3
        have hgr3 := gb_set (gb_trans hgr hgr2) (p := ⟨g, 72, none⟩) (Or.inl rfl) (.int .u64 ((m'.length : Int) + (c : Int)))
        have hend : (m' ++ t.data.toList.take c) ++ (t.extract c t.size).data.toList = m ++ s.data.toList := by
          rw [HW.out.1, List.append_assoc, List.take_append_drop, hmt]
        have hlt3 := HW.out.2
        have hgw : g < w2.heap.size := (Array.getElem?_eq_some_iff.1 hg2).1
        generalize w2.setCell ⟨g, 72, none⟩ (.int .u64 ((m'.length : Int) + (c : Int))) = w3 at h3 hgr3
        have hg3 : g < w3.heap.size := (Array.getElem?_eq_some_iff.1 h3).1
        have later : ∀ x : Later w3, x.now.heap[g]? = some (.cells (hcells (stateOf m') (partB blk (m'.length % 64) (t.data.toList.take c)) (m' ++ t.data.toList.take c).length).toArray 67 (0, 0)) :=
          fun x => (x.since.block g hg3).trans h3
        have sc := fun (j : Nat) (v : BitVec 32) (hj : (stateOf m').list[j]? = some v) (x : Later w3) => show x.now.cell? ⟨g, j, none⟩ = some (.int .u32 (u v)) from
          (cell_of_row _ _ _ _ _ _ (later x)).trans (by simpa using hcells_word _ _ _ j v hj)
        have s0 := sc 0 (stateOf m').a rfl
        have s1 := sc 1 (stateOf m').b rfl
        have s2 := sc 2 (stateOf m').c rfl
        have s3 := sc 3 (stateOf m').d rfl
        have s4 := sc 4 (stateOf m').e rfl
        have s5 := sc 5 (stateOf m').f rfl
        have s6 := sc 6 (stateOf m').g rfl
        have s7 := sc 7 (stateOf m').h rfl
        have call := fun x : Later w3 => Calls.later_of (compress_lit (stateOf m').a (stateOf m').b (stateOf m').c (stateOf m').d (stateOf m').e (stateOf m').f (stateOf m').g (stateOf m').h (partB blk (m'.length % 64) (t.data.toList.take c)) g 8 x.now
          (fun j hj => (cell_of_row _ _ _ _ _ _ (later x)).trans (by simpa using hcells_byte _ _ _ j (by omega))))
        have CALL := hid call
        have K3 := hid (And.intro later (And.intro hgr3 (And.intro hend hlt3)))
        have KF := hid (fun (x : World) => copied_full (w := x) (g := g) hbl hbt (c := t.data.toList.take c) (by omega))
        clear sc call later h3 hgr3 hend hlt3 hc hcl hmt hgr hbt hg2 hgr2 hcell2 hf2 hq
        refine wp_region_later_tail 11 (by kernel_rfl) (by kernel_rfl) ?_
        simp only [List.take_succ_cons, List.take_zero, List.drop_succ_cons, List.drop_zero]
        repeat (go_big_quiet_step ((go_at_call 35; with_reducible exact CALL.out _)))
        refine wpQuiet_nil ?_
        intro _ hw'
        obtain ⟨x, hx⟩ := hw'
        subst hx
        obtain ⟨later, hgr3, hend, hlt3⟩ := K3.out
        refine wpList_store_part rfl 64 _ _ rfl g 0 _ rfl rfl 67 _ (later x) (by rw [UC_size]; kernel_rfl) (by rw [UC_size, hcells_length _ _ _ KC.out.2.2]; show 0 + 8 ≤ 73; decide) (UC_one _) ?_
        rw [part_words]
        dsimp only [Act.put]
        have hH := KF.out _ (setRow_heap x.now g _ (hcells (comp (stateOf m') (partB blk (m'.length % 64) (t.data.toList.take c))) (partB blk (m'.length % 64) (t.data.toList.take c)) (m' ++ t.data.toList.take c).length).toArray _ _ (later x))
        have hG := gb_row (gb_below hgr3 x.since) (hcells (comp (stateOf m') (partB blk (m'.length % 64) (t.data.toList.take c))) (partB blk (m'.length % 64) (t.data.toList.take c)) (m' ++ t.data.toList.take c).length).toArray
        clear later hgr3
        generalize x.now.setRow g _ = w5 at hH hG
        have HH := hid (And.intro hH (And.intro hG (And.intro hend hlt3)))
        clear hH hG hend hlt3
        go_wp2_with fail
        go_roundw
        case rel => exact ⟨_, _, rfl, HH.out.2.2.1, HH.out.1, HH.out.2.1⟩
        case measure => exact HH.out.2.2.2
      · have hq : (((m'.length : Int) + (c : Int)) % 64 == 0) = false := by rw [beq_eq_false_iff_ne]; omega
        go_wp2_with fail
        obtain ⟨hc, hcl, hbl2⟩ := KC.out
        obtain ⟨hmt, hgr, hbt⟩ := KM.out
        have h3 := copied (c := t.data.toList.take c) hbl (by omega) hg2
        rw [hcl] at h3
        refine ⟨⟨_, m' ++ t.data.toList.take c, rfl, ?_, copied_less hbl hbt (by omega) h3, gb_set (gb_trans hgr hgr2) (Or.inl rfl) _⟩, HW.out.2⟩
        rw [HW.out.1, List.append_assoc, List.take_append_drop, hmt]
    · have ht0 : t.data.toList = [] := by
        rw [← List.length_eq_zero_iff, Array.length_toList]; show t.size = 0; omega
      have h00 : t.size = 0 := by omega
      have hb0 : ¬ (0 < (t.size : Int)) := by omega
      rw [ht0, List.append_nil] at hmt
      have HM := hid (And.intro hmt (And.intro hH hgr))
      clear hmt hH hgr ht0 h
      go_wp2_with fail
      go_end0
      exact ⟨rfl, by rw [← HM.out.1]; exact HM.out.2.1, HM.out.2.2⟩
end Go.Proofs.Ytijohbohdceggaa
