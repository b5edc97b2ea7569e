/- CodecReads: the walk. -/
import Derived.Test.YtoimmmcmlbaenaaRead
import Derived.Deep.RegionHeld3
namespace Go.Proofs.Ytoimmmcmlbaenaa
open Go.RowKit

theorem flat_len (f : Nat → List Value) (hf : ∀ i, (f i).length = 4) (n : Nat) : ((List.range n).flatMap f).length = n * 4 := by
  induction n with
  | zero => rfl
  | succ n ih => rw [List.range_succ, List.flatMap_append, List.length_append, ih]; simp [hf n]; omega
theorem flat_get (f : Nat → List Value) (hf : ∀ i, (f i).length = 4) : ∀ (n k j : Nat), k < n → j < 4 → ((List.range n).flatMap f)[k * 4 + j]? = (f k)[j]?
  | 0, _, _, h, _ => absurd h (by omega)
  | n + 1, k, j, h, hj => by
    rw [List.range_succ, List.flatMap_append]
    have hl := flat_len f hf n
    by_cases hk : k < n
    · rw [List.getElem?_append_left (by rw [hl]; omega)]
      exact flat_get f hf n k j hk hj
    · obtain rfl : k = n := by omega
      rw [List.getElem?_append_right (by rw [hl]; omega), hl]
      have e : k * 4 + j - k * 4 = j := by omega
      rw [e]
      simp
theorem OutIs_cells {w : World} {B : Nat} {v : Value} {vs : Nat → Value} {F : Nat → Int × ByteArray × List ByteArray × ByteArray × Int} {n k : Nat} (h : OutIs w B v vs F n) (hk : k < n) :
    ∃ g cap, v = .slice (some ⟨g, 0, none⟩) n cap ∧ B ≤ g ∧ g < w.heap.size ∧ w.cell? ⟨g, k * 4, none⟩ = some (.int .i64 (F k).1) ∧ w.cell? ⟨g, k * 4 + 1, none⟩ = some (.string (F k).2.1) ∧ w.cell? ⟨g, k * 4 + 2, none⟩ = some (vs k) ∧ w.cell? ⟨g, k * 4 + 3, none⟩ = some (.int .i64 (F k).2.2.2.2) := by
  obtain ⟨g, cap, rfl, _⟩ := World.ownsRow.form h.own (by omega)
  have hlt := World.ownsRow.lt h.own g rfl
  have hc : ∀ j, j < 4 → w.cell? ⟨g, k * 4 + j, none⟩ = (resL (F k) (vs k))[j]? := fun j hj => by
    rw [World.ownsRow.cellAt h.own (k * 4 + j) (by omega), flat_get _ (fun i => rfl) n k j hk hj]
  exact ⟨g, cap, rfl, hlt.1, hlt.2, hc 0 (by omega), hc 1 (by omega), hc 2 (by omega), hc 3 (by omega)⟩

/-- The reader and the reference go the same way. -/
theorem step_same {s rest : ByteArray} {K N : Nat → Int} {k : Nat} {E : Int} (hE : E = (stA s K N k).2) (hr : E = 0 → rest = (stA s K N k).1) :
    ((rRes (K k) (N k) rest E).1 = (outA s K N k).1 ∧ (rRes (K k) (N k) rest E).2.1 = (outA s K N k).2.1 ∧ (rRes (K k) (N k) rest E).2.2.1 = (outA s K N k).2.2.1 ∧ (rRes (K k) (N k) rest E).2.2.2.2 = (outA s K N k).2.2.2.2)
    ∧ (rRes (K k) (N k) rest E).2.2.2.2 = (stA s K N (k + 1)).2 ∧ ((rRes (K k) (N k) rest E).2.2.2.2 = 0 → (rRes (K k) (N k) rest E).2.2.2.1 = (stA s K N (k + 1)).1) := by
  have e1 : (stA s K N (k + 1)).1 = if (outA s K N k).2.2.2.2 = 0 then (outA s K N k).2.2.2.1 else (stA s K N k).1 := rfl
  have e2 : (stA s K N (k + 1)).2 = (outA s K N k).2.2.2.2 := rfl
  by_cases h0 : E = 0
  · have ho : outA s K N k = rRes (K k) (N k) rest E := by unfold outA; rw [← hE, hr h0]
    rw [e1, e2, ho]
    exact ⟨⟨rfl, rfl, rfl, rfl⟩, rfl, fun h => by rw [if_pos h]⟩
  · have hne : (stA s K N k).2 ≠ 0 := by rw [← hE]; exact h0
    have ho : outA s K N k = (if K k = 6 then (stA s K N k).2 else 0, ⟨#[]⟩, [], (stA s K N k).1, (stA s K N k).2) := rRes_err _ _ _ hne
    rw [e2, ho, rRes_err _ _ _ h0, ← hE]
    exact ⟨⟨rfl, rfl, rfl, rfl⟩, rfl, fun h => absurd h h0⟩

theorem rRes_len (k n : Int) (s : ByteArray) (e : Int) : (rRes k n s e).2.2.1.length ≤ s.size := by
  by_cases he : e = 0
  · subst he
    unfold rRes
    repeat' split
    all_goals first
      | exact Nat.zero_le _
      | (rcases rTexts_or s with h | ⟨h, _⟩
         · have hr : rTexts s 0 = ((rTexts s 0).1, (rTexts s 0).2.1, 0) := Prod.ext rfl (Prod.ext rfl h)
           have := (rTexts_good hr).2
           show (rTexts s 0).1.length ≤ s.size
           omega
         · show (rTexts s 0).1.length ≤ s.size
           rw [h]; exact Nat.zero_le _)
  · rw [rRes_err k n s he]
    exact Nat.zero_le _
set_option maxRecDepth 100000 in
set_option maxHeartbeats 8000000 in
theorem reads_any (s : ByteArray) (vc : Value) (n : Nat) (K N : Nat → Int) (w : World) (hv : CallsN w vc n K N) :
    Calls Try.prog 4 #[.string s, vc] w
      fun e w' => e = .returned (.bool true) ∧ Below w.heap.size w w' := by
  have HV := hid hv
  obtain ⟨base, cap, rfl, hcells⟩ := hv
  have HC := hid hcells
  clear hcells
  by_cases hs : 2000 < s.size
  · go_enter Try.func4, Try.ntmps4
    go_wp2_with fail
    refine (awake_any w).mono ?_
    rintro e w1 ⟨rfl, hb1⟩
    have K1 := hid hb1
    clear hb1
    go_wp2_with fail
    go_ret
    exact ⟨rfl, K1.out⟩
  by_cases hn : 30 < n
  · go_enter Try.func4, Try.ntmps4
    go_wp2_with fail
    refine (awake_any w).mono ?_
    rintro e w1 ⟨rfl, hb1⟩
    have K1 := hid hb1
    clear hb1
    go_wp2_with fail
    go_ret
    exact ⟨rfl, K1.out⟩
  go_enter Try.func4, Try.ntmps4
  go_wp2_with fail
  refine (awake_any w).mono ?_
  rintro e w1 ⟨rfl, hb1⟩
  have K1 := hid hb1
  clear hb1
  go_wp2_with fail
  refine (cnew_any s w1).mono ?_
  rintro e w2 ⟨rfl, hR2, hb2⟩
  have hGw := K1.out.size
  have hb2w := K1.out.trans (hb2.mono K1.out.size)
  generalize w1.heap.size = G at hR2 hGw ⊢
  have hGl := Reader_lt hR2
  have K2 := hid (And.intro hb2w (And.intro hR2 (And.intro hGw hGl)))
  clear hb2 hb2w hR2 hGw hGl
  go_wp2_with fail
  refine (read_any s _ n K N w2 (CallsN_below HV.out K2.out.1) (by omega) (by omega)).mono ?_
  rintro e w3 ⟨⟨v, vs, rfl, hout⟩, hb3⟩
  obtain ⟨bv, cv, rfl⟩ := own_slice hout.own
  have K3 := hid (And.intro hout (And.intro (ReaderIs_below K2.out.2.1 hb3) (K2.out.1.trans (hb3.mono K2.out.1.size))))
  clear hout hb3
  go_wp2_with fail
  go_loopw [26] (fun i wr => ∃ (k : Nat) (rest : ByteArray) (E : Int), k ≤ n ∧ i = .int .i64 (k : Int) ∧ ReaderIs wr G rest E ∧ E = (stA s K N k).2 ∧ (E = 0 → rest = (stA s K N k).1) ∧ rest.size ≤ s.size ∧ w3.grownBy wr (some G)) (fun i _ => n - (intOf i).toNat)
  case atStart => exact ⟨0, s, 0, by omega, rfl, K3.out.2.1, rfl, fun _ => rfl, Nat.le_refl _, World.grownBy.refl _ _⟩
  case round =>
    obtain ⟨k, rest, E, hk, rfl, hR, hE, hr, hrs, hg⟩ := hrel
    by_cases hlt : k < n
    · obtain ⟨b, o, rfl, hc0, hc1⟩ := HC.out k hlt
      have hb : Below w.heap.size w wr := K3.out.2.2.trans (below_of_gb hg K3.out.2.2.size K2.out.2.2.1)
      have hd0 := (hb.cell (p := ⟨b, o + k * 2, none⟩) (block_lt_any hc0)).trans hc0
      have hd1 := (hb.cell (p := ⟨b, o + k * 2 + 1, none⟩) (block_lt_any hc1)).trans hc1
      obtain ⟨⟨s1, s2, s3, s4⟩, s5, s6⟩ := step_same hE hr
      obtain ⟨g, cg, hvg, hBg, hgl, o0, o1, o2, o3⟩ := OutIs_cells K3.out.1 hlt
      injection hvg with hvg1 _ hvg2
      subst hvg1 hvg2
      have hgG : g ≠ G := by have := K2.out.2.2.2; omega
      rw [← s1] at o0
      rw [← s2] at o1
      rw [← s4] at o3
      have hlk := (K3.out.1.lists k hlt).1
      rw [← s3] at hlk
      have hc := fun (W : World) (h : ReaderIs W G rest E) => result_any (K k) (N k) G rest E W h (by omega)
      have hsz := rRes_size (K k) (N k) rest E
      have hll := rRes_len (K k) (N k) rest E
      generalize hst : stA s K N (k + 1) = st at s5 s6
      generalize rRes (K k) (N k) rest E = x at o0 o1 o3 hlk hc hsz hll s5 s6
      obtain ⟨a, t, l, s', e'⟩ := x
      simp only at o0 o1 o3 hlk hc hsz hll s5 s6
      obtain ⟨bk, ck, hvk⟩ := own_slice hlk
      rw [hvk] at o2 hlk
      have p0 := (gb_cell hg hgl hgG).trans o0
      have p1 := (gb_cell hg hgl hgG).trans o1
      have p2 := (gb_cell hg hgl hgG).trans o2
      have p3 := (gb_cell hg hgl hgG).trans o3
      generalize K k = kk at hc0 hd0 hc
      generalize N k = nn at hc1 hd1 hc
      have HX := hid (And.intro hc (And.intro hlk (And.intro s5 (And.intro s6 hst))))
      have KR := hid (And.intro hR (And.intro hg hb))
      clear hc hlk s1 s2 s3 s4 s5 s6 hst hc0 hc1 hR hg hb o0 o1 o2 o3 hvk hE hr hgG hBg
      have hal := (Below.refl wr.heap.size wr).alloc (Nat.le_refl _) (.cells #[.int .i64 a, .string t, .slice bk l.length ck, .int .i64 e'] 39)
      have hnw := heap_alloc_new wr (.cells #[.int .i64 a, .string t, .slice bk l.length ck, .int .i64 e'] 39)
      have hwsz : (wr.alloc (.cells #[.int .i64 a, .string t, .slice bk l.length ck, .int .i64 e'] 39)).heap.size = wr.heap.size + 1 := by simp
      have hKR1 := ReaderIs_below KR.out.1 hal
      have hG3 : G < w3.heap.size := Reader_lt K3.out.2.1
      have hO1 : OwnS (wr.alloc (.cells #[.int .i64 a, .string t, .slice bk l.length ck, .int .i64 e'] 39)) w2.heap.size (.slice bk l.length ck) l := World.ownsRow.alloc (OwnS_gb HX.out.2.1 KR.out.2.1 K2.out.2.2.2) _
      have hbw1 : Below w.heap.size w (wr.alloc (.cells #[.int .i64 a, .string t, .slice bk l.length ck, .int .i64 e'] 39)) := KR.out.2.2.trans (hal.mono KR.out.2.2.size)
      have hg31 : w3.grownBy (wr.alloc (.cells #[.int .i64 a, .string t, .slice bk l.length ck, .int .i64 e'] 39)) (some G) := gb_alloc KR.out.2.1 _
      go_wp2_with fail
      have z0 := (hal.cell (p := ⟨b, o + k * 2, none⟩) (block_lt_any hd0)).trans hd0
      have z1 := (hal.cell (p := ⟨b, o + k * 2 + 1, none⟩) (block_lt_any hd1)).trans hd1
      have hwl := KR.out.2.2.size
      have hbG : b ≠ G := by
        have h0 := HC.out k hlt
        obtain ⟨b', o', e1, h1, _⟩ := h0
        injection e1 with e1
        injection e1 with e1 _
        have := block_lt_any h1
        have h9 := K2.out.2.2.1
        have h8 : b' < w.heap.size := this
        omega
      generalize hC : (wr.alloc (.cells #[.int .i64 a, .string t, .slice bk l.length ck, .int .i64 e'] 39)) = W1 at hnw hwsz hKR1 hO1 hbw1 hg31 z0 z1 ⊢
      have y0 := cell_of_row W1 wr.heap.size 0 _ _ _ hnw
      have y1 := cell_of_row W1 wr.heap.size 1 _ _ _ hnw
      have y2 := cell_of_row W1 wr.heap.size 2 _ _ _ hnw
      have y3 := cell_of_row W1 wr.heap.size 3 _ _ _ hnw
      have hwG : wr.heap.size ≠ G := by have := KR.out.2.1.size; omega
      have hbl : b < W1.heap.size := block_lt_any z0
      have hwl1 : wr.heap.size < W1.heap.size := by omega
      have KW := hid (And.intro hKR1 (And.intro hO1 (And.intro hbw1 hg31)))
      clear hal hC hnw hKR1 hO1 hbw1 hg31 hd0 hd1 p0 p1 p2 p3
      go_region_held3 (fun w' => w'.cell? ⟨b, o + k * 2, none⟩ = some (.int .i64 kk) ∧ w'.cell? ⟨b, o + k * 2 + 1, none⟩ = some (.int .i64 nn) ∧ w'.cell? ⟨wr.heap.size, 0, none⟩ = some (.int .i64 a) ∧ w'.cell? ⟨wr.heap.size, 1, none⟩ = some (.string t) ∧ w'.cell? ⟨wr.heap.size, 2, none⟩ = some (.slice bk l.length ck) ∧ w'.cell? ⟨wr.heap.size, 3, none⟩ = some (.int .i64 e')) (first | go_keep | exact ⟨u0', u1', u2', u3', u4', u5'⟩ | exact ⟨z0', z1', y0', y1', y2', y3'⟩ | exact ⟨z0, z1, y0, y1, y2, y3⟩ | (refine ⟨?_, ?_, ?_, ?_, ?_, ?_⟩ <;> assumption)) ((first | (go_at_call 23; refine Calls.mono (HX.out.1 _ (by exact KW.out.1)) ?_; rintro e w4 ⟨⟨v4, rfl, ho4⟩, hR4, hg5⟩; have hg4 : W1.grownBy w4 (some G) := ⟨hg5.os, hg5.tape, hg5.output, hg5.size, hg5.block⟩; clear hg5; have z0' := (gb_cell (o := o + k * 2) hg4 hbl hbG).trans z0; have z1' := (gb_cell (o := o + k * 2 + 1) hg4 hbl hbG).trans z1; have y0' := (gb_cell (o := 0) hg4 hwl1 hwG).trans y0; have y1' := (gb_cell (o := 1) hg4 hwl1 hwG).trans y1; have y2' := (gb_cell (o := 2) hg4 hwl1 hwG).trans y2; have y3' := (gb_cell (o := 3) hg4 hwl1 hwG).trans y3) | (go_at_call 22; refine Calls.mono (same_any a t e' _ (.slice bk l.length ck) l _ (by exact OwnS_StrS ho4) (by exact OwnS_StrS (OwnS_gb KW.out.2.1 hg4 K2.out.2.2.2)) (by omega)) ?_; rintro e w5 ⟨rfl, hb5⟩; have u0' := (hb5.cell (p := ⟨b, o + k * 2, none⟩) (block_lt_any z0')).trans z0'; have u1' := (hb5.cell (p := ⟨b, o + k * 2 + 1, none⟩) (block_lt_any z1')).trans z1'; have u2' := (hb5.cell (p := ⟨wr.heap.size, 0, none⟩) (block_lt_any y0')).trans y0'; have u3' := (hb5.cell (p := ⟨wr.heap.size, 1, none⟩) (block_lt_any y1')).trans y1'; have u4' := (hb5.cell (p := ⟨wr.heap.size, 2, none⟩) (block_lt_any y2')).trans y2'; have u5' := (hb5.cell (p := ⟨wr.heap.size, 3, none⟩) (block_lt_any y3')).trans y3')))
      have K5 := hid (And.intro (show ReaderIs w5 G s' e' from ReaderIs_below hR4 hb5) (show w3.grownBy w5 (some G) from gb_below (gb_trans KW.out.2.2.2 hg4) hb5))
      clear hR4 hb5 hg4 ho4
      go_wp2_with fail
      exact ⟨⟨k + 1, s', e', by omega, by go_num, K5.out.1, by rw [HX.out.2.2.2.2]; exact HX.out.2.2.1, by rw [HX.out.2.2.2.2]; exact HX.out.2.2.2.1, by omega, K5.out.2⟩, by simp [intOf]; omega⟩
    · obtain rfl : k = n := by omega
      have KB := hid (K3.out.2.2.trans (below_of_gb hg K3.out.2.2.size K2.out.2.2.1))
      clear hR hE hr hrs hg
      go_wp2_with fail
      go_ret
      exact ⟨rfl, KB.out⟩
end Go.Proofs.Ytoimmmcmlbaenaa
