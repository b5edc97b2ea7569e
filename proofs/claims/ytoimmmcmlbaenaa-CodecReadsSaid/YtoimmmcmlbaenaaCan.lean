/- CodecCanonical: the walk. -/
import Derived.Test.YtoimmmcmlbaenaaCanN
import Derived.Test.YtoimmmcmlbaenaaCFail
import Derived.Test.YtoimmmcmlbaenaaShB
namespace Go.Proofs.Ytoimmmcmlbaenaa
open Go.RowKit

theorem rRes_good {k n a : Int} {t : ByteArray} {l : List ByteArray} {s s' : ByteArray} (h : rRes k n s 0 = (a, t, l, s', 0)) :
    (k = 0 ∨ k = 3 → ∃ m : Nat, a = (m : Int) ∧ m < 9223372036854775808 ∧ s.data.toList = uvL m ++ s'.data.toList) ∧
    (k = 1 → (-9223372036854775808 ≤ a ∧ a ≤ 9223372036854775807) ∧ s.data.toList = uvL (zig a) ++ s'.data.toList) ∧
    (k = 2 → s.data.toList = encU t ++ s'.data.toList ∧ t.size ≤ s.size) ∧
    (k = 4 → s.data.toList = encT l ++ s'.data.toList ∧ l.length + sizes l ≤ s.size) ∧
    (k ≠ 0 ∧ k ≠ 1 ∧ k ≠ 2 ∧ k ≠ 3 ∧ k ≠ 4 → s' = s) := by
  unfold rRes at h
  by_cases h0 : k = 0
  · subst h0
    rw [if_pos rfl] at h
    injection h with h1 h; injection h with _ h; injection h with _ h
    have hr : rCount 9223372036854775807 s 0 = (a, s', 0) := Prod.ext h1 h
    exact ⟨fun _ => rCount_good hr, fun e => absurd e (by decide), fun e => absurd e (by decide), fun e => absurd e (by decide), fun e => absurd rfl e.1⟩
  rw [if_neg h0] at h
  by_cases h1 : k = 1
  · subst h1
    rw [if_pos rfl] at h
    injection h with h1 h; injection h with _ h; injection h with _ h
    have hr : rInt s 0 = (a, s', 0) := Prod.ext h1 h
    exact ⟨fun e => absurd e (by decide), fun _ => rInt_good hr, fun e => absurd e (by decide), fun e => absurd e (by decide), fun e => absurd rfl e.2.1⟩
  rw [if_neg h1] at h
  by_cases h2 : k = 2
  · subst h2
    rw [if_pos rfl] at h
    injection h with _ h; injection h with h1 h; injection h with _ h
    have hr : rText s 0 = (t, s', 0) := Prod.ext h1 h
    exact ⟨fun e => absurd e (by decide), fun e => absurd e (by decide), fun _ => rText_good hr, fun e => absurd e (by decide), fun e => absurd rfl e.2.2.1⟩
  rw [if_neg h2] at h
  by_cases h3 : k = 3
  · subst h3
    rw [if_pos rfl] at h
    injection h with h1 h; injection h with _ h; injection h with _ h
    have hr : rCount n s 0 = (a, s', 0) := Prod.ext h1 h
    exact ⟨fun _ => rCount_good hr, fun e => absurd e (by decide), fun e => absurd e (by decide), fun e => absurd e (by decide), fun e => absurd rfl e.2.2.2.1⟩
  rw [if_neg h3] at h
  by_cases h4 : k = 4
  · subst h4
    rw [if_pos rfl] at h
    injection h with _ h; injection h with _ h; injection h with h1 h
    have hr : rTexts s 0 = (l, s', 0) := Prod.ext h1 h
    exact ⟨fun e => absurd e (by decide), fun e => absurd e (by decide), fun e => absurd e (by decide), fun _ => rTexts_good hr, fun e => absurd rfl e.2.2.2.2⟩
  rw [if_neg h4] at h
  refine ⟨fun e => absurd e (by omega), fun e => absurd e h1, fun e => absurd e h2, fun e => absurd e h4, fun _ => ?_⟩
  split at h
  · injection h with _ h; injection h with _ h; injection h with _ h; injection h with h _; exact h.symm
  · split at h
    · injection h with _ h; injection h with _ h; injection h with _ h; injection h with h _; exact h.symm
    · injection h with _ h; injection h with _ h; injection h with _ h; injection h with h _; exact h.symm

/-- A builder of the bytes l in block b. -/
def BldIs (b : Nat) (l : List UInt8) (w : World) : Prop := Lib.IsBuilderF 54 5 b b (Lib.byteCells l) w
theorem BldIs_gb {b : Nat} {l : List UInt8} {w w' : World} {g : Option Nat} (h : BldIs b l w) (hg : w.grownBy w' g) (hgb : ∀ k, g = some k → k < b) : BldIs b l w' := by
  have one : ∀ p, Lib.BuilderAtF 54 5 b b p (Lib.byteCells l) w → Lib.BuilderAtF 54 5 b b p (Lib.byteCells l) w' := by
    rintro p ⟨hB, v, hb, ho, hne⟩
    refine ⟨hB, v, (hg.block b (Array.getElem?_eq_some_iff.1 hb).1 (fun e => by have := hgb b e.symm; omega)).trans hb, ho.kept hg ?_, hne⟩
    cases hv : v.ownBlock with
    | none => exact Or.inl rfl
    | some k => exact Or.inr (fun e => by have h1 := hgb k e.symm; have h2 := (ho.lt k hv).1; omega)
  exact h.imp (one _) (one _)
theorem BldIs_below {b : Nat} {l : List UInt8} {w w' : World} (h : BldIs b l w) (hb : Below w.heap.size w w') : BldIs b l w' :=
  BldIs_gb h (gb_of_below hb) (fun k e => by simp at e)
theorem BldIs_lt {b : Nat} {l : List UInt8} {w : World} (h : BldIs b l w) : b < w.heap.size := by
  rcases h with ⟨_, v, hg, _⟩ | ⟨_, v, hg, _⟩
  · exact (Array.getElem?_eq_some_iff.1 hg).1
  · exact (Array.getElem?_eq_some_iff.1 hg).1
theorem BldIs_fresh {w : World} {b : Nat} (h : w.heap[b]? = some (.cells #[.pointer none, .slice none 0 0] 54 (0, 0))) : BldIs b [] w :=
  Or.inl ⟨Nat.le_refl _, .slice none 0 0, h, World.ownsRowF_nil _ _ _ _, by simp [Value.ownBlock]⟩
theorem lib_length (l : List UInt8) : (Lib.byteCells l).length = l.length := by simp [Lib.byteCells]
theorem bld_write (b : Nat) (l : List UInt8) (s : ByteArray) (w : World) (h : BldIs b l w) (hl : l.length + s.size ≤ 140737488355328) :
    Calls Try.prog 31 #[.pointer (some ⟨b, 0, none⟩), .string s] w fun e w' => e = .returned (.tuple #[.int .i64 s.size, .nilIface]) ∧ BldIs b (l ++ s.data.toList) w' ∧ Below b w w' := by
  refine (Try.wstring b b _ s w h (by rw [lib_length]; exact hl) (Nat.le_of_lt (BldIs_lt h))).mono fun e w' ⟨h1, h2, h3, _⟩ => ⟨h1, ?_, h3⟩
  unfold BldIs
  have e : Lib.byteCells (l ++ s.data.toList) = Lib.byteCells l ++ Lib.strCells s := by rw [Lib.strCells_eq]; simp [Lib.byteCells]
  rw [e]
  exact Or.inr h2
theorem bld_string (b : Nat) (l : List UInt8) (w : World) (h : BldIs b l w) :
    Calls Try.prog 33 #[.pointer (some ⟨b, 0, none⟩)] w fun e w' => e = .returned (.string (ba l)) ∧ BldIs b l w' ∧ Below b w w' :=
  (Try.bstring b b l w h (Nat.le_of_lt (BldIs_lt h))).mono fun _ _ ⟨h1, h2, h3, _⟩ => ⟨h1, h2, h3⟩
theorem hasPrefix_self (l r : List UInt8) : Lib.hasPrefix (l ++ r) l = true := by
  unfold Lib.hasPrefix
  rw [List.isPrefixOf_iff_prefix]
  exact List.prefix_append l r

set_option maxRecDepth 100000 in
set_option maxHeartbeats 8000000 in
theorem canonical_any (s : ByteArray) (vc : Value) (n : Nat) (K N : Nat → Int) (w : World) (hv : CallsN w vc n K N) :
    Calls Try.prog 6 #[.string s, vc] w
      fun e w' => e = .returned (.bool true) ∧ Below w.heap.size w w' := by
  obtain ⟨base, cap, rfl, hcells⟩ := hv
  have HC := hid hcells
  clear hcells
  by_cases hs : 2000 < s.size
  · go_enter Try.func6, Try.ntmps6
    go_wp2_with fail
    refine (awake_any w).mono ?_
    rintro e w1 ⟨rfl, hb1⟩
    have K1 := hid hb1
    clear hb1
    go_wp2_with fail
    go_ret
    exact ⟨rfl, K1.out⟩
  by_cases hn : 30 < n
  · go_enter Try.func6, Try.ntmps6
    go_wp2_with fail
    refine (awake_any w).mono ?_
    rintro e w1 ⟨rfl, hb1⟩
    have K1 := hid hb1
    clear hb1
    go_wp2_with fail
    go_ret
    exact ⟨rfl, K1.out⟩
  go_enter Try.func6, Try.ntmps6
  go_wp2_with fail
  refine (awake_any w).mono ?_
  rintro e w1 ⟨rfl, hb1⟩
  have K1 := hid hb1
  clear hb1
  go_wp2_with fail
  refine (cnew_any s w1).mono ?_
  rintro e w2 ⟨rfl, hR2, hb2⟩
  have hGw := K1.out.size
  have hb2w := K1.out.trans (hb2.mono K1.out.size)
  generalize w1.heap.size = G at hR2 hGw ⊢
  have hGb := Reader_lt hR2
  have hal := (Below.refl w2.heap.size w2).alloc (Nat.le_refl _) (.cells #[.pointer none, .slice none 0 0] 54)
  have hB2 := BldIs_fresh (heap_alloc_new w2 (.cells #[.pointer none, .slice none 0 0] 54))
  have hR3 := ReaderIs_below hR2 hal
  have hb3w := hb2w.trans (hal.mono hb2w.size)
  have hbw := hb2w.size
  go_wp2_with fail
  generalize w2.alloc (.cells #[.pointer none, .slice none 0 0] 54) = w3 at hB2 hR3 hb3w ⊢
  generalize w2.heap.size = bb at hGb hB2 hbw ⊢
  have K3 := hid (And.intro hb3w (And.intro hR3 hB2))
  have KG := hid (And.intro hGw (And.intro hGb hbw))
  clear hb2 hb2w hR2 hGw hGb hal hB2 hR3 hb3w hbw K1
  go_loopw [28] (fun i wr => ∃ (k : Nat) (D : List UInt8) (rest : ByteArray), k ≤ n ∧ i = .int .i64 (k : Int) ∧ s.data.toList = D ++ rest.data.toList ∧ ReaderIs wr G rest 0 ∧ BldIs bb D wr ∧ Below w.heap.size w wr) (fun i _ => n - (intOf i).toNat)
  case atStart => exact ⟨0, [], s, by omega, rfl, rfl, K3.out.2.1, K3.out.2.2, K3.out.1⟩
  case round =>
    obtain ⟨k, D, rest, hk, rfl, hD, hR, hB, hb⟩ := hrel
    have hDl : D.length + rest.size = s.size := by have := congrArg List.length hD; rw [List.length_append, size_list', size_list'] at this; omega
    by_cases hlt : k < n
    · obtain ⟨b, o, rfl, hc0, hc1⟩ := HC.out k hlt
      have hd0 := (hb.cell (p := ⟨b, o + k * 2, none⟩) (block_lt_any hc0)).trans hc0
      have hd1 := (hb.cell (p := ⟨b, o + k * 2 + 1, none⟩) (block_lt_any hc1)).trans hc1
      generalize K k = kk at hc0 hd0
      generalize N k = nn at hc1 hd1
      have hc := result_any kk nn G rest 0 (wr.alloc (.cells #[.int .i64 kk, .int .i64 nn] 43)) (ReaderIs_below hR ((Below.refl _ _).alloc (Nat.le_refl _) _)) (by omega)
      have hgood := fun (a : Int) (t : ByteArray) (l : List ByteArray) (s' : ByteArray) => rRes_good (k := kk) (n := nn) (a := a) (t := t) (l := l) (s := rest) (s' := s')
      generalize rRes kk nn rest 0 = x at hc hgood
      obtain ⟨a, t, l, s', e'⟩ := x
      simp only at hc
      have hsz : D.length ≤ 2000 := by omega
      have hrz : rest.size ≤ 2000 := by omega
      have KR := hid (And.intro hR (And.intro hB (And.intro hb hD)))
      have HCL := hid (And.intro hc hgood)
      clear hc hgood hc0 hc1 hR hB hb hD hDl K3
      go_wp2_with fail
      refine HCL.out.1.mono ?_
      rintro e w4 ⟨⟨v, rfl, ho⟩, hR4, hg4⟩
      obtain ⟨bv, cv, rfl⟩ := own_slice ho
      have hal := (Below.refl wr.heap.size wr).alloc (Nat.le_refl _) (.cells #[.int .i64 kk, .int .i64 nn] 43)
      have hGr := Reader_lt KR.out.1
      have hblk := (gb_heap hg4 (Array.getElem?_eq_some_iff.1 (heap_alloc_new wr (.cells #[.int .i64 kk, .int .i64 nn] 43))).1 (by omega)).trans (heap_alloc_new wr (.cells #[.int .i64 kk, .int .i64 nn] 43))
      have e0 := cell_of_row w4 wr.heap.size 0 _ _ _ hblk
      have e1 := cell_of_row w4 wr.heap.size 1 _ _ _ hblk
      have hbw4 : Below w.heap.size w w4 := (KR.out.2.2.1.trans (hal.mono KR.out.2.2.1.size)).trans (below_of_gb hg4 (Nat.le_trans KR.out.2.2.1.size hal.size) KG.out.1)
      have hz : wr.heap.size < w4.heap.size := (Array.getElem?_eq_some_iff.1 hblk).1
      have hB4 := BldIs_gb (BldIs_below KR.out.2.1 hal) hg4 (fun k e => by injection e with e; have := KG.out.2.1; omega)
      have hal4 := (Below.refl w4.heap.size w4).alloc (Nat.le_refl _) (.cells #[.int .i64 a, .string t, .slice bv l.length cv, .int .i64 e'] 39)
      have K4 := hid (And.intro (ReaderIs_below hR4 hal4) (And.intro (hbw4.trans (hal4.mono hbw4.size)) (And.intro (BldIs_below hB4 hal4) (StrS_below (OwnS_StrS ho) hal4 (Nat.le_refl _)))))
      clear hR4 hg4 hal hGr hblk hbw4 ho hB4 hal4
      unfold resC
      go_wp2_with fail
      refine (cerror_any G s' e' _ K4.out.1).mono ?_
      rintro e w5 ⟨rfl, rfl⟩
      by_cases he : e' = 0
      · subst he
        have hgd := HCL.out.2 a t l s' rfl
        have HG := hid hgd
        clear hgd
        by_cases h0 : kk = 0
        · subst h0
          obtain ⟨m, hm, hm2, heq⟩ := HG.out.1 (Or.inl rfl)
          subst hm
          have HEQ := hid heq
          have HM := hid hm2
          clear heq hm2
          have HU := hid (show D ++ (ba (uvL m)).data.toList ++ s'.data.toList = s.data.toList by rw [KR.out.2.2.2, HEQ.out, List.append_assoc, ba_list])
          have HZ : Kpt (D.length + (ba (uvL m)).size ≤ 140737488355328) := hid (by have h1 := congrArg List.length HEQ.out; rw [List.length_append, size_list', size_list'] at h1; rw [ba_size]; omega)
          go_wp2_with fail
          refine (cuint_nat m _ HM.out).mono ?_
          rintro e w6 ⟨rfl, hb6⟩
          have K6 := hid (And.intro (ReaderIs_below K4.out.1 hb6) (And.intro (K4.out.2.1.trans (hb6.mono K4.out.2.1.size)) (BldIs_below K4.out.2.2.1 hb6)))
          clear hb6 e0 e1
          go_wp2_with fail
          refine (bld_write bb D (ba (uvL m)) w6 K6.out.2.2 HZ.out).mono ?_
          rintro e w7 ⟨rfl, hB7, hb7⟩
          have hR7 : ReaderIs w7 G s' 0 := (hb7.block G KG.out.2.1).trans K6.out.1
          have K7 := hid (And.intro hR7 (And.intro hB7 (K6.out.2.1.trans (hb7.mono KG.out.2.2))))
          clear hB7 hb7 hR7
          go_wp2_with fail
          go_roundw
          case rel => exact ⟨k + 1, _, s', by omega, by go_num, HU.out.symm, K7.out.1, K7.out.2.1, K7.out.2.2⟩
          case measure => simp [intOf]; omega
        have q0 : (kk == 0) = false := by rw [beq_eq_false_iff_ne]; exact h0
        by_cases h3 : kk = 3
        · subst h3
          obtain ⟨m, hm, hm2, heq⟩ := HG.out.1 (Or.inr rfl)
          subst hm
          have HEQ := hid heq
          have HM := hid hm2
          clear heq hm2
          have HU := hid (show D ++ (ba (uvL m)).data.toList ++ s'.data.toList = s.data.toList by rw [KR.out.2.2.2, HEQ.out, List.append_assoc, ba_list])
          have HZ : Kpt (D.length + (ba (uvL m)).size ≤ 140737488355328) := hid (by have h1 := congrArg List.length HEQ.out; rw [List.length_append, size_list', size_list'] at h1; rw [ba_size]; omega)
          go_wp2_with fail
          refine (cuint_nat m _ HM.out).mono ?_
          rintro e w6 ⟨rfl, hb6⟩
          have K6 := hid (And.intro (ReaderIs_below K4.out.1 hb6) (And.intro (K4.out.2.1.trans (hb6.mono K4.out.2.1.size)) (BldIs_below K4.out.2.2.1 hb6)))
          clear hb6 e0 e1
          go_wp2_with fail
          refine (bld_write bb D (ba (uvL m)) w6 K6.out.2.2 HZ.out).mono ?_
          rintro e w7 ⟨rfl, hB7, hb7⟩
          have hR7 : ReaderIs w7 G s' 0 := (hb7.block G KG.out.2.1).trans K6.out.1
          have K7 := hid (And.intro hR7 (And.intro hB7 (K6.out.2.1.trans (hb7.mono KG.out.2.2))))
          clear hB7 hb7 hR7
          go_wp2_with fail
          go_roundw
          case rel => exact ⟨k + 1, _, s', by omega, by go_num, HU.out.symm, K7.out.1, K7.out.2.1, K7.out.2.2⟩
          case measure => simp [intOf]; omega
        have q3 : (kk == 3) = false := by rw [beq_eq_false_iff_ne]; exact h3
        by_cases h1 : kk = 1
        · subst h1
          obtain ⟨hm2, heq⟩ := HG.out.2.1 rfl
          have HEQ := hid heq
          have HM := hid hm2
          clear heq hm2
          have HU := hid (show D ++ (ba (uvL (zig a))).data.toList ++ s'.data.toList = s.data.toList by rw [KR.out.2.2.2, HEQ.out, List.append_assoc, ba_list])
          have HZ : Kpt (D.length + (ba (uvL (zig a))).size ≤ 140737488355328) := hid (by have h1 := congrArg List.length HEQ.out; rw [List.length_append, size_list', size_list'] at h1; rw [ba_size]; omega)
          go_wp2_with fail
          refine (cint_any a _ HM.out.1 HM.out.2).mono ?_
          rintro e w6 ⟨rfl, hb6⟩
          have K6 := hid (And.intro (ReaderIs_below K4.out.1 hb6) (And.intro (K4.out.2.1.trans (hb6.mono K4.out.2.1.size)) (BldIs_below K4.out.2.2.1 hb6)))
          clear hb6 e0 e1
          go_wp2_with fail
          refine (bld_write bb D (ba (uvL (zig a))) w6 K6.out.2.2 HZ.out).mono ?_
          rintro e w7 ⟨rfl, hB7, hb7⟩
          have hR7 : ReaderIs w7 G s' 0 := (hb7.block G KG.out.2.1).trans K6.out.1
          have K7 := hid (And.intro hR7 (And.intro hB7 (K6.out.2.1.trans (hb7.mono KG.out.2.2))))
          clear hB7 hb7 hR7
          go_wp2_with fail
          go_roundw
          case rel => exact ⟨k + 1, _, s', by omega, by go_num, HU.out.symm, K7.out.1, K7.out.2.1, K7.out.2.2⟩
          case measure => simp [intOf]; omega
        have q1 : (kk == 1) = false := by rw [beq_eq_false_iff_ne]; exact h1
        by_cases h2 : kk = 2
        · subst h2
          obtain ⟨heq, hm2⟩ := HG.out.2.2.1 rfl
          have HEQ := hid heq
          have HM := hid hm2
          clear heq hm2
          have HU := hid (show D ++ (ba (encU t)).data.toList ++ s'.data.toList = s.data.toList by rw [KR.out.2.2.2, HEQ.out, List.append_assoc, ba_list])
          have HZ : Kpt (D.length + (ba (encU t)).size ≤ 140737488355328) := hid (by have h1 := congrArg List.length HEQ.out; rw [List.length_append, size_list', size_list'] at h1; rw [ba_size]; omega)
          go_wp2_with fail
          refine (ctext_any t _ (by have := HM.out; omega)).mono ?_
          rintro e w6 ⟨rfl, hb6⟩
          have K6 := hid (And.intro (ReaderIs_below K4.out.1 hb6) (And.intro (K4.out.2.1.trans (hb6.mono K4.out.2.1.size)) (BldIs_below K4.out.2.2.1 hb6)))
          clear hb6 e0 e1
          go_wp2_with fail
          refine (bld_write bb D (ba (encU t)) w6 K6.out.2.2 HZ.out).mono ?_
          rintro e w7 ⟨rfl, hB7, hb7⟩
          have hR7 : ReaderIs w7 G s' 0 := (hb7.block G KG.out.2.1).trans K6.out.1
          have K7 := hid (And.intro hR7 (And.intro hB7 (K6.out.2.1.trans (hb7.mono KG.out.2.2))))
          clear hB7 hb7 hR7
          go_wp2_with fail
          go_roundw
          case rel => exact ⟨k + 1, _, s', by omega, by go_num, HU.out.symm, K7.out.1, K7.out.2.1, K7.out.2.2⟩
          case measure => simp [intOf]; omega
        have q2 : (kk == 2) = false := by rw [beq_eq_false_iff_ne]; exact h2
        by_cases h4 : kk = 4
        · subst h4
          obtain ⟨heq, hm2⟩ := HG.out.2.2.2.1 rfl
          have HEQ := hid heq
          have HM := hid hm2
          clear heq hm2
          have HU := hid (show D ++ (ba (encT l)).data.toList ++ s'.data.toList = s.data.toList by rw [KR.out.2.2.2, HEQ.out, List.append_assoc, ba_list])
          have HZ : Kpt (D.length + (ba (encT l)).size ≤ 140737488355328) := hid (by have h1 := congrArg List.length HEQ.out; rw [List.length_append, size_list', size_list'] at h1; rw [ba_size]; omega)
          go_wp2_with fail
          refine (ctexts_any _ l _ K4.out.2.2.2 (by have h1 := encUs_bound l (by have := HM.out; omega); have := HM.out; omega) (by have := HM.out; omega)).mono ?_
          rintro e w6 ⟨rfl, hb6⟩
          have K6 := hid (And.intro (ReaderIs_below K4.out.1 hb6) (And.intro (K4.out.2.1.trans (hb6.mono K4.out.2.1.size)) (BldIs_below K4.out.2.2.1 hb6)))
          clear hb6 e0 e1
          go_wp2_with fail
          refine (bld_write bb D (ba (encT l)) w6 K6.out.2.2 HZ.out).mono ?_
          rintro e w7 ⟨rfl, hB7, hb7⟩
          have hR7 : ReaderIs w7 G s' 0 := (hb7.block G KG.out.2.1).trans K6.out.1
          have K7 := hid (And.intro hR7 (And.intro hB7 (K6.out.2.1.trans (hb7.mono KG.out.2.2))))
          clear hB7 hb7 hR7
          go_wp2_with fail
          go_roundw
          case rel => exact ⟨k + 1, _, s', by omega, by go_num, HU.out.symm, K7.out.1, K7.out.2.1, K7.out.2.2⟩
          case measure => simp [intOf]; omega
        have q4 : (kk == 4) = false := by rw [beq_eq_false_iff_ne]; exact h4
        have hss := HG.out.2.2.2.2 ⟨h0, h1, h2, h3, h4⟩
        subst hss
        clear h0 h1 h2 h3 h4
        go_wp2_with fail
        go_roundw
        case rel => exact ⟨k + 1, D, s', by omega, by go_num, KR.out.2.2.2, K4.out.1, K4.out.2.2.1, K4.out.2.1⟩
        case measure => simp [intOf]; omega
      · have hq2 : (e' != 0) = true := by rw [bne_iff_ne]; exact he
        have hq3 : (e' == 0) = false := by rw [beq_eq_false_iff_ne]; exact he
        have hev : endV s' e' = e' := if_neg he
        have hpre : Kpt (Lib.hasPrefix s.data.toList (ba D).data.toList = true) := hid (by rw [ba_list, KR.out.2.2.2]; exact hasPrefix_self _ _)
        have HEV := hid hev
        clear he hev
        go_wp2_with fail
        refine (bld_string bb D _ K4.out.2.2.1).mono ?_
        rintro e w6 ⟨rfl, _, hb6⟩
        have hR6 := (hb6.block G KG.out.2.1).trans K4.out.1
        have K6 := hid (And.intro hR6 (K4.out.2.1.trans (hb6.mono KG.out.2.2)))
        clear hb6 hR6 e0 e1
        have hp := Try.strings_HasPrefix s (ba D) w6
        rw [hpre.out] at hp
        have HP := hid hp
        clear hp
        go_wp2_with fail
        refine HP.out.mono ?_
        rintro e w7 ⟨rfl, rfl⟩
        go_wp2_with fail
        refine (cend_any G s' e' _ K6.out.1).mono ?_
        rintro e w8 ⟨rfl, rfl⟩
        rw [HEV.out]
        go_wp2_with fail
        go_ret
        exact ⟨rfl, K6.out.2⟩
    · obtain rfl : k = n := by omega
      have hpre : Kpt (Lib.hasPrefix s.data.toList (ba D).data.toList = true) := hid (by rw [ba_list, hD]; exact hasPrefix_self _ _)
      have KR := hid (And.intro hR (And.intro hB (And.intro hb hD)))
      clear hR hB hb hD hDl K3
      go_wp2_with fail
      refine (bld_string bb D _ KR.out.2.1).mono ?_
      rintro e w6 ⟨rfl, hB6, hb6⟩
      have hR6 : ReaderIs w6 G rest 0 := (hb6.block G KG.out.2.1).trans KR.out.1
      have K6 := hid (And.intro hR6 (And.intro (KR.out.2.2.1.trans (hb6.mono KG.out.2.2)) hB6))
      clear hb6 hR6 hB6
      have hp := Try.strings_HasPrefix s (ba D) w6
      rw [hpre.out] at hp
      have HP := hid hp
      clear hp
      go_wp2_with fail
      refine HP.out.mono ?_
      rintro e w7 ⟨rfl, rfl⟩
      go_wp2_with fail
      refine (cend_any G rest 0 _ K6.out.1).mono ?_
      rintro e w8 ⟨rfl, rfl⟩
      by_cases h0 : rest.data.toList = []
      · have hev : endV rest 0 = 0 := by unfold endV; rw [if_pos rfl, h0]
        have hsD : s = ba D := by rw [← ba_eta s, KR.out.2.2.2, h0, List.append_nil]
        have HS := hid hsD
        rw [hev]
        clear hev h0 hsD
        go_wp2_with fail
        refine (bld_string bb D _ K6.out.2.2).mono ?_
        rintro e w9 ⟨rfl, _, hb9⟩
        rw [← HS.out]
        have K9 := hid (K6.out.2.1.trans (hb9.mono KG.out.2.2))
        clear hb9
        go_wp2_with fail
        go_ret
        exact ⟨rfl, K9.out⟩
      · have hev : endV rest 0 = 9 := by
          unfold endV
          rw [if_pos rfl]
          cases hl : rest.data.toList with
          | nil => exact absurd hl h0
          | cons x y => rfl
        rw [hev]
        clear hev h0
        go_wp2_with fail
        go_ret
        exact ⟨rfl, K6.out.2.1⟩
end Go.Proofs.Ytoimmmcmlbaenaa
