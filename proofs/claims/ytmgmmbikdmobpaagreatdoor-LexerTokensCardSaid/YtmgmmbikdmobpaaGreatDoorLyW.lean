/- lexer: the reference's token at a word. -/
import Derived.Test.YtmgmmbikdmobpaaGreatDoorLyWp
namespace Go.Proofs.YtmgmmbikdmobpaaGreatDoor
open Go.RowKit

/-- The result's place as it was made, the rest as it was. -/
def Res (w W : World) : Prop := W.heap[w.heap.size]? = some (.cells #[.int .i64 0, .string ⟨#[]⟩, .int .i64 0] 32 (0, 0)) ∧ Below w.heap.size w W ∧ w.heap.size < W.heap.size
theorem res_start (w : World) : Res w (w.alloc (.cells #[.int .i64 0, .string ⟨#[]⟩, .int .i64 0] 32)) :=
  ⟨heap_alloc_new w _, (Below.refl w.heap.size w).alloc (Nat.le_refl _) _, by simp⟩
theorem Res.later {w W W' : World} (h : Res w W) (hb : Below W.heap.size W W') : Res w W' :=
  ⟨(hb.block _ h.2.2).trans h.1, h.2.1.trans (hb.mono (Nat.le_of_lt h.2.2)), Nat.lt_of_lt_of_le h.2.2 hb.size⟩

set_option maxRecDepth 100000 in
set_option maxHeartbeats 8000000 in
theorem rtokW_any (s : ByteArray) (w : World) (hs : s.size ≤ 9223372036854775807) (h0 : 0 < s.size) (hl : isLt (fst s.data.toList) = true) :
    Calls Tryz.prog 16 #[.string s] w fun e w' => TkRet (wordT s.data.toList) e ∧ Below w.heap.size w w' := by
  have hll : 0 < s.data.toList.length := by rw [size_list]; exact h0
  have hwr := wordR s.data.toList hll hl
  have hsp := fun w => rspan_any s false w hs
  rw [show dwP false = isWd from funext fun c => rfl] at hsp
  have hle := spn_le isWd s.data.toList
  rw [size_list] at hle
  have hex := upto_bytes s (spn isWd s.data.toList)
  have hix := index0 s h0
  have hc := fst_lt s.data.toList
  generalize wordT s.data.toList = X at hwr ⊢
  generalize spn isWd s.data.toList = n at hsp hle hex hwr
  have hlist : (s.extract 0 n).data.toList = s.data.toList.take n := by rw [hex, mk_list]
  have hnm := fun w => risname_any (s.extract 0 n) w (by rw [ByteArray.size_extract]; omega)
  have hty := fun w => ristype_any (s.extract 0 n) w (by rw [ByteArray.size_extract]; omega)
  have hkw := fun w => haskw_any (s.extract 0 n) w
  rw [hlist] at hnm hty hkw
  have hd := rdigit_is (fst s.data.toList)
  have hsm := rsmall_is (fst s.data.toList)
  have hcp := rcap_is (fst s.data.toList)
  have hdg : isDg (fst s.data.toList) = false := by unfold isLt isSm isCp at hl; unfold isDg; rw [Bool.eq_false_iff]; intro h2; simp at h2 hl; omega
  have b34 : ((fst s.data.toList : Nat) : Int) ≠ 34 := by unfold isLt isSm isCp at hl; simp at hl; omega
  have hcs : isSm (fst s.data.toList) = false → isCp (fst s.data.toList) = true := by intro h2; unfold isLt at hl; rw [h2] at hl; simpa using hl
  rw [hdg] at hd
  generalize fst s.data.toList = c at *
  have b34b : ((c : Int) == 34) = false := by rw [beq_eq_false_iff_ne]; exact b34
  have HS := hid hsp
  have HE := hid (hex)
  have HD := hid (fun w => hd w hc)
  have HSm := hid (fun w => hsm w hc)
  have HCp := hid (fun w => hcp w hc)
  have HC := hid hcs
  have HN := hid (And.intro hnm hty)
  have HK : Kpt (∀ w, Calls Tryz.prog 34 #[] w fun e w' => e = .returned (.slice (some ⟨w.heap.size, 0, none⟩) 28 28) ∧ w' = kwW w) := hid (fun w => rkeywords_any w)
  have HH := hid hkw
  have HX := hid hwr
  generalize isKw (s.data.toList.take n) = kB at HH HX
  generalize nameB (s.data.toList.take n) = nB at HN HX
  generalize typeB (s.data.toList.take n) = tB at HN HX
  have R0 := hid (res_start w)
  clear hsp hex hd hsm hcp hcs hnm hty hkw hwr b34 hdg hlist hl hll
  go_enter Tryz.func16, Tryz.ntmps16
  go_wp2_with fail
  generalize w.alloc (.cells #[.int .i64 0, .string ⟨#[]⟩, .int .i64 0] 32) = W at R0 ⊢
  refine (HD.out W).mono ?_
  rintro e W ⟨rfl, rfl⟩
  go_wp2_with fail
  cases q : isSm c with
  | true =>
    have H1 := hid (HSm.out W)
    rw [q] at H1
    clear q
    refine H1.out.mono ?_
    rintro e W ⟨rfl, rfl⟩
    go_wp2_with fail
    refine (HS.out W).mono ?_
    rintro e W ⟨rfl, rfl⟩
    cases kB with
    | true =>
      have HZ : Kpt (X = .tok 5 (s.data.toList.take n) n) := hid HX.out
      go_wp2_with fail
      go_region_with (first
        | (go_at_call 34; refine (HK.out _).mono ?_; rintro e wk ⟨rfl, rfl⟩)
        | (go_at_call 33; refine (HH.out _).mono ?_; rintro e wk ⟨rfl, rfl⟩))
      have R1 : Kpt (Res w (kwW W.drew)) := hid (R0.out.later (((Below.refl W.heap.size W).drew).alloc (Nat.le_refl _) _))
      generalize kwW W.drew = W4 at R1 ⊢
      have f0 := frozen_of_row W4 w.heap.size 0 _ _ R1.out.1
      have f1 := frozen_of_row W4 w.heap.size 1 _ _ R1.out.1
      have f2 := frozen_of_row W4 w.heap.size 2 _ _ R1.out.1
      have c0 := cell_of_row W4 w.heap.size 0 _ _ _ R1.out.1
      have c1 := cell_of_row W4 w.heap.size 1 _ _ _ R1.out.1
      have c2 := cell_of_row W4 w.heap.size 2 _ _ _ R1.out.1
      have g := tk_end R1.out.1 5 (s.extract 0 n)
      have KX := hid (And.intro (tk_below R1.out.2.1 5 (s.extract 0 n)) g)
      clear g
      go_wp2_with fail
      exact bodyPost_ret (v := .tuple #[.agg #[.int .i64 5, .string (s.extract 0 n), .int .i64 0], .int .i64 (n : Int), .int .i64 0]) (by simp [results, Tryz.results16, go_sem, KX.out.2.1, KX.out.2.2.1, KX.out.2.2.2]) rfl ⟨by rw [HZ.out, HE.out]; rfl, KX.out.1⟩
    | false =>
      cases nB with
      | true =>
        have HZ : Kpt (X = .tok 1 (s.data.toList.take n) n) := hid HX.out
        go_wp2_with fail
        go_region_with (first
          | (go_at_call 34; refine (HK.out _).mono ?_; rintro e wk ⟨rfl, rfl⟩)
          | (go_at_call 33; refine (HH.out _).mono ?_; rintro e wk ⟨rfl, rfl⟩))
        have R1 : Kpt (Res w (kwW W.drew)) := hid (R0.out.later (((Below.refl W.heap.size W).drew).alloc (Nat.le_refl _) _))
        generalize kwW W.drew = W4 at R1 ⊢
        go_wp2_with fail
        refine (HN.out.1 W4).mono ?_
        rintro e W5 ⟨rfl, hb5⟩
        have R2 := hid (R1.out.later hb5)
        clear hb5
        have f0 := frozen_of_row W5 w.heap.size 0 _ _ R2.out.1
        have f1 := frozen_of_row W5 w.heap.size 1 _ _ R2.out.1
        have f2 := frozen_of_row W5 w.heap.size 2 _ _ R2.out.1
        have c0 := cell_of_row W5 w.heap.size 0 _ _ _ R2.out.1
        have c1 := cell_of_row W5 w.heap.size 1 _ _ _ R2.out.1
        have c2 := cell_of_row W5 w.heap.size 2 _ _ _ R2.out.1
        have g := tk_end R2.out.1 1 (s.extract 0 n)
        have KX := hid (And.intro (tk_below R2.out.2.1 1 (s.extract 0 n)) g)
        clear g
        go_wp2_with fail
        exact bodyPost_ret (v := .tuple #[.agg #[.int .i64 1, .string (s.extract 0 n), .int .i64 0], .int .i64 (n : Int), .int .i64 0]) (by simp [results, Tryz.results16, go_sem, KX.out.2.1, KX.out.2.2.1, KX.out.2.2.2]) rfl ⟨by rw [HZ.out, HE.out]; rfl, KX.out.1⟩
      | false =>
        cases tB with
        | true =>
          have HZ : Kpt (X = .tok 2 (s.data.toList.take n) n) := hid HX.out
          go_wp2_with fail
          go_region_with (first
            | (go_at_call 34; refine (HK.out _).mono ?_; rintro e wk ⟨rfl, rfl⟩)
            | (go_at_call 33; refine (HH.out _).mono ?_; rintro e wk ⟨rfl, rfl⟩))
          have R1 : Kpt (Res w (kwW W.drew)) := hid (R0.out.later (((Below.refl W.heap.size W).drew).alloc (Nat.le_refl _) _))
          generalize kwW W.drew = W4 at R1 ⊢
          go_wp2_with fail
          refine (HN.out.1 W4).mono ?_
          rintro e W5 ⟨rfl, hb5⟩
          have R2 := hid (R1.out.later hb5)
          clear hb5
          go_wp2_with fail
          refine (HN.out.2 W5).mono ?_
          rintro e W6 ⟨rfl, hb6⟩
          have R3 := hid (R2.out.later hb6)
          clear hb6
          have f0 := frozen_of_row W6 w.heap.size 0 _ _ R3.out.1
          have f1 := frozen_of_row W6 w.heap.size 1 _ _ R3.out.1
          have f2 := frozen_of_row W6 w.heap.size 2 _ _ R3.out.1
          have c0 := cell_of_row W6 w.heap.size 0 _ _ _ R3.out.1
          have c1 := cell_of_row W6 w.heap.size 1 _ _ _ R3.out.1
          have c2 := cell_of_row W6 w.heap.size 2 _ _ _ R3.out.1
          have g := tk_end R3.out.1 2 (s.extract 0 n)
          have KX := hid (And.intro (tk_below R3.out.2.1 2 (s.extract 0 n)) g)
          clear g
          go_wp2_with fail
          exact bodyPost_ret (v := .tuple #[.agg #[.int .i64 2, .string (s.extract 0 n), .int .i64 0], .int .i64 (n : Int), .int .i64 0]) (by simp [results, Tryz.results16, go_sem, KX.out.2.1, KX.out.2.2.1, KX.out.2.2.2]) rfl ⟨by rw [HZ.out, HE.out]; rfl, KX.out.1⟩
        | false =>
          have HZ : Kpt (X = .err 4) := hid HX.out
          go_wp2_with fail
          go_region_with (first
            | (go_at_call 34; refine (HK.out _).mono ?_; rintro e wk ⟨rfl, rfl⟩)
            | (go_at_call 33; refine (HH.out _).mono ?_; rintro e wk ⟨rfl, rfl⟩))
          have R1 : Kpt (Res w (kwW W.drew)) := hid (R0.out.later (((Below.refl W.heap.size W).drew).alloc (Nat.le_refl _) _))
          generalize kwW W.drew = W4 at R1 ⊢
          go_wp2_with fail
          refine (HN.out.1 W4).mono ?_
          rintro e W5 ⟨rfl, hb5⟩
          have R2 := hid (R1.out.later hb5)
          clear hb5
          go_wp2_with fail
          refine (HN.out.2 W5).mono ?_
          rintro e W6 ⟨rfl, hb6⟩
          have R3 := hid (R2.out.later hb6)
          clear hb6
          have f0 := frozen_of_row W6 w.heap.size 0 _ _ R3.out.1
          have f1 := frozen_of_row W6 w.heap.size 1 _ _ R3.out.1
          have f2 := frozen_of_row W6 w.heap.size 2 _ _ R3.out.1
          have c0 := cell_of_row W6 w.heap.size 0 _ _ _ R3.out.1
          have c1 := cell_of_row W6 w.heap.size 1 _ _ _ R3.out.1
          have c2 := cell_of_row W6 w.heap.size 2 _ _ _ R3.out.1
          have g := tk_end R3.out.1 0 ⟨#[]⟩
          have KX := hid (And.intro (tk_below R3.out.2.1 0 ⟨#[]⟩) g)
          clear g
          go_wp2_with fail
          exact bodyPost_ret (v := .tuple #[.agg #[.int .i64 0, .string ⟨#[]⟩, .int .i64 0], .int .i64 0, .int .i64 4]) (by simp [results, Tryz.results16, go_sem, KX.out.2.1, KX.out.2.2.1, KX.out.2.2.2]) rfl ⟨by rw [HZ.out]; rfl, KX.out.1⟩
  | false =>
    have H1 := hid (HSm.out W)
    have H2 := hid (HCp.out W)
    rw [q] at H1
    rw [HC.out q] at H2
    clear q
    refine H1.out.mono ?_
    rintro e W ⟨rfl, rfl⟩
    go_wp2_with fail
    refine H2.out.mono ?_
    rintro e W ⟨rfl, rfl⟩
    go_wp2_with fail
    refine (HS.out W).mono ?_
    rintro e W ⟨rfl, rfl⟩
    cases kB with
    | true =>
      have HZ : Kpt (X = .tok 5 (s.data.toList.take n) n) := hid HX.out
      go_wp2_with fail
      go_region_with (first
        | (go_at_call 34; refine (HK.out _).mono ?_; rintro e wk ⟨rfl, rfl⟩)
        | (go_at_call 33; refine (HH.out _).mono ?_; rintro e wk ⟨rfl, rfl⟩))
      have R1 : Kpt (Res w (kwW W.drew)) := hid (R0.out.later (((Below.refl W.heap.size W).drew).alloc (Nat.le_refl _) _))
      generalize kwW W.drew = W4 at R1 ⊢
      have f0 := frozen_of_row W4 w.heap.size 0 _ _ R1.out.1
      have f1 := frozen_of_row W4 w.heap.size 1 _ _ R1.out.1
      have f2 := frozen_of_row W4 w.heap.size 2 _ _ R1.out.1
      have c0 := cell_of_row W4 w.heap.size 0 _ _ _ R1.out.1
      have c1 := cell_of_row W4 w.heap.size 1 _ _ _ R1.out.1
      have c2 := cell_of_row W4 w.heap.size 2 _ _ _ R1.out.1
      have g := tk_end R1.out.1 5 (s.extract 0 n)
      have KX := hid (And.intro (tk_below R1.out.2.1 5 (s.extract 0 n)) g)
      clear g
      go_wp2_with fail
      exact bodyPost_ret (v := .tuple #[.agg #[.int .i64 5, .string (s.extract 0 n), .int .i64 0], .int .i64 (n : Int), .int .i64 0]) (by simp [results, Tryz.results16, go_sem, KX.out.2.1, KX.out.2.2.1, KX.out.2.2.2]) rfl ⟨by rw [HZ.out, HE.out]; rfl, KX.out.1⟩
    | false =>
      cases nB with
      | true =>
        have HZ : Kpt (X = .tok 1 (s.data.toList.take n) n) := hid HX.out
        go_wp2_with fail
        go_region_with (first
          | (go_at_call 34; refine (HK.out _).mono ?_; rintro e wk ⟨rfl, rfl⟩)
          | (go_at_call 33; refine (HH.out _).mono ?_; rintro e wk ⟨rfl, rfl⟩))
        have R1 : Kpt (Res w (kwW W.drew)) := hid (R0.out.later (((Below.refl W.heap.size W).drew).alloc (Nat.le_refl _) _))
        generalize kwW W.drew = W4 at R1 ⊢
        go_wp2_with fail
        refine (HN.out.1 W4).mono ?_
        rintro e W5 ⟨rfl, hb5⟩
        have R2 := hid (R1.out.later hb5)
        clear hb5
        have f0 := frozen_of_row W5 w.heap.size 0 _ _ R2.out.1
        have f1 := frozen_of_row W5 w.heap.size 1 _ _ R2.out.1
        have f2 := frozen_of_row W5 w.heap.size 2 _ _ R2.out.1
        have c0 := cell_of_row W5 w.heap.size 0 _ _ _ R2.out.1
        have c1 := cell_of_row W5 w.heap.size 1 _ _ _ R2.out.1
        have c2 := cell_of_row W5 w.heap.size 2 _ _ _ R2.out.1
        have g := tk_end R2.out.1 1 (s.extract 0 n)
        have KX := hid (And.intro (tk_below R2.out.2.1 1 (s.extract 0 n)) g)
        clear g
        go_wp2_with fail
        exact bodyPost_ret (v := .tuple #[.agg #[.int .i64 1, .string (s.extract 0 n), .int .i64 0], .int .i64 (n : Int), .int .i64 0]) (by simp [results, Tryz.results16, go_sem, KX.out.2.1, KX.out.2.2.1, KX.out.2.2.2]) rfl ⟨by rw [HZ.out, HE.out]; rfl, KX.out.1⟩
      | false =>
        cases tB with
        | true =>
          have HZ : Kpt (X = .tok 2 (s.data.toList.take n) n) := hid HX.out
          go_wp2_with fail
          go_region_with (first
            | (go_at_call 34; refine (HK.out _).mono ?_; rintro e wk ⟨rfl, rfl⟩)
            | (go_at_call 33; refine (HH.out _).mono ?_; rintro e wk ⟨rfl, rfl⟩))
          have R1 : Kpt (Res w (kwW W.drew)) := hid (R0.out.later (((Below.refl W.heap.size W).drew).alloc (Nat.le_refl _) _))
          generalize kwW W.drew = W4 at R1 ⊢
          go_wp2_with fail
          refine (HN.out.1 W4).mono ?_
          rintro e W5 ⟨rfl, hb5⟩
          have R2 := hid (R1.out.later hb5)
          clear hb5
          go_wp2_with fail
          refine (HN.out.2 W5).mono ?_
          rintro e W6 ⟨rfl, hb6⟩
          have R3 := hid (R2.out.later hb6)
          clear hb6
          have f0 := frozen_of_row W6 w.heap.size 0 _ _ R3.out.1
          have f1 := frozen_of_row W6 w.heap.size 1 _ _ R3.out.1
          have f2 := frozen_of_row W6 w.heap.size 2 _ _ R3.out.1
          have c0 := cell_of_row W6 w.heap.size 0 _ _ _ R3.out.1
          have c1 := cell_of_row W6 w.heap.size 1 _ _ _ R3.out.1
          have c2 := cell_of_row W6 w.heap.size 2 _ _ _ R3.out.1
          have g := tk_end R3.out.1 2 (s.extract 0 n)
          have KX := hid (And.intro (tk_below R3.out.2.1 2 (s.extract 0 n)) g)
          clear g
          go_wp2_with fail
          exact bodyPost_ret (v := .tuple #[.agg #[.int .i64 2, .string (s.extract 0 n), .int .i64 0], .int .i64 (n : Int), .int .i64 0]) (by simp [results, Tryz.results16, go_sem, KX.out.2.1, KX.out.2.2.1, KX.out.2.2.2]) rfl ⟨by rw [HZ.out, HE.out]; rfl, KX.out.1⟩
        | false =>
          have HZ : Kpt (X = .err 4) := hid HX.out
          go_wp2_with fail
          go_region_with (first
            | (go_at_call 34; refine (HK.out _).mono ?_; rintro e wk ⟨rfl, rfl⟩)
            | (go_at_call 33; refine (HH.out _).mono ?_; rintro e wk ⟨rfl, rfl⟩))
          have R1 : Kpt (Res w (kwW W.drew)) := hid (R0.out.later (((Below.refl W.heap.size W).drew).alloc (Nat.le_refl _) _))
          generalize kwW W.drew = W4 at R1 ⊢
          go_wp2_with fail
          refine (HN.out.1 W4).mono ?_
          rintro e W5 ⟨rfl, hb5⟩
          have R2 := hid (R1.out.later hb5)
          clear hb5
          go_wp2_with fail
          refine (HN.out.2 W5).mono ?_
          rintro e W6 ⟨rfl, hb6⟩
          have R3 := hid (R2.out.later hb6)
          clear hb6
          have f0 := frozen_of_row W6 w.heap.size 0 _ _ R3.out.1
          have f1 := frozen_of_row W6 w.heap.size 1 _ _ R3.out.1
          have f2 := frozen_of_row W6 w.heap.size 2 _ _ R3.out.1
          have c0 := cell_of_row W6 w.heap.size 0 _ _ _ R3.out.1
          have c1 := cell_of_row W6 w.heap.size 1 _ _ _ R3.out.1
          have c2 := cell_of_row W6 w.heap.size 2 _ _ _ R3.out.1
          have g := tk_end R3.out.1 0 ⟨#[]⟩
          have KX := hid (And.intro (tk_below R3.out.2.1 0 ⟨#[]⟩) g)
          clear g
          go_wp2_with fail
          exact bodyPost_ret (v := .tuple #[.agg #[.int .i64 0, .string ⟨#[]⟩, .int .i64 0], .int .i64 0, .int .i64 4]) (by simp [results, Tryz.results16, go_sem, KX.out.2.1, KX.out.2.2.1, KX.out.2.2.2]) rfl ⟨by rw [HZ.out]; rfl, KX.out.1⟩
end Go.Proofs.YtmgmmbikdmobpaaGreatDoor
