/- syntax: the reference's Variable. | syntax: the reference's neighbours, module. | syntax: the reference's form of a node. | syntax, the reference: TypeDepth. | syntax, the reference: CheckType. -/
import Derived.Test.YtjedcijddlilaaaGreatDoorSyC
import Derived.Test.YtjedcijddlilaaaGreatDoorLxR2
import Derived.Test.YtjedcijddlilaaaGreatDoorLxMe
import Derived.Sort.Walk0
import Derived.Test.YtjedcijddlilaaaGreatDoorSyRq
import Derived.Test.YtjedcijddlilaaaGreatDoorSyD
namespace Go.Proofs.YtjedcijddlilaaaGreatDoor
open Go.RowKit Go.Shelf
attribute [local go_sem] Oper.semAt_some

set_option maxRecDepth 100000 in
theorem rvariable_any (s : ByteArray) (w : World) (hs : s.size ≤ 9223372036854775807) :
    Calls Tryz.prog 17 #[.string s] w fun e w' => e = .returned (.bool (varB s)) ∧ Below w.heap.size w w' := by
  have HW := hid (fun w => ristype_any s w hs)
  rw [typeB_is] at HW
  unfold varB varN
  generalize isWk s.data.toList 2 = R at HW ⊢
  have i0 : s.size = 2 → ∀ w, (Instr.index 9 (.string s) (.int .i64 0)).run Tryz.prog w = .ok (.int .u8 ((s.data.toList.getD 0 0).toNat : Int)) w := fun h => run_index_str s 0 (by omega)
  have i1 : s.size = 2 → ∀ w, (Instr.index 9 (.string s) (.int .i64 1)).run Tryz.prog w = .ok (.int .u8 ((s.data.toList.getD 1 0).toNat : Int)) w := fun h => run_index_str s 1 (by omega)
  have e0 : (s.data.toList.getD 0 0).toNat < 256 := UInt8.toNat_lt _
  have e1 : (s.data.toList.getD 1 0).toNat < 256 := UInt8.toNat_lt _
  generalize (s.data.toList.getD 0 0).toNat = c at i0 e0 ⊢
  generalize (s.data.toList.getD 1 0).toNat = d at i1 e1 ⊢
  cases R with
  | true =>
    rw [Bool.or_true]
    clear i0 i1 e0 e1
    go_enter Tryz.func17, Tryz.ntmps17
    go_wp2_with fail
    refine (HW.out _).mono ?_
    rintro e w3 ⟨rfl, h3⟩
    have H3 := hid h3
    clear h3
    go_wp2_with fail
    go_ret
    exact ⟨rfl, H3.out⟩
  | false =>
    rw [Bool.or_false]
    by_cases h2 : s.size = 2
    · have i0 := i0 h2
      have i1 := i1 h2
      have hd2 : decide (s.size = 2) = true := by simp [h2]
      rw [hd2]
      have hsz : (s.size : Int) = 2 := by omega
      clear hd2 h2 hs
      by_cases h3 : c = 35
      · subst h3
        by_cases h4 : 48 ≤ d
        · by_cases h5 : d ≤ 55
          · have hr : (true && (decide (35 = 35) && (decide (48 ≤ d) && decide (d ≤ 55)))) = true := by simp [h4, h5]
            rw [hr]
            clear hr
            go_enter Tryz.func17, Tryz.ntmps17
            go_wp2_with fail
            refine (HW.out _).mono ?_
            rintro e w3 ⟨rfl, h3⟩
            have H3 := hid h3
            clear h3
            go_wp2_with fail
            go_ret
            exact ⟨by simp; omega, H3.out⟩
          · have hr : (true && (decide (35 = 35) && (decide (48 ≤ d) && decide (d ≤ 55)))) = false := by simp [h5]
            rw [hr]
            clear hr
            go_enter Tryz.func17, Tryz.ntmps17
            go_wp2_with fail
            refine (HW.out _).mono ?_
            rintro e w3 ⟨rfl, h3⟩
            have H3 := hid h3
            clear h3
            go_wp2_with fail
            go_ret
            exact ⟨by simp; omega, H3.out⟩
        · have hr : (true && (decide (35 = 35) && (decide (48 ≤ d) && decide (d ≤ 55)))) = false := by simp [h4]
          rw [hr]
          clear hr
          go_enter Tryz.func17, Tryz.ntmps17
          go_wp2_with fail
          refine (HW.out _).mono ?_
          rintro e w3 ⟨rfl, h3⟩
          have H3 := hid h3
          clear h3
          go_wp2_with fail
          go_ret
          exact ⟨rfl, H3.out⟩
      · have hr : (true && (decide (c = 35) && (decide (48 ≤ d) && decide (d ≤ 55)))) = false := by simp [h3]
        rw [hr]
        clear hr
        have hne : ((c : Int) == 35) = false := by rw [beq_eq_false_iff_ne]; omega
        go_enter Tryz.func17, Tryz.ntmps17
        go_wp2_with fail
        refine (HW.out _).mono ?_
        rintro e w3 ⟨rfl, h3⟩
        have H3 := hid h3
        clear h3
        go_wp2_with fail
        go_ret
        exact ⟨rfl, H3.out⟩
    · have hd2 : decide (s.size = 2) = false := by simp [h2]
      rw [hd2, Bool.false_and]
      have hne : ((s.size : Int) == 2) = false := by rw [beq_eq_false_iff_ne]; omega
      clear i0 i1 hd2
      go_enter Tryz.func17, Tryz.ntmps17
      go_wp2_with fail
      refine (HW.out _).mono ?_
      rintro e w3 ⟨rfl, h3⟩
      have H3 := hid h3
      clear h3
      go_wp2_with fail
      go_ret
      exact ⟨rfl, H3.out⟩
end Go.Proofs.YtjedcijddlilaaaGreatDoor

namespace Go.Proofs.YtjedcijddlilaaaGreatDoor
open Go.RowKit Go.Shelf Go.Sort
attribute [local go_sem] Oper.semAt_some

/-- The error of two names one behind the other. -/
def nbr (a b : ByteArray) : Int := if b = a then 5 else if Op.bytesLess b.toList a.toList then 1 else 0
set_option maxRecDepth 100000 in
theorem neighbours_any (a b : ByteArray) (w : World) : Calls Tryz.prog 157 #[.string a, .string b] w fun e w' => e = .returned (.int .i64 (nbr a b)) ∧ w' = w := by
  unfold nbr
  by_cases he : b = a
  · rw [if_pos he]
    have hee : (a.toList == b.toList) = true := by rw [he]; simp
    clear he
    go_enter Tryz.func157, Tryz.ntmps157
    go_wp2_with fail
    go_ret
    exact ⟨rfl, rfl⟩
  · rw [if_neg he]
    have hee : (a.toList == b.toList) = false := toList_ne (fun e => he e.symm)
    cases h1 : Op.bytesLess a.toList b.toList with
    | true =>
      have h2 : Op.bytesLess b.toList a.toList = false := by
        rw [bytesLess_eq] at h1 ⊢
        rw [decide_eq_false_iff_not]
        exact fun h => List.lt_irrefl _ (List.lt_trans h (of_decide_eq_true h1))
      rw [h2]
      clear he h2
      go_enter Tryz.func157, Tryz.ntmps157
      go_wp2_with fail
      go_ret
      exact ⟨rfl, rfl⟩
    | false =>
      have h2 : Op.bytesLess b.toList a.toList = true := by
        rw [bytesLess_eq] at h1 ⊢
        rw [decide_eq_true_eq]
        have h3 := List.not_lt.1 (of_decide_eq_false h1)
        rcases List.le_iff_lt_or_eq.1 h3 with h4 | h4
        · exact h4
        · rw [h4] at hee; simp at hee
      rw [h2]
      clear he h2
      go_enter Tryz.func157, Tryz.ntmps157
      go_wp2_with fail
      go_ret
      exact ⟨rfl, rfl⟩
theorem emp_is (s : ByteArray) : s.toList.isEmpty = decide (s = ⟨#[]⟩) := by
  by_cases h : s = ⟨#[]⟩
  · rw [decide_eq_true h, h]; simp [ByteArray.toList_eq]
  · rw [decide_eq_false h]
    have h2 := toList_ne h
    cases h3 : s.toList with
    | nil => rw [h3] at h2; simp at h2
    | cons a l => rfl
set_option maxRecDepth 100000 in
theorem rmodule_any (s : ByteArray) (w : World) (hs : s.size ≤ 9223372036854775807) : Calls Tryz.prog 153 #[.string s] w fun e w' => e = .returned (.bool (orgB s)) ∧ Below w.heap.size w w' := by
  have HN := hid (fun w => risname_any s w hs)
  have HP := hid (fun w => rispath_any s w)
  rw [nameB_is] at HN
  rw [rmaj_is] at HP
  have hp : ((majL s.data.toList).2 == 0) = pathB s.data.toList := rfl
  rw [hp] at HP
  unfold orgB modB
  by_cases he : s = ⟨#[]⟩
  · have hd : decide (s = ⟨#[]⟩) = true := decide_eq_true he
    have hee : s.toList.isEmpty = true := by rw [emp_is, hd]
    rw [hd]
    clear he hd hp
    go_enter Tryz.func153, Tryz.ntmps153
    go_wp2_with fail
    go_ret
    exact ⟨rfl, Below.refl _ _⟩
  · have hd : decide (s = ⟨#[]⟩) = false := decide_eq_false he
    have hee : s.toList.isEmpty = false := by rw [emp_is, hd]
    rw [hd]
    clear he hd hp
    generalize isWk s.data.toList 1 = b1 at HN ⊢
    generalize pathB s.data.toList = b2 at HP ⊢
    cases b1 with
    | true =>
      go_enter Tryz.func153, Tryz.ntmps153
      go_wp2_with fail
      refine (HN.out _).mono ?_
      rintro e w1 ⟨rfl, hb1⟩
      have HB1 := hid hb1
      clear hb1
      go_wp2_with fail
      go_ret
      exact ⟨rfl, HB1.out⟩
    | false =>
      go_enter Tryz.func153, Tryz.ntmps153
      go_wp2_with fail
      refine (HN.out _).mono ?_
      rintro e w1 ⟨rfl, hb1⟩
      have HB1 := hid hb1
      clear hb1
      go_wp2_with fail
      refine (HP.out _).mono ?_
      rintro e w2 ⟨rfl, hb2⟩
      have HB2 := hid hb2
      clear hb2
      go_wp2_with fail
      go_ret
      exact ⟨by simp, HB1.out.trans (HB2.out.mono HB1.out.size)⟩
end Go.Proofs.YtjedcijddlilaaaGreatDoor

namespace Go.Proofs.YtjedcijddlilaaaGreatDoor
open Go.RowKit Go.Shelf Go.Sort
attribute [local go_sem] Oper.semAt_some

theorem Tr.eq_nil (T : Tr) (fl : Bool) : T.eq fl .nil = decide (T.len = 0) := by cases T <;> simp [Tr.eq, Tr.len]
theorem fds_nil {T : Tr} (h : T.len = 0) : T.fds = [] := List.eq_nil_of_length_eq_zero (by rw [Tr.fds_len, h])
theorem or_ite (P Q : Prop) [Decidable P] [Decidable Q] (a b : Int) : (if P ∨ Q then a else b) = if P then a else if Q then a else b := by by_cases P <;> by_cases Q <;> simp_all
/-- The error of a node's form, as the reference says it. -/
def rN (k : Int) (la lf : Nat) (m n : ByteArray) (fs : List (ByteArray × Bool)) : Int :=
  if k < 0 ∨ 10 < k then 1 else
  if (k ≠ 10 ∧ (la ≠ (if k = 5 ∨ k = 8 then 1 else 0) ∨ m ≠ ⟨#[]⟩)) ∨ (k ≠ 6 ∧ k ≠ 7 ∧ k ≠ 8 ∧ 0 < lf) ∨ (k ≠ 10 ∧ k ≠ 9 ∧ n ≠ ⟨#[]⟩) then 1 else
  if k ≠ 8 ∧ anyOp fs = true then 1 else
  if 32 < lf ∨ (k = 10 ∧ 8 < la) then 7 else
  if (k = 9 ∧ varB n = false) ∨ (k = 10 ∧ (orgB m = false ∨ isWk n.data.toList 2 = false)) then 4 else
  if allN (fs.map (·.1)) = false then 4 else ordN (fs.map (·.1))
set_option maxHeartbeats 2000000 in
theorem rN_is (t : Ty) : chkN t = rN t.k t.A.len t.F.len t.m t.n t.F.fds := by
  obtain ⟨k, m, n, A, F⟩ := t
  show chkN ⟨k, m, n, A, F⟩ = rN k A.len F.len m n F.fds
  have hF : F.len = 0 → F.fds = [] := fds_nil
  unfold chkN rN nPart restT zeroT namesT Ty.eq
  simp only [Tr.eq_nil]
  rcases (by omega : k = 0 ∨ k = 1 ∨ k = 2 ∨ k = 3 ∨ k = 4 ∨ k = 5 ∨ k = 6 ∨ k = 7 ∨ k = 8 ∨ k = 9 ∨ k = 10 ∨ k < 0 ∨ 10 < k) with
    rfl | rfl | rfl | rfl | rfl | rfl | rfl | rfl | rfl | rfl | rfl | h | h
  case inr.inr.inr.inr.inr.inr.inr.inr.inr.inr.inr.inl =>
    have ht : tArgs k A.len = -1 := by unfold tArgs; rw [if_neg (by omega), if_neg (by omega), if_neg (by omega)]
    rw [ht, if_pos (by simp), if_pos (.inl h)]
  case inr.inr.inr.inr.inr.inr.inr.inr.inr.inr.inr.inr =>
    have ht : tArgs k A.len = -1 := by unfold tArgs; rw [if_neg (by omega), if_neg (by omega), if_neg (by omega)]
    rw [ht, if_pos (by simp), if_pos (.inr h)]
  all_goals
    generalize A.len = la
    by_cases ha0 : la = 0 <;> by_cases ha1 : la = 1 <;> by_cases hf : F.len = 0 <;> by_cases hm : m = ⟨#[]⟩ <;> by_cases hn : n = ⟨#[]⟩ <;> (try have hg := hF hf) <;> (try (have hf2 : 0 < F.len := by omega)) <;> (try (have ha2 : ¬ (la : Int) = 1 := by omega)) <;> simp [tArgs, tNam, Tr.len, *] <;> (try simp only [or_ite]) <;> (try (simp_all; done)) <;> try omega

set_option maxRecDepth 100000 in
set_option maxHeartbeats 16000000 in
theorem rnode_any (w0 : World) (x : TyI w0) (W : World) (hW : Below w0.heap.size w0 W) (hsz : x.t.size ≤ 1099511627776) (hsh : x.t.Sh) :
    Calls Tryz.prog 100 #[.agg #[.int .i64 x.t.k, .string x.t.m, .string x.t.n, .slice x.aa x.t.A.len x.ca, .slice x.af x.t.F.len x.cf]] W fun e W' => e = .returned (.int .i64 (chkN x.t)) ∧ Below W.heap.size W W' := by
  rw [rN_is]
  have hlF : x.t.F.len ≤ 1099511627776 := by have := Tr.len_le x.t.F; have : x.t.size = 1 + x.t.A.size + x.t.F.size := rfl; omega
  have hlA : x.t.A.len ≤ 1099511627776 := by have := Tr.len_le x.t.A; have : x.t.size = 1 + x.t.A.size + x.t.F.size := rfl; omega
  have hfl : x.t.F.fds.length = x.t.F.len := Tr.fds_len _
  have HV := hid (fun w => rvariable_any x.t.n w hsh.2.1)
  have HT := hid (fun w => ristype_any x.t.n w hsh.2.1)
  have HO := hid (fun w => rmodule_any x.t.m w hsh.1)
  rw [typeB_is] at HT
  have HF : Kpt (∀ i, i < x.t.F.len → ∃ bf of, x.af = some ⟨bf, of, none⟩ ∧ ∃ (fn : ByteArray) (op : Bool), x.t.F.fds[i]? = some (fn, op) ∧ fn.size ≤ 9223372036854775807 ∧ W.cell? ⟨bf, of + i * 7, none⟩ = some (.string fn) ∧ W.cell? ⟨bf, of + i * 7 + 6, none⟩ = some (.bool op)) := hid (by
    intro i hlt
    obtain ⟨bf, of, haf, hL⟩ : ∃ b o, x.af = some ⟨b, o, none⟩ ∧ Lies w0 x.t.F true b o := by
      rcases x.hf with h | h
      · rw [h] at hlt; exact absurd hlt (Nat.not_lt_zero _)
      · exact h
    obtain ⟨fn, op, y, hy, hfd, d0, d1, d2, d3, d4, d5, d6⟩ := lies_fd2 x.t.F bf of i hL hlt
    exact ⟨bf, of, haf, fn, op, hfd, hsh.2.2 fn (List.mem_map.2 ⟨_, List.mem_of_getElem? hfd, rfl⟩), old_cell hW d0, old_cell hW d6⟩)
  clear hW hsh hsz
  generalize x.t.k = k
  generalize x.t.m = m at *
  generalize x.t.n = n at *
  generalize x.t.A.len = la at *
  generalize x.t.F.len = lf at *
  generalize x.t.F.fds = fs at *
  generalize x.aa = aa
  generalize x.af = af at *
  generalize x.ca = ca
  generalize x.cf = cf
  clear x
  have hm := emp_is m
  have hn := emp_is n
  obtain ⟨RES, hRES⟩ : ∃ r, rN k la lf m n fs = r := ⟨_, rfl⟩
  rw [hRES]
  have HRES := hid hRES
  clear hRES
  obtain ⟨wa, hwa⟩ : ∃ wa, W.alloc (.cells #[.int .i64 k, .string m, .string n, .slice aa la ca, .slice af lf cf] 25) = wa := ⟨_, rfl⟩
  have hba : Below W.heap.size W wa := by rw [← hwa]; exact (Below.refl _ W).alloc (Nat.le_refl _) _
  have hea : wa.heap[W.heap.size]? = some (.cells #[.int .i64 k, .string m, .string n, .slice aa la ca, .slice af lf cf] 25 (0, 0)) := by rw [← hwa]; exact World.alloc_heap_new _ _
  have hsa : wa.heap.size = W.heap.size + 1 := by rw [← hwa]; simp
  have k0 := cell_of_row wa _ 0 _ _ _ hea
  have k1 := cell_of_row wa _ 1 _ _ _ hea
  have k2 := cell_of_row wa _ 2 _ _ _ hea
  have k3 := cell_of_row wa _ 3 _ _ _ hea
  have k4 := cell_of_row wa _ 4 _ _ _ hea
  have HB := hid (And.intro hba (And.intro hea hsa))
  clear hba hea hsa
  have HFL := hid hfl
  clear hfl
  by_cases ho : k < 0
  · have hr : RES = 1 := by rw [← HRES.out]; unfold rN; rw [if_pos (.inl ho)]
    rw [hr]
    clear hr hm hn hlF hlA
    go_enter Tryz.func100, Tryz.ntmps100
    go_wp2_with fail
    go_ret
    exact ⟨rfl, HB.out.1⟩
  by_cases ho2 : 10 < k
  · have hr : RES = 1 := by rw [← HRES.out]; unfold rN; rw [if_pos (.inr ho2)]
    rw [hr]
    clear hr hm hn hlF hlA
    go_enter Tryz.func100, Tryz.ntmps100
    go_wp2_with fail
    go_ret
    exact ⟨rfl, HB.out.1⟩
  by_cases h4 : k ≤ 4
  · have g5 : k ≠ 5 := by omega
    have g6 : k ≠ 6 := by omega
    have g7 : k ≠ 7 := by omega
    have g8 : k ≠ 8 := by omega
    have g9 : k ≠ 9 := by omega
    have g10 : k ≠ 10 := by omega
    have b5 : (k == 5) = false := by simpa using g5
    have b6 : (k == 6) = false := by simpa using g6
    have b7 : (k == 7) = false := by simpa using g7
    have b8 : (k == 8) = false := by simpa using g8
    have b9 : (k == 9) = false := by simpa using g9
    have b10 : (k == 10) = false := by simpa using g10
    have n8 : (k != 8) = true := by simpa using g8
    have n9 : (k != 9) = true := by simpa using g9
    have n10 : (k != 10) = true := by simpa using g10
    have HG := hid (show (k ≠ 5 ∧ k ≠ 8) ∧ k ≠ 6 ∧ k ≠ 7 ∧ k ≠ 8 ∧ k ≠ 9 ∧ k ≠ 10 by omega)
    clear hlF hlA h4
    by_cases ha : la = 0
    · subst ha
      by_cases hmm : m = ⟨#[]⟩
      · have h2 : m.toList.isEmpty = true := by rw [hm, hmm]; rfl
        by_cases hf : 0 < lf
        · have hr : RES = 1 := by rw [← HRES.out]; unfold rN; rw [if_neg (by omega), if_pos (.inr (.inl ⟨g6, g7, g8, hf⟩))]
          rw [hr]
          clear hr hm hn hmm
          go_enter Tryz.func100, Tryz.ntmps100
          go_wp2_with fail
          go_ret
          exact ⟨rfl, HB.out.1⟩
        · obtain rfl : lf = 0 := by omega
          clear hf
          by_cases hnn : n = ⟨#[]⟩
          · have h3 : n.toList.isEmpty = true := by rw [hn, hnn]; rfl
            have hfs : fs = [] := List.eq_nil_of_length_eq_zero HFL.out
            have hr : RES = 0 := by rw [← HRES.out, hfs]; unfold rN; rw [if_neg (by omega), if_neg (by simp [hmm, hnn, g5, g8]), if_neg (by simp [anyOp]), if_neg (by simp [g10]), if_neg (by simp [g9, g10]), if_neg (by simp [allN])]; rfl
            rw [hr]
            clear hr hm hn hmm hnn hfs
            go_enter Tryz.func100, Tryz.ntmps100
            go_wp2_with fail
            go_loopw [5] (fun x wr => x = .int .i64 0 ∧ wr = wa) (fun _ _ => 0)
            case atStart => exact ⟨rfl, rfl⟩
            case round =>
              obtain ⟨rfl, hw⟩ := hrel
              subst hw
              go_wp2_with fail
              obtain ⟨wz, hz⟩ : ∃ wz, wz = wr := ⟨_, rfl⟩
              subst hz
              go_loopw [6] (fun x wr => x = .int .i64 0 ∧ wr = wz) (fun _ _ => 0)
              case atStart => exact ⟨rfl, rfl⟩
              case round =>
                obtain ⟨rfl, hw⟩ := hrel
                subst hw
                go_wp2_with fail
                obtain ⟨wz, hz⟩ : ∃ wz, wz = wr := ⟨_, rfl⟩
                subst hz
                go_loopw [7] (fun x wr => x = .int .i64 1 ∧ wr = wz) (fun _ _ => 0)
                case atStart => exact ⟨rfl, rfl⟩
                case round =>
                  obtain ⟨rfl, hw⟩ := hrel
                  subst hw
                  go_wp2_with fail
                  go_ret
                  exact ⟨rfl, HB.out.1⟩
          · have h3 : n.toList.isEmpty = false := by rw [hn, decide_eq_false hnn]
            have hr : RES = 1 := by rw [← HRES.out]; unfold rN; rw [if_neg (by omega), if_pos (.inr (.inr ⟨g10, g9, hnn⟩))]
            rw [hr]
            clear hr hm hn hmm hnn
            go_enter Tryz.func100, Tryz.ntmps100
            go_wp2_with fail
            go_ret
            exact ⟨rfl, HB.out.1⟩
      · have h2 : m.toList.isEmpty = false := by rw [hm, decide_eq_false hmm]
        have hr : RES = 1 := by rw [← HRES.out]; unfold rN; rw [if_neg (by omega), if_pos (.inl ⟨g10, .inr hmm⟩)]
        rw [hr]
        clear hr hm hn hmm
        go_enter Tryz.func100, Tryz.ntmps100
        go_wp2_with fail
        go_ret
        exact ⟨rfl, HB.out.1⟩
    · have hr : RES = 1 := by rw [← HRES.out]; unfold rN; rw [if_neg (by omega), if_pos (.inl ⟨g10, .inl (by rw [if_neg (by omega)]; exact ha)⟩)]
      rw [hr]
      have ha2 : ¬ ((la : Int) = 0) := by omega
      clear hr hm hn
      go_enter Tryz.func100, Tryz.ntmps100
      go_wp2_with fail
      go_ret
      exact ⟨rfl, HB.out.1⟩
  by_cases hk5 : k = 5
  · subst hk5
    by_cases ha : la = 1
    · subst ha
      by_cases hmm : m = ⟨#[]⟩
      · have h2 : m.toList.isEmpty = true := by rw [hm, hmm]; rfl
        by_cases hf : 0 < lf
        · have hr : RES = 1 := by rw [← HRES.out]; unfold rN; rw [if_neg (by omega), if_pos (.inr (.inl ⟨by decide, by decide, by decide, hf⟩))]
          rw [hr]
          clear hr hm hn hmm
          go_enter Tryz.func100, Tryz.ntmps100
          go_wp2_with fail
          go_ret
          exact ⟨rfl, HB.out.1⟩
        · obtain rfl : lf = 0 := by omega
          clear hf
          have hfs : fs = [] := List.eq_nil_of_length_eq_zero HFL.out
          by_cases hnn : n = ⟨#[]⟩
          · have h3 : n.toList.isEmpty = true := by rw [hn, hnn]; rfl
            have hr : RES = 0 := by rw [← HRES.out, hfs]; simp [rN, anyOp, allN, ordN, hmm, hnn]
            rw [hr]
            clear hr hm hn hmm hnn hfs
            go_enter Tryz.func100, Tryz.ntmps100
            go_wp2_with fail
            go_loopw [5] (fun x wr => x = .int .i64 0 ∧ wr = wa) (fun _ _ => 0)
            case atStart => exact ⟨rfl, rfl⟩
            case round =>
              obtain ⟨rfl, hw⟩ := hrel
              subst hw
              go_wp2_with fail
              obtain ⟨wz, hz⟩ : ∃ wz, wz = wr := ⟨_, rfl⟩
              subst hz
              go_loopw [6] (fun x wr => x = .int .i64 0 ∧ wr = wz) (fun _ _ => 0)
              case atStart => exact ⟨rfl, rfl⟩
              case round =>
                obtain ⟨rfl, hw⟩ := hrel
                subst hw
                go_wp2_with fail
                obtain ⟨wy, hz⟩ : ∃ wy, wy = wr := ⟨_, rfl⟩
                subst hz
                go_loopw [7] (fun x wr => x = .int .i64 1 ∧ wr = wy) (fun _ _ => 0)
                case atStart => exact ⟨rfl, rfl⟩
                case round =>
                  obtain ⟨rfl, hw⟩ := hrel
                  subst hw
                  go_wp2_with fail
                  go_ret
                  exact ⟨rfl, HB.out.1⟩
          · have h3 : n.toList.isEmpty = false := by rw [hn, decide_eq_false hnn]
            have hr : RES = 1 := by rw [← HRES.out]; unfold rN; rw [if_neg (by omega), if_pos (.inr (.inr ⟨by decide, by decide, hnn⟩))]
            rw [hr]
            clear hr hm hn hnn hmm
            go_enter Tryz.func100, Tryz.ntmps100
            go_wp2_with fail
            go_ret
            exact ⟨rfl, HB.out.1⟩
      · have h2 : m.toList.isEmpty = false := by rw [hm, decide_eq_false hmm]
        have hr : RES = 1 := by rw [← HRES.out]; unfold rN; rw [if_neg (by omega), if_pos (.inl ⟨by decide, .inr hmm⟩)]
        rw [hr]
        clear hr hm hn hmm
        go_enter Tryz.func100, Tryz.ntmps100
        go_wp2_with fail
        go_ret
        exact ⟨rfl, HB.out.1⟩
    · have hr : RES = 1 := by rw [← HRES.out]; unfold rN; rw [if_neg (by omega), if_pos (.inl ⟨by decide, .inl (by simpa using ha)⟩)]
      rw [hr]
      have ha2 : ¬ ((la : Int) = 1) := by omega
      clear hr hm hn
      go_enter Tryz.func100, Tryz.ntmps100
      go_wp2_with fail
      go_ret
      exact ⟨rfl, HB.out.1⟩
  by_cases hk6 : k = 6
  · subst hk6
    by_cases ha : la = 0
    · subst ha
      by_cases hmm : m = ⟨#[]⟩
      · have h2 : m.toList.isEmpty = true := by rw [hm, hmm]; rfl
        by_cases hnn : n = ⟨#[]⟩
        · have h3 : n.toList.isEmpty = true := by rw [hn, hnn]; rfl
          have HR := hid (show RES = if anyOp fs = true then 1 else if 32 < lf then 7 else if allN (fs.map (·.1)) = false then 4 else ordN (fs.map (·.1)) by rw [← HRES.out]; simp [rN, hmm, hnn])
          clear HRES hm hn hmm hnn
          go_enter Tryz.func100, Tryz.ntmps100
          go_wp2_with fail
          go_loopw [5] (fun x wr => ∃ i : Nat, x = .int .i64 (i : Int) ∧ i ≤ lf ∧ Kpt ( anyOp (fs.take i) = false) ∧ wr = wa) (fun x _ => lf - (intOf x).toNat)
          case atStart => exact ⟨0, rfl, by omega, hid rfl, rfl⟩
          case round =>
            obtain ⟨i, rfl, hi, HA, hw⟩ := hrel
            subst hw
            by_cases hlt : i < lf
            · obtain ⟨bf, of, haf, fn, op, hfd, hs, d0, d6⟩ := HF.out i hlt
              have e6 := old_cell HB.out.1 d6
              rw [haf] at k4 ⊢
              have HS := hid (show anyOp (fs.take (i + 1)) = (anyOp (fs.take i) || op) by rw [take_snoc hfd, anyOp_snoc])
              have HFD := hid hfd
              clear hfd hs d0 d6 haf
              cases op with
              | false =>
                go_wp2_with fail
                go_roundw
                case rel => exact ⟨i + 1, by go_num, by omega, hid (by rw [HS.out, HA.out]; rfl), trivial⟩
                case measure => simp [intOf]; omega
              | true =>
                go_wp2_with fail
                go_ret
                have ha : anyOp fs = true := List.any_eq_true.2 ⟨_, List.mem_of_getElem? HFD.out, rfl⟩
                exact ⟨by rw [HR.out, if_pos ha]; rfl, HB.out.1⟩
            · have hr1 : RES = if 32 < lf then 7 else if allN (fs.map (·.1)) = false then 4 else ordN (fs.map (·.1)) := by
                rw [HR.out, if_neg]
                rw [show fs = fs.take i from (List.take_of_length_le (by rw [HFL.out]; omega)).symm, HA.out]; decide
              have HR1 := hid hr1
              clear hr1 HA HR
              by_cases h32 : 32 < lf
              · have HR2 := hid (show RES = 7 by rw [HR1.out, if_pos h32])
                clear HR1
                go_wp2_with fail
                go_ret
                exact ⟨by rw [HR2.out]; rfl, HB.out.1⟩
              have HR2 := hid (show RES = if allN (fs.map (·.1)) = false then 4 else ordN (fs.map (·.1)) by rw [HR1.out, if_neg h32])
              clear HR1
              go_wp2_with fail
              obtain ⟨wz, hz⟩ : ∃ wz, wz = wr := ⟨_, rfl⟩
              subst hz
              go_loopw [6] (fun x wr => ∃ i : Nat, x = .int .i64 (i : Int) ∧ i ≤ lf ∧ Kpt (allN (fs.map (·.1)) = allN ((fs.map (·.1)).drop i)) ∧ Kpt (Below wz.heap.size wz wr)) (fun x _ => lf - (intOf x).toNat)
              case atStart => exact ⟨0, rfl, by omega, hid rfl, hid (Below.refl _ _)⟩
              case round =>
                obtain ⟨j, rfl, hj, HA, HW⟩ := hrel
                have q4 := old_cell HW.out k4
                by_cases hlt2 : j < lf
                · obtain ⟨bf, of, haf, fn, op, hfd, hs, d0, d6⟩ := HF.out j hlt2
                  have e0 := old_cell HW.out (old_cell HB.out.1 d0)
                  rw [haf] at q4 ⊢
                  have HC := hid (risname_any fn wr hs)
                  rw [nameB_is] at HC
                  have hfm : (fs.map (·.1))[j]? = some fn := by rw [List.getElem?_map, hfd]; rfl
                  have hdr : (fs.map (·.1)).drop j = fn :: (fs.map (·.1)).drop (j + 1) := by
                    obtain ⟨h9, h8⟩ := List.getElem?_eq_some_iff.1 hfm
                    conv => rhs; rw [← h8]
                    exact List.drop_eq_getElem_cons h9
                  have HD := hid (show allN (fs.map (·.1)) = (isWk fn.data.toList 1 && allN ((fs.map (·.1)).drop (j + 1))) by rw [HA.out, hdr]; rfl)
                  clear hfd hs d0 d6 hfm hdr haf
                  generalize isWk fn.data.toList 1 = R at HC HD
                  cases R with
                  | false =>
                    go_wp2_with fail
                    refine HC.out.mono ?_
                    rintro e w4 ⟨rfl, hb4⟩
                    have HB4 := hid (HB.out.1.trans ((HW.out.trans (hb4.mono HW.out.size)).mono HB.out.1.size))
                    clear hb4
                    go_wp2_with fail
                    go_ret
                    exact ⟨by rw [HR2.out, if_pos (by rw [HD.out]; rfl)]; rfl, HB4.out⟩
                  | true =>
                    go_wp2_with fail
                    refine HC.out.mono ?_
                    rintro e w4 ⟨rfl, hb4⟩
                    have HB4 := hid (HW.out.trans (hb4.mono HW.out.size))
                    clear hb4
                    go_wp2_with fail
                    go_roundw
                    case rel => exact ⟨j + 1, by go_num, by omega, hid (by rw [HD.out]; rfl), HB4⟩
                    case measure => simp [intOf]; omega
                · have HR3 := hid (show RES = ordN (fs.map (·.1)) by
                    rw [HR2.out, if_neg]
                    rw [HA.out, List.drop_eq_nil_of_le (by rw [List.length_map, HFL.out]; omega)]
                    decide)
                  clear HR2 HA
                  go_wp2_with fail
                  obtain ⟨wy, hy⟩ : ∃ wy, wy = wr := ⟨_, rfl⟩
                  subst hy
                  go_loopw [7] (fun x wr => ∃ i : Nat, x = .int .i64 ((i + 1 : Nat) : Int) ∧ i ≤ lf ∧ Kpt (ordN (fs.map (·.1)) = ordN ((fs.map (·.1)).drop i)) ∧ Kpt (Below wz.heap.size wz wr)) (fun x _ => lf + 1 - (intOf x).toNat)
                  case atStart => exact ⟨0, rfl, by omega, hid rfl, HW⟩
                  case round =>
                    obtain ⟨j, rfl, hj, HA, HW⟩ := hrel
                    have q4 := old_cell HW.out k4
                    by_cases hlt2 : j + 1 < lf
                    · obtain ⟨bf, of, haf, fn, op, hfd, hs, d0, d6⟩ := HF.out j (by omega)
                      obtain ⟨bf', of', haf', fn', op', hfd', hs', d0', d6'⟩ := HF.out (j + 1) hlt2
                      obtain ⟨rfl, rfl⟩ : bf = bf' ∧ of = of' := by rw [haf] at haf'; injection haf' with h; injection h with h1 h2; exact ⟨h1, h2⟩
                      have e0 := old_cell HW.out (old_cell HB.out.1 d0)
                      have e1 := old_cell HW.out (old_cell HB.out.1 d0')
                      rw [haf] at q4 ⊢
                      have c4 := (show ∀ n, (wr.drewN n).cell? ⟨W.heap.size, 4, none⟩ = _ from fun n => q4)
                      have c0 := (show ∀ n, (wr.drewN n).cell? ⟨bf, of + j * 7, none⟩ = _ from fun n => e0)
                      have c1 := (show ∀ n, (wr.drewN n).cell? ⟨bf, of + (j + 1) * 7, none⟩ = _ from fun n => e1)
                      have HC := hid (fun w => neighbours_any fn fn' w)
                      have hfm : (fs.map (·.1))[j]? = some fn := by rw [List.getElem?_map, hfd]; rfl
                      have hfm' : (fs.map (·.1))[j + 1]? = some fn' := by rw [List.getElem?_map, hfd']; rfl
                      have hdr : (fs.map (·.1)).drop j = fn :: (fs.map (·.1)).drop (j + 1) := by
                        obtain ⟨h9, h8⟩ := List.getElem?_eq_some_iff.1 hfm
                        conv => rhs; rw [← h8]
                        exact List.drop_eq_getElem_cons h9
                      have hdr' : (fs.map (·.1)).drop (j + 1) = fn' :: (fs.map (·.1)).drop (j + 1 + 1) := by
                        obtain ⟨h9, h8⟩ := List.getElem?_eq_some_iff.1 hfm'
                        conv => rhs; rw [← h8]
                        exact List.drop_eq_getElem_cons h9
                      have HD := hid (show ordN (fs.map (·.1)) = if nbr fn fn' = 0 then ordN ((fs.map (·.1)).drop (j + 1)) else nbr fn fn' by
                        rw [HA.out, hdr, hdr']; unfold nbr
                        show (if fn' = fn then (5 : Int) else if Op.bytesLess fn'.toList fn.toList then 1 else _) = _
                        by_cases h1 : fn' = fn
                        · simp [h1]
                        · rw [if_neg h1, if_neg h1]; cases Op.bytesLess fn'.toList fn.toList <;> simp)
                      clear hfd hs d0 d6 hfm hdr hfd' hs' d0' d6' hfm' hdr' haf haf'
                      generalize nbr fn fn' = R at HC HD
                      by_cases hR : R = 0
                      · subst hR
                        go_wp2_with fail
                        go_quiet ((go_at_call 157; exact Calls.quiet_of_same (HC.out _)))
                        go_wp2_with fail
                        go_roundw
                        case rel => exact ⟨j + 1, by go_num, by omega, hid (by rw [HD.out]; simp), hid (below_drawn HW.out _)⟩
                        case measure => simp [intOf]; omega
                      · have hR2 : (R != 0) = true := by simpa using hR
                        go_wp2_with fail
                        go_quiet ((go_at_call 157; exact Calls.quiet_of_same (HC.out _)))
                        go_wp2_with fail
                        go_ret
                        exact ⟨by rw [HR3.out, HD.out, if_neg hR]; rfl, below_drawn (HB.out.1.trans (HW.out.mono HB.out.1.size)) _⟩
                    · have HR4 := hid (show RES = 0 by rw [HR3.out, HA.out, ordN_short (by rw [List.length_drop, List.length_map, HFL.out]; omega)])
                      go_wp2_with fail
                      go_ret
                      exact ⟨by rw [HR4.out]; rfl, HB.out.1.trans (HW.out.mono HB.out.1.size)⟩
        · have h3 : n.toList.isEmpty = false := by rw [hn, decide_eq_false hnn]
          have hr : RES = 1 := by rw [← HRES.out]; unfold rN; rw [if_neg (by omega), if_pos (.inr (.inr ⟨by decide, by decide, hnn⟩))]
          rw [hr]
          clear hr hm hn hnn hmm
          go_enter Tryz.func100, Tryz.ntmps100
          go_wp2_with fail
          go_ret
          exact ⟨rfl, HB.out.1⟩
      · have h2 : m.toList.isEmpty = false := by rw [hm, decide_eq_false hmm]
        have hr : RES = 1 := by rw [← HRES.out]; unfold rN; rw [if_neg (by omega), if_pos (.inl ⟨by decide, .inr hmm⟩)]
        rw [hr]
        clear hr hm hn hmm
        go_enter Tryz.func100, Tryz.ntmps100
        go_wp2_with fail
        go_ret
        exact ⟨rfl, HB.out.1⟩
    · have hr : RES = 1 := by rw [← HRES.out]; unfold rN; rw [if_neg (by omega), if_pos (.inl ⟨by decide, .inl (by simpa using ha)⟩)]
      rw [hr]
      have ha2 : ¬ ((la : Int) = 0) := by omega
      clear hr hm hn
      go_enter Tryz.func100, Tryz.ntmps100
      go_wp2_with fail
      go_ret
      exact ⟨rfl, HB.out.1⟩
  by_cases hk7 : k = 7
  · subst hk7
    by_cases ha : la = 0
    · subst ha
      by_cases hmm : m = ⟨#[]⟩
      · have h2 : m.toList.isEmpty = true := by rw [hm, hmm]; rfl
        by_cases hnn : n = ⟨#[]⟩
        · have h3 : n.toList.isEmpty = true := by rw [hn, hnn]; rfl
          have HR := hid (show RES = if anyOp fs = true then 1 else if 32 < lf then 7 else if allN (fs.map (·.1)) = false then 4 else ordN (fs.map (·.1)) by rw [← HRES.out]; simp [rN, hmm, hnn])
          clear HRES hm hn hmm hnn
          go_enter Tryz.func100, Tryz.ntmps100
          go_wp2_with fail
          go_loopw [5] (fun x wr => ∃ i : Nat, x = .int .i64 (i : Int) ∧ i ≤ lf ∧ Kpt ( anyOp (fs.take i) = false) ∧ wr = wa) (fun x _ => lf - (intOf x).toNat)
          case atStart => exact ⟨0, rfl, by omega, hid rfl, rfl⟩
          case round =>
            obtain ⟨i, rfl, hi, HA, hw⟩ := hrel
            subst hw
            by_cases hlt : i < lf
            · obtain ⟨bf, of, haf, fn, op, hfd, hs, d0, d6⟩ := HF.out i hlt
              have e6 := old_cell HB.out.1 d6
              rw [haf] at k4 ⊢
              have HS := hid (show anyOp (fs.take (i + 1)) = (anyOp (fs.take i) || op) by rw [take_snoc hfd, anyOp_snoc])
              have HFD := hid hfd
              clear hfd hs d0 d6 haf
              cases op with
              | false =>
                go_wp2_with fail
                go_roundw
                case rel => exact ⟨i + 1, by go_num, by omega, hid (by rw [HS.out, HA.out]; rfl), trivial⟩
                case measure => simp [intOf]; omega
              | true =>
                go_wp2_with fail
                go_ret
                have ha : anyOp fs = true := List.any_eq_true.2 ⟨_, List.mem_of_getElem? HFD.out, rfl⟩
                exact ⟨by rw [HR.out, if_pos ha]; rfl, HB.out.1⟩
            · have hr1 : RES = if 32 < lf then 7 else if allN (fs.map (·.1)) = false then 4 else ordN (fs.map (·.1)) := by
                rw [HR.out, if_neg]
                rw [show fs = fs.take i from (List.take_of_length_le (by rw [HFL.out]; omega)).symm, HA.out]; decide
              have HR1 := hid hr1
              clear hr1 HA HR
              by_cases h32 : 32 < lf
              · have HR2 := hid (show RES = 7 by rw [HR1.out, if_pos h32])
                clear HR1
                go_wp2_with fail
                go_ret
                exact ⟨by rw [HR2.out]; rfl, HB.out.1⟩
              have HR2 := hid (show RES = if allN (fs.map (·.1)) = false then 4 else ordN (fs.map (·.1)) by rw [HR1.out, if_neg h32])
              clear HR1
              go_wp2_with fail
              obtain ⟨wz, hz⟩ : ∃ wz, wz = wr := ⟨_, rfl⟩
              subst hz
              go_loopw [6] (fun x wr => ∃ i : Nat, x = .int .i64 (i : Int) ∧ i ≤ lf ∧ Kpt (allN (fs.map (·.1)) = allN ((fs.map (·.1)).drop i)) ∧ Kpt (Below wz.heap.size wz wr)) (fun x _ => lf - (intOf x).toNat)
              case atStart => exact ⟨0, rfl, by omega, hid rfl, hid (Below.refl _ _)⟩
              case round =>
                obtain ⟨j, rfl, hj, HA, HW⟩ := hrel
                have q4 := old_cell HW.out k4
                by_cases hlt2 : j < lf
                · obtain ⟨bf, of, haf, fn, op, hfd, hs, d0, d6⟩ := HF.out j hlt2
                  have e0 := old_cell HW.out (old_cell HB.out.1 d0)
                  rw [haf] at q4 ⊢
                  have HC := hid (risname_any fn wr hs)
                  rw [nameB_is] at HC
                  have hfm : (fs.map (·.1))[j]? = some fn := by rw [List.getElem?_map, hfd]; rfl
                  have hdr : (fs.map (·.1)).drop j = fn :: (fs.map (·.1)).drop (j + 1) := by
                    obtain ⟨h9, h8⟩ := List.getElem?_eq_some_iff.1 hfm
                    conv => rhs; rw [← h8]
                    exact List.drop_eq_getElem_cons h9
                  have HD := hid (show allN (fs.map (·.1)) = (isWk fn.data.toList 1 && allN ((fs.map (·.1)).drop (j + 1))) by rw [HA.out, hdr]; rfl)
                  clear hfd hs d0 d6 hfm hdr haf
                  generalize isWk fn.data.toList 1 = R at HC HD
                  cases R with
                  | false =>
                    go_wp2_with fail
                    refine HC.out.mono ?_
                    rintro e w4 ⟨rfl, hb4⟩
                    have HB4 := hid (HB.out.1.trans ((HW.out.trans (hb4.mono HW.out.size)).mono HB.out.1.size))
                    clear hb4
                    go_wp2_with fail
                    go_ret
                    exact ⟨by rw [HR2.out, if_pos (by rw [HD.out]; rfl)]; rfl, HB4.out⟩
                  | true =>
                    go_wp2_with fail
                    refine HC.out.mono ?_
                    rintro e w4 ⟨rfl, hb4⟩
                    have HB4 := hid (HW.out.trans (hb4.mono HW.out.size))
                    clear hb4
                    go_wp2_with fail
                    go_roundw
                    case rel => exact ⟨j + 1, by go_num, by omega, hid (by rw [HD.out]; rfl), HB4⟩
                    case measure => simp [intOf]; omega
                · have HR3 := hid (show RES = ordN (fs.map (·.1)) by
                    rw [HR2.out, if_neg]
                    rw [HA.out, List.drop_eq_nil_of_le (by rw [List.length_map, HFL.out]; omega)]
                    decide)
                  clear HR2 HA
                  go_wp2_with fail
                  obtain ⟨wy, hy⟩ : ∃ wy, wy = wr := ⟨_, rfl⟩
                  subst hy
                  go_loopw [7] (fun x wr => ∃ i : Nat, x = .int .i64 ((i + 1 : Nat) : Int) ∧ i ≤ lf ∧ Kpt (ordN (fs.map (·.1)) = ordN ((fs.map (·.1)).drop i)) ∧ Kpt (Below wz.heap.size wz wr)) (fun x _ => lf + 1 - (intOf x).toNat)
                  case atStart => exact ⟨0, rfl, by omega, hid rfl, HW⟩
                  case round =>
                    obtain ⟨j, rfl, hj, HA, HW⟩ := hrel
                    have q4 := old_cell HW.out k4
                    by_cases hlt2 : j + 1 < lf
                    · obtain ⟨bf, of, haf, fn, op, hfd, hs, d0, d6⟩ := HF.out j (by omega)
                      obtain ⟨bf', of', haf', fn', op', hfd', hs', d0', d6'⟩ := HF.out (j + 1) hlt2
                      obtain ⟨rfl, rfl⟩ : bf = bf' ∧ of = of' := by rw [haf] at haf'; injection haf' with h; injection h with h1 h2; exact ⟨h1, h2⟩
                      have e0 := old_cell HW.out (old_cell HB.out.1 d0)
                      have e1 := old_cell HW.out (old_cell HB.out.1 d0')
                      rw [haf] at q4 ⊢
                      have c4 := (show ∀ n, (wr.drewN n).cell? ⟨W.heap.size, 4, none⟩ = _ from fun n => q4)
                      have c0 := (show ∀ n, (wr.drewN n).cell? ⟨bf, of + j * 7, none⟩ = _ from fun n => e0)
                      have c1 := (show ∀ n, (wr.drewN n).cell? ⟨bf, of + (j + 1) * 7, none⟩ = _ from fun n => e1)
                      have HC := hid (fun w => neighbours_any fn fn' w)
                      have hfm : (fs.map (·.1))[j]? = some fn := by rw [List.getElem?_map, hfd]; rfl
                      have hfm' : (fs.map (·.1))[j + 1]? = some fn' := by rw [List.getElem?_map, hfd']; rfl
                      have hdr : (fs.map (·.1)).drop j = fn :: (fs.map (·.1)).drop (j + 1) := by
                        obtain ⟨h9, h8⟩ := List.getElem?_eq_some_iff.1 hfm
                        conv => rhs; rw [← h8]
                        exact List.drop_eq_getElem_cons h9
                      have hdr' : (fs.map (·.1)).drop (j + 1) = fn' :: (fs.map (·.1)).drop (j + 1 + 1) := by
                        obtain ⟨h9, h8⟩ := List.getElem?_eq_some_iff.1 hfm'
                        conv => rhs; rw [← h8]
                        exact List.drop_eq_getElem_cons h9
                      have HD := hid (show ordN (fs.map (·.1)) = if nbr fn fn' = 0 then ordN ((fs.map (·.1)).drop (j + 1)) else nbr fn fn' by
                        rw [HA.out, hdr, hdr']; unfold nbr
                        show (if fn' = fn then (5 : Int) else if Op.bytesLess fn'.toList fn.toList then 1 else _) = _
                        by_cases h1 : fn' = fn
                        · simp [h1]
                        · rw [if_neg h1, if_neg h1]; cases Op.bytesLess fn'.toList fn.toList <;> simp)
                      clear hfd hs d0 d6 hfm hdr hfd' hs' d0' d6' hfm' hdr' haf haf'
                      generalize nbr fn fn' = R at HC HD
                      by_cases hR : R = 0
                      · subst hR
                        go_wp2_with fail
                        go_quiet ((go_at_call 157; exact Calls.quiet_of_same (HC.out _)))
                        go_wp2_with fail
                        go_roundw
                        case rel => exact ⟨j + 1, by go_num, by omega, hid (by rw [HD.out]; simp), hid (below_drawn HW.out _)⟩
                        case measure => simp [intOf]; omega
                      · have hR2 : (R != 0) = true := by simpa using hR
                        go_wp2_with fail
                        go_quiet ((go_at_call 157; exact Calls.quiet_of_same (HC.out _)))
                        go_wp2_with fail
                        go_ret
                        exact ⟨by rw [HR3.out, HD.out, if_neg hR]; rfl, below_drawn (HB.out.1.trans (HW.out.mono HB.out.1.size)) _⟩
                    · have HR4 := hid (show RES = 0 by rw [HR3.out, HA.out, ordN_short (by rw [List.length_drop, List.length_map, HFL.out]; omega)])
                      go_wp2_with fail
                      go_ret
                      exact ⟨by rw [HR4.out]; rfl, HB.out.1.trans (HW.out.mono HB.out.1.size)⟩
        · have h3 : n.toList.isEmpty = false := by rw [hn, decide_eq_false hnn]
          have hr : RES = 1 := by rw [← HRES.out]; unfold rN; rw [if_neg (by omega), if_pos (.inr (.inr ⟨by decide, by decide, hnn⟩))]
          rw [hr]
          clear hr hm hn hnn hmm
          go_enter Tryz.func100, Tryz.ntmps100
          go_wp2_with fail
          go_ret
          exact ⟨rfl, HB.out.1⟩
      · have h2 : m.toList.isEmpty = false := by rw [hm, decide_eq_false hmm]
        have hr : RES = 1 := by rw [← HRES.out]; unfold rN; rw [if_neg (by omega), if_pos (.inl ⟨by decide, .inr hmm⟩)]
        rw [hr]
        clear hr hm hn hmm
        go_enter Tryz.func100, Tryz.ntmps100
        go_wp2_with fail
        go_ret
        exact ⟨rfl, HB.out.1⟩
    · have hr : RES = 1 := by rw [← HRES.out]; unfold rN; rw [if_neg (by omega), if_pos (.inl ⟨by decide, .inl (by simpa using ha)⟩)]
      rw [hr]
      have ha2 : ¬ ((la : Int) = 0) := by omega
      clear hr hm hn
      go_enter Tryz.func100, Tryz.ntmps100
      go_wp2_with fail
      go_ret
      exact ⟨rfl, HB.out.1⟩
  by_cases hk8 : k = 8
  · subst hk8
    by_cases ha : la = 1
    · subst ha
      by_cases hmm : m = ⟨#[]⟩
      · have h2 : m.toList.isEmpty = true := by rw [hm, hmm]; rfl
        by_cases hnn : n = ⟨#[]⟩
        · have h3 : n.toList.isEmpty = true := by rw [hn, hnn]; rfl
          have HR := hid (show RES = if false = true then 1 else if 32 < lf then 7 else if allN (fs.map (·.1)) = false then 4 else ordN (fs.map (·.1)) by rw [← HRES.out]; simp [rN, hmm, hnn])
          clear HRES hm hn hmm hnn
          go_enter Tryz.func100, Tryz.ntmps100
          go_wp2_with fail
          go_loopw [5] (fun x wr => ∃ i : Nat, x = .int .i64 (i : Int) ∧ i ≤ lf ∧ wr = wa) (fun x _ => lf - (intOf x).toNat)
          case atStart => exact ⟨0, rfl, by omega, rfl⟩
          case round =>
            obtain ⟨i, rfl, hi, hw⟩ := hrel
            subst hw
            by_cases hlt : i < lf
            · obtain ⟨bf, of, haf, fn, op, hfd, hs, d0, d6⟩ := HF.out i hlt
              have e6 := old_cell HB.out.1 d6
              rw [haf] at k4 ⊢
              skip
              have HFD := hid hfd
              clear hfd hs d0 d6 haf
              cases op with
              | false =>
                go_wp2_with fail
                go_roundw
                case rel => exact ⟨i + 1, by go_num, by omega, trivial⟩
                case measure => simp [intOf]; omega
              | true =>
                go_wp2_with fail
                go_roundw
                case rel => exact ⟨i + 1, by go_num, by omega, trivial⟩
                case measure => simp [intOf]; omega
            · have hr1 : RES = if 32 < lf then 7 else if allN (fs.map (·.1)) = false then 4 else ordN (fs.map (·.1)) := by
                rw [HR.out, if_neg]
                decide
              have HR1 := hid hr1
              clear hr1 HR
              by_cases h32 : 32 < lf
              · have HR2 := hid (show RES = 7 by rw [HR1.out, if_pos h32])
                clear HR1
                go_wp2_with fail
                go_ret
                exact ⟨by rw [HR2.out]; rfl, HB.out.1⟩
              have HR2 := hid (show RES = if allN (fs.map (·.1)) = false then 4 else ordN (fs.map (·.1)) by rw [HR1.out, if_neg h32])
              clear HR1
              go_wp2_with fail
              obtain ⟨wz, hz⟩ : ∃ wz, wz = wr := ⟨_, rfl⟩
              subst hz
              go_loopw [6] (fun x wr => ∃ i : Nat, x = .int .i64 (i : Int) ∧ i ≤ lf ∧ Kpt (allN (fs.map (·.1)) = allN ((fs.map (·.1)).drop i)) ∧ Kpt (Below wz.heap.size wz wr)) (fun x _ => lf - (intOf x).toNat)
              case atStart => exact ⟨0, rfl, by omega, hid rfl, hid (Below.refl _ _)⟩
              case round =>
                obtain ⟨j, rfl, hj, HA, HW⟩ := hrel
                have q4 := old_cell HW.out k4
                by_cases hlt2 : j < lf
                · obtain ⟨bf, of, haf, fn, op, hfd, hs, d0, d6⟩ := HF.out j hlt2
                  have e0 := old_cell HW.out (old_cell HB.out.1 d0)
                  rw [haf] at q4 ⊢
                  have HC := hid (risname_any fn wr hs)
                  rw [nameB_is] at HC
                  have hfm : (fs.map (·.1))[j]? = some fn := by rw [List.getElem?_map, hfd]; rfl
                  have hdr : (fs.map (·.1)).drop j = fn :: (fs.map (·.1)).drop (j + 1) := by
                    obtain ⟨h9, h8⟩ := List.getElem?_eq_some_iff.1 hfm
                    conv => rhs; rw [← h8]
                    exact List.drop_eq_getElem_cons h9
                  have HD := hid (show allN (fs.map (·.1)) = (isWk fn.data.toList 1 && allN ((fs.map (·.1)).drop (j + 1))) by rw [HA.out, hdr]; rfl)
                  clear hfd hs d0 d6 hfm hdr haf
                  generalize isWk fn.data.toList 1 = R at HC HD
                  cases R with
                  | false =>
                    go_wp2_with fail
                    refine HC.out.mono ?_
                    rintro e w4 ⟨rfl, hb4⟩
                    have HB4 := hid (HB.out.1.trans ((HW.out.trans (hb4.mono HW.out.size)).mono HB.out.1.size))
                    clear hb4
                    go_wp2_with fail
                    go_ret
                    exact ⟨by rw [HR2.out, if_pos (by rw [HD.out]; rfl)]; rfl, HB4.out⟩
                  | true =>
                    go_wp2_with fail
                    refine HC.out.mono ?_
                    rintro e w4 ⟨rfl, hb4⟩
                    have HB4 := hid (HW.out.trans (hb4.mono HW.out.size))
                    clear hb4
                    go_wp2_with fail
                    go_roundw
                    case rel => exact ⟨j + 1, by go_num, by omega, hid (by rw [HD.out]; rfl), HB4⟩
                    case measure => simp [intOf]; omega
                · have HR3 := hid (show RES = ordN (fs.map (·.1)) by
                    rw [HR2.out, if_neg]
                    rw [HA.out, List.drop_eq_nil_of_le (by rw [List.length_map, HFL.out]; omega)]
                    decide)
                  clear HR2 HA
                  go_wp2_with fail
                  obtain ⟨wy, hy⟩ : ∃ wy, wy = wr := ⟨_, rfl⟩
                  subst hy
                  go_loopw [7] (fun x wr => ∃ i : Nat, x = .int .i64 ((i + 1 : Nat) : Int) ∧ i ≤ lf ∧ Kpt (ordN (fs.map (·.1)) = ordN ((fs.map (·.1)).drop i)) ∧ Kpt (Below wz.heap.size wz wr)) (fun x _ => lf + 1 - (intOf x).toNat)
                  case atStart => exact ⟨0, rfl, by omega, hid rfl, HW⟩
                  case round =>
                    obtain ⟨j, rfl, hj, HA, HW⟩ := hrel
                    have q4 := old_cell HW.out k4
                    by_cases hlt2 : j + 1 < lf
                    · obtain ⟨bf, of, haf, fn, op, hfd, hs, d0, d6⟩ := HF.out j (by omega)
                      obtain ⟨bf', of', haf', fn', op', hfd', hs', d0', d6'⟩ := HF.out (j + 1) hlt2
                      obtain ⟨rfl, rfl⟩ : bf = bf' ∧ of = of' := by rw [haf] at haf'; injection haf' with h; injection h with h1 h2; exact ⟨h1, h2⟩
                      have e0 := old_cell HW.out (old_cell HB.out.1 d0)
                      have e1 := old_cell HW.out (old_cell HB.out.1 d0')
                      rw [haf] at q4 ⊢
                      have c4 := (show ∀ n, (wr.drewN n).cell? ⟨W.heap.size, 4, none⟩ = _ from fun n => q4)
                      have c0 := (show ∀ n, (wr.drewN n).cell? ⟨bf, of + j * 7, none⟩ = _ from fun n => e0)
                      have c1 := (show ∀ n, (wr.drewN n).cell? ⟨bf, of + (j + 1) * 7, none⟩ = _ from fun n => e1)
                      have HC := hid (fun w => neighbours_any fn fn' w)
                      have hfm : (fs.map (·.1))[j]? = some fn := by rw [List.getElem?_map, hfd]; rfl
                      have hfm' : (fs.map (·.1))[j + 1]? = some fn' := by rw [List.getElem?_map, hfd']; rfl
                      have hdr : (fs.map (·.1)).drop j = fn :: (fs.map (·.1)).drop (j + 1) := by
                        obtain ⟨h9, h8⟩ := List.getElem?_eq_some_iff.1 hfm
                        conv => rhs; rw [← h8]
                        exact List.drop_eq_getElem_cons h9
                      have hdr' : (fs.map (·.1)).drop (j + 1) = fn' :: (fs.map (·.1)).drop (j + 1 + 1) := by
                        obtain ⟨h9, h8⟩ := List.getElem?_eq_some_iff.1 hfm'
                        conv => rhs; rw [← h8]
                        exact List.drop_eq_getElem_cons h9
                      have HD := hid (show ordN (fs.map (·.1)) = if nbr fn fn' = 0 then ordN ((fs.map (·.1)).drop (j + 1)) else nbr fn fn' by
                        rw [HA.out, hdr, hdr']; unfold nbr
                        show (if fn' = fn then (5 : Int) else if Op.bytesLess fn'.toList fn.toList then 1 else _) = _
                        by_cases h1 : fn' = fn
                        · simp [h1]
                        · rw [if_neg h1, if_neg h1]; cases Op.bytesLess fn'.toList fn.toList <;> simp)
                      clear hfd hs d0 d6 hfm hdr hfd' hs' d0' d6' hfm' hdr' haf haf'
                      generalize nbr fn fn' = R at HC HD
                      by_cases hR : R = 0
                      · subst hR
                        go_wp2_with fail
                        go_quiet ((go_at_call 157; exact Calls.quiet_of_same (HC.out _)))
                        go_wp2_with fail
                        go_roundw
                        case rel => exact ⟨j + 1, by go_num, by omega, hid (by rw [HD.out]; simp), hid (below_drawn HW.out _)⟩
                        case measure => simp [intOf]; omega
                      · have hR2 : (R != 0) = true := by simpa using hR
                        go_wp2_with fail
                        go_quiet ((go_at_call 157; exact Calls.quiet_of_same (HC.out _)))
                        go_wp2_with fail
                        go_ret
                        exact ⟨by rw [HR3.out, HD.out, if_neg hR]; rfl, below_drawn (HB.out.1.trans (HW.out.mono HB.out.1.size)) _⟩
                    · have HR4 := hid (show RES = 0 by rw [HR3.out, HA.out, ordN_short (by rw [List.length_drop, List.length_map, HFL.out]; omega)])
                      go_wp2_with fail
                      go_ret
                      exact ⟨by rw [HR4.out]; rfl, HB.out.1.trans (HW.out.mono HB.out.1.size)⟩
        · have h3 : n.toList.isEmpty = false := by rw [hn, decide_eq_false hnn]
          have hr : RES = 1 := by rw [← HRES.out]; unfold rN; rw [if_neg (by omega), if_pos (.inr (.inr ⟨by decide, by decide, hnn⟩))]
          rw [hr]
          clear hr hm hn hnn hmm
          go_enter Tryz.func100, Tryz.ntmps100
          go_wp2_with fail
          go_ret
          exact ⟨rfl, HB.out.1⟩
      · have h2 : m.toList.isEmpty = false := by rw [hm, decide_eq_false hmm]
        have hr : RES = 1 := by rw [← HRES.out]; unfold rN; rw [if_neg (by omega), if_pos (.inl ⟨by decide, .inr hmm⟩)]
        rw [hr]
        clear hr hm hn hmm
        go_enter Tryz.func100, Tryz.ntmps100
        go_wp2_with fail
        go_ret
        exact ⟨rfl, HB.out.1⟩
    · have hr : RES = 1 := by rw [← HRES.out]; unfold rN; rw [if_neg (by omega), if_pos (.inl ⟨by decide, .inl (by simpa using ha)⟩)]
      rw [hr]
      have ha2 : ¬ ((la : Int) = 1) := by omega
      clear hr hm hn
      go_enter Tryz.func100, Tryz.ntmps100
      go_wp2_with fail
      go_ret
      exact ⟨rfl, HB.out.1⟩
  by_cases hk9 : k = 9
  · subst hk9
    by_cases ha : la = 0
    · subst ha
      by_cases hmm : m = ⟨#[]⟩
      · have h2 : m.toList.isEmpty = true := by rw [hm, hmm]; rfl
        by_cases hf : 0 < lf
        · have hr : RES = 1 := by rw [← HRES.out]; unfold rN; rw [if_neg (by omega), if_pos (.inr (.inl ⟨by decide, by decide, by decide, hf⟩))]
          rw [hr]
          clear hr hm hn hmm
          go_enter Tryz.func100, Tryz.ntmps100
          go_wp2_with fail
          go_ret
          exact ⟨rfl, HB.out.1⟩
        · obtain rfl : lf = 0 := by omega
          clear hf
          have hfs : fs = [] := List.eq_nil_of_length_eq_zero HFL.out
          cases hv : varB n with
          | true =>
            have hr : RES = 0 := by rw [← HRES.out, hfs]; simp [rN, anyOp, allN, ordN, hmm, hv]
            rw [hr]
            rw [hv] at HV
            clear hr hm hn hmm hfs hv
            go_enter Tryz.func100, Tryz.ntmps100
            go_wp2_with fail
            go_loopw [5] (fun x wr => x = .int .i64 0 ∧ wr = wa) (fun _ _ => 0)
            case atStart => exact ⟨rfl, rfl⟩
            case round =>
              obtain ⟨rfl, hw⟩ := hrel
              subst hw
              go_wp2_with fail
              refine (HV.out _).mono ?_
              rintro e w1 ⟨rfl, hb1⟩
              have q4 := old_cell hb1 k4
              have q0 := old_cell hb1 k0
              have HB1 := hid (HB.out.1.trans (hb1.mono HB.out.1.size))
              clear hb1
              go_wp2_with fail
              go_loopw [6] (fun x wr => x = .int .i64 0 ∧ wr = w1) (fun _ _ => 0)
              case atStart => exact ⟨rfl, rfl⟩
              case round =>
                obtain ⟨rfl, hw⟩ := hrel
                subst hw
                go_wp2_with fail
                obtain ⟨wy, hz⟩ : ∃ wy, wy = wr := ⟨_, rfl⟩
                subst hz
                go_loopw [7] (fun x wr => x = .int .i64 1 ∧ wr = wy) (fun _ _ => 0)
                case atStart => exact ⟨rfl, rfl⟩
                case round =>
                  obtain ⟨rfl, hw⟩ := hrel
                  subst hw
                  go_wp2_with fail
                  go_ret
                  exact ⟨rfl, HB1.out⟩
          | false =>
            have hr : RES = 4 := by rw [← HRES.out, hfs]; simp [rN, anyOp, hmm, hv]
            rw [hr]
            rw [hv] at HV
            clear hr hm hn hmm hfs hv
            go_enter Tryz.func100, Tryz.ntmps100
            go_wp2_with fail
            go_loopw [5] (fun x wr => x = .int .i64 0 ∧ wr = wa) (fun _ _ => 0)
            case atStart => exact ⟨rfl, rfl⟩
            case round =>
              obtain ⟨rfl, hw⟩ := hrel
              subst hw
              go_wp2_with fail
              refine (HV.out _).mono ?_
              rintro e w1 ⟨rfl, hb1⟩
              have HB1 := hid (HB.out.1.trans (hb1.mono HB.out.1.size))
              clear hb1
              go_wp2_with fail
              go_ret
              exact ⟨rfl, HB1.out⟩
      · have h2 : m.toList.isEmpty = false := by rw [hm, decide_eq_false hmm]
        have hr : RES = 1 := by rw [← HRES.out]; unfold rN; rw [if_neg (by omega), if_pos (.inl ⟨by decide, .inr hmm⟩)]
        rw [hr]
        clear hr hm hn hmm
        go_enter Tryz.func100, Tryz.ntmps100
        go_wp2_with fail
        go_ret
        exact ⟨rfl, HB.out.1⟩
    · have hr : RES = 1 := by rw [← HRES.out]; unfold rN; rw [if_neg (by omega), if_pos (.inl ⟨by decide, .inl (by simpa using ha)⟩)]
      rw [hr]
      have ha2 : ¬ ((la : Int) = 0) := by omega
      clear hr hm hn
      go_enter Tryz.func100, Tryz.ntmps100
      go_wp2_with fail
      go_ret
      exact ⟨rfl, HB.out.1⟩
  by_cases hk10 : k = 10
  · subst hk10
    by_cases hf : 0 < lf
    · have hr : RES = 1 := by rw [← HRES.out]; unfold rN; rw [if_neg (by omega), if_pos (.inr (.inl ⟨by decide, by decide, by decide, hf⟩))]
      rw [hr]
      clear hr hm hn
      go_enter Tryz.func100, Tryz.ntmps100
      go_wp2_with fail
      go_ret
      exact ⟨rfl, HB.out.1⟩
    · obtain rfl : lf = 0 := by omega
      clear hf
      have hfs : fs = [] := List.eq_nil_of_length_eq_zero HFL.out
      by_cases h8 : 8 < la
      · have hr : RES = 7 := by rw [← HRES.out, hfs]; simp [rN, anyOp, h8]
        rw [hr]
        clear hr hm hn hfs
        go_enter Tryz.func100, Tryz.ntmps100
        go_wp2_with fail
        go_loopw [5] (fun x wr => x = .int .i64 0 ∧ wr = wa) (fun _ _ => 0)
        case atStart => exact ⟨rfl, rfl⟩
        case round =>
          obtain ⟨rfl, hw⟩ := hrel
          subst hw
          go_wp2_with fail
          go_ret
          exact ⟨rfl, HB.out.1⟩
      cases hv : orgB m with
      | false =>
        have hr : RES = 4 := by rw [← HRES.out, hfs]; simp [rN, anyOp, hv, h8]
        rw [hr]
        rw [hv] at HO
        clear hr hm hn hfs hv
        go_enter Tryz.func100, Tryz.ntmps100
        go_wp2_with fail
        go_loopw [5] (fun x wr => x = .int .i64 0 ∧ wr = wa) (fun _ _ => 0)
        case atStart => exact ⟨rfl, rfl⟩
        case round =>
          obtain ⟨rfl, hw⟩ := hrel
          subst hw
          go_wp2_with fail
          refine (HO.out _).mono ?_
          rintro e w1 ⟨rfl, hb1⟩
          have HB1 := hid (HB.out.1.trans (hb1.mono HB.out.1.size))
          clear hb1
          go_wp2_with fail
          go_ret
          exact ⟨rfl, HB1.out⟩
      | true =>
        rw [hv] at HO
        cases ht : isWk n.data.toList 2 with
        | false =>
          have hr : RES = 4 := by rw [← HRES.out, hfs]; simp [rN, anyOp, hv, ht, h8]
          rw [hr]
          rw [ht] at HT
          clear hr hm hn hfs hv ht
          go_enter Tryz.func100, Tryz.ntmps100
          go_wp2_with fail
          go_loopw [5] (fun x wr => x = .int .i64 0 ∧ wr = wa) (fun _ _ => 0)
          case atStart => exact ⟨rfl, rfl⟩
          case round =>
            obtain ⟨rfl, hw⟩ := hrel
            subst hw
            go_wp2_with fail
            refine (HO.out _).mono ?_
            rintro e w1 ⟨rfl, hb1⟩
            have q2 := old_cell hb1 k2
            have HB1 := hid (HB.out.1.trans (hb1.mono HB.out.1.size))
            clear hb1
            go_wp2_with fail
            refine (HT.out _).mono ?_
            rintro e w2 ⟨rfl, hb1⟩
            have HB2 := hid (HB1.out.trans (hb1.mono HB1.out.size))
            clear hb1
            go_wp2_with fail
            go_ret
            exact ⟨rfl, HB2.out⟩
        | true =>
          have hr : RES = 0 := by rw [← HRES.out, hfs]; simp [rN, anyOp, allN, ordN, hv, ht, h8]
          rw [hr]
          rw [ht] at HT
          clear hr hm hn hfs hv ht
          go_enter Tryz.func100, Tryz.ntmps100
          go_wp2_with fail
          go_loopw [5] (fun x wr => x = .int .i64 0 ∧ wr = wa) (fun _ _ => 0)
          case atStart => exact ⟨rfl, rfl⟩
          case round =>
            obtain ⟨rfl, hw⟩ := hrel
            subst hw
            go_wp2_with fail
            refine (HO.out _).mono ?_
            rintro e w1 ⟨rfl, hb1⟩
            have q2 := old_cell hb1 k2
            have q4 := old_cell hb1 k4
            have HB1 := hid (HB.out.1.trans (hb1.mono HB.out.1.size))
            clear hb1
            go_wp2_with fail
            refine (HT.out _).mono ?_
            rintro e w2 ⟨rfl, hb1⟩
            have r4 := old_cell hb1 q4
            have HB2 := hid (HB1.out.trans (hb1.mono HB1.out.size))
            clear hb1
            go_wp2_with fail
            go_loopw [6] (fun x wr => x = .int .i64 0 ∧ wr = w2) (fun _ _ => 0)
            case atStart => exact ⟨rfl, rfl⟩
            case round =>
              obtain ⟨rfl, hw⟩ := hrel
              subst hw
              go_wp2_with fail
              obtain ⟨wy, hz⟩ : ∃ wy, wy = wr := ⟨_, rfl⟩
              subst hz
              go_loopw [7] (fun x wr => x = .int .i64 1 ∧ wr = wy) (fun _ _ => 0)
              case atStart => exact ⟨rfl, rfl⟩
              case round =>
                obtain ⟨rfl, hw⟩ := hrel
                subst hw
                go_wp2_with fail
                go_ret
                exact ⟨rfl, HB2.out⟩
  omega
end Go.Proofs.YtjedcijddlilaaaGreatDoor

namespace Go.Proofs.YtjedcijddlilaaaGreatDoor
open Go.RowKit Go.Shelf
attribute [local go_sem] Oper.semAt_some
def dmax (l : List Ty) (i : Nat) : Nat := maxL ((l.take i).map Ty.depth)
theorem dmax_succ {l : List Ty} {i : Nat} {y : Ty} (h : l[i]? = some y) : dmax l (i + 1) = max (dmax l i) y.depth := by
  unfold dmax
  rw [List.take_add_one, h, List.map_append, maxL_append]
  simp [maxL]
theorem dmax_le (t : Ty) (i : Nat) : dmax t.parts i ≤ t.size := by
  unfold dmax
  refine maxL_le fun a ha => ?_
  obtain ⟨u, hu, rfl⟩ := List.mem_map.1 ha
  have h1 := Ty.part_size (List.mem_of_mem_take hu)
  have h2 := u.depth_size
  omega
def RdT (w0 : World) (s : Nat) : Prop := ∀ x : TyI w0, x.t.size ≤ s → ∀ W, Below w0.heap.size w0 W → Calls Tryz.prog 50 #[.agg #[.int .i64 x.t.k, .string x.t.m, .string x.t.n, .slice x.aa x.t.A.len x.ca, .slice x.af x.t.F.len x.cf]] W
  fun e W' => e = .returned (.int .i64 (x.t.depth : Int)) ∧ Below W.heap.size W W'
set_option maxRecDepth 100000 in
set_option maxHeartbeats 4000000 in
theorem rd_step (w0 : World) (s : Nat) (hs : s + 1 ≤ 1099511627776) (ih : RdT w0 s) : RdT w0 (s + 1) := by
  intro x hx W hW
  have HI := hid ih
  clear ih
  obtain ⟨wa, hwa⟩ : ∃ wa, W.alloc (.cells #[.int .i64 x.t.k, .string x.t.m, .string x.t.n, .slice x.aa x.t.A.len x.ca, .slice x.af x.t.F.len x.cf] 25) = wa := ⟨_, rfl⟩
  have hba : Below W.heap.size W wa := by rw [← hwa]; exact (Below.refl _ W).alloc (Nat.le_refl _) _
  have hea : wa.heap[W.heap.size]? = some (.cells #[.int .i64 x.t.k, .string x.t.m, .string x.t.n, .slice x.aa x.t.A.len x.ca, .slice x.af x.t.F.len x.cf] 25 (0, 0)) := by rw [← hwa]; exact World.alloc_heap_new _ _
  have k0 := cell_of_row wa _ 0 _ _ _ hea
  have k1 := cell_of_row wa _ 1 _ _ _ hea
  have k2 := cell_of_row wa _ 2 _ _ _ hea
  have k3 := cell_of_row wa _ 3 _ _ _ hea
  have k4 := cell_of_row wa _ 4 _ _ _ hea
  have HP := hid (rparts_any w0 x wa (hW.trans (hba.mono hW.size)) (by omega))
  have HB := hid (And.intro hba hW)
  clear hba hea hW
  go_enter Tryz.func50, Tryz.ntmps50
  go_wp2_with fail
  refine HP.out.mono ?_
  rintro e w1 ⟨v, rs, rfl, hrs, hrow, hb1⟩
  obtain ⟨p, c, rfl⟩ := own_slice hrow
  clear k0 k1 k2 k3 k4 hwa
  have hln : rs.length = x.t.parts.length := by rw [← hrs, List.length_map]
  have hpz : dmax x.t.parts x.t.parts.length + 1 = x.t.depth := by unfold dmax; rw [List.take_length, Ty.depth_parts]; omega
  have hpl : x.t.parts.length < x.t.size := by
    have h : ∀ l : List Ty, l.length ≤ (l.map Ty.size).sum := fun l => by
      induction l with
      | nil => exact Nat.le_refl _
      | cons a l ih => simp only [List.length_cons, List.map_cons, List.sum_cons, Ty.size]; omega
    rw [Ty.size_parts]
    have := h x.t.parts
    omega
  obtain ⟨L, hL⟩ : ∃ L, rs.length = L := ⟨_, rfl⟩
  rw [hL] at hrow ⊢
  have hLs : L < x.t.size := by omega
  have H1 := hid (And.intro hrs (And.intro hrow (And.intro hb1 (And.intro hL (And.intro (hln.symm.trans hL) hpz)))))
  clear hrs hrow hb1 hln hpz hpl hL
  go_wp2_with fail
  go_loopw [3, 5] (fun q a wr => ∃ (i : Nat), a = .int .i64 (i : Int) ∧ i ≤ L ∧ q = .int .i64 (dmax x.t.parts i : Int) ∧ Below w1.heap.size w1 wr) (fun _ a _ => L - (intOf a).toNat)
  case atStart => exact ⟨0, rfl, Nat.zero_le _, rfl, Below.refl _ _⟩
  case round =>
    obtain ⟨i, rfl, hi, rfl, hB⟩ := hrel
    have HN := hid hB
    by_cases hlt : i < L
    · obtain ⟨g, cap, hv, _, _⟩ := H1.out.2.1.form (by omega)
      cases hv
      obtain ⟨y, hy⟩ : ∃ y, rs[i]? = some y := ⟨_, List.getElem?_eq_getElem (by rw [H1.out.2.2.2.1]; exact hlt)⟩
      have hc : ∀ j u, y.cells.toList[j]? = some u → j < 5 → wr.cell? ⟨g, i * 5 + j, none⟩ = some u := fun j u hu hj => by
        refine old_cell hB ?_
        rw [H1.out.2.1.cellAt (i * 5 + j) (by omega)]
        exact flat_at (fun y : TyI w0 => y.cells.toList) 5 (fun _ => rfl) rs i j y u hy hu
      have d0 := hc 0 _ rfl (by omega)
      have d1 := hc 1 _ rfl (by omega)
      have d2 := hc 2 _ rfl (by omega)
      have d3 := hc 3 _ rfl (by omega)
      have d4 := hc 4 _ rfl (by omega)
      have hyp : x.t.parts[i]? = some y.t := by rw [← H1.out.1, List.getElem?_map, hy]; rfl
      have hys : y.t.size < x.t.size := Ty.part_size (List.mem_of_getElem? hyp)
      have hps := dmax_succ hyp
      have hpl := dmax_le x.t i
      have hyd := y.t.depth_size
      have hcall := HI.out y (by omega) wr (HB.out.2.trans ((HB.out.1.trans ((H1.out.2.2.1.trans (HN.out.mono H1.out.2.2.1.size)).mono HB.out.1.size)).mono HB.out.2.size))
      have HC := hid (And.intro hps hcall)
      have hb1 : dmax x.t.parts i ≤ 1099511627776 ∧ y.t.depth ≤ 1099511627776 := by omega
      clear hc hy hyp hcall hps hpl hB hyd
      generalize dmax x.t.parts i = S at HC hb1 ⊢
      obtain ⟨sz, hsz⟩ : ∃ sz, y.t.depth = sz := ⟨_, rfl⟩
      rw [hsz] at HC hb1
      clear hsz
      obtain ⟨hb1, hb2⟩ := hb1
      simp only [Nat.add_zero] at d0
      go_wp2_with fail
      refine HC.out.2.mono ?_
      rintro e w4 ⟨rfl, hb4⟩
      have H4 := hid hb4
      clear hb4
      go_wp2_with fail
      go_roundw
      case rel => exact ⟨i + 1, by go_num, by omega, by rw [HC.out.1]; go_num, HN.out.trans (H4.out.mono HN.out.size)⟩
      case measure => simp [intOf]; omega
    · obtain rfl : i = L := by omega
      clear hB
      have hz : dmax x.t.parts i + 1 = x.t.depth := by rw [← H1.out.2.2.2.2.1]; exact H1.out.2.2.2.2.2
      have hdl := x.t.depth_size
      have hz2 : dmax x.t.parts i ≤ 1099511627776 := by omega
      clear hdl
      have HZ := hid hz
      clear hz
      generalize dmax x.t.parts i = S at HZ hz2 ⊢
      go_wp2_with fail
      go_ret
      exact ⟨by rw [← HZ.out]; rfl, HB.out.1.trans ((H1.out.2.2.1.trans (HN.out.mono H1.out.2.2.1.size)).mono HB.out.1.size)⟩
theorem rd_all (w0 : World) : ∀ s : Nat, s ≤ 1099511627776 → RdT w0 s := by
  intro s
  induction s with
  | zero => intro _ x hx; exact absurd hx (by unfold Ty.size; omega)
  | succ s ih => intro hs; exact rd_step w0 s hs (ih (by omega))
end Go.Proofs.YtjedcijddlilaaaGreatDoor

namespace Go.Proofs.YtjedcijddlilaaaGreatDoor
open Go.RowKit Go.Shelf
attribute [local go_sem] Oper.semAt_some
def frm (t : Ty) : Int := fst0 (t.nodes.map chkN)
def frl (l : List Ty) : Int := fst0 ((l.flatMap Ty.nodes).map chkN)
theorem frm_parts (t : Ty) : frm t = if chkN t = 0 then frl t.parts else chkN t := by
  unfold frm frl
  rw [Ty.nodes_parts, List.map_cons]
  rfl
theorem frl_succ {l : List Ty} {i : Nat} {y : Ty} (h : l[i]? = some y) : frl (l.take (i + 1)) = if frl (l.take i) = 0 then frm y else frl (l.take i) := by
  unfold frl frm
  rw [List.take_add_one, h]
  simp only [Option.toList_some, List.flatMap_append, List.map_append, fst0_append, List.flatMap_cons, List.flatMap_nil, List.append_nil]
theorem frl_take {l : List Ty} {i : Nat} (h : frl (l.take i) ≠ 0) : frl l = frl (l.take i) := by
  have e : frl l = frl (l.take i ++ l.drop i) := by rw [List.take_append_drop]
  rw [e]
  have : frl (l.take i ++ l.drop i) = if frl (l.take i) = 0 then frl (l.drop i) else frl (l.take i) := by
    unfold frl; rw [List.flatMap_append, List.map_append, fst0_append]
  rw [this, if_neg h]
def RtfT (w0 : World) (s : Nat) : Prop := ∀ x : TyI w0, x.t.size ≤ s → (∀ p ∈ x.t.nodes, p.Sh) → ∀ W, Below w0.heap.size w0 W → Calls Tryz.prog 51 #[.agg #[.int .i64 x.t.k, .string x.t.m, .string x.t.n, .slice x.aa x.t.A.len x.ca, .slice x.af x.t.F.len x.cf]] W
  fun e W' => e = .returned (.int .i64 (frm x.t)) ∧ Below W.heap.size W W'
set_option maxRecDepth 100000 in
set_option maxHeartbeats 4000000 in
theorem rft_step (w0 : World) (s : Nat) (hs : s + 1 ≤ 1099511627776) (ih : RtfT w0 s) : RtfT w0 (s + 1) := by
  intro x hx hsh W hW
  have HI := hid ih
  have HSH : Kpt (∀ y ∈ x.t.parts, ∀ p ∈ y.nodes, p.Sh) := hid (fun y hy p hp => hsh p (by rw [Ty.nodes_parts]; exact List.mem_cons_of_mem _ (List.mem_flatMap.2 ⟨y, hy, hp⟩)))
  have hs0 : x.t.Sh := hsh x.t (by rw [Ty.nodes_parts]; exact List.mem_cons_self)
  clear ih hsh
  obtain ⟨wa, hwa⟩ : ∃ wa, W.alloc (.cells #[.int .i64 x.t.k, .string x.t.m, .string x.t.n, .slice x.aa x.t.A.len x.ca, .slice x.af x.t.F.len x.cf] 25) = wa := ⟨_, rfl⟩
  have hba : Below W.heap.size W wa := by rw [← hwa]; exact (Below.refl _ W).alloc (Nat.le_refl _) _
  have hea : wa.heap[W.heap.size]? = some (.cells #[.int .i64 x.t.k, .string x.t.m, .string x.t.n, .slice x.aa x.t.A.len x.ca, .slice x.af x.t.F.len x.cf] 25 (0, 0)) := by rw [← hwa]; exact World.alloc_heap_new _ _
  have k0 := cell_of_row wa _ 0 _ _ _ hea
  have k1 := cell_of_row wa _ 1 _ _ _ hea
  have k2 := cell_of_row wa _ 2 _ _ _ hea
  have k3 := cell_of_row wa _ 3 _ _ _ hea
  have k4 := cell_of_row wa _ 4 _ _ _ hea
  have HN := hid (rnode_any w0 x wa (hW.trans (hba.mono hW.size)) (by omega) hs0)
  have HP : Kpt (∀ w, Below wa.heap.size wa w → _) := hid (fun w hb => rparts_any w0 x w (hW.trans ((hba.trans (hb.mono hba.size)).mono hW.size)) (by omega))
  have HB := hid (And.intro hba hW)
  obtain ⟨RES, hR⟩ : ∃ r, frm x.t = r := ⟨_, rfl⟩
  rw [hR]
  have HR := hid (hR.symm.trans (frm_parts x.t))
  clear hba hea hW hR hs0
  have hpl : x.t.parts.length < x.t.size := by
    have h : ∀ l : List Ty, l.length ≤ (l.map Ty.size).sum := fun l => by
      induction l with
      | nil => exact Nat.le_refl _
      | cons a l ih => simp only [List.length_cons, List.map_cons, List.sum_cons, Ty.size]; omega
    rw [Ty.size_parts]
    have := h x.t.parts
    omega
  generalize chkN x.t = c0 at HN HR
  by_cases hc : c0 = 0
  · subst hc
    have HR2 := hid (show RES = frl x.t.parts by rw [HR.out, if_pos rfl])
    clear HR
    go_enter Tryz.func51, Tryz.ntmps51
    go_wp2_with fail
    refine HN.out.mono ?_
    rintro e w0' ⟨rfl, hb0⟩
    have k0 := old_cell hb0 k0
    have k1 := old_cell hb0 k1
    have k2 := old_cell hb0 k2
    have k3 := old_cell hb0 k3
    have k4 := old_cell hb0 k4
    have HP2 := hid (HP.out w0' hb0)
    have HB0 := hid (HB.out.1.trans (hb0.mono HB.out.1.size))
    clear hb0 HP HN
    go_wp2_with fail
    refine HP2.out.mono ?_
    rintro e w1 ⟨v, rs, rfl, hrs, hrow, hb1⟩
    obtain ⟨p, c, rfl⟩ := own_slice hrow
    clear k0 k1 k2 k3 k4 hwa
    have hln : rs.length = x.t.parts.length := by rw [← hrs, List.length_map]
    obtain ⟨L, hL⟩ : ∃ L, rs.length = L := ⟨_, rfl⟩
    rw [hL] at hrow ⊢
    have hLs : L < x.t.size := by omega
    have hB1 := HB0.out.trans (hb1.mono HB0.out.size)
    have H1 := hid (And.intro hrs (And.intro hrow (And.intro hB1 (And.intro hL (hln.symm.trans hL)))))
    clear hrs hrow hb1 hln hpl hL hB1 HP2
    go_wp2_with fail
    go_loopw [5] (fun a wr => ∃ (i : Nat), a = .int .i64 (i : Int) ∧ i ≤ L ∧ Kpt (frl (x.t.parts.take i) = 0) ∧ Kpt (Below w1.heap.size w1 wr)) (fun a _ => L - (intOf a).toNat)
    case atStart => exact ⟨0, rfl, Nat.zero_le _, hid rfl, hid (Below.refl _ _)⟩
    case round =>
      obtain ⟨i, rfl, hi, HZ, HN⟩ := hrel
      by_cases hlt : i < L
      · obtain ⟨g, cap, hv, _, _⟩ := H1.out.2.1.form (by omega)
        cases hv
        obtain ⟨y, hy⟩ : ∃ y, rs[i]? = some y := ⟨_, List.getElem?_eq_getElem (by rw [H1.out.2.2.2.1]; exact hlt)⟩
        have hc : ∀ j u, y.cells.toList[j]? = some u → j < 5 → wr.cell? ⟨g, i * 5 + j, none⟩ = some u := fun j u hu hj => by
          refine old_cell HN.out ?_
          rw [H1.out.2.1.cellAt (i * 5 + j) (by omega)]
          exact flat_at (fun y : TyI w0 => y.cells.toList) 5 (fun _ => rfl) rs i j y u hy hu
        have d0 := hc 0 _ rfl (by omega)
        have d1 := hc 1 _ rfl (by omega)
        have d2 := hc 2 _ rfl (by omega)
        have d3 := hc 3 _ rfl (by omega)
        have d4 := hc 4 _ rfl (by omega)
        have hyp : x.t.parts[i]? = some y.t := by rw [← H1.out.1, List.getElem?_map, hy]; rfl
        have hys : y.t.size < x.t.size := Ty.part_size (List.mem_of_getElem? hyp)
        have hcall := HI.out y (by omega) (HSH.out _ (List.mem_of_getElem? hyp)) wr (HB.out.2.trans ((H1.out.2.2.1.trans (HN.out.mono H1.out.2.2.1.size)).mono HB.out.2.size))
        have hst := frl_succ hyp
        rw [HZ.out, if_pos rfl] at hst
        have HC := hid (And.intro hst hcall)
        clear hc hy hyp hcall hst hys
        generalize frm y.t = ye at HC
        simp only [Nat.add_zero] at d0
        by_cases hye : ye = 0
        · subst hye
          go_wp2_with fail
          refine HC.out.2.mono ?_
          rintro e w4 ⟨rfl, hb4⟩
          have H4 := hid (HN.out.trans (hb4.mono HN.out.size))
          clear hb4
          go_wp2_with fail
          go_roundw
          case rel => exact ⟨i + 1, by go_num, by omega, hid HC.out.1, H4⟩
          case measure => simp [intOf]; omega
        · have hye2 : (ye != 0) = true := by simpa using hye
          go_wp2_with fail
          refine HC.out.2.mono ?_
          rintro e w4 ⟨rfl, hb4⟩
          have H4 := hid (HN.out.trans (hb4.mono HN.out.size))
          clear hb4
          go_wp2_with fail
          go_ret
          exact ⟨by rw [HR2.out, frl_take (i := i + 1) (by rw [HC.out.1]; exact hye), HC.out.1]; rfl, H1.out.2.2.1.trans (H4.out.mono H1.out.2.2.1.size)⟩
      · obtain rfl : i = L := by omega
        have HR3 := hid (show RES = 0 by rw [HR2.out, ← HZ.out, List.take_of_length_le (Nat.le_of_eq H1.out.2.2.2.2)])
        go_wp2_with fail
        go_ret
        exact ⟨by rw [HR3.out]; rfl, H1.out.2.2.1.trans (HN.out.mono H1.out.2.2.1.size)⟩
  · have HR2 := hid (show RES = c0 by rw [HR.out, if_neg hc])
    have hc2 : (c0 != 0) = true := by simpa using hc
    clear HR
    go_enter Tryz.func51, Tryz.ntmps51
    go_wp2_with fail
    refine HN.out.mono ?_
    rintro e w0' ⟨rfl, hb0⟩
    have HB0 := hid (HB.out.1.trans (hb0.mono HB.out.1.size))
    clear hb0 HP HN
    go_wp2_with fail
    go_ret
    exact ⟨by rw [HR2.out]; rfl, HB0.out⟩
theorem rft_all (w0 : World) : ∀ s : Nat, s ≤ 1099511627776 → RtfT w0 s := by
  intro s
  induction s with
  | zero => intro _ x hx; exact absurd hx (by unfold Ty.size; omega)
  | succ s ih => intro hs; exact rft_step w0 s hs (ih (by omega))
set_option maxRecDepth 100000 in
set_option maxHeartbeats 4000000 in
theorem rchecktype_any (w0 : World) (x : TyI w0) (W : World) (hW : Below w0.heap.size w0 W) (hsz : x.t.size ≤ 1099511627776) (hsh : ∀ p ∈ x.t.nodes, p.Sh) :
    Calls Tryz.prog 13 #[.agg #[.int .i64 x.t.k, .string x.t.m, .string x.t.n, .slice x.aa x.t.A.len x.ca, .slice x.af x.t.F.len x.cf]] W fun e W' => e = .returned (.int .i64 (chkT x.t)) ∧ Below W.heap.size W W' := by
  obtain ⟨wa, hwa⟩ : ∃ wa, W.alloc (.cells #[.int .i64 x.t.k, .string x.t.m, .string x.t.n, .slice x.aa x.t.A.len x.ca, .slice x.af x.t.F.len x.cf] 25) = wa := ⟨_, rfl⟩
  have hba : Below W.heap.size W wa := by rw [← hwa]; exact (Below.refl _ W).alloc (Nat.le_refl _) _
  have hea : wa.heap[W.heap.size]? = some (.cells #[.int .i64 x.t.k, .string x.t.m, .string x.t.n, .slice x.aa x.t.A.len x.ca, .slice x.af x.t.F.len x.cf] 25 (0, 0)) := by rw [← hwa]; exact World.alloc_heap_new _ _
  have k0 := cell_of_row wa _ 0 _ _ _ hea
  have k1 := cell_of_row wa _ 1 _ _ _ hea
  have k2 := cell_of_row wa _ 2 _ _ _ hea
  have k3 := cell_of_row wa _ 3 _ _ _ hea
  have k4 := cell_of_row wa _ 4 _ _ _ hea
  have hds := x.t.depth_size
  have hWa := hW.trans (hba.mono hW.size)
  have HS : Kpt (∀ w, Below wa.heap.size wa w → Calls Tryz.prog 39 #[.agg #[.int .i64 x.t.k, .string x.t.m, .string x.t.n, .slice x.aa x.t.A.len x.ca, .slice x.af x.t.F.len x.cf]] w fun e W'' => e = .returned (.int .i64 (x.t.size : Int)) ∧ Below w.heap.size w W'') := hid (fun w hb => rs_all w0 _ (by omega) x (Nat.le_refl _) w (hWa.trans (hb.mono hWa.size)))
  have HD : Kpt (∀ w, Below wa.heap.size wa w → Calls Tryz.prog 50 #[.agg #[.int .i64 x.t.k, .string x.t.m, .string x.t.n, .slice x.aa x.t.A.len x.ca, .slice x.af x.t.F.len x.cf]] w fun e W'' => e = .returned (.int .i64 (x.t.depth : Int)) ∧ Below w.heap.size w W'') := hid (fun w hb => rd_all w0 _ (by omega) x (Nat.le_refl _) w (hWa.trans (hb.mono hWa.size)))
  have HF : Kpt (∀ w, Below wa.heap.size wa w → Calls Tryz.prog 51 #[.agg #[.int .i64 x.t.k, .string x.t.m, .string x.t.n, .slice x.aa x.t.A.len x.ca, .slice x.af x.t.F.len x.cf]] w fun e W'' => e = .returned (.int .i64 (frm x.t)) ∧ Below w.heap.size w W'') := hid (fun w hb => rft_all w0 _ (by omega) x (Nat.le_refl _) hsh w (hWa.trans (hb.mono hWa.size)))
  have HB := hid hba
  obtain ⟨RES, hR⟩ : ∃ r, chkT x.t = r := ⟨_, rfl⟩
  rw [hR]
  have HR := hid (hR.symm.trans (show chkT x.t = if 4096 < x.t.size ∨ 32 < x.t.depth then 7 else frm x.t from rfl))
  clear hba hea hW hR hsh hWa
  generalize x.t.size = sz at *
  generalize x.t.depth = dp at *
  generalize frm x.t = fr at *
  by_cases h1 : 4096 < sz
  · have HR2 := hid (show RES = 7 by rw [HR.out, if_pos (.inl h1)])
    clear HR
    go_enter Tryz.func13, Tryz.ntmps13
    go_wp2_with fail
    refine (HS.out _ (Below.refl _ _)).mono ?_
    rintro e w1 ⟨rfl, hb1⟩
    have HB1 := hid (HB.out.trans (hb1.mono HB.out.size))
    clear hb1
    go_wp2_with fail
    go_ret
    exact ⟨by rw [HR2.out]; rfl, HB1.out⟩
  · by_cases h2 : 32 < dp
    · have HR2 := hid (show RES = 7 by rw [HR.out, if_pos (.inr h2)])
      clear HR
      go_enter Tryz.func13, Tryz.ntmps13
      go_wp2_with fail
      refine (HS.out _ (Below.refl _ _)).mono ?_
      rintro e w1 ⟨rfl, hb1⟩
      have k0 := old_cell hb1 k0
      have k1 := old_cell hb1 k1
      have k2 := old_cell hb1 k2
      have k3 := old_cell hb1 k3
      have k4 := old_cell hb1 k4
      have HB1 := hid hb1
      clear hb1
      go_wp2_with fail
      refine (HD.out _ HB1.out).mono ?_
      rintro e w2 ⟨rfl, hb2⟩
      have HB2 := hid (HB1.out.trans (hb2.mono HB1.out.size))
      clear hb2
      go_wp2_with fail
      go_ret
      exact ⟨by rw [HR2.out]; rfl, HB.out.trans (HB2.out.mono HB.out.size)⟩
    · have HR2 := hid (show RES = fr by rw [HR.out, if_neg (by omega)])
      clear HR
      go_enter Tryz.func13, Tryz.ntmps13
      go_wp2_with fail
      refine (HS.out _ (Below.refl _ _)).mono ?_
      rintro e w1 ⟨rfl, hb1⟩
      have k0 := old_cell hb1 k0
      have k1 := old_cell hb1 k1
      have k2 := old_cell hb1 k2
      have k3 := old_cell hb1 k3
      have k4 := old_cell hb1 k4
      have HB1 := hid hb1
      clear hb1
      go_wp2_with fail
      refine (HD.out _ HB1.out).mono ?_
      rintro e w2 ⟨rfl, hb2⟩
      have k0 := old_cell hb2 k0
      have k1 := old_cell hb2 k1
      have k2 := old_cell hb2 k2
      have k3 := old_cell hb2 k3
      have k4 := old_cell hb2 k4
      have HB2 := hid (HB1.out.trans (hb2.mono HB1.out.size))
      clear hb2
      go_wp2_with fail
      refine (HF.out _ HB2.out).mono ?_
      rintro e w3 ⟨rfl, hb3⟩
      have HB3 := hid (HB2.out.trans (hb3.mono HB2.out.size))
      clear hb3
      go_wp2_with fail
      go_ret
      exact ⟨by rw [HR2.out]; rfl, HB.out.trans (HB3.out.mono HB.out.size)⟩
end Go.Proofs.YtjedcijddlilaaaGreatDoor
