/- syntax: Variable, isModule, isOrigin, typeNames, typeArgs. | syntax: typeArgs, typeNames, allNames, checkOrder. | syntax: checkOrder. | syntax: namedTypeParts. | syntax: checkTypeNode. | syntax: CheckType. -/
import Derived.Test.YtjedcijddlilaaaGreatDoorSyQ
import Derived.Test.YtjedcijddlilaaaGreatDoorLxSg
import Derived.Test.YtjedcijddlilaaaGreatDoorSyS5
import Derived.Test.YtjedcijddlilaaaGreatDoorSyD
namespace Go.Proofs.YtjedcijddlilaaaGreatDoor
open Go.RowKit Go.Shelf
attribute [local go_sem] Oper.semAt_some

/-- One of #0 to #7. -/
def varN (s : ByteArray) : Bool := decide (s.size = 2) && (decide ((s.data.toList.getD 0 0).toNat = 35) && (decide (48 ≤ (s.data.toList.getD 1 0).toNat) && decide ((s.data.toList.getD 1 0).toNat ≤ 55)))
def varB (s : ByteArray) : Bool := varN s || isWk s.data.toList 2
def modB (s : ByteArray) : Bool := isWk s.data.toList 1 || pathB s.data.toList
def orgB (s : ByteArray) : Bool := decide (s = ⟨#[]⟩) || modB s

set_option maxRecDepth 100000 in
theorem variable_any (s : ByteArray) (w : World) (hs : s.size ≤ 9223372036854775807) :
    Calls Tryz.prog 16 #[.string s] w fun e w' => e = .returned (.bool (varB s)) ∧ w' = w := by
  have HW := hid (fun w => istype_any s w hs)
  unfold varB varN
  generalize isWk s.data.toList 2 = R at HW ⊢
  by_cases h2 : s.size = 2
  · have i0 : ∀ w, (Instr.index 9 (.string s) (.int .i64 0)).run Tryz.prog w = .ok (.int .u8 ((s.data.toList.getD 0 0).toNat : Int)) w := run_index_str s 0 (by omega)
    have i1 : ∀ w, (Instr.index 9 (.string s) (.int .i64 1)).run Tryz.prog w = .ok (.int .u8 ((s.data.toList.getD 1 0).toNat : Int)) w := run_index_str s 1 (by omega)
    have e0 : (s.data.toList.getD 0 0).toNat < 256 := UInt8.toNat_lt _
    have e1 : (s.data.toList.getD 1 0).toNat < 256 := UInt8.toNat_lt _
    have hd2 : decide (s.size = 2) = true := by simp [h2]
    rw [hd2]
    have hsz : (s.size : Int) = 2 := by omega
    clear hd2 h2 hs
    generalize (s.data.toList.getD 0 0).toNat = c at i0 e0 ⊢
    generalize (s.data.toList.getD 1 0).toNat = d at i1 e1 ⊢
    by_cases h3 : c = 35
    · subst h3
      by_cases h4 : 48 ≤ d
      · by_cases h5 : d ≤ 55
        · have hr : (true && (decide (35 = 35) && (decide (48 ≤ d) && decide (d ≤ 55))) || R) = true := by simp [h4, h5]
          rw [hr]
          clear hr
          go_enter Tryz.func16, Tryz.ntmps16
          go_wp2_with fail
          go_ret
          exact ⟨rfl, rfl⟩
        · have hr : (true && (decide (35 = 35) && (decide (48 ≤ d) && decide (d ≤ 55))) || R) = R := by simp [h5]
          rw [hr]
          clear hr
          go_enter Tryz.func16, Tryz.ntmps16
          go_wp2_with fail
          refine (HW.out _).mono ?_
          rintro e w3 ⟨rfl, rfl⟩
          go_wp2_with fail
          go_ret
          exact ⟨by simp; omega, rfl⟩
      · have hr : (true && (decide (35 = 35) && (decide (48 ≤ d) && decide (d ≤ 55))) || R) = R := by simp [h4]
        rw [hr]
        clear hr
        go_enter Tryz.func16, Tryz.ntmps16
        go_wp2_with fail
        refine (HW.out _).mono ?_
        rintro e w3 ⟨rfl, rfl⟩
        go_wp2_with fail
        go_ret
        exact ⟨rfl, rfl⟩
    · have hr : (true && (decide (c = 35) && (decide (48 ≤ d) && decide (d ≤ 55))) || R) = R := by simp [h3]
      rw [hr]
      clear hr
      go_enter Tryz.func16, Tryz.ntmps16
      go_wp2_with fail
      refine (HW.out _).mono ?_
      rintro e w3 ⟨rfl, rfl⟩
      go_wp2_with fail
      go_ret
      exact ⟨rfl, rfl⟩
  · have hr : (decide (s.size = 2) && (decide ((s.data.toList.getD 0 0).toNat = 35) && (decide (48 ≤ (s.data.toList.getD 1 0).toNat) && decide ((s.data.toList.getD 1 0).toNat ≤ 55))) || R) = R := by simp [h2]
    rw [hr]
    clear hr
    have hsz : ¬ (s.size : Int) = 2 := by omega
    go_enter Tryz.func16, Tryz.ntmps16
    go_wp2_with fail
    refine (HW.out _).mono ?_
    rintro e w3 ⟨rfl, rfl⟩
    go_wp2_with fail
    go_ret
    exact ⟨rfl, rfl⟩

set_option maxRecDepth 100000 in
theorem ismodule_any (s : ByteArray) (w : World) (hs : s.size ≤ 9223372036854775807) (hE : Env w) :
    Calls Tryz.prog 144 #[.string s] w fun e w' => e = .returned (.bool (modB s)) ∧ Below w.heap.size w w' := by
  have HW := hid (isname_any s w hs)
  have HP := hid (ispath_any s w hE)
  unfold modB
  generalize isWk s.data.toList 1 = R at HW ⊢
  generalize pathB s.data.toList = P at HP ⊢
  clear hs hE
  cases R with
  | true =>
    go_enter Tryz.func144, Tryz.ntmps144
    go_wp2_with fail
    refine HW.out.mono ?_
    rintro e w3 ⟨rfl, rfl⟩
    go_wp2_with fail
    go_ret
    exact ⟨rfl, Below.refl _ _⟩
  | false =>
    go_enter Tryz.func144, Tryz.ntmps144
    go_wp2_with fail
    refine HW.out.mono ?_
    rintro e w3 ⟨rfl, rfl⟩
    go_wp2_with fail
    refine HP.out.mono ?_
    rintro e w3 ⟨rfl, hb⟩
    have HB := hid hb
    clear hb
    go_wp2_with fail
    go_ret
    exact ⟨rfl, HB.out⟩

set_option maxRecDepth 100000 in
theorem isorigin_any (s : ByteArray) (w : World) (hs : s.size ≤ 9223372036854775807) (hE : Env w) :
    Calls Tryz.prog 156 #[.string s] w fun e w' => e = .returned (.bool (orgB s)) ∧ Below w.heap.size w w' := by
  have HW := hid (ismodule_any s w hs hE)
  unfold orgB
  generalize modB s = R at HW ⊢
  clear hs hE
  by_cases h0 : s = ⟨#[]⟩
  · subst h0
    go_enter Tryz.func156, Tryz.ntmps156
    go_wp2_with fail
    go_ret
    exact ⟨rfl, Below.refl _ _⟩
  · have hne : (s.toList == []) = false := by
      have hl0 : s.data.toList ≠ [] := fun h => h0 (by apply ByteArray.ext; apply Array.toList_inj.1; rw [h])
      rw [ByteArray.toList_eq]; simpa using hl0
    have hr : (decide (s = ⟨#[]⟩) || R) = R := by simp [h0]
    rw [hr]
    clear hr h0
    go_enter Tryz.func156, Tryz.ntmps156
    go_wp2_with fail
    refine HW.out.mono ?_
    rintro e w3 ⟨rfl, hb⟩
    have HB := hid hb
    clear hb
    go_wp2_with fail
    go_ret
    exact ⟨rfl, HB.out⟩
end Go.Proofs.YtjedcijddlilaaaGreatDoor

namespace Go.Proofs.YtjedcijddlilaaaGreatDoor
open Go.RowKit Go.Shelf
attribute [local go_sem] Oper.semAt_some

/-- The number of Args that a kind asks for. -/
def tArgs (k : Int) (la : Nat) : Int := if k = 5 ∨ k = 8 then 1 else if k = 10 then la else if 0 ≤ k ∧ k ≤ 9 then 0 else -1
/-- Whether Module and Name are as the kind asks. -/
def tNam (k : Int) (m n : ByteArray) : Bool := if k = 9 then varB n else if k = 10 then orgB m && isWk n.data.toList 2 else true

set_option maxRecDepth 100000 in
set_option maxHeartbeats 4000000 in
theorem typeargs_any (k : Int) (m n : ByteArray) (aa af : Option Addr) (la ca lf cf : Nat) (w : World) :
    Calls Tryz.prog 95 #[.agg #[.int .i64 k, .string m, .string n, .slice aa la ca, .slice af lf cf]] w fun e w' => e = .returned (.int .i64 (tArgs k la)) ∧ Below w.heap.size w w' := by
  obtain ⟨wa, hwa⟩ : ∃ wa, w.alloc (.cells #[.int .i64 k, .string m, .string n, .slice aa la ca, .slice af lf cf] 25) = wa := ⟨_, rfl⟩
  have hba : Below w.heap.size w wa := by rw [← hwa]; exact (Below.refl _ w).alloc (Nat.le_refl _) _
  have hea : wa.heap[w.heap.size]? = some (.cells #[.int .i64 k, .string m, .string n, .slice aa la ca, .slice af lf cf] 25 (0, 0)) := by rw [← hwa]; exact World.alloc_heap_new _ _
  have k0 := cell_of_row wa _ 0 _ _ _ hea
  have k3 := cell_of_row wa _ 3 _ _ _ hea
  have HB := hid hba
  clear hba hea
  rcases (by omega : k = 0 ∨ k = 1 ∨ k = 2 ∨ k = 3 ∨ k = 4 ∨ k = 5 ∨ k = 6 ∨ k = 7 ∨ k = 8 ∨ k = 9 ∨ k = 10 ∨ (k ≠ 0 ∧ k ≠ 1 ∧ k ≠ 2 ∧ k ≠ 3 ∧ k ≠ 4 ∧ k ≠ 5 ∧ k ≠ 6 ∧ k ≠ 7 ∧ k ≠ 8 ∧ k ≠ 9 ∧ k ≠ 10)) with
    rfl | rfl | rfl | rfl | rfl | rfl | rfl | rfl | rfl | rfl | rfl | ⟨h0, h1, h2, h3, h4, h5, h6, h7, h8, h9, h10⟩
  iterate 11
    · go_enter Tryz.func95, Tryz.ntmps95
      go_wp2_with fail
      go_ret
      exact ⟨by simp [tArgs], HB.out⟩
  have hr : tArgs k la = -1 := by unfold tArgs; rw [if_neg (by omega), if_neg (by omega), if_neg (by omega)]
  rw [hr]
  clear hr
  go_enter Tryz.func95, Tryz.ntmps95
  go_wp2_with fail
  go_ret
  exact ⟨rfl, HB.out⟩

set_option maxRecDepth 100000 in
set_option maxHeartbeats 4000000 in
theorem typenames_any (k : Int) (m n : ByteArray) (aa af : Option Addr) (la ca lf cf : Nat) (w : World) (hm : m.size ≤ 9223372036854775807) (hn : n.size ≤ 9223372036854775807) (hE : Env w) :
    Calls Tryz.prog 97 #[.agg #[.int .i64 k, .string m, .string n, .slice aa la ca, .slice af lf cf]] w fun e w' => e = .returned (.bool (tNam k m n)) ∧ Below w.heap.size w w' := by
  obtain ⟨wa, hwa⟩ : ∃ wa, w.alloc (.cells #[.int .i64 k, .string m, .string n, .slice aa la ca, .slice af lf cf] 25) = wa := ⟨_, rfl⟩
  have hba : Below w.heap.size w wa := by rw [← hwa]; exact (Below.refl _ w).alloc (Nat.le_refl _) _
  have hea : wa.heap[w.heap.size]? = some (.cells #[.int .i64 k, .string m, .string n, .slice aa la ca, .slice af lf cf] 25 (0, 0)) := by rw [← hwa]; exact World.alloc_heap_new _ _
  have k0 := cell_of_row wa _ 0 _ _ _ hea
  have k1 := cell_of_row wa _ 1 _ _ _ hea
  have k2 := cell_of_row wa _ 2 _ _ _ hea
  have HV := hid (fun w => variable_any n w hn)
  have HT := hid (fun w => istype_any n w hn)
  have HO := hid (isorigin_any m wa hm (hE.below hba))
  have HB := hid (And.intro hba hea)
  unfold tNam
  generalize varB n = V at HV ⊢
  generalize isWk n.data.toList 2 = T at HT ⊢
  generalize orgB m = O at HO ⊢
  clear hba hea hm hn hE
  by_cases h9 : k = 9
  · subst h9
    rw [if_pos rfl]
    go_enter Tryz.func97, Tryz.ntmps97
    go_wp2_with fail
    refine (HV.out _).mono ?_
    rintro e w3 ⟨rfl, rfl⟩
    go_wp2_with fail
    go_ret
    exact ⟨rfl, HB.out.1⟩
  rw [if_neg h9]
  by_cases h10 : k = 10
  · subst h10
    rw [if_pos rfl]
    cases O with
    | false =>
      go_enter Tryz.func97, Tryz.ntmps97
      go_wp2_with fail
      refine HO.out.mono ?_
      rintro e w3 ⟨rfl, hb⟩
      have H3 := hid hb
      clear hb
      go_wp2_with fail
      go_ret
      exact ⟨rfl, HB.out.1.trans (H3.out.mono HB.out.1.size)⟩
    | true =>
      go_enter Tryz.func97, Tryz.ntmps97
      go_wp2_with fail
      refine HO.out.mono ?_
      rintro e w3 ⟨rfl, hb⟩
      have k2' := (hb.cell (World.block_lt_of_cell? _ _ k2)).trans k2
      have H3 := hid hb
      clear hb
      go_wp2_with fail
      refine (HT.out _).mono ?_
      rintro e w4 ⟨rfl, rfl⟩
      go_wp2_with fail
      go_ret
      exact ⟨rfl, HB.out.1.trans (H3.out.mono HB.out.1.size)⟩
  rw [if_neg h10]
  go_enter Tryz.func97, Tryz.ntmps97
  go_wp2_with fail
  go_ret
  exact ⟨rfl, HB.out.1⟩

/-- Names alone. -/
def allN (ns : List ByteArray) : Bool := ns.all fun s => isWk s.data.toList 1
set_option maxRecDepth 100000 in
set_option maxHeartbeats 2000000 in
theorem allnames_any (w0 : World) (ns : List ByteArray) (a : Option Addr) (c : Nat) (W : World) (hr : RowS w0 ns a) (hW : Below w0.heap.size w0 W) (hl : ns.length ≤ 1099511627776) (hs : ∀ s ∈ ns, s.size ≤ 9223372036854775807) :
    Calls Tryz.prog 98 #[.slice a ns.length c] W fun e W' => e = .returned (.bool (allN ns)) ∧ W' = W := by
  have HR := hid (And.intro hr hW)
  have HS := hid hs
  clear hr hW hs
  obtain ⟨L, hL⟩ : ∃ L, ns.length = L := ⟨_, rfl⟩
  have HL := hid hL
  rw [hL] at hl ⊢
  clear hL
  go_enter Tryz.func98, Tryz.ntmps98
  go_wp2_with fail
  go_loopw [7] (fun x wr => ∃ (i : Nat), x = .int .i64 (i : Int) ∧ i ≤ L ∧ allN ns = allN (ns.drop i) ∧ wr = W) (fun x _ => L - (intOf x).toNat)
  case atStart => exact ⟨0, rfl, by omega, rfl, rfl⟩
  case round =>
    obtain ⟨i, rfl, hi, hne, rfl⟩ := hrel
    have HN := hid hne
    clear hne
    by_cases hlt : i < L
    · obtain ⟨b, o, rfl, hc⟩ : ∃ b o, a = some ⟨b, o, none⟩ ∧ ∀ (i : Nat) (s : ByteArray), ns[i]? = some s → w0.cell? ⟨b, o + i, none⟩ = some (.string s) := by
        rcases HR.out.1 with h | h
        · exfalso; have := HL.out; rw [h] at this; simp at this; omega
        · exact h
      obtain ⟨t, ht⟩ : ∃ t, ns[i]? = some t := ⟨_, List.getElem?_eq_getElem (by rw [HL.out]; exact hlt)⟩
      have c0 := (HR.out.2.cell (World.block_lt_of_cell? w0 _ (hc i t ht))).trans (hc i t ht)
      have hdr : ns.drop i = t :: ns.drop (i + 1) := by
        obtain ⟨h9, h8⟩ := List.getElem?_eq_some_iff.1 ht
        rw [← h8]; exact List.drop_eq_getElem_cons h9
      have hcall := isname_any t wr (HS.out t (List.mem_of_getElem? ht))
      have hstep : allN (ns.drop i) = (isWk t.data.toList 1 && allN (ns.drop (i + 1))) := by rw [hdr]; rfl
      have HC := hid (And.intro hstep hcall)
      clear hc ht hdr hstep hcall
      generalize isWk t.data.toList 1 = R at HC
      cases R with
      | false =>
        go_wp2_with fail
        refine HC.out.2.mono ?_
        rintro e w4 ⟨rfl, rfl⟩
        go_wp2_with fail
        go_ret
        exact ⟨by rw [HN.out, HC.out.1]; rfl, rfl⟩
      | true =>
        go_wp2_with fail
        refine HC.out.2.mono ?_
        rintro e w4 ⟨rfl, rfl⟩
        go_wp2_with fail
        go_roundw
        case rel => exact ⟨i + 1, by go_num, by omega, by rw [HN.out, HC.out.1]; rfl, trivial⟩
        case measure => simp [intOf]; omega
    · have hres : allN ns = true := by
        rw [HN.out, List.drop_eq_nil_of_le (by rw [HL.out]; omega)]; rfl
      have HK := hid hres
      clear hres
      go_wp2_with fail
      go_ret
      exact ⟨by rw [HK.out]; rfl, rfl⟩
end Go.Proofs.YtjedcijddlilaaaGreatDoor

namespace Go.Proofs.YtjedcijddlilaaaGreatDoor
open Go.RowKit Go.Shelf
attribute [local go_sem] Oper.semAt_some

/-- The first name that is not greater than the one before it. -/
def ordN : List ByteArray → Int
  | a :: b :: l => if b = a then 5 else if Op.bytesLess b.toList a.toList then 1 else ordN (b :: l)
  | _ => 0
theorem ordN_short {l : List ByteArray} (h : l.length ≤ 1) : ordN l = 0 := by
  match l, h with
  | [], _ => rfl
  | [_], _ => rfl
set_option maxRecDepth 100000 in
set_option maxHeartbeats 2000000 in
theorem order_any (w0 : World) (ns : List ByteArray) (a : Option Addr) (c : Nat) (W : World) (hr : RowS w0 ns a) (hW : Below w0.heap.size w0 W) (hl : ns.length ≤ 1099511627776) :
    Calls Tryz.prog 99 #[.slice a ns.length c] W fun e W' => e = .returned (.int .i64 (ordN ns)) ∧ Below W.heap.size W W' := by
  have HR := hid (And.intro hr hW)
  clear hr hW
  obtain ⟨L, hL⟩ : ∃ L, ns.length = L := ⟨_, rfl⟩
  have HL := hid hL
  rw [hL] at hl ⊢
  clear hL
  go_enter Tryz.func99, Tryz.ntmps99
  go_wp2_with fail
  go_loopw [3] (fun x wr => ∃ (i : Nat), x = .int .i64 ((i + 1 : Nat) : Int) ∧ i ≤ L ∧ ordN ns = ordN (ns.drop i) ∧ Below W.heap.size W wr) (fun x _ => L + 1 - (intOf x).toNat)
  case atStart => exact ⟨0, rfl, by omega, rfl, Below.refl _ _⟩
  case round =>
    obtain ⟨i, rfl, hi, hne, hB⟩ := hrel
    have HN := hid (And.intro hne hB)
    clear hne hB
    by_cases hlt : i + 1 < L
    · obtain ⟨b, o, rfl, hc⟩ : ∃ b o, a = some ⟨b, o, none⟩ ∧ ∀ (i : Nat) (s : ByteArray), ns[i]? = some s → w0.cell? ⟨b, o + i, none⟩ = some (.string s) := by
        rcases HR.out.1 with h | h
        · exfalso; have := HL.out; rw [h] at this; simp at this; omega
        · exact h
      obtain ⟨p, hp⟩ : ∃ p, ns[i]? = some p := ⟨_, List.getElem?_eq_getElem (by rw [HL.out]; omega)⟩
      obtain ⟨t, ht⟩ : ∃ t, ns[i + 1]? = some t := ⟨_, List.getElem?_eq_getElem (by rw [HL.out]; exact hlt)⟩
      have hWr := HR.out.2.trans (HN.out.2.mono HR.out.2.size)
      have c0 := (hWr.cell (World.block_lt_of_cell? w0 _ (hc i p hp))).trans (hc i p hp)
      have c1 := (hWr.cell (World.block_lt_of_cell? w0 _ (hc (i + 1) t ht))).trans (hc (i + 1) t ht)
      have hd1 : ns.drop i = p :: ns.drop (i + 1) := by
        obtain ⟨h9, h8⟩ := List.getElem?_eq_some_iff.1 hp
        rw [← h8]; exact List.drop_eq_getElem_cons h9
      have hd2 : ns.drop (i + 1) = t :: ns.drop (i + 1 + 1) := by
        obtain ⟨h9, h8⟩ := List.getElem?_eq_some_iff.1 ht
        rw [← h8]; exact List.drop_eq_getElem_cons h9
      have hstep : ordN (ns.drop i) = if t = p then 5 else if Op.bytesLess t.toList p.toList then 1 else ordN (ns.drop (i + 1)) := by rw [hd1, hd2]; rfl
      have HC := hid hstep
      clear hc ht hp hd1 hd2 hstep hWr
      have c00 := (show ∀ n, (wr.drewN n).cell? ⟨b, o + i, none⟩ = _ from fun n => c0)
      have c11 := (show ∀ n, (wr.drewN n).cell? ⟨b, o + (i + 1), none⟩ = _ from fun n => c1)
      by_cases he : t = p
      · have hee : (t.toList == p.toList) = true := by rw [he]; simp
        have HK := hid (show ordN ns = 5 by rw [HN.out.1, HC.out, if_pos he])
        clear he
        go_wp2_with fail
        go_quiet (fail)
        go_wp2_with fail
        go_ret
        exact ⟨by rw [HK.out]; rfl, by first | exact below_drawn HN.out.2 _ | exact below_drawn (below_drawn HN.out.2 _) _⟩
      · have hee := toList_ne he
        have hs2 : ordN ns = if Op.bytesLess t.toList p.toList then 1 else ordN (ns.drop (i + 1)) := by rw [HN.out.1, HC.out, if_neg he]
        have HK := hid hs2
        clear he hs2 HC
        cases hlt2 : Op.bytesLess t.toList p.toList with
        | true =>
          rw [hlt2, if_pos rfl] at HK
          go_wp2_with fail
          go_quiet (fail)
          go_wp2_with fail
          go_quiet (fail)
          go_wp2_with fail
          go_ret
          exact ⟨by rw [HK.out]; rfl, by first | exact below_drawn HN.out.2 _ | exact below_drawn (below_drawn HN.out.2 _) _⟩
        | false =>
          rw [hlt2] at HK
          go_wp2_with fail
          go_quiet (fail)
          go_wp2_with fail
          go_quiet (fail)
          go_wp2_with fail
          go_roundw
          case rel => exact ⟨i + 1, by go_num, by omega, HK.out, below_drawn HN.out.2 _⟩
          case measure => simp [intOf]; omega
    · have hres : ordN ns = 0 := by
        rw [HN.out.1, ordN_short (by rw [List.length_drop, HL.out]; omega)]
      have HK := hid hres
      clear hres
      go_wp2_with fail
      go_ret
      exact ⟨by rw [HK.out]; rfl, HN.out.2⟩
end Go.Proofs.YtjedcijddlilaaaGreatDoor

namespace Go.Proofs.YtjedcijddlilaaaGreatDoor
open Go.RowKit Go.Shelf
attribute [local go_sem] Oper.semAt_some

def anyOp (l : List (ByteArray × Bool)) : Bool := l.any (·.2)
theorem anyOp_snoc (l : List (ByteArray × Bool)) (p : ByteArray × Bool) : anyOp (l ++ [p]) = (anyOp l || p.2) := by simp [anyOp]
/-- What is left of a type without what the form of its kind names. -/
def restT (t : Ty) : Ty :=
  if t.k = 6 ∨ t.k = 7 ∨ t.k = 8 then ⟨0, t.m, t.n, .nil, .nil⟩ else if t.k = 9 then ⟨0, t.m, ⟨#[]⟩, .nil, t.F⟩ else if t.k = 10 then ⟨0, ⟨#[]⟩, ⟨#[]⟩, .nil, t.F⟩ else ⟨0, t.m, t.n, .nil, t.F⟩
def zeroT : Ty := ⟨0, ⟨#[]⟩, ⟨#[]⟩, .nil, .nil⟩
def nPart (t : Ty) : Bool := (decide (t.k = 8) || !anyOp t.F.fds) && (restT t).eq zeroT

set_option maxRecDepth 100000 in
set_option maxHeartbeats 8000000 in
theorem namedparts_any (w0 : World) (x : TyI w0) (W : World) (hW : Below w0.heap.size w0 W) (hsz : x.t.size ≤ 1099511627776) :
    Calls Tryz.prog 96 #[.agg #[.int .i64 x.t.k, .string x.t.m, .string x.t.n, .slice x.aa x.t.A.len x.ca, .slice x.af x.t.F.len x.cf]] W fun e W' => e = .returned (.bool (nPart x.t)) ∧ Below W.heap.size W W' := by
  obtain ⟨wa, hwa⟩ : ∃ wa, W.alloc (.cells #[.int .i64 x.t.k, .string x.t.m, .string x.t.n, .slice x.aa x.t.A.len x.ca, .slice x.af x.t.F.len x.cf] 25) = wa := ⟨_, rfl⟩
  have hba : Below W.heap.size W wa := by rw [← hwa]; exact (Below.refl _ W).alloc (Nat.le_refl _) _
  have hea : wa.heap[W.heap.size]? = some (.cells #[.int .i64 x.t.k, .string x.t.m, .string x.t.n, .slice x.aa x.t.A.len x.ca, .slice x.af x.t.F.len x.cf] 25 (0, 0)) := by rw [← hwa]; exact World.alloc_heap_new _ _
  have hlF : x.t.F.len ≤ 1099511627776 := by have := Tr.len_le x.t.F; have : x.t.size = 1 + x.t.A.size + x.t.F.size := rfl; omega
  have hsa : wa.heap.size = W.heap.size + 1 := by rw [← hwa]; simp
  have k4 := cell_of_row wa _ 4 _ _ _ hea
  have HEQ : Kpt (∀ (m n : ByteArray) (va : Value) (F : Tr) (W' : World), SlW w0 va F true → F.size ≤ 1099511627775 → Below w0.heap.size w0 W' → Calls Tryz.prog 36 #[.agg #[.int .i64 0, .string m, .string n, .slice none 0 0, va], .agg #[.int .i64 0, .string ⟨#[]⟩, .string ⟨#[]⟩, .slice none 0 0, .slice none 0 0]] W'
      fun e w' => e = .returned (.bool ((Ty.mk 0 m n .nil F).eq zeroT)) ∧ Below W'.heap.size W' w') := hid fun m n va F W' h1 h2 h3 =>
    eq_any (t := ⟨0, m, n, .nil, F⟩) (u := zeroT) ⟨_, _, rfl, (show (Lit.int .i64 0).wf = true by decide), ⟨none, 0, rfl, .inl rfl⟩, SlW_below h1 h3⟩ ⟨_, _, rfl, (show (Lit.int .i64 0).wf = true by decide), ⟨none, 0, rfl, .inl rfl⟩, ⟨none, 0, rfl, .inl rfl⟩⟩ (by show 1 + 0 + F.size ≤ _; omega)
  have HB := hid (And.intro hba (And.intro hea hW))
  clear hba hea hW
  go_enter Tryz.func96, Tryz.ntmps96
  go_wp2_with fail
  clear hwa
  go_loopw [3, 10] (fun q a wr => ∃ (i : Nat), a = .int .i64 (i : Int) ∧ i ≤ x.t.F.len ∧ q = .bool (anyOp (x.t.F.fds.take i)) ∧ Below wa.heap.size wa wr) (fun _ a _ => x.t.F.len - (intOf a).toNat)
  case atStart => exact ⟨0, rfl, Nat.zero_le _, rfl, Below.refl _ _⟩
  case round =>
    obtain ⟨i, rfl, hi, rfl, hB⟩ := hrel
    have HN := hid hB
    clear hB
    by_cases hlt : i < x.t.F.len
    · obtain ⟨bf, of, haf, hL⟩ : ∃ b o, x.af = some ⟨b, o, none⟩ ∧ Lies w0 x.t.F true b o := by
        rcases x.hf with h | h
        · rw [h] at hlt; exact absurd hlt (Nat.not_lt_zero _)
        · exact h
      obtain ⟨fn, op, y, hy, hfd, d0, d1, d2, d3, d4, d5, d6⟩ := lies_fd2 x.t.F bf of i hL hlt
      have hWr := HB.out.2.2.trans ((HB.out.1.trans (HN.out.mono HB.out.1.size)).mono HB.out.2.2.size)
      have d0 := old_cell hWr d0
      have d1 := old_cell hWr d1
      have d2 := old_cell hWr d2
      have d3 := old_cell hWr d3
      have d4 := old_cell hWr d4
      have d5 := old_cell hWr d5
      have d6 := old_cell hWr d6
      have hsn : anyOp (x.t.F.fds.take (i + 1)) = (anyOp (x.t.F.fds.take i) || op) := by rw [take_snoc hfd, anyOp_snoc]
      obtain ⟨wb, hwb⟩ : ∃ wb, wr.alloc (.cells #[.string fn, .int .i64 y.t.k, .string y.t.m, .string y.t.n, .slice y.aa y.t.A.len y.ca, .slice y.af y.t.F.len y.cf, .bool op] 86) = wb := ⟨_, rfl⟩
      have hbb : Below wr.heap.size wr wb := by rw [← hwb]; exact (Below.refl _ wr).alloc (Nat.le_refl _) _
      have heb : wb.heap[wr.heap.size]? = some (.cells #[.string fn, .int .i64 y.t.k, .string y.t.m, .string y.t.n, .slice y.aa y.t.A.len y.ca, .slice y.af y.t.F.len y.cf, .bool op] 86 (0, 0)) := by rw [← hwb]; exact World.alloc_heap_new _ _
      have e6 := cell_of_row wb _ 6 _ _ _ heb
      have HS := hid (And.intro hsn (HN.out.trans (hbb.mono HN.out.size)))
      clear hsn hy hfd hL hWr heb hbb
      rw [haf]
      generalize anyOp (x.t.F.fds.take i) = P at HS ⊢
      cases P with
      | false =>
        go_wp2_with fail
        go_roundw
        case rel => exact ⟨i + 1, by go_num, by omega, by rw [HS.out.1]; rfl, HS.out.2⟩
        case measure => simp [intOf]; omega
      | true =>
        go_wp2_with fail
        go_roundw
        case rel => exact ⟨i + 1, by go_num, by omega, by rw [HS.out.1]; rfl, HS.out.2⟩
        case measure => simp [intOf]; omega
    · have hi' : x.t.F.fds.take i = x.t.F.fds := List.take_of_length_le (by rw [Tr.fds_len]; omega)
      rw [hi']
      clear hi'
      have hwr := HB.out.1.trans (HN.out.mono HB.out.1.size)
      have hr0 := (HN.out.block _ (by rw [hsa]; omega)).trans HB.out.2.1
      have hszr := HN.out.size
      have hFs : x.t.F.size ≤ 1099511627775 := by have : x.t.size = 1 + x.t.A.size + x.t.F.size := rfl; omega
      have r0 := cell_of_row wr _ 0 _ _ _ hr0
      have r1 := cell_of_row wr _ 1 _ _ _ hr0
      have r2 := cell_of_row wr _ 2 _ _ _ hr0
      have r3 := cell_of_row wr _ 3 _ _ _ hr0
      have r4 := cell_of_row wr _ 4 _ _ _ hr0
      obtain ⟨wf, hwf⟩ : ∃ wf, wr.alloc (.cells #[.int .i64 0, .string x.t.m, .string x.t.n, .slice none 0 0, .slice x.af x.t.F.len x.cf] 25) = wf := ⟨_, rfl⟩
      have hbf : Below wr.heap.size wr wf := by rw [← hwf]; exact (Below.refl _ wr).alloc (Nat.le_refl _) _
      have hef : wf.heap[wr.heap.size]? = some (.cells #[.int .i64 0, .string x.t.m, .string x.t.n, .slice none 0 0, .slice x.af x.t.F.len x.cf] 25 (0, 0)) := by rw [← hwf]; exact World.alloc_heap_new _ _
      have f0 := cell_of_row wf _ 0 _ _ _ ((hbf.block _ (by omega)).trans hr0)
      have hBf : Below W.heap.size W wf := hwr.trans (hbf.mono hwr.size)
      have HW := hid (And.intro hBf (And.intro hef (And.intro hFs (show SlW w0 (.slice x.af x.t.F.len x.cf) x.t.F true from ⟨_, _, rfl, x.hf⟩))))
      clear hwr hr0 hFs hbf hef hBf
      by_cases hk : x.t.k = 6
      · skip
        have f0 : wf.cell? ⟨W.heap.size, 0, none⟩ = some (.int .i64 6) := by rw [f0]; simp [hk]
        have z0 := frozen_row HW.out.2.1 4
        have y0 := cell_of_row wf _ 4 _ _ _ HW.out.2.1
        obtain ⟨wg0, hwg0⟩ : ∃ wg, wf.setCell ⟨wr.heap.size, 4, none⟩ (.slice none 0 0) = wg := ⟨_, rfl⟩
        have hg0 : wg0.heap[wr.heap.size]? = some (.cells #[.int .i64 0, .string x.t.m, .string x.t.n, .slice none 0 0, .slice none 0 0] 25 (0, 0)) := by rw [← hwg0]; exact heap_setCell_same wf _ 4 _ _ _ HW.out.2.1
        have hh0 : Below W.heap.size W wg0 := by rw [← hwg0]; exact HW.out.1.trans (below_setC _ _ (by have h9 := HB.out.1.size; omega))
        have HG := hid (And.intro hh0 hg0)
        have g0 := cell_of_row wg0 _ 0 _ _ _ HG.out.2
        have g1 := cell_of_row wg0 _ 1 _ _ _ HG.out.2
        have g2 := cell_of_row wg0 _ 2 _ _ _ HG.out.2
        have g3 := cell_of_row wg0 _ 3 _ _ _ HG.out.2
        have g4 := cell_of_row wg0 _ 4 _ _ _ HG.out.2
        clear hg0 hh0
        have hcall := HEQ.out (x.t.m) (x.t.n) (.slice none 0 0) (.nil) wg0 ⟨none, 0, rfl, .inl rfl⟩ (Nat.zero_le _) (HB.out.2.2.trans (HG.out.1.mono HB.out.2.2.size))
        have HC := hid hcall
        clear hcall
        have hres : nPart x.t = (!anyOp x.t.F.fds && (Ty.mk 0 (x.t.m) (x.t.n) .nil (.nil)).eq zeroT) := by unfold nPart restT; simp [hk]
        have HRES := hid hres
        clear hres
        generalize anyOp x.t.F.fds = P at HRES ⊢
        cases P with
        | true =>
          go_wp2_with fail
          go_ret
          exact ⟨by rw [HRES.out]; rfl, HG.out.1⟩
        | false =>
          go_wp2_with fail
          refine HC.out.mono ?_
          rintro e w9 ⟨rfl, hb9⟩
          have H9 := hid hb9
          clear hb9
          go_wp2_with fail
          go_ret
          exact ⟨by rw [HRES.out]; rfl, HG.out.1.trans (H9.out.mono HG.out.1.size)⟩
      have h6 := hk
      clear hk
      by_cases hk : x.t.k = 7
      · skip
        have f0 : wf.cell? ⟨W.heap.size, 0, none⟩ = some (.int .i64 7) := by rw [f0]; simp [hk]
        clear h6
        have z0 := frozen_row HW.out.2.1 4
        have y0 := cell_of_row wf _ 4 _ _ _ HW.out.2.1
        obtain ⟨wg0, hwg0⟩ : ∃ wg, wf.setCell ⟨wr.heap.size, 4, none⟩ (.slice none 0 0) = wg := ⟨_, rfl⟩
        have hg0 : wg0.heap[wr.heap.size]? = some (.cells #[.int .i64 0, .string x.t.m, .string x.t.n, .slice none 0 0, .slice none 0 0] 25 (0, 0)) := by rw [← hwg0]; exact heap_setCell_same wf _ 4 _ _ _ HW.out.2.1
        have hh0 : Below W.heap.size W wg0 := by rw [← hwg0]; exact HW.out.1.trans (below_setC _ _ (by have h9 := HB.out.1.size; omega))
        have HG := hid (And.intro hh0 hg0)
        have g0 := cell_of_row wg0 _ 0 _ _ _ HG.out.2
        have g1 := cell_of_row wg0 _ 1 _ _ _ HG.out.2
        have g2 := cell_of_row wg0 _ 2 _ _ _ HG.out.2
        have g3 := cell_of_row wg0 _ 3 _ _ _ HG.out.2
        have g4 := cell_of_row wg0 _ 4 _ _ _ HG.out.2
        clear hg0 hh0
        have hcall := HEQ.out (x.t.m) (x.t.n) (.slice none 0 0) (.nil) wg0 ⟨none, 0, rfl, .inl rfl⟩ (Nat.zero_le _) (HB.out.2.2.trans (HG.out.1.mono HB.out.2.2.size))
        have HC := hid hcall
        clear hcall
        have hres : nPart x.t = (!anyOp x.t.F.fds && (Ty.mk 0 (x.t.m) (x.t.n) .nil (.nil)).eq zeroT) := by unfold nPart restT; simp [hk]
        have HRES := hid hres
        clear hres
        generalize anyOp x.t.F.fds = P at HRES ⊢
        cases P with
        | true =>
          go_wp2_with fail
          go_ret
          exact ⟨by rw [HRES.out]; rfl, HG.out.1⟩
        | false =>
          go_wp2_with fail
          refine HC.out.mono ?_
          rintro e w9 ⟨rfl, hb9⟩
          have H9 := hid hb9
          clear hb9
          go_wp2_with fail
          go_ret
          exact ⟨by rw [HRES.out]; rfl, HG.out.1.trans (H9.out.mono HG.out.1.size)⟩
      have h7 := hk
      clear hk
      by_cases hk : x.t.k = 8
      · skip
        have f0 : wf.cell? ⟨W.heap.size, 0, none⟩ = some (.int .i64 8) := by rw [f0]; simp [hk]
        clear h6
        clear h7
        have z0 := frozen_row HW.out.2.1 4
        have y0 := cell_of_row wf _ 4 _ _ _ HW.out.2.1
        obtain ⟨wg0, hwg0⟩ : ∃ wg, wf.setCell ⟨wr.heap.size, 4, none⟩ (.slice none 0 0) = wg := ⟨_, rfl⟩
        have hg0 : wg0.heap[wr.heap.size]? = some (.cells #[.int .i64 0, .string x.t.m, .string x.t.n, .slice none 0 0, .slice none 0 0] 25 (0, 0)) := by rw [← hwg0]; exact heap_setCell_same wf _ 4 _ _ _ HW.out.2.1
        have hh0 : Below W.heap.size W wg0 := by rw [← hwg0]; exact HW.out.1.trans (below_setC _ _ (by have h9 := HB.out.1.size; omega))
        have HG := hid (And.intro hh0 hg0)
        have g0 := cell_of_row wg0 _ 0 _ _ _ HG.out.2
        have g1 := cell_of_row wg0 _ 1 _ _ _ HG.out.2
        have g2 := cell_of_row wg0 _ 2 _ _ _ HG.out.2
        have g3 := cell_of_row wg0 _ 3 _ _ _ HG.out.2
        have g4 := cell_of_row wg0 _ 4 _ _ _ HG.out.2
        clear hg0 hh0
        have hcall := HEQ.out (x.t.m) (x.t.n) (.slice none 0 0) (.nil) wg0 ⟨none, 0, rfl, .inl rfl⟩ (Nat.zero_le _) (HB.out.2.2.trans (HG.out.1.mono HB.out.2.2.size))
        have HC := hid hcall
        clear hcall
        have hres : nPart x.t = (Ty.mk 0 (x.t.m) (x.t.n) .nil (.nil)).eq zeroT := by unfold nPart restT; simp [hk]
        have HRES := hid hres
        clear hres
        go_wp2_with fail
        refine HC.out.mono ?_
        rintro e w9 ⟨rfl, hb9⟩
        have H9 := hid hb9
        clear hb9
        go_wp2_with fail
        go_ret
        exact ⟨by rw [HRES.out]; rfl, HG.out.1.trans (H9.out.mono HG.out.1.size)⟩
      have h8 := hk
      clear hk
      by_cases hk : x.t.k = 9
      · skip
        have f0 : wf.cell? ⟨W.heap.size, 0, none⟩ = some (.int .i64 9) := by rw [f0]; simp [hk]
        clear h6
        clear h7
        clear h8
        have z0 := frozen_row HW.out.2.1 2
        have y0 := cell_of_row wf _ 2 _ _ _ HW.out.2.1
        obtain ⟨wg0, hwg0⟩ : ∃ wg, wf.setCell ⟨wr.heap.size, 2, none⟩ (.string ⟨#[]⟩) = wg := ⟨_, rfl⟩
        have hg0 : wg0.heap[wr.heap.size]? = some (.cells #[.int .i64 0, .string x.t.m, .string ⟨#[]⟩, .slice none 0 0, .slice x.af x.t.F.len x.cf] 25 (0, 0)) := by rw [← hwg0]; exact heap_setCell_same wf _ 2 _ _ _ HW.out.2.1
        have hh0 : Below W.heap.size W wg0 := by rw [← hwg0]; exact HW.out.1.trans (below_setC _ _ (by have h9 := HB.out.1.size; omega))
        have HG := hid (And.intro hh0 hg0)
        have g0 := cell_of_row wg0 _ 0 _ _ _ HG.out.2
        have g1 := cell_of_row wg0 _ 1 _ _ _ HG.out.2
        have g2 := cell_of_row wg0 _ 2 _ _ _ HG.out.2
        have g3 := cell_of_row wg0 _ 3 _ _ _ HG.out.2
        have g4 := cell_of_row wg0 _ 4 _ _ _ HG.out.2
        clear hg0 hh0
        have hcall := HEQ.out (x.t.m) (⟨#[]⟩) (.slice x.af x.t.F.len x.cf) (x.t.F) wg0 HW.out.2.2.2 HW.out.2.2.1 (HB.out.2.2.trans (HG.out.1.mono HB.out.2.2.size))
        have HC := hid hcall
        clear hcall
        have hres : nPart x.t = (!anyOp x.t.F.fds && (Ty.mk 0 (x.t.m) (⟨#[]⟩) .nil (x.t.F)).eq zeroT) := by unfold nPart restT; simp [hk]
        have HRES := hid hres
        clear hres
        generalize anyOp x.t.F.fds = P at HRES ⊢
        cases P with
        | true =>
          go_wp2_with fail
          go_ret
          exact ⟨by rw [HRES.out]; rfl, HG.out.1⟩
        | false =>
          go_wp2_with fail
          refine HC.out.mono ?_
          rintro e w9 ⟨rfl, hb9⟩
          have H9 := hid hb9
          clear hb9
          go_wp2_with fail
          go_ret
          exact ⟨by rw [HRES.out]; rfl, HG.out.1.trans (H9.out.mono HG.out.1.size)⟩
      have h9 := hk
      clear hk
      by_cases hk : x.t.k = 10
      · skip
        have f0 : wf.cell? ⟨W.heap.size, 0, none⟩ = some (.int .i64 10) := by rw [f0]; simp [hk]
        clear h6
        clear h7
        clear h8
        clear h9
        have z0 := frozen_row HW.out.2.1 1
        have y0 := cell_of_row wf _ 1 _ _ _ HW.out.2.1
        obtain ⟨wg0, hwg0⟩ : ∃ wg, wf.setCell ⟨wr.heap.size, 1, none⟩ (.string ⟨#[]⟩) = wg := ⟨_, rfl⟩
        have hg0 : wg0.heap[wr.heap.size]? = some (.cells #[.int .i64 0, .string ⟨#[]⟩, .string x.t.n, .slice none 0 0, .slice x.af x.t.F.len x.cf] 25 (0, 0)) := by rw [← hwg0]; exact heap_setCell_same wf _ 1 _ _ _ HW.out.2.1
        have hh0 : Below W.heap.size W wg0 := by rw [← hwg0]; exact HW.out.1.trans (below_setC _ _ (by have h9 := HB.out.1.size; omega))
        have z1 := frozen_row hg0 2
        have y1 := cell_of_row wg0 _ 2 _ _ _ hg0
        obtain ⟨wg1, hwg1⟩ : ∃ wg, wg0.setCell ⟨wr.heap.size, 2, none⟩ (.string ⟨#[]⟩) = wg := ⟨_, rfl⟩
        have hg1 : wg1.heap[wr.heap.size]? = some (.cells #[.int .i64 0, .string ⟨#[]⟩, .string ⟨#[]⟩, .slice none 0 0, .slice x.af x.t.F.len x.cf] 25 (0, 0)) := by rw [← hwg1]; exact heap_setCell_same wg0 _ 2 _ _ _ hg0
        have hh1 : Below W.heap.size W wg1 := by rw [← hwg1]; exact hh0.trans (below_setC _ _ (by have h9 := HB.out.1.size; omega))
        have HG := hid (And.intro hh1 hg1)
        have g0 := cell_of_row wg1 _ 0 _ _ _ HG.out.2
        have g1 := cell_of_row wg1 _ 1 _ _ _ HG.out.2
        have g2 := cell_of_row wg1 _ 2 _ _ _ HG.out.2
        have g3 := cell_of_row wg1 _ 3 _ _ _ HG.out.2
        have g4 := cell_of_row wg1 _ 4 _ _ _ HG.out.2
        clear hg0 hh0
        clear hg1 hh1
        have hcall := HEQ.out (⟨#[]⟩) (⟨#[]⟩) (.slice x.af x.t.F.len x.cf) (x.t.F) wg1 HW.out.2.2.2 HW.out.2.2.1 (HB.out.2.2.trans (HG.out.1.mono HB.out.2.2.size))
        have HC := hid hcall
        clear hcall
        have hres : nPart x.t = (!anyOp x.t.F.fds && (Ty.mk 0 (⟨#[]⟩) (⟨#[]⟩) .nil (x.t.F)).eq zeroT) := by unfold nPart restT; simp [hk]
        have HRES := hid hres
        clear hres
        generalize anyOp x.t.F.fds = P at HRES ⊢
        cases P with
        | true =>
          go_wp2_with fail
          go_ret
          exact ⟨by rw [HRES.out]; rfl, HG.out.1⟩
        | false =>
          go_wp2_with fail
          refine HC.out.mono ?_
          rintro e w9 ⟨rfl, hb9⟩
          have H9 := hid hb9
          clear hb9
          go_wp2_with fail
          go_ret
          exact ⟨by rw [HRES.out]; rfl, HG.out.1.trans (H9.out.mono HG.out.1.size)⟩
      have h10 := hk
      clear hk
      have f0 : wf.cell? ⟨W.heap.size, 0, none⟩ = some (.int .i64 x.t.k) := by rw [f0]; rfl
      have HG := hid (And.intro HW.out.1 HW.out.2.1)
      have g0 := cell_of_row wf _ 0 _ _ _ HG.out.2
      have g1 := cell_of_row wf _ 1 _ _ _ HG.out.2
      have g2 := cell_of_row wf _ 2 _ _ _ HG.out.2
      have g3 := cell_of_row wf _ 3 _ _ _ HG.out.2
      have g4 := cell_of_row wf _ 4 _ _ _ HG.out.2
      have hcall := HEQ.out (x.t.m) (x.t.n) (.slice x.af x.t.F.len x.cf) (x.t.F) wf HW.out.2.2.2 HW.out.2.2.1 (HB.out.2.2.trans (HG.out.1.mono HB.out.2.2.size))
      have HC := hid hcall
      clear hcall
      have hres : nPart x.t = (!anyOp x.t.F.fds && (Ty.mk 0 (x.t.m) (x.t.n) .nil (x.t.F)).eq zeroT) := by unfold nPart restT; simp [h6, h7, h8, h9, h10]
      have HRES := hid hres
      clear hres
      generalize anyOp x.t.F.fds = P at HRES ⊢
      cases P with
      | true =>
        go_wp2_with fail
        go_ret
        exact ⟨by rw [HRES.out]; rfl, HG.out.1⟩
      | false =>
        go_wp2_with fail
        refine HC.out.mono ?_
        rintro e w9 ⟨rfl, hb9⟩
        have H9 := hid hb9
        clear hb9
        go_wp2_with fail
        go_ret
        exact ⟨by rw [HRES.out]; rfl, HG.out.1.trans (H9.out.mono HG.out.1.size)⟩
end Go.Proofs.YtjedcijddlilaaaGreatDoor

namespace Go.Proofs.YtjedcijddlilaaaGreatDoor
open Go.RowKit Go.Shelf
attribute [local go_sem] Oper.semAt_some

def namesT (t : Ty) : List ByteArray := t.F.fds.map (·.1)
/-- The error of a node's form. -/
def chkN (t : Ty) : Int :=
  if (decide ((t.A.len : Int) ≠ tArgs t.k t.A.len) || !nPart t) = true then 1 else
  if (decide (32 < t.F.len) || decide (8 < t.A.len)) = true then 7 else
  if (!tNam t.k t.m t.n || !allN (namesT t)) = true then 4 else ordN (namesT t)
/-- A type's strings are as short as strings are. -/
def Ty.Sh (t : Ty) : Prop := t.m.size ≤ 9223372036854775807 ∧ t.n.size ≤ 9223372036854775807 ∧ ∀ s ∈ namesT t, s.size ≤ 9223372036854775807
theorem rowS_own {w : World} {base : Nat} {e : TypeId} {p : Option Addr} {c : Nat} {ns : List ByteArray} {n : Nat} (hn : ns.length = n) (h : w.ownsRow base e 1 (.slice p n c) n (ns.map Value.string)) : RowS w ns p := by
  by_cases h0 : n = 0
  · exact .inl (List.eq_nil_of_length_eq_zero (by omega))
  · obtain ⟨g, cap, hv, _, _⟩ := h.form (by omega)
    cases hv
    refine .inr ⟨g, 0, rfl, fun i s hs => ?_⟩
    have hi : i < n := by rw [← hn]; exact (List.getElem?_eq_some_iff.1 hs).1
    have h2 := h.cellAt i (by omega)
    rw [List.getElem?_map, hs] at h2
    simpa using h2
theorem infoStr2 : (Tryz.prog.info? 9).map (fun i => (i.zero, i.size, i.bytes)) = some (some (.string ByteArray.empty), 1, 16) := by kernel_rfl

set_option maxRecDepth 100000 in
set_option maxHeartbeats 8000000 in
theorem checknode_any (w0 : World) (x : TyI w0) (W : World) (hW : Below w0.heap.size w0 W) (hsz : x.t.size ≤ 1099511627776) (hsh : x.t.Sh) (hE : Env W) :
    Calls Tryz.prog 49 #[.agg #[.int .i64 x.t.k, .string x.t.m, .string x.t.n, .slice x.aa x.t.A.len x.ca, .slice x.af x.t.F.len x.cf]] W fun e W' => e = .returned (.int .i64 (chkN x.t)) ∧ Below W.heap.size W W' := by
  obtain ⟨i0, hi, hz0, hz1, hz2⟩ := info_parts infoStr2
  obtain ⟨wa, hwa⟩ : ∃ wa, W.alloc (.cells #[.int .i64 x.t.k, .string x.t.m, .string x.t.n, .slice x.aa x.t.A.len x.ca, .slice x.af x.t.F.len x.cf] 25) = wa := ⟨_, rfl⟩
  have hba : Below W.heap.size W wa := by rw [← hwa]; exact (Below.refl _ W).alloc (Nat.le_refl _) _
  have hea : wa.heap[W.heap.size]? = some (.cells #[.int .i64 x.t.k, .string x.t.m, .string x.t.n, .slice x.aa x.t.A.len x.ca, .slice x.af x.t.F.len x.cf] 25 (0, 0)) := by rw [← hwa]; exact World.alloc_heap_new _ _
  have hlF : x.t.F.len ≤ 1099511627776 := by have := Tr.len_le x.t.F; have : x.t.size = 1 + x.t.A.size + x.t.F.size := rfl; omega
  have hlA : x.t.A.len ≤ 1099511627776 := by have := Tr.len_le x.t.A; have : x.t.size = 1 + x.t.A.size + x.t.F.size := rfl; omega
  have hsa : wa.heap.size = W.heap.size + 1 := by rw [← hwa]; simp
  have k4 := cell_of_row wa _ 4 _ _ _ hea
  have HB := hid (And.intro hba (And.intro hea (And.intro hW (And.intro hsh hE))))
  clear hba hea hW hsh hE
  go_enter Tryz.func49, Tryz.ntmps49
  go_wp2_with (at_make; refine wpList_make_own _ rfl _ _ 44 rfl (W.heap.size + 1) 9 i0 (.string ByteArray.empty) 1 Tryz.underlying44 hi hz0 hz1 _ _ _ x.t.F.len rfl rfl (by omega) ?b2 ?b3 ?b4 ?_)
  case b2 => rw [hz2]; omega
  case b3 => unfold maxLen; omega
  case b4 => omega
  intro w1 hown hgr
  have hb1 : Below wa.heap.size wa w1 := ⟨hgr.os, hgr.tape, hgr.output, hgr.size, fun i hi => hgr.block i hi (by simp)⟩
  have k44 := old_cell hb1 k4
  have H1 := hid (And.intro hown hb1)
  clear hgr hown hb1 hwa k4
  go_wp2_with fail
  clear k44
  go_loopw [3, 13] (fun q a wr => ∃ (i : Nat) (p : Option Addr) (c : Nat), a = .int .i64 (i : Int) ∧ i ≤ x.t.F.len ∧ q = .slice p i c ∧ wr.ownsRow (W.heap.size + 1) 9 1 (.slice p i c) i (((namesT x.t).take i).map Value.string) ∧ Below (W.heap.size + 1) wa wr) (fun _ a _ => x.t.F.len - (intOf a).toNat)
  case atStart => exact ⟨0, _, _, rfl, Nat.zero_le _, rfl, H1.out.1, by rw [← hsa]; exact H1.out.2⟩
  case round =>
    clear H1
    obtain ⟨i, p, c, rfl, hi9, rfl, hrow, hB⟩ := hrel
    have HN := hid (And.intro hrow hB)
    have hwrs := hB.size
    clear hrow hB
    by_cases hlt : i < x.t.F.len
    · obtain ⟨bf, of, haf, hL⟩ : ∃ b o, x.af = some ⟨b, o, none⟩ ∧ Lies w0 x.t.F true b o := by
        rcases x.hf with h | h
        · rw [h] at hlt; exact absurd hlt (Nat.not_lt_zero _)
        · exact h
      obtain ⟨fn, op, y, hy, hfd, d0, d1, d2, d3, d4, d5, d6⟩ := lies_fd2 x.t.F bf of i hL hlt
      have hWr := HB.out.2.2.1.trans ((HB.out.1.trans (HN.out.2.mono (Nat.le_succ _))).mono HB.out.2.2.1.size)
      have d0 := old_cell hWr d0
      have d1 := old_cell hWr d1
      have d2 := old_cell hWr d2
      have d3 := old_cell hWr d3
      have d4 := old_cell hWr d4
      have d5 := old_cell hWr d5
      have d6 := old_cell hWr d6
      have hsn : (namesT x.t).take (i + 1) = (namesT x.t).take i ++ [fn] := by
        unfold namesT
        exact take_snoc (by rw [List.getElem?_map, hfd]; rfl)
      obtain ⟨wb, hwb⟩ : ∃ wb, wr.alloc (.cells #[.string fn, .int .i64 y.t.k, .string y.t.m, .string y.t.n, .slice y.aa y.t.A.len y.ca, .slice y.af y.t.F.len y.cf, .bool op] 86) = wb := ⟨_, rfl⟩
      have hbb : Below wr.heap.size wr wb := by rw [← hwb]; exact (Below.refl _ wr).alloc (Nat.le_refl _) _
      have heb : wb.heap[wr.heap.size]? = some (.cells #[.string fn, .int .i64 y.t.k, .string y.t.m, .string y.t.n, .slice y.aa y.t.A.len y.ca, .slice y.af y.t.F.len y.cf, .bool op] 86 (0, 0)) := by rw [← hwb]; exact World.alloc_heap_new _ _
      have e0 := cell_of_row wb _ 0 _ _ _ heb
      have hBb : Below (W.heap.size + 1) wa wb := HN.out.2.trans (hbb.mono (by omega))
      have hob := own_belowS HN.out.1 hbb
      have hsb := hBb.size
      have HS := hid (And.intro hsn (And.intro hob hBb))
      clear hsn hy hfd hL hWr heb hbb hob hBb
      rw [haf]
      go_wp2_with (at_builtin; refine wpList_append_own _ rfl _ _ 44 rfl (W.heap.size + 1) 9 i0 _ 1 16 Tryz.underlying44 hi hz0 hz1 hz2 rfl (by decide) _ _ _ rfl (HS.out.2.1.alloc _) ⟨wb.heap.size, 0, none⟩ 1 1 [.string fn] rfl rfl (cell_one_new _ _ _) (by simp [Value.oneCell']) (by unfold maxLen; omega) (by omega) (alloc_le (by omega) _) ?_; intro v' w3 hown3 hgrow3 _; obtain ⟨g', cap', rfl⟩ := ownsRow_succ hown3; have hgrow4 : World.grownBy _ w3 (Value.ownBlock (.slice p i c)) := hgrow3; have K3 := hid (And.intro hown3 hgrow4); clear hown3 hgrow3 hgrow4)
      go_roundw
      case rel => exact ⟨i + 1, _, _, by go_num, by omega, rfl, by rw [HS.out.1, List.map_append]; exact K3.out.1, Below.grown (HS.out.2.2.alloc (by omega) _) K3.out.2 (alloc_le (by omega) _) (own_base HS.out.2.1)⟩
      case measure => simp [intOf]; omega
    · obtain rfl : i = x.t.F.len := by omega
      have hnl : (namesT x.t).length = x.t.F.len := by unfold namesT; rw [List.length_map, Tr.fds_len]
      have hrow : wr.ownsRow (W.heap.size + 1) 9 1 (.slice p x.t.F.len c) x.t.F.len ((namesT x.t).map Value.string) := by
        have h := HN.out.1
        rwa [List.take_of_length_le (by omega)] at h
      have hRS := rowS_own hnl hrow
      have hwr : Below W.heap.size W wr := HB.out.1.trans (HN.out.2.mono (Nat.le_succ _))
      have hr0 := (HN.out.2.block _ (Nat.lt_succ_self _)).trans HB.out.2.1
      have hold := HB.out.2.2.1.trans (hwr.mono HB.out.2.2.1.size)
      have hE := HB.out.2.2.2.2.below hwr
      have l0 : ∀ X : Later wr, X.now.cell? ⟨W.heap.size, 0, none⟩ = _ := fun X => cell_of_row X.now _ 0 _ _ _ ((X.since.block _ (by omega)).trans hr0)
      have l1 : ∀ X : Later wr, X.now.cell? ⟨W.heap.size, 1, none⟩ = _ := fun X => cell_of_row X.now _ 1 _ _ _ ((X.since.block _ (by omega)).trans hr0)
      have l2 : ∀ X : Later wr, X.now.cell? ⟨W.heap.size, 2, none⟩ = _ := fun X => cell_of_row X.now _ 2 _ _ _ ((X.since.block _ (by omega)).trans hr0)
      have l3 : ∀ X : Later wr, X.now.cell? ⟨W.heap.size, 3, none⟩ = _ := fun X => cell_of_row X.now _ 3 _ _ _ ((X.since.block _ (by omega)).trans hr0)
      have l4 : ∀ X : Later wr, X.now.cell? ⟨W.heap.size, 4, none⟩ = _ := fun X => cell_of_row X.now _ 4 _ _ _ ((X.since.block _ (by omega)).trans hr0)
      have hta : ∀ X : Later wr, Calls Tryz.prog 95 #[.agg #[.int .i64 x.t.k, .string x.t.m, .string x.t.n, .slice x.aa x.t.A.len x.ca, .slice x.af x.t.F.len x.cf]] X.now fun e w'' => e = .returned (.int .i64 (tArgs x.t.k x.t.A.len)) ∧ ∃ y : Later wr, w'' = y.now := fun X =>
        Calls.later_of (typeargs_any _ _ _ _ _ _ _ _ _ X.now)
      have hnp : ∀ X : Later wr, Calls Tryz.prog 96 #[.agg #[.int .i64 x.t.k, .string x.t.m, .string x.t.n, .slice x.aa x.t.A.len x.ca, .slice x.af x.t.F.len x.cf]] X.now fun e w'' => e = .returned (.bool (nPart x.t)) ∧ ∃ y : Later wr, w'' = y.now := fun X =>
        Calls.later_of (namedparts_any w0 x X.now (hold.trans (X.since.mono hold.size)) hsz)
      have hres : chkN x.t = if (decide ((x.t.A.len : Int) ≠ tArgs x.t.k x.t.A.len) || !nPart x.t) = true then 1 else if (decide (32 < x.t.F.len) || decide (8 < x.t.A.len)) = true then 7 else if (!tNam x.t.k x.t.m x.t.n || !allN (namesT x.t)) = true then 4 else ordN (namesT x.t) := rfl
      have HT := hid hta
      have HP := hid hnp
      have HR := hid (And.intro hRS (And.intro hnl (And.intro hwr (And.intro hold (And.intro hE hr0)))))
      have HRES := hid hres
      clear hta hnp hRS hnl hwr hold hE hr0 hres hrow HN
      generalize tArgs x.t.k x.t.A.len = ta at HT HRES
      generalize nPart x.t = np at HP HRES
      by_cases hne : (x.t.A.len : Int) = ta
      · cases np with
        | false =>
          have HQ := hid (show chkN x.t = 1 by rw [HRES.out]; simp)
          clear HRES
          go_wp2_with fail
          refine wp_region_later (by kernel_rfl) (by kernel_rfl) ?_
          repeat (go_big_quiet_step (first | (go_at_call 95; with_reducible exact HT.out _) | (go_at_call 96; with_reducible exact HP.out _)))
          refine wpQuiet_nil ?_
          intro _ hw'
          obtain ⟨X, hX⟩ := hw'
          subst hX
          go_wp2_with fail
          go_ret
          exact ⟨by rw [HQ.out] <;> rfl, HR.out.2.2.1.trans (X.since.mono HR.out.2.2.1.size)⟩
        | true =>
          have hres : chkN x.t = if (decide (32 < x.t.F.len) || decide (8 < x.t.A.len)) = true then 7 else if (!tNam x.t.k x.t.m x.t.n || !allN (namesT x.t)) = true then 4 else ordN (namesT x.t) := by rw [HRES.out, if_neg (by simp [hne])]
          clear HRES
          by_cases h32 : x.t.F.len ≤ 32
          · by_cases h8 : x.t.A.len ≤ 8
            · have HQ := hid (show chkN x.t = if (!tNam x.t.k x.t.m x.t.n || !allN (namesT x.t)) = true then 4 else ordN (namesT x.t) by rw [hres, if_neg (by simp; omega)])
              clear hres
              go_wp2_with fail
              refine wp_region_later (by kernel_rfl) (by kernel_rfl) ?_
              repeat (go_big_quiet_step (first | (go_at_call 95; with_reducible exact HT.out _) | (go_at_call 96; with_reducible exact HP.out _)))
              refine wpQuiet_nil ?_
              intro _ hw'
              obtain ⟨X, hX⟩ := hw'
              subst hX
              have hold := HR.out.2.2.2.1.trans (X.since.mono HR.out.2.2.2.1.size)
              have hE := HR.out.2.2.2.2.1.below X.since
              have htn := typenames_any x.t.k x.t.m x.t.n x.aa x.af x.t.A.len x.ca x.t.F.len x.cf X.now HB.out.2.2.2.1.1 HB.out.2.2.2.1.2.1 hE
              have HTN := hid htn
              clear hold hE htn
              generalize tNam x.t.k x.t.m x.t.n = tn at HTN HQ
              cases tn with
              | false =>
                have HQ := hid (show chkN x.t = 4 by rw [HQ.out]; simp)
                go_wp2_with fail
                refine HTN.out.mono ?_
                rintro e w5 ⟨rfl, hb5⟩
                have H5 := hid (X.since.trans (hb5.mono X.since.size))
                clear hb5
                go_wp2_with fail
                go_ret
                exact ⟨by rw [HQ.out] <;> rfl, HR.out.2.2.1.trans (H5.out.mono HR.out.2.2.1.size)⟩
              | true =>
                have HQ := hid (show chkN x.t = if (!allN (namesT x.t)) = true then 4 else ordN (namesT x.t) by rw [HQ.out]; simp)
                go_wp2_with fail
                refine HTN.out.mono ?_
                rintro e w5 ⟨rfl, hb5⟩
                have hb5' := X.since.trans (hb5.mono X.since.size)
                have han := allnames_any wr (namesT x.t) p c w5 HR.out.1 hb5' (by rw [HR.out.2.1]; exact hlF) HB.out.2.2.2.1.2.2
                have hor := order_any wr (namesT x.t) p c w5 HR.out.1 hb5' (by rw [HR.out.2.1]; exact hlF)
                rw [HR.out.2.1] at han hor
                have H5 := hid hb5'
                have HAN := hid han
                have HOR := hid hor
                clear hb5 hb5' han hor
                generalize allN (namesT x.t) = an at HAN HQ
                cases an with
                | false =>
                  have HQ := hid (show chkN x.t = 4 by rw [HQ.out]; simp)
                  go_wp2_with fail
                  refine HAN.out.mono ?_
                  rintro e w6 ⟨rfl, rfl⟩
                  go_wp2_with fail
                  go_ret
                  exact ⟨by rw [HQ.out] <;> rfl, HR.out.2.2.1.trans (H5.out.mono HR.out.2.2.1.size)⟩
                | true =>
                  have HQ := hid (show chkN x.t = ordN (namesT x.t) by rw [HQ.out]; simp)
                  go_wp2_with fail
                  refine HAN.out.mono ?_
                  rintro e w6 ⟨rfl, rfl⟩
                  go_wp2_with fail
                  refine HOR.out.mono ?_
                  rintro e w7 ⟨rfl, hb7⟩
                  have H7 := hid (H5.out.trans (hb7.mono H5.out.size))
                  clear hb7
                  go_wp2_with fail
                  go_ret
                  exact ⟨by rw [HQ.out] <;> rfl, HR.out.2.2.1.trans (H7.out.mono HR.out.2.2.1.size)⟩
            · have HQ := hid (show chkN x.t = 7 by rw [hres, if_pos (by simp; omega)])
              clear hres
              go_wp2_with fail
              refine wp_region_later (by kernel_rfl) (by kernel_rfl) ?_
              repeat (go_big_quiet_step (first | (go_at_call 95; with_reducible exact HT.out _) | (go_at_call 96; with_reducible exact HP.out _)))
              refine wpQuiet_nil ?_
              intro _ hw'
              obtain ⟨X, hX⟩ := hw'
              subst hX
              go_wp2_with fail
              go_ret
              exact ⟨by rw [HQ.out] <;> rfl, HR.out.2.2.1.trans (X.since.mono HR.out.2.2.1.size)⟩
          · have HQ := hid (show chkN x.t = 7 by rw [hres, if_pos (by simp; omega)])
            clear hres
            go_wp2_with fail
            refine wp_region_later (by kernel_rfl) (by kernel_rfl) ?_
            repeat (go_big_quiet_step (first | (go_at_call 95; with_reducible exact HT.out _) | (go_at_call 96; with_reducible exact HP.out _)))
            refine wpQuiet_nil ?_
            intro _ hw'
            obtain ⟨X, hX⟩ := hw'
            subst hX
            go_wp2_with fail
            go_ret
            exact ⟨by rw [HQ.out] <;> rfl, HR.out.2.2.1.trans (X.since.mono HR.out.2.2.1.size)⟩
      · have HQ := hid (show chkN x.t = 1 by rw [HRES.out, if_pos (by simp [hne])])
        have hne2 : ((x.t.A.len : Int) != ta) = true := by simp [hne]
        clear HRES
        go_wp2_with fail
        refine wp_region_later (by kernel_rfl) (by kernel_rfl) ?_
        repeat (go_big_quiet_step (first | (go_at_call 95; with_reducible exact HT.out _) | (go_at_call 96; with_reducible exact HP.out _)))
        refine wpQuiet_nil ?_
        intro _ hw'
        obtain ⟨X, hX⟩ := hw'
        subst hX
        go_wp2_with fail
        go_ret
        exact ⟨by rw [HQ.out] <;> rfl, HR.out.2.2.1.trans (X.since.mono HR.out.2.2.1.size)⟩
end Go.Proofs.YtjedcijddlilaaaGreatDoor

namespace Go.Proofs.YtjedcijddlilaaaGreatDoor
open Go.RowKit Go.Shelf
attribute [local go_sem] Oper.semAt_some

/-- The first error. -/
def fst0 : List Int → Int
  | [] => 0
  | e :: l => if e = 0 then fst0 l else e
theorem fst0_append (a b : List Int) : fst0 (a ++ b) = if fst0 a = 0 then fst0 b else fst0 a := by
  induction a with
  | nil => rfl
  | cons e a ih =>
    simp only [List.cons_append, fst0]
    by_cases h : e = 0
    · simp only [h, if_true, ih]
    · simp only [if_neg h]
theorem fst0_prefix {a b : List Int} (h : a <+: b) (hne : fst0 a ≠ 0) : fst0 b = fst0 a := by
  obtain ⟨c, rfl⟩ := h
  rw [fst0_append, if_neg hne]
def chkT (t : Ty) : Int := if 4096 < t.size ∨ 32 < t.depth then 7 else fst0 (t.nodes.map chkN)
theorem node_size : ∀ (n : Nat) (t p : Ty), t.size ≤ n → p ∈ t.nodes → p.size ≤ t.size := by
  intro n
  induction n with
  | zero => intro t p h; exact absurd h (by unfold Ty.size; omega)
  | succ n ih =>
    intro t p h hp
    rw [Ty.nodes_parts, List.mem_cons, List.mem_flatMap] at hp
    rcases hp with rfl | ⟨q, hq, hp⟩
    · exact Nat.le_refl _
    · have h1 := Ty.part_size hq
      have h2 := ih q p (by omega) hp
      omega

set_option maxRecDepth 100000 in
set_option maxHeartbeats 8000000 in
theorem checktype_any (t : Ty) (v : Value) (w : World) (hv : TyV w v t) (hbig : t.size ≤ 1099511627776) (hsh : ∀ p ∈ t.nodes, p.Sh) (hE : Env w) :
    Calls Tryz.prog 12 #[v] w fun e w' => e = .returned (.int .i64 (chkT t)) ∧ Below w.heap.size w w' := by
  obtain ⟨x, rfl, rfl⟩ := tyI_of hv
  clear hv
  obtain ⟨wa, hwa⟩ : ∃ wa, w.alloc (.cells #[.int .i64 x.t.k, .string x.t.m, .string x.t.n, .slice x.aa x.t.A.len x.ca, .slice x.af x.t.F.len x.cf] 25) = wa := ⟨_, rfl⟩
  obtain ⟨wc, hwc⟩ : ∃ wc, wa.alloc (.cells #[.int .i64 0] 38) = wc := ⟨_, rfl⟩
  have hba : Below w.heap.size w wa := by rw [← hwa]; exact (Below.refl _ w).alloc (Nat.le_refl _) _
  have hsa : wa.heap.size = w.heap.size + 1 := by rw [← hwa]; simp
  have hsc : wc.heap.size = w.heap.size + 2 := by rw [← hwc]; simp [hsa]
  have hea : wa.heap[w.heap.size]? = some (.cells #[.int .i64 x.t.k, .string x.t.m, .string x.t.n, .slice x.aa x.t.A.len x.ca, .slice x.af x.t.F.len x.cf] 25 (0, 0)) := by rw [← hwa]; exact World.alloc_heap_new _ _
  have hbc : Below (w.heap.size + 1) wa wc := by rw [← hwc, ← hsa]; exact (Below.refl _ wa).alloc (Nat.le_refl _) _
  have hec := (hbc.block _ (Nat.lt_succ_self _)).trans hea
  have h2c : Boxed wc (w.heap.size + 1) 38 (.int .i64 0) := by rw [← hwc, ← hsa]; exact Boxed.new _ _ _
  have hBc : Below w.heap.size w wc := hba.trans (hbc.mono (Nat.le_succ _))
  have hcall := typeSize0_any x.t x.v 4096 wc (TyV_below x.tyV hBc) hbig
  have k0 := cell_of_row wc _ 0 _ _ _ hec
  have k1 := cell_of_row wc _ 1 _ _ _ hec
  have k2 := cell_of_row wc _ 2 _ _ _ hec
  have k3 := cell_of_row wc _ 3 _ _ _ hec
  have k4 := cell_of_row wc _ 4 _ _ _ hec
  have HN := hid (fun w => typeNodes_any x w)
  have HN' : Kpt (∀ w, Calls Tryz.prog 48 #[.agg #[.int .i64 x.t.k, .string x.t.m, .string x.t.n, .slice x.aa x.t.A.len x.ca, .slice x.af x.t.F.len x.cf]] w _) := hid HN.out
  have HS := hid (show Calls Tryz.prog 47 #[.agg #[.int .i64 x.t.k, .string x.t.m, .string x.t.n, .slice x.aa x.t.A.len x.ca, .slice x.af x.t.F.len x.cf], .int .i64 4096] wc _ from hcall)
  have HB := hid (And.intro hec (And.intro h2c (And.intro hBc (And.intro hsh (And.intro hE hsc)))))
  clear hba hea hbc hec h2c hBc hcall HN hsh hE
  have HX := hid (show chkT x.t = if 4096 < x.t.size ∨ 32 < x.t.depth then 7 else fst0 (x.t.nodes.map chkN) from rfl)
  show Calls Tryz.prog 12 #[.agg #[.int .i64 x.t.k, .string x.t.m, .string x.t.n, .slice x.aa x.t.A.len x.ca, .slice x.af x.t.F.len x.cf]] w _
  refine (callsIn_wide (n := 9)).1 ?_
  refine callsIn_of_wp_marks Tryz.func12 rfl trivial ?_ rfl
  simp only [Tryz.ntmps12, List.size_toArray, List.length_cons, List.length_nil, Nat.reduceAdd, Nat.reduceSub, Array.replicate_succ, Array.replicate_zero, List.push_toArray, List.append_toArray, List.nil_append, List.cons_append]
  by_cases h4 : x.t.size ≤ 4096
  · have hts : tsz x.t.size 4096 = (x.t.size : Int) := by unfold tsz; rw [if_pos (by omega)]
    rw [hts] at HS
    clear hts
    gi_wp2_with fail
    refine ⟨trivial, callsIn_wide.2 (HS.out.mono ?_)⟩
    rintro e w2 ⟨rfl, hb2⟩
    have hd := typeDepth_any (TyV_below x.tyV (HB.out.2.2.1.trans (hb2.mono HB.out.2.2.1.size))) hbig
    have k0 := old_cell hb2 k0
    have k1 := old_cell hb2 k1
    have k2 := old_cell hb2 k2
    have k3 := old_cell hb2 k3
    have k4 := old_cell hb2 k4
    have H2 := hid hb2
    have HD := hid (show Calls Tryz.prog 35 #[.agg #[.int .i64 x.t.k, .string x.t.m, .string x.t.n, .slice x.aa x.t.A.len x.ca, .slice x.af x.t.F.len x.cf]] w2 _ from hd)
    clear hb2 hd
    by_cases h5 : x.t.depth ≤ 32
    · gi_wp2_with fail
      refine ⟨trivial, callsIn_wide.2 (HD.out.mono ?_)⟩
      rintro e w3 ⟨rfl, hb3⟩
      have k0 := old_cell hb3 k0
      have k1 := old_cell hb3 k1
      have k2 := old_cell hb3 k2
      have k3 := old_cell hb3 k3
      have k4 := old_cell hb3 k4
      have H3 := hid hb3
      clear hb3
      gi_wp2_with fail
      refine ⟨trivial, callsIn_wide.2 ((HN'.out _).mono ?_)⟩
      rintro e W6 ⟨rfl, hW6'⟩
      have HW6 := hid hW6'
      clear hW6'
      gi_wp2_with fail
      have hW6 := HW6.out
      clear HW6
      have hs6 : w3.heap.size + 3 = W6.heap.size := by rw [hW6]; simp
      have hB6 : Below w3.heap.size w3 W6 := by
        rw [hW6]; exact (((Below.refl _ w3).alloc (Nat.le_refl _) _).alloc (by simp) _).alloc (by simp; omega) _
      have b2 : W6.heap[w3.heap.size + 1]? = some (.cells x.cells 25 (0, 0)) := by
        rw [hW6]
        refine (Below.heap_alloc _ _ _ (by simp)).trans ?_
        have h := World.alloc_heap_new (w3.alloc (.cells x.cells 25)) (.cells x.cells 25)
        simpa only [World.size_alloc] using h
      have b3 : Boxed W6 (w3.heap.size + 2) 79 (.func (.func 79) #[] #[]) := by
        rw [hW6]; have h := Boxed.new ((w3.alloc (.cells x.cells 25)).alloc (.cells x.cells 25)) 79 (.func (.func 79) #[] #[])
        simpa only [World.size_alloc] using h
      have hs3 : wc.heap.size ≤ w3.heap.size := Nat.le_trans H2.out.size H3.out.size
      have hB3 : Below w.heap.size w w3 := HB.out.2.2.1.trans ((H2.out.trans (H3.out.mono H2.out.size)).mono HB.out.2.2.1.size)
      have hB : Below w.heap.size w W6 := hB3.trans (hB6.mono hB3.size)
      have hsc := HB.out.2.2.2.2.2
      have b1 : Boxed W6 (w.heap.size + 1) 38 (.int .i64 0) := (hB6.block _ (by omega)).trans ((H3.out.block _ (by have := H2.out.size; omega)).trans ((H2.out.block _ (by omega)).trans HB.out.2.1))
      clear hW6 k0 k1 k2 k3 k4
      refine range_box 3 25 TyI.cells (gf := 154) (lb := #[.pointer (some ⟨w3.heap.size + 1, 0, none⟩), .pointer (some ⟨w3.heap.size + 2, 0, none⟩)]) rfl (enters_of Tryz.func154 (by kernel_rfl) rfl)
        (nodes_seq w x hbig (w3.heap.size + 1) (w3.heap.size + 2) W6 b2 b3 (KeepX.of_below hB) (fun i => i = w.heap.size + 1) (fun i hi => by omega))
        (fun i hi => by omega) (Below.refl _ _) (fun _ => rfl)
        (fun pre W => fst0 (pre.map fun y => chkN y.t) = 0 ∧ Boxed W (w.heap.size + 1) 38 (.int .i64 0) ∧ Below w.heap.size w W)
        (fun c pre W => c = .ret ∧ fst0 (pre.map fun y => chkN y.t) ≠ 0 ∧ Boxed W (w.heap.size + 1) 38 (.int .i64 (fst0 (pre.map fun y => chkN y.t))) ∧ Below w.heap.size w W)
        ?hI ?hIx ⟨rfl, b1, hB⟩ ?assign ?body ?done ?stop
      case hI =>
        intro s A B hs hb
        exact ⟨hs.1, (hb.block _ (by omega)).trans hs.2.1, hs.2.2.trans (hb.mono (by omega))⟩
      case hIx =>
        intro c s A B hs hb
        exact ⟨hs.1, hs.2.1, (hb.block _ (by omega)).trans hs.2.2.1, hs.2.2.2.trans (hb.mono (by omega))⟩
      case assign =>
        intro m l' y W'
        dsimp only [TyI.v, TyI.cells]
        gi_wp2_with fail
        exact ⟨trivial, by simp⟩
      case body =>
        rintro m l' Bx pre y W7 hl hlB hwB hBW hbx ⟨r, hr⟩ ⟨h1, h2, h3⟩ hv
        rw [List.map_append] at hv
        have hyn : y.t ∈ x.t.nodes := hv.subset (by simp)
        have hcall := checknode_any w y W7 h3 (Nat.le_trans (node_size _ _ _ (Nat.le_refl _) hyn) hbig) (HB.out.2.2.2.1 _ hyn) (HB.out.2.2.2.2.1.below h3)
        have e0 := cell_of_row W7 Bx 0 _ _ _ hbx
        have e1 := cell_of_row W7 Bx 1 _ _ _ hbx
        have e2 := cell_of_row W7 Bx 2 _ _ _ hbx
        have e3 := cell_of_row W7 Bx 3 _ _ _ hbx
        have e4 := cell_of_row W7 Bx 4 _ _ _ hbx
        have hfs : fst0 ((pre ++ [y]).map fun y => chkN y.t) = chkN y.t := by
          rw [List.map_append, fst0_append, if_pos h1]; simp only [List.map_cons, List.map_nil, fst0]; split <;> simp_all
        have HZ := hid (And.intro h2 (And.intro h3 (And.intro hcall hfs)))
        clear h1 h2 h3 hv hcall hbx hfs hyn
        dsimp only [TyI.v, TyI.cells] at e0 e1 e2 e3 e4 ⊢
        generalize chkN y.t = er at HZ
        by_cases her : er = 0
        · subst her
          gi_wp2_with fail
          refine ⟨trivial, fun h => (by cases h), CallsIn.inRound l' (callsIn_wide.2 (HZ.out.2.2.1.mono ?_))⟩
          rintro e w8 ⟨rfl, hb8⟩
          have H8 := hid hb8
          clear hb8
          gi_wp2_with fail
          exact ⟨KeepX.of_below H8.out, HZ.out.2.2.2, (H8.out.block _ HZ.out.1.lt).trans HZ.out.1, HZ.out.2.1.trans (H8.out.mono HZ.out.2.1.size)⟩
        · have her2 : (er != 0) = true := by simp [her]
          gi_wp2_with fail
          refine ⟨trivial, fun h => (by cases h), CallsIn.inRound l' (callsIn_wide.2 (HZ.out.2.2.1.mono ?_))⟩
          rintro e w8 ⟨rfl, hb8⟩
          have f8 : Boxed w8 _ _ _ := (hb8.block _ HZ.out.1.lt).trans HZ.out.1
          have g0 := f8.cell
          have g1 := f8.frozen
          have H8 := hid (And.intro hb8 f8)
          clear hb8 f8
          gi_wp2_with fail
          have hks := KeepX.set w8 (w.heap.size + 1) (.int .i64 er)
          have hse := H8.out.2.set (.int .i64 er)
          have hbS : Below w.heap.size w8 (w8.setCell ⟨w.heap.size + 1, 0, none⟩ (.int .i64 er)) := below_set _ _ (by omega)
          generalize w8.setCell ⟨w.heap.size + 1, 0, none⟩ (.int .i64 er) = w10 at hks hse hbS ⊢
          refine ⟨⟨Nat.le_trans H8.out.1.size hks.1, fun i hi hx => ?_⟩, rfl, by rw [HZ.out.2.2.2]; exact her, by rw [HZ.out.2.2.2]; exact hse, HZ.out.2.1.trans ((H8.out.1.mono HZ.out.2.1.size).trans hbS)⟩
          have hx' : ¬ i < W6.heap.size := hx
          rw [hks.2 i (Nat.lt_of_lt_of_le hi H8.out.1.size) (by omega), H8.out.1.block i hi]
      case done =>
        rintro D ys W9 hD hS ⟨h1, h2, h3⟩ hK
        have f9 := h2
        have g0 := f9.cell
        have g1 := f9.frozen
        have hDb : D ≠ w.heap.size + 1 := by omega
        have HG := hid (And.intro hS (And.intro h1 (And.intro f9 (And.intro h3 hK))))
        clear hS h1 h2 h3 f9 hK
        gi_wp2_with fail
        have hK1 : (W9.setCell ⟨w.heap.size + 1, 0, none⟩ (.int .i64 0)).heap[D]? = some (.deferred (some [])) := ((KeepX.set W9 _ _).2 D (Array.getElem?_eq_some_iff.1 HG.out.2.2.2.2).1 hDb).trans HG.out.2.2.2.2
        have hf : Boxed (W9.setCell ⟨w.heap.size + 1, 0, none⟩ (.int .i64 0)) (w.heap.size + 1) 38 (.int .i64 0) := HG.out.2.2.1.set _
        have hB9 : Below w.heap.size W9 ((W9.setCell ⟨w.heap.size + 1, 0, none⟩ (.int .i64 0)).putObj D (.deferred none)) := (below_set W9 _ (by omega)).trans (below_put (by omega) hK1)
        refine ⟨by simp, .inl ⟨_, _, rfl, run_takeDeferred hK1, ?_⟩⟩
        have m0 : ((W9.setCell ⟨w.heap.size + 1, 0, none⟩ (.int .i64 0)).putObj D (.deferred none)).cell? ⟨w.heap.size + 1, 0, none⟩ = some (.int .i64 0) := Boxed.cell (t := 38) ((World.putObj_heap_other (fun e => hDb e.symm)).trans hf)
        generalize (W9.setCell ⟨w.heap.size + 1, 0, none⟩ (.int .i64 0)).putObj D (.deferred none) = W10 at m0 hB9 ⊢
        have hr : chkT x.t = 0 := by
          rw [HX.out, if_neg (by omega), ← HG.out.1, List.map_map]; exact HG.out.2.1
        exact ⟨.int .i64 0, by simp [results, Tryz.results12, go_sem, m0], by rw [hr], HG.out.2.2.2.1.trans hB9⟩
      case stop =>
        rintro D c pre W9 hD hv ⟨rfl, h0, h1, h2⟩ hK
        have c0 := h1.cell
        have HG := hid (And.intro h0 (And.intro h1 (And.intro h2 (And.intro hK hv))))
        clear h0 h1 h2 hK hv
        gi_wp2_with fail
        have hDb : D ≠ w.heap.size + 1 := by omega
        have hB9 : Below w.heap.size W9 (W9.putObj D (.deferred none)) := below_put (by omega) HG.out.2.2.2.1
        have m0 : (W9.putObj D (.deferred none)).cell? ⟨w.heap.size + 1, 0, none⟩ = some (.int .i64 (fst0 (pre.map fun y => chkN y.t))) := Boxed.cell (t := 38) ((World.putObj_heap_other (fun e => hDb e.symm)).trans HG.out.2.1)
        refine ⟨by simp, .inl ⟨_, _, rfl, run_takeDeferred HG.out.2.2.2.1, ?_⟩⟩
        generalize W9.putObj D (.deferred none) = W10 at m0 hB9 ⊢
        have hr : chkT x.t = fst0 (pre.map fun y => chkN y.t) := by
          rw [HX.out, if_neg (by omega)]
          have hp : (pre.map fun y => chkN y.t) <+: x.t.nodes.map chkN := by
            have h := HG.out.2.2.2.2.map chkN
            rwa [List.map_map] at h
          exact fst0_prefix hp HG.out.1
        exact ⟨.int .i64 (fst0 (pre.map fun y => chkN y.t)), by simp [results, Tryz.results12, go_sem, m0], by rw [hr], HG.out.2.2.1.trans hB9⟩
    · gi_wp2_with fail
      refine ⟨trivial, callsIn_wide.2 (HD.out.mono ?_)⟩
      rintro e w3 ⟨rfl, hb3⟩
      have f3 : Boxed w3 _ _ _ := (hb3.block _ (by have := H2.out.size; have := HB.out.2.2.2.2.2; omega)).trans ((H2.out.block _ (by have := HB.out.2.2.2.2.2; omega)).trans HB.out.2.1)
      have g0 := f3.cell
      have g1 := f3.frozen
      have H3 := hid (And.intro hb3 f3)
      clear hb3 f3
      have hset := (H3.out.2.set (.int .i64 7))
      have m0 := hset.cell
      have hbS : Below w.heap.size w3 (World.setCell w3 ⟨w.heap.size + 1, 0, none⟩ (.int .i64 7)) := below_set _ _ (by omega)
      gi_wp2_with fail
      refine ⟨_, by simp [results, Tryz.results12, go_sem, m0]; rfl, by rw [HX.out, if_pos (.inr (by omega))], HB.out.2.2.1.trans (((H2.out.trans (H3.out.1.mono H2.out.size)).mono HB.out.2.2.1.size).trans hbS)⟩
  · have hts : tsz x.t.size 4096 = 4097 := by unfold tsz; rw [if_neg (by omega)]; decide
    rw [hts] at HS
    clear hts
    gi_wp2_with fail
    refine ⟨trivial, callsIn_wide.2 (HS.out.mono ?_)⟩
    rintro e w2 ⟨rfl, hb2⟩
    have f2 : Boxed w2 _ _ _ := (hb2.block _ (by have := HB.out.2.2.2.2.2; omega)).trans HB.out.2.1
    have g0 := f2.cell
    have g1 := f2.frozen
    have H2 := hid (And.intro hb2 f2)
    clear hb2 f2
    have hset := (H2.out.2.set (.int .i64 7))
    have m0 := hset.cell
    have hbS : Below w.heap.size w2 (World.setCell w2 ⟨w.heap.size + 1, 0, none⟩ (.int .i64 7)) := below_set _ _ (by omega)
    gi_wp2_with fail
    refine ⟨trivial, ?_⟩
    gi_wp2_with fail
    refine ⟨_, by simp [results, Tryz.results12, go_sem, m0]; rfl, by rw [HX.out, if_pos (.inl (by omega))], HB.out.2.2.1.trans ((H2.out.1.mono HB.out.2.2.1.size).trans hbS)⟩
end Go.Proofs.YtjedcijddlilaaaGreatDoor
