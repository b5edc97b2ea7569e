/- lexer: Quote. -/
import Derived.Test.YtmgmmbikdmobpaaGreatDoorLxQ
import Derived.Test.YtmgmmbikdmobpaaGreatDoorMoveTail
import Derived.Deep.RegionHeld3
import Derived.Lib.AppendStr
namespace Go.Proofs.YtmgmmbikdmobpaaGreatDoor
open Go.RowKit

/-- append(v, s...) of a string onto own bytes, in a plain region. -/
theorem wpList_append_bstr {P : Program} {w : World} {ops : Array Oper} {rest : List Oper} {o : Oper} {a : Act} {Q : Exit → Act → World → Prop} (hgd : o.guard = none) (sl x : Operand) (t u : TypeId)
    (ho : o.op = .call { callee := .builtin .append, args := #[sl, x], argTypes := #[t, u] })
    (base : Nat) (e : TypeId) (i : TypeInfo) (ht : P.underlying t = some (.slice e)) (hu : P.underlying u = some .string) (hi : P.info? e = some i) (hz : i.zero = some (.int .u8 0)) (hsize : i.size = 1) (hby : i.bytes = 1)
    (v : Value) (n : Nat) (xs : List Value) (hs : a.eval sl = v) (hown : w.ownsRow base e 1 v n xs) (s : ByteArray) (hx : a.eval x = .string s)
    (h63 : n + s.size ≤ maxLen) (hbytes : n + s.size ≤ 140737488355328) (hbase : base ≤ w.heap.size)
    (h : ∀ v' w', w'.ownsRow base e 1 v' (n + s.size) (xs ++ Lib.strCells s) → w.grownBy w' v.ownBlock → wpList P ops Q rest (a.put o.dst v') w') :
    wpList P ops Q (o :: rest) a w := by
  refine wpList_plain hgd fun K hK => ?_
  obtain ⟨v', w', hr, h2, h3, _⟩ := Lib.run_append_own_string (P := P) w base t u o.type e i ht hu hi hz hsize hby v n xs hown s h63 hbytes hbase
  unfold Oper.wp execOp
  simp only [ho, resolve, invoke, builtin, Sem.run_bind, Sem.run_pure, Result.andThen_ok, List.map_toArray, List.map_cons, List.map_nil, hs, hx, hr]
  exact hK _ _ (h v' w' h2 h3)

/-- A literal without its last quote, up to k. -/
def quo (l : List UInt8) (k : Nat) : List UInt8 := [34] ++ (l.take k).flatMap esc
theorem esc_le (b : UInt8) : (esc b).length ≤ 4 := by unfold esc; split; simp; split; simp; split <;> simp
theorem quo_step (l : List UInt8) (k : Nat) (h : k < l.length) : quo l (k + 1) = quo l k ++ esc (l.getD k 0) := by
  unfold quo
  rw [List.take_succ_eq_append_getElem h, List.flatMap_append]
  simp [List.getD, h]
theorem quo_le (l : List UInt8) (k : Nat) : (quo l k).length ≤ 4 * k + 1 := by
  induction k with
  | zero => simp [quo]
  | succ k ih =>
    by_cases h : k < l.length
    · rw [quo_step l k h, List.length_append]; have := esc_le (l.getD k 0); omega
    · have e : quo l (k + 1) = quo l k := by unfold quo; rw [List.take_of_length_le (by omega), List.take_of_length_le (by omega)]
      rw [e]; omega

set_option maxRecDepth 100000 in
set_option maxHeartbeats 1000000 in
theorem quote_any (s : ByteArray) (w : World) (hs : s.size ≤ 1000000) :
    Calls Tryz.prog 10 #[.string s] w
      fun e w' => e = .returned (.string ⟨([34] ++ s.data.toList.flatMap esc ++ [34]).toArray⟩) ∧ Below w.heap.size w w' := by
  obtain ⟨i0, hi, hz0, hz1, hz2⟩ := info_parts infoU8
  go_enter Tryz.func10, Tryz.ntmps10
  go_wp2_with (at_make; refine wpList_make_own _ rfl _ _ 48 rfl w.heap.size 5 i0 (.int .u8 0) 1 Tryz.underlying48 hi hz0 hz1 _ _ _ (s.size + 2) rfl rfl (by omega) ?b2 ?b3 ?b4 ?_)
  case b2 => rw [hz2]; omega
  case b3 => unfold maxLen; omega
  case b4 => exact Nat.le_refl _
  intro w1 hown hgr
  have hb : Below w.heap.size w w1 := ⟨hgr.os, hgr.tape, hgr.output, hgr.size, fun i hi => hgr.block i hi (by simp)⟩
  have KB := hid (And.intro hown hb)
  clear hgr hown hb
  go_wp2_with (at_builtin; refine wpList_append_own _ rfl _ _ 48 rfl w.heap.size 5 i0 (.int .u8 0) 1 1 Tryz.underlying48 hi hz0 hz1 hz2 rfl (by decide) _ _ _ rfl (World.ownsRow.alloc KB.out.1 _) ⟨w1.heap.size, 0, none⟩ 1 1 [.int .u8 34] rfl rfl (cell_one_new _ _ _) (fun x hx => by simp at hx; subst hx; rfl) (by unfold maxLen; omega) (by omega) (alloc_le KB.out.2.size _) ?_; intro v' w3 hown3 hgrow3 hnil; have hgrow4 : (w1.alloc (.cells #[.int .u8 34] 5)).grownBy w3 (Value.ownBlock (.slice (some ⟨w.heap.size, 0, none⟩) 0 (s.size + 2))) := hgrow3; have K3 := hid (And.intro hown3 hgrow4); clear hown3 hgrow3 hgrow4 hnil)
  have hb3 : Below w.heap.size w w3 := Below.grown (KB.out.2.alloc KB.out.2.size _) K3.out.2 (alloc_le KB.out.2.size _) (own_base KB.out.1)
  have K4 : Kpt (OwnB w3 w.heap.size v' (quo s.data.toList 0) ∧ Below w.heap.size w w3) := hid ⟨K3.out.1, hb3⟩
  clear hb3 K3 KB
  go_loopw [3, 14] (fun t i wr => ∃ k : Nat, k ≤ s.size ∧ i = .int .i64 (k : Int) ∧ OwnB wr w.heap.size t (quo s.data.toList k) ∧ Below w.heap.size w wr) (fun _ i _ => s.size - (intOf i).toNat)
  case atStart => exact ⟨0, by omega, rfl, K4.out.1, K4.out.2⟩
  case round =>
    obtain ⟨k, hk, rfl, ho, hbw⟩ := hrel
    by_cases hlt : k < s.size
    · obtain ⟨b, hbk⟩ : ∃ b : UInt8, b = s.data.toList.getD k 0 := ⟨_, rfl⟩
      have hix : ∀ w, (Instr.index 9 (.string s) (.int .i64 (k : Int))).run Tryz.prog w = .ok (.int .u8 (b.toNat : Int)) w := fun w => by rw [hbk]; exact run_index_str s k hlt w
      have HQ := hid (quo_step s.data.toList k (by rw [size_list]; exact hlt))
      rw [← hbk] at HQ
      have HE := hid (fun w => escape_any b w)
      have KO := hid (And.intro ho hbw)
      have hbl := b.toNat_lt
      clear ho hbw hbk
      go_wp2_with fail
      refine (HE.out _).mono ?_
      rintro e w4 ⟨rfl, hb4⟩
      have K5 := hid hb4
      clear hb4
      have hle := quo_le s.data.toList k
      have hes := esc_le b
      have hw4 : w.heap.size ≤ w4.heap.size := Nat.le_trans KO.out.2.size K5.out.size
      have ho4 : OwnB w4 w.heap.size u3 (quo s.data.toList k) := World.ownsRow.kept KO.out.1 (⟨K5.out.os, K5.out.tape, K5.out.output, K5.out.size, fun i hi _ => K5.out.block i hi⟩ : wr.grownBy w4 none) (Classical.em _)
      go_wp2_with (at_builtin; refine wpList_append_bstr rfl _ _ _ _ rfl w.heap.size 5 i0 Tryz.underlying48 Tryz.underlying9 hi hz0 hz1 hz2 u3 _ _ rfl ho4 _ rfl (by rw [mk_size]; unfold maxLen; omega) (by rw [mk_size]; omega) hw4 ?_; intro v5 w5 hown5 hgrow5; have K6 := hid (And.intro hown5 hgrow5); clear hown5 hgrow5 hle hes hw4 ho4)
      have hb5 : Below w.heap.size w w5 := Below.grown (KO.out.2.trans (K5.out.mono KO.out.2.size)) K6.out.2 (Nat.le_trans KO.out.2.size K5.out.size) (own_base KO.out.1)
      have ho5 : OwnB w5 w.heap.size v5 (quo s.data.toList (k + 1)) := by
        have h := K6.out.1
        rw [mk_size] at h
        rw [HQ.out]
        unfold OwnB
        rw [List.length_append, byteCells_append]
        exact h
      exact ⟨⟨k + 1, by omega, by go_num, ho5, hb5⟩, by simp [intOf]; omega⟩
    · obtain rfl : k = s.size := by omega
      have hle := quo_le s.data.toList s.size
      have hall : quo s.data.toList s.size = [34] ++ s.data.toList.flatMap esc := by unfold quo; rw [List.take_of_length_le (by rw [size_list]; exact Nat.le_refl _)]
      have HA := hid hall
      have KO := hid (And.intro ho hbw)
      clear ho hbw hall
      go_wp2_with (at_builtin; refine wpList_append_own _ rfl _ _ 48 rfl w.heap.size 5 i0 (.int .u8 0) 1 1 Tryz.underlying48 hi hz0 hz1 hz2 rfl (by decide) _ _ _ rfl (World.ownsRow.alloc (show wr.ownsRow w.heap.size 5 1 u3 (quo s.data.toList s.size).length (byteCells (quo s.data.toList s.size)) from KO.out.1) _) ⟨wr.heap.size, 0, none⟩ 1 1 [.int .u8 34] rfl rfl (cell_one_new _ _ _) (fun x hx => by simp at hx; subst hx; rfl) (by unfold maxLen; omega) (by omega) (alloc_le KO.out.2.size _) ?_; intro v6 w6 hown6 hgrow6 hnil; have hgrow7 : (wr.alloc (.cells #[.int .u8 34] 5)).grownBy w6 u3.ownBlock := hgrow6; have ho6 : OwnB w6 w.heap.size v6 (quo s.data.toList s.size ++ [34]) := OwnB_snoc hown6; have hcv := own_string (P := Tryz.prog) w6 48 9 5 w.heap.size v6 _ _ Tryz.underlying48 Tryz.underlying5 Tryz.underlying9 ho6; have K6 := hid hgrow7; clear hown6 hgrow6 hgrow7 hnil ho6)
      go_ret
      exact ⟨by rw [HA.out]; rfl, Below.grown (KO.out.2.alloc KO.out.2.size _) K6.out (alloc_le KO.out.2.size _) (own_base KO.out.1)⟩
end Go.Proofs.YtmgmmbikdmobpaaGreatDoor
