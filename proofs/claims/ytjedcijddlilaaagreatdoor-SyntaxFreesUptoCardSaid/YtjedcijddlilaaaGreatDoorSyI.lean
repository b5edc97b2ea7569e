/- syntax: the iterator over the parts of a type. -/
import Derived.Test.YtjedcijddlilaaaGreatDoorSyR
namespace Go.Proofs.YtjedcijddlilaaaGreatDoor
open Go.RowKit Go.Shelf
attribute [local go_sem] Oper.semAt_some

theorem old_cell {w0 W : World} (h : Below w0.heap.size w0 W) {a : Addr} {v : Value} (hc : w0.cell? a = some v) : W.cell? a = some v := (h.cell (World.block_lt_of_cell? w0 a hc)).trans hc
/-- A type as it is handed on: its cells lead into w0. -/
structure TyI (w0 : World) where
  t : Ty
  aa : Option Addr
  ca : Nat
  af : Option Addr
  cf : Nat
  hk : (Lit.int .i64 t.k).wf = true
  ha : t.A = .nil ∨ ∃ b o, aa = some ⟨b, o, none⟩ ∧ Lies w0 t.A false b o
  hf : t.F = .nil ∨ ∃ b o, af = some ⟨b, o, none⟩ ∧ Lies w0 t.F true b o
def TyI.cells {w0 : World} (x : TyI w0) : Array Value := #[.int .i64 x.t.k, .string x.t.m, .string x.t.n, .slice x.aa x.t.A.len x.ca, .slice x.af x.t.F.len x.cf]
def TyI.v {w0 : World} (x : TyI w0) : Value := .agg x.cells
theorem TyI.tyV {w0 : World} (x : TyI w0) : TyV w0 x.v x.t := ⟨_, _, rfl, x.hk, ⟨_, _, rfl, x.ha⟩, ⟨_, _, rfl, x.hf⟩⟩
theorem tyI_of {w0 : World} {v : Value} {t : Ty} (h : TyV w0 v t) : ∃ x : TyI w0, x.t = t ∧ x.v = v := by
  obtain ⟨va, vf, rfl, hk, ⟨a, c, rfl, ha⟩, ⟨a', c', rfl, hf⟩⟩ := h
  exact ⟨⟨t, a, c, a', c', hk, ha, hf⟩, rfl, rfl⟩
/-- An element of a row of types. -/
theorem lies_ty {w : World} : ∀ (T : Tr) (b o i : Nat), Lies w T false b o → i < T.len → ∃ x : TyI w, T.els[i]? = some x.t ∧
    w.cell? ⟨b, o + i * 5, none⟩ = some (.int .i64 x.t.k) ∧ w.cell? ⟨b, o + i * 5 + 1, none⟩ = some (.string x.t.m) ∧ w.cell? ⟨b, o + i * 5 + 2, none⟩ = some (.string x.t.n) ∧
    w.cell? ⟨b, o + i * 5 + 3, none⟩ = some (.slice x.aa x.t.A.len x.ca) ∧ w.cell? ⟨b, o + i * 5 + 4, none⟩ = some (.slice x.af x.t.F.len x.cf) := by
  intro T
  induction T with
  | nil => intro b o i _ hi; exact absurd hi (Nat.not_lt_zero _)
  | node fn op k m n A F nx ha hf hn =>
    intro b o i h hi
    obtain ⟨_, ⟨h1, h1w⟩, h2, h3, ⟨a, c, h4, h5⟩, ⟨a', c', h6, h7⟩, h8⟩ := h
    cases i with
    | zero =>
      refine ⟨⟨⟨k, m, n, A, F⟩, a, c, a', c', h1w, h5, h7⟩, rfl, ?_, ?_, ?_, ?_, ?_⟩
      · simpa using h1
      · simpa using h2
      · simpa using h3
      · simpa using h4
      · simpa using h6
    | succ i =>
      obtain ⟨x, g0, g1, g2, g3, g4, g5⟩ := hn b (o + 5) i h8 (by simp only [Tr.len] at hi; omega)
      have e : o + (i + 1) * 5 = o + 5 + i * 5 := by omega
      refine ⟨x, by simpa [Tr.els] using g0, ?_, ?_, ?_, ?_, ?_⟩ <;> rw [e] <;> assumption
/-- An element of a row of fields. -/
theorem lies_fd {w : World} : ∀ (T : Tr) (b o i : Nat), Lies w T true b o → i < T.len → ∃ (fn : ByteArray) (op : Bool) (x : TyI w), T.els[i]? = some x.t ∧
    w.cell? ⟨b, o + i * 7, none⟩ = some (.string fn) ∧ w.cell? ⟨b, o + i * 7 + 1, none⟩ = some (.int .i64 x.t.k) ∧ w.cell? ⟨b, o + i * 7 + 2, none⟩ = some (.string x.t.m) ∧ w.cell? ⟨b, o + i * 7 + 3, none⟩ = some (.string x.t.n) ∧
    w.cell? ⟨b, o + i * 7 + 4, none⟩ = some (.slice x.aa x.t.A.len x.ca) ∧ w.cell? ⟨b, o + i * 7 + 5, none⟩ = some (.slice x.af x.t.F.len x.cf) ∧ w.cell? ⟨b, o + i * 7 + 6, none⟩ = some (.bool op) := by
  intro T
  induction T with
  | nil => intro b o i _ hi; exact absurd hi (Nat.not_lt_zero _)
  | node fn op k m n A F nx ha hf hn =>
    intro b o i h hi
    obtain ⟨h0, ⟨h1, h1w⟩, h2, h3, ⟨a, c, h4, h5⟩, ⟨a', c', h6, h7⟩, h8⟩ := h
    obtain ⟨h00, h06⟩ := h0 rfl
    cases i with
    | zero =>
      refine ⟨fn, op, ⟨⟨k, m, n, A, F⟩, a, c, a', c', h1w, h5, h7⟩, rfl, ?_, ?_, ?_, ?_, ?_, ?_, ?_⟩
      · simpa using h00
      · simpa using h1
      · simpa using h2
      · simpa using h3
      · simpa using h4
      · simpa using h6
      · simpa using h06
    | succ i =>
      obtain ⟨fn', op', x, g0, g1, g2, g3, g4, g5, g6, g7⟩ := hn b (o + 7) i h8 (by simp only [Tr.len] at hi; omega)
      have e : o + (i + 1) * 7 = o + 7 + i * 7 := by omega
      refine ⟨fn', op', x, by simpa [Tr.els] using g0, ?_, ?_, ?_, ?_, ?_, ?_, ?_⟩ <;> rw [e] <;> assumption
theorem take_snoc {α : Type} {l : List α} {i : Nat} {x : α} (h : l[i]? = some x) : l.take (i + 1) = l.take i ++ [x] := by
  rw [List.take_add_one, h]; rfl

set_option maxRecDepth 100000 in
set_option maxHeartbeats 4000000 in
theorem parts1_in (w0 : World) (x : TyI w0) (hlen : x.t.A.len < 9223372036854775807 ∧ x.t.F.len < 9223372036854775807) (B : Nat) (X : Nat → Prop) (hX : ∀ i, X i → w0.heap.size ≤ i ∧ i ≠ B) (V : List (TyI w0) → Prop) (hV : ∀ ys : List (TyI w0), ys.map (·.t) <+: x.t.parts → V ys) (l n : Nat) (J Jx : List (TyI w0) → World → Prop) (W : World)
    (hB : W.heap[B]? = some (.cells x.cells 25 (0, 0))) (hW : KeepX (fun _ => False) w0 W) (hJ : Stab W.heap.size J)
    (hY : ∀ m pre y W1, J pre W1 → V (pre ++ [y]) → YieldAt Fence.wide m Tryz.prog l #[y.v] W1 fun e W' => (e = .returned (.bool true) ∧ J (pre ++ [y]) W' ∧ KeepX X W1 W') ∨ (e = .returned (.bool false) ∧ Jx (pre ++ [y]) W' ∧ KeepX (· < W.heap.size) W1 W'))
    (h0 : J [] W) :
    CallsIn Fence.wide n Tryz.prog 138 #[.func (.yield l) #[] #[], .pointer (some ⟨B, 0, none⟩)] W fun e W' =>
      (∃ v, e = .returned v) ∧ ((∃ ys : List (TyI w0), ys.map (·.t) = x.t.parts ∧ J ys W') ∨ (∃ pre : List (TyI w0), pre.map (·.t) <+: x.t.parts ∧ Jx pre W')) := by
  obtain ⟨t, aa, ca, af, cf, hk, hA, hF⟩ := x
  simp only [TyI.cells, Ty.parts] at hB hV ⊢
  have hlenA : t.A.len < 9223372036854775807 := hlen.1
  have hlenF : t.F.len < 9223372036854775807 := hlen.2
  clear hlen
  have HY := hid hY
  have HJ := hid hJ
  have HX := hid hX
  have HV := hid hV
  clear hY hJ hX hV
  have HA := hid hA
  have HF := hid hF
  clear hA hF
  have hBl : B < W.heap.size := (Array.getElem?_eq_some_iff.1 hB).1
  have hWs : w0.heap.size ≤ W.heap.size := hW.1
  -- what lay in w0 lies in whatever world the rounds leave
  have HC : Kpt (∀ wr, KeepX X W wr → ∀ a v, w0.cell? a = some v → wr.cell? a = some v) := hid fun wr hk a v hc => by
    have hl := World.block_lt_of_cell? w0 a hc
    exact hk.cell (fun hx => by have := (HX.out _ hx).1; omega) (hW.cell (fun h => h) hc)
  have HB : Kpt (∀ wr, KeepX X W wr → wr.heap[B]? = some (.cells #[.int .i64 t.k, .string t.m, .string t.n, .slice aa t.A.len ca, .slice af t.F.len cf] 25 (0, 0))) := hid fun wr hk => (hk.2 B hBl (fun hx => (HX.out _ hx).2 rfl)).trans hB
  have HW := hid (And.intro hW (And.intro hBl hWs))
  clear hW hBl hWs
  have hb3 := cell_of_row W B 3 _ _ _ hB
  refine callsIn_of_wp Tryz.func138 rfl trivial ?_ rfl
  simp only [Tryz.ntmps138, List.size_toArray, List.length_cons, List.length_nil, Nat.reduceAdd, Nat.reduceSub, Array.replicate_succ, Array.replicate_zero, List.push_toArray, List.append_toArray, List.nil_append, List.cons_append]
  gi_wp2_with fail
  gi_loopw [4, 10] (fun _ a wr => ∃ (pre : List (TyI w0)) (i : Nat), a = .int .i64 (i : Int) ∧ i ≤ t.A.len ∧ pre.map (·.t) = t.A.els.take i ∧ J pre wr ∧ KeepX X W wr) (fun _ a _ => t.A.len - (intOf a).toNat)
  case atStart => exact ⟨[], 0, rfl, Nat.zero_le _, rfl, h0, KeepX.refl _ _⟩
  case round =>
    obtain ⟨pre, i, rfl, hi, hpre, hJp, hkp⟩ := hrel
    have HP := hid (And.intro hpre (And.intro hJp hkp))
    clear hpre hJp hkp
    by_cases hlt : i < t.A.len
    · obtain ⟨ba, oa, rfl, hL⟩ : ∃ b o, aa = some ⟨b, o, none⟩ ∧ Lies w0 t.A false b o := by
        rcases HA.out with h | h
        · rw [h] at hlt; exact absurd hlt (Nat.not_lt_zero _)
        · exact h
      obtain ⟨y, hy0, c0, c1, c2, c3, c4⟩ := lies_ty t.A ba oa i hL hlt
      replace c0 := HC.out wr HP.out.2.2 _ _ c0
      replace c1 := HC.out wr HP.out.2.2 _ _ c1
      replace c2 := HC.out wr HP.out.2.2 _ _ c2
      replace c3 := HC.out wr HP.out.2.2 _ _ c3
      replace c4 := HC.out wr HP.out.2.2 _ _ c4
      have e1 : List.map (fun y : TyI w0 => y.t) (pre ++ [y]) = t.A.els.take (i + 1) := by rw [List.map_append, HP.out.1, take_snoc hy0]; rfl
      have hlp : V (pre ++ [y]) := HV.out _ (by rw [e1]; exact (List.take_prefix _ _).trans (List.prefix_append _ _))
      have HE := hid e1
      clear e1
      have hBa : Below wr.heap.size wr (wr.alloc (.cells y.cells 25)) := (Below.refl _ wr).alloc (Nat.le_refl _) _
      have hJ1 : J pre (wr.alloc (.cells y.cells 25)) := HJ.out _ _ _ HP.out.2.1 (hBa.mono HP.out.2.2.1)
      have HQ := hid (And.intro hJ1 (And.intro (KeepX.of_below (X := X) hBa) hy0))
      clear hJ1 hy0 hBa hL
      obtain ⟨fn, tmps, assign, body, hyy, hR⟩ := HY.out (n - 1) pre y _ HQ.out.1 hlp
      dsimp only [TyI.v, TyI.cells] at hyy
      have HR := hid hR
      clear hR
      gi_wp2_with fail
      refine ⟨fun h => (by cases h), HR.out.mono ?_⟩
      rintro e W3 (⟨rfl, hJ3, hk3⟩ | ⟨rfl, hJx3, _⟩)
      · gi_wp2_with fail
        go_roundw
        case rel => exact ⟨pre ++ [y], i + 1, by go_num, by omega, HE.out, hJ3, HP.out.2.2.trans (HQ.out.2.1.trans hk3)⟩
        case measure => simp [intOf]; omega
      · gi_wp2_with fail
        refine bodyPost_ret (results_none rfl _ _ _) rfl ?_
        refine ⟨⟨_, rfl⟩, .inr ⟨pre ++ [y], ?_, hJx3⟩⟩
        rw [HE.out]
        exact (List.take_prefix _ _).trans (List.prefix_append _ _)
    · obtain rfl : i = t.A.len := by omega
      have hpA : List.map (fun y : TyI w0 => y.t) pre = t.A.els := by rw [HP.out.1, List.take_of_length_le (by rw [Tr.els_len]; exact Nat.le_refl _)]
      obtain ⟨wz, hwz⟩ : ∃ wz, wz = wr := ⟨_, rfl⟩
      have hb4 := cell_of_row wr B 4 _ _ _ (HB.out wr HP.out.2.2)
      have HZ := hid (And.intro hpA (And.intro HP.out.2.1 HP.out.2.2))
      clear hpA HP
      subst hwz
      gi_wp2_with fail
      gi_loopw [6, 22] (fun _ a wr => ∃ (pre : List (TyI w0)) (i : Nat), a = .int .i64 (i : Int) ∧ i ≤ t.F.len ∧ pre.map (·.t) = t.A.els ++ t.F.els.take i ∧ J pre wr ∧ KeepX X W wr) (fun _ a _ => t.F.len - (intOf a).toNat)
      case atStart => exact ⟨pre, 0, rfl, Nat.zero_le _, by rw [List.take_zero, List.append_nil]; exact HZ.out.1, HZ.out.2.1, HZ.out.2.2⟩
      case round =>
        obtain ⟨pre, i, rfl, hi, hpre, hJp, hkp⟩ := hrel
        have HP := hid (And.intro hpre (And.intro hJp hkp))
        clear hpre hJp hkp HZ
        by_cases hlt : i < t.F.len
        · obtain ⟨bf, of, rfl, hL⟩ : ∃ b o, af = some ⟨b, o, none⟩ ∧ Lies w0 t.F true b o := by
            rcases HF.out with h | h
            · rw [h] at hlt; exact absurd hlt (Nat.not_lt_zero _)
            · exact h
          obtain ⟨fn0, op0, y, hy0, c0, c1, c2, c3, c4, c5, c6⟩ := lies_fd t.F bf of i hL hlt
          replace c0 := HC.out wr HP.out.2.2 _ _ c0
          replace c1 := HC.out wr HP.out.2.2 _ _ c1
          replace c2 := HC.out wr HP.out.2.2 _ _ c2
          replace c3 := HC.out wr HP.out.2.2 _ _ c3
          replace c4 := HC.out wr HP.out.2.2 _ _ c4
          replace c5 := HC.out wr HP.out.2.2 _ _ c5
          replace c6 := HC.out wr HP.out.2.2 _ _ c6
          have e1 : List.map (fun y : TyI w0 => y.t) (pre ++ [y]) = t.A.els ++ t.F.els.take (i + 1) := by rw [List.map_append, HP.out.1, take_snoc hy0, List.append_assoc]; rfl
          have hlp : V (pre ++ [y]) := HV.out _ (by rw [e1]; exact (List.prefix_append_right_inj _).2 (List.take_prefix _ _))
          have HE := hid e1
          clear e1
          have hBa : Below wr.heap.size wr (wr.alloc (.cells #[.string fn0, .int .i64 y.t.k, .string y.t.m, .string y.t.n, (.slice y.aa y.t.A.len y.ca), (.slice y.af y.t.F.len y.cf), .bool op0] 86)) := (Below.refl _ wr).alloc (Nat.le_refl _) _
          have hJ1 : J pre (wr.alloc (.cells #[.string fn0, .int .i64 y.t.k, .string y.t.m, .string y.t.n, (.slice y.aa y.t.A.len y.ca), (.slice y.af y.t.F.len y.cf), .bool op0] 86)) := HJ.out _ _ _ HP.out.2.1 (hBa.mono HP.out.2.2.1)
          have HQ := hid (And.intro hJ1 (And.intro (KeepX.of_below (X := X) hBa) hy0))
          clear hJ1 hy0 hBa hL
          obtain ⟨fn, tmps, assign, body, hyy, hR⟩ := HY.out (n - 1) pre y _ HQ.out.1 hlp
          dsimp only [TyI.v, TyI.cells] at hyy
          have HR := hid hR
          clear hR
          gi_wp2_with fail
          refine ⟨fun h => (by cases h), HR.out.mono ?_⟩
          rintro e W3 (⟨rfl, hJ3, hk3⟩ | ⟨rfl, hJx3, _⟩)
          · gi_wp2_with fail
            go_roundw
            case rel => exact ⟨pre ++ [y], i + 1, by go_num, by omega, HE.out, hJ3, HP.out.2.2.trans (HQ.out.2.1.trans hk3)⟩
            case measure => simp [intOf]; omega
          · gi_wp2_with fail
            refine bodyPost_ret (results_none rfl _ _ _) rfl ?_
            refine ⟨⟨_, rfl⟩, .inr ⟨pre ++ [y], ?_, hJx3⟩⟩
            rw [HE.out]
            exact (List.prefix_append_right_inj _).2 (List.take_prefix _ _)
        · obtain rfl : i = t.F.len := by omega
          have hpA : List.map (fun y : TyI w0 => y.t) pre = t.A.els ++ t.F.els := by rw [HP.out.1, List.take_of_length_le (by rw [Tr.els_len]; exact Nat.le_refl _)]
          have HZ := hid (And.intro hpA HP.out.2.1)
          clear hpA HP
          gi_wp2_with fail
          go_end0
          exact ⟨⟨_, rfl⟩, .inl ⟨pre, HZ.out.1, HZ.out.2⟩⟩
end Go.Proofs.YtjedcijddlilaaaGreatDoor
