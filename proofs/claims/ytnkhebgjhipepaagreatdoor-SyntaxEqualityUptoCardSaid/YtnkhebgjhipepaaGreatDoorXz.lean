/- syntax: the types that stand in an expression: their iterator. | XFlow inside a fence: the same law in the calculus of bounded calls. | syntax: the size of an expression, with a bound. -/
import Derived.Test.YtnkhebgjhipepaaGreatDoorXv
import Derived.Test.YtnkhebgjhipepaaGreatDoorFlow
import Derived.OrdersIn
import Derived.TacticsIn
namespace Go.Proofs.YtnkhebgjhipepaaGreatDoor
open Go.RowKit Go.Shelf
attribute [local go_sem] Oper.semAt_some

/-- The types of an expression alone, without those of its kids. -/
theorem tys_sum (e : Xp) : (e.tys.map Ty.size).sum + 1 + e.K.size = e.size := by rw [e.size_tys]; omega
theorem exprTypes_any {w0 : World} (x : XpI w0) (w : World) : Calls Tryz.prog 102 #[x.v] w
    fun e w' => e = .returned (.func (.func 160) #[] #[.pointer (some ⟨w.heap.size, 0, none⟩)]) ∧ w' = w.alloc (.cells x.cells 29) := by
  show Calls Tryz.prog 102 #[.agg #[.int .i64 x.e.k, .string x.e.m, .string x.e.n, .string x.e.tx, .int .i64 x.e.num, .slice x.aT x.e.T.len x.cT, .slice x.aL x.e.L.length x.cL, .slice x.aK x.e.K.len x.cK]] w _
  have hxc : x.cells = #[.int .i64 x.e.k, .string x.e.m, .string x.e.n, .string x.e.tx, .int .i64 x.e.num, .slice x.aT x.e.T.len x.cT, .slice x.aL x.e.L.length x.cL, .slice x.aK x.e.K.len x.cK] := rfl
  rw [hxc]
  go_enter Tryz.func102, Tryz.ntmps102
  go_wp2_with fail
  go_ret
  exact ⟨rfl, rfl⟩
set_option maxRecDepth 100000 in
set_option maxHeartbeats 4000000 in
theorem types1_in (w0 : World) (x : XpI w0) (hlen : x.e.T.len < 9223372036854775807 ∧ x.e.L.length < 9223372036854775807) (B : Nat) (X : Nat → Prop) (hX : ∀ i, X i → w0.heap.size ≤ i ∧ i ≠ B) (V : List (TyI w0) → Prop) (hV : ∀ ys : List (TyI w0), ys.map (·.t) <+: x.e.tys → V ys) (l n : Nat) (J Jx : List (TyI w0) → World → Prop) (W : World)
    (hB : W.heap[B]? = some (.cells x.cells 29 (0, 0))) (hW : KeepX (fun _ => False) w0 W) (hJ : Stab W.heap.size J)
    (hY : ∀ m pre y W1, J pre W1 → V (pre ++ [y]) → YieldAt Fence.wide m Tryz.prog l #[y.v] W1 fun e W' => (e = .returned (.bool true) ∧ J (pre ++ [y]) W' ∧ KeepX X W1 W') ∨ (e = .returned (.bool false) ∧ Jx (pre ++ [y]) W' ∧ KeepX (· < W.heap.size) W1 W'))
    (h0 : J [] W) :
    CallsIn Fence.wide n Tryz.prog 160 #[.func (.yield l) #[] #[], .pointer (some ⟨B, 0, none⟩)] W fun e W' =>
      (∃ v, e = .returned v) ∧ ((∃ ys : List (TyI w0), ys.map (·.t) = x.e.tys ∧ J ys W') ∨ (∃ pre : List (TyI w0), pre.map (·.t) <+: x.e.tys ∧ Jx pre W')) := by
  have hxc : x.cells = #[.int .i64 x.e.k, .string x.e.m, .string x.e.n, .string x.e.tx, .int .i64 x.e.num, .slice x.aT x.e.T.len x.cT, .slice x.aL x.e.L.length x.cL, .slice x.aK x.e.K.len x.cK] := rfl
  rw [hxc] at hB
  clear hxc
  have hlenA : x.e.T.len < 9223372036854775807 := hlen.1
  have hlenF : x.e.L.length < 9223372036854775807 := hlen.2
  clear hlen
  have HTY : Kpt (x.e.tys = x.e.T.els ++ if x.e.k = 8 then x.e.L.map (·.t) else []) := hid rfl
  have HY := hid hY
  have HJ := hid hJ
  have HX := hid hX
  have HV := hid hV
  clear hY hJ hX hV
  have HA := hid x.hT
  have HF := hid x.hL
  have hBl : B < W.heap.size := (Array.getElem?_eq_some_iff.1 hB).1
  have hWs : w0.heap.size ≤ W.heap.size := hW.1
  have HC : Kpt (∀ wr, KeepX X W wr → ∀ a v, w0.cell? a = some v → wr.cell? a = some v) := hid fun wr hk a v hc => by
    have hl := World.block_lt_of_cell? w0 a hc
    exact hk.cell (fun hx => by have := (HX.out _ hx).1; omega) (hW.cell (fun h => h) hc)
  have HB : Kpt (∀ wr, KeepX X W wr → wr.heap[B]? = some (.cells #[.int .i64 x.e.k, .string x.e.m, .string x.e.n, .string x.e.tx, .int .i64 x.e.num, .slice x.aT x.e.T.len x.cT, .slice x.aL x.e.L.length x.cL, .slice x.aK x.e.K.len x.cK] 29 (0, 0))) := hid fun wr hk => (hk.2 B hBl (fun hx => (HX.out _ hx).2 rfl)).trans hB
  have HW := hid (And.intro hW (And.intro hBl hWs))
  clear hW hBl hWs
  have hb5 := cell_of_row W B 5 _ _ _ hB
  clear hB
  refine callsIn_of_wp Tryz.func160 rfl trivial ?_ rfl
  simp only [Tryz.ntmps160, List.size_toArray, List.length_cons, List.length_nil, Nat.reduceAdd, Nat.reduceSub, Array.replicate_succ, Array.replicate_zero, List.push_toArray, List.append_toArray, List.nil_append, List.cons_append]
  gi_wp2_with fail
  gi_loopw [4, 10] (fun _ a wr => ∃ (pre : List (TyI w0)) (i : Nat), a = .int .i64 (i : Int) ∧ i ≤ x.e.T.len ∧ Kpt (pre.map (·.t) = x.e.T.els.take i) ∧ J pre wr ∧ KeepX X W wr) (fun _ a _ => x.e.T.len - (intOf a).toNat)
  case atStart => exact ⟨[], 0, rfl, Nat.zero_le _, ⟨rfl⟩, h0, KeepX.refl _ _⟩
  case round =>
    obtain ⟨pre, i, rfl, hi, hpre, hJp, hkp⟩ := hrel
    have HP := hid (And.intro hpre.out (And.intro hJp hkp))
    clear hpre hJp hkp
    by_cases hlt : i < x.e.T.len
    · obtain ⟨ba, oa, haT, hL⟩ : ∃ b o, x.aT = some ⟨b, o, none⟩ ∧ Lies w0 x.e.T false b o := by
        rcases HA.out with h | h
        · rw [h] at hlt; exact absurd hlt (Nat.not_lt_zero _)
        · exact h
      obtain ⟨y, hy0, c0, c1, c2, c3, c4⟩ := lies_ty x.e.T ba oa i hL hlt
      rw [haT]
      replace c0 := HC.out wr HP.out.2.2 _ _ c0
      replace c1 := HC.out wr HP.out.2.2 _ _ c1
      replace c2 := HC.out wr HP.out.2.2 _ _ c2
      replace c3 := HC.out wr HP.out.2.2 _ _ c3
      replace c4 := HC.out wr HP.out.2.2 _ _ c4
      have e1 : List.map (fun y : TyI w0 => y.t) (pre ++ [y]) = x.e.T.els.take (i + 1) := by rw [List.map_append, HP.out.1, take_snoc hy0]; rfl
      have hlp : V (pre ++ [y]) := HV.out _ (by rw [e1, HTY.out]; exact (List.take_prefix _ _).trans (List.prefix_append _ _))
      have HE := hid e1
      clear e1
      have hBa : Below wr.heap.size wr (wr.alloc (.cells y.cells 25)) := (Below.refl _ wr).alloc (Nat.le_refl _) _
      have hJ1 : J pre (wr.alloc (.cells y.cells 25)) := HJ.out _ _ _ HP.out.2.1 (hBa.mono HP.out.2.2.1)
      have HQ := hid (And.intro hJ1 (And.intro (KeepX.of_below (X := X) hBa) hy0))
      clear hJ1 hy0 hBa hL haT
      obtain ⟨fn, tmps, assign, body, hyy, hR⟩ := HY.out (n - 1) pre y _ HQ.out.1 hlp
      dsimp only [TyI.v, TyI.cells] at hyy
      have HR := hid hR
      clear hR
      gi_wp2_with fail
      refine ⟨fun h => (by cases h), HR.out.mono ?_⟩
      rintro e W3 (⟨rfl, hJ3, hk3⟩ | ⟨rfl, hJx3, _⟩)
      · gi_wp2_with fail
        go_roundw
        case rel => exact ⟨pre ++ [y], i + 1, by go_num, by omega, ⟨HE.out⟩, hJ3, HP.out.2.2.trans (HQ.out.2.1.trans hk3)⟩
        case measure => simp [intOf]; omega
      · gi_wp2_with fail
        refine bodyPost_ret (results_none rfl _ _ _) rfl ?_
        refine ⟨⟨_, rfl⟩, .inr ⟨pre ++ [y], ?_, hJx3⟩⟩
        rw [HE.out, HTY.out]
        exact (List.take_prefix _ _).trans (List.prefix_append _ _)
    · obtain rfl : i = x.e.T.len := by omega
      have hpA : List.map (fun y : TyI w0 => y.t) pre = x.e.T.els := by rw [HP.out.1, List.take_of_length_le (by rw [Tr.els_len]; exact Nat.le_refl _)]
      obtain ⟨wz, hwz⟩ : ∃ wz, wz = wr := ⟨_, rfl⟩
      have hb0 := cell_of_row wr B 0 _ _ _ (HB.out wr HP.out.2.2)
      have hb6 := cell_of_row wr B 6 _ _ _ (HB.out wr HP.out.2.2)
      have HZ := hid (And.intro hpA (And.intro HP.out.2.1 HP.out.2.2))
      clear hpA HP
      subst hwz
      by_cases hk8 : x.e.k = 8
      · have q8 : (x.e.k == 8) = true := by rw [hk8]; simp
        have u8 : (x.e.k != 8) = false := by rw [hk8]; simp
        have HTL : Kpt (x.e.tys = x.e.T.els ++ x.e.L.map (·.t)) := hid (by rw [HTY.out, if_pos hk8])
        clear hk8 HTY
        gi_wp2_with fail
        gi_loopw [6, 25] (fun _ a wr => ∃ (pre : List (TyI w0)) (i : Nat), a = .int .i64 (i : Int) ∧ i ≤ x.e.L.length ∧ Kpt (pre.map (·.t) = x.e.T.els ++ (x.e.L.map (·.t)).take i) ∧ J pre wr ∧ KeepX X W wr) (fun _ a _ => x.e.L.length - (intOf a).toNat)
        case atStart => exact ⟨pre, 0, rfl, Nat.zero_le _, ⟨by rw [List.take_zero, List.append_nil]; exact HZ.out.1⟩, HZ.out.2.1, HZ.out.2.2⟩
        case round =>
          obtain ⟨pre, i, rfl, hi, hpre, hJp, hkp⟩ := hrel
          have HP := hid (And.intro hpre.out (And.intro hJp hkp))
          clear hpre hJp hkp HZ
          by_cases hlt : i < x.e.L.length
          · obtain ⟨bf, of, lx, y, haL, hgi, hyt, ⟨c0, c1, c2, c3, c4, c5, c6, c7⟩⟩ := lies_lb x.e.L x.aL i 0 (by rw [Nat.zero_mul]; exact HF.out) hlt
            simp only [Nat.zero_add] at c0 c1 c2 c3 c4 c5 c6 c7
            rw [haL]
            replace c0 := HC.out wr HP.out.2.2 _ _ c0
            replace c1 := HC.out wr HP.out.2.2 _ _ c1
            replace c2 := HC.out wr HP.out.2.2 _ _ c2
            replace c3 := HC.out wr HP.out.2.2 _ _ c3
            replace c4 := HC.out wr HP.out.2.2 _ _ c4
            replace c5 := HC.out wr HP.out.2.2 _ _ c5
            replace c6 := HC.out wr HP.out.2.2 _ _ c6
            replace c7 := HC.out wr HP.out.2.2 _ _ c7
            have hgm : (x.e.L.map (·.t))[i]? = some y.t := by rw [List.getElem?_map, hgi, hyt]; rfl
            have e1 : List.map (fun y : TyI w0 => y.t) (pre ++ [y]) = x.e.T.els ++ (x.e.L.map (·.t)).take (i + 1) := by rw [List.map_append, HP.out.1, take_snoc hgm, List.append_assoc]; rfl
            have hlp : V (pre ++ [y]) := HV.out _ (by rw [e1, HTL.out]; exact (List.prefix_append_right_inj _).2 (List.take_prefix _ _))
            have HE := hid e1
            clear e1 hyt hgi hgm
            have hBa : Below wr.heap.size wr (wr.alloc (.cells #[.string lx.nm, .string lx.vr, .int .i64 y.t.k, .string y.t.m, .string y.t.n, .slice y.aa y.t.A.len y.ca, .slice y.af y.t.F.len y.cf, .bool lx.op] 102)) := (Below.refl _ wr).alloc (Nat.le_refl _) _
            have hJ1 : J pre (wr.alloc (.cells #[.string lx.nm, .string lx.vr, .int .i64 y.t.k, .string y.t.m, .string y.t.n, .slice y.aa y.t.A.len y.ca, .slice y.af y.t.F.len y.cf, .bool lx.op] 102)) := HJ.out _ _ _ HP.out.2.1 (hBa.mono HP.out.2.2.1)
            have HQ := hid (And.intro hJ1 (KeepX.of_below (X := X) hBa))
            clear hJ1 hBa haL
            obtain ⟨fn, tmps, assign, body, hyy, hR⟩ := HY.out (n - 1) pre y _ HQ.out.1 hlp
            dsimp only [TyI.v, TyI.cells] at hyy
            have HR := hid hR
            clear hR
            gi_wp2_with fail
            refine ⟨fun h => (by cases h), HR.out.mono ?_⟩
            rintro e W3 (⟨rfl, hJ3, hk3⟩ | ⟨rfl, hJx3, _⟩)
            · gi_wp2_with fail
              go_roundw
              case rel => exact ⟨pre ++ [y], i + 1, by go_num, by omega, ⟨HE.out⟩, hJ3, HP.out.2.2.trans (HQ.out.2.trans hk3)⟩
              case measure => simp [intOf]; omega
            · gi_wp2_with fail
              refine bodyPost_ret (results_none rfl _ _ _) rfl ?_
              refine ⟨⟨_, rfl⟩, .inr ⟨pre ++ [y], ?_, hJx3⟩⟩
              rw [HE.out, HTL.out]
              exact (List.prefix_append_right_inj _).2 (List.take_prefix _ _)
          · obtain rfl : i = x.e.L.length := by omega
            have hpA : List.map (fun y : TyI w0 => y.t) pre = x.e.T.els ++ x.e.L.map (·.t) := by rw [HP.out.1, List.take_of_length_le (by rw [List.length_map]; exact Nat.le_refl _)]
            have HZ := hid (And.intro hpA HP.out.2.1)
            clear hpA HP
            gi_wp2_with fail
            go_end0
            exact ⟨⟨_, rfl⟩, .inl ⟨pre, by rw [HZ.out.1, HTL.out], HZ.out.2⟩⟩
      · have q8 : (x.e.k == 8) = false := by rw [beq_eq_false_iff_ne]; exact hk8
        have u8 : (x.e.k != 8) = true := by simp [hk8]
        have HTL : Kpt (x.e.tys = x.e.T.els) := hid (by rw [HTY.out, if_neg hk8, List.append_nil])
        clear hk8 HTY
        gi_wp2_with fail
        refine bodyPost_ret (results_none rfl _ _ _) rfl ?_
        exact ⟨⟨_, rfl⟩, .inl ⟨pre, by rw [HZ.out.1, HTL.out], HZ.out.2.1⟩⟩
theorem types_seq (w0 : World) (x : XpI w0) (hbig : x.e.bk ≤ 1099511627776) (B : Nat) (w : World) (h1 : w.heap[B]? = some (.cells x.cells 29 (0, 0))) (hold : KeepX (fun _ => False) w0 w) (X : Nat → Prop) (hX : ∀ i, X i → w0.heap.size ≤ i ∧ i ≠ B) :
    SeqB Tryz.prog 160 #[.pointer (some ⟨B, 0, none⟩)] (fun y : TyI w0 => #[y.v]) X (fun ys => ys.map (·.t) = x.e.tys) (fun ys => ys.map (·.t) <+: x.e.tys) w := by
  intro n l J Jx W hb hJ hJx hY h0
  have hbk := x.e.bk_eq
  have hT1 := x.e.T.size_enc false
  have hT2 := Tr.len_le x.e.T
  have hL1 := Lb.len_bk x.e.L
  exact types1_in w0 x ⟨by omega, by omega⟩ B X hX _ (fun _ h => h) l n J Jx W ((hb.block _ (Array.getElem?_eq_some_iff.1 h1).1).trans h1) (hold.trans (KeepX.of_below hb)) hJ hY h0
end Go.Proofs.YtnkhebgjhipepaaGreatDoor

namespace Go.Proofs.YtnkhebgjhipepaaGreatDoor
open Go

section
variable {F : Fence} {m : Nat} {P : Program} {ops : Array Oper} {Q : Exit → Act → World → Prop} {md : Region.Mode}
theorem wpOpIn_of_list {i : Nat} {o : Oper} {K : Act → World → Prop} {a : Act} {w : World} (ho : ops[i]? = some o) (h : wpListIn F m P ops (gQ Q K) [o] a w) : wpOpIn F m P ops Q i K a w := by
  unfold wpOpIn
  simp only [ho]
  unfold wpListIn at h
  split
  · rename_i hw
    simp only [hw, if_true] at h
    unfold Oper.wpIn at *
    refine ⟨h.1, ?_⟩
    have h := h.2
    generalize (o.semAt F.round a.eval).run P w = r at *
    cases r with
    | ok x w' =>
      cases x <;> simp only [Oper.uponIn] at h ⊢ <;>
        first
          | exact h
          | exact ⟨h.1, CallsIn.mono h.2 (fun e w'' he => by cases e <;> exact he)⟩
          | exact ⟨h.1, RowsIn.mono h.2 (fun _ _ he => he)⟩
          | exact ⟨h.1, RoundIn.mono h.2 (fun e w'' he => by cases e <;> exact he)⟩
    | halt x w' => cases x <;> simp only [Oper.uponIn] at h ⊢ <;> exact h
  · rename_i hw
    simp only [hw] at h
    exact h
theorem wpAnyIn_flow {n : Nat} {Fact : Nat → Value → World → Prop} {Fx : Act → Prop} {G : World → Prop} {Rel : Array Bool → Act → World → Prop} (hn : ops.size = n + 1)
    (hback : ∀ (i : Nat) (o : Oper), ops[i]? = some o → ∀ e ∈ o.after, e.on < i) (hlast : ∀ i, i < n → Region.waitsFor md ops n i = true)
    (hstep : ∀ i, i < n → ∀ listed a w, listed.size = n + 1 → listed.getD i true = false → Rel listed a w → Fx a → G w → (∀ j, Region.waitsFor md ops i j = true → Fact j (slotV ops j a) w) →
      wpOpIn F m P ops Q i (fun a' w' => Fx a' ∧ G w' ∧ Fact i (slotV ops i a') w' ∧ (∀ j, j < n → j ≠ i → slotV ops j a' = slotV ops j a) ∧ (∀ j v, Fact j v w → Fact j v w') ∧ Rel (listed.setIfInBounds i true) a' w') a w)
    (hend : ∀ listed a w, (∀ i, i < n → listed.getD i false = true) → Rel listed a w → Fx a → G w → (∀ i, i < n → Fact i (slotV ops i a) w) → wpOpIn F m P ops Q n (Q .normal) a w) :
    ∀ (f : Nat) (listed : Array Bool) (a : Act) (w : World), FlowInv ops n Fact Fx G Rel listed a w → unl n listed ≤ f → wpAnyIn F m P md ops Q f listed a w := by
  intro f
  induction f with
  | zero =>
    intro listed a w inv hu
    have h1 : n ∈ (List.range (n + 1)).filter fun j => !listed.getD j true := List.mem_filter.2 ⟨List.mem_range.2 (by omega), by rw [inv.last]; rfl⟩
    have h2 : (List.range (n + 1)).filter (fun j => !listed.getD j true) = [] := List.eq_nil_of_length_eq_zero (by unfold unl at hu; omega)
    rw [h2] at h1
    cases h1
  | succ f ih =>
    intro listed a w inv hu
    refine ⟨fun h0 => ?_, fun i hi => ?_⟩
    · obtain ⟨i, h1, h2, h3⟩ := least_false (fun j => listed.getD j true) n inv.last
      have hio : ops[i]? = some ops[i] := Array.getElem?_eq_getElem (by omega)
      have hr : i ∈ Region.ready md ops listed := mem_ready.2 ⟨h2, _, hio, fun e he _ => by
        have h4 := hback i _ hio e he
        have h5 := h3 e.on h4
        rw [← getD_in (by rw [inv.size]; omega)]; exact h5⟩
      rw [h0] at hr
      cases hr
    · obtain ⟨hun, o, ho, hall⟩ := mem_ready.1 hi
      have hin : i < n + 1 := by rw [← hn]; exact (Array.getElem?_eq_some_iff.1 ho).1
      have hw : ∀ j, Region.waitsFor md ops i j = true → j < n ∧ listed.getD j false = true := fun j hj => by
        obtain ⟨oj, hoj, e, he, hb, hon⟩ := Region.waitsFor_spec hj
        rw [ho] at hoj
        cases hoj
        have h4 := hback i _ ho e he
        rw [hon] at h4
        have h5 := hall e he hb
        rw [hon] at h5
        exact ⟨by omega, h5⟩
      by_cases hlt : i < n
      · refine wpOpIn_mono (fun a' w' h => ?_) (hstep i hlt listed a w inv.size hun inv.rel inv.fx inv.g fun j hj => inv.facts j (hw j hj).1 (hw j hj).2)
        obtain ⟨h1, h2, h3, h4, h5, h6⟩ := h
        refine ih _ a' w' ⟨by simpa using inv.size, by rw [getD_set_ne true (by omega)]; exact inv.last, h1, h2, h6, fun j hj hl => ?_⟩ ?_
        · by_cases hji : j = i
          · subst hji; exact h3
          · rw [getD_set_ne false (fun e => hji e.symm)] at hl
            rw [h4 j hj hji]
            exact h5 j _ (inv.facts j hj hl)
        · have hlt2 : unl n (listed.setIfInBounds i true) < unl n listed := by
            refine filter_lt (fun x hx => ?_) (List.mem_range.2 hin) (by rw [hun]; rfl) ?_
            · by_cases hxi : x = i
              · subst hxi; rw [hun]; rfl
              · rwa [getD_set_ne true (fun e => hxi e.symm)] at hx
            · have : i < listed.size := by rw [inv.size]; exact hin
              simp [this]
          omega
      · obtain rfl : i = n := by omega
        have hallf : ∀ j, j < i → Fact j (slotV ops j a) w := fun j hj => inv.facts j hj (hw j (hlast j hj)).2
        refine wpOpIn_mono (fun a' w' h => ?_) (hend listed a w (fun j hj => (hw j (hlast j hj)).2) inv.rel inv.fx inv.g hallf)
        have hr : Region.ready md ops (listed.setIfInBounds i true) = [] := by
          refine List.eq_nil_iff_forall_not_mem.2 fun j hj => ?_
          obtain ⟨hju, oj, hoj, _⟩ := mem_ready.1 hj
          have hjn : j < i + 1 := by rw [← hn]; exact (Array.getElem?_eq_some_iff.1 hoj).1
          by_cases hji : j = i
          · subst hji
            have : j < listed.size := by rw [inv.size]; exact hin
            simp [this] at hju
          · rw [getD_set_ne true (fun e => hji e.symm)] at hju
            have h6 := (hw j (hlast j (by omega))).2
            rw [getD_in (by rw [inv.size]; omega), h6] at hju
            cases hju
        cases f with
        | zero => exact ⟨hr, h⟩
        | succ f => exact ⟨fun _ => h, fun j hj => by rw [hr] at hj; cases hj⟩
end
end Go.Proofs.YtnkhebgjhipepaaGreatDoor

namespace Go.Proofs.YtnkhebgjhipepaaGreatDoor
open Go.RowKit Go.Shelf
attribute [local go_sem] Oper.semAt_some

/-- What a node counts for. -/
def Xp.own (e : Xp) : Nat := 1 + (e.tys.map Ty.size).sum
theorem Ex.sum_nodes (K : Ex) : (K.nodes.map Xp.own).sum = K.size := by
  induction K with
  | nil => rfl
  | node k m n tx num T L K nx hk hn =>
    have h := Xp.size_tys ⟨k, m, n, tx, num, T, L, K⟩
    have h2 : (Ex.node k m n tx num T L K nx).size = Xp.size ⟨k, m, n, tx, num, T, L, K⟩ + nx.size := rfl
    rw [h2]
    simp only [Ex.nodes, List.map_cons, List.map_append, List.sum_cons, List.sum_append, hk, hn, Xp.own] at *
    omega
theorem Xp.sum_nodes (e : Xp) : (e.nodes.map Xp.own).sum = e.size := by
  rw [e.size_tys]
  simp only [Xp.nodes, List.map_cons, List.sum_cons, Ex.sum_nodes, Xp.own]
theorem Ex.node_bk {K : Ex} {p : Xp} (h : p ∈ K.nodes) : p.bk ≤ K.enc.bk := by
  induction K with
  | nil => cases h
  | node k m n tx num T L K nx hk hn =>
    simp only [Ex.nodes, List.mem_cons, List.mem_append] at h
    rcases h with rfl | h | h
    · simp only [Ex.enc, Xp.bk, Xp.on, Dt.bk]; omega
    · have := hk h; simp only [Ex.enc, Dt.bk]; omega
    · have := hn h; simp only [Ex.enc, Dt.bk]; omega
theorem Xp.node_bk {e p : Xp} (h : p ∈ e.nodes) : p.bk ≤ e.bk := by
  simp only [Xp.nodes, List.mem_cons] at h
  rcases h with rfl | h
  · exact Nat.le_refl _
  · have := Ex.node_bk h
    rw [Xp.bk_eq e]
    omega
theorem sum_prefix {l m : List Nat} (h : l <+: m) : l.sum ≤ m.sum := by
  obtain ⟨r, rfl⟩ := h
  rw [List.sum_append]; omega
theorem mem_sum {x : Nat} {l : List Nat} (h : x ∈ l) : x ≤ l.sum := by
  induction l with
  | nil => cases h
  | cons y l ih =>
    rw [List.sum_cons]
    rcases List.mem_cons.1 h with rfl | h
    · omega
    · have := ih h; omega
theorem mem_of_snoc {α : Type} {l m : List α} {y : α} (h : l ++ [y] <+: m) : y ∈ m := by
  obtain ⟨r, rfl⟩ := h; simp
theorem prefix_snoc {α : Type} {l m : List α} {y : α} (h : l ++ [y] <+: m) : l <+: m := by
  obtain ⟨r, rfl⟩ := h; rw [List.append_assoc]; exact List.prefix_append _ _
/-- What has been counted of n, with the bound most. -/
def Near (most r : Int) (n : Nat) : Prop := 0 ≤ r ∧ r ≤ n ∧ (most < r ∨ r = n)
theorem Near.zero (most : Int) : Near most 0 0 := ⟨by omega, by simp, .inr rfl⟩
theorem Near.add {most r : Int} {n k : Nat} (h : Near most r n) (hk : 1 ≤ k) : Near most (r + tsz k (most - r)) (n + k) := by
  obtain ⟨h0, h1, h2⟩ := h
  unfold Near tsz
  split
  · exact ⟨by omega, by omega, by omega⟩
  · exact ⟨by omega, by omega, by omega⟩
theorem Near.one {most r : Int} {n : Nat} (h : Near most r n) (k : Nat) : Near most (r + (k : Int)) (n + k) := by
  obtain ⟨h0, h1, h2⟩ := h
  exact ⟨by omega, by omega, by omega⟩
theorem Near.more {most r : Int} {n k : Nat} (h : Near most r n) (hm : most < r) (hk : n ≤ k) : Near most r k := by
  obtain ⟨h0, h1, h2⟩ := h
  exact ⟨h0, by omega, .inl hm⟩
theorem Ty.size_pos (t : Ty) : 1 ≤ t.size := by unfold Ty.size; omega

set_option maxRecDepth 100000 in
set_option maxHeartbeats 1000000 in
/-- A loop whose variable is boxed, in a round too. -/
theorem range_box_in {α : Type} {F : Fence} {n : Nat} {P : Program} {w : World} {g : Operand} {ps : Array Tmp} {assign body : Code} {Q : Exit → Act → World → Prop} {a : Act} (bt : Nat) (ty : TypeId) (cl : α → Array Value)
    (hF : F = Fence.wide ∨ ∃ l₀, F = Fence.wide.inRound l₀) {gf : Nat} {lb : Array Value} (hg : a.eval g = .func (.func gf) #[] lb) (eg : ∀ args w, (callFunc gf args).run P w = .ok (.enter gf args) w)
    {l df : Nat} {mark : List Deferred} {W1 : World}
    (henter : ∀ fn, (Instr.enterLoop fn a.tmps ps assign body F.round).run P w = .ok (l, mark) (W1.alloc (.loop { state := .ready, pending := none, fn, tmps := a.tmps, params := ps, assign, body, defers := df })))
    (hW1 : Below w.heap.size w W1) (hl : l = W1.heap.size)
    {encs : α → Array Value} {X : Nat → Prop} {S V : List α → Prop} {w0 : World} (hseq : SeqB P gf lb encs X S V w0)
    (hX : ∀ i, X i → i < w.heap.size) (hb0 : Below w0.heap.size w0 w) (hps : ∀ x, (encs x).size = ps.size)
    (I : List α → World → Prop) (Ix : Code → List α → World → Prop) (hI : Stab w.heap.size I) (hIx : ∀ c, Stab w.heap.size (Ix c)) (h0 : I [] w)
    (hassign : ∀ (m l : Nat) (x : α) (W : World),
      assign.wpIn (F.inRound l) m P (Exit.then (fun a' W' => W' = W.alloc (.cells (cl x) ty) ∧ a' = { tmps := ((ps.zip (encs x)).foldl (fun t (p, v) => t.setIfInBounds p v) a.tmps).setIfInBounds bt (.pointer (some ⟨W.heap.size, 0, none⟩)), defers := [] }) (fun _ _ _ => False)) { tmps := (ps.zip (encs x)).foldl (fun t (p, v) => t.setIfInBounds p v) a.tmps, defers := [] } W)
    (hbody : ∀ (m l Bx : Nat) (pre : List α) (x : α) (W : World), w.heap.size ≤ l → l < Bx → w.heap.size ≤ Bx → Bx < W.heap.size → W.heap[Bx]? = some (.cells (cl x) ty (0, 0)) → (∃ r, W.heap[l]? = some (.loop r)) → I pre W → V (pre ++ [x]) →
      body.wpIn (F.inRound l) m P (PostX X w.heap.size I Ix (pre ++ [x]) W) { tmps := ((ps.zip (encs x)).foldl (fun t (p, v) => t.setIfInBounds p v) a.tmps).setIfInBounds bt (.pointer (some ⟨Bx, 0, none⟩)), defers := [] } W)
    (hdone : ∀ (xs : List α) (W : World), S xs → I xs W → (∀ i, w.heap.size ≤ i → i < l → W.heap[i]? = W1.heap[i]?) → Q .normal { a with defers := mark ++ a.defers } W)
    (hstop : ∀ (c : Code) (pre : List α) (W : World), V pre → Ix c pre W → (∀ i, w.heap.size ≤ i → i < l → W.heap[i]? = W1.heap[i]?) → c.wpIn F n P Q { a with defers := mark ++ a.defers } W) :
    (Code.rangeFunc g ps assign body).wpIn F n P Q a w := by
  refine range_core hF hg eg henter hW1 hl hseq hX hb0 hps I Ix hI hIx h0 (fun x a' W W' => W' = W.alloc (.cells (cl x) ty) ∧ a' = { tmps := ((ps.zip (encs x)).foldl (fun t (p, v) => t.setIfInBounds p v) a.tmps).setIfInBounds bt (.pointer (some ⟨W.heap.size, 0, none⟩)), defers := [] }) ?_ ?_ hdone hstop
  · intro m l pre x W _ _ _
    refine wpIn_mono (hassign m l x W) ?_
    intro e a' W' h
    cases e with
    | normal => exact ⟨by rw [h.1]; exact (Below.refl _ W).alloc (Nat.le_refl _) _, h⟩
    | ret => exact h.elim
    | exit _ => exact h.elim
    | goto _ => exact h.elim
    | panic _ => exact h.elim
    | outgrown => exact h.elim
  · rintro m l pre x a' W Wa Wb hl hlw hr hba ⟨rfl, rfl⟩ hi hk hv
    have h1 := World.alloc_heap_new W (.cells (cl x) ty)
    have h2 : W.heap.size < (W.alloc (.cells (cl x) ty)).heap.size := by rw [World.size_alloc]; omega
    exact hbody m l W.heap.size pre x Wb hl hlw (by omega) (Nat.lt_of_lt_of_le h2 hk.1) ((hk.2 _ h2 (by omega)).trans h1) hr hi hv


/-- The region size += typeSize(t, most - size): what its operations' slots hold. -/
def FactZ (s most : Int) {w0 : World} (z : TyI w0) : Nat → Value → World → Prop
  | 0, v, _ => v = .int .i64 s
  | 1, v, _ => v = .agg #[.int .i64 z.t.k, .string z.t.m, .string z.t.n, .slice z.aa z.t.A.len z.ca, .slice z.af z.t.F.len z.cf]
  | 2, v, _ => v = .int .i64 most
  | 3, v, _ => v = .int .i64 s
  | 4, v, _ => v = .int .i64 (most - s)
  | 5, v, _ => v = .int .i64 (tsz z.t.size (most - s))
  | 6, v, _ => v = .int .i64 (s + tsz z.t.size (most - s))
  | _, _, _ => False
theorem FactZ.any {s most : Int} {w0 : World} {z : TyI w0} (j : Nat) (v : Value) (w w' : World) (h : FactZ s most z j v w) : FactZ s most z j v w' := by
  unfold FactZ at *
  split at h <;> exact h
structure GoZ (V0 : World) (sb mb Bz : Nat) (s most : Int) {w0 : World} (z : TyI w0) (W : World) : Prop where
  size : Boxed W sb 3 (.int .i64 s)
  most : Boxed W mb 3 (.int .i64 most)
  row : W.heap[Bz]? = some (.cells #[.int .i64 z.t.k, .string z.t.m, .string z.t.n, .slice z.aa z.t.A.len z.ca, .slice z.af z.t.F.len z.cf] 25 (0, 0))
  keep : Below w0.heap.size w0 W
  below : Below V0.heap.size V0 W
theorem GoZ.later {V0 W W' : World} {sb mb Bz : Nat} {s most : Int} {w0 : World} {z : TyI w0} (h : GoZ V0 sb mb Bz s most z W) (hb : Below W.heap.size W W') : GoZ V0 sb mb Bz s most z W' :=
  ⟨(hb.block _ h.size.lt).trans h.size, (hb.block _ h.most.lt).trans h.most, (hb.block _ (Array.getElem?_eq_some_iff.1 h.row).1).trans h.row, h.keep.trans (hb.mono h.keep.size), h.below.trans (hb.mono h.below.size)⟩
def FxZ (sb mb Bz : Nat) (a : Act) : Prop := ∃ u0 u1 u2 u4 u6 u8 u9 u10 u11 u12 u13 u14 u15 u16 u17 u18 u19 u20 u21 u22 u23 u24 u25 u26, a = { tmps := #[u0, u1, u2, .pointer (some ⟨mb, 0, none⟩), u4, .pointer (some ⟨sb, 0, none⟩), u6, .pointer (some ⟨Bz, 0, none⟩), u8, u9, u10, u11, u12, u13, u14, u15, u16, u17, u18, u19, u20, u21, u22, u23, u24, u25, u26], defers := [] }

set_option maxRecDepth 100000 in
set_option maxHeartbeats 8000000 in
theorem exprSize_any {w0 : World} (x : XpI w0) (most : Int) (w : World) (hold : Below w0.heap.size w0 w) (hbig : x.e.bk ≤ 1099511627776) (hm : -2199023255552 ≤ most ∧ most ≤ 9223372036854775807) :
    Calls Tryz.prog 57 #[x.v, .int .i64 most] w fun e w' => (∃ r : Int, e = .returned (.int .i64 r) ∧ 1 ≤ r ∧ Near most r x.e.size) ∧ Below w.heap.size w w' := by
  have HN : Kpt (∀ w, Calls Tryz.prog 69 #[.agg #[.int .i64 x.e.k, .string x.e.m, .string x.e.n, .string x.e.tx, .int .i64 x.e.num, .slice x.aT x.e.T.len x.cT, .slice x.aL x.e.L.length x.cL, .slice x.aK x.e.K.len x.cK]] w _) := hid (exprNodes_any x)
  have HT := hid (fun (y : XpI w0) w => exprTypes_any y w)
  have HO := hid hold
  have hsb := x.e.size_bk
  have HM := hid hm
  clear hold hm
  have HXc : Kpt (x.cells = #[.int .i64 x.e.k, .string x.e.m, .string x.e.n, .string x.e.tx, .int .i64 x.e.num, .slice x.aT x.e.T.len x.cT, .slice x.aL x.e.L.length x.cL, .slice x.aK x.e.K.len x.cK]) := hid rfl
  show Calls Tryz.prog 57 #[.agg #[.int .i64 x.e.k, .string x.e.m, .string x.e.n, .string x.e.tx, .int .i64 x.e.num, .slice x.aT x.e.T.len x.cT, .slice x.aL x.e.L.length x.cL, .slice x.aK x.e.K.len x.cK], .int .i64 most] w _
  refine (callsIn_wide (n := 9)).1 ?_
  refine callsIn_of_wp_marks Tryz.func57 rfl trivial ?_ rfl
  simp only [Tryz.ntmps57, List.size_toArray, List.length_cons, List.length_nil, Nat.reduceAdd, Nat.reduceSub, Array.replicate_succ, Array.replicate_zero, List.push_toArray, List.append_toArray, List.nil_append, List.cons_append]
  gi_wp2_with fail
  refine ⟨trivial, callsIn_wide.2 ((HN.out _).mono ?_)⟩
  rintro e W6 ⟨rfl, hW6'⟩
  simp only [World.size_alloc] at hW6' ⊢
  rw [← HXc.out] at hW6'
  have HW6 := hid hW6'
  clear hW6'
  gi_wp2_with fail
  have hW6 := HW6.out
  clear HW6
  have b0 : Boxed W6 (w.heap.size + 1) 3 (.int .i64 most) := by
    rw [hW6]; have h := ((((Boxed.new (w.alloc (.cells x.cells 29)) 3 (.int .i64 most)).alloc (.cells #[.int .i64 0] 3)).alloc (.cells x.cells 29)).alloc (.cells x.cells 29)).alloc (.cells #[.func (.func 68) #[] #[]] 91)
    simpa only [World.size_alloc] using h
  have b1 : Boxed W6 (w.heap.size + 1 + 1) 3 (.int .i64 0) := by
    rw [hW6]; have h := (((Boxed.new ((w.alloc (.cells x.cells 29)).alloc (.cells #[.int .i64 most] 3)) 3 (.int .i64 0)).alloc (.cells x.cells 29)).alloc (.cells x.cells 29)).alloc (.cells #[.func (.func 68) #[] #[]] 91)
    simpa only [World.size_alloc] using h
  have b2 : W6.heap[w.heap.size + 1 + 1 + 1 + 1]? = some (.cells x.cells 29 (0, 0)) := by
    rw [hW6]
    refine (Below.heap_alloc _ _ _ (by simp)).trans ?_
    have h := World.alloc_heap_new ((((w.alloc (.cells x.cells 29)).alloc (.cells #[.int .i64 most] 3)).alloc (.cells #[.int .i64 0] 3)).alloc (.cells x.cells 29)) (.cells x.cells 29)
    simpa only [World.size_alloc] using h
  have b3 : Boxed W6 (w.heap.size + 1 + 1 + 1 + 2) 91 (.func (.func 68) #[] #[]) := by
    rw [hW6]; have h := Boxed.new (((((w.alloc (.cells x.cells 29)).alloc (.cells #[.int .i64 most] 3)).alloc (.cells #[.int .i64 0] 3)).alloc (.cells x.cells 29)).alloc (.cells x.cells 29)) 91 (.func (.func 68) #[] #[])
    simpa only [World.size_alloc] using h
  have hsz : W6.heap.size = w.heap.size + 6 := by rw [hW6]; simp
  have hB : Below w.heap.size w W6 := by
    rw [hW6]; exact ((((((Below.refl _ w).alloc (Nat.le_refl _) _).alloc (by simp) _).alloc (by simp; omega) _).alloc (by simp; omega) _).alloc (by simp; omega) _).alloc (by simp; omega) _
  clear hW6
  have hO6 : KeepX (fun _ => False) w0 W6 := (KeepX.of_below HO.out).trans (KeepX.of_below hB)
  have ho := HO.out.size
  refine range_box 6 29 (fun y : XpI w0 => y.cells) (gf := 179) (lb := #[.pointer (some ⟨w.heap.size + 1 + 1 + 1 + 1, 0, none⟩), .pointer (some ⟨w.heap.size + 1 + 1 + 1 + 2, 0, none⟩)]) rfl (enters_of Tryz.func179 (by kernel_rfl) rfl)
    (xnodes_seq w0 x hbig (w.heap.size + 1 + 1 + 1 + 1) (w.heap.size + 1 + 1 + 1 + 2) W6 b2 b3 hO6 (fun i => i = w.heap.size + 1 + 1) (fun i hi => by omega))
    (fun i hi => by omega) (Below.refl _ _) (fun _ => rfl)
    (fun pre W => Boxed W (w.heap.size + 1) 3 (.int .i64 most) ∧ Below w.heap.size w W ∧ ∃ r : Int, Boxed W (w.heap.size + 1 + 1) 3 (.int .i64 r) ∧ Near most r ((pre.map (·.e)).map Xp.own).sum ∧ (pre = [] ∨ 1 ≤ r))
    (fun c pre W => c = .exit 0 ∧ Below w.heap.size w W ∧ ∃ r : Int, Boxed W (w.heap.size + 1 + 1) 3 (.int .i64 r) ∧ Near most r ((pre.map (·.e)).map Xp.own).sum ∧ most < r ∧ 1 ≤ r)
    ?hI ?hIx ⟨b0, hB, 0, b1, Near.zero most, .inl rfl⟩ ?assign ?body ?done ?stop
  case hI =>
    rintro s A B ⟨h1, h2, r, h3, h4⟩ hb
    exact ⟨(hb.block _ (by omega)).trans h1, h2.trans (hb.mono (by omega)), r, (hb.block _ (by omega)).trans h3, h4⟩
  case hIx =>
    rintro c s A B ⟨h1, h2, r, h3, h4⟩ hb
    exact ⟨h1, h2.trans (hb.mono (by omega)), r, (hb.block _ (by omega)).trans h3, h4⟩
  case assign =>
    intro m l' y W'
    dsimp only [XpI.v, XpI.cells]
    gi_wp2_with fail
    exact ⟨trivial, by simp⟩
  case body =>
    rintro m l' Bx pre y W7 hl hlB hwB hBW hbx ⟨r, hr⟩ ⟨h2, h3, s, h1, h4, h5⟩ hv
    have hy := Xp.node_bk (mem_of_snoc (by rw [← List.map_singleton (f := XpI.e), ← List.map_append]; exact hv) : y.e ∈ x.e.nodes)
    have hsum : ((pre.map (·.e)).map Xp.own).sum + y.e.own ≤ x.e.size := by
      rw [← x.e.sum_nodes]
      have h := sum_prefix (hv.map Xp.own)
      simp only [List.map_append, List.sum_append, List.map_cons, List.map_nil, List.sum_cons, List.sum_nil] at h
      simp only [List.map_map] at *
      omega
    have hown : y.e.own = 1 + (y.e.tys.map Ty.size).sum := rfl
    obtain ⟨P0, hP0⟩ : ∃ P0, ((pre.map (·.e)).map Xp.own).sum = P0 := ⟨_, rfl⟩
    have hPn : (((pre ++ [y]).map (·.e)).map Xp.own).sum = P0 + y.e.own := by
      simp only [List.map_append, List.sum_append, List.map_cons, List.map_nil, List.sum_cons, List.sum_nil, ← hP0]
      omega
    rw [hP0] at h4 hsum
    have hs0 := h4.1
    have hs1 := h4.2.1
    have hN1 : Near most (s + 1) (P0 + 1) := h4.one 1
    have HP := hid hPn
    clear hPn hP0
    have hycc : y.cells = #[.int .i64 y.e.k, .string y.e.m, .string y.e.n, .string y.e.tx, .int .i64 y.e.num, .slice y.aT y.e.T.len y.cT, .slice y.aL y.e.L.length y.cL, .slice y.aK y.e.K.len y.cK] := rfl
    have hbx' := hbx
    rw [hycc] at hbx'
    have e0 := cell_of_row W7 Bx 0 _ _ _ hbx'
    have e1 := cell_of_row W7 Bx 1 _ _ _ hbx'
    have e2 := cell_of_row W7 Bx 2 _ _ _ hbx'
    have e3 := cell_of_row W7 Bx 3 _ _ _ hbx'
    have e4 := cell_of_row W7 Bx 4 _ _ _ hbx'
    have e5 := cell_of_row W7 Bx 5 _ _ _ hbx'
    have e6 := cell_of_row W7 Bx 6 _ _ _ hbx'
    have e7 := cell_of_row W7 Bx 7 _ _ _ hbx'
    have c0 : W7.cell? ⟨w.heap.size + 1 + 1, 0, none⟩ = some (.int .i64 s) := h1.cell
    have c1 := h1.frozen
    obtain ⟨W8, hW8⟩ : ∃ W8, W7.setCell ⟨w.heap.size + 1 + 1, 0, none⟩ (.int .i64 (s + 1)) = W8 := ⟨_, rfl⟩
    have hk8 : KeepX (fun i => i = w.heap.size + 1 + 1) W7 W8 := by rw [← hW8]; exact KeepX.set W7 _ _
    have hb8 : Below (w.heap.size + 1) W7 W8 := by rw [← hW8]; exact below_set W7 _ (by omega)
    have h18 : Boxed W8 (w.heap.size + 1 + 1) 3 (.int .i64 (s + 1)) := by rw [← hW8]; exact h1.set _
    have h28 : Boxed W8 (w.heap.size + 1) 3 (.int .i64 most) := by rw [← hW8]; exact h2.other (by omega) _
    have hx8 : W8.heap[Bx]? = _ := (hk8.2 Bx hBW (by omega)).trans hbx
    have hr8 : W8.heap[l']? = some (.loop r) := (hk8.2 l' (by omega) (by omega)).trans hr
    have hx8' := hx8
    rw [hycc] at hx8'
    have f0 := cell_of_row W8 Bx 0 _ _ _ hx8'
    have f1 := cell_of_row W8 Bx 1 _ _ _ hx8'
    have f2 := cell_of_row W8 Bx 2 _ _ _ hx8'
    have f3 := cell_of_row W8 Bx 3 _ _ _ hx8'
    have f4 := cell_of_row W8 Bx 4 _ _ _ hx8'
    have f5 := cell_of_row W8 Bx 5 _ _ _ hx8'
    have f6 := cell_of_row W8 Bx 6 _ _ _ hx8'
    have f7 := cell_of_row W8 Bx 7 _ _ _ hx8'
    have hs8 := hk8.1
    have HZ := hid (And.intro h3 (And.intro hk8 (And.intro hb8 (And.intro h18 (And.intro h28 (And.intro hx8 (And.intro hr8 (And.intro hN1 hv))))))))
    have HTy : Kpt (∀ w, Calls Tryz.prog 102 #[.agg #[.int .i64 y.e.k, .string y.e.m, .string y.e.n, .string y.e.tx, .int .i64 y.e.num, .slice y.aT y.e.T.len y.cT, .slice y.aL y.e.L.length y.cL, .slice y.aK y.e.K.len y.cK]] w _) := hid (HT.out y)
    have hws : wrap64 (s + 1) = s + 1 := by unfold wrap64; omega
    clear h1 h2 h3 h4 h5 hv hbx hbx' hk8 hb8 h18 h28 hx8 hx8' hr8 hr hN1 hycc hO6
    gi_wp2_with fail
    refine ⟨trivial, fun h => (by cases h), CallsIn.inRound l' (callsIn_wide.2 ((HTy.out _).mono ?_))⟩
    rintro e W9 ⟨rfl, hW9'⟩
    have HW9 := hid hW9'
    clear hW9'
    gi_wp2_with fail
    have hW9 := HW9.out
    have hb9 : Below W8.heap.size W8 W9 := by rw [hW9]; exact (Below.refl _ W8).alloc (Nat.le_refl _) _
    have hx9 : W9.heap[W8.heap.size]? = some (.cells y.cells 29 (0, 0)) := by rw [hW9]; exact World.alloc_heap_new _ _
    have hs9 := hb9.size
    have hr9 : W9.heap[l']? = some (.loop r) := (hb9.block l' (by omega)).trans HZ.out.2.2.2.2.2.2.1
    have h19 : Boxed W9 (w.heap.size + 1 + 1) 3 (.int .i64 (s + 1)) := (hb9.block _ (by omega)).trans HZ.out.2.2.2.1
    have h29 : Boxed W9 (w.heap.size + 1) 3 (.int .i64 most) := (hb9.block _ (by omega)).trans HZ.out.2.2.2.2.1
    have hB9 : Below w.heap.size w W9 := HZ.out.1.trans ((HZ.out.2.2.1.mono (by omega)).trans (hb9.mono (by omega)))
    have hO9 : KeepX (fun _ => False) w0 W9 := (KeepX.of_below HO.out).trans (KeepX.of_below hB9)
    clear HW9 hW9
    have H9 := hid (And.intro hb9 (And.intro h19 (And.intro h29 hB9)))
    clear e0 e1 e2 e3 e4 e5 e6 e7 f0 f1 f2 f3 f4 f5 f6 f7 c0 c1
    have hN1 := HZ.out.2.2.2.2.2.2.2.1
    refine range_box_in 7 25 (fun z : TyI w0 => z.cells) (F := Fence.wide.inRound l') (W1 := W9) (l := W9.heap.size) (mark := []) (.inr ⟨l', rfl⟩) (gf := 160) (lb := #[.pointer (some ⟨W8.heap.size, 0, none⟩)]) rfl (enters_of Tryz.func160 (by kernel_rfl) rfl)
      (fun fn => run_enterLoop_inner hr9 _ _ _ _ _) (Below.refl _ _) rfl (types_seq w0 y (by omega) W8.heap.size W9 hx9 hO9 (fun i => i = w.heap.size + 1 + 1) (fun i hi => ⟨by omega, by omega⟩)) (fun i hi => by omega) (Below.refl _ _) (fun _ => rfl)
      (fun pre2 W' => KeepX (fun i => i = w.heap.size + 1 + 1) W9 W' ∧ Below w.heap.size w W' ∧ ∃ r2 : Int, Boxed W' (w.heap.size + 1 + 1) 3 (.int .i64 r2) ∧ 1 ≤ r2 ∧ Near most r2 (P0 + 1 + ((pre2.map (·.t)).map Ty.size).sum)) (fun _ _ _ => False) ?hI2 ?hIx2 ⟨KeepX.refl _ _, hB9, s + 1, h19, by omega, hN1⟩ ?assign2 ?body2 ?done2 ?stop2
    case hI2 =>
      rintro s2 A B ⟨g1, g0, r2, g2, g3⟩ hb
      exact ⟨⟨Nat.le_trans g1.1 hb.size, fun i hi hx => (hb.block i hi).trans (g1.2 i hi hx)⟩, g0.trans (hb.mono (by omega)), r2, (hb.block _ (by omega)).trans g2, g3⟩
    case hIx2 => intro c s A B hs hb; exact hs
    case assign2 =>
      intro m2 l2 z W2
      dsimp only [TyI.v, TyI.cells]
      gi_wp2_with fail
      exact ⟨trivial, by simp⟩
    case body2 =>
      rintro m2 l2 Bz pre2 z W10 hl2 hlB2 hwB2 hBW2 hbz ⟨rz, hrz⟩ ⟨g1, hB10, r2, g2, g3, g4⟩ hv2
      refine wpIn_block ?_
      go_simp
      refine wpIn_region_any (by kernel_rfl) ?_
      change wpAnyIn _ _ _ _ _ _ 8 _ _ (World.drew _)
      have hkz : Below w0.heap.size w0 W10 := HO.out.trans (hB10.mono ho)
      have hmz : Boxed W10 (w.heap.size + 1) 3 (.int .i64 most) := (g1.2 _ (by omega) (by omega)).trans H9.out.2.2.1
      have hG0 : GoZ W10 (w.heap.size + 1 + 1) (w.heap.size + 1) Bz r2 most z W10.drew := GoZ.later ⟨g2, hmz, hbz, hkz, Below.refl _ _⟩ (Below.refl _ W10).drew
      have htz : z.t.size ≤ (y.e.tys.map Ty.size).sum := mem_sum (List.mem_map_of_mem (mem_of_snoc (by rw [← List.map_singleton (f := TyI.t), ← List.map_append]; exact hv2)))
      have hsz2 : ((pre2.map (·.t)).map Ty.size).sum + z.t.size ≤ (y.e.tys.map Ty.size).sum := by
        have h := sum_prefix (hv2.map Ty.size)
        simp only [List.map_append, List.sum_append, List.map_cons, List.map_nil, List.sum_cons, List.sum_nil] at h
        omega
      have hg42 := g4.2.1
      have hzs : (((pre2 ++ [z]).map (·.t)).map Ty.size).sum = ((pre2.map (·.t)).map Ty.size).sum + z.t.size := by
        simp only [List.map_append, List.sum_append, List.map_cons, List.map_nil, List.sum_cons, List.sum_nil]
        omega
      have hN2 : Near most (r2 + tsz z.t.size (most - r2)) (P0 + 1 + (((pre2 ++ [z]).map (·.t)).map Ty.size).sum) := by rw [hzs, ← Nat.add_assoc]; exact g4.add z.t.size_pos
      have hN21 := hN2.2.1
      have hlt1 : 1 ≤ tsz z.t.size (most - r2) := by unfold tsz; have := z.t.size_pos; split <;> omega
      have hw1 : wrap64 (most - r2) = most - r2 := by have := HM.out; unfold wrap64; omega
      have hw2 : wrap64 (r2 + tsz z.t.size (most - r2)) = r2 + tsz z.t.size (most - r2) := by unfold wrap64; omega
      have HFin := hid (And.intro g1 (And.intro hN2 hB10))
      have hbt : z.t.size ≤ 1099511627776 := by omega
      have HCall : Kpt (∀ W, Below w0.heap.size w0 W → Calls Tryz.prog 54 #[.agg #[.int .i64 z.t.k, .string z.t.m, .string z.t.n, .slice z.aa z.t.A.len z.ca, .slice z.af z.t.F.len z.cf], .int .i64 (most - r2)] W _) := hid (fun W hk => typeSize0_any z.t z.v (most - r2) W (TyV_below z.tyV hk) hbt)
      have HG0 := hid hG0
      clear hG0 hkz hmz htz hsz2 hg42 hzs hN2 hbt g1 g2 g4 hbz hrz
      generalize W10.drew = V1 at HG0 ⊢
      refine wpAnyIn_flow (n := 7) (Fact := FactZ r2 most z) (Fx := FxZ (w.heap.size + 1 + 1) (w.heap.size + 1) Bz) (G := GoZ W10 (w.heap.size + 1 + 1) (w.heap.size + 1) Bz r2 most z) (Rel := fun _ _ _ => True) (by kernel_rfl) ?back ?last ?step ?tail 8 _ _ _ ⟨rfl, rfl, ⟨_, _, _, _, _, _, _, _, _, _, _, _, _, _, _, _, _, _, _, _, _, _, _, _, rfl⟩, HG0.out, trivial, fun i hi hl => ?l0⟩ ?un
      case back => exact flow_back_of (by kernel_rfl)
      case last => exact flow_last_of (by kernel_rfl)
      case l0 => rw [getD_replicate_false] at hl; cases hl
      case un => decide
      case step =>
        rintro i hi listed a W hls hun hR ⟨u0, u1, u2, u4, u6, u8, u9, u10, u11, u12, u13, u14, u15, u16, u17, u18, u19, u20, u21, u22, u23, u24, u25, u26, rfl⟩ hG hw
        rcases (by omega : i = 0 ∨ i = 1 ∨ i = 2 ∨ i = 3 ∨ i = 4 ∨ i = 5 ∨ i = 6) with rfl | rfl | rfl | rfl | rfl | rfl | rfl
        · have c0 := hG.size.cell
          refine wpOpIn_of_list (i := 0) rfl ?_
          gi_wp2_with fail
          exact ⟨⟨_, _, _, _, _, _, _, _, _, _, _, _, _, _, _, _, _, _, _, _, _, _, _, _, rfl⟩, hG, rfl, (fun j hj hne => by rcases (by omega : j = 0 ∨ j = 1 ∨ j = 2 ∨ j = 3 ∨ j = 4 ∨ j = 5 ∨ j = 6) with rfl | rfl | rfl | rfl | rfl | rfl | rfl <;> first | exact absurd rfl hne | rfl), fun j v h => FactZ.any j v _ _ h, trivial⟩
        · have c0 := cell_of_row W Bz 0 _ _ _ hG.row
          have c1 := cell_of_row W Bz 1 _ _ _ hG.row
          have c2 := cell_of_row W Bz 2 _ _ _ hG.row
          have c3 := cell_of_row W Bz 3 _ _ _ hG.row
          have c4 := cell_of_row W Bz 4 _ _ _ hG.row
          refine wpOpIn_of_list (i := 1) rfl ?_
          gi_wp2_with fail
          exact ⟨⟨_, _, _, _, _, _, _, _, _, _, _, _, _, _, _, _, _, _, _, _, _, _, _, _, rfl⟩, hG, rfl, (fun j hj hne => by rcases (by omega : j = 0 ∨ j = 1 ∨ j = 2 ∨ j = 3 ∨ j = 4 ∨ j = 5 ∨ j = 6) with rfl | rfl | rfl | rfl | rfl | rfl | rfl <;> first | exact absurd rfl hne | rfl), fun j v h => FactZ.any j v _ _ h, trivial⟩
        · have c0 := hG.most.cell
          refine wpOpIn_of_list (i := 2) rfl ?_
          gi_wp2_with fail
          exact ⟨⟨_, _, _, _, _, _, _, _, _, _, _, _, _, _, _, _, _, _, _, _, _, _, _, _, rfl⟩, hG, rfl, (fun j hj hne => by rcases (by omega : j = 0 ∨ j = 1 ∨ j = 2 ∨ j = 3 ∨ j = 4 ∨ j = 5 ∨ j = 6) with rfl | rfl | rfl | rfl | rfl | rfl | rfl <;> first | exact absurd rfl hne | rfl), fun j v h => FactZ.any j v _ _ h, trivial⟩
        · have c0 := hG.size.cell
          refine wpOpIn_of_list (i := 3) rfl ?_
          gi_wp2_with fail
          exact ⟨⟨_, _, _, _, _, _, _, _, _, _, _, _, _, _, _, _, _, _, _, _, _, _, _, _, rfl⟩, hG, rfl, (fun j hj hne => by rcases (by omega : j = 0 ∨ j = 1 ∨ j = 2 ∨ j = 3 ∨ j = 4 ∨ j = 5 ∨ j = 6) with rfl | rfl | rfl | rfl | rfl | rfl | rfl <;> first | exact absurd rfl hne | rfl), fun j v h => FactZ.any j v _ _ h, trivial⟩
        · obtain rfl : u18 = .int .i64 most := hw 2 (by kernel_rfl)
          obtain rfl : u19 = .int .i64 r2 := hw 3 (by kernel_rfl)
          refine wpOpIn_of_list (i := 4) rfl ?_
          gi_wp2_with fail
          exact ⟨⟨_, _, _, _, _, _, _, _, _, _, _, _, _, _, _, _, _, _, _, _, _, _, _, _, rfl⟩, hG, congrArg (Value.int .i64) hw1, (fun j hj hne => by rcases (by omega : j = 0 ∨ j = 1 ∨ j = 2 ∨ j = 3 ∨ j = 4 ∨ j = 5 ∨ j = 6) with rfl | rfl | rfl | rfl | rfl | rfl | rfl <;> first | exact absurd rfl hne | rfl), fun j v h => FactZ.any j v _ _ h, trivial⟩
        · obtain rfl : u17 = .agg #[.int .i64 z.t.k, .string z.t.m, .string z.t.n, .slice z.aa z.t.A.len z.ca, .slice z.af z.t.F.len z.cf] := hw 1 (by kernel_rfl)
          obtain rfl : u20 = .int .i64 (most - r2) := hw 4 (by kernel_rfl)
          refine wpOpIn_of_list (i := 5) rfl ?_
          gi_wp2_with fail
          refine ⟨trivial, fun h => (by cases h), CallsIn.inRound l2 (CallsIn.inRound l' (callsIn_wide.2 ((HCall.out W hG.keep).mono ?_)))⟩
          rintro e W2 ⟨rfl, hb2⟩
          have HB2 := hid hb2
          clear hb2
          gi_wp2_with fail
          exact ⟨⟨_, _, _, _, _, _, _, _, _, _, _, _, _, _, _, _, _, _, _, _, _, _, _, _, rfl⟩, hG.later HB2.out, rfl, (fun j hj hne => by rcases (by omega : j = 0 ∨ j = 1 ∨ j = 2 ∨ j = 3 ∨ j = 4 ∨ j = 5 ∨ j = 6) with rfl | rfl | rfl | rfl | rfl | rfl | rfl <;> first | exact absurd rfl hne | rfl), fun j v h => FactZ.any j v _ _ h, trivial⟩
        · obtain rfl : u16 = .int .i64 r2 := hw 0 (by kernel_rfl)
          obtain rfl : u21 = .int .i64 (tsz z.t.size (most - r2)) := hw 5 (by kernel_rfl)
          refine wpOpIn_of_list (i := 6) rfl ?_
          gi_wp2_with fail
          exact ⟨⟨_, _, _, _, _, _, _, _, _, _, _, _, _, _, _, _, _, _, _, _, _, _, _, _, rfl⟩, hG, congrArg (Value.int .i64) hw2, (fun j hj hne => by rcases (by omega : j = 0 ∨ j = 1 ∨ j = 2 ∨ j = 3 ∨ j = 4 ∨ j = 5 ∨ j = 6) with rfl | rfl | rfl | rfl | rfl | rfl | rfl <;> first | exact absurd rfl hne | rfl), fun j v h => FactZ.any j v _ _ h, trivial⟩
      case tail =>
        rintro listed a W hall hR ⟨u0, u1, u2, u4, u6, u8, u9, u10, u11, u12, u13, u14, u15, u16, u17, u18, u19, u20, u21, u22, u23, u24, u25, u26, rfl⟩ hG hw
        obtain rfl : u22 = .int .i64 (r2 + tsz z.t.size (most - r2)) := hw 6 (by omega)
        have c0 := hG.size.cell
        have c1 := hG.size.frozen
        have HGk := hid hG
        clear hG hw
        refine wpOpIn_of_list (i := 7) rfl ?_
        gi_wp2_with fail
        have hbw := HGk.out.below
        have hks := KeepX.set W (w.heap.size + 1 + 1) (.int .i64 (r2 + tsz z.t.size (most - r2)))
        have hkk : KeepX (fun i => i = w.heap.size + 1 + 1) W10 (W.setCell ⟨w.heap.size + 1 + 1, 0, none⟩ (.int .i64 (r2 + tsz z.t.size (most - r2)))) := (KeepX.of_below hbw).trans hks
        exact ⟨hkk, HFin.out.1.trans hkk, HFin.out.2.2.trans ((hbw.mono (by omega)).trans (below_set W _ (by omega))), _, HGk.out.size.set _, by omega, by have h := HFin.out.2.1; rw [List.map_map] at h; exact h⟩
    case stop2 => intro c2 pre2 W2 _ h _; exact h.elim
    case done2 =>
      rintro xs2 W10 hS2 ⟨g1, hB10, r2, g2, g3, g4⟩ _
      have q1 : Boxed W10 _ _ _ := (g1.2 (w.heap.size + 1) (by omega) (by omega)).trans H9.out.2.2.1
      have q2 := g2.cell
      have q3 := q1.cell
      rw [hS2] at g4
      have g5 : Near most r2 (((pre ++ [y]).map (·.e)).map Xp.own).sum := by rw [HP.out, hown, ← Nat.add_assoc]; exact g4
      have hk10 : KeepX (fun i => i = w.heap.size + 1 + 1) W7 W10 := HZ.out.2.1.trans ((KeepX.of_below H9.out.1).trans g1)
      have H10 := hid (And.intro g2 (And.intro q1 (And.intro hB10 (And.intro g5 hk10))))
      clear g1 g2 g4 q1 hB10 g5 hk10
      by_cases hgt : most < r2
      · gi_wp2_with fail
        exact ⟨H10.out.2.2.2.2.mono (fun i hi => by show i < W6.heap.size; omega), rfl, H10.out.2.2.1, r2, H10.out.1, H10.out.2.2.2.1, hgt, g3⟩
      · gi_wp2_with fail
        exact ⟨H10.out.2.2.2.2, H10.out.2.1, H10.out.2.2.1, r2, H10.out.1, by have h := H10.out.2.2.2.1; rw [List.map_map] at h; exact h, .inr g3⟩
  case done =>
    rintro D ys W9 hD hS ⟨h2, h3, r, h1, h4, h5⟩ hK
    have c0 := h1.cell
    rw [hS, x.e.sum_nodes] at h4
    have HB := hid (And.intro h3 (And.intro hK h4))
    have h6 : 1 ≤ r := by
      rcases h5 with h5 | h5
      · rw [h5] at hS; simp [Xp.nodes] at hS
      · exact h5
    clear h1 h2 h3 hK h4 h5 hS
    gi_wp2_with fail
    refine ⟨by simp, .inl ⟨_, _, rfl, run_takeDeferred HB.out.2.1, ?_⟩⟩
    exact ⟨_, results_tmp rfl _ _ _, ⟨r, rfl, h6, HB.out.2.2⟩, HB.out.1.trans (below_put (by omega) HB.out.2.1)⟩
  case stop =>
    rintro D c pre W hD hv ⟨rfl, h3, r, h1, h4, h5, h6⟩ hK
    have c0 := h1.cell
    have hle : ((pre.map (·.e)).map Xp.own).sum ≤ x.e.size := by rw [← x.e.sum_nodes]; exact sum_prefix (hv.map Xp.own)
    have HB := hid (And.intro h3 (And.intro hK (h4.more h5 hle)))
    clear h1 h3 hK h4 hv
    gi_wp2_with fail
    refine ⟨by simp, .inl ⟨_, _, rfl, run_takeDeferred HB.out.2.1, ?_⟩⟩
    exact ⟨_, results_tmp rfl _ _ _, ⟨r, rfl, h6, HB.out.2.2⟩, HB.out.1.trans (below_put (by omega) HB.out.2.1)⟩
end Go.Proofs.YtnkhebgjhipepaaGreatDoor
