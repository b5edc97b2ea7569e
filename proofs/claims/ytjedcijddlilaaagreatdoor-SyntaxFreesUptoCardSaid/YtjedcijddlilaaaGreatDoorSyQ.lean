/- syntax: EqualTypes. | syntax: EqualTypes, whole. -/
import Derived.Test.YtjedcijddlilaaaGreatDoorSyI
namespace Go.Proofs.YtjedcijddlilaaaGreatDoor
open Go.RowKit Go.Shelf

/-- A row that is nothing, or lies at an address. -/
def RowAt (w : World) (T : Tr) (fl : Bool) (a : Option Addr) (i : Nat) : Prop := T = .nil ∨ ∃ b o, a = some ⟨b, o, none⟩ ∧ Lies w T fl b (o + i * (5 + 2 * fl.toNat))
theorem rowAt_zero {w : World} {T : Tr} {fl : Bool} {a : Option Addr} (h : T = .nil ∨ ∃ b o, a = some ⟨b, o, none⟩ ∧ Lies w T fl b o) : RowAt w T fl a 0 := by
  rcases h with h | ⟨b, o, h, hl⟩
  · exact .inl h
  · exact .inr ⟨b, o, h, by rw [Nat.zero_mul, Nat.add_zero]; exact hl⟩
/-- The first element of a row of types, and the rest. -/
theorem rowAt_ty {w : World} {fn : ByteArray} {op : Bool} {k : Int} {m n : ByteArray} {A F nx : Tr} {a : Option Addr} {i : Nat} (h : RowAt w (.node fn op k m n A F nx) false a i) :
    ∃ (b o : Nat) (x : TyI w), a = some ⟨b, o, none⟩ ∧ x.t = ⟨k, m, n, A, F⟩ ∧
      (w.cell? ⟨b, o + i * 5, none⟩ = some (.int .i64 x.t.k) ∧ w.cell? ⟨b, o + i * 5 + 1, none⟩ = some (.string x.t.m) ∧ w.cell? ⟨b, o + i * 5 + 2, none⟩ = some (.string x.t.n) ∧
      w.cell? ⟨b, o + i * 5 + 3, none⟩ = some (.slice x.aa x.t.A.len x.ca) ∧ w.cell? ⟨b, o + i * 5 + 4, none⟩ = some (.slice x.af x.t.F.len x.cf)) ∧ RowAt w nx false a (i + 1) := by
  rcases h with h | ⟨b, o, h, hl⟩
  · cases h
  · obtain ⟨_, ⟨h1, h1w⟩, h2, h3, ⟨a1, c1, h4, h5⟩, ⟨a2, c2, h6, h7⟩, h8⟩ := hl
    refine ⟨b, o, ⟨⟨k, m, n, A, F⟩, a1, c1, a2, c2, h1w, h5, h7⟩, h, rfl, ⟨by simpa using h1, by simpa using h2, by simpa using h3, by simpa using h4, by simpa using h6⟩, .inr ⟨b, o, h, ?_⟩⟩
    have e : o + (i + 1) * (5 + 2 * false.toNat) = o + i * (5 + 2 * false.toNat) + (5 + 2 * false.toNat) := by simp; omega
    rw [e]; exact h8
/-- The first element of a row of fields, and the rest. -/
theorem rowAt_fd {w : World} {fn : ByteArray} {op : Bool} {k : Int} {m n : ByteArray} {A F nx : Tr} {a : Option Addr} {i : Nat} (h : RowAt w (.node fn op k m n A F nx) true a i) :
    ∃ (b o : Nat) (x : TyI w), a = some ⟨b, o, none⟩ ∧ x.t = ⟨k, m, n, A, F⟩ ∧
      (w.cell? ⟨b, o + i * 7, none⟩ = some (.string fn) ∧ w.cell? ⟨b, o + i * 7 + 1, none⟩ = some (.int .i64 x.t.k) ∧ w.cell? ⟨b, o + i * 7 + 2, none⟩ = some (.string x.t.m) ∧ w.cell? ⟨b, o + i * 7 + 3, none⟩ = some (.string x.t.n) ∧
      w.cell? ⟨b, o + i * 7 + 4, none⟩ = some (.slice x.aa x.t.A.len x.ca) ∧ w.cell? ⟨b, o + i * 7 + 5, none⟩ = some (.slice x.af x.t.F.len x.cf) ∧ w.cell? ⟨b, o + i * 7 + 6, none⟩ = some (.bool op)) ∧ RowAt w nx true a (i + 1) := by
  rcases h with h | ⟨b, o, h, hl⟩
  · cases h
  · obtain ⟨h0, ⟨h1, h1w⟩, h2, h3, ⟨a1, c1, h4, h5⟩, ⟨a2, c2, h6, h7⟩, h8⟩ := hl
    obtain ⟨h00, h06⟩ := h0 rfl
    refine ⟨b, o, ⟨⟨k, m, n, A, F⟩, a1, c1, a2, c2, h1w, h5, h7⟩, h, rfl, ⟨by simpa using h00, by simpa using h1, by simpa using h2, by simpa using h3, by simpa using h4, by simpa using h6, by simpa using h06⟩, .inr ⟨b, o, h, ?_⟩⟩
    have e : o + (i + 1) * (5 + 2 * true.toNat) = o + i * (5 + 2 * true.toNat) + (5 + 2 * true.toNat) := by simp; omega
    rw [e]; exact h8
theorem Tr.eq_len : ∀ {T : Tr} {fl : Bool} {U : Tr}, T.eq fl U = true → T.len = U.len := by
  intro T
  induction T with
  | nil => intro fl U h; cases U <;> simp_all [Tr.eq, Tr.len]
  | node fn op k m n A F nx ha hf hn =>
    intro fl U h
    cases U with
    | nil => simp [Tr.eq] at h
    | node fn' op' k' m' n' A' F' nx' =>
      simp only [Tr.eq, Bool.and_eq_true] at h
      simp only [Tr.len, hn h.2]
/-- EqualTypes on types of at most s nodes. -/
def EqT (w0 : World) (s : Nat) : Prop := ∀ x y : TyI w0, x.t.size ≤ s → ∀ W, Below w0.heap.size w0 W → Calls Tryz.prog 36 #[x.v, y.v] W fun e W' => e = .returned (.bool (x.t.eq y.t)) ∧ Below W.heap.size W W'

set_option maxRecDepth 100000 in
set_option maxHeartbeats 4000000 in
theorem eqf_types (w0 : World) (s : Nat) (ih : EqT w0 s) (hs : s ≤ 1099511627776) (T U : Tr) (hT : T.size ≤ s) (aa ab : Option Addr) (ca cb : Nat) (hA : RowAt w0 T false aa 0) (hB : RowAt w0 U false ab 0) (W : World) (hW : Below w0.heap.size w0 W) :
    Calls Tryz.prog 80 #[.slice aa T.len ca, .slice ab U.len cb, .func (.func 36) #[] #[]] W
      fun e W' => e = .returned (.bool (T.eq false U)) ∧ Below W.heap.size W W' := by
  have HI := hid ih
  have HA := hid (And.intro hA hB)
  have HW := hid hW
  have hlT := Tr.len_le T
  clear ih hA hB hW
  by_cases hl : T.len = U.len
  · have hl2 : (U.len : Int) = (T.len : Int) := by rw [hl]
    rw [← hl]
    have HL := hid hl
    clear hl hl2
    go_enter Tryz.func80, Tryz.ntmps80
    go_wp2_with fail
    go_loopw [17] (fun a wr => ∃ (i : Nat) (r1 r2 : Tr), a = .int .i64 (i : Int) ∧ r1.len + i = T.len ∧ r1.len = r2.len ∧ r1.size ≤ s ∧ T.eq false U = r1.eq false r2 ∧ RowAt w0 r1 false aa i ∧ RowAt w0 r2 false ab i ∧ Below W.heap.size W wr) (fun a _ => T.len - (intOf a).toNat)
    case atStart => exact ⟨0, T, U, rfl, by omega, HL.out, hT, rfl, HA.out.1, HA.out.2, Below.refl _ _⟩
    case round =>
      obtain ⟨i, r1, r2, rfl, h1, h2, h3, h4, h5, h6, h7⟩ := hrel
      cases r1 with
      | nil =>
        cases r2 with
        | node => simp [Tr.len] at h2
        | nil =>
          have hi : i = T.len := by simp [Tr.len] at h1; omega
          subst hi
          have HQ := hid (And.intro h4 h7)
          clear h1 h2 h3 h4 h5 h6 h7
          go_wp2_with fail
          go_ret
          exact ⟨by rw [HQ.out.1]; rfl, HQ.out.2⟩
      | node fn op k m n A F nx =>
        cases r2 with
        | nil => simp [Tr.len] at h2
        | node fn' op' k' m' n' A' F' nx' =>
          have hlt : i < T.len := by simp only [Tr.len] at h1; omega
          obtain ⟨b, o, x, rfl, hx, ⟨c0, c1, c2, c3, c4⟩, hr1⟩ := rowAt_ty h5
          obtain ⟨b', o', y, rfl, hy, ⟨d0, d1, d2, d3, d4⟩, hr2⟩ := rowAt_ty h6
          have hwr := HW.out.trans (h7.mono HW.out.size)
          replace c0 := old_cell hwr c0
          replace c1 := old_cell hwr c1
          replace c2 := old_cell hwr c2
          replace c3 := old_cell hwr c3
          replace c4 := old_cell hwr c4
          obtain ⟨wa, hwa⟩ : ∃ wa, wr.alloc (.cells #[.int .i64 x.t.k, .string x.t.m, .string x.t.n, .slice x.aa x.t.A.len x.ca, .slice x.af x.t.F.len x.cf] 25) = wa := ⟨_, rfl⟩
          have hba : Below wr.heap.size wr wa := by rw [← hwa]; exact (Below.refl _ wr).alloc (Nat.le_refl _) _
          have hsa : wr.heap.size + 1 = wa.heap.size := by rw [← hwa]; simp
          have hwra := hwr.trans (hba.mono hwr.size)
          replace d0 := old_cell hwra d0
          replace d1 := old_cell hwra d1
          replace d2 := old_cell hwra d2
          replace d3 := old_cell hwra d3
          replace d4 := old_cell hwra d4
          obtain ⟨wb, hwb⟩ : ∃ wb, wa.alloc (.cells #[.int .i64 y.t.k, .string y.t.m, .string y.t.n, .slice y.aa y.t.A.len y.ca, .slice y.af y.t.F.len y.cf] 25) = wb := ⟨_, rfl⟩
          have hbb : Below wa.heap.size wa wb := by rw [← hwb]; exact (Below.refl _ wa).alloc (Nat.le_refl _) _
          have e0 : wb.heap[wr.heap.size]? = some (.cells #[.int .i64 x.t.k, .string x.t.m, .string x.t.n, .slice x.aa x.t.A.len x.ca, .slice x.af x.t.F.len x.cf] 25 (0, 0)) := (hbb.block _ (by omega)).trans (by rw [← hwa]; exact World.alloc_heap_new _ _)
          have f0 : wb.heap[wa.heap.size]? = some (.cells #[.int .i64 y.t.k, .string y.t.m, .string y.t.n, .slice y.aa y.t.A.len y.ca, .slice y.af y.t.F.len y.cf] 25 (0, 0)) := by rw [← hwb]; exact World.alloc_heap_new _ _
          have g0 := cell_of_row wb _ 0 _ _ _ e0
          have g1 := cell_of_row wb _ 1 _ _ _ e0
          have g2 := cell_of_row wb _ 2 _ _ _ e0
          have g3 := cell_of_row wb _ 3 _ _ _ e0
          have g4 := cell_of_row wb _ 4 _ _ _ e0
          have k0 := cell_of_row wb _ 0 _ _ _ f0
          have k1 := cell_of_row wb _ 1 _ _ _ f0
          have k2 := cell_of_row wb _ 2 _ _ _ f0
          have k3 := cell_of_row wb _ 3 _ _ _ f0
          have k4 := cell_of_row wb _ 4 _ _ _ f0
          have hwrb : Below wr.heap.size wr wb := hba.trans (hbb.mono hba.size)
          clear e0 f0 hba hsa hbb
          have hxs : x.t.size ≤ s := by rw [hx]; simp only [Tr.size] at h3; simp only [Ty.size]; omega
          have HE : Kpt (∀ W', Below w0.heap.size w0 W' → Calls Tryz.prog 36 #[.agg #[.int .i64 x.t.k, .string x.t.m, .string x.t.n, .slice x.aa x.t.A.len x.ca, .slice x.af x.t.F.len x.cf], .agg #[.int .i64 y.t.k, .string y.t.m, .string y.t.n, .slice y.aa y.t.A.len y.ca, .slice y.af y.t.F.len y.cf]] W'
            fun e W'' => e = .returned (.bool (x.t.eq y.t)) ∧ Below W'.heap.size W' W'') := hid (HI.out x y hxs)
          have heq : Tr.eq false (.node fn op k m n A F nx) (.node fn' op' k' m' n' A' F' nx') = (x.t.eq y.t && nx.eq false nx') := by rw [hx, hy]; rfl
          rw [heq] at h4
          have hsn : nx.size ≤ s := by simp only [Tr.size] at h3; omega
          simp only [Tr.len] at h1 h2
          have HQ := hid (And.intro h4 (And.intro (h7.trans (hwrb.mono h7.size)) (And.intro (hwr.trans (hwrb.mono hwr.size)) (And.intro hr1 (And.intro hr2 (And.intro (show nx.len + (i + 1) = T.len by omega) (And.intro (show nx.len = nx'.len by omega) hsn)))))))
          clear h1 h2 h3 h4 h5 h6 h7 hwr hr1 hr2 heq hxs hsn hx hy hwra hwrb
          cases hxy : x.t.eq y.t with
          | true =>
            rw [hxy] at HE HQ
            clear hxy
            go_wp2_with fail
            refine (HE.out _ HQ.out.2.2.1).mono ?_
            rintro e w3 ⟨rfl, hb3⟩
            go_wp2_with fail
            go_roundw
            case rel => exact ⟨i + 1, nx, nx', by go_num, HQ.out.2.2.2.2.2.1, HQ.out.2.2.2.2.2.2.1, HQ.out.2.2.2.2.2.2.2, by rw [HQ.out.1, Bool.true_and], HQ.out.2.2.2.1, HQ.out.2.2.2.2.1, HQ.out.2.1.trans (hb3.mono HQ.out.2.1.size)⟩
            case measure => simp [intOf]; omega
          | false =>
            rw [hxy] at HE HQ
            clear hxy
            go_wp2_with fail
            refine (HE.out _ HQ.out.2.2.1).mono ?_
            rintro e w3 ⟨rfl, hb3⟩
            go_wp2_with fail
            go_ret
            exact ⟨by rw [HQ.out.1, Bool.false_and]; rfl, HQ.out.2.1.trans (hb3.mono HQ.out.2.1.size)⟩
  · have hne : ((T.len : Int) == (U.len : Int)) = false := by rw [beq_eq_false_iff_ne]; omega
    have hf : T.eq false U = false := by
      cases h : T.eq false U with
      | false => rfl
      | true => exact absurd (Tr.eq_len h) hl
    have HF := hid hf
    clear hf
    go_enter Tryz.func80, Tryz.ntmps80
    go_wp2_with fail
    go_ret
    exact ⟨by rw [HF.out]; rfl, Below.refl _ _⟩
/-- Fields, as they are compared. -/
def fdEq (fn fn' : ByteArray) (op op' : Bool) (t u : Ty) : Bool := decide (fn = fn') && (op == op') && t.eq u
def EqF (w0 : World) (s : Nat) : Prop := ∀ (fn fn' : ByteArray) (op op' : Bool) (x y : TyI w0), x.t.size ≤ s → ∀ W, Below w0.heap.size w0 W → Calls Tryz.prog 82 #[.agg #[.string fn, .int .i64 x.t.k, .string x.t.m, .string x.t.n, .slice x.aa x.t.A.len x.ca, .slice x.af x.t.F.len x.cf, .bool op], .agg #[.string fn', .int .i64 y.t.k, .string y.t.m, .string y.t.n, .slice y.aa y.t.A.len y.ca, .slice y.af y.t.F.len y.cf, .bool op']] W fun e W' => e = .returned (.bool (fdEq fn fn' op op' x.t y.t)) ∧ Below W.heap.size W W'
set_option maxRecDepth 100000 in
set_option maxHeartbeats 4000000 in
theorem eqf_fields (w0 : World) (s : Nat) (ih : EqF w0 s) (hs : s ≤ 1099511627776) (T U : Tr) (hT : T.size ≤ s) (aa ab : Option Addr) (ca cb : Nat) (hA : RowAt w0 T true aa 0) (hB : RowAt w0 U true ab 0) (W : World) (hW : Below w0.heap.size w0 W) :
    Calls Tryz.prog 81 #[.slice aa T.len ca, .slice ab U.len cb, .func (.func 82) #[] #[]] W
      fun e W' => e = .returned (.bool (T.eq true U)) ∧ Below W.heap.size W W' := by
  have HI := hid ih
  have HA := hid (And.intro hA hB)
  have HW := hid hW
  have hlT := Tr.len_le T
  clear ih hA hB hW
  by_cases hl : T.len = U.len
  · have hl2 : (U.len : Int) = (T.len : Int) := by rw [hl]
    rw [← hl]
    have HL := hid hl
    clear hl hl2
    go_enter Tryz.func81, Tryz.ntmps81
    go_wp2_with fail
    go_loopw [17] (fun a wr => ∃ (i : Nat) (r1 r2 : Tr), a = .int .i64 (i : Int) ∧ r1.len + i = T.len ∧ r1.len = r2.len ∧ r1.size ≤ s ∧ T.eq true U = r1.eq true r2 ∧ RowAt w0 r1 true aa i ∧ RowAt w0 r2 true ab i ∧ Below W.heap.size W wr) (fun a _ => T.len - (intOf a).toNat)
    case atStart => exact ⟨0, T, U, rfl, by omega, HL.out, hT, rfl, HA.out.1, HA.out.2, Below.refl _ _⟩
    case round =>
      obtain ⟨i, r1, r2, rfl, h1, h2, h3, h4, h5, h6, h7⟩ := hrel
      cases r1 with
      | nil =>
        cases r2 with
        | node => simp [Tr.len] at h2
        | nil =>
          have hi : i = T.len := by simp [Tr.len] at h1; omega
          subst hi
          have HQ := hid (And.intro h4 h7)
          clear h1 h2 h3 h4 h5 h6 h7
          go_wp2_with fail
          go_ret
          exact ⟨by rw [HQ.out.1]; rfl, HQ.out.2⟩
      | node fn op k m n A F nx =>
        cases r2 with
        | nil => simp [Tr.len] at h2
        | node fn' op' k' m' n' A' F' nx' =>
          have hlt : i < T.len := by simp only [Tr.len] at h1; omega
          obtain ⟨b, o, x, rfl, hx, ⟨c0, c1, c2, c3, c4, c5, c6⟩, hr1⟩ := rowAt_fd h5
          obtain ⟨b', o', y, rfl, hy, ⟨d0, d1, d2, d3, d4, d5, d6⟩, hr2⟩ := rowAt_fd h6
          have hwr := HW.out.trans (h7.mono HW.out.size)
          replace c0 := old_cell hwr c0
          replace c1 := old_cell hwr c1
          replace c2 := old_cell hwr c2
          replace c3 := old_cell hwr c3
          replace c4 := old_cell hwr c4
          replace c5 := old_cell hwr c5
          replace c6 := old_cell hwr c6
          obtain ⟨wa, hwa⟩ : ∃ wa, wr.alloc (.cells #[.string fn, .int .i64 x.t.k, .string x.t.m, .string x.t.n, .slice x.aa x.t.A.len x.ca, .slice x.af x.t.F.len x.cf, .bool op] 86) = wa := ⟨_, rfl⟩
          have hba : Below wr.heap.size wr wa := by rw [← hwa]; exact (Below.refl _ wr).alloc (Nat.le_refl _) _
          have hsa : wr.heap.size + 1 = wa.heap.size := by rw [← hwa]; simp
          have hwra := hwr.trans (hba.mono hwr.size)
          replace d0 := old_cell hwra d0
          replace d1 := old_cell hwra d1
          replace d2 := old_cell hwra d2
          replace d3 := old_cell hwra d3
          replace d4 := old_cell hwra d4
          replace d5 := old_cell hwra d5
          replace d6 := old_cell hwra d6
          obtain ⟨wb, hwb⟩ : ∃ wb, wa.alloc (.cells #[.string fn', .int .i64 y.t.k, .string y.t.m, .string y.t.n, .slice y.aa y.t.A.len y.ca, .slice y.af y.t.F.len y.cf, .bool op'] 86) = wb := ⟨_, rfl⟩
          have hbb : Below wa.heap.size wa wb := by rw [← hwb]; exact (Below.refl _ wa).alloc (Nat.le_refl _) _
          have e0 : wb.heap[wr.heap.size]? = some (.cells #[.string fn, .int .i64 x.t.k, .string x.t.m, .string x.t.n, .slice x.aa x.t.A.len x.ca, .slice x.af x.t.F.len x.cf, .bool op] 86 (0, 0)) := (hbb.block _ (by omega)).trans (by rw [← hwa]; exact World.alloc_heap_new _ _)
          have f0 : wb.heap[wa.heap.size]? = some (.cells #[.string fn', .int .i64 y.t.k, .string y.t.m, .string y.t.n, .slice y.aa y.t.A.len y.ca, .slice y.af y.t.F.len y.cf, .bool op'] 86 (0, 0)) := by rw [← hwb]; exact World.alloc_heap_new _ _
          have g0 := cell_of_row wb _ 0 _ _ _ e0
          have g1 := cell_of_row wb _ 1 _ _ _ e0
          have g2 := cell_of_row wb _ 2 _ _ _ e0
          have g3 := cell_of_row wb _ 3 _ _ _ e0
          have g4 := cell_of_row wb _ 4 _ _ _ e0
          have g5 := cell_of_row wb _ 5 _ _ _ e0
          have g6 := cell_of_row wb _ 6 _ _ _ e0
          have k5 := cell_of_row wb _ 5 _ _ _ f0
          have k6 := cell_of_row wb _ 6 _ _ _ f0
          have k0 := cell_of_row wb _ 0 _ _ _ f0
          have k1 := cell_of_row wb _ 1 _ _ _ f0
          have k2 := cell_of_row wb _ 2 _ _ _ f0
          have k3 := cell_of_row wb _ 3 _ _ _ f0
          have k4 := cell_of_row wb _ 4 _ _ _ f0
          have hwrb : Below wr.heap.size wr wb := hba.trans (hbb.mono hba.size)
          clear e0 f0 hba hsa hbb
          have hxs : x.t.size ≤ s := by rw [hx]; simp only [Tr.size] at h3; simp only [Ty.size]; omega
          have HE : Kpt (∀ W', Below w0.heap.size w0 W' → Calls Tryz.prog 82 #[.agg #[.string fn, .int .i64 x.t.k, .string x.t.m, .string x.t.n, .slice x.aa x.t.A.len x.ca, .slice x.af x.t.F.len x.cf, .bool op], .agg #[.string fn', .int .i64 y.t.k, .string y.t.m, .string y.t.n, .slice y.aa y.t.A.len y.ca, .slice y.af y.t.F.len y.cf, .bool op']] W'
            fun e W'' => e = .returned (.bool (fdEq fn fn' op op' x.t y.t)) ∧ Below W'.heap.size W' W'') := hid (HI.out fn fn' op op' x y hxs)
          have heq : Tr.eq true (.node fn op k m n A F nx) (.node fn' op' k' m' n' A' F' nx') = (fdEq fn fn' op op' x.t y.t && nx.eq true nx') := by rw [hx, hy]; simp [Tr.eq, fdEq, Ty.eq]
          rw [heq] at h4
          have hsn : nx.size ≤ s := by simp only [Tr.size] at h3; omega
          simp only [Tr.len] at h1 h2
          have HQ := hid (And.intro h4 (And.intro (h7.trans (hwrb.mono h7.size)) (And.intro (hwr.trans (hwrb.mono hwr.size)) (And.intro hr1 (And.intro hr2 (And.intro (show nx.len + (i + 1) = T.len by omega) (And.intro (show nx.len = nx'.len by omega) hsn)))))))
          clear h1 h2 h3 h4 h5 h6 h7 hwr hr1 hr2 heq hxs hsn hx hy hwra hwrb
          cases hxy : fdEq fn fn' op op' x.t y.t with
          | true =>
            rw [hxy] at HE HQ
            clear hxy
            go_wp2_with fail
            refine (HE.out _ HQ.out.2.2.1).mono ?_
            rintro e w3 ⟨rfl, hb3⟩
            go_wp2_with fail
            go_roundw
            case rel => exact ⟨i + 1, nx, nx', by go_num, HQ.out.2.2.2.2.2.1, HQ.out.2.2.2.2.2.2.1, HQ.out.2.2.2.2.2.2.2, by rw [HQ.out.1, Bool.true_and], HQ.out.2.2.2.1, HQ.out.2.2.2.2.1, HQ.out.2.1.trans (hb3.mono HQ.out.2.1.size)⟩
            case measure => simp [intOf]; omega
          | false =>
            rw [hxy] at HE HQ
            clear hxy
            go_wp2_with fail
            refine (HE.out _ HQ.out.2.2.1).mono ?_
            rintro e w3 ⟨rfl, hb3⟩
            go_wp2_with fail
            go_ret
            exact ⟨by rw [HQ.out.1, Bool.false_and]; rfl, HQ.out.2.1.trans (hb3.mono HQ.out.2.1.size)⟩
  · have hne : ((T.len : Int) == (U.len : Int)) = false := by rw [beq_eq_false_iff_ne]; omega
    have hf : T.eq true U = false := by
      cases h : T.eq true U with
      | false => rfl
      | true => exact absurd (Tr.eq_len h) hl
    have HF := hid hf
    clear hf
    go_enter Tryz.func81, Tryz.ntmps81
    go_wp2_with fail
    go_ret
    exact ⟨by rw [HF.out]; rfl, Below.refl _ _⟩

set_option maxRecDepth 100000 in
set_option maxHeartbeats 4000000 in
theorem eq_fields (w0 : World) (s : Nat) (ih : EqT w0 s) : EqF w0 s := by
  intro fn fn' op op' x y hx W hW
  have HE : Kpt (∀ W', Below w0.heap.size w0 W' → Calls Tryz.prog 36 #[.agg #[.int .i64 x.t.k, .string x.t.m, .string x.t.n, .slice x.aa x.t.A.len x.ca, .slice x.af x.t.F.len x.cf], .agg #[.int .i64 y.t.k, .string y.t.m, .string y.t.n, .slice y.aa y.t.A.len y.ca, .slice y.af y.t.F.len y.cf]] W'
            fun e W'' => e = .returned (.bool (x.t.eq y.t)) ∧ Below W'.heap.size W' W'') := hid (ih x y hx)
  obtain ⟨wa, hwa⟩ : ∃ wa, W.alloc (.cells #[.string fn, .int .i64 x.t.k, .string x.t.m, .string x.t.n, .slice x.aa x.t.A.len x.ca, .slice x.af x.t.F.len x.cf, .bool op] 86) = wa := ⟨_, rfl⟩
  have hba : Below W.heap.size W wa := by rw [← hwa]; exact (Below.refl _ W).alloc (Nat.le_refl _) _
  have hsa : W.heap.size + 1 = wa.heap.size := by rw [← hwa]; simp
  obtain ⟨wb, hwb⟩ : ∃ wb, wa.alloc (.cells #[.string fn', .int .i64 y.t.k, .string y.t.m, .string y.t.n, .slice y.aa y.t.A.len y.ca, .slice y.af y.t.F.len y.cf, .bool op'] 86) = wb := ⟨_, rfl⟩
  have hbb : Below wa.heap.size wa wb := by rw [← hwb]; exact (Below.refl _ wa).alloc (Nat.le_refl _) _
  have e0 : wb.heap[W.heap.size]? = some (.cells #[.string fn, .int .i64 x.t.k, .string x.t.m, .string x.t.n, .slice x.aa x.t.A.len x.ca, .slice x.af x.t.F.len x.cf, .bool op] 86 (0, 0)) := (hbb.block _ (by omega)).trans (by rw [← hwa]; exact World.alloc_heap_new _ _)
  have f0 : wb.heap[wa.heap.size]? = some (.cells #[.string fn', .int .i64 y.t.k, .string y.t.m, .string y.t.n, .slice y.aa y.t.A.len y.ca, .slice y.af y.t.F.len y.cf, .bool op'] 86 (0, 0)) := by rw [← hwb]; exact World.alloc_heap_new _ _
  have hwrb : Below W.heap.size W wb := hba.trans (hbb.mono hba.size)
  have HB := hid (And.intro (hW.trans (hwrb.mono hW.size)) hwrb)
  have g0 := cell_of_row wb _ 0 _ _ _ e0
  have k0 := cell_of_row wb _ 0 _ _ _ f0
  have g1 := cell_of_row wb _ 1 _ _ _ e0
  have k1 := cell_of_row wb _ 1 _ _ _ f0
  have g2 := cell_of_row wb _ 2 _ _ _ e0
  have k2 := cell_of_row wb _ 2 _ _ _ f0
  have g3 := cell_of_row wb _ 3 _ _ _ e0
  have k3 := cell_of_row wb _ 3 _ _ _ f0
  have g4 := cell_of_row wb _ 4 _ _ _ e0
  have k4 := cell_of_row wb _ 4 _ _ _ f0
  have g5 := cell_of_row wb _ 5 _ _ _ e0
  have k5 := cell_of_row wb _ 5 _ _ _ f0
  have g6 := cell_of_row wb _ 6 _ _ _ e0
  have k6 := cell_of_row wb _ 6 _ _ _ f0
  clear e0 f0 hba hsa hbb hwrb hW ih
  by_cases hfn : fn = fn'
  · subst hfn
    by_cases hop : op = op'
    · subst hop
      have hres : fdEq fn fn op op x.t y.t = x.t.eq y.t := by simp [fdEq]
      rw [hres]
      clear hres
      go_enter Tryz.func82, Tryz.ntmps82
      go_wp2_with fail
      refine (HE.out _ HB.out.1).mono ?_
      rintro e w3 ⟨rfl, hb3⟩
      go_wp2_with fail
      go_ret
      exact ⟨rfl, HB.out.2.trans (hb3.mono HB.out.2.size)⟩
    · have hoo : (op == op') = false := by simpa using hop
      have hres : fdEq fn fn op op' x.t y.t = false := by simp [fdEq, hoo]
      rw [hres]
      clear hres
      go_enter Tryz.func82, Tryz.ntmps82
      go_wp2_with fail
      go_ret
      exact ⟨rfl, HB.out.2⟩
  · have hff := toList_ne hfn
    have hres : fdEq fn fn' op op' x.t y.t = false := by simp [fdEq, hfn]
    rw [hres]
    clear hres
    go_enter Tryz.func82, Tryz.ntmps82
    go_wp2_with fail
    go_ret
    exact ⟨rfl, HB.out.2⟩
end Go.Proofs.YtjedcijddlilaaaGreatDoor

namespace Go.Proofs.YtjedcijddlilaaaGreatDoor
open Go.RowKit Go.Shelf

set_option maxRecDepth 100000 in
set_option maxHeartbeats 4000000 in
theorem eq_step (w0 : World) (s : Nat) (hs : s + 1 ≤ 1099511627776) (ih : EqT w0 s) : EqT w0 (s + 1) := by
  intro x y hx W hW
  have hF := eq_fields w0 s ih
  have hsz : x.t.size = 1 + x.t.A.size + x.t.F.size := rfl
  have HA := hid (fun W hW => eqf_types w0 s ih (by omega) x.t.A y.t.A (by omega) x.aa y.aa x.ca y.ca (rowAt_zero x.ha) (rowAt_zero y.ha) W hW)
  have HF := hid (fun W hW => eqf_fields w0 s hF (by omega) x.t.F y.t.F (by omega) x.af y.af x.cf y.cf (rowAt_zero x.hf) (rowAt_zero y.hf) W hW)
  clear hF ih hsz hx
  obtain ⟨wa, hwa⟩ : ∃ wa, W.alloc (.cells #[.int .i64 x.t.k, .string x.t.m, .string x.t.n, .slice x.aa x.t.A.len x.ca, .slice x.af x.t.F.len x.cf] 25) = wa := ⟨_, rfl⟩
  have hba : Below W.heap.size W wa := by rw [← hwa]; exact (Below.refl _ W).alloc (Nat.le_refl _) _
  have hsa : W.heap.size + 1 = wa.heap.size := by rw [← hwa]; simp
  obtain ⟨wb, hwb⟩ : ∃ wb, wa.alloc (.cells #[.int .i64 y.t.k, .string y.t.m, .string y.t.n, .slice y.aa y.t.A.len y.ca, .slice y.af y.t.F.len y.cf] 25) = wb := ⟨_, rfl⟩
  have hbb : Below wa.heap.size wa wb := by rw [← hwb]; exact (Below.refl _ wa).alloc (Nat.le_refl _) _
  have e0 : wb.heap[W.heap.size]? = some (.cells #[.int .i64 x.t.k, .string x.t.m, .string x.t.n, .slice x.aa x.t.A.len x.ca, .slice x.af x.t.F.len x.cf] 25 (0, 0)) := (hbb.block _ (by omega)).trans (by rw [← hwa]; exact World.alloc_heap_new _ _)
  have f0 : wb.heap[wa.heap.size]? = some (.cells #[.int .i64 y.t.k, .string y.t.m, .string y.t.n, .slice y.aa y.t.A.len y.ca, .slice y.af y.t.F.len y.cf] 25 (0, 0)) := by rw [← hwb]; exact World.alloc_heap_new _ _
  have hlb : W.heap.size < wb.heap.size ∧ wa.heap.size < wb.heap.size := ⟨(Array.getElem?_eq_some_iff.1 e0).1, (Array.getElem?_eq_some_iff.1 f0).1⟩
  have hwrb : Below W.heap.size W wb := hba.trans (hbb.mono hba.size)
  have HB := hid (And.intro (hW.trans (hwrb.mono hW.size)) (And.intro hwrb hlb))
  have g0 := cell_of_row wb _ 0 _ _ _ e0
  have k0 := cell_of_row wb _ 0 _ _ _ f0
  have g1 := cell_of_row wb _ 1 _ _ _ e0
  have k1 := cell_of_row wb _ 1 _ _ _ f0
  have g2 := cell_of_row wb _ 2 _ _ _ e0
  have k2 := cell_of_row wb _ 2 _ _ _ f0
  have g3 := cell_of_row wb _ 3 _ _ _ e0
  have k3 := cell_of_row wb _ 3 _ _ _ f0
  have g4 := cell_of_row wb _ 4 _ _ _ e0
  have k4 := cell_of_row wb _ 4 _ _ _ f0
  have HC := hid (And.intro e0 f0)
  clear e0 f0 hba hsa hbb hwrb hlb hW
  show Calls Tryz.prog 36 #[.agg #[.int .i64 x.t.k, .string x.t.m, .string x.t.n, .slice x.aa x.t.A.len x.ca, .slice x.af x.t.F.len x.cf], .agg #[.int .i64 y.t.k, .string y.t.m, .string y.t.n, .slice y.aa y.t.A.len y.ca, .slice y.af y.t.F.len y.cf]] W _
  by_cases hk : x.t.k = y.t.k
  · by_cases hm : x.t.m = y.t.m
    · by_cases hn : x.t.n = y.t.n
      · have hkk : (x.t.k == y.t.k) = true := by rw [hk]; simp
        have hmm : (x.t.m.toList == y.t.m.toList) = true := by rw [hm]; simp
        have hnn : (x.t.n.toList == y.t.n.toList) = true := by rw [hn]; simp
        have hres : x.t.eq y.t = (x.t.A.eq false y.t.A && x.t.F.eq true y.t.F) := by simp [Ty.eq, hk, hm, hn]
        rw [hres]
        clear hres hk hm hn
        go_enter Tryz.func36, Tryz.ntmps36
        go_wp2_with fail
        refine (HA.out _ HB.out.1).mono ?_
        rintro e w3 ⟨rfl, hb3⟩
        have h30 := (hb3.block _ HB.out.2.2.1).trans HC.out.1
        have h31 := (hb3.block _ HB.out.2.2.2).trans HC.out.2
        have q0 := cell_of_row w3 _ 4 _ _ _ h30
        have q1 := cell_of_row w3 _ 4 _ _ _ h31
        have HD := hid hb3
        clear hb3 h30 h31
        cases hAe : x.t.A.eq false y.t.A with
        | true =>
          go_wp2_with fail
          refine (HF.out _ (HB.out.1.trans (HD.out.mono HB.out.1.size))).mono ?_
          rintro e w4 ⟨rfl, hb4⟩
          go_wp2_with fail
          go_ret
          exact ⟨by rw [hAe, Bool.true_and]; rfl, (HB.out.2.1.trans (HD.out.mono HB.out.2.1.size)).trans (hb4.mono (Nat.le_trans HB.out.2.1.size HD.out.size))⟩
        | false =>
          go_wp2_with fail
          go_ret
          exact ⟨by rw [hAe, Bool.false_and]; rfl, HB.out.2.1.trans (HD.out.mono HB.out.2.1.size)⟩
      · have hnn := toList_ne hn
        have hkk : (x.t.k == y.t.k) = true := by rw [hk]; simp
        have hmm : (x.t.m.toList == y.t.m.toList) = true := by rw [hm]; simp
        have hres : x.t.eq y.t = false := by simp [Ty.eq, hn]
        rw [hres]
        clear hres hk hm hn
        go_enter Tryz.func36, Tryz.ntmps36
        go_wp2_with fail
        go_ret
        exact ⟨rfl, HB.out.2.1⟩
    · have hmm := toList_ne hm
      have hkk : (x.t.k == y.t.k) = true := by rw [hk]; simp
      have hres : x.t.eq y.t = false := by simp [Ty.eq, hm]
      rw [hres]
      clear hres hk hm
      go_enter Tryz.func36, Tryz.ntmps36
      go_wp2_with fail
      go_ret
      exact ⟨rfl, HB.out.2.1⟩
  · have hkk : (x.t.k == y.t.k) = false := by rw [beq_eq_false_iff_ne]; exact hk
    have hres : x.t.eq y.t = false := by simp [Ty.eq, hk]
    rw [hres]
    clear hres hk
    go_enter Tryz.func36, Tryz.ntmps36
    go_wp2_with fail
    go_ret
    exact ⟨rfl, HB.out.2.1⟩

theorem eq_all (w0 : World) : ∀ s, s ≤ 1099511627776 → EqT w0 s := by
  intro s
  induction s with
  | zero => intro _ x y hx; simp only [Ty.size] at hx; omega
  | succ s ih => intro hs; exact eq_step w0 s hs (ih (by omega))

/-- EqualTypes. -/
theorem eq_any {t u : Ty} {v v' : Value} {w : World} (hv : TyV w v t) (hv' : TyV w v' u) (ht : t.size ≤ 1099511627776) :
    Calls Tryz.prog 36 #[v, v'] w fun e w' => e = .returned (.bool (t.eq u)) ∧ Below w.heap.size w w' := by
  obtain ⟨x, rfl, rfl⟩ := tyI_of hv
  obtain ⟨y, rfl, rfl⟩ := tyI_of hv'
  exact eq_all w _ ht x y (Nat.le_refl _) w (Below.refl _ _)
end Go.Proofs.YtjedcijddlilaaaGreatDoor
