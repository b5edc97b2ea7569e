/- syntax: the iterators over an expression's kids and nodes. -/
import Derived.Test.YtnkhebgjhipepaaGreatDoorSyN
import Derived.Test.YtnkhebgjhipepaaGreatDoorEv
namespace Go.Proofs.YtnkhebgjhipepaaGreatDoor
open Go.RowKit Go.Shelf
attribute [local go_sem] Oper.semAt_some

/-- The types that stand in an expression itself. -/
def Xp.tys (e : Xp) : List Ty := e.T.els ++ if e.k = 8 then e.L.map (·.t) else []
def Ex.size : Ex → Nat
  | .nil => 0
  | .node k _ _ _ _ T L K nx => (1 + T.size + (if k = 8 then (L.map (·.t.size)).sum else 0) + K.size) + nx.size
def Xp.size (e : Xp) : Nat := 1 + e.T.size + (if e.k = 8 then (e.L.map (·.t.size)).sum else 0) + e.K.size
theorem Lb.sum_bk : ∀ L : List Lb, (L.map (·.t.size)).sum ≤ (encLb L).bk := by
  intro L
  induction L with
  | nil => exact Nat.le_refl _
  | cons x r ih =>
    have := x.t.on_bk (.bool x.op (encLb r))
    simp only [encLb, Dt.bk, List.map_cons, List.sum_cons] at *; omega
theorem Ex.size_bk : ∀ K : Ex, K.size ≤ K.enc.bk := by
  intro K
  induction K with
  | nil => exact Nat.le_refl _
  | node k m n tx num T L K nx hk hn =>
    have h1 := T.size_enc false
    have h2 := Lb.sum_bk L
    simp only [Ex.size, Ex.enc, Dt.bk]
    split <;> omega
theorem Xp.size_bk (e : Xp) : e.size ≤ e.bk := by
  have h1 := e.T.size_enc false
  have h2 := Lb.sum_bk e.L
  have h3 := e.K.size_bk
  rw [e.bk_eq]
  unfold Xp.size
  split <;> omega
theorem Xp.size_tys (e : Xp) : e.size = 1 + (e.tys.map Ty.size).sum + e.K.size := by
  unfold Xp.size Xp.tys
  rw [List.map_append, List.sum_append, Tr.size_els]
  split
  · rw [List.map_map]; simp only [Function.comp_def]; omega
  · simp
/-- The kids of an expression; its nodes. -/
def Ex.els : Ex → List Xp
  | .nil => []
  | .node k m n tx num T L K nx => ⟨k, m, n, tx, num, T, L, K⟩ :: nx.els
def Ex.nodes : Ex → List Xp
  | .nil => []
  | .node k m n tx num T L K nx => ⟨k, m, n, tx, num, T, L, K⟩ :: (K.nodes ++ nx.nodes)
def Xp.nodes (e : Xp) : List Xp := e :: e.K.nodes
def Xp.kids (e : Xp) : List Xp := e.K.els
theorem Ex.els_len (K : Ex) : K.els.length = K.len := by
  induction K with
  | nil => rfl
  | node k m n tx num T L K nx hk hn => simp only [Ex.els, Ex.len, List.length_cons, hn]
theorem Ex.nodes_els (K : Ex) : K.nodes = K.els.flatMap Xp.nodes := by
  induction K with
  | nil => rfl
  | node k m n tx num T L K nx hk hn => simp only [Ex.nodes, Ex.els, List.flatMap_cons, Xp.nodes, hn, List.cons_append]
theorem Xp.nodes_kids (e : Xp) : e.nodes = e :: e.kids.flatMap Xp.nodes := by
  simp only [Xp.nodes, Xp.kids, Ex.nodes_els]
theorem Ex.el_bk {K : Ex} {p : Xp} (h : p ∈ K.els) : p.bk ≤ K.enc.bk := by
  induction K with
  | nil => cases h
  | node k m n tx num T L K nx hk hn =>
    simp only [Ex.els, List.mem_cons] at h
    rcases h with rfl | h
    · simp only [Ex.enc, Xp.bk, Xp.on, Dt.bk]; omega
    · have := hn h; simp only [Ex.enc, Dt.bk]; omega
theorem Xp.kid_bk {e p : Xp} (h : p ∈ e.kids) : p.bk < e.bk := by
  have := Ex.el_bk h
  rw [Xp.bk_eq e]
  omega
theorem xnodes_prefix {t y : Xp} {ps zs : List Xp} (h : ps ++ [y] <+: t.kids) (hz : zs <+: y.nodes) : (t :: ps.flatMap Xp.nodes) ++ zs <+: t.nodes := by
  obtain ⟨r, hr⟩ := h
  obtain ⟨q, hq⟩ := hz
  rw [Xp.nodes_kids, ← hr]
  refine ⟨q ++ r.flatMap Xp.nodes, ?_⟩
  simp [List.flatMap_append, ← hq]
theorem xnodes_snoc {t y : Xp} {ps : List Xp} : (t :: ps.flatMap Xp.nodes) ++ y.nodes = t :: (ps ++ [y]).flatMap Xp.nodes := by simp [List.flatMap_append]
/-- An element of a row of expressions. -/
theorem lies_xp {w : World} : ∀ (K : Ex) (a : Option Addr) (i j : Nat), RowD w K.enc a (j * 8) → i < K.len → ∃ (b o : Nat) (x : XpI w), a = some ⟨b, o, none⟩ ∧ K.els[i]? = some x.e ∧
      (w.cell? ⟨b, o + (j + i) * 8, none⟩ = some (.int .i64 x.e.k) ∧ w.cell? ⟨b, o + (j + i) * 8 + 1, none⟩ = some (.string x.e.m) ∧ w.cell? ⟨b, o + (j + i) * 8 + 2, none⟩ = some (.string x.e.n) ∧ w.cell? ⟨b, o + (j + i) * 8 + 3, none⟩ = some (.string x.e.tx) ∧ w.cell? ⟨b, o + (j + i) * 8 + 4, none⟩ = some (.int .i64 x.e.num) ∧
      w.cell? ⟨b, o + (j + i) * 8 + 5, none⟩ = some (.slice x.aT x.e.T.len x.cT) ∧ w.cell? ⟨b, o + (j + i) * 8 + 6, none⟩ = some (.slice x.aL x.e.L.length x.cL) ∧ w.cell? ⟨b, o + (j + i) * 8 + 7, none⟩ = some (.slice x.aK x.e.K.len x.cK)) := by
  intro K
  induction K with
  | nil => intro a i j _ hi; exact absurd hi (Nat.not_lt_zero _)
  | node k m n tx num T L K nx hk hn =>
    intro a i j h hi
    obtain ⟨b, o, p, ha, hp, hc, hr⟩ := rowD_ex h
    cases i with
    | zero => exact ⟨b, o, p, ha, by rw [hp]; rfl, hc⟩
    | succ i =>
      obtain ⟨b', o', x, ha', hx, hc'⟩ := hn a i (j + 1) hr (by simp only [Ex.len] at hi; omega)
      refine ⟨b', o', x, ha', by simpa [Ex.els] using hx, ?_⟩
      rw [show j + (i + 1) = j + 1 + i by omega]
      exact hc'
theorem lies_xp0 {w : World} {K : Ex} {a : Option Addr} {i : Nat} (h : SlD w a K.enc) (hi : i < K.len) : ∃ (b o : Nat) (x : XpI w), a = some ⟨b, o, none⟩ ∧ K.els[i]? = some x.e ∧
      (w.cell? ⟨b, o + i * 8, none⟩ = some (.int .i64 x.e.k) ∧ w.cell? ⟨b, o + i * 8 + 1, none⟩ = some (.string x.e.m) ∧ w.cell? ⟨b, o + i * 8 + 2, none⟩ = some (.string x.e.n) ∧ w.cell? ⟨b, o + i * 8 + 3, none⟩ = some (.string x.e.tx) ∧ w.cell? ⟨b, o + i * 8 + 4, none⟩ = some (.int .i64 x.e.num) ∧
      w.cell? ⟨b, o + i * 8 + 5, none⟩ = some (.slice x.aT x.e.T.len x.cT) ∧ w.cell? ⟨b, o + i * 8 + 6, none⟩ = some (.slice x.aL x.e.L.length x.cL) ∧ w.cell? ⟨b, o + i * 8 + 7, none⟩ = some (.slice x.aK x.e.K.len x.cK)) := by
  have h2 := lies_xp K a i 0 (by rw [Nat.zero_mul]; exact h) hi
  simpa only [Nat.zero_add] using h2
theorem lies_lb {w : World} : ∀ (L : List Lb) (a : Option Addr) (i j : Nat), RowD w (encLb L) a (j * 8) → i < L.length → ∃ (b o : Nat) (x : Lb) (p : TyI w), a = some ⟨b, o, none⟩ ∧ L[i]? = some x ∧ p.t = x.t ∧
      (w.cell? ⟨b, o + (j + i) * 8, none⟩ = some (.string x.nm) ∧ w.cell? ⟨b, o + (j + i) * 8 + 1, none⟩ = some (.string x.vr) ∧ w.cell? ⟨b, o + (j + i) * 8 + 2, none⟩ = some (.int .i64 p.t.k) ∧ w.cell? ⟨b, o + (j + i) * 8 + 3, none⟩ = some (.string p.t.m) ∧ w.cell? ⟨b, o + (j + i) * 8 + 4, none⟩ = some (.string p.t.n) ∧
      w.cell? ⟨b, o + (j + i) * 8 + 5, none⟩ = some (.slice p.aa p.t.A.len p.ca) ∧ w.cell? ⟨b, o + (j + i) * 8 + 6, none⟩ = some (.slice p.af p.t.F.len p.cf) ∧ w.cell? ⟨b, o + (j + i) * 8 + 7, none⟩ = some (.bool x.op)) := by
  intro L
  induction L with
  | nil => intro a i j _ hi; exact absurd hi (Nat.not_lt_zero _)
  | cons y r hn =>
    intro a i j h hi
    obtain ⟨b, o, p, ha, hp, hc, hr⟩ := rowD_lb h
    cases i with
    | zero => exact ⟨b, o, y, p, ha, rfl, hp, hc⟩
    | succ i =>
      obtain ⟨b', o', x, p', ha', hx, hp', hc'⟩ := hn a i (j + 1) hr (by simp only [List.length_cons] at hi; omega)
      refine ⟨b', o', x, p', ha', by simpa using hx, hp', ?_⟩
      rw [show j + (i + 1) = j + 1 + i by omega]
      exact hc'
theorem exprKids_any {w0 : World} (x : XpI w0) (w : World) : Calls Tryz.prog 68 #[x.v] w
    fun e w' => e = .returned (.func (.func 178) #[] #[.pointer (some ⟨w.heap.size + 1, 0, none⟩)]) ∧ w' = (w.alloc (.cells x.cells 29)).alloc (.cells #[.slice x.aK x.e.K.len x.cK] 27) := by
  have HV : Kpt (∀ (v : Value) w, v = .slice x.aK x.e.K.len x.cK → Calls Tryz.prog 121 #[v] w fun e w' => e = .returned (.func (.func 178) #[] #[.pointer (some ⟨w.heap.size, 0, none⟩)]) ∧ w' = w.alloc (.cells #[v] 27)) := hid fun v w hv => by
    subst hv
    go_enter Tryz.func121, Tryz.ntmps121
    go_wp2_with fail
    go_ret
    exact ⟨rfl, rfl⟩
  show Calls Tryz.prog 68 #[.agg #[.int .i64 x.e.k, .string x.e.m, .string x.e.n, .string x.e.tx, .int .i64 x.e.num, .slice x.aT x.e.T.len x.cT, .slice x.aL x.e.L.length x.cL, .slice x.aK x.e.K.len x.cK]] w _
  have hxc : x.cells = #[.int .i64 x.e.k, .string x.e.m, .string x.e.n, .string x.e.tx, .int .i64 x.e.num, .slice x.aT x.e.T.len x.cT, .slice x.aL x.e.L.length x.cL, .slice x.aK x.e.K.len x.cK] := rfl
  rw [hxc]
  go_enter Tryz.func68, Tryz.ntmps68
  go_wp2_with fail
  refine (HV.out _ _ rfl).mono ?_
  rintro e w' ⟨rfl, rfl⟩
  go_wp2_with fail
  go_ret
  exact ⟨by simp, rfl⟩
theorem xpreorder_any {w0 : World} (x : XpI w0) (w : World) : Calls Tryz.prog 122 #[x.v, .func (.func 68) #[] #[]] w
    fun e w' => e = .returned (.func (.func 179) #[] #[.pointer (some ⟨w.heap.size, 0, none⟩), .pointer (some ⟨w.heap.size + 1, 0, none⟩)]) ∧
      w' = (w.alloc (.cells x.cells 29)).alloc (.cells #[.func (.func 68) #[] #[]] 91) := by
  show Calls Tryz.prog 122 #[.agg #[.int .i64 x.e.k, .string x.e.m, .string x.e.n, .string x.e.tx, .int .i64 x.e.num, .slice x.aT x.e.T.len x.cT, .slice x.aL x.e.L.length x.cL, .slice x.aK x.e.K.len x.cK], _] w _
  have hxc : x.cells = #[.int .i64 x.e.k, .string x.e.m, .string x.e.n, .string x.e.tx, .int .i64 x.e.num, .slice x.aT x.e.T.len x.cT, .slice x.aL x.e.L.length x.cL, .slice x.aK x.e.K.len x.cK] := rfl
  rw [hxc]
  go_enter Tryz.func122, Tryz.ntmps122
  go_wp2_with fail
  go_ret
  exact ⟨rfl, rfl⟩
theorem exprNodes_any {w0 : World} (x : XpI w0) (w : World) : Calls Tryz.prog 69 #[x.v] w
    fun e w' => e = .returned (.func (.func 179) #[] #[.pointer (some ⟨w.heap.size + 1, 0, none⟩), .pointer (some ⟨w.heap.size + 2, 0, none⟩)]) ∧
      w' = ((w.alloc (.cells x.cells 29)).alloc (.cells x.cells 29)).alloc (.cells #[.func (.func 68) #[] #[]] 91) := by
  have HP : Kpt (∀ w, Calls Tryz.prog 122 #[.agg #[.int .i64 x.e.k, .string x.e.m, .string x.e.n, .string x.e.tx, .int .i64 x.e.num, .slice x.aT x.e.T.len x.cT, .slice x.aL x.e.L.length x.cL, .slice x.aK x.e.K.len x.cK], .func (.func 68) #[] #[]] w _) := hid (xpreorder_any x)
  have hxc : x.cells = #[.int .i64 x.e.k, .string x.e.m, .string x.e.n, .string x.e.tx, .int .i64 x.e.num, .slice x.aT x.e.T.len x.cT, .slice x.aL x.e.L.length x.cL, .slice x.aK x.e.K.len x.cK] := rfl
  show Calls Tryz.prog 69 #[.agg #[.int .i64 x.e.k, .string x.e.m, .string x.e.n, .string x.e.tx, .int .i64 x.e.num, .slice x.aT x.e.T.len x.cT, .slice x.aL x.e.L.length x.cL, .slice x.aK x.e.K.len x.cK]] w _
  rw [hxc] at HP ⊢
  go_enter Tryz.func69, Tryz.ntmps69
  go_wp2_with fail
  refine (HP.out _).mono ?_
  rintro e w' ⟨rfl, rfl⟩
  go_wp2_with fail
  go_ret
  exact ⟨by simp, by simp⟩
set_option maxRecDepth 100000 in
set_option maxHeartbeats 4000000 in
theorem kids1_in (w0 : World) (x : XpI w0) (hlen : x.e.K.len < 9223372036854775807) (B : Nat) (X : Nat → Prop) (hX : ∀ i, X i → w0.heap.size ≤ i ∧ i ≠ B) (V : List (XpI w0) → Prop) (hV : ∀ ys : List (XpI w0), ys.map (·.e) <+: x.e.kids → V ys) (l n : Nat) (J Jx : List (XpI w0) → World → Prop) (W : World)
    (hB : W.heap[B]? = some (.cells #[.slice x.aK x.e.K.len x.cK] 27 (0, 0))) (hW : KeepX (fun _ => False) w0 W) (hJ : Stab W.heap.size J)
    (hY : ∀ m pre y W1, J pre W1 → V (pre ++ [y]) → YieldAt Fence.wide m Tryz.prog l #[y.v] W1 fun e W' => (e = .returned (.bool true) ∧ J (pre ++ [y]) W' ∧ KeepX X W1 W') ∨ (e = .returned (.bool false) ∧ Jx (pre ++ [y]) W' ∧ KeepX (· < W.heap.size) W1 W'))
    (h0 : J [] W) :
    CallsIn Fence.wide n Tryz.prog 178 #[.func (.yield l) #[] #[], .pointer (some ⟨B, 0, none⟩)] W fun e W' =>
      (∃ v, e = .returned v) ∧ ((∃ ys : List (XpI w0), ys.map (·.e) = x.e.kids ∧ J ys W') ∨ (∃ pre : List (XpI w0), pre.map (·.e) <+: x.e.kids ∧ Jx pre W')) := by
  have HK := hid x.hK
  have HY := hid hY
  have HJ := hid hJ
  have HX := hid hX
  have HV := hid hV
  clear hY hJ hX hV
  have hBl : B < W.heap.size := (Array.getElem?_eq_some_iff.1 hB).1
  have hWs : w0.heap.size ≤ W.heap.size := hW.1
  have HC : Kpt (∀ wr, KeepX X W wr → ∀ a v, w0.cell? a = some v → wr.cell? a = some v) := hid fun wr hk a v hc => by
    have hl := World.block_lt_of_cell? w0 a hc
    exact hk.cell (fun hx => by have := (HX.out _ hx).1; omega) (hW.cell (fun h => h) hc)
  have HW := hid (And.intro hW (And.intro hBl hWs))
  have hb0 := cell_of_row W B 0 _ _ _ hB
  have HKI : Kpt (x.e.kids = x.e.K.els) := hid rfl
  clear hW hBl hWs hB
  refine callsIn_of_wp Tryz.func178 rfl trivial ?_ rfl
  simp only [Tryz.ntmps178, List.size_toArray, List.length_cons, List.length_nil, Nat.reduceAdd, Nat.reduceSub, Array.replicate_succ, Array.replicate_zero, List.push_toArray, List.append_toArray, List.nil_append, List.cons_append]
  gi_wp2_with fail
  gi_loopw [4, 7] (fun _ a wr => ∃ (pre : List (XpI w0)) (i : Nat), a = .int .i64 (i : Int) ∧ i ≤ x.e.K.len ∧ Kpt (pre.map (·.e) = x.e.K.els.take i) ∧ J pre wr ∧ KeepX X W wr) (fun _ a _ => x.e.K.len - (intOf a).toNat)
  case atStart => exact ⟨[], 0, rfl, Nat.zero_le _, ⟨rfl⟩, h0, KeepX.refl _ _⟩
  case round =>
    obtain ⟨pre, i, rfl, hi, hpre, hJp, hkp⟩ := hrel
    have HP := hid (And.intro hpre.out (And.intro hJp hkp))
    clear hpre hJp hkp
    by_cases hlt : i < x.e.K.len
    · obtain ⟨ba, oa, y, haK, hy0, c0, c1, c2, c3, c4, c5, c6, c7⟩ := lies_xp0 HK.out hlt
      rw [haK]
      replace c0 := HC.out wr HP.out.2.2 _ _ c0
      replace c1 := HC.out wr HP.out.2.2 _ _ c1
      replace c2 := HC.out wr HP.out.2.2 _ _ c2
      replace c3 := HC.out wr HP.out.2.2 _ _ c3
      replace c4 := HC.out wr HP.out.2.2 _ _ c4
      replace c5 := HC.out wr HP.out.2.2 _ _ c5
      replace c6 := HC.out wr HP.out.2.2 _ _ c6
      replace c7 := HC.out wr HP.out.2.2 _ _ c7
      have e1 : List.map (fun y : XpI w0 => y.e) (pre ++ [y]) = x.e.K.els.take (i + 1) := by rw [List.map_append, HP.out.1, take_snoc hy0]; rfl
      have hlp : V (pre ++ [y]) := HV.out _ (by rw [e1, HKI.out]; exact List.take_prefix _ _)
      have HE := hid e1
      clear e1
      have hBa : Below wr.heap.size wr (wr.alloc (.cells y.cells 29)) := (Below.refl _ wr).alloc (Nat.le_refl _) _
      have hJ1 : J pre (wr.alloc (.cells y.cells 29)) := HJ.out _ _ _ HP.out.2.1 (hBa.mono HP.out.2.2.1)
      have HQ := hid (And.intro hJ1 (KeepX.of_below (X := X) hBa))
      clear hJ1 hy0 hBa haK
      obtain ⟨fn, tmps, assign, body, hyy, hR⟩ := HY.out (n - 1) pre y _ HQ.out.1 hlp
      dsimp only [XpI.v, XpI.cells] at hyy
      have HR := hid hR
      clear hR
      gi_wp2_with fail
      refine ⟨fun h => (by cases h), HR.out.mono ?_⟩
      rintro e W3 (⟨rfl, hJ3, hk3⟩ | ⟨rfl, hJx3, _⟩)
      · gi_wp2_with fail
        go_roundw
        case rel => exact ⟨pre ++ [y], i + 1, by go_num, by omega, ⟨HE.out⟩, hJ3, HP.out.2.2.trans (HQ.out.2.trans hk3)⟩
        case measure => simp [intOf]; omega
      · gi_wp2_with fail
        refine bodyPost_ret (results_none rfl _ _ _) rfl ?_
        refine ⟨⟨_, rfl⟩, .inr ⟨pre ++ [y], ?_, hJx3⟩⟩
        rw [HE.out, HKI.out]
        exact List.take_prefix _ _
    · obtain rfl : i = x.e.K.len := by omega
      have hpA : List.map (fun y : XpI w0 => y.e) pre = x.e.K.els := by rw [HP.out.1, List.take_of_length_le (by rw [Ex.els_len]; exact Nat.le_refl _)]
      have HZ := hid (And.intro hpA HP.out.2.1)
      clear hpA HP
      gi_wp2_with fail
      go_end0
      exact ⟨⟨_, rfl⟩, .inl ⟨pre, by rw [HZ.out.1, HKI.out], HZ.out.2⟩⟩
set_option maxRecDepth 100000 in
set_option maxHeartbeats 4000000 in
theorem xvisit_in (w0 : World) (l b : Nat) (X : Nat → Prop) (hX : ∀ i, X i → w0.heap.size ≤ i ∧ i < b) (V : List (XpI w0) → Prop) (J Jx : List (XpI w0) → World → Prop) (hJ : Stab b J) (hJx : Stab b Jx)
    (hY : ∀ m pre y W1, J pre W1 → V (pre ++ [y]) → YieldAt Fence.wide m Tryz.prog l #[y.v] W1 fun e W' => (e = .returned (.bool true) ∧ J (pre ++ [y]) W' ∧ KeepX X W1 W') ∨ (e = .returned (.bool false) ∧ Jx (pre ++ [y]) W' ∧ KeepX (· < b) W1 W')) :
    ∀ (s : Nat) (x : XpI w0) (_ : x.e.bk ≤ s) (_ : x.e.bk ≤ 1099511627776) (n : Nat) (pre : List (XpI w0)) (W : World), KeepX (fun _ => False) w0 W → b ≤ W.heap.size → J pre W → (∀ ys : List (XpI w0), ys.map (·.e) <+: x.e.nodes → V (pre ++ ys)) →
      CallsIn Fence.wide n Tryz.prog 180 #[x.v, .func (.func 68) #[] #[], .func (.yield l) #[] #[]] W fun e W' =>
        (e = .returned (.bool true) ∧ (∃ ys : List (XpI w0), ys.map (·.e) = x.e.nodes ∧ J (pre ++ ys) W') ∧ KeepX X W W') ∨
        (e = .returned (.bool false) ∧ (∃ ys : List (XpI w0), ys.map (·.e) <+: x.e.nodes ∧ Jx (pre ++ ys) W') ∧ KeepX (· < b) W W') := by
  have HY := hid hY
  have HX := hid hX
  have HJ := hid (And.intro hJ hJx)
  clear hY hX hJ hJx
  intro s
  induction s with
  | zero => intro x hx; have := x.e.bk_eq; omega
  | succ s ih =>
    intro x hxs hbig n pre W hold hbW hJ0 hV
    have HI := hid ih
    have HV := hid hV
    have HO := hid hold
    clear ih hV hold
    have HT := hid (fun w => exprKids_any x w)
    obtain ⟨W4, hW4⟩ : ∃ W4, (((W.alloc (.cells x.cells 29)).alloc (.cells #[.func (.func 68) #[] #[]] 91)).alloc (.cells #[.func (.yield l) #[] #[]] 140)).alloc (.cells #[.bool false] 4) = W4 := ⟨_, rfl⟩
    have hB4 : Below W.heap.size W W4 := by
      rw [← hW4]; exact ((((Below.refl _ W).alloc (Nat.le_refl _) _).alloc (by simp) _).alloc (by simp; omega) _).alloc (by simp; omega) _
    have hs4 : W4.heap.size = W.heap.size + 4 := by rw [← hW4]; simp
    have b0 : W4.heap[W.heap.size]? = some (.cells x.cells 29 (0, 0)) := by
      rw [← hW4]; exact ((Below.heap_alloc _ _ _ (by simp; omega)).trans ((Below.heap_alloc _ _ _ (by simp; omega)).trans ((Below.heap_alloc _ _ _ (by simp)).trans (World.alloc_heap_new W _))))
    have b1 : Boxed W4 (W.heap.size + 1) 91 (.func (.func 68) #[] #[]) := by
      rw [← hW4]; have h := ((Boxed.new (W.alloc (.cells x.cells 29)) 91 (.func (.func 68) #[] #[])).alloc (.cells #[.func (.yield l) #[] #[]] 140)).alloc (.cells #[.bool false] 4)
      simpa only [World.size_alloc] using h
    have b2 : Boxed W4 (W.heap.size + 1 + 1) 140 (.func (.yield l) #[] #[]) := by
      rw [← hW4]; have h := (Boxed.new ((W.alloc (.cells x.cells 29)).alloc (.cells #[.func (.func 68) #[] #[]] 91)) 140 (.func (.yield l) #[] #[])).alloc (.cells #[.bool false] 4)
      simpa only [World.size_alloc] using h
    have b3 : Boxed W4 (W.heap.size + 1 + 1 + 1) 4 (.bool false) := by
      rw [← hW4]; have h := Boxed.new (((W.alloc (.cells x.cells 29)).alloc (.cells #[.func (.func 68) #[] #[]] 91)).alloc (.cells #[.func (.yield l) #[] #[]] 140)) 4 (.bool false)
      simpa only [World.size_alloc] using h
    have hJ4 : J pre W4 := HJ.out.1 _ _ _ hJ0 (hB4.mono hbW)
    have hv1 : V (pre ++ [x]) := HV.out [x] ⟨x.e.kids.flatMap Xp.nodes, by rw [Xp.nodes_kids]; rfl⟩
    obtain ⟨fn, tmps, assign, body, hyy, hR⟩ := HY.out (n - 1) pre x W4 hJ4 hv1
    have HR := hid hR
    have H4 := hid (And.intro hB4 (And.intro hs4 (And.intro hJ0 hJ4)))
    clear hR hB4 hs4 hJ4 hv1
    have nX : ∀ j, W.heap.size ≤ j → ¬ X j := fun j hj hx => by have := (HX.out j hx).2; omega
    have HN := hid nX
    clear nX
    have B0 := hid b0
    have B1 := hid b1
    have B2 := hid b2
    have B3 := hid b3
    clear b0 b1 b2 b3
    have HXX : Kpt (∃ z : XpI w0, z = x) := hid ⟨_, rfl⟩
    have hxv : x.v = .agg #[.int .i64 x.e.k, .string x.e.m, .string x.e.n, .string x.e.tx, .int .i64 x.e.num, .slice x.aT x.e.T.len x.cT, .slice x.aL x.e.L.length x.cL, .slice x.aK x.e.K.len x.cK] := rfl
    have hxc : x.cells = #[.int .i64 x.e.k, .string x.e.m, .string x.e.n, .string x.e.tx, .int .i64 x.e.num, .slice x.aT x.e.T.len x.cT, .slice x.aL x.e.L.length x.cL, .slice x.aK x.e.K.len x.cK] := rfl
    rw [hxv] at hyy ⊢
    rw [hxc] at hW4
    have HT' : Kpt (∀ w, Calls Tryz.prog 68 #[.agg #[.int .i64 x.e.k, .string x.e.m, .string x.e.n, .string x.e.tx, .int .i64 x.e.num, .slice x.aT x.e.T.len x.cT, .slice x.aL x.e.L.length x.cL, .slice x.aK x.e.K.len x.cK]] w
        fun e w' => e = .returned (.func (.func 178) #[] #[.pointer (some ⟨w.heap.size + 1, 0, none⟩)]) ∧ w' = (w.alloc (.cells x.cells 29)).alloc (.cells #[.slice x.aK x.e.K.len x.cK] 27)) := hid HT.out
    clear HT hxv
    refine callsIn_of_wp_marks Tryz.func180 rfl trivial ?_ rfl
    simp only [Tryz.ntmps180, List.size_toArray, List.length_cons, List.length_nil, Nat.reduceAdd, Nat.reduceSub, Array.replicate_succ, Array.replicate_zero, List.push_toArray, List.append_toArray, List.nil_append, List.cons_append]
    have c0 := cell_of_row W4 W.heap.size 0 _ _ _ B0.out
    have c1 := cell_of_row W4 W.heap.size 1 _ _ _ B0.out
    have c2 := cell_of_row W4 W.heap.size 2 _ _ _ B0.out
    have c3 := cell_of_row W4 W.heap.size 3 _ _ _ B0.out
    have c4 := cell_of_row W4 W.heap.size 4 _ _ _ B0.out
    have c45 := cell_of_row W4 W.heap.size 5 _ _ _ B0.out
    have c46 := cell_of_row W4 W.heap.size 6 _ _ _ B0.out
    have c47 := cell_of_row W4 W.heap.size 7 _ _ _ B0.out
    have c5 := B2.out.cell
    have c6 := B3.out.cell
    have c7 := B3.out.frozen
    simp only [hxc] at c0 c1 c2 c3 c4 c45 c46 c47
    gi_wp2_with fail
    clear hW4 c0 c1 c2 c3 c4 c45 c46 c47 c5 c6 c7
    refine ⟨fun h => (by cases h), HR.out.mono ?_⟩
    rintro e W5 (⟨rfl, hJ5, hk5⟩ | ⟨rfl, hJx5, hk5⟩)
    · have k5 := hid (And.intro hJ5 hk5)
      have c0 := hk5.cell (HN.out _ (Nat.le_refl _)) (cell_of_row W4 W.heap.size 0 _ _ _ B0.out)
      have c1 := hk5.cell (HN.out _ (Nat.le_refl _)) (cell_of_row W4 W.heap.size 1 _ _ _ B0.out)
      have c2 := hk5.cell (HN.out _ (Nat.le_refl _)) (cell_of_row W4 W.heap.size 2 _ _ _ B0.out)
      have c3 := hk5.cell (HN.out _ (Nat.le_refl _)) (cell_of_row W4 W.heap.size 3 _ _ _ B0.out)
      have c4 := hk5.cell (HN.out _ (Nat.le_refl _)) (cell_of_row W4 W.heap.size 4 _ _ _ B0.out)
      have c45 := hk5.cell (HN.out _ (Nat.le_refl _)) (cell_of_row W4 W.heap.size 5 _ _ _ B0.out)
      have c46 := hk5.cell (HN.out _ (Nat.le_refl _)) (cell_of_row W4 W.heap.size 6 _ _ _ B0.out)
      have c47 := hk5.cell (HN.out _ (Nat.le_refl _)) (cell_of_row W4 W.heap.size 7 _ _ _ B0.out)
      have c5 := hk5.cell (HN.out _ (Nat.le_add_right _ 1)) B1.out.cell
      simp only [hxc] at c0 c1 c2 c3 c4 c45 c46 c47
      clear hJ5 hk5 hyy hJ0
      gi_wp2_with fail
      refine ⟨trivial, fun h => (by cases h), callsIn_wide.2 ((HT'.out W5).mono ?_)⟩
      rintro e W6 ⟨rfl, hW6⟩
      gi_wp2_with fail
      rw [hxc] at hW6
      rw [← hW6]
      rw [← hxc] at hW6
      have hB6 : Below W5.heap.size W5 W6 := by rw [hW6]; exact ((Below.refl _ W5).alloc (Nat.le_refl _) _).alloc (by simp) _
      have hs6 : W6.heap.size = W5.heap.size + 2 := by rw [hW6]; simp
      have x6 : W6.heap[W5.heap.size + 1]? = some (.cells #[.slice x.aK x.e.K.len x.cK] 27 (0, 0)) := by rw [hW6]; have h := World.alloc_heap_new (W5.alloc (.cells x.cells 29)) (.cells #[.slice x.aK x.e.K.len x.cK] 27); simpa only [World.size_alloc] using h
      have hs5 := k5.out.2.1
      have hs4 := H4.out.2.1
      have n3 : ∀ j, W.heap.size ≤ j → j < W4.heap.size → W6.heap[j]? = W4.heap[j]? := fun j h1 h2 => (hB6.block j (by omega)).trans (k5.out.2.2 j h2 (HN.out j h1))
      have d0 := (n3 (W.heap.size) (Nat.le_refl _) (by omega)).trans B0.out
      have d1 : Boxed W6 _ _ _ := (n3 (W.heap.size + 1) (by omega) (by omega)).trans B1.out
      have d2 : Boxed W6 _ _ _ := (n3 (W.heap.size + 1 + 1) (by omega) (by omega)).trans B2.out
      have d3 : Boxed W6 _ _ _ := (n3 (W.heap.size + 1 + 1 + 1) (by omega) (by omega)).trans B3.out
      have old6 : KeepX (fun _ => False) w0 W6 := by
        exact ((HO.out.old (KeepX.of_below (X := X) H4.out.1) (fun i hi => (HX.out i hi).1)).old k5.out.2 (fun i hi => (HX.out i hi).1)).trans (KeepX.of_below hB6)
      have kW6 : KeepX X W W6 := (KeepX.of_below H4.out.1).trans (k5.out.2.trans (KeepX.of_below hB6))
      have hJ6 : J (pre ++ [x]) W6 := HJ.out.1 _ _ _ k5.out.1 (hB6.mono (by omega))
      have hlenK := Ex.len_bk x.e.K
      have hxsz := x.e.bk_eq
      have HQ := hid (And.intro hB6 (And.intro hs6 (And.intro x6 (And.intro hs5 (And.intro hs4 (And.intro d0 (And.intro d1 (And.intro d2 (And.intro d3 (And.intro old6 (And.intro kW6 hJ6)))))))))))
      clear hB6 hs6 x6 hs5 hs4 n3 d0 d1 d2 d3 old6 kW6 hJ6 c0 c1 c2 c3 c4 c45 c46 c47 c5 hW6
      have hs6 : W6.heap.size = W5.heap.size + 2 := HQ.out.2.1
      have hs46 : W.heap.size + 4 ≤ W5.heap.size := by have h1 := HQ.out.2.2.2.1; have h2 := HQ.out.2.2.2.2.1; omega
      refine range_box 7 29 XpI.cells (gf := 178) (lb := #[.pointer (some ⟨W5.heap.size + 1, 0, none⟩)]) rfl (enters_of Tryz.func178 (by kernel_rfl) rfl)
        (encs := fun y : XpI w0 => #[y.v]) (X := X) (S := fun ys => ys.map (·.e) = x.e.kids) (V := fun ys => ys.map (·.e) <+: x.e.kids) (w0 := W6) ?seq (fun i hi => by have := (HX.out i hi).2; omega) (Below.refl _ _) (fun _ => rfl)
        (fun pre' W' => (∃ ys : List (XpI w0), ys.map (·.e) = x.e :: (pre'.map (·.e)).flatMap Xp.nodes ∧ J (pre ++ ys) W') ∧ KeepX X W6 W')
        (fun c pre' W' => c = .ret ∧ (∃ ys : List (XpI w0), ys.map (·.e) <+: x.e.nodes ∧ Jx (pre ++ ys) W') ∧ W'.heap[W.heap.size + 1 + 1 + 1]? = some (.cells #[.bool false] 4 (0, 0)) ∧ KeepX (· < b) W W')
        ?hI ?hIx ⟨⟨[x], rfl, HQ.out.2.2.2.2.2.2.2.2.2.2.2⟩, KeepX.refl _ _⟩ ?assign ?body ?done ?stop
      case seq =>
        intro m l' J' Jx' W' hb hJ' hJx' hY' h0'
        exact kids1_in w0 x (by omega) (W5.heap.size + 1) X (fun i hi => by have := HX.out i hi; exact ⟨this.1, by omega⟩) _ (fun _ h => h) l' m J' Jx' W' ((hb.block _ (by omega)).trans HQ.out.2.2.1) (HQ.out.2.2.2.2.2.2.2.2.2.1.trans (KeepX.of_below hb)) hJ' hY' h0'
      case hI =>
        intro s' A B' hs hb
        obtain ⟨⟨ys, h1, h2⟩, h3⟩ := hs
        exact ⟨⟨ys, h1, HJ.out.1 _ _ _ h2 (hb.mono (by omega))⟩, keep_stab (Nat.le_refl _) h3 hb⟩
      case hIx =>
        intro c s' A B' hs hb
        obtain ⟨h0, ⟨ys, h1, h2⟩, h3, h4⟩ := hs
        exact ⟨h0, ⟨ys, h1, HJ.out.2 _ _ _ h2 (hb.mono (by omega))⟩, (hb.block _ (by omega)).trans h3, keep_stab (by omega) h4 hb⟩
      case assign =>
        intro m l' y W'
        dsimp only [XpI.v, XpI.cells]
        gi_wp2_with fail
        exact ⟨trivial, by simp⟩
      case body =>
        rintro m l' Bx pre' y W7 hl hlB hwB hBW hbx ⟨r, hr⟩ ⟨⟨ys, hys, hJ7⟩, hk7⟩ hv
        rw [List.map_append] at hv
        have hyx : y.e.bk < x.e.bk := Xp.kid_bk (hv.subset (by simp))
        have hVy : ∀ zs : List (XpI w0), zs.map (·.e) <+: y.e.nodes → V ((pre ++ ys) ++ zs) := fun zs hz => by
          rw [List.append_assoc]
          exact HV.out _ (by rw [List.map_append, hys]; exact xnodes_prefix hv hz)
        have hIy := HI.out y (by omega) (by omega) (m - 1) (pre ++ ys) W7 (HQ.out.2.2.2.2.2.2.2.2.2.1.old hk7 (fun i hi => (HX.out i hi).1)) (by have := hk7.1; omega) hJ7 hVy
        have e0 := cell_of_row W7 Bx 0 _ _ _ hbx
        have e1 := cell_of_row W7 Bx 1 _ _ _ hbx
        have e2 := cell_of_row W7 Bx 2 _ _ _ hbx
        have e3 := cell_of_row W7 Bx 3 _ _ _ hbx
        have e4 := cell_of_row W7 Bx 4 _ _ _ hbx
        have e45 := cell_of_row W7 Bx 5 _ _ _ hbx
        have e46 := cell_of_row W7 Bx 6 _ _ _ hbx
        have e47 := cell_of_row W7 Bx 7 _ _ _ hbx
        have e5 := hk7.cell (HN.out _ (by show W.heap.size ≤ W.heap.size + 1; omega)) HQ.out.2.2.2.2.2.2.1.cell
        have e6 := hk7.cell (HN.out _ (by show W.heap.size ≤ W.heap.size + 1 + 1; omega)) HQ.out.2.2.2.2.2.2.2.1.cell
        have f3 : W7.heap[W.heap.size + 1 + 1 + 1]? = some (.cells #[.bool false] 4 (0, 0)) := (hk7.2 _ (by omega) (HN.out _ (by omega))).trans HQ.out.2.2.2.2.2.2.2.2.1
        have HZ := hid (And.intro hys (And.intro hk7 (And.intro hv (And.intro f3 hIy))))
        clear hys hJ7 hk7 hv f3 hIy hVy hbx
        dsimp only [XpI.v, XpI.cells] at e0 e1 e2 e3 e4 e45 e46 e47 ⊢
        gi_wp2_with fail
        refine ⟨trivial, fun h => (by cases h), CallsIn.inRound l' (HZ.out.2.2.2.2.mono ?_)⟩
        rintro e W8 (⟨rfl, ⟨zs, hzs, hJ8⟩, hk8⟩ | ⟨rfl, ⟨zs, hzs, hJx8⟩, hk8⟩)
        · gi_wp2_with fail
          exact ⟨hk8, ⟨ys ++ zs, by rw [List.map_append, HZ.out.1, hzs, xnodes_snoc, List.map_append]; rfl, by rw [← List.append_assoc]; exact hJ8⟩, HZ.out.2.1.trans hk8⟩
        · have hlt8 : W.heap.size + 1 + 1 + 1 < W7.heap.size := by omega
          have f8 : Boxed W8 (W.heap.size + 1 + 1 + 1) 4 (.bool false) := (hk8.2 _ hlt8 (by omega)).trans HZ.out.2.2.2.1
          have g0 := f8.cell
          have g1 := f8.frozen
          have HG := hid (And.intro hzs (And.intro hJx8 (And.intro hk8 f8)))
          clear hzs hJx8 hk8 f8
          gi_wp2_with fail
          have hB8 : Below (W.heap.size + 1 + 1 + 1) W8 (W8.setCell ⟨W.heap.size + 1 + 1 + 1, 0, none⟩ (.bool false)) := below_set W8 _ (Nat.le_refl _)
          have hs8 : Boxed (W8.setCell ⟨W.heap.size + 1 + 1 + 1, 0, none⟩ (.bool false)) (W.heap.size + 1 + 1 + 1) 4 (.bool false) := HG.out.2.2.2.set _
          have hks := KeepX.set W8 (W.heap.size + 1 + 1 + 1) (.bool false)
          generalize W8.setCell ⟨W.heap.size + 1 + 1 + 1, 0, none⟩ (.bool false) = W9 at hB8 hs8 hks ⊢
          have hk6 := HG.out.2.2.1
          have hk66 := HQ.out.2.2.2.2.2.2.2.2.2.2.1.trans HZ.out.2.1
          refine ⟨⟨Nat.le_trans hk6.1 hks.1, fun i hi hx => ?_⟩, rfl, ⟨ys ++ zs, by rw [List.map_append, HZ.out.1]; exact xnodes_prefix HZ.out.2.2.1 HG.out.1, by rw [← List.append_assoc]; exact HJ.out.2 _ _ _ HG.out.2.1 (hB8.mono (by omega))⟩, hs8, ⟨Nat.le_trans hk66.1 (Nat.le_trans hk6.1 hks.1), fun i hi hx => ?_⟩⟩
          · have hx' : ¬ i < W6.heap.size := hx
            rw [hks.2 i (Nat.lt_of_lt_of_le hi hk6.1) (by omega), hk6.2 i hi (by omega)]
          · have hx' : ¬ i < b := hx
            have h1 := hk66.1
            rw [hks.2 i (Nat.lt_of_lt_of_le (Nat.lt_of_lt_of_le hi h1) hk6.1) (by omega), hk6.2 i (by omega) hx, hk66.2 i hi (fun hX => by have := (HX.out i hX).2; omega)]
      case done =>
        rintro D xs W9 hD hS ⟨⟨ys, hys, hJ9⟩, hk9⟩ hK
        have f9 : Boxed W9 (W.heap.size + 1 + 1 + 1) 4 (.bool false) := (hk9.2 _ (by omega) (HN.out _ (by omega))).trans HQ.out.2.2.2.2.2.2.2.2.1
        have g0 := f9.cell
        have g1 := f9.frozen
        have hDb : D ≠ W.heap.size + 1 + 1 + 1 := by omega
        have HG := hid (And.intro hS (And.intro hys (And.intro hJ9 (And.intro hk9 (And.intro f9 hK)))))
        clear hS hys hJ9 hk9 f9 hK
        gi_wp2_with fail
        have hK1 : (W9.setCell ⟨W.heap.size + 1 + 1 + 1, 0, none⟩ (.bool true)).heap[D]? = some (.deferred (some [])) := ((KeepX.set W9 _ _).2 D (Array.getElem?_eq_some_iff.1 HG.out.2.2.2.2.2).1 hDb).trans HG.out.2.2.2.2.2
        have hf : Boxed (W9.setCell ⟨W.heap.size + 1 + 1 + 1, 0, none⟩ (.bool true)) (W.heap.size + 1 + 1 + 1) 4 (.bool true) := HG.out.2.2.2.2.1.set _
        have hB9 : Below (W.heap.size + 1 + 1 + 1) W9 ((W9.setCell ⟨W.heap.size + 1 + 1 + 1, 0, none⟩ (.bool true)).putObj D (.deferred none)) := (below_set W9 _ (Nat.le_refl _)).trans (below_put (by omega) hK1)
        refine ⟨by simp, .inl ⟨_, _, rfl, run_takeDeferred hK1, ?_⟩⟩
        have m0 : ((W9.setCell ⟨W.heap.size + 1 + 1 + 1, 0, none⟩ (.bool true)).putObj D (.deferred none)).cell? ⟨W.heap.size + 1 + 1 + 1, 0, none⟩ = some (.bool true) := Boxed.cell (t := 4) ((World.putObj_heap_other (fun e => hDb e.symm)).trans hf)
        generalize (W9.setCell ⟨W.heap.size + 1 + 1 + 1, 0, none⟩ (.bool true)).putObj D (.deferred none) = W10 at m0 hB9 ⊢
        refine ⟨.bool true, by simp [results, Tryz.results180, go_sem, m0], .inl ⟨rfl, ⟨ys, by rw [HG.out.2.1, HG.out.1, ← Xp.nodes_kids], HJ.out.1 _ _ _ HG.out.2.2.1 (hB9.mono (by omega))⟩, ?_⟩⟩
        have hk := HQ.out.2.2.2.2.2.2.2.2.2.2.1.trans HG.out.2.2.2.1
        exact ⟨Nat.le_trans hk.1 hB9.size, fun i hi hx => (hB9.block i (by omega)).trans (hk.2 i hi hx)⟩
      case stop =>
        rintro D c pre' W9 hD hv ⟨rfl, ⟨ys, hys, hJ9⟩, f9, hk9⟩ hK
        have g0 := Boxed.cell f9
        have HG := hid (And.intro hys (And.intro hJ9 (And.intro hk9 hK)))
        have hDb : D ≠ W.heap.size + 1 + 1 + 1 := by omega
        have hB9 : Below (W.heap.size + 1 + 1 + 1) W9 (W9.putObj D (.deferred none)) := below_put (by omega) hK
        have m0 : (W9.putObj D (.deferred none)).cell? ⟨W.heap.size + 1 + 1 + 1, 0, none⟩ = some (.bool false) := Boxed.cell (t := 4) ((World.putObj_heap_other (fun e => hDb e.symm)).trans f9)
        clear hys hJ9 hk9 hK f9
        gi_wp2_with fail
        refine ⟨by simp, .inl ⟨_, _, rfl, run_takeDeferred HG.out.2.2.2, ?_⟩⟩
        generalize W9.putObj D (.deferred none) = W10 at m0 hB9 ⊢
        refine ⟨.bool false, by simp [results, Tryz.results180, go_sem, m0], .inr ⟨rfl, ⟨ys, HG.out.1, HJ.out.2 _ _ _ HG.out.2.1 (hB9.mono (by omega))⟩, ?_⟩⟩
        exact ⟨Nat.le_trans HG.out.2.2.1.1 hB9.size, fun i hi hx => (hB9.block i (by omega)).trans (HG.out.2.2.1.2 i hi hx)⟩
    · have f5 : Boxed W5 (W.heap.size + 1 + 1 + 1) 4 (.bool false) := (hk5.2 _ (by have := H4.out.2.1; omega) (by omega)).trans B3.out
      have g0 := f5.cell
      have g1 := f5.frozen
      have HG := hid (And.intro hJx5 (And.intro hk5 f5))
      clear hJx5 hk5 f5 hyy hJ0
      gi_wp2_with fail
      have hB5 : Below (W.heap.size + 1 + 1 + 1) W5 (W5.setCell ⟨W.heap.size + 1 + 1 + 1, 0, none⟩ (.bool false)) := below_set W5 _ (Nat.le_refl _)
      have m0 := (HG.out.2.2.set (.bool false)).cell
      generalize W5.setCell ⟨W.heap.size + 1 + 1 + 1, 0, none⟩ (.bool false) = W9 at hB5 m0 ⊢
      refine ⟨.bool false, by simp [results, Tryz.results180, go_sem, m0], .inr ⟨rfl, ⟨[x], ⟨x.e.kids.flatMap Xp.nodes, by rw [Xp.nodes_kids]; rfl⟩, HJ.out.2 _ _ _ HG.out.1 (hB5.mono (by omega))⟩, ?_⟩⟩
      have hk5 := HG.out.2.1
      have h4 := H4.out.1
      have h44 := H4.out.2.1
      exact ⟨Nat.le_trans h4.size (Nat.le_trans hk5.1 hB5.size), fun i hi hx => by rw [hB5.block i (by omega), hk5.2 i (by omega) hx, h4.block i hi]⟩

set_option maxHeartbeats 1000000 in
/-- The iterator over the nodes. -/
theorem xnodes_seq (w0 : World) (x : XpI w0) (hbig : x.e.bk ≤ 1099511627776) (B1 B2 : Nat) (w : World) (h1 : w.heap[B1]? = some (.cells x.cells 29 (0, 0)))
    (h2 : Boxed w B2 91 (.func (.func 68) #[] #[])) (hold : KeepX (fun _ => False) w0 w) (X : Nat → Prop) (hX : ∀ i, X i → w0.heap.size ≤ i ∧ i < w.heap.size) :
    SeqB Tryz.prog 179 #[.pointer (some ⟨B1, 0, none⟩), .pointer (some ⟨B2, 0, none⟩)] (fun y : XpI w0 => #[y.v]) X (fun ys => ys.map (·.e) = x.e.nodes) (fun ys => ys.map (·.e) <+: x.e.nodes) w := by
  intro n l J Jx W hb hJ hJx hY h0
  have hB1 : B1 < w.heap.size := (Array.getElem?_eq_some_iff.1 h1).1
  have hB2 : B2 < w.heap.size := h2.lt
  have hs := hb.size
  have HC := hid (xvisit_in w0 l W.heap.size X (fun i hi => ⟨(hX i hi).1, Nat.lt_of_lt_of_le (hX i hi).2 hs⟩) (fun ys => ys.map (·.e) <+: x.e.nodes) J Jx hJ hJx hY _ x (Nat.le_refl _) hbig (n - 1) [] W (hold.trans (KeepX.of_below hb)) (Nat.le_refl _) h0 (fun _ h => h))
  have k1 := (hb.block B1 hB1).trans h1
  have k2 : Boxed W _ _ _ := (hb.block B2 hB2).trans h2
  have hxc : x.cells = #[.int .i64 x.e.k, .string x.e.m, .string x.e.n, .string x.e.tx, .int .i64 x.e.num, .slice x.aT x.e.T.len x.cT, .slice x.aL x.e.L.length x.cL, .slice x.aK x.e.K.len x.cK] := rfl
  rw [hxc] at k1
  have c0 := cell_of_row W B1 0 _ _ _ k1
  have c1 := cell_of_row W B1 1 _ _ _ k1
  have c2 := cell_of_row W B1 2 _ _ _ k1
  have c3 := cell_of_row W B1 3 _ _ _ k1
  have c4 := cell_of_row W B1 4 _ _ _ k1
  have c45 := cell_of_row W B1 5 _ _ _ k1
  have c46 := cell_of_row W B1 6 _ _ _ k1
  have c47 := cell_of_row W B1 7 _ _ _ k1
  have c5 := k2.cell
  clear h1 h2 hold hX hb hJ hJx hY h0 hB1 hB2 hs k1 k2 hxc
  refine callsIn_of_wp Tryz.func179 rfl trivial ?_ rfl
  simp only [Tryz.ntmps179, List.size_toArray, List.length_cons, List.length_nil, Nat.reduceAdd, Nat.reduceSub, Array.replicate_succ, Array.replicate_zero, List.push_toArray, List.append_toArray, List.nil_append, List.cons_append]
  gi_wp2_with fail
  refine ⟨trivial, fun h => (by cases h), HC.out.mono ?_⟩
  rintro e W3 (⟨rfl, ⟨ys, hys, hJ3⟩, _⟩ | ⟨rfl, ⟨ys, hys, hJ3⟩, _⟩)
  · gi_wp2_with fail
    go_end0
    exact ⟨⟨_, rfl⟩, .inl ⟨ys, hys, by simpa using hJ3⟩⟩
  · gi_wp2_with fail
    go_end0
    exact ⟨⟨_, rfl⟩, .inr ⟨ys, hys, by simpa using hJ3⟩⟩

end Go.Proofs.YtnkhebgjhipepaaGreatDoor
