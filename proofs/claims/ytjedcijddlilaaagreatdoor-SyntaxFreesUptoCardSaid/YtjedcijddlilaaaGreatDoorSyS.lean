/- syntax: trees in memory of the call's own; what find finds. | syntax: the functions that find what stands for a variable. | syntax: what Substitute looks up. -/
import Derived.Test.YtjedcijddlilaaaGreatDoorSyI
import Derived.Deep.AppendLies
namespace Go.Proofs.YtjedcijddlilaaaGreatDoor
open Go.RowKit Go.Shelf

/-- As Lies, and the blocks of the rows within satisfy P. -/
def LiesP (w : World) (P : Nat → Prop) : Tr → Bool → Nat → Nat → Prop
  | .nil, _, _, _ => True
  | .node fn op k m n A F nx, fl, b, o =>
    (fl = true → w.cell? ⟨b, o, none⟩ = some (.string fn) ∧ w.cell? ⟨b, o + 6, none⟩ = some (.bool op)) ∧
    (w.cell? ⟨b, o + fl.toNat, none⟩ = some (.int .i64 k) ∧ (Lit.int .i64 k).wf = true) ∧ w.cell? ⟨b, o + fl.toNat + 1, none⟩ = some (.string m) ∧ w.cell? ⟨b, o + fl.toNat + 2, none⟩ = some (.string n) ∧
    (∃ a c, w.cell? ⟨b, o + fl.toNat + 3, none⟩ = some (.slice a A.len c) ∧ (A = .nil ∨ ∃ b' o', a = some ⟨b', o', none⟩ ∧ P b' ∧ LiesP w P A false b' o')) ∧
    (∃ a c, w.cell? ⟨b, o + fl.toNat + 4, none⟩ = some (.slice a F.len c) ∧ (F = .nil ∨ ∃ b' o', a = some ⟨b', o', none⟩ ∧ P b' ∧ LiesP w P F true b' o')) ∧
    LiesP w P nx fl b (o + (5 + 2 * fl.toNat))
theorem LiesP.lies {w : World} {P : Nat → Prop} : ∀ {T : Tr} {fl : Bool} {b o : Nat}, LiesP w P T fl b o → Lies w T fl b o := by
  intro T
  induction T with
  | nil => intro _ _ _ _; trivial
  | node fn op k m n A F nx ha hf hn =>
    intro fl b o h
    obtain ⟨h0, h1, h2, h3, ⟨a, c, h4, h5⟩, ⟨a', c', h6, h7⟩, h8⟩ := h
    refine ⟨h0, h1, h2, h3, ⟨a, c, h4, ?_⟩, ⟨a', c', h6, ?_⟩, hn h8⟩
    · rcases h5 with h | ⟨b', o', h, _, h'⟩
      · exact .inl h
      · exact .inr ⟨b', o', h, ha h'⟩
    · rcases h7 with h | ⟨b', o', h, _, h'⟩
      · exact .inl h
      · exact .inr ⟨b', o', h, hf h'⟩
theorem LiesP.keep {A B : World} {X P Q : Nat → Prop} (hk : KeepX X A B) (hP : ∀ i, P i → ¬ X i ∧ Q i) : ∀ {T : Tr} {fl : Bool} {b o : Nat}, ¬ X b → LiesP A P T fl b o → LiesP B Q T fl b o := by
  intro T
  induction T with
  | nil => intro _ _ _ _ _; trivial
  | node fn op k m n T F nx ha hf hn =>
    intro fl b o hb h
    obtain ⟨h0, ⟨h1, h1w⟩, h2, h3, ⟨a, c, h4, h5⟩, ⟨a', c', h6, h7⟩, h8⟩ := h
    refine ⟨fun e => ?_, ⟨hk.cell hb h1, h1w⟩, hk.cell hb h2, hk.cell hb h3, ⟨a, c, hk.cell hb h4, ?_⟩, ⟨a', c', hk.cell hb h6, ?_⟩, hn hb h8⟩
    · obtain ⟨g0, g1⟩ := h0 e
      exact ⟨hk.cell hb g0, hk.cell hb g1⟩
    · rcases h5 with h | ⟨b', o', h, hp, h'⟩
      · exact .inl h
      · exact .inr ⟨b', o', h, (hP _ hp).2, ha (hP _ hp).1 h'⟩
    · rcases h7 with h | ⟨b', o', h, hp, h'⟩
      · exact .inl h
      · exact .inr ⟨b', o', h, (hP _ hp).2, hf (hP _ hp).1 h'⟩
/-- A type's cells, without a world. -/
structure TyC where
  t : Ty
  aa : Option Addr
  ca : Nat
  af : Option Addr
  cf : Nat
def TyC.cells (x : TyC) : List Value := [.int .i64 x.t.k, .string x.t.m, .string x.t.n, .slice x.aa x.t.A.len x.ca, .slice x.af x.t.F.len x.cf]
def TyC.v (x : TyC) : Value := .agg x.cells.toArray
def TyC.Ok (w : World) (P : Nat → Prop) (x : TyC) : Prop := (Lit.int .i64 x.t.k).wf = true ∧ (x.t.A = .nil ∨ ∃ b o, x.aa = some ⟨b, o, none⟩ ∧ P b ∧ LiesP w P x.t.A false b o) ∧ (x.t.F = .nil ∨ ∃ b o, x.af = some ⟨b, o, none⟩ ∧ P b ∧ LiesP w P x.t.F true b o)
theorem TyC.Ok.keep {A B : World} {X P Q : Nat → Prop} {x : TyC} (h : x.Ok A P) (hk : KeepX X A B) (hP : ∀ i, P i → ¬ X i ∧ Q i) : x.Ok B Q := by
  obtain ⟨h1, h2, h3⟩ := h
  refine ⟨h1, ?_, ?_⟩
  · rcases h2 with h | ⟨b, o, h, hp, h'⟩
    · exact .inl h
    · exact .inr ⟨b, o, h, (hP _ hp).2, h'.keep hk hP (hP _ hp).1⟩
  · rcases h3 with h | ⟨b, o, h, hp, h'⟩
    · exact .inl h
    · exact .inr ⟨b, o, h, (hP _ hp).2, h'.keep hk hP (hP _ hp).1⟩
theorem TyC.Ok.tyV {w : World} {P : Nat → Prop} {x : TyC} (h : x.Ok w P) : TyV w x.v x.t := by
  obtain ⟨h1, h2, h3⟩ := h
  refine ⟨_, _, rfl, h1, ⟨_, _, rfl, ?_⟩, ⟨_, _, rfl, ?_⟩⟩
  · rcases h2 with h | ⟨b, o, h, _, h'⟩
    · exact .inl h
    · exact .inr ⟨b, o, h, h'.lies⟩
  · rcases h3 with h | ⟨b, o, h, _, h'⟩
    · exact .inl h
    · exact .inr ⟨b, o, h, h'.lies⟩
theorem Tr.els_sub (f : ByteArray → Option Ty) (T : Tr) : (T.sub f).els = T.els.map (Ty.sub f) := by
  induction T with
  | nil => rfl
  | node fn op k m n A F nx ha hf hn =>
    unfold Tr.sub
    split
    · rename_i u hu
      simp only [Tr.els, List.map_cons, hn, Ty.sub]
      rw [hu]
    · rename_i hu
      simp only [Tr.els, List.map_cons, hn, Ty.sub]
      rw [hu]
/-- The names and flags of a row of fields. -/
def Tr.fds : Tr → List (ByteArray × Bool)
  | .nil => []
  | .node fn op _ _ _ _ _ nx => (fn, op) :: nx.fds
theorem Tr.fds_sub (f : ByteArray → Option Ty) (T : Tr) : (T.sub f).fds = T.fds := by
  induction T with
  | nil => rfl
  | node fn op k m n A F nx ha hf hn =>
    unfold Tr.sub
    split <;> simp only [Tr.fds, hn]
theorem Tr.fds_len (T : Tr) : T.fds.length = T.len := by
  induction T with
  | nil => rfl
  | node fn op k m n A F nx ha hf hn => simp only [Tr.fds, Tr.len, List.length_cons, hn]
/-- A row of types, out of its cells. -/
theorem liesP_types {w : World} {P : Nat → Prop} {b : Nat} : ∀ (T : Tr) (rs : List TyC) (o : Nat), rs.map (·.t) = T.els → (∀ r ∈ rs, r.Ok w P) →
    (∀ j r, rs[j]? = some r → ∀ i u, r.cells[i]? = some u → w.cell? ⟨b, o + j * 5 + i, none⟩ = some u) → LiesP w P T false b o := by
  intro T
  induction T with
  | nil => intro _ _ _ _ _; trivial
  | node fn op k m n A F nx ha hf hn =>
    intro rs o hm hok hc
    cases rs with
    | nil => cases hm
    | cons r rs =>
      simp only [List.map_cons, Tr.els, List.cons.injEq] at hm
      obtain ⟨hr, hm⟩ := hm
      have h := hc 0 r rfl
      obtain ⟨k1, k2, k3⟩ := hok r (by simp)
      have c0 := h 0 _ rfl
      have c1 := h 1 _ rfl
      have c2 := h 2 _ rfl
      have c3 := h 3 _ rfl
      have c4 := h 4 _ rfl
      simp only [hr, Nat.zero_mul, Nat.add_zero] at c0 c1 c2 c3 c4 k1 k2 k3
      refine ⟨(fun e => by cases e), ⟨c0, k1⟩, c1, c2, ⟨_, _, c3, k2⟩, ⟨_, _, c4, k3⟩, hn rs (o + 5) hm (fun r' hr' => hok r' (by simp [hr'])) ?_⟩
      intro j r' hj i u hu
      have h9 := hc (j + 1) r' (by simpa using hj) i u hu
      have e : o + (j + 1) * 5 + i = o + 5 + j * 5 + i := by omega
      rw [e] at h9; exact h9
/-- A field's cells. -/
def fdCells (p : ByteArray × Bool) (x : TyC) : List Value := [.string p.1, .int .i64 x.t.k, .string x.t.m, .string x.t.n, .slice x.aa x.t.A.len x.ca, .slice x.af x.t.F.len x.cf, .bool p.2]
theorem liesP_fields {w : World} {P : Nat → Prop} {b : Nat} : ∀ (T : Tr) (rs : List TyC) (o : Nat), rs.map (·.t) = T.els → (∀ r ∈ rs, r.Ok w P) →
    (∀ j r p, rs[j]? = some r → T.fds[j]? = some p → ∀ i u, (fdCells p r)[i]? = some u → w.cell? ⟨b, o + j * 7 + i, none⟩ = some u) → LiesP w P T true b o := by
  intro T
  induction T with
  | nil => intro _ _ _ _ _; trivial
  | node fn op k m n A F nx ha hf hn =>
    intro rs o hm hok hc
    cases rs with
    | nil => cases hm
    | cons r rs =>
      simp only [List.map_cons, Tr.els, List.cons.injEq] at hm
      obtain ⟨hr, hm⟩ := hm
      have h := hc 0 r (fn, op) rfl rfl
      obtain ⟨k1, k2, k3⟩ := hok r (by simp)
      have c0 := h 0 _ rfl
      have c1 := h 1 _ rfl
      have c2 := h 2 _ rfl
      have c3 := h 3 _ rfl
      have c4 := h 4 _ rfl
      have c5 := h 5 _ rfl
      have c6 := h 6 _ rfl
      simp only [hr, Nat.zero_mul, Nat.add_zero] at c0 c1 c2 c3 c4 c5 c6 k1 k2 k3
      refine ⟨fun _ => ⟨c0, c6⟩, ⟨c1, k1⟩, c2, c3, ⟨_, _, c4, k2⟩, ⟨_, _, c5, k3⟩, hn rs (o + 7) hm (fun r' hr' => hok r' (by simp [hr'])) ?_⟩
      intro j r' p hj hp i u hu
      have h9 := hc (j + 1) r' p (by simpa using hj) (by simpa [Tr.fds] using hp) i u hu
      have e : o + (j + 1) * 7 + i = o + 7 + j * 7 + i := by omega
      rw [e] at h9; exact h9
theorem flat_at {α : Type} (c : α → List Value) (s : Nat) (hs : ∀ x, (c x).length = s) : ∀ (l : List α) (j i : Nat) (x : α) (u : Value), l[j]? = some x → (c x)[i]? = some u → (l.flatMap c)[j * s + i]? = some u := by
  intro l
  induction l with
  | nil => intro j i x u h; cases h
  | cons y l ih =>
    intro j i x u h hu
    have hi : i < s := by rw [← hs x]; exact (List.getElem?_eq_some_iff.1 hu).1
    cases j with
    | zero =>
      simp only [List.getElem?_cons_zero, Option.some.injEq] at h
      subst h
      rw [List.flatMap_cons, List.getElem?_append_left (by rw [hs]; omega)]
      simpa using hu
    | succ j =>
      simp only [List.getElem?_cons_succ] at h
      rw [List.flatMap_cons, List.getElem?_append_right (by rw [hs, Nat.add_mul]; omega), hs]
      have e : (j + 1) * s + i - s = j * s + i := by rw [Nat.add_mul]; omega
      rw [e]; exact ih j i x u h hu
end Go.Proofs.YtjedcijddlilaaaGreatDoor

namespace Go.Proofs.YtjedcijddlilaaaGreatDoor
open Go.RowKit Go.Shelf

/-- The zero type. -/
def zeroTy : Value := .agg #[.int .i64 0, .string ⟨#[]⟩, .string ⟨#[]⟩, .slice none 0 0, .slice none 0 0]
/-- A function value that finds. -/
def FindAt (w0 : World) (g : Nat) (lb : Array Value) (f : ByteArray → Option Ty) : Prop :=
  ∀ s W, Below w0.heap.size w0 W → Calls Tryz.prog g (#[.string s] ++ lb) W fun e W' => Below W.heap.size W W' ∧
    ((f s = none ∧ e = .returned (.tuple #[zeroTy, .bool false])) ∨ ∃ y : TyI w0, f s = some y.t ∧ e = .returned (.tuple #[y.v, .bool true]))
set_option maxHeartbeats 1000000 in
theorem nothing_find (w0 : World) : FindAt w0 113 #[] (fun _ => none) := by
  intro s W hW
  clear hW
  show Calls Tryz.prog 113 #[.string s] W _
  go_enter Tryz.func113, Tryz.ntmps113
  go_wp2_with fail
  have hb := World.alloc_heap_new W (.cells #[.int .i64 0, .string ⟨#[]⟩, .string ⟨#[]⟩, .slice none 0 0, .slice none 0 0] 25)
  have hB : Below W.heap.size W (W.alloc (.cells #[.int .i64 0, .string ⟨#[]⟩, .string ⟨#[]⟩, .slice none 0 0, .slice none 0 0] 25)) := (Below.refl _ W).alloc (Nat.le_refl _) _
  generalize W.alloc (.cells #[.int .i64 0, .string ⟨#[]⟩, .string ⟨#[]⟩, .slice none 0 0, .slice none 0 0] 25) = W1 at hb hB ⊢
  have c0 := cell_of_row W1 _ 0 _ _ _ hb
  have c1 := cell_of_row W1 _ 1 _ _ _ hb
  have c2 := cell_of_row W1 _ 2 _ _ _ hb
  have c3 := cell_of_row W1 _ 3 _ _ _ hb
  have c4 := cell_of_row W1 _ 4 _ _ _ hb
  refine ⟨rfl, .tuple #[zeroTy, .bool false], by simp [results, Tryz.results113, go_sem, c0, c1, c2, c3, c4, zeroTy], hB, .inl ⟨trivial, rfl⟩⟩

/-- A row of strings. -/
def RowS (w : World) (ns : List ByteArray) (a : Option Addr) : Prop := ns = [] ∨ ∃ b o, a = some ⟨b, o, none⟩ ∧ ∀ (i : Nat) (s : ByteArray), ns[i]? = some s → w.cell? ⟨b, o + i, none⟩ = some (.string s)
def idxN : List ByteArray → ByteArray → Nat
  | [], _ => 0
  | x :: l, s => if s = x then 0 else idxN l s + 1
theorem idx_at {s t : ByteArray} : ∀ {ns : List ByteArray} {i : Nat}, (∀ (j : Nat) (u : ByteArray), j < i → ns[j]? = some u → ¬ s = u) → ns[i]? = some t → s = t → idxN ns s = i := by
  intro ns
  induction ns with
  | nil => intro i _ ht; cases ht
  | cons x ns ih =>
    intro i h ht he
    cases i with
    | zero =>
      simp only [List.getElem?_cons_zero, Option.some.injEq] at ht
      rw [idxN, if_pos (he.trans ht.symm)]
    | succ i =>
      rw [idxN, if_neg (h 0 x (by omega) rfl), ih (i := i) (fun j u hj hu => h (j + 1) u (by omega) (by simpa using hu)) (by simpa using ht) he]
theorem idx_none {s : ByteArray} : ∀ {ns : List ByteArray}, (∀ (j : Nat) (u : ByteArray), j < ns.length → ns[j]? = some u → ¬ s = u) → idxN ns s = ns.length := by
  intro ns
  induction ns with
  | nil => intro _; rfl
  | cons x ns ih =>
    intro h
    rw [idxN, if_neg (h 0 x (by simp) rfl), ih (fun j u hj hu => h (j + 1) u (by simp; omega) (by simpa using hu))]
    rfl
def idxI (ns : List ByteArray) (s : ByteArray) : Int := if idxN ns s < ns.length then (idxN ns s : Int) else -1
set_option maxRecDepth 100000 in
set_option maxHeartbeats 2000000 in
theorem index_any (w0 : World) (ns : List ByteArray) (a : Option Addr) (c : Nat) (s : ByteArray) (W : World) (hr : RowS w0 ns a) (hW : Below w0.heap.size w0 W) (hl : ns.length ≤ 1099511627776) :
    Calls Tryz.prog 64 #[.slice a ns.length c, .string s] W fun e W' => e = .returned (.int .i64 (idxI ns s)) ∧ W' = W := by
  have HR := hid (And.intro hr hW)
  clear hr hW
  obtain ⟨L, hL⟩ : ∃ L, ns.length = L := ⟨_, rfl⟩
  have HL := hid hL
  rw [hL] at hl ⊢
  clear hL
  go_enter Tryz.func64, Tryz.ntmps64
  go_wp2_with fail
  go_loopw [8] (fun x wr => ∃ (i : Nat), x = .int .i64 (i : Int) ∧ i ≤ L ∧ (∀ (j : Nat) (u : ByteArray), j < i → ns[j]? = some u → ¬ s = u) ∧ wr = W) (fun x _ => L - (intOf x).toNat)
  case atStart => exact ⟨0, rfl, by omega, fun j u hj => absurd hj (by omega), rfl⟩
  case round =>
    obtain ⟨i, rfl, hi, hne, rfl⟩ := hrel
    have HN := hid hne
    clear hne
    by_cases hlt : i < L
    · obtain ⟨b, o, rfl, hc⟩ : ∃ b o, a = some ⟨b, o, none⟩ ∧ ∀ (i : Nat) (s : ByteArray), ns[i]? = some s → w0.cell? ⟨b, o + i, none⟩ = some (.string s) := by
        rcases HR.out.1 with h | h
        · exfalso; have := HL.out; rw [h] at this; simp at this; omega
        · exact h
      obtain ⟨t, ht⟩ : ∃ t, ns[i]? = some t := ⟨_, List.getElem?_eq_getElem (by rw [HL.out]; exact hlt)⟩
      have c0 := (HR.out.2.cell (World.block_lt_of_cell? w0 _ (hc i t ht))).trans (hc i t ht)
      have HT := hid ht
      clear hc ht
      by_cases he : s = t
      · have hee : (s.toList == t.toList) = true := by rw [he]; simp
        have hres : idxI ns s = (i : Int) := by
          unfold idxI
          rw [idx_at HN.out HT.out he, if_pos (by rw [HL.out]; exact hlt)]
        have HK := hid hres
        clear hres he
        go_wp2_with fail
        go_ret
        exact ⟨by rw [HK.out]; rfl, rfl⟩
      · have hee := toList_ne he
        have HE := hid he
        clear he
        go_wp2_with fail
        go_roundw
        case rel => exact ⟨i + 1, by go_num, by omega, fun j u hj hu => by
          rcases Nat.lt_or_ge j i with h | h
          · exact HN.out j u h hu
          · obtain rfl : j = i := by omega
            rw [HT.out] at hu
            cases hu
            exact HE.out, trivial⟩
        case measure => simp [intOf]; omega
    · have hres : idxI ns s = -1 := by
        unfold idxI
        rw [idx_none (fun j u hj hu => HN.out j u (by rw [HL.out] at hj; omega) hu), if_neg (by omega)]
      have HK := hid hres
      clear hres
      go_wp2_with fail
      go_ret
      exact ⟨by rw [HK.out]; rfl, rfl⟩
end Go.Proofs.YtjedcijddlilaaaGreatDoor

namespace Go.Proofs.YtjedcijddlilaaaGreatDoor
open Go.RowKit Go.Shelf

def findTy (ns : List ByteArray) (ts : Tr) (s : ByteArray) : Option Ty := if idxN ns s < ns.length then ts.els[idxN ns s]? else none
theorem idxN_le (ns : List ByteArray) (s : ByteArray) : idxN ns s ≤ ns.length := by
  induction ns with
  | nil => exact Nat.le_refl _
  | cons x ns ih => rw [idxN]; split <;> simp <;> omega
set_option maxRecDepth 100000 in
set_option maxHeartbeats 2000000 in
theorem subst_find (w0 : World) (ns : List ByteArray) (ts : Tr) (an ta : Option Addr) (cn ct Bn Bt : Nat) (hBn : Boxed w0 Bn 44 (.slice an ns.length cn)) (hBt : Boxed w0 Bt 22 (.slice ta ts.len ct))
    (hN : RowS w0 ns an) (hT : ts = .nil ∨ ∃ b o, ta = some ⟨b, o, none⟩ ∧ Lies w0 ts false b o) (hln : ns.length ≤ 1099511627776) (_hlt : ts.len ≤ 1099511627776) :
    FindAt w0 63 #[.pointer (some ⟨Bn, 0, none⟩), .pointer (some ⟨Bt, 0, none⟩)] (findTy ns ts) := by
  intro s W hW
  show Calls Tryz.prog 63 #[.string s, .pointer (some ⟨Bn, 0, none⟩), .pointer (some ⟨Bt, 0, none⟩)] W _
  obtain ⟨W1, hW1⟩ : ∃ W1, W.alloc (.cells #[.int .i64 0, .string ⟨#[]⟩, .string ⟨#[]⟩, .slice none 0 0, .slice none 0 0] 25) = W1 := ⟨_, rfl⟩
  have hb := World.alloc_heap_new W (.cells #[.int .i64 0, .string ⟨#[]⟩, .string ⟨#[]⟩, .slice none 0 0, .slice none 0 0] 25)
  have hB : Below W.heap.size W W1 := by rw [← hW1]; exact (Below.refl _ W).alloc (Nat.le_refl _) _
  rw [hW1] at hb
  have h01 := hW.trans (hB.mono hW.size)
  have HI := hid (index_any w0 ns an cn s W1 hN h01 hln)
  have c5 := old_cell h01 hBn.cell
  have c6 := old_cell h01 hBt.cell
  have HB := hid (And.intro hb (And.intro hB (And.intro h01 hT)))
  clear hb hB h01 hBn hBt hN hW hT
  by_cases hin : idxN ns s < ns.length
  · by_cases hi2 : idxN ns s < ts.len
    · have hidx : idxI ns s = (idxN ns s : Int) := by unfold idxI; rw [if_pos hin]
      have hf : findTy ns ts s = ts.els[idxN ns s]? := by unfold findTy; rw [if_pos hin]
      obtain ⟨b, o, rfl, hL⟩ : ∃ b o, ta = some ⟨b, o, none⟩ ∧ Lies w0 ts false b o := by
        rcases HB.out.2.2.2 with h | h
        · rw [h] at hi2; exact absurd hi2 (Nat.not_lt_zero _)
        · exact h
      obtain ⟨y, hy0, d0, d1, d2, d3, d4⟩ := lies_ty ts b o (idxN ns s) hL hi2
      rw [hidx] at HI
      generalize idxN ns s = i at *
      have HF := hid (And.intro hf hy0)
      replace d0 := old_cell HB.out.2.2.1 d0
      replace d1 := old_cell HB.out.2.2.1 d1
      replace d2 := old_cell HB.out.2.2.1 d2
      replace d3 := old_cell HB.out.2.2.1 d3
      replace d4 := old_cell HB.out.2.2.1 d4
      clear hidx hf hy0 hL
      subst hW1
      go_enter Tryz.func63, Tryz.ntmps63
      go_wp2_with fail
      refine HI.out.mono ?_
      rintro e w' ⟨rfl, rfl⟩
      go_wp2_with fail
      have hb := World.alloc_heap_new W (.cells #[.int .i64 y.t.k, .string y.t.m, .string y.t.n, .slice y.aa y.t.A.len y.ca, .slice y.af y.t.F.len y.cf] 25)
      have hB : Below W.heap.size W (W.alloc (.cells #[.int .i64 y.t.k, .string y.t.m, .string y.t.n, .slice y.aa y.t.A.len y.ca, .slice y.af y.t.F.len y.cf] 25)) := (Below.refl _ W).alloc (Nat.le_refl _) _
      generalize W.alloc (.cells #[.int .i64 y.t.k, .string y.t.m, .string y.t.n, .slice y.aa y.t.A.len y.ca, .slice y.af y.t.F.len y.cf] 25) = W2 at hb hB ⊢
      have c0 := cell_of_row W2 _ 0 _ _ _ hb
      have c1 := cell_of_row W2 _ 1 _ _ _ hb
      have c2 := cell_of_row W2 _ 2 _ _ _ hb
      have c3 := cell_of_row W2 _ 3 _ _ _ hb
      have c4 := cell_of_row W2 _ 4 _ _ _ hb
      refine ⟨rfl, .tuple #[y.v, .bool true], by simp [results, Tryz.results63, go_sem, c0, c1, c2, c3, c4, TyI.v, TyI.cells], hB, .inr ⟨y, by rw [HF.out.1, HF.out.2], rfl⟩⟩
    · have hidx : idxI ns s = (idxN ns s : Int) := by unfold idxI; rw [if_pos hin]
      have hf : findTy ns ts s = none := by unfold findTy; rw [if_pos hin]; exact List.getElem?_eq_none (by rw [Tr.els_len]; omega)
      rw [hidx] at HI
      generalize idxN ns s = i at *
      have HF := hid hf
      clear hidx hf
      subst hW1
      go_enter Tryz.func63, Tryz.ntmps63
      go_wp2_with fail
      refine HI.out.mono ?_
      rintro e w' ⟨rfl, rfl⟩
      go_wp2_with fail
      have hb := World.alloc_heap_new W (.cells #[.int .i64 0, .string ⟨#[]⟩, .string ⟨#[]⟩, .slice none 0 0, .slice none 0 0] 25)
      have hB : Below W.heap.size W (W.alloc (.cells #[.int .i64 0, .string ⟨#[]⟩, .string ⟨#[]⟩, .slice none 0 0, .slice none 0 0] 25)) := (Below.refl _ W).alloc (Nat.le_refl _) _
      generalize W.alloc (.cells #[.int .i64 0, .string ⟨#[]⟩, .string ⟨#[]⟩, .slice none 0 0, .slice none 0 0] 25) = W2 at hb hB ⊢
      have c0 := cell_of_row W2 _ 0 _ _ _ hb
      have c1 := cell_of_row W2 _ 1 _ _ _ hb
      have c2 := cell_of_row W2 _ 2 _ _ _ hb
      have c3 := cell_of_row W2 _ 3 _ _ _ hb
      have c4 := cell_of_row W2 _ 4 _ _ _ hb
      refine ⟨rfl, .tuple #[zeroTy, .bool false], by simp [results, Tryz.results63, go_sem, c0, c1, c2, c3, c4, zeroTy], hB, .inl ⟨HF.out, rfl⟩⟩
  · have hidx : idxI ns s = -1 := by unfold idxI; rw [if_neg hin]
    have hf : findTy ns ts s = none := by unfold findTy; rw [if_neg hin]
    rw [hidx] at HI
    have HF := hid hf
    clear hidx hf
    subst hW1
    go_enter Tryz.func63, Tryz.ntmps63
    go_wp2_with fail
    refine HI.out.mono ?_
    rintro e w' ⟨rfl, rfl⟩
    go_wp2_with fail
    have hb := World.alloc_heap_new W (.cells #[.int .i64 0, .string ⟨#[]⟩, .string ⟨#[]⟩, .slice none 0 0, .slice none 0 0] 25)
    have hB : Below W.heap.size W (W.alloc (.cells #[.int .i64 0, .string ⟨#[]⟩, .string ⟨#[]⟩, .slice none 0 0, .slice none 0 0] 25)) := (Below.refl _ W).alloc (Nat.le_refl _) _
    generalize W.alloc (.cells #[.int .i64 0, .string ⟨#[]⟩, .string ⟨#[]⟩, .slice none 0 0, .slice none 0 0] 25) = W2 at hb hB ⊢
    have c0 := cell_of_row W2 _ 0 _ _ _ hb
    have c1 := cell_of_row W2 _ 1 _ _ _ hb
    have c2 := cell_of_row W2 _ 2 _ _ _ hb
    have c3 := cell_of_row W2 _ 3 _ _ _ hb
    have c4 := cell_of_row W2 _ 4 _ _ _ hb
    refine ⟨rfl, .tuple #[zeroTy, .bool false], by simp [results, Tryz.results63, go_sem, c0, c1, c2, c3, c4, zeroTy], hB, .inl ⟨HF.out, rfl⟩⟩
end Go.Proofs.YtjedcijddlilaaaGreatDoor
