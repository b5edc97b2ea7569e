/- syntax: what types say: sizes, nodes, substitution, equality (pure). -/
import Derived.Test.YtjedcijddlilaaaGreatDoorSyO
namespace Go.Proofs.YtjedcijddlilaaaGreatDoor
open Go.ChangeShapes Go.WideShapes Go.ChangeAt Go.RowKit

theorem toList_ne {s t : ByteArray} (h : ¬ s = t) : (s.toList == t.toList) = false := by
  rw [ByteArray.toList_eq, ByteArray.toList_eq, beq_eq_false_iff_ne]
  intro e
  apply h
  cases s; cases t
  simp_all
/-- A type. -/
structure Ty where
  k : Int
  m : ByteArray
  n : ByteArray
  A : Tr
  F : Tr
def Tr.size : Tr → Nat
  | .nil => 0
  | .node _ _ _ _ _ A F nx => 1 + A.size + F.size + nx.size
def Ty.size (t : Ty) : Nat := 1 + t.A.size + t.F.size
def Tr.depth : Tr → Nat
  | .nil => 0
  | .node _ _ _ _ _ A F nx => max (1 + max A.depth F.depth) nx.depth
def Ty.depth (t : Ty) : Nat := 1 + max t.A.depth t.F.depth
/-- The elements of a row. -/
def Tr.els : Tr → List Ty
  | .nil => []
  | .node _ _ k m n A F nx => ⟨k, m, n, A, F⟩ :: nx.els
def Tr.nodes : Tr → List Ty
  | .nil => []
  | .node _ _ k m n A F nx => ⟨k, m, n, A, F⟩ :: (A.nodes ++ F.nodes ++ nx.nodes)
def Ty.nodes (t : Ty) : List Ty := t :: (t.A.nodes ++ t.F.nodes)
theorem Tr.nodes_len (T : Tr) : T.nodes.length = T.size := by
  induction T with
  | nil => rfl
  | node fn op k m n A F nx ha hf hn => simp only [Tr.nodes, Tr.size, List.length_cons, List.length_append, ha, hf, hn]; omega
theorem Ty.nodes_len (t : Ty) : t.nodes.length = t.size := by
  simp only [Ty.nodes, Ty.size, List.length_cons, List.length_append, Tr.nodes_len]; omega
theorem Tr.els_len (T : Tr) : T.els.length = T.len := by
  induction T with
  | nil => rfl
  | node fn op k m n A F nx ha hf hn => simp only [Tr.els, Tr.len, List.length_cons, hn]
theorem Tr.nodes_els (T : Tr) : T.nodes = T.els.flatMap Ty.nodes := by
  induction T with
  | nil => rfl
  | node fn op k m n A F nx ha hf hn => simp only [Tr.nodes, Tr.els, List.flatMap_cons, Ty.nodes, hn, List.cons_append]
theorem Tr.len_le (T : Tr) : T.len ≤ T.size := by
  induction T with
  | nil => exact Nat.le_refl _
  | node fn op k m n A F nx ha hf hn => simp only [Tr.len, Tr.size]; omega
theorem Tr.el_size {T : Tr} {t : Ty} (h : t ∈ T.els) : t.size ≤ T.size := by
  induction T with
  | nil => cases h
  | node fn op k m n A F nx ha hf hn =>
    simp only [Tr.els, List.mem_cons] at h
    simp only [Tr.size]
    rcases h with rfl | h
    · simp only [Ty.size]; omega
    · have := hn h; omega
/-- The parts of a type. -/
def Ty.parts (t : Ty) : List Ty := t.A.els ++ t.F.els
theorem Ty.part_size {t p : Ty} (h : p ∈ t.parts) : p.size < t.size := by
  rcases List.mem_append.1 h with h | h
  · have := Tr.el_size h; simp only [Ty.size] at *; omega
  · have := Tr.el_size h; simp only [Ty.size] at *; omega
theorem Ty.nodes_parts (t : Ty) : t.nodes = t :: t.parts.flatMap Ty.nodes := by
  simp only [Ty.nodes, Ty.parts, Tr.nodes_els, List.flatMap_append]
theorem Tr.size_els (T : Tr) : T.size = (T.els.map Ty.size).sum := by
  induction T with
  | nil => rfl
  | node fn op k m n A F nx ha hf hn => simp only [Tr.size, Tr.els, List.map_cons, List.sum_cons, Ty.size, hn]
theorem Ty.size_parts (t : Ty) : t.size = 1 + (t.parts.map Ty.size).sum := by
  simp only [Ty.size, Ty.parts, List.map_append, List.sum_append, Tr.size_els]; omega
def maxL (l : List Nat) : Nat := l.foldr max 0
theorem maxL_append (a b : List Nat) : maxL (a ++ b) = max (maxL a) (maxL b) := by
  induction a with
  | nil => simp [maxL]
  | cons x a ih => simp only [maxL, List.cons_append, List.foldr_cons] at *; omega
theorem Tr.depth_els (T : Tr) : T.depth = maxL (T.els.map Ty.depth) := by
  induction T with
  | nil => rfl
  | node fn op k m n A F nx ha hf hn => simp only [Tr.depth, Tr.els, List.map_cons, maxL, List.foldr_cons, Ty.depth, hn]
theorem Ty.depth_parts (t : Ty) : t.depth = 1 + maxL (t.parts.map Ty.depth) := by
  simp only [Ty.depth, Ty.parts, List.map_append, maxL_append, Tr.depth_els]
theorem Tr.depth_size (T : Tr) : T.depth ≤ T.size := by
  induction T with
  | nil => exact Nat.le_refl _
  | node fn op k m n A F nx ha hf hn => simp only [Tr.depth, Tr.size]; omega
theorem Ty.depth_size (t : Ty) : t.depth ≤ t.size := by
  have := t.A.depth_size; have := t.F.depth_size; simp only [Ty.depth, Ty.size]; omega
/-- Substitution. -/
def Tr.sub (f : ByteArray → Option Ty) : Tr → Tr
  | .nil => .nil
  | .node fn op k m n A F nx =>
    match (if k = 9 then f n else none) with
    | some u => .node fn op u.k u.m u.n u.A u.F (nx.sub f)
    | none => .node fn op k m n (A.sub f) (F.sub f) (nx.sub f)
def Ty.sub (f : ByteArray → Option Ty) (t : Ty) : Ty :=
  match (if t.k = 9 then f t.n else none) with
  | some u => u
  | none => ⟨t.k, t.m, t.n, t.A.sub f, t.F.sub f⟩
theorem Tr.sub_len (f : ByteArray → Option Ty) (T : Tr) : (T.sub f).len = T.len := by
  induction T with
  | nil => rfl
  | node fn op k m n A F nx ha hf hn =>
    unfold Tr.sub
    split <;> simp only [Tr.len, hn]
theorem Tr.sub_none (T : Tr) : T.sub (fun _ => none) = T := by
  induction T with
  | nil => rfl
  | node fn op k m n A F nx ha hf hn => simp only [Tr.sub, ite_self, ha, hf, hn]
theorem Ty.sub_none (t : Ty) : t.sub (fun _ => none) = t := by
  simp only [Ty.sub, ite_self, Tr.sub_none]
theorem Tr.sub_sub {f g h : ByteArray → Option Ty} (H : ∀ v, h v = match f v with | some u => some (u.sub g) | none => g v) (T : Tr) : (T.sub f).sub g = T.sub h := by
  induction T with
  | nil => rfl
  | node fn op k m n A F nx ha hf hn =>
    by_cases hk : k = 9
    · have H1 := H n
      cases hfn : f n with
      | some u =>
        simp only [hfn] at H1
        simp only [Tr.sub, if_pos hk, hfn, H1, hn, Ty.sub]
        split <;> simp_all
      | none =>
        simp only [hfn] at H1
        simp only [Tr.sub, if_pos hk, hfn, H1, hn, ha, hf]
    · simp only [Tr.sub, if_neg hk, ha, hf, hn]
theorem Ty.sub_sub {f g h : ByteArray → Option Ty} (H : ∀ v, h v = match f v with | some u => some (u.sub g) | none => g v) (t : Ty) : (t.sub f).sub g = t.sub h := by
  by_cases hk : t.k = 9
  · have H1 := H t.n
    cases hfn : f t.n with
    | some u =>
      simp only [hfn] at H1
      have e1 : t.sub f = u := by simp only [Ty.sub, if_pos hk, hfn]
      have e2 : t.sub h = u.sub g := by simp only [Ty.sub, if_pos hk, H1]
      rw [e1, e2]
    | none =>
      simp only [hfn] at H1
      have e1 : t.sub f = ⟨t.k, t.m, t.n, t.A.sub f, t.F.sub f⟩ := by simp only [Ty.sub, if_pos hk, hfn]
      rw [e1]
      simp only [Ty.sub, if_pos hk, H1, Tr.sub_sub H]
  · simp only [Ty.sub, if_neg hk, Tr.sub_sub H]
theorem Tr.sub_fresh {f : ByteArray → Option Ty} (T : Tr) (h : ∀ p ∈ T.nodes, p.k = 9 → f p.n = none) : T.sub f = T := by
  induction T with
  | nil => rfl
  | node fn op k m n A F nx ha hf hn =>
    have h0 := h ⟨k, m, n, A, F⟩ (by simp [Tr.nodes])
    have h1 := ha fun p hp => h p (by simp [Tr.nodes, hp])
    have h2 := hf fun p hp => h p (by simp [Tr.nodes, hp])
    have h3 := hn fun p hp => h p (by simp [Tr.nodes, hp])
    by_cases hk : k = 9
    · have h4 := h0 hk
      simp only at h4
      simp only [Tr.sub, if_pos hk, h4, h1, h2, h3]
    · simp only [Tr.sub, if_neg hk, h1, h2, h3]
theorem Ty.sub_fresh {f : ByteArray → Option Ty} (t : Ty) (h : ∀ p ∈ t.nodes, p.k = 9 → f p.n = none) : t.sub f = t := by
  have h1 := Tr.sub_fresh (f := f) t.A fun p hp => h p (by simp [Ty.nodes, hp])
  have h2 := Tr.sub_fresh (f := f) t.F fun p hp => h p (by simp [Ty.nodes, hp])
  have h0 := h t (by simp [Ty.nodes])
  by_cases hk : t.k = 9
  · simp only [Ty.sub, if_pos hk, h0 hk, h1, h2]
  · simp only [Ty.sub, if_neg hk, h1, h2]
/-- Equality, as the program sees it. -/
def Tr.eq : Bool → Tr → Tr → Bool
  | _, .nil, .nil => true
  | fl, .node fn op k m n A F nx, .node fn' op' k' m' n' A' F' nx' =>
    (!fl || (decide (fn = fn') && (op == op'))) && (decide (k = k') && decide (m = m') && decide (n = n') && A.eq false A' && F.eq true F') && nx.eq fl nx'
  | _, _, _ => false
def Ty.eq (t u : Ty) : Bool := decide (t.k = u.k) && decide (t.m = u.m) && decide (t.n = u.n) && t.A.eq false u.A && t.F.eq true u.F
theorem Tr.eq_refl (T : Tr) : ∀ fl, T.eq fl T = true := by
  induction T with
  | nil => intro fl; rfl
  | node fn op k m n A F nx ha hf hn => intro fl; simp [Tr.eq, ha, hf, hn]
theorem Ty.eq_refl (t : Ty) : t.eq t = true := by simp [Ty.eq, Tr.eq_refl]
theorem Tr.eq_comm (T : Tr) : ∀ fl U, T.eq fl U = U.eq fl T := by
  induction T with
  | nil => intro fl U; cases U <;> rfl
  | node fn op k m n A F nx ha hf hn =>
    intro fl U
    cases U with
    | nil => rfl
    | node fn' op' k' m' n' A' F' nx' =>
      simp only [Tr.eq, ha, hf, hn, _root_.eq_comm (a := fn), _root_.eq_comm (a := k), _root_.eq_comm (a := m), _root_.eq_comm (a := n)]
      cases op <;> cases op' <;> rfl
theorem Ty.eq_comm (t u : Ty) : t.eq u = u.eq t := by
  simp only [Ty.eq, Tr.eq_comm t.A, Tr.eq_comm t.F, _root_.eq_comm (a := t.k), _root_.eq_comm (a := t.m), _root_.eq_comm (a := t.n)]
/-- A type's value. -/
def TyV (w : World) (v : Value) (t : Ty) : Prop :=
  ∃ va vf, v = .agg #[.int .i64 t.k, .string t.m, .string t.n, va, vf] ∧ (Lit.int .i64 t.k).wf = true ∧ SlW w va t.A false ∧ SlW w vf t.F true
theorem TyV_below {w w' : World} {v : Value} {t : Ty} (h : TyV w v t) (hb : Below w.heap.size w w') : TyV w' v t := by
  obtain ⟨va, vf, hv, hk, ha, hf⟩ := h
  exact ⟨va, vf, hv, hk, SlW_below ha hb, SlW_below hf hb⟩
end Go.Proofs.YtjedcijddlilaaaGreatDoor
