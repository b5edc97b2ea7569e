/- syntax: an argument that is a type; sizes of what is substituted; what SyntaxComposes says of trees. -/
import Derived.Test.YtjedcijddlilaaaGreatDoorSyOb
import Derived.Test.YtjedcijddlilaaaGreatDoorSyFr
import Derived.Test.YtjedcijddlilaaaGreatDoorSyS5
import Derived.Test.YtjedcijddlilaaaGreatDoorSyRq
import Derived.OpenShut
import Derived.ProofKit
namespace Go.Proofs.YtjedcijddlilaaaGreatDoor
open Go.ChangeShapes Go.WideShapes Go.ChangeAt Go.RowKit

def Ty.bk (t : Ty) : Nat := 1 + t.m.size + t.n.size + t.A.bk + t.F.bk
theorem Tr.size_bk (T : Tr) : T.size ≤ T.bk := by
  induction T with
  | nil => exact Nat.le_refl _
  | node fn op k m n A F nx ha hf hn => simp only [Tr.size, Tr.bk]; omega
theorem Ty.size_bk (t : Ty) : t.size ≤ t.bk := by
  have h1 := t.A.size_bk
  have h2 := t.F.size_bk
  simp only [Ty.size, Ty.bk]
  omega
theorem Tr.name_bk (T : Tr) : ∀ p ∈ T.nodes, p.n.size ≤ T.bk := by
  induction T with
  | nil => intro p hp; cases hp
  | node fn op k m n A F nx ha hf hn =>
    intro p hp
    simp only [Tr.nodes, List.mem_cons, List.mem_append] at hp
    simp only [Tr.bk]
    rcases hp with rfl | ((h | h) | h)
    · show n.size ≤ _; omega
    · have := ha p h; omega
    · have := hf p h; omega
    · have := hn p h; omega
theorem Ty.name_bk (t : Ty) : ∀ p ∈ t.nodes, p.n.size ≤ t.bk := by
  intro p hp
  simp only [Ty.nodes, List.mem_cons, List.mem_append] at hp
  simp only [Ty.bk]
  rcases hp with rfl | (h | h)
  · omega
  · have := t.A.name_bk p h; omega
  · have := t.F.name_bk p h; omega
set_option maxRecDepth 100000 in
/-- An argument that is a type. -/
theorem open_tyArg {H : Type} {enc : TypeId × Value → H} {W : World} {base : Nat} {v : Value} {d : DataW H} {p : List MemPlace} (hval : Value.okWide Tryz.prog W .any base 25 v)
    (h : DataW.Trod enc Tryz.prog W 0 (fun _ => true) true 25 v d p) : ∃ t : Ty, TyV W v t ∧ t.bk ≤ Rows.uptoBulk d := by
  obtain ⟨cs, rfl, hcs⟩ := okWide_struct Tryz.underlying25 hval
  obtain ⟨fuel, hf⟩ := h
  obtain ⟨k, m, n, A, F, va, vf, h1, h2, h3, h4, h5⟩ := open_tyB fuel _ _ hf
  refine ⟨⟨k, m, n, A, F⟩, ⟨va, vf, ?_, h2, h3, h4⟩, h5⟩
  have h6 : cs.toList = [.int .i64 k, .string m, .string n, va, vf] := h1
  have h7 : cs = #[.int .i64 k, .string m, .string n, va, vf] := by
    apply Array.toList_inj.1; rw [h6]
  rw [h7]
/-- What is substituted is no larger than its parts allow. -/
theorem Tr.sub_size {f : ByteArray → Option Ty} {M : Nat} (hM : 1 ≤ M) (hf : ∀ v u, f v = some u → u.size ≤ M) (T : Tr) : (T.sub f).size ≤ T.size * M := by
  induction T with
  | nil => exact Nat.zero_le _
  | node fn op k m n A F nx ha hf' hn =>
    simp only [Tr.sub]
    have e : (Tr.node fn op k m n A F nx).size * M = M + A.size * M + F.size * M + nx.size * M := by
      simp only [Tr.size, Nat.add_mul, Nat.one_mul]
    rw [e]
    by_cases h9 : k = 9
    · rw [if_pos h9]
      cases hv : f n with
      | none =>
        show 1 + (A.sub f).size + (F.sub f).size + (nx.sub f).size ≤ _
        omega
      | some u =>
        have hu := hf n u hv
        have e2 : u.size = 1 + u.A.size + u.F.size := rfl
        show 1 + u.A.size + u.F.size + (nx.sub f).size ≤ _
        omega
    · rw [if_neg h9]
      show 1 + (A.sub f).size + (F.sub f).size + (nx.sub f).size ≤ _
      omega
theorem Ty.sub_size {f : ByteArray → Option Ty} {M : Nat} (hM : 1 ≤ M) (hf : ∀ v u, f v = some u → u.size ≤ M) (t : Ty) : (t.sub f).size ≤ t.size * M := by
  have hA := Tr.sub_size hM hf t.A
  have hF := Tr.sub_size hM hf t.F
  have e : t.size * M = M + t.A.size * M + t.F.size * M := by simp only [Ty.size, Nat.add_mul, Nat.one_mul]
  rw [e]
  unfold Ty.sub
  by_cases h9 : t.k = 9
  · rw [if_pos h9]
    cases hv : f t.n with
    | none =>
      show 1 + (t.A.sub f).size + (t.F.sub f).size ≤ _
      omega
    | some u =>
      have := hf _ u hv
      show u.size ≤ _
      omega
  · rw [if_neg h9]
    show 1 + (t.A.sub f).size + (t.F.sub f).size ≤ _
    omega
/-- A row of one type. -/
def oneT (u : Ty) : Tr := .node ⟨#[]⟩ false u.k u.m u.n u.A u.F .nil
def twoT (u z : Ty) : Tr := .node ⟨#[]⟩ false u.k u.m u.n u.A u.F (oneT z)
theorem find_one (x : ByteArray) (u : Ty) (s : ByteArray) : findTy [x] (oneT u) s = if s = x then some u else none := by
  unfold findTy
  by_cases h : s = x
  · simp [idxN, h, oneT, Tr.els]
  · simp [idxN, h]
theorem find_two (x y : ByteArray) (u z : Ty) (s : ByteArray) : findTy [x, y] (twoT u z) s = if s = x then some u else if s = y then some z else none := by
  unfold findTy
  by_cases h : s = x
  · simp [idxN, h, twoT, Tr.els]
  · by_cases h2 : s = y
    · have hyx : ¬ y = x := fun e => h (h2.trans e)
      simp [idxN, h2, hyx, twoT, oneT, Tr.els]
    · simp [idxN, h, h2]
theorem find_size {x : ByteArray} {u : Ty} {M : Nat} (h : u.size ≤ M) : ∀ v w, findTy [x] (oneT u) v = some w → w.size ≤ M := by
  intro v w hw
  rw [find_one] at hw
  split at hw
  · cases hw; exact h
  · cases hw
/-- Substituting one after the other is substituting both at once. -/
theorem composes (t u z : Ty) (x y : ByteArray) (hxy : ¬ x = y) :
    (t.sub (findTy [x] (oneT u))).sub (findTy [y] (oneT z)) = t.sub (findTy [x, y] (twoT (u.sub (findTy [y] (oneT z))) z)) := by
  refine Ty.sub_sub (fun v => ?_) t
  rw [find_two, find_one, find_one]
  by_cases h : v = x
  · simp [h]
  · simp [h]
/-- Without the variable nothing changes. -/
theorem fresh_sub (t u : Ty) (x : ByteArray) (h : ¬ x.data.toList ∈ freeL t) : t.sub (findTy [x] (oneT u)) = t := by
  refine Ty.sub_fresh t fun p hp h9 => ?_
  rw [find_one, if_neg]
  rintro rfl
  refine h ?_
  unfold freeL
  rw [List.mem_mergeSort, mem_dedup]
  unfold varsL
  exact List.mem_map.2 ⟨p, List.mem_filter.2 ⟨hp, by simp [h9]⟩, rfl⟩
end Go.Proofs.YtjedcijddlilaaaGreatDoor
