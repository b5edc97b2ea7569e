/- Parts of a row of cells: load, store, copy out of a string, clear. -/
import Derived.Test.YtjedcijddlilaaaGreatDoorFrame
import Derived.WalkLawsBesides
namespace Go.Proofs.YtjedcijddlilaaaGreatDoor
open Go.RowKit

section
variable {P : Program}
/-- A list of which a part is replaced. -/
def part (cur : List Value) (o : Nat) (cs : List Value) : List Value := cur.take o ++ cs ++ cur.drop (o + cs.length)

theorem run_loadVar_part (w : World) (g o : Nat) (t ty : TypeId) (cur cs : List Value) (fr : Nat × Nat) (d : TypeDesc) (hg : w.heap[g]? = some (.cells cur.toArray t fr))
    (hcs : ∀ j v, cs[j]? = some v → cur[o + j]? = some v)
    (hu : P.underlying ty = some d) (hd : (match d with | .struct _ | .array _ _ => true | _ => false) = true) (hi : (P.info? ty).map (·.size) = some cs.length) :
    (loadVar ty ⟨g, o, none⟩).run P w = .ok (.agg cs.toArray) w := by
  have hl : (loadCells ⟨g, o, none⟩ cs.length).run P w = .ok cs.toArray w :=
    run_loadCells_list (P := P) w ⟨g, o, none⟩ cs (fun j v hv => by
      rw [Addr.add_lit, cell_of_row w g (o + j) _ t fr hg]
      simpa using hcs j v hv)
  cases hq : P.info? ty with
  | none => simp [hq] at hi
  | some i =>
    have hs : i.size = cs.length := by simpa [hq] using hi
    have hagg : (isAgg ty).run P w = .ok true w := by
      unfold isAgg
      rw [Sem.run_bind, run_underlying hu w]
      cases d <;> simp_all
    simp [loadVar, Sem.run_bind, hagg, sizeOf, typeInfo, hq, hs, hl]

theorem wpList_load_part {ops : Array Oper} {rest : List Oper} {o : Oper} {a : Act} {w : World} {Q : Exit → Act → World → Prop} (hgd : o.guard = none) (ty : TypeId) (x : Operand) (ho : o.op = .load ty x)
    (g off : Nat) (hx : a.eval x = .pointer (some ⟨g, off, none⟩)) (t : TypeId) (cur cs : List Value) (fr : Nat × Nat) (d : TypeDesc) (hg : w.heap[g]? = some (.cells cur.toArray t fr))
    (hcs : ∀ j v, cs[j]? = some v → cur[off + j]? = some v)
    (hu : P.underlying ty = some d) (hd : (match d with | .struct _ | .array _ _ => true | _ => false) = true) (hi : (P.info? ty).map (·.size) = some cs.length)
    (h : wpList P ops Q rest (a.put o.dst (.agg cs.toArray)) w) : wpList P ops Q (o :: rest) a w :=
  wpList_plain hgd fun _ hK => by
    unfold Oper.wp execOp
    simp only [ho, hx, Instr.loadAt, Instr.sureAddr, Sem.run_bind, Sem.run_pure, Result.andThen_ok, run_loadVar_part w g off t ty cur cs fr d hg hcs hu hd hi]
    exact hK _ _ h

theorem wpList_store_part {ops : Array Oper} {rest : List Oper} {o : Oper} {a : Act} {w : World} {Q : Exit → Act → World → Prop} (hgd : o.guard = none) (ty : TypeId) (x y : Operand) (ho : o.op = .store ty x y)
    (g off : Nat) (cells : Array Value) (hx : a.eval x = .pointer (some ⟨g, off, none⟩)) (hy : a.eval y = .agg cells)
    (t : TypeId) (cur : List Value) (hg : w.heap[g]? = some (.cells cur.toArray t (0, 0))) (hi : (P.info? ty).map (·.size) = some cells.size)
    (hfit : off + cells.size ≤ cur.length) (h1 : cells.all (·.oneCell') = true)
    (h : wpList P ops Q rest (a.put o.dst undef) (w.setRow g (part cur off cells.toList).toArray)) : wpList P ops Q (o :: rest) a w :=
  wpList_plain hgd fun _ hK => by
    have hst := run_storeCells_at P g off t cells.toList 0 cur.toArray w hg (by simpa using hfit) (fun v hv => (Array.all_eq_true_iff_forall_mem.1 h1) v (by simpa using hv))
    cases hq : P.info? ty with
    | none => simp [hq] at hi
    | some i =>
      have hs : cells.size = i.size := by simp [hq] at hi; omega
      have hrun : (storeVar ty ⟨g, off, none⟩ (.agg cells)).run P w = .ok () (w.setRow g (part cur off cells.toList).toArray) := by
        simp only [Nat.add_zero] at hst
        simp [storeVar, sizeOf, typeInfo, hq, Value.cells, hs, hst, part]
      unfold Oper.wp execOp
      simp only [ho, hx, hy, Instr.storeAt, Instr.sureAddr, Sem.run_bind, Sem.run_pure, Result.andThen_ok, hrun]
      exact hK _ _ h

/-- The bytes of a string, as cells. -/
def byteCells (l : List UInt8) : List Value := l.map fun b => Value.int .u8 (b.toNat : Int)
theorem byteCells_length (l : List UInt8) : (byteCells l).length = l.length := by simp [byteCells]

theorem run_copy_str (w : World) (dT sT ty elem : TypeId) (g o dLen dCap : Nat) (s : ByteArray) (cur : List Value) (t : TypeId)
    (hu : P.underlying dT = some (.slice elem)) (hs : (P.info? elem).map (·.size) = some 1)
    (hg : w.heap[g]? = some (.cells cur.toArray t (0, 0))) (hfit : o + dLen ≤ cur.length) :
    (Builtin.copy_ #[dT, sT] ty #[.slice (some ⟨g, o, none⟩) dLen dCap, .string s]).run P w =
      .ok (goInt (Nat.min s.size dLen : Nat)) (w.setRow g (part cur o (byteCells (s.data.toList.take (Nat.min s.size dLen)))).toArray) := by
  have hmin : Nat.min s.size dLen ≤ dLen := Nat.min_le_right _ _
  have hmin2 : Nat.min s.size dLen ≤ s.size := Nat.min_le_left _ _
  have hlen : (byteCells (s.data.toList.take (Nat.min s.size dLen))).length = Nat.min s.size dLen := by
    rw [byteCells_length, List.length_take, Array.length_toList]
    show min _ s.size = _
    omega
  have hst := run_storeCells_at P g o t (byteCells (s.data.toList.take (Nat.min s.size dLen))) 0 cur.toArray w hg (by rw [hlen]; simp; omega)
    (fun v hv => by obtain ⟨_, _, rfl⟩ := List.mem_map.1 hv; rfl)
  have hcells : ((s.extract 0 (Nat.min s.size dLen)).data.map fun b => Value.int .u8 (b.toNat : Int)).toList = byteCells (s.data.toList.take (Nat.min s.size dLen)) := by
    simp [byteCells, ByteArray.data_extract]
  simp only [Nat.add_zero] at hst
  cases hq : P.info? elem with
  | none => simp [hq] at hs
  | some i =>
    have hi : i.size = 1 := by simpa [hq] using hs
    simp only [Builtin.copy_, Sem.run_bind, run_underlying hu, Builtin.lenOf, Builtin.firstCells, sizeOf, typeInfo, Sem.run_pure, Result.andThen_ok, hcells,
      List.getElem?_toArray, List.getElem?_cons_zero, List.getElem?_cons_succ]
    simp [hq, hst, part]

theorem wpList_copy_str {ops : Array Oper} {rest : List Oper} {o : Oper} {a : Act} {w : World} {Q : Exit → Act → World → Prop} (hgd : o.guard = none) (d s : Operand) (dT sT : TypeId)
    (ho : o.op = .call { callee := .builtin .copy, args := #[d, s], argTypes := #[dT, sT] }) (elem : TypeId) (hu : P.underlying dT = some (.slice elem)) (hsz : (P.info? elem).map (·.size) = some 1)
    (g off dLen dCap : Nat) (t : TypeId) (str : ByteArray) (cur : List Value) (hd : a.eval d = .slice (some ⟨g, off, none⟩) dLen dCap) (hs : a.eval s = .string str)
    (hg : w.heap[g]? = some (.cells cur.toArray t (0, 0))) (hfit : off + dLen ≤ cur.length)
    (h : wpList P ops Q rest (a.put o.dst (goInt (Nat.min str.size dLen : Nat))) (w.setRow g (part cur off (byteCells (str.data.toList.take (Nat.min str.size dLen)))).toArray)) :
    wpList P ops Q (o :: rest) a w :=
  wpList_plain hgd fun _ hK => by
    have hrun := run_copy_str (P := P) w dT sT o.type elem g off dLen dCap str cur t hu hsz hg hfit
    unfold Oper.wp
    simp [execOp, ho, resolve, invoke, builtin, hd, hs, hrun, Result.andThen]
    exact hK _ _ h

theorem run_clear_row (w : World) (dT ty elem : TypeId) (g o n c : Nat) (cur : List Value) (t : TypeId) (z : Value)
    (hu : P.underlying dT = some (.slice elem)) (hz : (zeroValue elem).run P w = .ok z w) (hzc : z.cells = #[z]) (h1 : z.oneCell' = true)
    (hg : w.heap[g]? = some (.cells cur.toArray t (0, 0))) (hfit : o + n ≤ cur.length) :
    ∃ w', (Builtin.clear_ #[dT] ty #[.slice (some ⟨g, o, none⟩) n c]).run P w = .ok (.tuple #[]) w' ∧ w' = w.setRow g (part cur o (List.replicate n z)).toArray := by
  cases n with
  | zero =>
    refine ⟨w, by simp [Builtin.clear_, run_underlying hu], ?_⟩
    have := setRow_self w g cur.toArray t (0, 0) hg
    simp [part, this]
  | succ n =>
    have hzl : (Builtin.zeroCells z.cells (n + 1)).toList = List.replicate (n + 1) z := by
      rw [hzc]
      simp only [Builtin.zeroCells]
      apply List.ext_getElem
      · simp
      · intro i h1 h2
        simp [Nat.mod_one]
    have hst := run_storeCells_at P g o t (List.replicate (n + 1) z) 0 cur.toArray w hg (by simpa using hfit) (fun v hv => by rw [List.eq_of_mem_replicate hv]; exact h1)
    simp only [Nat.add_zero] at hst
    refine ⟨_, ?_, rfl⟩
    simp [Builtin.clear_, run_underlying hu, hz, hzl, hst, part]

theorem wpList_clear_row {ops : Array Oper} {rest : List Oper} {o : Oper} {a : Act} {w : World} {Q : Exit → Act → World → Prop} (hgd : o.guard = none) (d : Operand) (dT : TypeId)
    (ho : o.op = .call { callee := .builtin .clear, args := #[d], argTypes := #[dT] }) (elem : TypeId) (hu : P.underlying dT = some (.slice elem))
    (g off n c : Nat) (t : TypeId) (cur : List Value) (z : Value) (hd : a.eval d = .slice (some ⟨g, off, none⟩) n c) (hz : (zeroValue elem).run P w = .ok z w) (hzc : z.cells = #[z]) (h1 : z.oneCell' = true)
    (hg : w.heap[g]? = some (.cells cur.toArray t (0, 0))) (hfit : off + n ≤ cur.length)
    (h : wpList P ops Q rest (a.put o.dst (.tuple #[])) (w.setRow g (part cur off (List.replicate n z)).toArray)) :
    wpList P ops Q (o :: rest) a w :=
  wpList_plain hgd fun _ hK => by
    obtain ⟨w', hrun, rfl⟩ := run_clear_row (P := P) w dT o.type elem g off n c cur t z hu hz hzc h1 hg hfit
    unfold Oper.wp
    simp [execOp, ho, resolve, invoke, builtin, hd, hrun, Result.andThen]
    exact hK _ _ h
end
end Go.Proofs.YtjedcijddlilaaaGreatDoor
