/- A slice of bytes that was made of a string, and appending one byte to it: its row bears a mark behind its end. -/
import Derived.Test.YtijohbohdceggaaRefLen
import Derived.Lib.ConvBytes
namespace Go.Proofs.Ytijohbohdceggaa
open Go.RowKit

/-- v is a slice of the bytes l; its row lies from base on and is frozen in none of its cells. -/
def OwnE (w : World) (base : Nat) (v : Value) (l : List UInt8) : Prop :=
  ∃ g cap cur fr, v = .slice (some ⟨g, 0, none⟩) l.length cap ∧ base ≤ g ∧ w.heap[g]? = some (.cells cur 5 fr) ∧ (∀ j, j < cur.size → ¬ (fr.1 ≤ j ∧ j < fr.2)) ∧ l.length ≤ cap ∧ cap ≤ maxLen ∧ cur.size = cap ∧ cur.toList.take l.length = byteCells l

theorem OwnE_conv (w : World) (base : Nat) (s : ByteArray) (hb : base ≤ w.heap.size) (hs : s.size ≤ maxLen) : OwnE (Lib.bytesWorld w 5 s) base (.slice (some ⟨w.heap.size, 0, none⟩) s.size (grownCap w s.size 0 5)) s.data.toList := by
  have hl : s.data.toList.length = s.size := by rw [Array.length_toList]; rfl
  have hge := grownCap_ge w s.size 0 5
  have hsz : (Lib.bytesCells w 5 s).size = grownCap w s.size 0 5 := by
    unfold Lib.bytesCells
    rw [Array.size_append, Array.size_map, Array.size_replicate]
    have : s.data.size = s.size := rfl
    omega
  refine ⟨w.heap.size, _, _, _, by rw [hl], hb, Lib.bytesWorld_at_new w 5 s, fun j hj h => ?_, by rw [hl]; exact hge, grownCap_le_maxLen _ _ _ _ hs, hsz, ?_⟩
  · have := h.1; simp only at this; omega
  · unfold Lib.bytesCells byteCells
    rw [Array.toList_append, List.take_append_of_le_length (by simp), List.take_of_length_le (by simp), Array.toList_map]

theorem OwnE_len {w : World} {base : Nat} {v : Value} {l : List UInt8} (h : OwnE w base v l) : ∃ g cap, v = .slice (some ⟨g, 0, none⟩) l.length cap ∧ base ≤ g ∧ g < w.heap.size := by
  obtain ⟨g, cap, cur, fr, hv, hb, hg, _⟩ := h
  exact ⟨g, cap, hv, hb, (Array.getElem?_eq_some_iff.1 hg).1⟩

theorem OwnE_alloc {w : World} {base : Nat} {v : Value} {l : List UInt8} (h : OwnE w base v l) (o : Obj) : OwnE (w.alloc o) base v l := by
  obtain ⟨g, cap, cur, fr, hv, hb, hg, h5⟩ := h
  exact ⟨g, cap, cur, fr, hv, hb, (heap_alloc_old w o (Array.getElem?_eq_some_iff.1 hg).1).trans hg, h5⟩
theorem OwnE_drawn {w : World} {base : Nat} {v : Value} {l : List UInt8} (h : OwnE w base v l) (n : Nat) : OwnE (w.drewN n) base v l := h

/-- string(b). -/
theorem OwnE_string (w : World) (base : Nat) (v : Value) (l : List UInt8) (h : OwnE w base v l) : (convert 34 9 v).run Try.prog w = .ok (.string ⟨l.toArray⟩) w := by
  obtain ⟨g, cap, cur, fr, rfl, hb, hg, hf, hc, hm, hs, ht⟩ := h
  refine run_bytes_row w 34 9 5 g 0 l.length cap 5 fr cur.toList l Try.underlying34 Try.underlying5 Try.underlying9 (by simpa using hg) rfl ?_
  intro j hj
  have h2 : (cur.toList.take l.length)[j]? = (byteCells l)[j]? := by rw [ht]
  rw [List.getElem?_take, if_pos hj] at h2
  rw [Nat.zero_add, h2]
  simp [byteCells, List.getD, hj]

theorem run_append_E {w : World} {base : Nat} {v : Value} {l : List UInt8} (h : OwnE w base v l) (hbase : base ≤ w.heap.size) (ty : TypeId) (i : TypeInfo) (hi : Try.prog.info? 5 = some i) (hz : i.zero = some (.int .u8 0)) (hsize : i.size = 1) (hby : i.bytes = 1)
    (ad : Addr) (c : Nat) (b : UInt8) (hnew : ∀ j u, [Value.int .u8 (b.toNat : Int)][j]? = some u → w.cell? (ad.add j) = some u) (hl : l.length + 1 ≤ 140737488355328) :
    ∃ v' w', (Builtin.append_ #[34, 34] ty #[v, .slice (some ad) 1 c]).run Try.prog w = .ok v' w' ∧ OwnE w' base v' (l ++ [b]) ∧ Below base w w' := by
  obtain ⟨g, cap, cur, fr, rfl, hb, hg, hf, hc, hm, hs, ht⟩ := h
  have hbl : (byteCells l).length = l.length := by simp [byteCells]
  by_cases hroom : l.length + 1 ≤ cap
  · have hlt : l.length < cur.size := by omega
    have hcell : w.cell? ⟨g, l.length, none⟩ = some cur[l.length] := by simp [World.cell?, hg, hlt]
    have hfro : w.frozen? ⟨g, l.length, none⟩ = false := by
      have := hf _ hlt
      obtain ⟨lo, hi'⟩ := fr
      simp only [World.frozen?, hg, Bool.and_eq_false_iff, decide_eq_false_iff_not]
      simp only at this
      omega
    have hfc := run_firstCells_some (P := Try.prog) w 1 1 ad 1 c [.int .u8 (b.toNat : Int)] rfl hnew
    have hst : (storeCells ⟨g, l.length, none⟩ [Value.int .u8 (b.toNat : Int)] 0).run Try.prog w = .ok () (w.setRow g (cur.setIfInBounds l.length (.int .u8 (b.toNat : Int)))) := by
      have h1 : (store ((⟨g, l.length, none⟩ : Addr).add 0) (Value.int .u8 (b.toNat : Int))).run Try.prog w = .ok () (w.setRow g (cur.setIfInBounds l.length (.int .u8 (b.toNat : Int)))) := by
        rw [Addr.add_zero', run_store _ w _ _ _ rfl, hcell]
        simp [hfro, setCell_eq_setRow w g l.length cur 5 fr _ hg]
      simp only [storeCells, Sem.run_bind, h1, Result.andThen_ok]
      rfl
    refine ⟨.slice (some ⟨g, 0, none⟩) (l.length + 1) cap, w.setRow g (cur.setIfInBounds l.length (.int .u8 (b.toNat : Int))), ?_, ⟨g, cap, cur.setIfInBounds l.length (.int .u8 (b.toNat : Int)), fr, by simp, hb, setRow_heap w g cur _ _ fr hg, ?_, by simpa using hroom, hm, by simpa using hs, ?_⟩, below_row w hb _⟩
    · simp [Builtin.append_, run_underlying Try.underlying34, sizeOf, typeInfo, hi, hsize, Builtin.lenOf, hroom, hfc, Addr.add_lit, hst]
    · intro j hj
      exact hf j (by simpa using hj)
    · rw [Array.toList_setIfInBounds, List.length_append, List.length_singleton]
      have e : byteCells (l ++ [b]) = byteCells l ++ [.int .u8 (b.toNat : Int)] := by simp [byteCells]
      rw [e, ← ht, List.take_succ_eq_append_getElem (by simp; omega)]
      congr 1
      · rw [List.take_set_of_le (Nat.le_refl _)]
      · simp
  · have holds : ∀ j u, (byteCells l)[j]? = some u → w.cell? ((⟨g, 0, none⟩ : Addr).add j) = some u := by
      intro j u hu
      rw [Addr.add_lit, Nat.zero_add, cell_of_row w g j cur _ fr hg]
      rw [← ht, List.getElem?_take] at hu
      split at hu
      · simpa using hu
      · cases hu
    have hr := run_append_grow (P := Try.prog) w 34 ty 5 i (.int .u8 0) Try.underlying34 hi hz ⟨g, 0, none⟩ l.length cap (byteCells l) (by rw [hsize, hbl]; omega) holds ad 1 c [.int .u8 (b.toNat : Int)] (by rw [hsize]; rfl) hnew (by omega) (by unfold maxLen at hm; omega) (by rw [hby]; exact growslice_fits (by omega) (by omega))
    have hge := grownCap_ge w (l.length + 1) cap 5
    refine ⟨_, _, hr, ⟨w.heap.size, grownCap w (l.length + 1) cap 5, _, (0, 0), by simp, hbase, heap_alloc_new w.drew _, fun j _ h => by have := h.2; simp only at this; omega, by simpa using hge, grownCap_le_maxLen _ _ _ _ (by unfold maxLen; omega), ?_, ?_⟩, ⟨rfl, rfl, rfl, by simp, fun k hk => heap_alloc_old w.drew _ (show k < w.heap.size by omega)⟩⟩
    · have hz1 : (Value.int IntKind.u8 0).cells.size = 1 := rfl
      simp only [Array.size_append, List.size_toArray, size_zeroCells, hz1, hbl, List.length_singleton]
      omega
    · have e : byteCells (l ++ [b]) = byteCells l ++ [.int .u8 (b.toNat : Int)] := by simp [byteCells]
      rw [e]
      simp only [Array.toList_append, List.append_assoc]
      rw [← List.append_assoc, List.take_append_of_le_length (by simp [byteCells]), List.take_of_length_le (by simp [byteCells])]

theorem wpList_append_E {ops : Array Oper} {rest : List Oper} {o : Oper} {a : Act} {w : World} {Q : Exit → Act → World → Prop} (hgd : o.guard = none) (s x : Operand)
    (ho : o.op = .call { callee := .builtin .append, args := #[s, x], argTypes := #[34, 34] })
    {base : Nat} {v : Value} {l : List UInt8} (hs : a.eval s = v) (h : OwnE w base v l) (hbase : base ≤ w.heap.size) (i : TypeInfo) (hi : Try.prog.info? 5 = some i) (hz : i.zero = some (.int .u8 0)) (hsize : i.size = 1) (hby : i.bytes = 1)
    (ad : Addr) (c : Nat) (b : UInt8) (hx : a.eval x = .slice (some ad) 1 c) (hnew : ∀ j u, [Value.int .u8 (b.toNat : Int)][j]? = some u → w.cell? (ad.add j) = some u) (hl : l.length + 1 ≤ 140737488355328)
    (hk : ∀ v' w', OwnE w' base v' (l ++ [b]) → Below base w w' → wpList Try.prog ops Q rest (a.put o.dst v') w') : wpList Try.prog ops Q (o :: rest) a w := by
  refine wpList_plain hgd fun K hK => ?_
  obtain ⟨v', w', hr, h2, h3⟩ := run_append_E h hbase o.type i hi hz hsize hby ad c b hnew hl
  unfold Oper.wp execOp
  simp only [ho, resolve, invoke, builtin, Sem.run_bind, Sem.run_pure, Result.andThen_ok, List.map_toArray, List.map_cons, List.map_nil, hs, hx, hr]
  exact hK _ _ (hk v' w' h2 h3)
end Go.Proofs.Ytijohbohdceggaa
