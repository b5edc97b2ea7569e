/- A []string argument, and 'append([]string{..}, parts...)' (a layer without sha256). -/
import Derived.Test.YtoimmmcmlbaenaaFewB
import Derived.Laws.AppendOwnNone
import Derived.Deep.AppendLies
namespace Go.Proofs.Ytoimmmcmlbaenaa
open Go.RowKit

/-- v is nil, or a slice of the strings ps. -/
def StrN (w : World) (v : Value) (ps : List ByteArray) : Prop :=
  (v = .slice none 0 0 ∧ ps = []) ∨ ∃ (a : Addr) (cap : Nat), v = .slice (some a) ps.length cap ∧ ∀ i, i < ps.length → w.cell? (a.add i) = some (.string (ps.getD i ByteArray.empty))
theorem spot_none {w : World} {a : Addr} {v : Value} (h : w.cell? a = some v) : a.spot = none := by
  cases hs : a.spot with
  | none => rfl
  | some s => simp [World.cell?, hs] at h; split at h <;> simp at h
theorem StrN_S {w : World} {v : Value} {ps : List ByteArray} (h : StrN w v ps) : StrS w v ps := by
  rcases h with ⟨rfl, rfl⟩ | ⟨a, cap, rfl, hc⟩
  · exact ⟨none, 0, rfl, fun i hi => absurd hi (by simp)⟩
  · refine ⟨some a, cap, rfl, fun i hi => ?_⟩
    have h0 := hc 0 (by omega)
    rw [Addr.add_zero'] at h0
    have hs := spot_none h0
    obtain ⟨b, o, s⟩ := a
    subst hs
    refine ⟨b, o, rfl, ?_⟩
    have := hc i hi
    rwa [Addr.add_lit] at this
theorem block_lt_any {w : World} {a : Addr} {v : Value} (h : w.cell? a = some v) : a.block < w.heap.size := World.block_lt_of_cell? w a h
theorem StrN_below {w w' : World} {v : Value} {ps : List ByteArray} (h : StrN w v ps) (hb : Below w.heap.size w w') : StrN w' v ps := by
  rcases h with h | ⟨a, cap, hv, hc⟩
  · exact Or.inl h
  · refine Or.inr ⟨a, cap, hv, fun i hi => ?_⟩
    have := hc i hi
    exact (hb.cell (block_lt_any this)).trans this

theorem infoStr : (Try.prog.info? 9).map (fun i => (i.zero, i.size, i.bytes)) = some (some (.string ByteArray.empty), 1, 16) := by kernel_rfl
theorem own_lit (w : World) (ts : List ByteArray) (hm : ts.length ≤ 1048576) : (w.alloc (.cells (ts.map Value.string).toArray 9)).ownsRow w.heap.size 9 1 (.slice (some ⟨w.heap.size, 0, none⟩) ts.length ts.length) ts.length (ts.map Value.string) :=
  ⟨by simp, .inr ⟨w.heap.size, ts.length, (ts.map Value.string).toArray, rfl, Nat.le_refl _, heap_alloc_new w _, Nat.le_refl _, by unfold maxLen; omega, by simp, by simp; exact List.take_of_length_le (by simp)⟩⟩

theorem own_strs {w : World} {base : Nat} {v : Value} {n : Nat} {ps : List ByteArray} (h : w.ownsRow base 9 1 v n (ps.map Value.string)) (hn : n = ps.length) (h0 : 0 < n) : StrS w v ps := by
  obtain ⟨g, cap, rfl, hb, hg⟩ := h.form h0
  subst hn
  refine ⟨some ⟨g, 0, none⟩, cap, rfl, fun i hi => ⟨g, 0, rfl, ?_⟩⟩
  rw [Nat.zero_add, h.cellAt i (by omega)]
  simp [List.getD, hi]

theorem wpList_append_strs {ops : Array Oper} {rest : List Oper} {o : Oper} {a : Act} {w : World} {Q : Exit → Act → World → Prop} (hgd : o.guard = none) (s x : Operand)
    (ho : o.op = .call { callee := .builtin .append, args := #[s, x], argTypes := #[22, 22] })
    {base : Nat} {v0 v : Value} {ts ps : List ByteArray} (hts : 0 < ts.length) (htm : ts.length ≤ 1048576) (hs : a.eval s = v0) (hown : w.ownsRow base 9 1 v0 ts.length (ts.map Value.string)) (hbase : base ≤ w.heap.size)
    (hx : a.eval x = v) (hN : StrN w v ps) (hm : ps.length ≤ 1048576)
    (hk : ∀ v' w', StrS w' v' (ts ++ ps) → w.grownBy w' v0.ownBlock → wpList Try.prog ops Q rest (a.put o.dst v') w') : wpList Try.prog ops Q (o :: rest) a w := by
  obtain ⟨i0, hi, hz0, hz1, hz2⟩ := info_parts infoStr
  rcases hN with ⟨rfl, rfl⟩ | ⟨ad, cap, rfl, hc⟩
  · refine wpList_append_own_none hgd s x 22 ho base 9 i0 1 Try.underlying22 hi v0 ts.length _ hs hown hx ?_
    exact hk v0 w (by rw [List.append_nil]; exact own_strs hown rfl hts) (World.grownBy.refl _ _)
  · refine wpList_append_own w hgd s x 22 ho base 9 i0 (.string ByteArray.empty) 1 16 Try.underlying22 hi hz0 hz1 hz2 rfl (by decide) v0 ts.length (ts.map Value.string) hs hown ad ps.length cap (ps.map Value.string) hx (by simp) ?_ ?_ (by unfold maxLen; omega) (by omega) hbase ?_
    · intro j u hj
      obtain ⟨hjl, hj2⟩ := List.getElem?_eq_some_iff.1 hj
      rw [List.length_map] at hjl
      rw [hc j hjl, ← hj2]
      simp [List.getD, hjl]
    · intro u hu
      obtain ⟨p, _, rfl⟩ := List.mem_map.1 hu
      rfl
    · intro v' w' ho' hg _
      rw [← List.map_append] at ho'
      exact hk v' w' (own_strs (ps := ts ++ ps) ho' (by rw [List.length_append]) (by omega)) hg
end Go.Proofs.Ytoimmmcmlbaenaa
