/- A []string argument, and 'append([]string{tag}, parts...)'. -/
import Derived.Test.YtijohbohdceggaaFew
import Derived.Laws.AppendOwnNone
import Derived.Deep.AppendLies
namespace Go.Proofs.Ytijohbohdceggaa
open Go.RowKit

/-- v is nil, or a slice of the strings ps. -/
def StrN (w : World) (v : Value) (ps : List ByteArray) : Prop :=
  (v = .slice none 0 0 ∧ ps = []) ∨ ∃ (a : Addr) (cap : Nat), v = .slice (some a) ps.length cap ∧ ∀ i, i < ps.length → w.cell? (a.add i) = some (.string (ps.getD i ByteArray.empty))
theorem spot_none {w : World} {a : Addr} {v : Value} (h : w.cell? a = some v) : a.spot = none := by
  cases hs : a.spot with
  | none => rfl
  | some s => simp [World.cell?, hs] at h; split at h <;> simp at h
theorem StrN_S {w : World} {v : Value} {ps : List ByteArray} (h : StrN w v ps) : StrS w v ps := by
  rcases h with ⟨rfl, rfl⟩ | ⟨a, cap, rfl, hc⟩
  · exact ⟨none, 0, rfl, fun i hi => absurd hi (by simp)⟩
  · refine ⟨some a, cap, rfl, fun i hi => ?_⟩
    have h0 := hc 0 (by omega)
    rw [Addr.add_zero'] at h0
    have hs := spot_none h0
    obtain ⟨b, o, s⟩ := a
    subst hs
    refine ⟨b, o, rfl, ?_⟩
    have := hc i hi
    rwa [Addr.add_lit] at this
theorem block_lt_any {w : World} {a : Addr} {v : Value} (h : w.cell? a = some v) : a.block < w.heap.size := World.block_lt_of_cell? w a h
theorem StrN_below {w w' : World} {v : Value} {ps : List ByteArray} (h : StrN w v ps) (hb : Below w.heap.size w w') : StrN w' v ps := by
  rcases h with h | ⟨a, cap, hv, hc⟩
  · exact Or.inl h
  · refine Or.inr ⟨a, cap, hv, fun i hi => ?_⟩
    have := hc i hi
    exact (hb.cell (block_lt_any this)).trans this

theorem infoStr : (Try.prog.info? 9).map (fun i => (i.zero, i.size, i.bytes)) = some (some (.string ByteArray.empty), 1, 16) := by kernel_rfl
theorem own_one (w : World) (s : ByteArray) : (w.alloc (.cells #[.string s] 9)).ownsRow w.heap.size 9 1 (.slice (some ⟨w.heap.size, 0, none⟩) 1 1) 1 [.string s] :=
  ⟨rfl, .inr ⟨w.heap.size, 1, #[.string s], rfl, Nat.le_refl _, heap_alloc_new w _, Nat.le_refl _, by unfold maxLen; omega, rfl, rfl⟩⟩

theorem own_strs {w : World} {base : Nat} {v : Value} {n : Nat} {ps : List ByteArray} (h : w.ownsRow base 9 1 v n (ps.map Value.string)) (hn : n = ps.length) (h0 : 0 < n) : StrS w v ps := by
  obtain ⟨g, cap, rfl, hb, hg⟩ := h.form h0
  subst hn
  refine ⟨some ⟨g, 0, none⟩, cap, rfl, fun i hi => ⟨g, 0, rfl, ?_⟩⟩
  rw [Nat.zero_add, h.cellAt i (by omega)]
  simp [List.getD, hi]

theorem wpList_append_strs {ops : Array Oper} {rest : List Oper} {o : Oper} {a : Act} {w : World} {Q : Exit → Act → World → Prop} (hgd : o.guard = none) (s x : Operand)
    (ho : o.op = .call { callee := .builtin .append, args := #[s, x], argTypes := #[25, 25] })
    {base : Nat} {v0 v : Value} {tag : ByteArray} {ps : List ByteArray} (hs : a.eval s = v0) (hown : w.ownsRow base 9 1 v0 1 [.string tag]) (hbase : base ≤ w.heap.size)
    (hx : a.eval x = v) (hN : StrN w v ps) (hm : ps.length ≤ 1048576)
    (hk : ∀ v' w', StrS w' v' (tag :: ps) → w.grownBy w' v0.ownBlock → wpList Try.prog ops Q rest (a.put o.dst v') w') : wpList Try.prog ops Q (o :: rest) a w := by
  obtain ⟨i0, hi, hz0, hz1, hz2⟩ := info_parts infoStr
  rcases hN with ⟨rfl, rfl⟩ | ⟨ad, cap, rfl, hc⟩
  · refine wpList_append_own_none hgd s x 25 ho base 9 i0 1 Try.underlying25 hi v0 1 _ hs hown hx ?_
    exact hk v0 w (own_strs (ps := [tag]) hown rfl (by omega)) (World.grownBy.refl _ _)
  · refine wpList_append_own w hgd s x 25 ho base 9 i0 (.string ByteArray.empty) 1 16 Try.underlying25 hi hz0 hz1 hz2 rfl (by decide) v0 1 [.string tag] hs hown ad ps.length cap (ps.map Value.string) hx (by simp) ?_ ?_ (by unfold maxLen; omega) (by omega) hbase ?_
    · intro j u hj
      obtain ⟨hjl, hj2⟩ := List.getElem?_eq_some_iff.1 hj
      rw [List.length_map] at hjl
      rw [hc j hjl, ← hj2]
      simp [List.getD, hjl]
    · intro u hu
      obtain ⟨p, _, rfl⟩ := List.mem_map.1 hu
      rfl
    · intro v' w' ho' hg _
      exact hk v' w' (own_strs (ps := tag :: ps) ho' (by rw [List.length_cons]; omega) (by omega)) hg
end Go.Proofs.Ytijohbohdceggaa
