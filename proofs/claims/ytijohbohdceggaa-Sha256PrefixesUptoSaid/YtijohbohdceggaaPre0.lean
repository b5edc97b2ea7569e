/- 'append([]string{tag}, parts...)', its row told; a builder under a call that makes memory alone. -/
import Derived.Test.YtijohbohdceggaaStrs
import Derived.Test.YtijohbohdceggaaShelf2
import Derived.Test.YtijohbohdceggaaClo
namespace Go.Proofs.Ytijohbohdceggaa
open Go.RowKit

theorem wpList_append_strs_own {ops : Array Oper} {rest : List Oper} {o : Oper} {a : Act} {w : World} {Q : Exit → Act → World → Prop} (hgd : o.guard = none) (s x : Operand)
    (ho : o.op = .call { callee := .builtin .append, args := #[s, x], argTypes := #[25, 25] })
    {base : Nat} {v0 v : Value} {tag : ByteArray} {ps : List ByteArray} (hs : a.eval s = v0) (hown : w.ownsRow base 9 1 v0 1 [.string tag]) (hbase : base ≤ w.heap.size)
    (hx : a.eval x = v) (hN : StrN w v ps) (hm : ps.length ≤ 1048576)
    (hk : ∀ v' w', w'.ownsRow base 9 1 v' (ps.length + 1) ((tag :: ps).map Value.string) → w.grownBy w' v0.ownBlock → wpList Try.prog ops Q rest (a.put o.dst v') w') : wpList Try.prog ops Q (o :: rest) a w := by
  obtain ⟨i0, hi, hz0, hz1, hz2⟩ := info_parts infoStr
  rcases hN with ⟨rfl, rfl⟩ | ⟨ad, cap, rfl, hc⟩
  · refine wpList_append_own_none hgd s x 25 ho base 9 i0 1 Try.underlying25 hi v0 1 _ hs hown hx ?_
    exact hk v0 w hown (World.grownBy.refl _ _)
  · refine wpList_append_own w hgd s x 25 ho base 9 i0 (.string ByteArray.empty) 1 16 Try.underlying25 hi hz0 hz1 hz2 rfl (by decide) v0 1 [.string tag] hs hown ad ps.length cap (ps.map Value.string) hx (by simp) ?_ ?_ (by unfold maxLen; omega) (by omega) hbase ?_
    · intro j u hj
      obtain ⟨hjl, hj2⟩ := List.getElem?_eq_some_iff.1 hj
      rw [List.length_map] at hjl
      rw [hc j hjl, ← hj2]
      simp [List.getD, hjl]
    · intro u hu
      obtain ⟨p, _, rfl⟩ := List.mem_map.1 hu
      rfl
    · intro v' w' ho' hg _
      exact hk v' w' (by rw [Nat.add_comm]; exact ho') hg

theorem own_one2 (w : World) (o : Obj) (s : ByteArray) : ((w.alloc o).alloc (.cells #[.string s] 9)).ownsRow (w.heap.size + 1) 9 1 (.slice (some ⟨w.heap.size + 1, 0, none⟩) 1 1) 1 [.string s] := by
  have h := own_one (w.alloc o) s
  have e : (w.alloc o).heap.size = w.heap.size + 1 := by simp
  rwa [e] at h
theorem alloc_ge {B : Nat} {w : World} (h : B ≤ w.heap.size) (o : Obj) : B ≤ (w.alloc o).heap.size := by simp; omega
theorem IsBuilderF_below {T e : TypeId} {B b : Nat} {bs : List Value} {w w' : World} (h : Lib.IsBuilderF T e B b bs w) (hb : Below w.heap.size w w') : Lib.IsBuilderF T e B b bs w' := by
  have one : ∀ p, Lib.BuilderAtF T e B b p bs w → Lib.BuilderAtF T e B b p bs w' := by
    rintro p ⟨hB, v, hg, ho, hne⟩
    refine ⟨hB, v, (hb.block b (Array.getElem?_eq_some_iff.1 hg).1).trans hg, ho.kept (gb_of_below hb) ?_, hne⟩
    cases hv : v.ownBlock with
    | none => exact Or.inl rfl
    | some g => exact Or.inr (by simp)
  exact h.imp (one _) (one _)
theorem builder_fresh {w : World} {b : Nat} (h : w.heap[b]? = some (.cells #[.pointer none, .slice none 0 0] 46 (0, 0))) : Lib.IsBuilderF 46 5 b b (Lib.byteCells []) w :=
  Or.inl ⟨Nat.le_refl _, .slice none 0 0, h, World.ownsRowF_nil _ _ _ _, by simp [Value.ownBlock]⟩
theorem others_row {w w' : World} {b g : Nat} {cur : Array Value} (h : Lib.OthersKept 5 (some b) w w') (hg : w.heap[g]? = some (.cells cur 9 (0, 0))) (hne : g ≠ b) : w'.heap[g]? = some (.cells cur 9 (0, 0)) :=
  h g _ hg (by intro e; injection e with e; exact hne e) (fun c fz e => by injection e with _ e _; exact absurd e (by decide))
end Go.Proofs.Ytijohbohdceggaa
