/- What the second form gives: a []string argument with its capacity, a []bool argument. -/
import Derived.Test.YtijohbohdceggaaBulk
import Derived.Test.YtijohbohdceggaaStrm
import Derived.Deep.Grids
namespace Go.Proofs.Ytijohbohdceggaa
open Go.ChangeShapes Go.WideShapes Go.ChangeAt Go.RowKit

theorem open_strM {H : Type} {enc : TypeId × Value → H} {W : World} {base : Nat} {v : Value} {d : DataW H} {p : List MemPlace} (hval : Value.okWide Try.prog W .any base 25 v)
    (h : DataW.Trod enc Try.prog W 0 (fun _ => true) true 25 v d p) : ∃ ps, (StrN W v ps ∧ capOk v) ∧ ps.length + sizes ps + 1 ≤ Rows.uptoBulk d := by
  obtain ⟨ps, h1, h2⟩ := open_strN hval h
  refine ⟨ps, ⟨h1, ?_⟩, h2⟩
  obtain ⟨c, len, cap, rfl⟩ := okWide_slice Try.underlying25 hval
  obtain ⟨fuel, hf⟩ := h
  rcases open_strings Try.underlying25 Try.underlying9 cellsStr hf with ⟨hcs, _⟩ | ⟨a, len', cap', ss, hcs, _, hl, _⟩
  · have : [Value.slice c len cap] = [.slice none 0 0] := hcs
    injection this with h0
    injection h0 with _ h3 h4
    show len ≤ cap
    omega
  · have : [Value.slice c len cap] = [.slice (some a) len' cap'] := hcs
    injection this with h0
    injection h0 with _ h3 h4
    show len ≤ cap
    omega
theorem cellsBool : Try.prog.cellsOf 4 = 1 := by kernel_rfl

theorem open_boolN {H : Type} {enc : TypeId × Value → H} {W : World} {base : Nat} {v : Value} {d : DataW H} {p : List MemPlace} (hval : Value.okWide Try.prog W .any base 36 v)
    (h : DataW.Trod enc Try.prog W 0 (fun _ => true) true 36 v d p) : ∃ n, BoolN W v n ∧ 1 ≤ Rows.uptoBulk d := by
  have hb : ∀ d : DataW H, 1 ≤ Rows.uptoBulk d := by
    intro d
    cases d with
    | lit l => cases l <;> simp [Rows.uptoBulk]
    | nil => simp [Rows.uptoBulk]
    | ptr d => simp [Rows.uptoBulk]
    | slice elems spare => simp [Rows.uptoBulk]
    | agg parts => simp [Rows.uptoBulk]
    | iface t d => simp [Rows.uptoBulk]
    | map entries => simp [Rows.uptoBulk]
    | held h => simp [Rows.uptoBulk]
  obtain ⟨c, len, cap, rfl⟩ := okWide_slice Try.underlying36 hval
  obtain ⟨fuel, hf⟩ := h
  rcases Go.Deep.open_bools Try.underlying36 Try.underlying4 cellsBool hf with ⟨hcs, _⟩ | ⟨a, len', cap', B, hcs, _, hl, hm, _, hcell⟩
  · have hv : Value.slice c len cap = .slice none 0 0 := by
      have : [Value.slice c len cap] = [.slice none 0 0] := hcs
      injection this
    exact ⟨0, Or.inl ⟨hv, rfl⟩, hb _⟩
  · have hv : Value.slice c len cap = .slice (some a) len' cap' := by
      have : [Value.slice c len cap] = [.slice (some a) len' cap'] := hcs
      injection this
    exact ⟨len', Or.inr ⟨a, cap', hv, by omega, fun i hi => ⟨B i, hcell i (by omega)⟩⟩, hb _⟩
end Go.Proofs.Ytijohbohdceggaa
