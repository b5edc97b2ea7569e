/- What the second form's bound gives: of a []string argument, of a string. -/
import Derived.Test.YtoimmmcmlbaenaaRows
import Derived.Test.YtoimmmcmlbaenaaStrsB
import Derived.SliceStrings
import Derived.OpenShut
import Derived.ProofKit
namespace Go.Proofs.Ytoimmmcmlbaenaa
open Go.ChangeShapes Go.WideShapes Go.ChangeAt Go.RowKit

theorem bulk_strs {H : Type} (l : List ByteArray) : Rows.uptoBulkAll (strs (H := H) l) = l.length + sizes l := by
  induction l with
  | nil => rfl
  | cons s l ih =>
    have e : strs (H := H) (s :: l) = .lit (.string s.data.toList) :: strs l := rfl
    rw [e, Rows.uptoBulkAll, ih, Rows.uptoBulk, sizes_cons, List.length_cons]
    have : s.data.toList.length = s.size := by rw [Array.length_toList]; rfl
    omega
theorem bulk_part {H : Type} {d : DataW H} {l : List (DataW H)} (h : d ∈ l) : Rows.uptoBulk d ≤ Rows.uptoBulkAll l := by
  induction l with
  | nil => cases h
  | cons x r ih =>
    simp only [Rows.uptoBulkAll]
    cases List.mem_cons.1 h with
    | inl e => subst e; omega
    | inr e => have := ih e; omega
theorem cellsStr : Try.prog.cellsOf 9 = 1 := by kernel_rfl

theorem open_strN {H : Type} {enc : TypeId × Value → H} {W : World} {base : Nat} {v : Value} {d : DataW H} {p : List MemPlace} (hval : Value.okWide Try.prog W .any base 22 v)
    (h : DataW.Trod enc Try.prog W 0 (fun _ => true) true 22 v d p) : ∃ ps, StrN W v ps ∧ ps.length + sizes ps + 1 ≤ Rows.uptoBulk d := by
  obtain ⟨c, len, cap, rfl⟩ := okWide_slice Try.underlying22 hval
  obtain ⟨fuel, hf⟩ := h
  rcases open_strings Try.underlying22 Try.underlying9 cellsStr hf with ⟨hcs, hx⟩ | ⟨a, len', cap', ss, hcs, _, hl, hm, hz, hx, hcell, hsz⟩
  · have hv : Value.slice c len cap = .slice none 0 0 := by
      have : [Value.slice c len cap] = [.slice none 0 0] := hcs
      injection this
    injection hx with hx _
    subst hx
    exact ⟨[], Or.inl ⟨hv, rfl⟩, by simp [sizes, Rows.uptoBulk]⟩
  · have hv : Value.slice c len cap = .slice (some a) len' cap' := by
      have : [Value.slice c len cap] = [.slice (some a) len' cap'] := hcs
      injection this
    injection hx with hx _
    subst hx
    rw [if_pos rfl] at hz
    refine ⟨ss.take len', Or.inr ⟨a, cap', ?_, fun i hi => ?_⟩, ?_⟩
    · rw [hv, List.length_take, Nat.min_eq_left (by omega)]
    · rw [List.length_take] at hi
      rw [hcell i (by omega)]
      congr 2
      simp only [List.getD]
      rw [List.getElem?_take, if_pos (by omega)]
    · rw [Rows.uptoBulk, bulk_strs]
      omega
end Go.Proofs.Ytoimmmcmlbaenaa
