/- A slice of strings, for a layer without sha256. -/
import Derived.Test.YtoimmmcmlbaenaaBase
namespace Go.Proofs.Ytoimmmcmlbaenaa
open Go.RowKit

/-- v is a slice of the strings ps. -/
def StrS (w : World) (v : Value) (ps : List ByteArray) : Prop :=
  ∃ base cap, v = .slice base ps.length cap ∧ ∀ i, i < ps.length → ∃ b o, base = some ⟨b, o, none⟩ ∧ w.cell? ⟨b, o + i, none⟩ = some (.string (ps.getD i ByteArray.empty))
theorem StrS_below {w w' : World} {B : Nat} {v : Value} {ps : List ByteArray} (h : StrS w v ps) (hb : Below B w w') (hB : w.heap.size ≤ B) : StrS w' v ps := by
  obtain ⟨base, cap, hv, hc⟩ := h
  refine ⟨base, cap, hv, fun i hi => ?_⟩
  obtain ⟨b, o, hbo, h1⟩ := hc i hi
  exact ⟨b, o, hbo, (hb.cell (p := ⟨b, o + i, none⟩) (Nat.lt_of_lt_of_le (World.block_lt_of_cell? w ⟨b, o + i, none⟩ h1) hB)).trans h1⟩
end Go.Proofs.Ytoimmmcmlbaenaa
