/- codec: written(number(n)). -/
import Derived.Test.YtoimmmcmlbaenaaUv
namespace Go.Proofs.Ytoimmmcmlbaenaa
open Go.RowKit

theorem OwnB_string {w : World} {B : Nat} {v : Value} {l : List UInt8} (h : OwnB w B v l) : (convert 52 9 v).run Try.prog w = .ok (.string ⟨l.toArray⟩) w :=
  own_string (P := Try.prog) w 52 9 5 B v _ _ Try.underlying52 Try.underlying5 Try.underlying9 h

set_option maxRecDepth 100000 in
set_option maxHeartbeats 1000000 in
theorem written_number (n : Nat) (p : Addr) (g : Nat) (w : World) (hn : n < 18446744073709551616) (hp : w.cell? p = some (.int .u64 (n : Int))) (hg : w.cell? ⟨g, 0, none⟩ = some (.func (.func 50) #[] #[.pointer (some p)])) :
    Calls Try.prog 36 #[.slice (some ⟨g, 0, none⟩) 1 1] w
      fun e w' => e = .returned (.string ⟨(uvL n).toArray⟩) ∧ Below w.heap.size w w' := by
  have hn1 := number1_any n p w.heap.size (.slice none 0 0) [] w hn hp (OwnB_nil _ _) (Nat.le_refl _) (by simp)
  have HN := hid hn1
  clear hn1
  go_enter Try.func36, Try.ntmps36
  go_wp2_with fail
  go_loopw [3, 8] (fun t i wr => (i = .int .i64 0 ∧ t = .slice none 0 0 ∧ wr = w) ∨ (i = .int .i64 1 ∧ OwnB wr w.heap.size t (uvL n) ∧ Below w.heap.size w wr)) (fun _ i _ => 1 - (intOf i).toNat)
  case atStart => exact Or.inl ⟨rfl, rfl, rfl⟩
  case round =>
    rcases hrel with ⟨rfl, rfl, rfl⟩ | ⟨rfl, ho, hb⟩
    · go_wp2_with fail
      refine HN.out.mono ?_
      rintro e w2 ⟨⟨v', rfl, ho⟩, hb⟩
      have KO := hid (And.intro ho hb)
      clear ho hb
      go_wp2_with fail
      go_roundw
      case rel => exact Or.inr ⟨by go_num, KO.out.1, KO.out.2⟩
      case measure => simp [intOf]
    · have hcv := OwnB_string ho
      have KB := hid hb
      clear ho hb
      go_wp2_with fail
      go_ret
      exact ⟨rfl, KB.out⟩
end Go.Proofs.Ytoimmmcmlbaenaa
