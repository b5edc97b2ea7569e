/- codec: Text. -/
import Derived.Test.YtoimmmcmlbaenaaTx
import Derived.Test.YtoimmmcmlbaenaaCInt
namespace Go.Proofs.Ytoimmmcmlbaenaa
open Go.RowKit

/-- A string's bytes: its length, itself. -/
def encU (s : ByteArray) : List UInt8 := uvL s.size ++ s.data.toList

set_option maxRecDepth 100000 in
set_option maxHeartbeats 1000000 in
theorem written_text (s : ByteArray) (p : Addr) (g : Nat) (w : World) (hs : s.size ≤ 35184372088832) (hp : w.cell? p = some (.string s)) (hg : w.cell? ⟨g, 0, none⟩ = some (.func (.func 51) #[] #[.pointer (some p)])) :
    Calls Try.prog 36 #[.slice (some ⟨g, 0, none⟩) 1 1] w
      fun e w' => e = .returned (.string ⟨(encU s).toArray⟩) ∧ Below w.heap.size w w' := by
  have hn1 := text1_any s p w.heap.size (.slice none 0 0) [] w hp (OwnB_nil _ _) (Nat.le_refl _) (by simp [Value.ownBlock]) (by simp; omega)
  simp only [List.nil_append] at hn1
  have HN := hid hn1
  clear hn1
  go_enter Try.func36, Try.ntmps36
  go_wp2_with fail
  go_loopw [3, 8] (fun t i wr => (i = .int .i64 0 ∧ t = .slice none 0 0 ∧ wr = w) ∨ (i = .int .i64 1 ∧ OwnB wr w.heap.size t (encU s) ∧ Below w.heap.size w wr)) (fun _ i _ => 1 - (intOf i).toNat)
  case atStart => exact Or.inl ⟨rfl, rfl, rfl⟩
  case round =>
    rcases hrel with ⟨rfl, rfl, rfl⟩ | ⟨rfl, ho, hb⟩
    · go_wp2_with fail
      refine HN.out.mono ?_
      rintro e w2 ⟨⟨v', rfl, ho⟩, hb⟩
      have KO := hid (And.intro ho hb)
      clear ho hb
      go_wp2_with fail
      go_roundw
      case rel => exact Or.inr ⟨by go_num, KO.out.1, KO.out.2⟩
      case measure => simp [intOf]
    · have hcv := OwnB_string ho
      have KB := hid hb
      clear ho hb
      go_wp2_with fail
      go_ret
      exact ⟨rfl, KB.out⟩
/-- written of one string, its function made just now. -/
theorem written_tmade (s : ByteArray) (w : World) (hs : s.size ≤ 35184372088832) :
    Calls Try.prog 36 #[.slice (some ⟨w.heap.size + 1, 0, none⟩) 1 1] ((w.alloc (.cells #[.string s] 9)).alloc (.cells #[.func (.func 51) #[] #[.pointer (some ⟨w.heap.size, 0, none⟩)]] 67))
      fun e w' => e = .returned (.string ⟨(encU s).toArray⟩) ∧ Below w.heap.size w w' := by
  have h := written_text s ⟨w.heap.size, 0, none⟩ (w.heap.size + 1) ((w.alloc (.cells #[.string s] 9)).alloc (.cells #[.func (.func 51) #[] #[.pointer (some ⟨w.heap.size, 0, none⟩)]] 67)) hs (by simp [go_sem]) (by simp [go_sem])
  refine h.mono fun e w' ⟨he, hb⟩ => ⟨he, ?_⟩
  have h1 : Below w.heap.size w ((w.alloc (.cells #[.string s] 9)).alloc (.cells #[.func (.func 51) #[] #[.pointer (some ⟨w.heap.size, 0, none⟩)]] 67)) := ((Below.refl _ _).alloc (Nat.le_refl _) _).alloc (alloc_le (Nat.le_refl _) _) _
  exact h1.trans (hb.mono h1.size)

set_option maxRecDepth 100000 in
set_option maxHeartbeats 1000000 in
theorem ctext_any (s : ByteArray) (w : World) (hs : s.size ≤ 35184372088832) :
    Calls Try.prog 16 #[.string s] w
      fun e w' => e = .returned (.string ⟨(encU s).toArray⟩) ∧ Below w.heap.size w w' := by
  have hm := written_tmade s w hs
  have HM := hid hm
  clear hm
  go_enter Try.func16, Try.ntmps16
  go_wp2_with fail
  refine (text_any s w).mono ?_
  rintro e w2 ⟨rfl, rfl⟩
  go_wp2_with fail
  refine HM.out.mono ?_
  rintro e w3 ⟨rfl, hb⟩
  have KB := hid hb
  clear hb
  go_wp2_with fail
  go_ret
  exact ⟨rfl, KB.out⟩
end Go.Proofs.Ytoimmmcmlbaenaa
