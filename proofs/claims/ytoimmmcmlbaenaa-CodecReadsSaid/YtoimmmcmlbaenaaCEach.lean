/- codec: the function that adds all strings of a list. -/
import Derived.Test.YtoimmmcmlbaenaaCText
import Derived.Test.YtoimmmcmlbaenaaStrDef
namespace Go.Proofs.Ytoimmmcmlbaenaa
open Go.RowKit

def encUs (ps : List ByteArray) : List UInt8 := ps.flatMap encU
theorem encUs_take (ps : List ByteArray) (k : Nat) (h : k < ps.length) : encUs (ps.take (k + 1)) = encUs (ps.take k) ++ encU (ps.getD k ByteArray.empty) := by
  unfold encUs
  rw [List.take_succ_eq_append_getElem h, List.flatMap_append]
  simp [List.getD, h]
theorem encUs_le (ps : List ByteArray) (k : Nat) : (encUs (ps.take k)).length ≤ (encUs ps).length := by
  have : encUs ps = encUs (ps.take k) ++ encUs (ps.drop k) := by
    unfold encUs; rw [← List.flatMap_append, List.take_append_drop]
  rw [this]; simp

set_option maxRecDepth 100000 in
set_option maxHeartbeats 1000000 in
theorem each1_any (pl pe : Addr) (vl : Value) (ps : List ByteArray) (B : Nat) (v : Value) (l : List UInt8) (w : World) (hpl : w.cell? pl = some vl) (hpe : w.cell? pe = some (.func (.func 39) #[] #[])) (hvl : StrS w vl ps)
    (hps : ∀ b o n c, vl = .slice (some ⟨b, o, none⟩) n c → 0 < ps.length → b < B) (hpeB : pe.block < B) (ho : OwnB w B v l) (hB : B ≤ w.heap.size) (hb : l.length + (encUs ps).length ≤ 17592186044416) (hn : ps.length ≤ 17592186044416) :
    Calls Try.prog 52 #[v, .pointer (some pl), .pointer (some pe)] w
      fun e w' => (∃ v', e = .returned v' ∧ OwnB w' B v' (l ++ encUs ps)) ∧ Below B w w' := by
  obtain ⟨base, cap, rfl, hcell⟩ := hvl
  have HC := hid (And.intro hcell (And.intro hps (And.intro hpe (And.intro hpeB hB))))
  have HO := hid ho
  clear hcell hps hpe ho hpeB hB
  go_enter Try.func52, Try.ntmps52
  go_wp2_with fail
  go_loopw [0, 9] (fun t i wr => ∃ k : Nat, k ≤ ps.length ∧ i = .int .i64 k ∧ OwnB wr B t (l ++ encUs (ps.take k)) ∧ Below B w wr) (fun _ i _ => ps.length - (intOf i).toNat)
  case atStart => exact ⟨0, by omega, rfl, by simpa [encUs] using HO.out, Below.refl _ _⟩
  case round =>
    clear hpl
    obtain ⟨k, hk, rfl, hown, hbw⟩ := hrel
    by_cases hlt : k < ps.length
    · obtain ⟨b, o, rfl, hc⟩ := HC.out.1 k hlt
      have hbB := HC.out.2.1 b o ps.length cap rfl (by omega)
      have hc2 := (hbw.cell (p := ⟨b, o + k, none⟩) hbB).trans hc
      have hpe2 := (hbw.cell (p := pe) HC.out.2.2.2.1).trans HC.out.2.2.1
      have hnext := encUs_take ps k hlt
      have hle := encUs_le ps (k + 1)
      generalize ps.getD k ByteArray.empty = s at hc hc2 hnext
      have hsl : (encU s).length = (uvL s.size).length + s.size := by unfold encU; rw [List.length_append, size_list]
      rw [hnext, List.length_append, hsl] at hle
      have hBr := Nat.le_trans HC.out.2.2.2.2 hbw.size
      have hne : ∀ t : Value, OwnB wr B t (l ++ encUs (ps.take k)) → some wr.heap.size ≠ t.ownBlock := by
        intro t ht e
        have := (ht.lt _ e.symm).2
        omega
      have hct := fun (t : Value) (ht : OwnB wr B t (l ++ encUs (ps.take k))) => text1_any s ⟨wr.heap.size, 0, none⟩ B t (l ++ encUs (ps.take k)) (wr.alloc (.cells #[.string s] 9)) (by simp [go_sem]) (World.ownsRow.alloc ht _) (alloc_le hBr _) (hne t ht) (by rw [List.length_append]; omega)
      have KC := hid (And.intro (hct _ hown) (And.intro hbw (And.intro hnext hBr)))
      clear hct hne hown hbw hnext hle hsl hBr hc hbB
      go_wp2_with fail
      refine (text_any s wr).mono ?_
      rintro e w2 ⟨rfl, rfl⟩
      clear hc2 hpe2
      go_wp2_with fail
      refine KC.out.1.mono ?_
      rintro e w3 ⟨⟨v', rfl, ho3⟩, hb3⟩
      have KN := hid (And.intro ho3 (KC.out.2.1.trans (((Below.refl B wr).alloc KC.out.2.2.2 _).trans hb3)))
      clear ho3 hb3
      go_wp2_with fail
      go_roundw
      case rel =>
        refine ⟨k + 1, by omega, by go_num, ?_, KN.out.2⟩
        rw [KC.out.2.2.1, ← List.append_assoc]
        have h1 := KN.out.1
        rw [List.append_assoc (l ++ encUs (ps.take k))] at h1
        exact h1
      case measure => simp [intOf]; omega
    · obtain rfl : k = ps.length := by omega
      rw [List.take_length] at hown
      have KC := hid (And.intro hown hbw)
      clear hown hbw
      go_wp2_with fail
      go_ret
      exact ⟨⟨_, rfl, KC.out.1⟩, KC.out.2⟩
end Go.Proofs.Ytoimmmcmlbaenaa
