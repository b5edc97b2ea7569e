/- lexer: escape. -/
import Derived.Test.YtmgmmbikdmobpaaGreatDoorLxPos
import Derived.Test.YtmgmmbikdmobpaaGreatDoorArr
import Derived.Test.YtmgmmbikdmobpaaGreatDoorQuietTail
import Derived.Deep.QuietTactic
import Derived.BigQuiet
namespace Go.Proofs.YtmgmmbikdmobpaaGreatDoor
open Go.RowKit

/-- A hexadecimal digit. -/
def hexd (n : Nat) : UInt8 := if n < 10 then UInt8.ofNat (48 + n) else UInt8.ofNat (87 + n)
/-- The form of a byte in a literal. -/
def esc (b : UInt8) : List UInt8 :=
  if b = 10 then [92, 110] else if b = 34 ∨ b = 92 then [92, b] else if b < 32 ∨ 126 < b then [92, 120, hexd (b.toNat / 16), hexd (b.toNat % 16)] else [b]
theorem run_index_hex (n : Nat) (hn : n < 16) (w : World) : (Instr.index 9 (.string ⟨#[48, 49, 50, 51, 52, 53, 54, 55, 56, 57, 97, 98, 99, 100, 101, 102]⟩) (.int .u8 (n : Int))).run Tryz.prog w = .ok (.int .u8 ((hexd n).toNat : Int)) w := by
  obtain rfl | rfl | rfl | rfl | rfl | rfl | rfl | rfl | rfl | rfl | rfl | rfl | rfl | rfl | rfl | rfl : n = 0 ∨ n = 1 ∨ n = 2 ∨ n = 3 ∨ n = 4 ∨ n = 5 ∨ n = 6 ∨ n = 7 ∨ n = 8 ∨ n = 9 ∨ n = 10 ∨ n = 11 ∨ n = 12 ∨ n = 13 ∨ n = 14 ∨ n = 15 := by omega
  all_goals kernel_rfl
theorem conv_lit (w : World) (l : List UInt8) (n : Nat) (hn : l.length = n) : (convert 48 9 (.slice (some ⟨w.heap.size, 0, none⟩) n n)).run Tryz.prog (w.alloc (.cells (byteCells l).toArray 5)) = .ok (.string ⟨l.toArray⟩) (w.alloc (.cells (byteCells l).toArray 5)) := by
  refine run_bytes_row _ 48 9 5 w.heap.size 0 n n 5 (0, 0) (byteCells l) l Tryz.underlying48 Tryz.underlying5 Tryz.underlying9 (heap_alloc_new w _) hn ?_
  intro j hj
  rw [Nat.zero_add]
  simp [byteCells, List.getD, hn, hj]

set_option maxRecDepth 100000 in
set_option maxHeartbeats 1000000 in
theorem esc_nl (w : World) :
    Calls Tryz.prog 22 #[.int .u8 10] w fun e w' => e = .returned (.string ⟨([92, 110] : List UInt8).toArray⟩) ∧ Below w.heap.size w w' := by
  go_enter Tryz.func22, Tryz.ntmps22
  go_wp2_with fail
  go_ret
  exact ⟨rfl, Below.refl _ _⟩

set_option maxRecDepth 100000 in
set_option maxHeartbeats 1000000 in
theorem esc_q (w : World) :
    Calls Tryz.prog 22 #[.int .u8 34] w fun e w' => e = .returned (.string ⟨([92, 34] : List UInt8).toArray⟩) ∧ Below w.heap.size w w' := by
  have hcv : (convert 48 9 (.slice (some ⟨w.heap.size, 0, none⟩) 2 2)).run Tryz.prog (w.alloc (.cells #[.int .u8 92, .int .u8 34] 5)) = .ok (.string ⟨([92, 34] : List UInt8).toArray⟩) (w.alloc (.cells #[.int .u8 92, .int .u8 34] 5)) := conv_lit w [92, 34] 2 rfl
  go_enter Tryz.func22, Tryz.ntmps22
  go_wp2_with fail
  go_ret
  exact ⟨rfl, (Below.refl _ _).alloc (Nat.le_refl _) _⟩

set_option maxRecDepth 100000 in
set_option maxHeartbeats 1000000 in
theorem esc_b (w : World) :
    Calls Tryz.prog 22 #[.int .u8 92] w fun e w' => e = .returned (.string ⟨([92, 92] : List UInt8).toArray⟩) ∧ Below w.heap.size w w' := by
  have hcv : (convert 48 9 (.slice (some ⟨w.heap.size, 0, none⟩) 2 2)).run Tryz.prog (w.alloc (.cells #[.int .u8 92, .int .u8 92] 5)) = .ok (.string ⟨([92, 92] : List UInt8).toArray⟩) (w.alloc (.cells #[.int .u8 92, .int .u8 92] 5)) := conv_lit w [92, 92] 2 rfl
  go_enter Tryz.func22, Tryz.ntmps22
  go_wp2_with fail
  go_ret
  exact ⟨rfl, (Below.refl _ _).alloc (Nat.le_refl _) _⟩

set_option maxRecDepth 100000 in
set_option maxHeartbeats 1000000 in
theorem esc_lo (b : UInt8) (w : World) (n10 : ((b.toNat : Int) == 10) = false) (n34 : ((b.toNat : Int) == 34) = false) (n92 : ((b.toNat : Int) == 92) = false) (hl : b.toNat < 32) :
    Calls Tryz.prog 22 #[.int .u8 (b.toNat : Int)] w fun e w' => e = .returned (.string ⟨([92, 120, hexd (b.toNat / 16), hexd (b.toNat % 16)] : List UInt8).toArray⟩) ∧ Below w.heap.size w w' := by
  have i1 := fun w => run_index_hex (b.toNat / 16) (by have := b.toNat_lt; omega) w
  have i2 := fun w => run_index_hex (b.toNat % 16) (by omega) w
  rw [show ((b.toNat / 16 : Nat) : Int) = (b.toNat : Int) / 16 by omega] at i1
  rw [show ((b.toNat % 16 : Nat) : Int) = (b.toNat : Int) % 16 by omega] at i2
  have hv : ∀ w : World, (convert 48 9 (.slice (some ⟨w.heap.size, 0, none⟩) 4 4)).run Tryz.prog (w.alloc (.cells #[.int .u8 92, .int .u8 120, .int .u8 ((hexd (b.toNat / 16)).toNat : Int), .int .u8 ((hexd (b.toNat % 16)).toNat : Int)] 5)) = .ok (.string ⟨([92, 120, hexd (b.toNat / 16), hexd (b.toNat % 16)] : List UInt8).toArray⟩) (w.alloc (.cells #[.int .u8 92, .int .u8 120, .int .u8 ((hexd (b.toNat / 16)).toNat : Int), .int .u8 ((hexd (b.toNat % 16)).toNat : Int)] 5)) := fun w => conv_lit w [92, 120, hexd (b.toNat / 16), hexd (b.toNat % 16)] 4 rfl
  have h1 := b.toNat_lt
  generalize hexd (b.toNat / 16) = x at i1 hv ⊢
  generalize hexd (b.toNat % 16) = y at i2 hv ⊢
  have HV := hid hv
  clear hv
  generalize b.toNat = c at *
  go_enter Tryz.func22, Tryz.ntmps22
  go_wp2_with fail
  refine wp_region_quiet_tail 6 (by kernel_rfl) (by kernel_rfl) ?_
  simp only [List.take_succ_cons, List.take_zero, List.drop_succ_cons, List.drop_zero]
  repeat (go_big_quiet_step (fail))
  refine wpQuiet_nil ?_
  intro _ hw'
  obtain ⟨nq, hx⟩ := hw'
  subst hx
  have hcv := HV.out (w.drewN nq)
  rw [show (w.drewN nq).heap.size = w.heap.size from rfl] at hcv
  go_wp2_with fail
  go_ret
  exact ⟨rfl, (below_drawn (Below.refl _ _) nq).alloc (Nat.le_refl _) _⟩

set_option maxRecDepth 100000 in
set_option maxHeartbeats 1000000 in
theorem esc_hi (b : UInt8) (w : World) (n10 : ((b.toNat : Int) == 10) = false) (n34 : ((b.toNat : Int) == 34) = false) (n92 : ((b.toNat : Int) == 92) = false) (hh : 126 < b.toNat) :
    Calls Tryz.prog 22 #[.int .u8 (b.toNat : Int)] w fun e w' => e = .returned (.string ⟨([92, 120, hexd (b.toNat / 16), hexd (b.toNat % 16)] : List UInt8).toArray⟩) ∧ Below w.heap.size w w' := by
  have i1 := fun w => run_index_hex (b.toNat / 16) (by have := b.toNat_lt; omega) w
  have i2 := fun w => run_index_hex (b.toNat % 16) (by omega) w
  rw [show ((b.toNat / 16 : Nat) : Int) = (b.toNat : Int) / 16 by omega] at i1
  rw [show ((b.toNat % 16 : Nat) : Int) = (b.toNat : Int) % 16 by omega] at i2
  have hv : ∀ w : World, (convert 48 9 (.slice (some ⟨w.heap.size, 0, none⟩) 4 4)).run Tryz.prog (w.alloc (.cells #[.int .u8 92, .int .u8 120, .int .u8 ((hexd (b.toNat / 16)).toNat : Int), .int .u8 ((hexd (b.toNat % 16)).toNat : Int)] 5)) = .ok (.string ⟨([92, 120, hexd (b.toNat / 16), hexd (b.toNat % 16)] : List UInt8).toArray⟩) (w.alloc (.cells #[.int .u8 92, .int .u8 120, .int .u8 ((hexd (b.toNat / 16)).toNat : Int), .int .u8 ((hexd (b.toNat % 16)).toNat : Int)] 5)) := fun w => conv_lit w [92, 120, hexd (b.toNat / 16), hexd (b.toNat % 16)] 4 rfl
  have h1 := b.toNat_lt
  generalize hexd (b.toNat / 16) = x at i1 hv ⊢
  generalize hexd (b.toNat % 16) = y at i2 hv ⊢
  have HV := hid hv
  clear hv
  generalize b.toNat = c at *
  go_enter Tryz.func22, Tryz.ntmps22
  go_wp2_with fail
  refine wp_region_quiet_tail 6 (by kernel_rfl) (by kernel_rfl) ?_
  simp only [List.take_succ_cons, List.take_zero, List.drop_succ_cons, List.drop_zero]
  repeat (go_big_quiet_step (fail))
  refine wpQuiet_nil ?_
  intro _ hw'
  obtain ⟨nq, hx⟩ := hw'
  subst hx
  have hcv := HV.out (w.drewN nq)
  rw [show (w.drewN nq).heap.size = w.heap.size from rfl] at hcv
  go_wp2_with fail
  go_ret
  exact ⟨rfl, (below_drawn (Below.refl _ _) nq).alloc (Nat.le_refl _) _⟩

set_option maxRecDepth 100000 in
set_option maxHeartbeats 1000000 in
theorem esc_self (b : UInt8) (w : World) (n10 : ((b.toNat : Int) == 10) = false) (n34 : ((b.toNat : Int) == 34) = false) (n92 : ((b.toNat : Int) == 92) = false) (hl : ¬ b.toNat < 32) (hh : ¬ 126 < b.toNat) :
    Calls Tryz.prog 22 #[.int .u8 (b.toNat : Int)] w fun e w' => e = .returned (.string ⟨([b] : List UInt8).toArray⟩) ∧ Below w.heap.size w w' := by
  have hcv : (convert 48 9 (.slice (some ⟨w.heap.size, 0, none⟩) 1 1)).run Tryz.prog (w.alloc (.cells #[.int .u8 (b.toNat : Int)] 5)) = .ok (.string ⟨([b] : List UInt8).toArray⟩) (w.alloc (.cells #[.int .u8 (b.toNat : Int)] 5)) := conv_lit w [b] 1 rfl
  have h1 := b.toNat_lt
  go_enter Tryz.func22, Tryz.ntmps22
  go_wp2_with fail
  go_ret
  exact ⟨rfl, (Below.refl _ _).alloc (Nat.le_refl _) _⟩

theorem escape_any (b : UInt8) (w : World) :
    Calls Tryz.prog 22 #[.int .u8 (b.toNat : Int)] w fun e w' => e = .returned (.string ⟨(esc b).toArray⟩) ∧ Below w.heap.size w w' := by
  unfold esc
  by_cases h10 : b = 10
  · subst h10; exact esc_nl w
  rw [if_neg h10]
  by_cases h34 : b = 34
  · subst h34; exact esc_q w
  by_cases h92 : b = 92
  · subst h92; exact esc_b w
  rw [if_neg (by simp [h34, h92])]
  have n10 : ((b.toNat : Int) == 10) = false := by rw [beq_eq_false_iff_ne]; exact fun h => h10 (by apply UInt8.toNat_inj.1; show b.toNat = 10; omega)
  have n34 : ((b.toNat : Int) == 34) = false := by rw [beq_eq_false_iff_ne]; exact fun h => h34 (by apply UInt8.toNat_inj.1; show b.toNat = 34; omega)
  have n92 : ((b.toNat : Int) == 92) = false := by rw [beq_eq_false_iff_ne]; exact fun h => h92 (by apply UInt8.toNat_inj.1; show b.toNat = 92; omega)
  by_cases hl : b.toNat < 32
  · rw [if_pos (Or.inl (by rw [UInt8.lt_iff_toNat_lt]; exact hl))]
    exact esc_lo b w n10 n34 n92 hl
  by_cases hh : 126 < b.toNat
  · rw [if_pos (Or.inr (by rw [UInt8.lt_iff_toNat_lt]; exact hh))]
    exact esc_hi b w n10 n34 n92 hh
  rw [if_neg (by rw [UInt8.lt_iff_toNat_lt, UInt8.lt_iff_toNat_lt]; exact fun h => h.elim hl hh)]
  exact esc_self b w n10 n34 n92 hl hh
end Go.Proofs.YtmgmmbikdmobpaaGreatDoor
