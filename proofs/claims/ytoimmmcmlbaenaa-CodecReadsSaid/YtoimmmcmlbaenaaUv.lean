/- codec: a number's bytes; the function that adds them. -/
import Derived.Test.YtoimmmcmlbaenaaBase
namespace Go.Proofs.Ytoimmmcmlbaenaa
open Go.RowKit

/-- A number's bytes: groups of seven bits, the least first; each but the last one bears a mark. -/
def uvL (n : Nat) : List UInt8 := if n < 128 then [UInt8.ofNat n] else UInt8.ofNat (n % 128 + 128) :: uvL (n / 128)
  termination_by n
  decreasing_by omega
theorem uvL_less (n : Nat) (h : n < 128) : uvL n = [UInt8.ofNat n] := by rw [uvL, if_pos h]
theorem uvL_more (n : Nat) (h : ¬ n < 128) : uvL n = UInt8.ofNat (n % 128 + 128) :: uvL (n / 128) := by rw [uvL, if_neg h]
theorem uvL_length (k : Nat) : ∀ n : Nat, n < 128 ^ (k + 1) → (uvL n).length ≤ k + 1 := by
  induction k with
  | zero => intro n h; rw [uvL_less n (by simpa using h)]; simp
  | succ k ih =>
    intro n h
    by_cases hn : n < 128
    · rw [uvL_less n hn]; simp
    · rw [uvL_more n hn, List.length_cons]
      have := ih (n / 128) (by rw [Nat.div_lt_iff_lt_mul (by omega)]; rw [Nat.pow_succ] at h; exact h)
      omega
theorem uvL_ten (n : Nat) (h : n < 18446744073709551616) : (uvL n).length ≤ 10 := uvL_length 9 n (by omega)
theorem mark_byte (m : Nat) : bits .or .u8 (IntKind.u8.wrap (m : Int)) 128 = ((UInt8.ofNat (m % 128 + 128)).toNat : Int) := by
  have e : IntKind.u8.wrap (m : Int) = ((m % 256 : Nat) : Int) := by rw [IntKind.wrap_u8]; omega
  rw [e, u8_or _ _ (by omega) (by omega) (by omega) (by omega)]
  have key : ∀ x : Fin 256, x.val ||| 128 = x.val % 128 + 128 := by decide +kernel
  have h2 := key ⟨m % 256, by omega⟩
  simp only at h2
  have h3 : (UInt8.ofNat (m % 128 + 128)).toNat = m % 128 + 128 := UInt8.toNat_ofNat_of_lt' (by show m % 128 + 128 < 256; omega)
  rw [h3]
  have h4 : (((m % 256 : Nat) : Int)).toNat = m % 256 := by omega
  rw [h4]
  have h5 : (128 : Int).toNat = 128 := rfl
  rw [h5, h2]
  omega
theorem last_byte (m : Nat) (h : m < 128) : IntKind.u8.wrap (m : Int) = ((UInt8.ofNat m).toNat : Int) := by
  rw [IntKind.wrap_u8, UInt8.toNat_ofNat_of_lt' (by show m < 256; omega)]
  omega

set_option maxRecDepth 100000 in
set_option maxHeartbeats 1000000 in
theorem number1_any (n : Nat) (p : Addr) (B : Nat) (v : Value) (l : List UInt8) (w : World) (hn : n < 18446744073709551616) (hp : w.cell? p = some (.int .u64 (n : Int))) (ho : OwnB w B v l) (hB : B ≤ w.heap.size) (hl : l.length ≤ 70368744177664) :
    Calls Try.prog 50 #[v, .pointer (some p)] w
      fun e w' => (∃ v', e = .returned v' ∧ OwnB w' B v' (l ++ uvL n)) ∧ Below B w w' := by
  obtain ⟨i0, hi, hz0, hz1, hz2⟩ := info_parts infoU8
  have hten := uvL_ten n hn
  have HO := hid (And.intro ho hB)
  clear ho hB
  go_enter Try.func50, Try.ntmps50
  go_wp2_with fail
  go_loopw [0, 4] (fun t g wr => ∃ (m : Nat) (d : List UInt8), g = .int .u64 (m : Int) ∧ m < 18446744073709551616 ∧ d ++ uvL m = uvL n ∧ OwnB wr B t (l ++ d) ∧ Below B w wr) (fun _ g _ => (intOf g).toNat)
  case atStart => exact ⟨n, [], rfl, hn, rfl, by simpa using HO.out.1, Below.refl _ _⟩
  case round =>
    obtain ⟨m, d, rfl, hm, hd, ho, hb⟩ := hrel
    have hdl : d.length + (uvL m).length ≤ 10 := by have h := congrArg List.length hd; rw [List.length_append] at h; omega
    have KO := hid (And.intro ho (And.intro hb (And.intro hd (Nat.le_trans HO.out.2 hb.size))))
    clear ho hb hd hp
    by_cases hlt : m < 128
    · have hcs := last_byte m hlt
      rw [uvL_less m hlt] at hdl
      have hlen : (l ++ d).length + 1 ≤ 140737488355328 := by rw [List.length_append]; simp at hdl; omega
      go_wp2_with (at_builtin; refine wpList_append_own _ rfl _ _ 52 rfl B 5 i0 (.int .u8 0) 1 1 Try.underlying52 hi hz0 hz1 hz2 rfl (by decide) _ _ _ rfl (World.ownsRow.alloc KO.out.1 _) ⟨wr.heap.size, 0, none⟩ 1 1 _ rfl rfl (cell_one_new _ _ _) (fun x hx => by simp at hx; subst hx; rfl) (by unfold maxLen; omega) (by omega) (alloc_le KO.out.2.2.2 _) ?_; intro v' w3 hown' hgrow3 hnil3)
      have hcs2 : ((m : Int) % 256) = ((UInt8.ofNat m).toNat : Int) := by rw [← hcs, IntKind.wrap_u8]
      have hb2 : Below B w w3 := Below.grown (KO.out.2.1.alloc KO.out.2.2.2 _) hgrow3 (alloc_le KO.out.2.2.2 _) (own_base KO.out.1)
      go_ret
      refine ⟨⟨_, rfl, ?_⟩, hb2⟩
      have e1 : l ++ uvL n = (l ++ d) ++ [UInt8.ofNat m] := by rw [← KO.out.2.2.1, uvL_less m hlt, List.append_assoc]
      rw [e1]
      rw [hcs2] at hown'
      exact OwnB_snoc hown'
    · have hcs := mark_byte m
      rw [uvL_more m hlt, List.length_cons] at hdl
      have hlen : (l ++ d).length + 1 ≤ 140737488355328 := by rw [List.length_append]; omega
      go_wp2_with (at_builtin; refine wpList_append_own _ rfl _ _ 52 rfl B 5 i0 (.int .u8 0) 1 1 Try.underlying52 hi hz0 hz1 hz2 rfl (by decide) _ _ _ rfl (World.ownsRow.alloc KO.out.1 _) ⟨wr.heap.size, 0, none⟩ 1 1 _ rfl rfl (cell_one_new _ _ _) (fun x hx => by simp at hx; subst hx; rfl) (by unfold maxLen; omega) (by omega) (alloc_le KO.out.2.2.2 _) ?_; intro v' w3 hown' hgrow3 hnil3)
      have hcs2 : bits .or .u8 ((m : Int) % 256) 128 = ((UInt8.ofNat (m % 128 + 128)).toNat : Int) := by rw [← hcs, IntKind.wrap_u8]
      have hb2 : Below B w w3 := Below.grown (KO.out.2.1.alloc KO.out.2.2.2 _) hgrow3 (alloc_le KO.out.2.2.2 _) (own_base KO.out.1)
      rw [hcs2] at hown'
      refine ⟨⟨m / 128, d ++ [UInt8.ofNat (m % 128 + 128)], by go_num, by omega, ?_, ?_, hb2⟩, by simp [intOf]; omega⟩
      · rw [← KO.out.2.2.1, uvL_more m hlt, List.append_assoc]; rfl
      · rw [← List.append_assoc]; exact OwnB_snoc hown'

/-- number(n): the function that adds its bytes. -/
theorem number_any (n : Nat) (w : World) :
    Calls Try.prog 37 #[.int .u64 (n : Int)] w
      fun e w' => e = .returned (.func (.func 50) #[] #[.pointer (some ⟨w.heap.size, 0, none⟩)]) ∧ w' = w.alloc (.cells #[.int .u64 (n : Int)] 69) := by
  go_enter Try.func37, Try.ntmps37
  go_wp2_with fail
  go_ret
  exact ⟨rfl, rfl⟩
end Go.Proofs.Ytoimmmcmlbaenaa
