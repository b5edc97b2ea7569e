/- Few: the number of the strings and the sum of their lengths, as the machine's integers add. -/
import Derived.Test.YtoimmmcmlbaenaaStrDef
import Derived.Test.YtoimmmcmlbaenaaBase
namespace Go.Proofs.Ytoimmmcmlbaenaa
open Go.RowKit

/-- The number and the sum of the lengths, as the machine's integers add. -/
def tot (n : Nat) (ps : List ByteArray) : Int := ps.foldl (fun t s => wrap64 (t + (s.size : Int))) (n : Int)
theorem tot_take (n : Nat) (ps : List ByteArray) (k : Nat) (h : k < ps.length) : tot n (ps.take (k + 1)) = wrap64 (tot n (ps.take k) + ((ps.getD k ByteArray.empty).size : Int)) := by
  unfold tot
  rw [List.take_succ_eq_append_getElem h, List.foldl_append]
  simp [List.getD, h]
def sizes (ps : List ByteArray) : Nat := (ps.map (·.size)).sum
theorem sizes_cons (s : ByteArray) (ps : List ByteArray) : sizes (s :: ps) = s.size + sizes ps := rfl
/-- Where the sum stays small it is the sum. -/
theorem tot_sum : ∀ (ps : List ByteArray) (n : Nat), n + sizes ps < 9223372036854775808 → tot n ps = ((n + sizes ps : Nat) : Int)
  | [], t, _ => by simp [tot, sizes]
  | s :: ps, t, h => by
    rw [sizes_cons] at h ⊢
    have e : wrap64 ((t : Int) + (s.size : Int)) = ((t + s.size : Nat) : Int) := by
      unfold wrap64; omega
    have e2 : tot t (s :: ps) = tot (t + s.size) ps := by
      show List.foldl _ _ ps = _
      simp only [e]
      rfl
    rw [e2, tot_sum ps (t + s.size) (by omega)]
    omega

set_option maxRecDepth 100000 in
set_option maxHeartbeats 1000000 in
theorem few_any (v : Value) (ps : List ByteArray) (w : World) (hv : StrS w v ps) (hn : ps.length < 9223372036854775807) :
    Calls Try.prog 11 #[v, .int .i64 2000] w
      fun e w' => e = .returned (.bool (decide (tot ps.length ps ≤ 2000))) ∧ w' = w := by
  obtain ⟨base, cap, rfl, hps⟩ := hv
  have HPS := hid hps
  clear hps
  go_enter Try.func11, Try.ntmps11
  go_wp2_with fail
  go_loopw [5, 6] (fun t i wr => ∃ k : Nat, k ≤ ps.length ∧ i = .int .i64 k ∧ t = .int .i64 (tot ps.length (ps.take k)) ∧ wr = w) (fun _ i _ => ps.length - (intOf i).toNat)
  case atStart => exact ⟨0, by omega, rfl, rfl, rfl⟩
  case round =>
    obtain ⟨k, hk, rfl, rfl, rfl⟩ := hrel
    by_cases hlt : k < ps.length
    · obtain ⟨b, o, rfl, hc⟩ := HPS.out k hlt
      have hnext := tot_take ps.length ps k hlt
      generalize ps.getD k ByteArray.empty = s at hc hnext
      generalize tot ps.length (ps.take k) = T at hnext
      have KN := hid hnext
      clear hnext
      go_wp2_with fail
      refine ⟨⟨k + 1, by omega, by go_num, ?_, trivial⟩, by simp [intOf]; omega⟩
      rw [KN.out]
    · obtain rfl : k = ps.length := by omega
      rw [List.take_length]
      go_wp2_with fail
      go_ret
      exact ⟨rfl, rfl⟩
end Go.Proofs.Ytoimmmcmlbaenaa
