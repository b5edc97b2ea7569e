/- An argument that is a list of calls of a reader; a reader that has an error. -/
import Derived.Test.YtoimmmcmlbaenaaSame
import Derived.Deep.SlicePairs
import Derived.OpenShut
import Derived.ProofKit
namespace Go.Proofs.Ytoimmmcmlbaenaa
open Go.ChangeShapes Go.WideShapes Go.ChangeAt Go.RowKit

/-- v is a list of n calls: kinds K, numbers N. -/
def CallsN (w : World) (v : Value) (n : Nat) (K N : Nat → Int) : Prop :=
  ∃ base cap, v = .slice base n cap ∧ ∀ i, i < n → ∃ b o, base = some ⟨b, o, none⟩ ∧ w.cell? ⟨b, o + i * 2, none⟩ = some (.int .i64 (K i)) ∧ w.cell? ⟨b, o + i * 2 + 1, none⟩ = some (.int .i64 (N i))
def numOf (v : Value) : Int := match v with | .int _ x => x | _ => 0
theorem cellsInt : Try.prog.cellsOf 3 = 1 := by kernel_rfl
theorem cellsCall : Try.prog.cellsOf 43 = 2 := by kernel_rfl
theorem open_callN {H : Type} {enc : TypeId × Value → H} {W : World} {base : Nat} {v : Value} {d : DataW H} {p : List MemPlace} (hval : Value.okWide Try.prog W .any base 33 v)
    (h : DataW.Trod enc Try.prog W 0 (fun _ => true) true 33 v d p) : ∃ n K N, CallsN W v n K N ∧ n ≤ 9223372036854775807 := by
  obtain ⟨c, len, cap, rfl⟩ := okWide_slice Try.underlying33 hval
  obtain ⟨fuel, hf⟩ := h
  have he := Try.underlying43
  rcases Go.Deep.open_slice_pairs Try.underlying33 he cellsCall rfl rfl cellsInt cellsInt hf with ⟨hcs, _⟩ | ⟨a, len', cap', m, n, V0, V1, D0, D1, P0, P1, hcs, _, hl, hm, hmm, _, hcell⟩
  · have hv : Value.slice c len cap = .slice none 0 0 := by
      have : [Value.slice c len cap] = [.slice none 0 0] := hcs
      injection this
    exact ⟨0, fun _ => 0, fun _ => 0, ⟨none, 0, hv, fun i hi => absurd hi (by omega)⟩, by omega⟩
  · have hv : Value.slice c len cap = .slice (some a) len' cap' := by
      have : [Value.slice c len cap] = [.slice (some a) len' cap'] := hcs
      injection this
    have hlm : len' ≤ m := by rw [hmm]; split <;> omega
    have hml : maxLen = 9223372036854775807 := rfl
    refine ⟨len', fun i => numOf (V0 i), fun i => numOf (V1 i), ⟨some a, cap', hv, fun i hi => ?_⟩, by omega⟩
    obtain ⟨h0, h1, t0, t1⟩ := hcell i (by omega)
    have hs := spot_none ((hcell 0 (by omega)).1)
    obtain ⟨b, o, sp⟩ := a
    have hsp : sp = none := hs
    subst hsp
    obtain ⟨x0, e0, _⟩ := DataW.trod_int Try.underlying3 t0
    obtain ⟨x1, e1, _⟩ := DataW.trod_int Try.underlying3 t1
    have e0' : V0 i = .int .i64 x0 := by injection e0
    have e1' : V1 i = .int .i64 x1 := by injection e1
    rw [Addr.add_lit] at h0 h1
    refine ⟨b, o, rfl, ?_, ?_⟩
    · show _ = some (Value.int IntKind.i64 (numOf (V0 i))); rw [h0, e0']; rfl
    · rw [← Nat.add_assoc] at h1
      show _ = some (Value.int IntKind.i64 (numOf (V1 i))); rw [h1, e1']; rfl
theorem CallsN_below {w w' : World} {v : Value} {n : Nat} {K N : Nat → Int} (h : CallsN w v n K N) (hb : Below w.heap.size w w') : CallsN w' v n K N := by
  obtain ⟨base, cap, hv, hc⟩ := h
  refine ⟨base, cap, hv, fun i hi => ?_⟩
  obtain ⟨b, o, e, h0, h1⟩ := hc i hi
  exact ⟨b, o, e, (hb.cell (block_lt_any h0)).trans h0, (hb.cell (block_lt_any h1)).trans h1⟩

/-! ## A reader that has an error. -/
theorem upB_zero (s : ByteArray) : upB s 0 = ⟨#[]⟩ := by rw [upB_take]; rfl
theorem offB_zero (s : ByteArray) : offB s 0 = s := by rw [offB_drop, List.drop_zero, ba_eta]
theorem rCount_err (m : Int) (s : ByteArray) {e : Int} (he : e ≠ 0) : rCount m s e = (0, s, e) := by
  unfold rCount
  rw [rNum_bad s e he]
  have hf : failE 9 e = e := if_neg he
  split
  · rw [hf]
  · rfl
theorem rText_err (s : ByteArray) {e : Int} (he : e ≠ 0) : rText s e = (⟨#[]⟩, s, e) := by
  unfold rText
  rw [rCount_err _ s he]
  unfold rText1
  rw [if_neg (by simp only; omega)]
  show (upB s (0 : Int).toNat, offB s (0 : Int).toNat, e) = _
  rw [show (0 : Int).toNat = 0 from rfl, upB_zero, offB_zero]
theorem rRes_err (k n : Int) (s : ByteArray) {e : Int} (he : e ≠ 0) : rRes k n s e = (if k = 6 then e else 0, ⟨#[]⟩, [], s, e) := by
  have hi : rInt s e = (0, s, e) := by unfold rInt; rw [rNum_bad s e he]; show (zag 0, s, e) = _; rw [show zag 0 = 0 by decide]
  have hts : rTexts s e = ([], s, e) := by unfold rTexts; rw [rCount_err _ s he]; rfl
  have hf : failE n e = e := if_neg he
  have hv : endV s e = e := if_neg he
  unfold rRes
  rw [rCount_err _ s he, rCount_err _ s he, rText_err s he, hi, hts, hf, hv]
  by_cases h6 : k = 6
  · subst h6; rfl
  · rw [if_neg h6]
    repeat' split
    all_goals rfl
end Go.Proofs.Ytoimmmcmlbaenaa
