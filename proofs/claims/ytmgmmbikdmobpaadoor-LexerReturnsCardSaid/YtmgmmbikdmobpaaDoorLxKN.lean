/- An argument that is a slice of bytes. -/
import Derived.Test.YtmgmmbikdmobpaaDoorLxLR
import Derived.Deep.Slices
import Derived.OpenShut
import Derived.ProofKit
namespace Go.Proofs.YtmgmmbikdmobpaaDoor
open Go.ChangeShapes Go.WideShapes Go.ChangeAt Go.RowKit

theorem spot_none' {w : World} {a : Addr} {v : Value} (h : w.cell? a = some v) : a.spot = none := by
  cases hs : a.spot with
  | none => rfl
  | some s => simp [World.cell?, hs] at h; split at h <;> simp at h
def natOf (v : Value) : Nat := match v with | .int _ x => x.toNat | _ => 0
theorem cellsByte : Tryd.prog.cellsOf 5 = 1 := by kernel_rfl
set_option maxRecDepth 100000 in
theorem open_kindsN {H : Type} {enc : TypeId × Value → H} {W : World} {base : Nat} {v : Value} {d : DataW H} {p : List MemPlace} (hval : Value.okWide Tryd.prog W .any base 36 v)
    (h : DataW.Trod enc Tryd.prog W 0 (fun _ => true) true 36 v d p) : ∃ n K, KindsN W v n K ∧ n ≤ 9223372036854775807 := by
  obtain ⟨c, len, cap, rfl⟩ := okWide_slice Tryd.underlying36 hval
  obtain ⟨fuel, hf⟩ := h
  rcases Go.Deep.open_slice1 Tryd.underlying36 cellsByte hf with ⟨hcs, _⟩ | ⟨a, len', cap', m, n, V, D, Pl, hcs, _, hl, hm, hmm, _, hcell⟩
  · have hv : Value.slice c len cap = .slice none 0 0 := by
      have : [Value.slice c len cap] = [.slice none 0 0] := hcs
      injection this
    exact ⟨0, fun _ => 0, ⟨none, 0, hv, fun i hi => absurd hi (by omega)⟩, by omega⟩
  · have hv : Value.slice c len cap = .slice (some a) len' cap' := by
      have : [Value.slice c len cap] = [.slice (some a) len' cap'] := hcs
      injection this
    have hlm : len' ≤ m := by rw [hmm]; split <;> omega
    have hml : maxLen = 9223372036854775807 := rfl
    refine ⟨len', fun i => natOf (V i), ⟨some a, cap', hv, fun i hi => ?_⟩, by omega⟩
    obtain ⟨h0, t0⟩ := hcell i (by omega)
    have hs := spot_none' ((hcell 0 (by omega)).1)
    obtain ⟨b, o, sp⟩ := a
    have hsp : sp = none := hs
    subst hsp
    obtain ⟨x0, e0, _, hw0⟩ := DataW.trod_int Tryd.underlying5 t0
    have e0' : V i = .int .u8 x0 := by injection e0
    rw [Addr.add_lit] at h0
    refine ⟨b, o, rfl, ?_⟩
    show _ = some (Value.int IntKind.u8 ((natOf (V i) : Nat) : Int)) ∧ _
    rw [h0, e0']
    have h3 : (decide (0 ≤ x0) && decide (x0 ≤ 255)) = true := hw0
    have h4 : 0 ≤ x0 ∧ x0 ≤ 255 := by simpa using h3
    refine ⟨?_, ?_⟩
    · show some (Value.int IntKind.u8 x0) = some (Value.int IntKind.u8 ((natOf (Value.int IntKind.u8 x0) : Nat) : Int))
      have : ((natOf (Value.int IntKind.u8 x0) : Nat) : Int) = x0 := by show ((x0.toNat : Nat) : Int) = x0; omega
      rw [this]
    · show natOf (V i) < 256
      rw [e0']
      show x0.toNat < 256
      omega
end Go.Proofs.YtmgmmbikdmobpaaDoor
