/- syntax: the zero expression and the module of a path alone, by the contracts of any. -/
import Derived.Test.YtnkhebgjhipepaaGreatDoorMk
import Derived.Test.YtnkhebgjhipepaaGreatDoorXm
namespace Go.Proofs.YtnkhebgjhipepaaGreatDoor
open Go.RowKit Go.Shelf

/-- The module of a path alone. -/
def MdP (w : World) (p : ByteArray) : MdI w := { m := { p := p, I := [], D := [] }, aI := none, cI := 0, aD := none, cD := 0, hI := .inl rfl, hD := .inl rfl }
theorem mdP_bk (w : World) (p : ByteArray) (hs : p.size ≤ 1000) : (MdP w p).m.bk ≤ 1099511627776 := by
  have h : (MdP w p).m.bk = p.size + 0 + 0 + 3 := Md.bk_eq _
  omega
theorem ExprSize0_any (w : World) : Calls Tryz.prog 19 #[.agg #[.int .i64 0, .string ⟨#[]⟩, .string ⟨#[]⟩, .string ⟨#[]⟩, .int .i64 0, .slice none 0 0, .slice none 0 0, .slice none 0 0]] w fun e w' => e = .returned (.int .i64 1) ∧ Below w.heap.size w w' := by
  have h := ExprSize_any (XpI0 w) (by show Xp0.bk ≤ _; decide) w (Below.refl _ w)
  have hz : (XpI0 w).e.size = 1 := by show Xp0.size = 1; decide
  rw [hz] at h
  exact h
theorem CheckModule0_any (p : ByteArray) (w : World) (hE : Env w) (hp : pathB p.data.toList = true) (hs : p.size ≤ 1000 := by decide) : Calls Tryz.prog 21 #[.agg #[.string p, .slice none 0 0, .slice none 0 0]] w fun e w' => e = .returned (.tuple #[.int .i64 0, .int .i64 0]) ∧ Below w.heap.size w w' := by
  have hz : (MdP w p).m.size = 1 := rfl
  have hh : chkH (MdP w p).m = 0 := by
    unfold chkH
    rw [show (MdP w p).m.p = p from rfl, hp, hz]
    rfl
  have h := checkmodule_of (MdP w p) 0 (mdP_bk w p hs) w (Below.refl _ w) hE (fun w' hb => by rw [← hh]; exact checkhead_any (MdP w p) (mdP_bk w p hs) w' hb (hE.below hb))
  exact h
theorem ModuleSize0_any (p : ByteArray) (w : World) (hs : p.size ≤ 1000 := by decide) : Calls Tryz.prog 20 #[.agg #[.string p, .slice none 0 0, .slice none 0 0]] w fun e w' => e = .returned (.int .i64 1) ∧ Below w.heap.size w w' := by
  have h := ModuleSize_any (MdP w p) (mdP_bk w p hs) w (Below.refl _ w)
  have hz : (MdP w p).m.size = 1 := rfl
  rw [hz] at h
  exact h
end Go.Proofs.YtnkhebgjhipepaaGreatDoor
