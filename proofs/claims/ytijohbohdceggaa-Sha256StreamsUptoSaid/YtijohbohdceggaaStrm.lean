/- A []string argument handed to strings.Join; a []bool argument. -/
import Derived.Test.YtijohbohdceggaaStrs
import Derived.Test.YtijohbohdceggaaShelf
import Derived.Test.YtijohbohdceggaaClo
namespace Go.Proofs.Ytijohbohdceggaa
open Go.RowKit

/-- A slice's length is at most its capacity. -/
def capOk : Value → Prop
  | .slice _ n c => n ≤ c
  | _ => True
/-- v is nil, or a slice of n booleans. -/
def BoolN (w : World) (v : Value) (n : Nat) : Prop :=
  (v = .slice none 0 0 ∧ n = 0) ∨ ∃ (a : Addr) (cap : Nat), v = .slice (some a) n cap ∧ n ≤ maxLen ∧ ∀ i, i < n → ∃ b, w.cell? (a.add i) = some (.bool b)
theorem BoolN_form {w : World} {v : Value} {n : Nat} (h : BoolN w v n) : ∃ base cap, v = .slice base n cap ∧ n ≤ maxLen ∧ ∀ i, i < n → ∃ b o x, base = some ⟨b, o, none⟩ ∧ w.cell? ⟨b, o + i, none⟩ = some (.bool x) := by
  rcases h with ⟨rfl, rfl⟩ | ⟨a, cap, rfl, hm, hc⟩
  · exact ⟨none, 0, rfl, by unfold maxLen; omega, fun i hi => absurd hi (by omega)⟩
  · refine ⟨some a, cap, rfl, hm, fun i hi => ?_⟩
    obtain ⟨x0, h0⟩ := hc 0 (by omega)
    rw [Addr.add_zero'] at h0
    have hs := spot_none h0
    obtain ⟨b, o, s⟩ := a
    subst hs
    obtain ⟨x, hx⟩ := hc i hi
    rw [Addr.add_lit] at hx
    exact ⟨b, o, x, rfl, hx⟩

/-- The bytes of strings, one behind the other. -/
def catL (ps : List ByteArray) : List UInt8 := ps.flatMap fun p => p.data.toList
theorem catL_take (ps : List ByteArray) (k : Nat) (h : k < ps.length) : catL (ps.take (k + 1)) = catL (ps.take k) ++ (ps.getD k ByteArray.empty).data.toList := by
  unfold catL
  rw [List.take_succ_eq_append_getElem h, List.flatMap_append]
  simp [List.getD, h]
theorem catL_length (ps : List ByteArray) : (catL ps).length = sizes ps := by
  induction ps with
  | nil => rfl
  | cons p ps ih =>
    have e : catL (p :: ps) = p.data.toList ++ catL ps := rfl
    rw [e, List.length_append, size_list, ih, sizes_cons]
theorem catL_le (ps : List ByteArray) (k : Nat) : (catL (ps.take k)).length ≤ sizes ps := by
  have : catL ps = catL (ps.take k) ++ catL (ps.drop k) := by
    unfold catL; rw [← List.flatMap_append, List.take_append_drop]
  have h2 := catL_length ps
  rw [this, List.length_append] at h2
  omega
theorem join_cat (ps : List ByteArray) : Lib.join (ps.map (·.data.toList)) [] = catL ps := by
  cases ps with
  | nil => rfl
  | cons p ps =>
    rw [List.map_cons, Lib.join_cons]
    simp [Lib.joinTail, catL, List.flatMap]
    rfl

/-- strings.Join with an empty separator. -/
theorem join_any (v : Value) (ps : List ByteArray) (w : World) (hv : StrS w v ps) (hc : capOk v) (hs : sizes ps ≤ 1048576) (hn : ps.length ≤ 1048576) :
    Calls Try.prog 23 #[v, .string ⟨#[]⟩] w fun e w' => e = .returned (.string ⟨(catL ps).toArray⟩) ∧ Below w.heap.size w w' := by
  obtain ⟨base, cap, rfl, hps⟩ := hv
  by_cases h0 : ps.length = 0
  · have : ps = [] := List.eq_nil_of_length_eq_zero h0
    subst this
    exact (Try.strings_Join_none base cap ⟨#[]⟩ w).mono fun e w' ⟨he, hw⟩ => ⟨he, hw ▸ Below.refl _ _⟩
  · obtain ⟨b, o, rfl, hcell0⟩ := hps 0 (by omega)
    have hj := Try.strings_Join b o cap ps ⟨#[]⟩ w (fun j x hx => by
      obtain ⟨hjl, hj2⟩ := List.getElem?_eq_some_iff.1 hx
      obtain ⟨b', o', hbo, hcl⟩ := hps j hjl
      injection hbo with hbo
      injection hbo with e1 e2
      subst e1; subst e2
      rw [hcl, ← hj2]
      simp [List.getD, hjl]) (block_lt_of_cell hcell0) (by omega) hc (by
      show (Lib.join (ps.map (·.data.toList)) []).length ≤ _
      rw [join_cat, catL_length]; omega)
    refine hj.mono fun e w' ⟨he, hw⟩ => ⟨he.trans ?_, hw⟩
    show Ending.returned (.string ⟨(Lib.join (ps.map (·.data.toList)) []).toArray⟩) = _
    rw [join_cat]
end Go.Proofs.Ytijohbohdceggaa
