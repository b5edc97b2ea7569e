/- syntax: what reads as a type is a tree in the memory. -/
import Derived.Test.YtjedcijddlilaaaGreatDoorSyT
namespace Go.Proofs.YtjedcijddlilaaaGreatDoor
open Go.ChangeShapes Go.WideShapes Go.ChangeAt Go.RowKit

theorem cellsTy : Tryz.prog.cellsOf 25 = 5 := by kernel_rfl
theorem cellsFd : Tryz.prog.cellsOf 86 = 7 := by kernel_rfl
theorem cells_int : Tryz.prog.cellsOf 3 = 1 := by kernel_rfl
theorem cells_str : Tryz.prog.cellsOf 9 = 1 := by kernel_rfl
theorem cells_bool : Tryz.prog.cellsOf 4 = 1 := by kernel_rfl
theorem cells_tys : Tryz.prog.cellsOf 22 = 1 := by kernel_rfl
theorem cells_fds : Tryz.prog.cellsOf 23 = 1 := by kernel_rfl

section
variable {H : Type} {enc : TypeId × Value → H} {w : World} {base : Nat} {spare : Nat → Bool} {held : Bool}
theorem open_types {n : Nat} {v : Value} {x : DataW H × List MemPlace} (ih : ∀ m, m < n → ∀ cs x, DataW.trod enc Tryz.prog w base spare held m 25 cs = some x → TyCells w cs)
    (h : DataW.trod enc Tryz.prog w base spare held n 22 [v] = some x) : ∃ T, SlW w v T false := by
  rcases DataW.trod_slice Tryz.underlying22 h with ⟨hcs, _⟩ | ⟨a, len, cap, elems, rest, m, rfl, hcs, _, _, _, _, hlen, hel, _⟩
  · have hv : v = .slice none 0 0 := by injection hcs
    exact ⟨.nil, none, 0, hv, .inl rfl⟩
  · have hv : v = .slice (some a) len cap := by injection hcs
    rw [cellsTy] at hel
    obtain ⟨T, hT, hL⟩ := row_types (w := w) (base := base) (a := a) (len := len) (fun i hi => by
      have h1 := hel i hi
      rw [List.getElem?_eq_getElem (by omega)] at h1
      obtain ⟨cs, h2, h3⟩ := Option.bind_eq_some_iff.1 h1
      exact ⟨cs, h2, ih m (by omega) cs _ h3⟩) len (Nat.le_refl _)
    refine ⟨T, some a, cap, by rw [hT]; exact hv, ?_⟩
    rcases hL with h | ⟨hs, hL⟩
    · exact .inl h
    · obtain ⟨b, o, sp⟩ := a
      have hs2 : sp = none := hs
      subst hs2
      refine .inr ⟨b, o, rfl, ?_⟩
      have e : o + (len - len) * 5 = o := by omega
      have hL2 : Lies w T false b (o + (len - len) * 5) := hL
      rw [e] at hL2; exact hL2
set_option maxRecDepth 100000 in
theorem open_fields {n : Nat} {v : Value} {x : DataW H × List MemPlace} (ih : ∀ m, m < n → ∀ cs x, DataW.trod enc Tryz.prog w base spare held m 25 cs = some x → TyCells w cs)
    (h : DataW.trod enc Tryz.prog w base spare held n 23 [v] = some x) : ∃ T, SlW w v T true := by
  rcases DataW.trod_slice Tryz.underlying23 h with ⟨hcs, _⟩ | ⟨a, len, cap, elems, rest, m, rfl, hcs, _, _, _, _, hlen, hel, _⟩
  · have hv : v = .slice none 0 0 := by injection hcs
    exact ⟨.nil, none, 0, hv, .inl rfl⟩
  · have hv : v = .slice (some a) len cap := by injection hcs
    rw [cellsFd] at hel
    obtain ⟨T, hT, hL⟩ := row_fields (w := w) (base := base) (a := a) (len := len) (fun i hi => by
      have h1 := hel i hi
      rw [List.getElem?_eq_getElem (by omega)] at h1
      obtain ⟨cs, h2, h3⟩ := Option.bind_eq_some_iff.1 h1
      refine ⟨cs, h2, ?_⟩
      obtain ⟨xs, k, rfl, _, hlen, hxl, hf⟩ := DataW.trod_struct Tryz.underlying86 h3
      rw [cellsFd] at hlen
      obtain ⟨c0, c1, c2, c3, c4, c5, c6, rfl⟩ : ∃ c0 c1 c2 c3 c4 c5 c6, cs = [c0, c1, c2, c3, c4, c5, c6] := by
        match cs, hlen with
        | [c0, c1, c2, c3, c4, c5, c6], _ => exact ⟨_, _, _, _, _, _, _, rfl⟩
      have f0 : DataW.trod enc Tryz.prog w base spare held k 9 (List.take (Tryz.prog.cellsOf 9) (List.drop 0 [c0, c1, c2, c3, c4, c5, c6])) = xs[0]? := hf 0 _ rfl
      have f1 : DataW.trod enc Tryz.prog w base spare held k 25 (List.take (Tryz.prog.cellsOf 25) (List.drop 1 [c0, c1, c2, c3, c4, c5, c6])) = xs[1]? := hf 1 _ rfl
      have f2 : DataW.trod enc Tryz.prog w base spare held k 4 (List.take (Tryz.prog.cellsOf 4) (List.drop 6 [c0, c1, c2, c3, c4, c5, c6])) = xs[2]? := hf 2 _ rfl
      have hx3 : xs.length = 3 := hxl
      rw [cells_str, List.getElem?_eq_getElem (by omega)] at f0
      rw [cellsTy, List.getElem?_eq_getElem (by omega)] at f1
      rw [cells_bool, List.getElem?_eq_getElem (by omega)] at f2
      have f0' : DataW.trod enc Tryz.prog w base spare held k 9 [c0] = some xs[0] := f0
      have f2' : DataW.trod enc Tryz.prog w base spare held k 4 [c6] = some xs[2] := f2
      have f1' : DataW.trod enc Tryz.prog w base spare held k 25 [c1, c2, c3, c4, c5] = some xs[1] := f1
      obtain ⟨s, e0, _⟩ := DataW.trod_string Tryz.underlying9 f0'
      obtain ⟨y, e6, _⟩ := DataW.trod_bool Tryz.underlying4 f2'
      have e0' : c0 = .string s := by injection e0
      have e6' : c6 = .bool y := by injection e6
      subst e0' e6'
      exact ⟨s, y, [c1, c2, c3, c4, c5], rfl, ih k (by omega) _ _ f1'⟩) len (Nat.le_refl _)
    refine ⟨T, some a, cap, by rw [hT]; exact hv, ?_⟩
    rcases hL with h | ⟨hs, hL⟩
    · exact .inl h
    · obtain ⟨b, o, sp⟩ := a
      have hs2 : sp = none := hs
      subst hs2
      refine .inr ⟨b, o, rfl, ?_⟩
      have e : o + (len - len) * 7 = o := by omega
      have hL2 : Lies w T true b (o + (len - len) * 7) := hL
      rw [e] at hL2; exact hL2
set_option maxRecDepth 100000 in
/-- Whatever reads as a type is a tree. -/
theorem open_ty : ∀ (n : Nat) (cs : List Value) (x : DataW H × List MemPlace), DataW.trod enc Tryz.prog w base spare held n 25 cs = some x → TyCells w cs := by
  intro n
  induction n using Nat.strongRecOn with
  | _ n ih =>
    intro cs x h
    obtain ⟨xs, k, rfl, _, hlen, hxl, hf⟩ := DataW.trod_struct Tryz.underlying25 h
    rw [cellsTy] at hlen
    obtain ⟨c0, c1, c2, c3, c4, rfl⟩ : ∃ c0 c1 c2 c3 c4, cs = [c0, c1, c2, c3, c4] := by
      match cs, hlen with
      | [c0, c1, c2, c3, c4], _ => exact ⟨_, _, _, _, _, rfl⟩
    have f0 : DataW.trod enc Tryz.prog w base spare held k 3 (List.take (Tryz.prog.cellsOf 3) (List.drop 0 [c0, c1, c2, c3, c4])) = xs[0]? := hf 0 _ rfl
    have f1 : DataW.trod enc Tryz.prog w base spare held k 9 (List.take (Tryz.prog.cellsOf 9) (List.drop 1 [c0, c1, c2, c3, c4])) = xs[1]? := hf 1 _ rfl
    have f2 : DataW.trod enc Tryz.prog w base spare held k 9 (List.take (Tryz.prog.cellsOf 9) (List.drop 2 [c0, c1, c2, c3, c4])) = xs[2]? := hf 2 _ rfl
    have f3 : DataW.trod enc Tryz.prog w base spare held k 22 (List.take (Tryz.prog.cellsOf 22) (List.drop 3 [c0, c1, c2, c3, c4])) = xs[3]? := hf 3 _ rfl
    have f4 : DataW.trod enc Tryz.prog w base spare held k 23 (List.take (Tryz.prog.cellsOf 23) (List.drop 4 [c0, c1, c2, c3, c4])) = xs[4]? := hf 4 _ rfl
    have hx5 : xs.length = 5 := hxl
    rw [cells_int, List.getElem?_eq_getElem (by omega)] at f0
    rw [cells_str, List.getElem?_eq_getElem (by omega)] at f1
    rw [cells_str, List.getElem?_eq_getElem (by omega)] at f2
    rw [cells_tys, List.getElem?_eq_getElem (by omega)] at f3
    rw [cells_fds, List.getElem?_eq_getElem (by omega)] at f4
    have f0' : DataW.trod enc Tryz.prog w base spare held k 3 [c0] = some xs[0] := f0
    have f1' : DataW.trod enc Tryz.prog w base spare held k 9 [c1] = some xs[1] := f1
    have f2' : DataW.trod enc Tryz.prog w base spare held k 9 [c2] = some xs[2] := f2
    have f3' : DataW.trod enc Tryz.prog w base spare held k 22 [c3] = some xs[3] := f3
    have f4' : DataW.trod enc Tryz.prog w base spare held k 23 [c4] = some xs[4] := f4
    obtain ⟨z, e0, _, hz⟩ := DataW.trod_int Tryz.underlying3 f0'
    obtain ⟨s1, e1, _⟩ := DataW.trod_string Tryz.underlying9 f1'
    obtain ⟨s2, e2, _⟩ := DataW.trod_string Tryz.underlying9 f2'
    have e0' : c0 = .int .i64 z := by injection e0
    have e1' : c1 = .string s1 := by injection e1
    have e2' : c2 = .string s2 := by injection e2
    obtain ⟨A, hA⟩ := open_types (fun m hm => ih m (by omega)) f3'
    obtain ⟨F, hF⟩ := open_fields (fun m hm => ih m (by omega)) f4'
    exact ⟨z, s1, s2, A, F, c3, c4, by rw [e0', e1', e2'], hz, hA, hF⟩
end
end Go.Proofs.YtjedcijddlilaaaGreatDoor
