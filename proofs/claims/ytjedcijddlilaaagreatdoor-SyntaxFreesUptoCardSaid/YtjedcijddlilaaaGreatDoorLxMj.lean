/- lexer: what the library's variables hold; majorVersion. -/
import Derived.Test.YtjedcijddlilaaaGreatDoorLxI
import Derived.Test.YtjedcijddlilaaaGreatDoorShM
import Derived.Test.YtjedcijddlilaaaGreatDoorShA
namespace Go.Proofs.YtjedcijddlilaaaGreatDoor
open Go.RowKit

/-- What the library's variables hold. -/
structure Env (w : World) : Prop where
  max : ∃ m, w.cell? ⟨0, 0, none⟩ = some (.int .i64 m)
  syn : ∃ tp p, w.var? Tryz.prog "strconv.ErrSyntax" = some #[.iface tp p]
  rng : ∃ tp p, w.var? Tryz.prog "strconv.ErrRange" = some #[.iface tp p]
  tab : Lib.TabIs Tryz.prog w "internal/strconv.uint64pow10" .u64 Lib.pow10Tab

theorem var_below {w w' : World} {name : String} {cs : Array Value} (h : w.var? Tryz.prog name = some cs) (hb : Below w.heap.size w w') : w'.var? Tryz.prog name = some cs := by
  unfold World.var? at h ⊢
  cases hg : Tryz.prog.globalNamed name with
  | none => rw [hg] at h; cases h
  | some g =>
    rw [hg] at h
    simp only [Option.bind_some] at h ⊢
    have hlt : g < w.heap.size := by
      by_cases hl : g < w.heap.size
      · exact hl
      · rw [Array.getElem?_eq_none (by omega)] at h; cases h
    rw [hb.block g hlt]
    exact h
theorem block_lt_any {w : World} {a : Addr} {v : Value} (h : w.cell? a = some v) : a.block < w.heap.size := World.block_lt_of_cell? w a h
theorem Env.below {w w' : World} (h : Env w) (hb : Below w.heap.size w w') : Env w' := by
  obtain ⟨⟨m, h1⟩, ⟨t1, p1, h2⟩, ⟨t2, p2, h3⟩, h4⟩ := h
  exact ⟨⟨m, (hb.cell (p := ⟨0, 0, none⟩) (block_lt_any h1)).trans h1⟩, ⟨t1, p1, var_below h2 hb⟩, ⟨t2, p2, var_below h3 hb⟩, var_below h4 hb⟩
theorem below_grow (w : World) (os : Array Obj) : Below w.heap.size w (Sort.grow w os) :=
  ⟨rfl, rfl, rfl, by show w.heap.size ≤ (w.heap ++ os).size; simp, fun k hk => by show (w.heap ++ os)[k]? = w.heap[k]?; rw [Array.getElem?_append_left hk]⟩

/-- The number of the last segment of a path. -/
def majV (l : List UInt8) : Int × Bool :=
  if Lib.hasPrefix l [118] = true then
    match Lib.atoiAll (Lib.trimPrefix l [118]) with
    | .ok v => if 999 < v then (0, false) else if Lib.itoa v = Lib.trimPrefix l [118] then (v, true) else (0, false)
    | _ => (0, false)
  else (0, false)

theorem majV_no {l : List UInt8} (h : Lib.hasPrefix l [118] = false) : majV l = (0, false) := by unfold majV; rw [h]; rfl
theorem majV_syn {l : List UInt8} (h : Lib.hasPrefix l [118] = true) (ha : Lib.atoiAll (Lib.trimPrefix l [118]) = Lib.atoiAll []) : majV l = (0, false) := by unfold majV; rw [h, if_pos rfl, ha]; rfl
theorem majV_rng {l : List UInt8} (h : Lib.hasPrefix l [118] = true) (ha : Lib.atoiAll (Lib.trimPrefix l [118]) = .range) : majV l = (0, false) := by unfold majV; rw [h, if_pos rfl, ha]
theorem majV_big {l : List UInt8} {v : Int} (h : Lib.hasPrefix l [118] = true) (ha : Lib.atoiAll (Lib.trimPrefix l [118]) = .ok v) (hv : 999 < v) : majV l = (0, false) := by unfold majV; rw [h, if_pos rfl, ha]; exact if_pos hv
theorem majV_ok {l : List UInt8} {v : Int} (h : Lib.hasPrefix l [118] = true) (ha : Lib.atoiAll (Lib.trimPrefix l [118]) = .ok v) (hv : ¬ 999 < v) (he : Lib.itoa v = Lib.trimPrefix l [118]) : majV l = (v, true) := by unfold majV; rw [h, if_pos rfl, ha]; simp only []; rw [if_neg hv, if_pos he]
theorem majV_bad {l : List UInt8} {v : Int} (h : Lib.hasPrefix l [118] = true) (ha : Lib.atoiAll (Lib.trimPrefix l [118]) = .ok v) (hv : ¬ 999 < v) (he : Lib.itoa v ≠ Lib.trimPrefix l [118]) : majV l = (0, false) := by unfold majV; rw [h, if_pos rfl, ha]; simp only []; rw [if_neg hv, if_neg he]
theorem trim_le (l : List UInt8) : (Lib.trimPrefix l [118]).length ≤ l.length := by
  unfold Lib.trimPrefix
  split
  · rw [List.length_drop]; omega
  · exact Nat.le_refl _

set_option maxRecDepth 100000 in
set_option maxHeartbeats 4000000 in
theorem majorversion_any (s : ByteArray) (w : World) (hs : s.size ≤ 140737488355328) (hE : Env w) :
    Calls Tryz.prog 187 #[.string s] w fun e w' => e = .returned (.tuple #[.int .i64 (majV s.data.toList).1, .bool (majV s.data.toList).2]) ∧ Below w.heap.size w w' := by
  have hcp := Tryz.strings_CutPrefix s ⟨#[118]⟩
  have hl : (Lib.trimPrefix s.data.toList [118]).length ≤ s.size := by rw [← size_list]; exact trim_le _
  cases hp : Lib.hasPrefix s.data.toList [118] with
  | false =>
    rw [majV_no hp]
    have hcp2 : ∀ w, Calls Tryz.prog 201 #[.string s, .string ⟨#[118]⟩] w fun e w' => e = .returned (.tuple #[.string ⟨(Lib.trimPrefix s.data.toList [118]).toArray⟩, .bool false]) ∧ w' = w := fun w => by
      have h := hcp w
      rw [show (⟨#[118]⟩ : ByteArray).data.toList = [118] from rfl, hp] at h
      exact h
    have HC := hid hcp2
    clear hcp hcp2 hp hl
    go_enter Tryz.func187, Tryz.ntmps187
    go_wp2_with fail
    refine (HC.out w).mono ?_
    rintro e w2 ⟨rfl, rfl⟩
    go_wp2_with fail
    go_ret2
    exact ⟨rfl, Below.refl _ _⟩
  | true =>
    have hcp2 : ∀ w, Calls Tryz.prog 201 #[.string s, .string ⟨#[118]⟩] w fun e w' => e = .returned (.tuple #[.string ⟨(Lib.trimPrefix s.data.toList [118]).toArray⟩, .bool true]) ∧ w' = w := fun w => by
      have h := hcp w
      rw [show (⟨#[118]⟩ : ByteArray).data.toList = [118] from rfl, hp] at h
      exact h
    have hsz : (⟨(Lib.trimPrefix s.data.toList [118]).toArray⟩ : ByteArray).size ≤ 140737488355328 := by rw [mk_size]; omega
    obtain ⟨tp1, p1, h1⟩ := hE.syn
    obtain ⟨tp2, p2, h2⟩ := hE.rng
    have h3 := hE.tab
    cases ha : Lib.atoiAll (Lib.trimPrefix s.data.toList [118])
    case ok v =>
      have hat := Tryz.strconv_Atoi_ok ⟨(Lib.trimPrefix s.data.toList [118]).toArray⟩ (by omega) v (by rw [mk_list]; exact ha)
      have hvb := Lib.atoiAll_bounds ha
      have hat2 : ∀ w, Calls Tryz.prog 202 #[.string ⟨(Lib.trimPrefix s.data.toList [118]).toArray⟩] w fun e w' => e = .returned (.tuple #[.int .i64 v, .nilIface]) ∧ Below w.heap.size w w' := fun w => (hat w).mono fun e w' ⟨he, hw⟩ => ⟨he, by
        rcases hw with rfl | ⟨t, rfl⟩
        · exact Below.refl _ _
        · exact Lib.bytesWorld_below _ _ _⟩
      have hit : ∀ w' : World, Below w.heap.size w w' → Calls Tryz.prog 203 #[.int .i64 v] w' fun e w'' => e = .returned (.string ⟨(Lib.itoa v).toArray⟩) ∧ Below w'.heap.size w' w'' := fun w' hb => (Tryz.strconv_Itoa v (by omega) (by omega) w' (var_below h3 hb)).mono fun e w'' ⟨he, k, os, hw⟩ => ⟨he, by rw [hw]; exact (below_drawn (Below.refl _ _) k).trans (below_grow (w'.drewN k) os)⟩
      by_cases hv : 999 < v
      · rw [majV_big hp ha hv]
        have HC := hid hcp2
        have HA := hid hat2
        clear hcp hcp2 hp hl ha hat hat2 hit h1 h2 h3 hsz hvb
        go_enter Tryz.func187, Tryz.ntmps187
        go_wp2_with fail
        refine (HC.out w).mono ?_
        rintro e w2 ⟨rfl, rfl⟩
        go_wp2_with fail
        refine (HA.out _).mono ?_
        rintro e w3 ⟨rfl, hb⟩
        go_wp2_with fail
        go_ret2
        exact ⟨rfl, hb⟩
      · by_cases he : Lib.itoa v = Lib.trimPrefix s.data.toList [118]
        · rw [majV_ok hp ha hv he]
          rw [← he] at hcp2 hat2
          have HC := hid hcp2
          have HA := hid hat2
          have HI := hid hit
          clear hcp hcp2 hp hl ha hat hat2 hit h1 h2 h3 hsz hvb he
          generalize Lib.itoa v = D at HC HA HI
          go_enter Tryz.func187, Tryz.ntmps187
          go_wp2_with fail
          refine (HC.out w).mono ?_
          rintro e w2 ⟨rfl, rfl⟩
          go_wp2_with fail
          refine (HA.out _).mono ?_
          rintro e w3 ⟨rfl, hb⟩
          have HB := hid hb
          clear hb
          go_wp2_with fail
          refine (HI.out _ HB.out).mono ?_
          rintro e w4 ⟨rfl, hb4⟩
          have HB4 := hid hb4
          clear hb4
          go_wp2_with fail
          go_ret2
          exact ⟨rfl, HB.out.trans (HB4.out.mono HB.out.size)⟩
        · rw [majV_bad hp ha hv he]
          have HC := hid hcp2
          have HA := hid hat2
          have HI := hid hit
          clear hcp hcp2 hp hl ha hat hat2 hit h1 h2 h3 hsz hvb
          generalize Lib.itoa v = D at HI he
          generalize Lib.trimPrefix s.data.toList [118] = T at HC HA he
          go_enter Tryz.func187, Tryz.ntmps187
          go_wp2_with fail
          refine (HC.out w).mono ?_
          rintro e w2 ⟨rfl, rfl⟩
          go_wp2_with fail
          refine (HA.out _).mono ?_
          rintro e w3 ⟨rfl, hb⟩
          have HB := hid hb
          clear hb
          go_wp2_with fail
          refine (HI.out _ HB.out).mono ?_
          rintro e w4 ⟨rfl, hb4⟩
          have HB4 := hid hb4
          clear hb4
          have hq : (D == T) = false := by rw [beq_eq_false_iff_ne]; exact he
          go_wp2_with fail
          go_ret2
          exact ⟨rfl, HB.out.trans (HB4.out.mono HB.out.size)⟩
    case range =>
      rw [majV_rng hp ha]
      have hat := Tryz.strconv_Atoi_range_var ⟨(Lib.trimPrefix s.data.toList [118]).toArray⟩ (by omega) (by rw [mk_list]; exact ha) tp2 p2 w h2
      have HC := hid hcp2
      have HA := hid hat
      clear hcp hcp2 hp hl ha hat h1 h2 h3 hsz
      go_enter Tryz.func187, Tryz.ntmps187
      go_wp2_with fail
      refine (HC.out w).mono ?_
      rintro e w2 ⟨rfl, rfl⟩
      go_wp2_with fail
      refine HA.out.mono ?_
      rintro e w3 ⟨N, rfl, hN, hN2, hb⟩
      clear hN2
      go_wp2_with fail
      go_ret2
      exact ⟨rfl, hb⟩
    case _ =>
      rw [majV_syn hp ha]
      have hat := Tryz.strconv_Atoi_syntax_var ⟨(Lib.trimPrefix s.data.toList [118]).toArray⟩ (by omega) (by rw [mk_list]; exact ha) tp1 p1 w h1
      have HC := hid hcp2
      have HA := hid hat
      clear hcp hcp2 hp hl ha hat h1 h2 h3 hsz
      go_enter Tryz.func187, Tryz.ntmps187
      go_wp2_with fail
      refine (HC.out w).mono ?_
      rintro e w2 ⟨rfl, rfl⟩
      go_wp2_with fail
      refine HA.out.mono ?_
      rintro e w3 ⟨N, rfl, hN, hN2, hb⟩
      clear hN2
      go_wp2_with fail
      go_ret2
      exact ⟨rfl, hb⟩
end Go.Proofs.YtjedcijddlilaaaGreatDoor
