/- Parse. -/
import Derived.Test.YtijohbohdceggaaHex
namespace Go.Proofs.Ytijohbohdceggaa
open Go.RowKit

/-- The value of a hexadecimal digit. -/
def hexv (c : UInt8) : Option UInt8 := if 48 ≤ c.toNat ∧ c.toNat ≤ 57 then some (c - 48) else if 97 ≤ c.toNat ∧ c.toNat ≤ 102 then some (c - 87) else none

set_option maxHeartbeats 400000 in
theorem digit_none (c : UInt8) (w : World) (h : hexv c = none) : Calls Try.prog 33 #[.int .u8 (c.toNat : Int)] w
    fun e w' => e = .returned (.tuple #[.int .u8 0, .bool false]) ∧ w' = w := by
  have hc : ¬ (48 ≤ c.toNat ∧ c.toNat ≤ 57) ∧ ¬ (97 ≤ c.toNat ∧ c.toNat ≤ 102) := by
    unfold hexv at h
    split at h
    · cases h
    · split at h
      · cases h
      · constructor <;> assumption
  clear h
  by_cases h1 : (48 : Int) ≤ (c.toNat : Int)
  all_goals
    by_cases h2 : (c.toNat : Int) ≤ 57
    all_goals
      by_cases h3 : (97 : Int) ≤ (c.toNat : Int)
      all_goals
        by_cases h4 : (c.toNat : Int) ≤ 102
        all_goals first
          | (exfalso; omega)
          | (clear hc
             go_enter Try.func33, Try.ntmps33
             go_wp2
             go_ret2
             exact ⟨rfl, rfl⟩)

set_option maxHeartbeats 400000 in
theorem digit_some (c v : UInt8) (w : World) (h : hexv c = some v) : Calls Try.prog 33 #[.int .u8 (c.toNat : Int)] w
    fun e w' => e = .returned (.tuple #[.int .u8 (v.toNat : Int), .bool true]) ∧ w' = w := by
  have hc : (48 ≤ c.toNat ∧ c.toNat ≤ 57 ∧ v.toNat = c.toNat - 48) ∨ (97 ≤ c.toNat ∧ c.toNat ≤ 102 ∧ v.toNat = c.toNat - 87) := by
    unfold hexv at h
    split at h
    · injection h with h; subst h
      left
      rename_i hh
      refine ⟨hh.1, hh.2, ?_⟩
      rw [UInt8.toNat_sub_of_le _ _ (by rw [UInt8.le_iff_toNat_le]; simpa using hh.1)]
      rfl
    · split at h
      · injection h with h; subst h
        right
        rename_i hh
        refine ⟨hh.1, hh.2, ?_⟩
        rw [UInt8.toNat_sub_of_le _ _ (by rw [UInt8.le_iff_toNat_le]; have := hh.1; simp; omega)]
        rfl
      · cases h
  have hv : v.toNat = c.toNat - 48 ∨ v.toNat = c.toNat - 87 := by omega
  clear h
  by_cases h2 : (c.toNat : Int) ≤ 57
  · have h1 : (48 : Int) ≤ (c.toNat : Int) := by omega
    have hv : (v.toNat : Int) = (c.toNat : Int) - 48 := by omega
    have HV := hid hv
    clear hc hv
    go_enter Try.func33, Try.ntmps33
    go_wp2
    go_ret2
    exact ⟨by rw [HV.out]; rfl, rfl⟩
  · have h3 : (97 : Int) ≤ (c.toNat : Int) := by omega
    have h4 : (c.toNat : Int) ≤ 102 := by omega
    have h1 : (48 : Int) ≤ (c.toNat : Int) := by omega
    have hv : (v.toNat : Int) = (c.toNat : Int) - 97 + 10 := by omega
    have HV := hid hv
    clear hc hv
    go_enter Try.func33, Try.ntmps33
    go_wp2
    go_ret2
    exact ⟨by rw [HV.out]; rfl, rfl⟩

/-- The value of digit i. -/
def nib (l : List UInt8) (i : Nat) : UInt8 := (hexv (l.getD i 0)).getD 0
/-- The digest after k digits. -/
def Rk (l : List UInt8) (k : Nat) : List UInt8 := (List.range 32).map fun j => if 2 * j + 1 < k then nib l (2 * j) <<< 4 ||| nib l (2 * j + 1) else if 2 * j < k then nib l (2 * j) else 0
theorem Rk_length (l : List UInt8) (k : Nat) : (Rk l k).length = 32 := by simp [Rk]
theorem Rk_get (l : List UInt8) (k j : Nat) (h : j < 32) : (Rk l k).getD j 0 = if 2 * j + 1 < k then nib l (2 * j) <<< 4 ||| nib l (2 * j + 1) else if 2 * j < k then nib l (2 * j) else 0 := by
  simp [Rk, List.getD, h]
theorem Rk_set (l : List UInt8) (k : Nat) (h : k < 64) : (Rk l k).set (k / 2) ((Rk l k).getD (k / 2) 0 <<< 4 ||| nib l k) = Rk l (k + 1) := by
  have hx := Rk_get l k (k / 2) (by omega)
  generalize (Rk l k).getD (k / 2) 0 = x at hx
  apply List.ext_getElem
  · simp [Rk_length]
  · intro j h1 h2
    rw [List.getElem_set]
    simp only [hx, Rk, List.getElem_map, List.getElem_range]
    have hj : j < 32 := by simpa [Rk_length] using h2
    by_cases e : k / 2 = j
    · rw [if_pos e, e]
      by_cases ho : k = 2 * j
      · rw [if_neg (by omega), if_neg (by omega), if_neg (by omega), if_pos (by omega), ho]; simp
      · rw [if_neg (by omega), if_pos (by omega), if_pos (by omega), show k = 2 * j + 1 by omega]
    · rw [if_neg e]
      by_cases a : 2 * j + 1 < k
      · rw [if_pos a, if_pos (by omega)]
      · rw [if_neg a, if_neg (show ¬ 2 * j + 1 < k + 1 by omega)]
        by_cases c : 2 * j < k
        · rw [if_pos c, if_pos (by omega)]
        · rw [if_neg c, if_neg (by omega)]

theorem getD_lt {l : List UInt8} (d : UInt8) (i : Nat) (h : i < l.length) : l.getD i d = l[i] := by simp [List.getD, h]
/-- The bytes of 64 digits. -/
def parseL (l : List UInt8) : Option (List UInt8) := if l.length = 64 ∧ (l.all fun c => (hexv c).isSome) = true then some (Rk l 64) else none

/-- What Parse returns. -/
def parseV (l : List UInt8) : Value := match parseL l with
  | some m => .tuple #[.string ⟨m.toArray⟩, .int .i64 0]
  | none => .tuple #[.string ⟨#[]⟩, .int .i64 3]
theorem parseV_none {l : List UInt8} (h : parseL l = none) : parseV l = .tuple #[.string ⟨#[]⟩, .int .i64 3] := by unfold parseV; rw [h]
theorem parseV_some {l m : List UInt8} (h : parseL l = some m) : parseV l = .tuple #[.string ⟨m.toArray⟩, .int .i64 0] := by unfold parseV; rw [h]

theorem u8_shl4 (x : UInt8) (yk : IntKind) : Op.shift .shl .u8 (x.toNat : Int) yk 4 = pure (.int .u8 ((x <<< 4).toNat : Int)) := by
  rw [shift_shl_any _ _ _ _ (by decide)]
  congr 2
  rw [IntKind.wrap_u8]
  have : (x <<< 4).toNat = x.toNat * 16 % 256 := by
    simp [UInt8.toNat_shiftLeft, Nat.shiftLeft_eq]
  rw [this]
  show (x.toNat : Int) * 2 ^ min (4 : Int).toNat 8 % 256 = _
  have e : (2 : Int) ^ min (4 : Int).toNat 8 = 16 := by decide
  rw [e]; omega
theorem u8_or' (x y : UInt8) : bits .or .u8 (x.toNat : Int) (y.toNat : Int) = ((x ||| y).toNat : Int) := by
  rw [u8_or _ _ (by omega) (by have := x.toNat_lt; omega) (by omega) (by have := y.toNat_lt; omega)]
  simp
attribute [local go_sem ↓ high] u8_shl4 u8_or'

set_option maxRecDepth 100000 in
set_option maxHeartbeats 1000000 in
theorem parse_any (s : ByteArray) (w : World) (hs : s.size ≤ maxLen) :
    Calls Try.prog 16 #[.string s] w
      fun e w' => e = .returned (parseV s.data.toList) ∧ Below w.heap.size w w' := by
  unfold maxLen at hs
  by_cases h64 : s.size = 64
  · have hl : s.data.toList.length = 64 := by rw [Array.length_toList]; exact h64
    have h64' : ((s.size : Int) != 64) = false := by rw [h64]; rfl
    have H64 := hid h64
    have hs1 : (64 : Int) ≤ s.size := by omega
    have hs2 : (s.size : Int) ≤ 64 := by omega
    clear h64
    go_enter Try.func16, Try.ntmps16
    go_wp2_with (with_reducible refine wpList_run_alloc rfl 60 rfl (byteCells Z32B).toArray (by kernel_rfl) ?_)
    have ha := heap_alloc_new w (.cells (byteCells Z32B).toArray 60)
    have hb1 : Below w.heap.size w (w.alloc (.cells (byteCells Z32B).toArray 60)) := (Below.refl _ _).alloc (Nat.le_refl _) _
    generalize w.alloc (.cells (byteCells Z32B).toArray 60) = w1 at ha hb1
    go_loopw [13] (fun v wr => ∃ k : Nat, k ≤ 64 ∧ v = .int .i64 k ∧ (∀ i, i < k → (hexv (s.data.toList.getD i 0)).isSome = true) ∧ RowRel w.heap.size 60 w1 (byteCells (Rk s.data.toList k)).toArray wr) (fun v _ => 64 - (intOf v).toNat)
    case atStart => exact ⟨0, by omega, rfl, fun i hi => by omega, RR_start ha⟩
    case round =>
      obtain ⟨k, hk, rfl, hall, hS⟩ := hrel
      by_cases hlt : k < 64
      · have hks : k < s.size := by omega
        have ix := run_index_str s k hks wr
        have hnib : (hexv (s.data.toList.getD k 0)).getD 0 = nib s.data.toList k := rfl
        cases hv : hexv (s.data.toList.getD k 0) with
        | none =>
          have hp : parseV s.data.toList = .tuple #[.string ⟨#[]⟩, .int .i64 3] := by
            refine parseV_none ?_
            unfold parseL
            rw [if_neg]
            rintro ⟨_, h2⟩
            rw [List.all_eq_true] at h2
            have := h2 (s.data.toList.getD k 0) (by rw [getD_lt _ _ (show k < s.data.toList.length by rw [hl]; exact hlt)]; exact List.getElem_mem _)
            rw [hv] at this
            cases this
          have call := digit_none (s.data.toList.getD k 0) wr hv
          generalize s.data.toList.getD k 0 = c at ix call
          have KC := hid (And.intro call (And.intro hp (hb1.trans (below_of_gb hS.1 hb1.size (Nat.le_refl _)))))
          clear call hp hv hnib hS hall ha hb1
          go_wp2_with fail
          refine KC.out.1.mono ?_
          rintro e w2 ⟨rfl, rfl⟩
          go_wp2_with fail
          go_ret2
          exact ⟨by rw [KC.out.2.1]; rfl, KC.out.2.2⟩
        | some v =>
          have call := digit_some (s.data.toList.getD k 0) v wr hv
          rw [hv] at hnib
          have hvn : v = nib s.data.toList k := hnib
          have hset := Rk_set s.data.toList k hlt
          rw [← hvn] at hset
          have hold : (byteCells (Rk s.data.toList k)).toArray[k / 2]? = some (.int .u8 (((Rk s.data.toList k).getD (k / 2) 0).toNat : Int)) := by
            have hk2 : k / 2 < 32 := by omega
            simp [byteCells, List.getD, Rk_length, hk2]
          have hcell := RR_cell hS hold
          have hf := RR_free hS (k / 2)
          have hR := RR_set hS (k / 2) (.int .u8 (((Rk s.data.toList k).getD (k / 2) 0 <<< 4 ||| v).toNat : Int))
          have hcs : (byteCells (Rk s.data.toList k)).toArray.setIfInBounds (k / 2) (.int .u8 (((Rk s.data.toList k).getD (k / 2) 0 <<< 4 ||| v).toNat : Int)) = (byteCells (Rk s.data.toList (k + 1))).toArray := by
            rw [← hset]
            simp [byteCells, List.map_set]
          rw [hcs] at hR
          have hall2 : ∀ i, i < k + 1 → (hexv (s.data.toList.getD i 0)).isSome = true := by
            intro i hi
            by_cases e : i = k
            · subst e; rw [hv]; rfl
            · exact hall i (by omega)
          generalize (Rk s.data.toList k).getD (k / 2) 0 = x at hcell hR
          generalize s.data.toList.getD k 0 = c at ix call
          have KC := hid (And.intro call (And.intro hR hall2))
          clear call hR hall2 hcs hold hset hvn hnib hv hall hS ha hb1
          go_wp2_with fail
          refine KC.out.1.mono ?_
          rintro e w2 ⟨rfl, rfl⟩
          go_wp2_with fail
          refine ⟨⟨k + 1, by omega, by go_num, KC.out.2.2, put_close (by rw [← u8_or']; simp) KC.out.2.1⟩, by simp [intOf]; omega⟩
      · obtain rfl : k = 64 := by omega
        have hp : parseV s.data.toList = .tuple #[.string ⟨(Rk s.data.toList 64).toArray⟩, .int .i64 0] := by
          refine parseV_some ?_
          unfold parseL
          rw [if_pos]
          refine ⟨hl, List.all_eq_true.2 fun c hc => ?_⟩
          obtain ⟨i, hi, rfl⟩ := List.getElem_of_mem hc
          have := hall i (by omega)
          rwa [getD_lt _ _ hi] at this
        have hcv := run_bytes_row (P := Try.prog) wr 34 9 5 w.heap.size 0 32 32 60 (0, 0) (byteCells (Rk s.data.toList 64)) (Rk s.data.toList 64) Try.underlying34 Try.underlying5 Try.underlying9 hS.2 (Rk_length _ _)
          (fun j hj => by simp [byteCells, List.getD, Rk_length, hj])
        have KC := hid (And.intro hp (hb1.trans (below_of_gb hS.1 hb1.size (Nat.le_refl _))))
        clear hp hall hS ha hb1
        go_wp2_with fail
        go_ret2
        exact ⟨by rw [KC.out.1]; rfl, KC.out.2⟩
  · have hp : parseV s.data.toList = .tuple #[.string ⟨#[]⟩, .int .i64 3] := by
      refine parseV_none ?_
      unfold parseL
      rw [if_neg]
      rintro ⟨h2, _⟩
      rw [Array.length_toList] at h2
      exact h64 h2
    have hq : ((s.size : Int) != 64) = true := by rw [bne_iff_ne]; omega
    have KC := hid hp
    clear hp h64
    go_enter Try.func16, Try.ntmps16
    go_wp2_with fail
    go_ret2
    exact ⟨by rw [KC.out]; rfl, Below.refl _ _⟩
end Go.Proofs.Ytijohbohdceggaa
