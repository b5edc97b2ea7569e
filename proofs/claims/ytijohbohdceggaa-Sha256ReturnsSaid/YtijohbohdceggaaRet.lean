/- Sha256Returns: the walk. -/
import Derived.Test.YtijohbohdceggaaHexParse
import Derived.Test.YtijohbohdceggaaAwake
import Derived.Lib.ConvBytes
namespace Go.Proofs.Ytijohbohdceggaa
open Go.RowKit

theorem u8_xor' (x y : UInt8) : bits .xor .u8 (x.toNat : Int) (y.toNat : Int) = ((x ^^^ y).toNat : Int) := by
  rw [u8_xor _ _ (by omega) (by have := x.toNat_lt; omega) (by omega) (by have := y.toNat_lt; omega)]
  simp
attribute [local go_sem ↓ high] u8_xor'

set_option maxRecDepth 100000 in
set_option maxHeartbeats 1000000 in
theorem returns_any (s : ByteArray) (i x : UInt8) (w : World) (hs : s.size ≤ maxLen) :
    Calls Try.prog 6 #[.string s, .int .u8 (i.toNat : Int), .int .u8 (x.toNat : Int)] w
      fun e w' => e = .returned (.bool true) ∧ Below w.heap.size w w' := by
  unfold maxLen at hs
  go_enter Try.func6, Try.ntmps6
  go_wp2_with fail
  refine (awake_any w).mono ?_
  rintro e w1 ⟨rfl, hb1⟩
  by_cases hl : (s.size : Int) > 2000
  · have HB := hid hb1
    clear hb1
    go_wp2_with fail
    go_ret
    exact ⟨rfl, HB.out⟩
  · have hsz : s.size < 2 ^ 60 := by omega
    go_wp2_with fail
    refine (sha_any s w1 hsz).mono ?_
    rintro e w2 ⟨rfl, hb2⟩
    have hd : (sha s.data.toList).length = 32 := by simp [sha, bytesOf_length]
    generalize sha s.data.toList = d at hd
    have hb2' := hb1.trans (hb2.mono hb1.size)
    have hhx := hex_any ⟨d.toArray⟩ w2 (by show d.toArray.size ≤ _; simp [hd])
    have hds : ((⟨d.toArray⟩ : ByteArray).size : Int) = 32 := by show ((d.toArray.size : Nat) : Int) = 32; simp [hd]
    have HD := hid (And.intro hd hb2')
    clear hb1 hb2 hb2' hd hl
    go_wp2_with fail
    refine hhx.mono ?_
    rintro e w3 ⟨rfl, hb3⟩
    have hb3' := HD.out.2.trans (hb3.mono HD.out.2.size)
    have hxl : (hexL d).length = 64 := by rw [hexL_length, HD.out.1]
    have hxs : ((⟨(hexL d).toArray⟩ : ByteArray).size : Int) = 64 := by show (((hexL d).toArray.size : Nat) : Int) = 64; simp [hxl]
    have hpa := (parse_any ⟨(hexL d).toArray⟩ w3 (by show (hexL d).toArray.size ≤ _; simp [hxl]; decide)).mono (fun e w' h => (And.intro (h.1.trans (congrArg Ending.returned (parseV_some (parse_hexL d HD.out.1)))) h.2 : e = .returned (.tuple #[.string ⟨d.toArray⟩, .int .i64 0]) ∧ Below w3.heap.size w3 w'))
    have HX := hid (And.intro hxl (And.intro HD.out.1 hb3'))
    clear hxl hb3 hb3' HD hhx
    go_wp2_with fail
    refine hpa.mono ?_
    rintro e w4 ⟨rfl, hb4⟩
    have hb4' := HX.out.2.2.trans (hb4.mono HX.out.2.2.size)
    have hcv := Lib.run_convert_string_bytes (P := Try.prog) w4 9 34 5 ⟨(hexL d).toArray⟩ Try.underlying9 Try.underlying34 Try.underlying5
    have hcell := Lib.bytesWorld_cell w4 5 ⟨(hexL d).toArray⟩
    have hrow := Lib.bytesWorld_at_new w4 5 ⟨(hexL d).toArray⟩
    have hcap : 64 ≤ (Lib.bytesCells w4 5 ⟨(hexL d).toArray⟩).size := by
      unfold Lib.bytesCells
      rw [Array.size_append, Array.size_map]
      have : ((⟨(hexL d).toArray⟩ : ByteArray).data).size = 64 := by simp [HX.out.1]
      omega
    have hb5 : Below w4.heap.size w4 (Lib.bytesWorld w4 5 ⟨(hexL d).toArray⟩) := ⟨rfl, rfl, rfl, by rw [Lib.bytesWorld_size]; omega, fun k hk => Lib.bytesWorld_at_old _ _ _ _ hk⟩
    generalize Lib.bytesCells w4 5 ⟨(hexL d).toArray⟩ = cs at hrow hcap
    generalize Lib.bytesWorld w4 5 ⟨(hexL d).toArray⟩ = w5 at hcv hcell hrow hb5
    have hk : i.toNat % 64 < 64 := by omega
    have hsz5 : (⟨(hexL d).toArray⟩ : ByteArray).size = 64 := by show (hexL d).toArray.size = 64; simp [HX.out.1]
    rw [hsz5] at hcv
    have hx0 := hcell (i.toNat % 64) (by rw [hsz5]; omega)
    have hfree : ∀ k, k < 64 → w5.frozen? ⟨w4.heap.size, k, none⟩ = false := by
      intro k hk
      simp only [World.frozen?, hrow]
      simp
      omega
    have hf := hfree _ hk
    have hlt5 : w4.heap.size < w5.heap.size := (Array.getElem?_eq_some_iff.1 hrow).1
    have hL := HX.out.1
    have hxk : (hexL d).getD (i.toNat % 64) 0 = (hexL d)[i.toNat % 64]'(by omega) := getD_lt _ _ _
    have hx1 : w5.cell? ⟨w4.heap.size, i.toNat % 64, none⟩ = some (.int .u8 (((hexL d).getD (i.toNat % 64) 0).toNat : Int)) := hx0
    have hback := Go.run_convert_bytes_back (P := Try.prog) (w5.setCell ⟨w4.heap.size, i.toNat % 64, none⟩ (.int .u8 (((hexL d).getD (i.toNat % 64) 0 ^^^ x).toNat : Int))) 34 9 5 ⟨w4.heap.size, 0, none⟩ (grownCap w4 64 0 5) ((hexL d).set (i.toNat % 64) ((hexL d).getD (i.toNat % 64) 0 ^^^ x)) Try.underlying34 Try.underlying5 Try.underlying9 (fun j hj => by
      have hj' : j < 64 := by rw [List.length_set] at hj; omega
      have ea : (⟨w4.heap.size, 0, none⟩ : Addr).add j = ⟨w4.heap.size, j, none⟩ := by rw [Addr.add_lit, Nat.zero_add]
      rw [ea]
      by_cases e : i.toNat % 64 = j
      · subst e
        rw [World.cell?_setCell_same' _ _ _ (by rw [hx1]; rfl), List.getElem_set_self]
      · rw [World.cell?_setCell_other _ _ _ _ (by intro h; injection h with _ h; exact e h), hcell j (by rw [hsz5]; exact hj'), List.getElem_set_ne e]
        show some (Value.int .u8 (((hexL d).getD j 0).toNat : Int)) = _
        rw [getD_lt _ _ (by omega)])
    rw [List.length_set, hL] at hback
    simp only [UInt8.toNat_xor] at hback
    generalize (hexL d).getD (i.toNat % 64) 0 = c at hx1 hback hxk
    have hb6 : Below w.heap.size w (w5.setCell ⟨w4.heap.size, i.toNat % 64, none⟩ (.int .u8 ((c ^^^ x).toNat : Int))) := by
      have := (hb4'.trans (hb5.mono hb4'.size))
      exact this.setCell (show w.heap.size ≤ w4.heap.size from hb4'.size) _
    rw [UInt8.toNat_xor] at hb6
    have hpa2 := parse_any ⟨((hexL d).set (i.toNat % 64) (c ^^^ x)).toArray⟩ (w5.setCell ⟨w4.heap.size, i.toNat % 64, none⟩ (.int .u8 ((c.toNat ^^^ x.toNat : Nat) : Int))) (by show ((hexL d).set (i.toNat % 64) (c ^^^ x)).toArray.size ≤ _; simp [hL]; decide)
    have HB := hid (And.intro hxk (And.intro hb6 (HX.out.2.1)))
    clear hxk hb6 hb4 hb4' hb5 hcell hx0 hfree hrow hcap hpa HX
    go_wp2_with fail
    refine hpa2.mono ?_
    rintro e w7 ⟨rfl, hb7⟩
    have hb8 := HB.out.2.1.trans (hb7.mono HB.out.2.1.size)
    by_cases hx : x = 0
    · subst hx
      have H8 := hid hb8
      cases hp : parseL ((hexL d).set (i.toNat % 64) (c ^^^ 0)) with
      | none =>
        rw [parseV_none hp]
        clear hp hb8 hb7 hback
        go_wp2_with fail
        go_ret
        exact ⟨rfl, H8.out⟩
      | some y =>
        rw [parseV_some hp]
        clear hp hb8 hb7 hback
        go_wp2_with fail
        go_ret
        exact ⟨rfl, H8.out⟩
    · have hx' : ((x.toNat : Int) == 0) = false := by
        rw [beq_eq_false_iff_ne]
        intro h
        exact hx (UInt8.toNat_inj.1 (by simpa using h))
      have hx'' : ¬ x.toNat = 0 := fun h => hx (UInt8.toNat_inj.1 (by simpa using h))
      cases hp : parseL ((hexL d).set (i.toNat % 64) (c ^^^ x)) with
      | none =>
        rw [parseV_none hp]
        have H8 := hid hb8
        clear hp hb8 hb7 hback hx
        go_wp2_with fail
        go_ret
        exact ⟨rfl, H8.out⟩
      | some y =>
        rw [parseV_some hp]
        have hy := hexL_parse _ _ hp
        have hne : ¬ y = d := by
          rintro rfl
          have h1 := hy.1
          have h2 : ((hexL y).set (i.toNat % 64) (c ^^^ x))[i.toNat % 64]? = some (c ^^^ x) := List.getElem?_set_self (by omega)
          rw [← h1, List.getElem?_eq_getElem (by omega), ← HB.out.1] at h2
          injection h2 with h2
          apply hx
          have h3 : c ^^^ (c ^^^ x) = c ^^^ c := by rw [← h2]
          rw [← UInt8.xor_assoc, UInt8.xor_self, UInt8.zero_xor] at h3
          exact h3
        have hneb : (y == d) = false := beq_eq_false_iff_ne.2 hne
        have hyl := hy.2
        have H8 := hid hb8
        have hys : ((⟨y.toArray⟩ : ByteArray).size : Int) = 32 := by show ((y.toArray.size : Nat) : Int) = 32; simp [hyl]
        clear hp hb8 hb7 hback hx hy
        go_wp2_with fail
        go_ret
        exact ⟨rfl, H8.out⟩
end Go.Proofs.Ytijohbohdceggaa
