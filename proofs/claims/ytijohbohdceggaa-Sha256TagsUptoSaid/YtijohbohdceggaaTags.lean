/- Sha256Tags: the walk. -/
import Derived.Test.YtijohbohdceggaaRefTag
import Derived.Test.YtijohbohdceggaaStrs
import Derived.Test.YtijohbohdceggaaAwake
namespace Go.Proofs.Ytijohbohdceggaa
open Go.RowKit

theorem tagBytes_length (tag : ByteArray) (ps : List ByteArray) : (tagBytes tag ps).length = 8 + tag.size + (8 * ps.length + sizes ps) := by
  have h : ∀ ps : List ByteArray, (encs ps).length = 8 * ps.length + sizes ps := by
    intro ps
    induction ps with
    | nil => rfl
    | cons p ps ih =>
      have e : encs (p :: ps) = enc p.data.toList ++ encs ps := rfl
      rw [e, List.length_append, enc_length, size_list, ih, sizes_cons, List.length_cons]; omega
  simp only [tagBytes, List.length_append, enc_length, size_list, h]

set_option maxRecDepth 100000 in
set_option maxHeartbeats 1000000 in
theorem tags_any (tag : ByteArray) (v : Value) (ps : List ByteArray) (w : World) (hv : StrN w v ps) (hb : tag.size + ps.length + sizes ps ≤ 1048576) :
    Calls Try.prog 4 #[.string tag, v] w
      fun e w' => e = .returned (.bool true) ∧ Below w.heap.size w w' := by
  go_enter Try.func4, Try.ntmps4
  go_wp2_with fail
  refine (awake_any w).mono ?_
  rintro e w1 ⟨rfl, hb1⟩
  have hv1 := StrN_below hv hb1
  have KB := hid (And.intro hb1 hv1)
  clear hb1 hv1 hv
  go_wp2_with (at_builtin; refine wpList_append_strs rfl _ _ rfl rfl (own_one w1 tag) (alloc_le (Nat.le_refl _) _) rfl (StrN_below KB.out.2 ((Below.refl _ _).alloc (Nat.le_refl _) _)) (by omega) ?_; intro v' w2 hS2 hg2)
  have hb12 : Below w1.heap.size w1 w2 := Below.grown ((Below.refl w1.heap.size w1).alloc (Nat.le_refl _) _) hg2 (alloc_le (Nat.le_refl _) _) (own_base (own_one w1 tag))
  have hb2 : Below w.heap.size w w2 := KB.out.1.trans (hb12.mono KB.out.1.size)
  have hv2 := StrN_below KB.out.2 hb12
  have htot : tot (tag :: ps).length (tag :: ps) = (((tag :: ps).length + sizes (tag :: ps) : Nat) : Int) := tot_sum (tag :: ps) (tag :: ps).length (by rw [sizes_cons, List.length_cons]; omega)
  have hfew := few_any v' (tag :: ps) w2 hS2 (by rw [List.length_cons]; omega)
  rw [htot] at hfew
  have hbl : (tagBytes tag ps).length < 70368744177664 := by rw [tagBytes_length]; omega
  have h1 := fun w (h : StrN w v ps) => tagged_any tag v ps w (StrN_S h) (by omega)
  have h2 := fun w (h : StrN w v ps) => reftagged_any tag v ps w (StrN_S h) hbl
  generalize sha (tagBytes tag ps) = x at h1 h2
  have K2 := hid (And.intro hb2 (And.intro hv2 (And.intro h1 h2)))
  clear hS2 hg2 hb12 hb2 hv2 htot hbl h1 h2
  go_wp2_with fail
  refine hfew.mono ?_
  rintro e w3 ⟨rfl, rfl⟩
  clear hfew
  by_cases hle : (((tag :: ps).length + sizes (tag :: ps) : Nat) : Int) ≤ 2000
  · rw [decide_eq_true hle]
    clear hle
    go_wp2_with fail
    refine (K2.out.2.2.1 w3 K2.out.2.1).mono ?_
    rintro e w4 ⟨rfl, hb4⟩
    have K4 := hid (And.intro (K2.out.1.trans (hb4.mono K2.out.1.size)) (StrN_below K2.out.2.1 hb4))
    clear hb4
    go_wp2_with fail
    refine (K2.out.2.2.2 w4 K4.out.2).mono ?_
    rintro e w5 ⟨rfl, hb5⟩
    have K5 := hid (K4.out.1.trans (hb5.mono K4.out.1.size))
    clear hb5
    go_wp2_with fail
    go_ret
    exact ⟨rfl, K5.out⟩
  · rw [decide_eq_false hle]
    clear hle
    go_wp2_with fail
    go_ret
    exact ⟨rfl, K2.out.1⟩
end Go.Proofs.Ytijohbohdceggaa
