/- lexer: what is written for a token. -/
import Derived.Test.YtmgmmbikdmobpaaDoorLxRt
import Derived.Test.YtmgmmbikdmobpaaDoorLxQ2
namespace Go.Proofs.YtmgmmbikdmobpaaDoor
open Go.RowKit

set_option maxRecDepth 100000 in
theorem written_any (x : TkY) (o : Int) (w : World) (hs : x.t.length ≤ 1000000) :
    Calls Tryd.prog 25 #[.agg #[.int .i64 x.k, .string ⟨x.t.toArray⟩, .int .i64 o]] w fun e w' => e = .returned (.string ⟨(wT x).toArray⟩) ∧ Below w.heap.size w w' := by
  have hq := fun w => quote_any ⟨x.t.toArray⟩ w (by rw [mk_size]; exact hs)
  rw [mk_list] at hq
  have hQ : (ByteArray.mk ([34] ++ x.t.flatMap esc ++ [34]).toArray) = ⟨(quoL x.t).toArray⟩ := rfl
  rw [hQ] at hq
  by_cases h4 : x.k = 4
  · have hw : wT x = quoL x.t := if_pos h4
    rw [hw, h4]
    generalize ByteArray.mk (quoL x.t).toArray = Q at hq ⊢
    have HQ := hid hq
    clear hq hQ hw h4
    go_enter Tryd.func25, Tryd.ntmps25
    go_wp2_with fail
    refine (HQ.out _).mono ?_
    rintro e w2 ⟨rfl, hb⟩
    have ha := (Below.refl w.heap.size w).alloc (Nat.le_refl _) (.cells #[.int .i64 4, .string ⟨x.t.toArray⟩, .int .i64 o] 35)
    have HB := hid (ha.trans (hb.mono ha.size))
    clear hb ha
    go_wp2_with fail
    go_ret
    exact ⟨rfl, HB.out⟩
  · have hw : wT x = x.t := if_neg h4
    have hk : (x.k == 4) = false := by rw [beq_eq_false_iff_ne]; exact h4
    rw [hw]
    clear hq hQ hw h4
    generalize x.k = κ at hk ⊢
    go_enter Tryd.func25, Tryd.ntmps25
    go_wp2_with fail
    go_ret
    exact ⟨rfl, (Below.refl _ _).alloc (Nat.le_refl _) _⟩
end Go.Proofs.YtmgmmbikdmobpaaDoor
