/- CodecApart: the walk. -/
import Derived.Test.YtoimmmcmlbaenaaCCut
namespace Go.Proofs.Ytoimmmcmlbaenaa
open Go.RowKit

/-- append(v0, ps...) onto a slice of our own, of whatever length. -/
theorem wpList_append_strs0 {ops : Array Oper} {rest : List Oper} {o : Oper} {a : Act} {w : World} {Q : Exit → Act → World → Prop} (hgd : o.guard = none) (s x : Operand)
    (ho : o.op = .call { callee := .builtin .append, args := #[s, x], argTypes := #[22, 22] })
    {base : Nat} {v0 v : Value} {ts ps : List ByteArray} (htm : ts.length ≤ 1048576) (hs : a.eval s = v0) (hown : OwnS w base v0 ts) (hbase : base ≤ w.heap.size)
    (hx : a.eval x = v) (hN : StrN w v ps) (hm : ps.length ≤ 1048576)
    (hk : ∀ v' w', OwnS w' base v' (ts ++ ps) → w.grownBy w' v0.ownBlock → wpList Try.prog ops Q rest (a.put o.dst v') w') : wpList Try.prog ops Q (o :: rest) a w := by
  obtain ⟨i0, hi, hz0, hz1, hz2⟩ := info_parts infoStr
  rcases hN with ⟨rfl, rfl⟩ | ⟨ad, cap, rfl, hc⟩
  · refine wpList_append_own_none hgd s x 22 ho base 9 i0 1 Try.underlying22 hi v0 ts.length _ hs hown hx ?_
    exact hk v0 w (by rw [List.append_nil]; exact hown) (World.grownBy.refl _ _)
  · refine wpList_append_own w hgd s x 22 ho base 9 i0 (.string ByteArray.empty) 1 16 Try.underlying22 hi hz0 hz1 hz2 rfl (by decide) v0 ts.length (ts.map Value.string) hs hown ad ps.length cap (ps.map Value.string) hx (by simp) ?_ ?_ (by unfold maxLen; omega) (by omega) hbase ?_
    · intro j u hj
      obtain ⟨hjl, hj2⟩ := List.getElem?_eq_some_iff.1 hj
      rw [List.length_map] at hjl
      rw [hc j hjl, ← hj2]
      simp [List.getD, hjl]
    · intro u hu
      obtain ⟨p, _, rfl⟩ := List.mem_map.1 hu
      rfl
    · intro v' w' ho' hg _
      rw [← List.map_append] at ho'
      refine hk v' w' ?_ hg
      unfold OwnS
      rw [List.length_append]
      exact ho'
/-- slices.Clone. -/
theorem clone_strs (v : Value) (ps : List ByteArray) (w : World) (hv : StrN w v ps) (hb : ps.length ≤ 1048576) :
    Calls Try.prog 34 #[v] w fun e w' => (∃ v', e = .returned v' ∧ OwnS w' w.heap.size v' ps) ∧ Below w.heap.size w w' := by
  rcases hv with ⟨rfl, rfl⟩ | ⟨ad, cap, rfl, hc⟩
  · refine (Try.slices_Clone_string_nil 0 0 w).mono fun e w' ⟨he, hw⟩ => ?_
    subst hw
    exact ⟨⟨_, he, World.ownsRow_nil _ _ _ _⟩, Below.refl _ _⟩
  · by_cases h0 : ps.length = 0
    · rw [h0]
      have hp : ps = [] := List.eq_nil_of_length_eq_zero h0
      subst hp
      refine (Try.slices_Clone_string_zero ad cap w).mono fun e w' ⟨v', he, ho, _, hb⟩ => ⟨⟨v', he, ho⟩, hb⟩
    · have hs := hc 0 (by omega)
      rw [Addr.add_zero'] at hs
      have hs := spot_none hs
      obtain ⟨b, o, sp⟩ := ad
      subst hs
      refine (Try.slices_Clone_string b o ps.length cap ps w (Nat.le_refl _) (by omega) fun j hj => ?_).mono fun e w' ⟨v', he, ho, _, hb⟩ => ⟨⟨v', he, ?_⟩, hb⟩
      · have := hc j hj
        rwa [Addr.add_lit] at this
      · rw [List.take_length] at ho
        exact ho
theorem prefix_apart {ps qs : List ByteArray} (hp : ps.length + sizes ps ≤ 1048576) (hq : qs.length + sizes qs ≤ 1048576) (h : ps ≠ qs) : Lib.hasPrefix (encT ps) (encT qs) = false := by
  unfold Lib.hasPrefix
  cases hx : (encT qs).isPrefixOf (encT ps) with
  | false => rfl
  | true =>
    rw [List.isPrefixOf_iff_prefix] at hx
    obtain ⟨t, ht⟩ := hx
    have := encT_inj (ps := qs) (qs := ps) (r := t) (r' := []) (fun x hx => by have := mem_sizes hx; omega) (fun x hx => by have := mem_sizes hx; omega) (by omega) (by omega) (by rw [List.append_nil]; exact ht)
    exact absurd this.1.symm h

set_option maxRecDepth 100000 in
set_option maxHeartbeats 2000000 in
theorem apart_any (va vb : Value) (ps qs : List ByteArray) (w : World) (ha : StrN w va ps) (hb : StrN w vb qs) (hbd : ps.length + sizes ps + qs.length + sizes qs ≤ 1048576) :
    Calls Try.prog 7 #[va, vb] w
      fun e w' => e = .returned (.bool true) ∧ Below w.heap.size w w' := by
  have hel := encUs_bound ps (by omega)
  have hel2 := encUs_bound qs (by omega)
  obtain ⟨X, hX⟩ : ∃ X, X = ba (encT ps) := ⟨_, rfl⟩
  obtain ⟨Y, hY⟩ : ∃ Y, Y = ba (encT qs) := ⟨_, rfl⟩
  have cX : ∀ w, StrN w va ps → Calls Try.prog 18 #[va] w fun e w' => e = .returned (.string X) ∧ Below w.heap.size w w' := fun w h => by rw [hX]; exact ctexts_any va ps w (StrN_S h) (by omega) (by omega)
  have cY : ∀ w, StrN w vb qs → Calls Try.prog 18 #[vb] w fun e w' => e = .returned (.string Y) ∧ Below w.heap.size w w' := fun w h => by rw [hY]; exact ctexts_any vb qs w (StrN_S h) (by omega) (by omega)
  have hpr : ps ≠ qs → Lib.hasPrefix X.data.toList Y.data.toList = false ∧ Lib.hasPrefix Y.data.toList X.data.toList = false := fun h => by
    rw [hX, hY, ba_list, ba_list]
    exact ⟨prefix_apart (by omega) (by omega) h, prefix_apart (by omega) (by omega) (Ne.symm h)⟩
  have heq : ps = qs → X = Y := fun h => by rw [hX, hY, h]
  have HC := hid (And.intro cX (And.intro cY (And.intro hpr heq)))
  have HV := hid (And.intro ha hb)
  obtain ⟨b1, c1, rfl, _⟩ := StrN_S ha
  obtain ⟨b2, c2, rfl, _⟩ := StrN_S hb
  clear hel hel2 hX hY cX cY hpr heq ha hb
  go_enter Try.func7, Try.ntmps7
  go_wp2_with fail
  refine (awake_any w).mono ?_
  rintro e w1 ⟨rfl, hb1⟩
  have K1 := hid hb1
  clear hb1
  go_wp2_with fail
  refine (clone_strs _ ps w1 (StrN_below HV.out.1 K1.out) (by omega)).mono ?_
  rintro e w2 ⟨⟨v2, rfl, ho2⟩, hb2⟩
  have K2 := hid (And.intro (K1.out.trans (hb2.mono K1.out.size)) (And.intro ho2 hb2.size))
  clear ho2 hb2
  go_wp2_with (at_builtin; refine wpList_append_strs0 rfl _ _ rfl (by omega) rfl K2.out.2.1 K2.out.2.2 rfl (StrN_below HV.out.2 K2.out.1) (by omega) ?_; intro v3 w3 ho3 hg3)
  have hb3 : Below w.heap.size w w3 := Below.grown K2.out.1 hg3 K2.out.1.size (fun k hk => Nat.le_trans K1.out.size (own_base K2.out.2.1 k hk))
  have htot : tot (ps ++ qs).length (ps ++ qs) = (((ps ++ qs).length + sizes (ps ++ qs) : Nat) : Int) := tot_sum _ _ (by rw [sizes_append, List.length_append]; omega)
  have hfew := few_any v3 _ w3 (OwnS_StrS ho3) (by rw [List.length_append]; omega)
  rw [htot] at hfew
  have K3 := hid (And.intro hb3 hfew)
  clear ho3 hg3 hb3 htot hfew
  go_wp2_with fail
  refine K3.out.2.mono ?_
  rintro e w4 ⟨rfl, rfl⟩
  by_cases hle : (((ps ++ qs).length + sizes (ps ++ qs) : Nat) : Int) ≤ 2000
  · rw [decide_eq_true hle]
    clear hle
    go_wp2_with fail
    refine (HC.out.1 _ (StrN_below HV.out.1 K3.out.1)).mono ?_
    rintro e w5 ⟨rfl, hb5⟩
    have K5 := hid (K3.out.1.trans (hb5.mono K3.out.1.size))
    clear hb5
    go_wp2_with fail
    refine (HC.out.2.1 _ (StrN_below HV.out.2 K5.out)).mono ?_
    rintro e w6 ⟨rfl, hb6⟩
    have K6 := hid (K5.out.trans (hb6.mono K5.out.size))
    clear hb6
    go_wp2_with fail
    refine (equal_any _ _ ps qs w6 (StrN_S (StrN_below HV.out.1 K6.out)) (StrN_S (StrN_below HV.out.2 K6.out)) (by omega) (by omega)).mono ?_
    rintro e w7 ⟨rfl, q, rfl⟩
    have K7 := hid (below_drawn K6.out q)
    by_cases he : ps = qs
    · rw [decide_eq_true he]
      obtain rfl : X = Y := HC.out.2.2.2 he
      clear he
      go_wp2_with fail
      go_ret
      exact ⟨rfl, K7.out⟩
    · rw [decide_eq_false he]
      have hp1 := HC.out.2.2.1 he
      have h1 := Try.strings_HasPrefix X Y
      have h2 := Try.strings_HasPrefix Y X
      rw [hp1.1] at h1
      rw [hp1.2] at h2
      have KP := hid (And.intro h1 h2)
      clear he hp1 h1 h2
      go_wp2_with fail
      refine (KP.out.1 _).mono ?_
      rintro e w8 ⟨rfl, rfl⟩
      go_wp2_with fail
      refine (KP.out.2 _).mono ?_
      rintro e w9 ⟨rfl, rfl⟩
      go_wp2_with fail
      go_ret
      exact ⟨rfl, K7.out⟩
  · rw [decide_eq_false hle]
    clear hle
    go_wp2_with fail
    go_ret
    exact ⟨rfl, K3.out.1⟩
end Go.Proofs.Ytoimmmcmlbaenaa
