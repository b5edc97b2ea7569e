/- syntax: the reference's Insert. | syntax: the reference's Free. | syntax: what the reference's Free returns is what Free returns. -/
import Derived.Test.YtjedcijddlilaaaGreatDoorSyC
import Derived.Test.YtjedcijddlilaaaGreatDoorSyRq
import Derived.Test.YtjedcijddlilaaaGreatDoorFlow
import Derived.Sort.Walk0
import Derived.Test.YtjedcijddlilaaaGreatDoorSyFr
namespace Go.Proofs.YtjedcijddlilaaaGreatDoor
open Go.RowKit Go.Shelf
attribute [local go_sem] Oper.semAt_some

section
open Go
variable {P : Program} {ops : Array Oper} {Q : Exit → Act → World → Prop} {md : Region.Mode}
/-- As wpAny_flow, where a step is told that what it waits for is done. -/
theorem wpAny_flow3 {n : Nat} {Fact : Nat → Value → World → Prop} {Fx : Act → Prop} {G : World → Prop} {Rel : Array Bool → Act → World → Prop} (hn : ops.size = n + 1)
    (hback : ∀ (i : Nat) (o : Oper), ops[i]? = some o → ∀ e ∈ o.after, e.on < i) (hlast : ∀ i, i < n → Region.waitsFor md ops n i = true)
    (hstep : ∀ i, i < n → ∀ listed a w, listed.size = n + 1 → listed.getD i true = false → Rel listed a w → Fx a → G w → (∀ j, Region.waitsFor md ops i j = true → listed.getD j false = true ∧ Fact j (slotV ops j a) w) →
      wpOp P ops Q i (fun a' w' => Fx a' ∧ G w' ∧ Fact i (slotV ops i a') w' ∧ (∀ j, j < n → j ≠ i → slotV ops j a' = slotV ops j a) ∧ (∀ j v, Fact j v w → Fact j v w') ∧ Rel (listed.setIfInBounds i true) a' w') a w)
    (hend : ∀ listed a w, (∀ i, i < n → listed.getD i false = true) → Rel listed a w → Fx a → G w → (∀ i, i < n → Fact i (slotV ops i a) w) → wpOp P ops Q n (Q .normal) a w) :
    ∀ (f : Nat) (listed : Array Bool) (a : Act) (w : World), FlowInv ops n Fact Fx G Rel listed a w → unl n listed ≤ f → wpAny P md ops Q f listed a w := by
  intro f
  induction f with
  | zero =>
    intro listed a w inv hu
    have h1 : n ∈ (List.range (n + 1)).filter fun j => !listed.getD j true := List.mem_filter.2 ⟨List.mem_range.2 (by omega), by rw [inv.last]; rfl⟩
    have h2 : (List.range (n + 1)).filter (fun j => !listed.getD j true) = [] := List.eq_nil_of_length_eq_zero (by unfold unl at hu; omega)
    rw [h2] at h1
    cases h1
  | succ f ih =>
    intro listed a w inv hu
    refine ⟨fun h0 => ?_, fun i hi => ?_⟩
    · obtain ⟨i, h1, h2, h3⟩ := least_false (fun j => listed.getD j true) n inv.last
      have hio : ops[i]? = some ops[i] := Array.getElem?_eq_getElem (by omega)
      have hr : i ∈ Region.ready md ops listed := mem_ready.2 ⟨h2, _, hio, fun e he _ => by
        have h4 := hback i _ hio e he
        have h5 := h3 e.on h4
        rw [← getD_in (by rw [inv.size]; omega)]; exact h5⟩
      rw [h0] at hr
      cases hr
    · obtain ⟨hun, o, ho, hall⟩ := mem_ready.1 hi
      have hin : i < n + 1 := by rw [← hn]; exact (Array.getElem?_eq_some_iff.1 ho).1
      have hw : ∀ j, Region.waitsFor md ops i j = true → j < n ∧ listed.getD j false = true := fun j hj => by
        obtain ⟨oj, hoj, e, he, hb, hon⟩ := Region.waitsFor_spec hj
        rw [ho] at hoj
        cases hoj
        have h4 := hback i _ ho e he
        rw [hon] at h4
        have h5 := hall e he hb
        rw [hon] at h5
        exact ⟨by omega, h5⟩
      by_cases hlt : i < n
      · refine wpOp_mono (fun a' w' h => ?_) (hstep i hlt listed a w inv.size hun inv.rel inv.fx inv.g fun j hj => ⟨(hw j hj).2, inv.facts j (hw j hj).1 (hw j hj).2⟩)
        obtain ⟨h1, h2, h3, h4, h5, h6⟩ := h
        refine ih _ a' w' ⟨by simpa using inv.size, by rw [getD_set_ne true (by omega)]; exact inv.last, h1, h2, h6, fun j hj hl => ?_⟩ ?_
        · by_cases hji : j = i
          · subst hji; exact h3
          · rw [getD_set_ne false (fun e => hji e.symm)] at hl
            rw [h4 j hj hji]
            exact h5 j _ (inv.facts j hj hl)
        · have hlt2 : unl n (listed.setIfInBounds i true) < unl n listed := by
            refine filter_lt (fun x hx => ?_) (List.mem_range.2 hin) (by rw [hun]; rfl) ?_
            · by_cases hxi : x = i
              · subst hxi; rw [hun]; rfl
              · rwa [getD_set_ne true (fun e => hxi e.symm)] at hx
            · have : i < listed.size := by rw [inv.size]; exact hin
              simp [this]
          omega
      · obtain rfl : i = n := by omega
        have hallf : ∀ j, j < i → Fact j (slotV ops j a) w := fun j hj => inv.facts j hj (hw j (hlast j hj)).2
        refine wpOp_mono (fun a' w' h => ?_) (hend listed a w (fun j hj => (hw j (hlast j hj)).2) inv.rel inv.fx inv.g hallf)
        have hr : Region.ready md ops (listed.setIfInBounds i true) = [] := by
          refine List.eq_nil_iff_forall_not_mem.2 fun j hj => ?_
          obtain ⟨hju, oj, hoj, _⟩ := mem_ready.1 hj
          have hjn : j < i + 1 := by rw [← hn]; exact (Array.getElem?_eq_some_iff.1 hoj).1
          by_cases hji : j = i
          · subst hji
            have : j < listed.size := by rw [inv.size]; exact hin
            simp [this] at hju
          · rw [getD_set_ne true (fun e => hji e.symm)] at hju
            have h6 := (hw j (hlast j (by omega))).2
            rw [getD_in (by rw [inv.size]; omega), h6] at hju
            cases hju
        cases f with
        | zero => exact ⟨hr, h⟩
        | succ f => exact ⟨fun _ => h, fun j hj => by rw [hr] at hj; cases hj⟩
end
theorem addA (g o j : Nat) : (⟨g, o, none⟩ : Addr).add j = ⟨g, o + j, none⟩ := by
  unfold Addr.add
  split
  · rename_i h; subst h; rfl
  · rfl
/-- The place of a string in a list that increases. -/
def posB (s : ByteArray) : List ByteArray → Nat
  | [] => 0
  | a :: l => if Op.bytesLess a.toList s.toList then posB s l + 1 else 0
def insB (L : List ByteArray) (s : ByteArray) : List ByteArray := if L[posB s L]? = some s then L else L.take (posB s L) ++ s :: L.drop (posB s L)
theorem posB_le (s : ByteArray) : ∀ L : List ByteArray, posB s L ≤ L.length
  | [] => Nat.le_refl _
  | a :: l => by
    unfold posB
    have := posB_le s l
    split
    · rw [List.length_cons]; omega
    · exact Nat.zero_le _
theorem posB_step {s a : ByteArray} {L : List ByteArray} {i : Nat} (h : L[i]? = some a) : posB s (L.drop i) = if Op.bytesLess a.toList s.toList then posB s (L.drop (i + 1)) + 1 else 0 := by
  obtain ⟨h1, rfl⟩ := List.getElem?_eq_some_iff.1 h
  rw [List.drop_eq_getElem_cons h1]
  rfl
/-- The frame while the new row is made. -/
def FxI (v0 v1 v2 v3 v4 v5 v6 v7 v8 v9 v10 v11 v12 v13 v14 v15 v16 v17 v18 v19 v20 v21 v22 v23 v24 v25 v26 v27 v28 v29 v30 v31 v32 : Value) (a : Act) : Prop := ∃ u33 u34 u35 u36 u37 u38 u39 u40 u41 u42 u43 u44, a = { tmps := #[v0, v1, v2, v3, v4, v5, v6, v7, v8, v9, v10, v11, v12, v13, v14, v15, v16, v17, v18, v19, v20, v21, v22, v23, v24, v25, v26, v27, v28, v29, v30, v31, v32, u33, u34, u35, u36, u37, u38, u39, u40, u41, u42, u43, u44], defers := [] }
def FactI (g n c k : Nat) (s : ByteArray) : Nat → Value → World → Prop
  | 1, v, _ => v = .slice (some ⟨g, 0, none⟩) n c
  | 2, v, _ => v = .int .i64 (k : Int)
  | 3, v, _ => v = .slice (some ⟨g, 0, none⟩) k c
  | 5, v, _ => v = .string s
  | 8, v, _ => v = .slice (some ⟨g, 0, none⟩) n c
  | 9, v, _ => v = .int .i64 (k : Int)
  | 10, v, _ => ∃ o, v = .slice (some ⟨g, o, none⟩) (n - k) (c - k) ∧ (k < n → o = k)
  | _, _, _ => True
theorem FactI.any {g n c k : Nat} {s : ByteArray} (j : Nat) (v : Value) (w w' : World) (h : FactI g n c k s j v w) : FactI g n c k s j v w' := by
  unfold FactI at h ⊢
  split <;> simp_all
/-- The row so far, and the row of the string alone. -/
structure RelI (b k : Nat) (A D : List ByteArray) (s : ByteArray) (listed : Array Bool) (a : Act) (w : World) : Prop where
  o4 : listed.getD 0 false = false → listed.getD 4 false = false
  o7 : listed.getD 4 false = false → listed.getD 7 false = false
  o11 : listed.getD 7 false = false → listed.getD 11 false = false
  r0 : listed.getD 0 false = true → listed.getD 4 false = false → w.ownsRow b 9 1 (a.tmps.getD 33 undef) 0 []
  r4 : listed.getD 4 false = true → listed.getD 7 false = false → w.ownsRow b 9 1 (a.tmps.getD 37 undef) k (A.map Value.string)
  r7 : listed.getD 7 false = true → listed.getD 11 false = false → w.ownsRow b 9 1 (a.tmps.getD 40 undef) (k + 1) ((A ++ [s]).map Value.string)
  r11 : listed.getD 11 false = true → w.ownsRow b 9 1 (a.tmps.getD 44 undef) (k + 1 + D.length) ((A ++ [s] ++ D).map Value.string)
  r6 : listed.getD 6 false = true → ∃ h, a.tmps.getD 39 undef = .slice (some ⟨h, 0, none⟩) 1 1 ∧ (listed.getD 7 false = false → w.cell? ⟨h, 0, none⟩ = some (.string s)) ∧ h < w.heap.size ∧ (listed.getD 0 false = true → listed.getD 4 false = false → (a.tmps.getD 33 undef).ownBlock ≠ some h)
theorem RelI.step {b k j : Nat} {A D : List ByteArray} {s : ByteArray} {listed : Array Bool} {a a' : Act} {w : World} (h : RelI b k A D s listed a w) (h0 : j ≠ 0) (h4 : j ≠ 4) (h6 : j ≠ 6) (h7 : j ≠ 7) (h11 : j ≠ 11)
    (t33 : a'.tmps.getD 33 undef = a.tmps.getD 33 undef) (t37 : a'.tmps.getD 37 undef = a.tmps.getD 37 undef) (t39 : a'.tmps.getD 39 undef = a.tmps.getD 39 undef) (t40 : a'.tmps.getD 40 undef = a.tmps.getD 40 undef) (t44 : a'.tmps.getD 44 undef = a.tmps.getD 44 undef) :
    RelI b k A D s (listed.setIfInBounds j true) a' w := by
  constructor <;> simp only [getD_set_ne false h0, getD_set_ne false h4, getD_set_ne false h6, getD_set_ne false h7, getD_set_ne false h11, t33, t37, t39, t40, t44]
  · exact h.o4
  · exact h.o7
  · exact h.o11
  · exact h.r0
  · exact h.r4
  · exact h.r7
  · exact h.r11
  · exact h.r6
set_option maxRecDepth 100000 in
set_option maxHeartbeats 32000000 in
theorem rinsert_any (L : List ByteArray) (s : ByteArray) (base g c : Nat) (W : World) (hown : W.ownsRow base 9 1 (.slice (some ⟨g, 0, none⟩) L.length c) L.length (L.map Value.string)) (hbase : base ≤ W.heap.size) (hl : L.length < 1099511627776) :
    Calls Tryz.prog 68 #[.slice (some ⟨g, 0, none⟩) L.length c, .string s] W fun e W' => ∃ g' c', e = .returned (.slice (some ⟨g', 0, none⟩) (insB L s).length c') ∧ W'.ownsRow base 9 1 (.slice (some ⟨g', 0, none⟩) (insB L s).length c') (insB L s).length ((insB L s).map Value.string) ∧ Below W.heap.size W W' := by
  obtain ⟨i0, hi, hz0, hz1, hz2⟩ := info_parts infoStr2
  have hcc : L.length ≤ c := by
    rcases hown.2 with ⟨h, _⟩ | ⟨g2, cap, cur, hv, _, _, h, _⟩
    · cases h
    · cases hv; exact h
  have HC : Kpt (∀ w, Below W.heap.size W w → ∀ i a, L[i]? = some a → w.cell? ⟨g, i, none⟩ = some (.string a)) := hid fun w hw i a ha => by
    have h := hown.cells (g := g) rfl i (.string a) (by rw [List.getElem?_map, ha]; rfl)
    have h9 := old_cell hw h
    rw [addA, Nat.zero_add] at h9
    exact h9
  obtain ⟨n, hn⟩ : ∃ n, L.length = n := ⟨_, rfl⟩
  have HN := hid hn
  have HOWN := hid hown
  have HBASE := hid hbase
  have HPL := hid (posB_le s L)
  rw [hn] at hcc hl
  rw [hn]
  clear hn hown hbase
  go_enter Tryz.func68, Tryz.ntmps68
  go_wp2_with fail
  go_loopw [5] (fun a wr => ∃ (i : Nat), a = .int .i64 (i : Int) ∧ i ≤ n ∧ Below W.heap.size W wr ∧ Kpt (posB s L = i + posB s (L.drop i))) (fun a _ => n - (intOf a).toNat)
  case atStart => exact ⟨0, rfl, Nat.zero_le _, Below.refl _ _, ⟨by rw [List.drop_zero, Nat.zero_add]⟩⟩
  case round =>
    obtain ⟨i, rfl, hi9, hB, hp⟩ := hrel
    have HB := hid hB
    by_cases hlt : i < n
    · obtain ⟨a, ha⟩ : ∃ a, L[i]? = some a := ⟨_, List.getElem?_eq_getElem (by rw [HN.out]; exact hlt)⟩
      have d0 := HC.out wr hB i a ha
      have hp2 := hp.out
      rw [posB_step ha] at hp2
      have HA := hid ha
      clear hB hp ha
      cases hls : Op.bytesLess a.toList s.toList with
      | true =>
        have HP2 := hid (show posB s L = (i + 1) + posB s (L.drop (i + 1)) by rw [hp2, hls]; simp; omega)
        clear hp2
        go_wp2_with fail
        go_roundw
        case rel => exact ⟨i + 1, by go_num, by omega, HB.out, ⟨HP2.out⟩⟩
        case measure => simp [intOf]; omega
      | false =>
        have hpi : posB s L = i := by rw [hp2, hls]; simp
        by_cases he : a = s
        · have hee : (a.toList == s.toList) = true := by rw [he]; simp
          have HINS := hid (show insB L s = L by unfold insB; rw [hpi, HA.out, he, if_pos rfl])
          clear hp2 hpi he
          go_wp2_with fail
          go_ret
          rw [HINS.out, HN.out]
          exact ⟨g, c, rfl, by have h := own_belowS HOWN.out HB.out; rw [HN.out] at h; exact h, HB.out⟩
        · have hee := toList_ne he
          have HINS := hid (show insB L s = L.take i ++ s :: L.drop i by unfold insB; rw [hpi, HA.out, if_neg (by simpa using he)])
          clear hp2 hpi he
          go_wp2_with fail
          clear d0 hls hee
          refine wp_region_any (by kernel_rfl) ?_
          change wpAny _ _ _ _ 13 _ _ (World.drew _)
          have HBD : Kpt (Below W.heap.size W wr.drew) := hid HB.out.drew
          generalize wr.drew = V0 at HBD ⊢
          have HCV : Kpt (∀ w, Below V0.heap.size V0 w → ∀ i a, L[i]? = some a → w.cell? ⟨g, i, none⟩ = some (.string a)) := hid fun w hw => HC.out w (HBD.out.trans (hw.mono HBD.out.size))
          have hkc : i ≤ c := by omega
          have hlA : (L.take i).length = i := by rw [List.length_take, HN.out]; omega
          have hlD : (L.drop i).length = n - i := by rw [List.length_drop, HN.out]
          refine wpAny_flow3 (n := 12) (Fact := FactI g n c i s) (Fx := FxI _ _ _ _ _ _ _ _ _ _ _ _ _ _ _ _ _ _ _ _ _ _ _ _ _ _ _ _ _ _ _ _ _) (G := fun w => Below V0.heap.size V0 w) (Rel := RelI V0.heap.size i (L.take i) (L.drop i) s) (by kernel_rfl) ?back ?last ?step ?tail 13 _ _ _ ⟨rfl, rfl, ⟨_, _, _, _, _, _, _, _, _, _, _, _, rfl⟩, Below.refl _ _, ⟨fun _ => getD_replicate_false _ _, fun _ => getD_replicate_false _ _, fun _ => getD_replicate_false _ _, fun h => absurd h (by rw [getD_replicate_false]; decide), fun h => absurd h (by rw [getD_replicate_false]; decide), fun h => absurd h (by rw [getD_replicate_false]; decide), fun h => absurd h (by rw [getD_replicate_false]; decide), fun h => absurd h (by rw [getD_replicate_false]; decide)⟩, fun j hj hl => absurd hl (by rw [getD_replicate_false]; decide)⟩ (by decide)
          case back => exact flow_back_of (by kernel_rfl)
          case last => exact flow_last_of (by kernel_rfl)
          case step =>
            rintro j hj listed a w hls hun hRl ⟨u33, u34, u35, u36, u37, u38, u39, u40, u41, u42, u43, u44, rfl⟩ hG hw
            rcases (by omega : j = 0 ∨ j = 1 ∨ j = 2 ∨ j = 3 ∨ j = 4 ∨ j = 5 ∨ j = 6 ∨ j = 7 ∨ j = 8 ∨ j = 9 ∨ j = 10 ∨ j = 11) with rfl | rfl | rfl | rfl | rfl | rfl | rfl | rfl | rfl | rfl | rfl | rfl
            · have h0 : listed.getD 0 false = false := by rw [← getD_in (by rw [hls]; omega), hun]
              have h4 := hRl.o4 h0
              have h7 := hRl.o7 h4
              have h11 := hRl.o11 h7
              refine wpOp_of_list (i := 0) rfl ?_
              go_wp2_with fail
              refine ⟨⟨_, _, _, _, _, _, _, _, _, _, _, _, rfl⟩, hG.alloc hG.size _, trivial, (fun j hj hne => by rcases (by omega : j = 0 ∨ j = 1 ∨ j = 2 ∨ j = 3 ∨ j = 4 ∨ j = 5 ∨ j = 6 ∨ j = 7 ∨ j = 8 ∨ j = 9 ∨ j = 10 ∨ j = 11) with rfl | rfl | rfl | rfl | rfl | rfl | rfl | rfl | rfl | rfl | rfl | rfl <;> first | exact absurd rfl hne | rfl), fun j v h => FactI.any j v _ _ h, ?_⟩
              constructor <;> simp only [getD_set_ne false (show (0 : Nat) ≠ 4 by decide), getD_set_ne false (show (0 : Nat) ≠ 6 by decide), getD_set_ne false (show (0 : Nat) ≠ 7 by decide), getD_set_ne false (show (0 : Nat) ≠ 11 by decide), h4, h7, h11]
              · intro _; trivial
              · intro _; trivial
              · intro _; trivial
              · intro _ _; exact World.ownsRow_made w #[] 0 hG.size (by unfold maxLen; omega) rfl
              · intro h; cases h
              · intro h; cases h
              · intro h; cases h
              · intro h6; obtain ⟨h, e, hc6, hlt6, _⟩ := hRl.r6 h6; exact ⟨h, e, fun _ => old_cell ((Below.refl _ w).alloc (Nat.le_refl _) _) (hc6 h7), by simp; omega, fun _ _ => by simp [Value.ownBlock]; omega⟩
            · skip
              refine wpOp_of_list (i := 1) rfl ?_
              go_wp2_with fail
              exact ⟨⟨_, _, _, _, _, _, _, _, _, _, _, _, rfl⟩, hG, by first | rfl | (show _ = _; simp), (fun j hj hne => by rcases (by omega : j = 0 ∨ j = 1 ∨ j = 2 ∨ j = 3 ∨ j = 4 ∨ j = 5 ∨ j = 6 ∨ j = 7 ∨ j = 8 ∨ j = 9 ∨ j = 10 ∨ j = 11) with rfl | rfl | rfl | rfl | rfl | rfl | rfl | rfl | rfl | rfl | rfl | rfl <;> first | exact absurd rfl hne | rfl), fun j v h => FactI.any j v _ _ h, hRl.step (by decide) (by decide) (by decide) (by decide) (by decide) rfl rfl rfl rfl rfl⟩
            · skip
              refine wpOp_of_list (i := 2) rfl ?_
              go_wp2_with fail
              exact ⟨⟨_, _, _, _, _, _, _, _, _, _, _, _, rfl⟩, hG, by first | rfl | (show _ = _; simp), (fun j hj hne => by rcases (by omega : j = 0 ∨ j = 1 ∨ j = 2 ∨ j = 3 ∨ j = 4 ∨ j = 5 ∨ j = 6 ∨ j = 7 ∨ j = 8 ∨ j = 9 ∨ j = 10 ∨ j = 11) with rfl | rfl | rfl | rfl | rfl | rfl | rfl | rfl | rfl | rfl | rfl | rfl <;> first | exact absurd rfl hne | rfl), fun j v h => FactI.any j v _ _ h, hRl.step (by decide) (by decide) (by decide) (by decide) (by decide) rfl rfl rfl rfl rfl⟩
            · skip
              obtain rfl : u34 = .slice (some ⟨g, 0, none⟩) n c := (hw 1 (by kernel_rfl)).2
              obtain rfl : u35 = .int .i64 (i : Int) := (hw 2 (by kernel_rfl)).2
              refine wpOp_of_list (i := 3) rfl ?_
              go_wp2_with fail
              exact ⟨⟨_, _, _, _, _, _, _, _, _, _, _, _, rfl⟩, hG, by first | rfl | (show _ = _; simp), (fun j hj hne => by rcases (by omega : j = 0 ∨ j = 1 ∨ j = 2 ∨ j = 3 ∨ j = 4 ∨ j = 5 ∨ j = 6 ∨ j = 7 ∨ j = 8 ∨ j = 9 ∨ j = 10 ∨ j = 11) with rfl | rfl | rfl | rfl | rfl | rfl | rfl | rfl | rfl | rfl | rfl | rfl <;> first | exact absurd rfl hne | rfl), fun j v h => FactI.any j v _ _ h, hRl.step (by decide) (by decide) (by decide) (by decide) (by decide) rfl rfl rfl rfl rfl⟩
            · have h4 : listed.getD 4 false = false := by rw [← getD_in (by rw [hls]; omega), hun]
              have h7 := hRl.o7 h4
              have h11 := hRl.o11 h7
              have h0 := (hw 0 (by kernel_rfl)).1
              obtain rfl : u36 = .slice (some ⟨g, 0, none⟩) i c := (hw 3 (by kernel_rfl)).2
              have own : w.ownsRow V0.heap.size 9 1 u33 0 [] := hRl.r0 h0 h4
              refine wpOp_of_list (i := 4) rfl ?_
              refine wpList_append_own _ rfl _ _ 44 rfl V0.heap.size 9 i0 _ 1 16 Tryz.underlying44 hi hz0 hz1 hz2 rfl (by decide) _ _ _ rfl own ⟨g, 0, none⟩ i c ((L.take i).map Value.string) rfl (by rw [List.length_map, hlA, Nat.mul_one]) (fun j u hu => ?news4) (fun u hu => by obtain ⟨z, _, rfl⟩ := List.mem_map.1 hu; rfl) (by unfold maxLen; omega) (by omega) hG.size ?_
              case news4 =>
                rw [List.getElem?_map] at hu
                obtain ⟨z, hz, rfl⟩ := Option.map_eq_some_iff.1 hu
                have hz2 : L[j]? = some z := by rw [List.getElem?_take] at hz; split at hz; exact hz; cases hz
                rw [addA, Nat.zero_add]
                exact HCV.out w hG j z hz2
              intro v' w' hown hgrow _
              refine ⟨⟨_, _, _, _, _, _, _, _, _, _, _, _, rfl⟩, Below.grown hG hgrow hG.size (own_base own), trivial, (fun j hj hne => by rcases (by omega : j = 0 ∨ j = 1 ∨ j = 2 ∨ j = 3 ∨ j = 4 ∨ j = 5 ∨ j = 6 ∨ j = 7 ∨ j = 8 ∨ j = 9 ∨ j = 10 ∨ j = 11) with rfl | rfl | rfl | rfl | rfl | rfl | rfl | rfl | rfl | rfl | rfl | rfl <;> first | exact absurd rfl hne | rfl), fun j v h => FactI.any j v _ _ h, ?_⟩
              have hs4 : (listed.setIfInBounds 4 true).getD 4 false = true := by simp [hls]
              constructor <;> simp only [getD_set_ne false (show (4 : Nat) ≠ 0 by decide), getD_set_ne false (show (4 : Nat) ≠ 6 by decide), getD_set_ne false (show (4 : Nat) ≠ 7 by decide), getD_set_ne false (show (4 : Nat) ≠ 11 by decide), h0, h7, h11, hs4]
              · intro h; cases h
              · intro _; trivial
              · intro _; trivial
              · intro _ h; cases h
              · intro _ _; rw [Nat.zero_add, List.nil_append] at hown; exact hown
              · intro h; cases h
              · intro h; cases h
              · intro h6; obtain ⟨h, e, hc6, hlt6, hne⟩ := hRl.r6 h6; exact ⟨h, e, fun _ => far_cell hgrow (hc6 h7) (fun e => hne h0 h4 e.symm), Nat.lt_of_lt_of_le hlt6 hgrow.size, fun _ h => by cases h⟩
            · skip
              refine wpOp_of_list (i := 5) rfl ?_
              go_wp2_with fail
              exact ⟨⟨_, _, _, _, _, _, _, _, _, _, _, _, rfl⟩, hG, by first | rfl | (show _ = _; simp), (fun j hj hne => by rcases (by omega : j = 0 ∨ j = 1 ∨ j = 2 ∨ j = 3 ∨ j = 4 ∨ j = 5 ∨ j = 6 ∨ j = 7 ∨ j = 8 ∨ j = 9 ∨ j = 10 ∨ j = 11) with rfl | rfl | rfl | rfl | rfl | rfl | rfl | rfl | rfl | rfl | rfl | rfl <;> first | exact absurd rfl hne | rfl), fun j v h => FactI.any j v _ _ h, hRl.step (by decide) (by decide) (by decide) (by decide) (by decide) rfl rfl rfl rfl rfl⟩
            · have h6 : listed.getD 6 false = false := by rw [← getD_in (by rw [hls]; omega), hun]
              obtain rfl : u38 = .string s := (hw 5 (by kernel_rfl)).2
              refine wpOp_of_list (i := 6) rfl ?_
              go_wp2_with fail
              refine ⟨⟨_, _, _, _, _, _, _, _, _, _, _, _, rfl⟩, hG.alloc hG.size _, trivial, (fun j hj hne => by rcases (by omega : j = 0 ∨ j = 1 ∨ j = 2 ∨ j = 3 ∨ j = 4 ∨ j = 5 ∨ j = 6 ∨ j = 7 ∨ j = 8 ∨ j = 9 ∨ j = 10 ∨ j = 11) with rfl | rfl | rfl | rfl | rfl | rfl | rfl | rfl | rfl | rfl | rfl | rfl <;> first | exact absurd rfl hne | rfl), fun j v h => FactI.any j v _ _ h, ?_⟩
              constructor <;> simp only [getD_set_ne false (show (6 : Nat) ≠ 0 by decide), getD_set_ne false (show (6 : Nat) ≠ 4 by decide), getD_set_ne false (show (6 : Nat) ≠ 7 by decide), getD_set_ne false (show (6 : Nat) ≠ 11 by decide)]
              · exact hRl.o4
              · exact hRl.o7
              · exact hRl.o11
              · intro x y; exact (hRl.r0 x y).alloc _
              · intro x y; exact (hRl.r4 x y).alloc _
              · intro x y; exact (hRl.r7 x y).alloc _
              · intro x; exact (hRl.r11 x).alloc _
              · intro _; exact ⟨w.heap.size, rfl, fun _ => cell_of_row _ _ 0 _ _ _ (World.alloc_heap_new w (.cells #[.string s] 9)), by simp, fun x y e => Nat.lt_irrefl _ ((hRl.r0 x y).lt _ e).2⟩
            · have h7 : listed.getD 7 false = false := by rw [← getD_in (by rw [hls]; omega), hun]
              have h11 := hRl.o11 h7
              have h4 := (hw 4 (by kernel_rfl)).1
              obtain ⟨h, e39, hc6, hlt6, _⟩ := hRl.r6 (hw 6 (by kernel_rfl)).1
              obtain rfl : u39 = .slice (some ⟨h, 0, none⟩) 1 1 := e39
              have hc6 := hc6 h7
              have own : w.ownsRow V0.heap.size 9 1 u37 i ((L.take i).map Value.string) := hRl.r4 h4 h7
              refine wpOp_of_list (i := 7) rfl ?_
              refine wpList_append_own _ rfl _ _ 44 rfl V0.heap.size 9 i0 _ 1 16 Tryz.underlying44 hi hz0 hz1 hz2 rfl (by decide) _ _ _ rfl own ⟨h, 0, none⟩ 1 1 [.string s] rfl rfl (fun j u hu => ?news7) (fun u hu => by simp at hu; subst hu; rfl) (by unfold maxLen; omega) (by omega) hG.size ?_
              case news7 =>
                cases j with
                | zero => cases hu; exact hc6
                | succ j => simp at hu
              intro v' w' hown hgrow _
              refine ⟨⟨_, _, _, _, _, _, _, _, _, _, _, _, rfl⟩, Below.grown hG hgrow hG.size (own_base own), trivial, (fun j hj hne => by rcases (by omega : j = 0 ∨ j = 1 ∨ j = 2 ∨ j = 3 ∨ j = 4 ∨ j = 5 ∨ j = 6 ∨ j = 7 ∨ j = 8 ∨ j = 9 ∨ j = 10 ∨ j = 11) with rfl | rfl | rfl | rfl | rfl | rfl | rfl | rfl | rfl | rfl | rfl | rfl <;> first | exact absurd rfl hne | rfl), fun j v h => FactI.any j v _ _ h, ?_⟩
              have hs7 : (listed.setIfInBounds 7 true).getD 7 false = true := by simp [hls]
              constructor <;> simp only [getD_set_ne false (show (7 : Nat) ≠ 0 by decide), getD_set_ne false (show (7 : Nat) ≠ 4 by decide), getD_set_ne false (show (7 : Nat) ≠ 6 by decide), getD_set_ne false (show (7 : Nat) ≠ 11 by decide), h4, h11, hs7]
              · exact fun x => absurd (hRl.o4 x) (by rw [h4]; decide)
              · intro h; cases h
              · intro _; trivial
              · intro _ h; cases h
              · intro _ h; cases h
              · intro _ _; rw [List.map_append]; exact hown
              · intro h; cases h
              · intro _; exact ⟨h, rfl, (fun x => by cases x), Nat.lt_of_lt_of_le hlt6 hgrow.size, fun _ x => by cases x⟩
            · skip
              refine wpOp_of_list (i := 8) rfl ?_
              go_wp2_with fail
              exact ⟨⟨_, _, _, _, _, _, _, _, _, _, _, _, rfl⟩, hG, by first | rfl | (show _ = _; simp), (fun j hj hne => by rcases (by omega : j = 0 ∨ j = 1 ∨ j = 2 ∨ j = 3 ∨ j = 4 ∨ j = 5 ∨ j = 6 ∨ j = 7 ∨ j = 8 ∨ j = 9 ∨ j = 10 ∨ j = 11) with rfl | rfl | rfl | rfl | rfl | rfl | rfl | rfl | rfl | rfl | rfl | rfl <;> first | exact absurd rfl hne | rfl), fun j v h => FactI.any j v _ _ h, hRl.step (by decide) (by decide) (by decide) (by decide) (by decide) rfl rfl rfl rfl rfl⟩
            · skip
              refine wpOp_of_list (i := 9) rfl ?_
              go_wp2_with fail
              exact ⟨⟨_, _, _, _, _, _, _, _, _, _, _, _, rfl⟩, hG, by first | rfl | (show _ = _; simp), (fun j hj hne => by rcases (by omega : j = 0 ∨ j = 1 ∨ j = 2 ∨ j = 3 ∨ j = 4 ∨ j = 5 ∨ j = 6 ∨ j = 7 ∨ j = 8 ∨ j = 9 ∨ j = 10 ∨ j = 11) with rfl | rfl | rfl | rfl | rfl | rfl | rfl | rfl | rfl | rfl | rfl | rfl <;> first | exact absurd rfl hne | rfl), fun j v h => FactI.any j v _ _ h, hRl.step (by decide) (by decide) (by decide) (by decide) (by decide) rfl rfl rfl rfl rfl⟩
            · skip
              obtain rfl : u41 = .slice (some ⟨g, 0, none⟩) n c := (hw 8 (by kernel_rfl)).2
              obtain rfl : u42 = .int .i64 (i : Int) := (hw 9 (by kernel_rfl)).2
              refine wpOp_of_list (i := 10) rfl ?_
              go_wp2_with fail
              exact ⟨⟨_, _, _, _, _, _, _, _, _, _, _, _, rfl⟩, hG, ⟨i, rfl, fun _ => rfl⟩, (fun j hj hne => by rcases (by omega : j = 0 ∨ j = 1 ∨ j = 2 ∨ j = 3 ∨ j = 4 ∨ j = 5 ∨ j = 6 ∨ j = 7 ∨ j = 8 ∨ j = 9 ∨ j = 10 ∨ j = 11) with rfl | rfl | rfl | rfl | rfl | rfl | rfl | rfl | rfl | rfl | rfl | rfl <;> first | exact absurd rfl hne | rfl), fun j v h => FactI.any j v _ _ h, hRl.step (by decide) (by decide) (by decide) (by decide) (by decide) rfl rfl rfl rfl rfl⟩
            · have h11 : listed.getD 11 false = false := by rw [← getD_in (by rw [hls]; omega), hun]
              have h7 := (hw 7 (by kernel_rfl)).1
              obtain ⟨o, he43, ho⟩ : ∃ o, u43 = .slice (some ⟨g, o, none⟩) (n - i) (c - i) ∧ (i < n → o = i) := (hw 10 (by kernel_rfl)).2
              subst he43
              have own : w.ownsRow V0.heap.size 9 1 u40 (i + 1) ((L.take i ++ [s]).map Value.string) := hRl.r7 h7 h11
              refine wpOp_of_list (i := 11) rfl ?_
              refine wpList_append_own _ rfl _ _ 44 rfl V0.heap.size 9 i0 _ 1 16 Tryz.underlying44 hi hz0 hz1 hz2 rfl (by decide) _ _ _ rfl own ⟨g, o, none⟩ (n - i) (c - i) ((L.drop i).map Value.string) rfl (by rw [List.length_map, hlD, Nat.mul_one]) (fun j u hu => ?news11) (fun u hu => by obtain ⟨z, _, rfl⟩ := List.mem_map.1 hu; rfl) (by unfold maxLen; omega) (by omega) hG.size ?_
              case news11 =>
                rw [List.getElem?_map] at hu
                obtain ⟨z, hz, rfl⟩ := Option.map_eq_some_iff.1 hu
                rw [List.getElem?_drop] at hz
                have hin : i < n := by have h := (List.getElem?_eq_some_iff.1 hz).1; rw [HN.out] at h; omega
                rw [ho hin, addA]
                exact HCV.out w hG (i + j) z hz
              intro v' w' hown hgrow _
              refine ⟨⟨_, _, _, _, _, _, _, _, _, _, _, _, rfl⟩, Below.grown hG hgrow hG.size (own_base own), trivial, (fun j hj hne => by rcases (by omega : j = 0 ∨ j = 1 ∨ j = 2 ∨ j = 3 ∨ j = 4 ∨ j = 5 ∨ j = 6 ∨ j = 7 ∨ j = 8 ∨ j = 9 ∨ j = 10 ∨ j = 11) with rfl | rfl | rfl | rfl | rfl | rfl | rfl | rfl | rfl | rfl | rfl | rfl <;> first | exact absurd rfl hne | rfl), fun j v h => FactI.any j v _ _ h, ?_⟩
              have hs11 : (listed.setIfInBounds 11 true).getD 11 false = true := by simp [hls]
              have h4 : listed.getD 4 false = true := by cases h : listed.getD 4 false with | true => rfl | false => rw [hRl.o7 h] at h7; cases h7
              constructor <;> simp only [getD_set_ne false (show (11 : Nat) ≠ 0 by decide), getD_set_ne false (show (11 : Nat) ≠ 4 by decide), getD_set_ne false (show (11 : Nat) ≠ 6 by decide), getD_set_ne false (show (11 : Nat) ≠ 7 by decide), h7, h4, hs11]
              · exact fun x => absurd (hRl.o4 x) (by rw [h4]; decide)
              · intro h; cases h
              · intro h; cases h
              · intro _ h; cases h
              · intro _ h; cases h
              · intro _ h; cases h
              · intro _; rw [List.map_append, hlD]; exact hown
              · intro h6; obtain ⟨h, e39, _, hlt6, _⟩ := hRl.r6 h6; exact ⟨h, e39, (fun x => by cases x), Nat.lt_of_lt_of_le hlt6 hgrow.size, fun _ x => by cases x⟩
          case tail =>
            rintro listed a w hall hRl ⟨u33, u34, u35, u36, u37, u38, u39, u40, u41, u42, u43, u44, rfl⟩ hG hf
            have own : w.ownsRow V0.heap.size 9 1 u44 (i + 1 + (L.drop i).length) ((L.take i ++ [s] ++ L.drop i).map Value.string) := hRl.r11 (hall 11 (by omega))
            rw [hlD, show i + 1 + (n - i) = n + 1 by omega] at own
            obtain ⟨g', c', rfl⟩ := ownsRow_succ own
            have HO := hid (And.intro own hG)
            clear own hG hRl hf hall
            refine wpOp_of_list (i := 12) rfl ?_
            go_wp2_with fail
            dsimp only [gQ]
            go_wp2_with fail
            go_ret
            have hle : (insB L s).length = n + 1 := by rw [HINS.out, List.length_append, List.length_cons, hlA, hlD]; omega
            rw [hle]
            refine ⟨g', c', rfl, ?_, HBD.out.trans (HO.out.2.mono HBD.out.size)⟩
            have h9 := own_mono HO.out.1 (Nat.le_trans HBASE.out HBD.out.size)
            rw [HINS.out]
            rw [List.append_assoc] at h9
            exact h9
    · obtain rfl : i = n := by omega
      have HINS := hid (show insB L s = L.take i ++ s :: L.drop i by
        have hpi : posB s L = i := by have h := hp.out; rw [List.drop_eq_nil_of_le (by rw [HN.out]; exact Nat.le_refl _)] at h; exact h
        unfold insB
        rw [hpi, List.getElem?_eq_none (by rw [HN.out]; exact Nat.le_refl _), if_neg (by simp)])
      clear hp hB
      go_wp2_with fail
      refine wp_region_any (by kernel_rfl) ?_
      change wpAny _ _ _ _ 13 _ _ (World.drew _)
      have HBD : Kpt (Below W.heap.size W wr.drew) := hid HB.out.drew
      generalize wr.drew = V0 at HBD ⊢
      have HCV : Kpt (∀ w, Below V0.heap.size V0 w → ∀ i a, L[i]? = some a → w.cell? ⟨g, i, none⟩ = some (.string a)) := hid fun w hw => HC.out w (HBD.out.trans (hw.mono HBD.out.size))
      have hkc : i ≤ c := by omega
      have hlA : (L.take i).length = i := by rw [List.length_take, HN.out]; omega
      have hlD : (L.drop i).length = i - i := by rw [List.length_drop, HN.out]
      refine wpAny_flow3 (n := 12) (Fact := FactI g i c i s) (Fx := FxI _ _ _ _ _ _ _ _ _ _ _ _ _ _ _ _ _ _ _ _ _ _ _ _ _ _ _ _ _ _ _ _ _) (G := fun w => Below V0.heap.size V0 w) (Rel := RelI V0.heap.size i (L.take i) (L.drop i) s) (by kernel_rfl) ?back ?last ?step ?tail 13 _ _ _ ⟨rfl, rfl, ⟨_, _, _, _, _, _, _, _, _, _, _, _, rfl⟩, Below.refl _ _, ⟨fun _ => getD_replicate_false _ _, fun _ => getD_replicate_false _ _, fun _ => getD_replicate_false _ _, fun h => absurd h (by rw [getD_replicate_false]; decide), fun h => absurd h (by rw [getD_replicate_false]; decide), fun h => absurd h (by rw [getD_replicate_false]; decide), fun h => absurd h (by rw [getD_replicate_false]; decide), fun h => absurd h (by rw [getD_replicate_false]; decide)⟩, fun j hj hl => absurd hl (by rw [getD_replicate_false]; decide)⟩ (by decide)
      case back => exact flow_back_of (by kernel_rfl)
      case last => exact flow_last_of (by kernel_rfl)
      case step =>
        rintro j hj listed a w hls hun hRl ⟨u33, u34, u35, u36, u37, u38, u39, u40, u41, u42, u43, u44, rfl⟩ hG hw
        rcases (by omega : j = 0 ∨ j = 1 ∨ j = 2 ∨ j = 3 ∨ j = 4 ∨ j = 5 ∨ j = 6 ∨ j = 7 ∨ j = 8 ∨ j = 9 ∨ j = 10 ∨ j = 11) with rfl | rfl | rfl | rfl | rfl | rfl | rfl | rfl | rfl | rfl | rfl | rfl
        · have h0 : listed.getD 0 false = false := by rw [← getD_in (by rw [hls]; omega), hun]
          have h4 := hRl.o4 h0
          have h7 := hRl.o7 h4
          have h11 := hRl.o11 h7
          refine wpOp_of_list (i := 0) rfl ?_
          go_wp2_with fail
          refine ⟨⟨_, _, _, _, _, _, _, _, _, _, _, _, rfl⟩, hG.alloc hG.size _, trivial, (fun j hj hne => by rcases (by omega : j = 0 ∨ j = 1 ∨ j = 2 ∨ j = 3 ∨ j = 4 ∨ j = 5 ∨ j = 6 ∨ j = 7 ∨ j = 8 ∨ j = 9 ∨ j = 10 ∨ j = 11) with rfl | rfl | rfl | rfl | rfl | rfl | rfl | rfl | rfl | rfl | rfl | rfl <;> first | exact absurd rfl hne | rfl), fun j v h => FactI.any j v _ _ h, ?_⟩
          constructor <;> simp only [getD_set_ne false (show (0 : Nat) ≠ 4 by decide), getD_set_ne false (show (0 : Nat) ≠ 6 by decide), getD_set_ne false (show (0 : Nat) ≠ 7 by decide), getD_set_ne false (show (0 : Nat) ≠ 11 by decide), h4, h7, h11]
          · intro _; trivial
          · intro _; trivial
          · intro _; trivial
          · intro _ _; exact World.ownsRow_made w #[] 0 hG.size (by unfold maxLen; omega) rfl
          · intro h; cases h
          · intro h; cases h
          · intro h; cases h
          · intro h6; obtain ⟨h, e, hc6, hlt6, _⟩ := hRl.r6 h6; exact ⟨h, e, fun _ => old_cell ((Below.refl _ w).alloc (Nat.le_refl _) _) (hc6 h7), by simp; omega, fun _ _ => by simp [Value.ownBlock]; omega⟩
        · skip
          refine wpOp_of_list (i := 1) rfl ?_
          go_wp2_with fail
          exact ⟨⟨_, _, _, _, _, _, _, _, _, _, _, _, rfl⟩, hG, by first | rfl | (show _ = _; simp), (fun j hj hne => by rcases (by omega : j = 0 ∨ j = 1 ∨ j = 2 ∨ j = 3 ∨ j = 4 ∨ j = 5 ∨ j = 6 ∨ j = 7 ∨ j = 8 ∨ j = 9 ∨ j = 10 ∨ j = 11) with rfl | rfl | rfl | rfl | rfl | rfl | rfl | rfl | rfl | rfl | rfl | rfl <;> first | exact absurd rfl hne | rfl), fun j v h => FactI.any j v _ _ h, hRl.step (by decide) (by decide) (by decide) (by decide) (by decide) rfl rfl rfl rfl rfl⟩
        · skip
          refine wpOp_of_list (i := 2) rfl ?_
          go_wp2_with fail
          exact ⟨⟨_, _, _, _, _, _, _, _, _, _, _, _, rfl⟩, hG, by first | rfl | (show _ = _; simp), (fun j hj hne => by rcases (by omega : j = 0 ∨ j = 1 ∨ j = 2 ∨ j = 3 ∨ j = 4 ∨ j = 5 ∨ j = 6 ∨ j = 7 ∨ j = 8 ∨ j = 9 ∨ j = 10 ∨ j = 11) with rfl | rfl | rfl | rfl | rfl | rfl | rfl | rfl | rfl | rfl | rfl | rfl <;> first | exact absurd rfl hne | rfl), fun j v h => FactI.any j v _ _ h, hRl.step (by decide) (by decide) (by decide) (by decide) (by decide) rfl rfl rfl rfl rfl⟩
        · skip
          obtain rfl : u34 = .slice (some ⟨g, 0, none⟩) i c := (hw 1 (by kernel_rfl)).2
          obtain rfl : u35 = .int .i64 (i : Int) := (hw 2 (by kernel_rfl)).2
          refine wpOp_of_list (i := 3) rfl ?_
          go_wp2_with fail
          exact ⟨⟨_, _, _, _, _, _, _, _, _, _, _, _, rfl⟩, hG, by first | rfl | (show _ = _; simp), (fun j hj hne => by rcases (by omega : j = 0 ∨ j = 1 ∨ j = 2 ∨ j = 3 ∨ j = 4 ∨ j = 5 ∨ j = 6 ∨ j = 7 ∨ j = 8 ∨ j = 9 ∨ j = 10 ∨ j = 11) with rfl | rfl | rfl | rfl | rfl | rfl | rfl | rfl | rfl | rfl | rfl | rfl <;> first | exact absurd rfl hne | rfl), fun j v h => FactI.any j v _ _ h, hRl.step (by decide) (by decide) (by decide) (by decide) (by decide) rfl rfl rfl rfl rfl⟩
        · have h4 : listed.getD 4 false = false := by rw [← getD_in (by rw [hls]; omega), hun]
          have h7 := hRl.o7 h4
          have h11 := hRl.o11 h7
          have h0 := (hw 0 (by kernel_rfl)).1
          obtain rfl : u36 = .slice (some ⟨g, 0, none⟩) i c := (hw 3 (by kernel_rfl)).2
          have own : w.ownsRow V0.heap.size 9 1 u33 0 [] := hRl.r0 h0 h4
          refine wpOp_of_list (i := 4) rfl ?_
          refine wpList_append_own _ rfl _ _ 44 rfl V0.heap.size 9 i0 _ 1 16 Tryz.underlying44 hi hz0 hz1 hz2 rfl (by decide) _ _ _ rfl own ⟨g, 0, none⟩ i c ((L.take i).map Value.string) rfl (by rw [List.length_map, hlA, Nat.mul_one]) (fun j u hu => ?news4) (fun u hu => by obtain ⟨z, _, rfl⟩ := List.mem_map.1 hu; rfl) (by unfold maxLen; omega) (by omega) hG.size ?_
          case news4 =>
            rw [List.getElem?_map] at hu
            obtain ⟨z, hz, rfl⟩ := Option.map_eq_some_iff.1 hu
            have hz2 : L[j]? = some z := by rw [List.getElem?_take] at hz; split at hz; exact hz; cases hz
            rw [addA, Nat.zero_add]
            exact HCV.out w hG j z hz2
          intro v' w' hown hgrow _
          refine ⟨⟨_, _, _, _, _, _, _, _, _, _, _, _, rfl⟩, Below.grown hG hgrow hG.size (own_base own), trivial, (fun j hj hne => by rcases (by omega : j = 0 ∨ j = 1 ∨ j = 2 ∨ j = 3 ∨ j = 4 ∨ j = 5 ∨ j = 6 ∨ j = 7 ∨ j = 8 ∨ j = 9 ∨ j = 10 ∨ j = 11) with rfl | rfl | rfl | rfl | rfl | rfl | rfl | rfl | rfl | rfl | rfl | rfl <;> first | exact absurd rfl hne | rfl), fun j v h => FactI.any j v _ _ h, ?_⟩
          have hs4 : (listed.setIfInBounds 4 true).getD 4 false = true := by simp [hls]
          constructor <;> simp only [getD_set_ne false (show (4 : Nat) ≠ 0 by decide), getD_set_ne false (show (4 : Nat) ≠ 6 by decide), getD_set_ne false (show (4 : Nat) ≠ 7 by decide), getD_set_ne false (show (4 : Nat) ≠ 11 by decide), h0, h7, h11, hs4]
          · intro h; cases h
          · intro _; trivial
          · intro _; trivial
          · intro _ h; cases h
          · intro _ _; rw [Nat.zero_add, List.nil_append] at hown; exact hown
          · intro h; cases h
          · intro h; cases h
          · intro h6; obtain ⟨h, e, hc6, hlt6, hne⟩ := hRl.r6 h6; exact ⟨h, e, fun _ => far_cell hgrow (hc6 h7) (fun e => hne h0 h4 e.symm), Nat.lt_of_lt_of_le hlt6 hgrow.size, fun _ h => by cases h⟩
        · skip
          refine wpOp_of_list (i := 5) rfl ?_
          go_wp2_with fail
          exact ⟨⟨_, _, _, _, _, _, _, _, _, _, _, _, rfl⟩, hG, by first | rfl | (show _ = _; simp), (fun j hj hne => by rcases (by omega : j = 0 ∨ j = 1 ∨ j = 2 ∨ j = 3 ∨ j = 4 ∨ j = 5 ∨ j = 6 ∨ j = 7 ∨ j = 8 ∨ j = 9 ∨ j = 10 ∨ j = 11) with rfl | rfl | rfl | rfl | rfl | rfl | rfl | rfl | rfl | rfl | rfl | rfl <;> first | exact absurd rfl hne | rfl), fun j v h => FactI.any j v _ _ h, hRl.step (by decide) (by decide) (by decide) (by decide) (by decide) rfl rfl rfl rfl rfl⟩
        · have h6 : listed.getD 6 false = false := by rw [← getD_in (by rw [hls]; omega), hun]
          obtain rfl : u38 = .string s := (hw 5 (by kernel_rfl)).2
          refine wpOp_of_list (i := 6) rfl ?_
          go_wp2_with fail
          refine ⟨⟨_, _, _, _, _, _, _, _, _, _, _, _, rfl⟩, hG.alloc hG.size _, trivial, (fun j hj hne => by rcases (by omega : j = 0 ∨ j = 1 ∨ j = 2 ∨ j = 3 ∨ j = 4 ∨ j = 5 ∨ j = 6 ∨ j = 7 ∨ j = 8 ∨ j = 9 ∨ j = 10 ∨ j = 11) with rfl | rfl | rfl | rfl | rfl | rfl | rfl | rfl | rfl | rfl | rfl | rfl <;> first | exact absurd rfl hne | rfl), fun j v h => FactI.any j v _ _ h, ?_⟩
          constructor <;> simp only [getD_set_ne false (show (6 : Nat) ≠ 0 by decide), getD_set_ne false (show (6 : Nat) ≠ 4 by decide), getD_set_ne false (show (6 : Nat) ≠ 7 by decide), getD_set_ne false (show (6 : Nat) ≠ 11 by decide)]
          · exact hRl.o4
          · exact hRl.o7
          · exact hRl.o11
          · intro x y; exact (hRl.r0 x y).alloc _
          · intro x y; exact (hRl.r4 x y).alloc _
          · intro x y; exact (hRl.r7 x y).alloc _
          · intro x; exact (hRl.r11 x).alloc _
          · intro _; exact ⟨w.heap.size, rfl, fun _ => cell_of_row _ _ 0 _ _ _ (World.alloc_heap_new w (.cells #[.string s] 9)), by simp, fun x y e => Nat.lt_irrefl _ ((hRl.r0 x y).lt _ e).2⟩
        · have h7 : listed.getD 7 false = false := by rw [← getD_in (by rw [hls]; omega), hun]
          have h11 := hRl.o11 h7
          have h4 := (hw 4 (by kernel_rfl)).1
          obtain ⟨h, e39, hc6, hlt6, _⟩ := hRl.r6 (hw 6 (by kernel_rfl)).1
          obtain rfl : u39 = .slice (some ⟨h, 0, none⟩) 1 1 := e39
          have hc6 := hc6 h7
          have own : w.ownsRow V0.heap.size 9 1 u37 i ((L.take i).map Value.string) := hRl.r4 h4 h7
          refine wpOp_of_list (i := 7) rfl ?_
          refine wpList_append_own _ rfl _ _ 44 rfl V0.heap.size 9 i0 _ 1 16 Tryz.underlying44 hi hz0 hz1 hz2 rfl (by decide) _ _ _ rfl own ⟨h, 0, none⟩ 1 1 [.string s] rfl rfl (fun j u hu => ?news7) (fun u hu => by simp at hu; subst hu; rfl) (by unfold maxLen; omega) (by omega) hG.size ?_
          case news7 =>
            cases j with
            | zero => cases hu; exact hc6
            | succ j => simp at hu
          intro v' w' hown hgrow _
          refine ⟨⟨_, _, _, _, _, _, _, _, _, _, _, _, rfl⟩, Below.grown hG hgrow hG.size (own_base own), trivial, (fun j hj hne => by rcases (by omega : j = 0 ∨ j = 1 ∨ j = 2 ∨ j = 3 ∨ j = 4 ∨ j = 5 ∨ j = 6 ∨ j = 7 ∨ j = 8 ∨ j = 9 ∨ j = 10 ∨ j = 11) with rfl | rfl | rfl | rfl | rfl | rfl | rfl | rfl | rfl | rfl | rfl | rfl <;> first | exact absurd rfl hne | rfl), fun j v h => FactI.any j v _ _ h, ?_⟩
          have hs7 : (listed.setIfInBounds 7 true).getD 7 false = true := by simp [hls]
          constructor <;> simp only [getD_set_ne false (show (7 : Nat) ≠ 0 by decide), getD_set_ne false (show (7 : Nat) ≠ 4 by decide), getD_set_ne false (show (7 : Nat) ≠ 6 by decide), getD_set_ne false (show (7 : Nat) ≠ 11 by decide), h4, h11, hs7]
          · exact fun x => absurd (hRl.o4 x) (by rw [h4]; decide)
          · intro h; cases h
          · intro _; trivial
          · intro _ h; cases h
          · intro _ h; cases h
          · intro _ _; rw [List.map_append]; exact hown
          · intro h; cases h
          · intro _; exact ⟨h, rfl, (fun x => by cases x), Nat.lt_of_lt_of_le hlt6 hgrow.size, fun _ x => by cases x⟩
        · skip
          refine wpOp_of_list (i := 8) rfl ?_
          go_wp2_with fail
          exact ⟨⟨_, _, _, _, _, _, _, _, _, _, _, _, rfl⟩, hG, by first | rfl | (show _ = _; simp), (fun j hj hne => by rcases (by omega : j = 0 ∨ j = 1 ∨ j = 2 ∨ j = 3 ∨ j = 4 ∨ j = 5 ∨ j = 6 ∨ j = 7 ∨ j = 8 ∨ j = 9 ∨ j = 10 ∨ j = 11) with rfl | rfl | rfl | rfl | rfl | rfl | rfl | rfl | rfl | rfl | rfl | rfl <;> first | exact absurd rfl hne | rfl), fun j v h => FactI.any j v _ _ h, hRl.step (by decide) (by decide) (by decide) (by decide) (by decide) rfl rfl rfl rfl rfl⟩
        · skip
          refine wpOp_of_list (i := 9) rfl ?_
          go_wp2_with fail
          exact ⟨⟨_, _, _, _, _, _, _, _, _, _, _, _, rfl⟩, hG, by first | rfl | (show _ = _; simp), (fun j hj hne => by rcases (by omega : j = 0 ∨ j = 1 ∨ j = 2 ∨ j = 3 ∨ j = 4 ∨ j = 5 ∨ j = 6 ∨ j = 7 ∨ j = 8 ∨ j = 9 ∨ j = 10 ∨ j = 11) with rfl | rfl | rfl | rfl | rfl | rfl | rfl | rfl | rfl | rfl | rfl | rfl <;> first | exact absurd rfl hne | rfl), fun j v h => FactI.any j v _ _ h, hRl.step (by decide) (by decide) (by decide) (by decide) (by decide) rfl rfl rfl rfl rfl⟩
        · skip
          obtain rfl : u41 = .slice (some ⟨g, 0, none⟩) i c := (hw 8 (by kernel_rfl)).2
          obtain rfl : u42 = .int .i64 (i : Int) := (hw 9 (by kernel_rfl)).2
          by_cases hci : c = i
          · have hci2 := hci.symm; subst hci2
            refine wpOp_of_list (i := 10) rfl ?_
            go_wp2_with fail
            exact ⟨⟨_, _, _, _, _, _, _, _, _, _, _, _, rfl⟩, hG, ⟨0, (by first | rfl | (rw [Nat.sub_self]; rfl)), fun h => absurd h (Nat.lt_irrefl _)⟩, (fun j hj hne => by rcases (by omega : j = 0 ∨ j = 1 ∨ j = 2 ∨ j = 3 ∨ j = 4 ∨ j = 5 ∨ j = 6 ∨ j = 7 ∨ j = 8 ∨ j = 9 ∨ j = 10 ∨ j = 11) with rfl | rfl | rfl | rfl | rfl | rfl | rfl | rfl | rfl | rfl | rfl | rfl <;> first | exact absurd rfl hne | rfl), fun j v h => FactI.any j v _ _ h, hRl.step (by decide) (by decide) (by decide) (by decide) (by decide) rfl rfl rfl rfl rfl⟩
          · skip
            refine wpOp_of_list (i := 10) rfl ?_
            go_wp2_with fail
            exact ⟨⟨_, _, _, _, _, _, _, _, _, _, _, _, rfl⟩, hG, ⟨i, (by first | rfl | (rw [Nat.sub_self]; rfl)), fun _ => rfl⟩, (fun j hj hne => by rcases (by omega : j = 0 ∨ j = 1 ∨ j = 2 ∨ j = 3 ∨ j = 4 ∨ j = 5 ∨ j = 6 ∨ j = 7 ∨ j = 8 ∨ j = 9 ∨ j = 10 ∨ j = 11) with rfl | rfl | rfl | rfl | rfl | rfl | rfl | rfl | rfl | rfl | rfl | rfl <;> first | exact absurd rfl hne | rfl), fun j v h => FactI.any j v _ _ h, hRl.step (by decide) (by decide) (by decide) (by decide) (by decide) rfl rfl rfl rfl rfl⟩
        · have h11 : listed.getD 11 false = false := by rw [← getD_in (by rw [hls]; omega), hun]
          have h7 := (hw 7 (by kernel_rfl)).1
          obtain ⟨o, he43, ho⟩ : ∃ o, u43 = .slice (some ⟨g, o, none⟩) (i - i) (c - i) ∧ (i < i → o = i) := (hw 10 (by kernel_rfl)).2
          subst he43
          have own : w.ownsRow V0.heap.size 9 1 u40 (i + 1) ((L.take i ++ [s]).map Value.string) := hRl.r7 h7 h11
          refine wpOp_of_list (i := 11) rfl ?_
          refine wpList_append_own _ rfl _ _ 44 rfl V0.heap.size 9 i0 _ 1 16 Tryz.underlying44 hi hz0 hz1 hz2 rfl (by decide) _ _ _ rfl own ⟨g, o, none⟩ (i - i) (c - i) ((L.drop i).map Value.string) rfl (by rw [List.length_map, hlD, Nat.mul_one]) (fun j u hu => ?news11) (fun u hu => by obtain ⟨z, _, rfl⟩ := List.mem_map.1 hu; rfl) (by unfold maxLen; omega) (by omega) hG.size ?_
          case news11 =>
            rw [List.getElem?_map] at hu
            obtain ⟨z, hz, rfl⟩ := Option.map_eq_some_iff.1 hu
            rw [List.getElem?_drop] at hz
            have hin : i < i := by have h := (List.getElem?_eq_some_iff.1 hz).1; rw [HN.out] at h; omega
            rw [ho hin, addA]
            exact HCV.out w hG (i + j) z hz
          intro v' w' hown hgrow _
          refine ⟨⟨_, _, _, _, _, _, _, _, _, _, _, _, rfl⟩, Below.grown hG hgrow hG.size (own_base own), trivial, (fun j hj hne => by rcases (by omega : j = 0 ∨ j = 1 ∨ j = 2 ∨ j = 3 ∨ j = 4 ∨ j = 5 ∨ j = 6 ∨ j = 7 ∨ j = 8 ∨ j = 9 ∨ j = 10 ∨ j = 11) with rfl | rfl | rfl | rfl | rfl | rfl | rfl | rfl | rfl | rfl | rfl | rfl <;> first | exact absurd rfl hne | rfl), fun j v h => FactI.any j v _ _ h, ?_⟩
          have hs11 : (listed.setIfInBounds 11 true).getD 11 false = true := by simp [hls]
          have h4 : listed.getD 4 false = true := by cases h : listed.getD 4 false with | true => rfl | false => rw [hRl.o7 h] at h7; cases h7
          constructor <;> simp only [getD_set_ne false (show (11 : Nat) ≠ 0 by decide), getD_set_ne false (show (11 : Nat) ≠ 4 by decide), getD_set_ne false (show (11 : Nat) ≠ 6 by decide), getD_set_ne false (show (11 : Nat) ≠ 7 by decide), h7, h4, hs11]
          · exact fun x => absurd (hRl.o4 x) (by rw [h4]; decide)
          · intro h; cases h
          · intro h; cases h
          · intro _ h; cases h
          · intro _ h; cases h
          · intro _ h; cases h
          · intro _; rw [List.map_append, hlD]; exact hown
          · intro h6; obtain ⟨h, e39, _, hlt6, _⟩ := hRl.r6 h6; exact ⟨h, e39, (fun x => by cases x), Nat.lt_of_lt_of_le hlt6 hgrow.size, fun _ x => by cases x⟩
      case tail =>
        rintro listed a w hall hRl ⟨u33, u34, u35, u36, u37, u38, u39, u40, u41, u42, u43, u44, rfl⟩ hG hf
        have own : w.ownsRow V0.heap.size 9 1 u44 (i + 1 + (L.drop i).length) ((L.take i ++ [s] ++ L.drop i).map Value.string) := hRl.r11 (hall 11 (by omega))
        rw [hlD, show i + 1 + (i - i) = i + 1 by omega] at own
        obtain ⟨g', c', rfl⟩ := ownsRow_succ own
        have HO := hid (And.intro own hG)
        clear own hG hRl hf hall
        refine wpOp_of_list (i := 12) rfl ?_
        go_wp2_with fail
        dsimp only [gQ]
        go_wp2_with fail
        go_ret
        have hle : (insB L s).length = i + 1 := by rw [HINS.out, List.length_append, List.length_cons, hlA, hlD]; omega
        rw [hle]
        refine ⟨g', c', rfl, ?_, HBD.out.trans (HO.out.2.mono HBD.out.size)⟩
        have h9 := own_mono HO.out.1 (Nat.le_trans HBASE.out HBD.out.size)
        rw [HINS.out]
        rw [List.append_assoc] at h9
        exact h9
end Go.Proofs.YtjedcijddlilaaaGreatDoor

namespace Go.Proofs.YtjedcijddlilaaaGreatDoor
open Go.RowKit Go.Shelf Go.Sort
attribute [local go_sem] Oper.semAt_some

theorem insB_nil (s : ByteArray) : insB [] s = [s] := rfl
theorem insB_cons (s a : ByteArray) (l : List ByteArray) : insB (a :: l) s = if Op.bytesLess a.toList s.toList then a :: insB l s else if a = s then a :: l else s :: a :: l := by
  unfold insB
  cases h : Op.bytesLess a.toList s.toList with
  | true =>
    have hp : posB s (a :: l) = posB s l + 1 := by rw [posB, h]; rfl
    rw [hp, if_pos rfl, List.getElem?_cons_succ, List.take_succ_cons, List.drop_succ_cons]
    split <;> simp
  | false =>
    have hp : posB s (a :: l) = 0 := by rw [posB, h]; rfl
    rw [hp, List.getElem?_cons_zero]
    simp
theorem mem_insB (s z : ByteArray) : ∀ L : List ByteArray, z ∈ insB L s ↔ z ∈ L ∨ z = s
  | [] => by rw [insB_nil]; simp
  | a :: l => by
    rw [insB_cons]
    split
    · rw [List.mem_cons, List.mem_cons, mem_insB s z l, or_assoc]
    · split
      · rename_i h; subst h
        constructor
        · exact .inl
        · rintro (h | rfl)
          · exact h
          · exact List.mem_cons_self
      · simp only [List.mem_cons]
        constructor
        · rintro (h | h)
          · exact .inr h
          · exact .inl h
        · rintro (h | h)
          · exact .inr h
          · exact .inl h
theorem len_insB (s : ByteArray) : ∀ L : List ByteArray, (insB L s).length ≤ L.length + 1
  | [] => Nat.le_refl _
  | a :: l => by
    rw [insB_cons]
    have := len_insB s l
    split
    · simp only [List.length_cons]; omega
    · split <;> simp only [List.length_cons] <;> omega
def SortB (L : List ByteArray) : Prop := L.Pairwise (fun a b => a.toList < b.toList)
theorem sort_insB (s : ByteArray) : ∀ L : List ByteArray, SortB L → SortB (insB L s)
  | [], _ => by rw [insB_nil]; exact List.pairwise_singleton _ _
  | a :: l, h => by
    have h1 := List.pairwise_cons.1 h
    rw [insB_cons, bytesLess_eq]
    by_cases hlt : a.toList < s.toList
    · rw [if_pos (by simpa using hlt)]
      refine List.pairwise_cons.2 ⟨fun b hb => ?_, sort_insB s l h1.2⟩
      rcases (mem_insB s b l).1 hb with hb | rfl
      · exact h1.1 b hb
      · exact hlt
    · rw [if_neg (by simpa using hlt)]
      split
      · exact h
      · rename_i hne
        have hsa : s.toList < a.toList := by
          rcases List.le_iff_lt_or_eq.1 (List.not_lt.1 hlt) with h2 | h2
          · exact h2
          · exact absurd h2.symm (fun e => by have h3 := toList_ne hne; rw [e] at h3; simp at h3)
        refine List.pairwise_cons.2 ⟨fun b hb => ?_, h⟩
        rcases List.mem_cons.1 hb with rfl | hb
        · exact hsa
        · exact List.lt_trans hsa (h1.1 b hb)
/-- The names of the variables among some nodes. -/
def VarIn (l : List Ty) (z : ByteArray) : Prop := ∃ u ∈ l, u.k = 9 ∧ u.n = z
structure Frees (t : Ty) (M : List ByteArray) : Prop where
  sort : SortB M
  mem : ∀ z, z ∈ M ↔ VarIn t.nodes z
  len : M.length ≤ t.size
def RfT (w0 : World) (s : Nat) : Prop := ∀ x : TyI w0, x.t.size ≤ s → ∀ W, Below w0.heap.size w0 W → Calls Tryz.prog 23 #[.agg #[.int .i64 x.t.k, .string x.t.m, .string x.t.n, .slice x.aa x.t.A.len x.ca, .slice x.af x.t.F.len x.cf]] W
  fun e W' => ∃ M g c, Frees x.t M ∧ e = .returned (.slice (some ⟨g, 0, none⟩) M.length c) ∧ W'.ownsRow W.heap.size 9 1 (.slice (some ⟨g, 0, none⟩) M.length c) M.length (M.map Value.string) ∧ Below W.heap.size W W'
/-- The variables of a node itself, and of the first of its parts. -/
def OutI (t : Ty) (i : Nat) (M : List ByteArray) : Prop := SortB M ∧ (∀ z, z ∈ M ↔ (t.k = 9 ∧ t.n = z) ∨ VarIn ((t.parts.take i).flatMap Ty.nodes) z) ∧ M.length ≤ psum t.parts i
theorem OutI.done {t : Ty} {M : List ByteArray} (h : OutI t t.parts.length M) : Frees t M := by
  refine ⟨h.1, fun z => ?_, ?_⟩
  · rw [h.2.1 z, List.take_length, Ty.nodes_parts]
    unfold VarIn
    simp only [List.mem_cons, exists_eq_or_imp]
  · have := h.2.2
    unfold psum at this
    rw [List.take_length, ← Ty.size_parts] at this
    exact this
/-- While the variables of a part are put in. -/
def InI (t : Ty) (i k : Nat) (l M : List ByteArray) : Prop := SortB M ∧ (∀ z, z ∈ M ↔ ((t.k = 9 ∧ t.n = z) ∨ VarIn ((t.parts.take i).flatMap Ty.nodes) z) ∨ z ∈ l.take k) ∧ M.length ≤ psum t.parts i + k
theorem InI.start {t : Ty} {i : Nat} {l M : List ByteArray} (h : OutI t i M) : InI t i 0 l M := by
  refine ⟨h.1, fun z => ?_, h.2.2⟩
  rw [h.2.1 z, List.take_zero]
  simp
theorem InI.next {t : Ty} {i k : Nat} {l M : List ByteArray} {s : ByteArray} (h : InI t i k l M) (hs : l[k]? = some s) : InI t i (k + 1) l (insB M s) := by
  refine ⟨sort_insB s M h.1, fun z => ?_, ?_⟩
  · rw [mem_insB, h.2.1 z, List.take_add_one, hs, List.mem_append, or_assoc (a := _ ∨ _)]
    simp
  · have := len_insB s M
    have := h.2.2
    omega
theorem InI.done {t y : Ty} {i : Nat} {l M : List ByteArray} (h : InI t i l.length l M) (hy : t.parts[i]? = some y) (hl : Frees y l) : OutI t (i + 1) M := by
  refine ⟨h.1, fun z => ?_, ?_⟩
  · rw [h.2.1 z, List.take_length, hl.mem z, List.take_add_one, hy]
    unfold VarIn
    simp only [Option.toList_some, List.flatMap_append, List.flatMap_cons, List.flatMap_nil, List.append_nil, List.mem_append]
    constructor
    · rintro ((h | ⟨u, h1, h2⟩) | ⟨u, h1, h2⟩)
      · exact .inl h
      · exact .inr ⟨u, .inl h1, h2⟩
      · exact .inr ⟨u, .inr h1, h2⟩
    · rintro (h | ⟨u, h1 | h1, h2⟩)
      · exact .inl (.inl h)
      · exact .inl (.inr ⟨u, h1, h2⟩)
      · exact .inr ⟨u, h1, h2⟩
  · rw [psum_succ hy]
    have := h.2.2
    have := hl.len
    omega
set_option maxRecDepth 100000 in
set_option maxHeartbeats 16000000 in
theorem rf_step (w0 : World) (s : Nat) (hs : s + 1 ≤ 1099511627775) (ih : RfT w0 s) : RfT w0 (s + 1) := by
  intro x hx W hW
  have HI := hid ih
  clear ih
  obtain ⟨i0, hi, hz0, hz1, hz2⟩ := info_parts infoStr2
  obtain ⟨wa, hwa⟩ : ∃ wa, W.alloc (.cells #[.int .i64 x.t.k, .string x.t.m, .string x.t.n, .slice x.aa x.t.A.len x.ca, .slice x.af x.t.F.len x.cf] 25) = wa := ⟨_, rfl⟩
  have hba : Below W.heap.size W wa := by rw [← hwa]; exact (Below.refl _ W).alloc (Nat.le_refl _) _
  have hea : wa.heap[W.heap.size]? = some (.cells #[.int .i64 x.t.k, .string x.t.m, .string x.t.n, .slice x.aa x.t.A.len x.ca, .slice x.af x.t.F.len x.cf] 25 (0, 0)) := by rw [← hwa]; exact World.alloc_heap_new _ _
  have hsa : wa.heap.size = W.heap.size + 1 := by rw [← hwa]; simp
  obtain ⟨wb, hwb⟩ : ∃ wb, wa.alloc (.cells #[] 9) = wb := ⟨_, rfl⟩
  have hbb : Below wa.heap.size wa wb := by rw [← hwb]; exact (Below.refl _ wa).alloc (Nat.le_refl _) _
  have hob : wb.ownsRow (W.heap.size + 1) 9 1 (.slice (some ⟨W.heap.size + 1, 0, none⟩) 0 0) 0 [] := by rw [← hwb, ← hsa]; exact World.ownsRow_made wa #[] 0 (by omega) (by unfold maxLen; omega) rfl
  have HR : Kpt (∀ w, Below wa.heap.size wa w → w.heap[W.heap.size]? = some (.cells #[.int .i64 x.t.k, .string x.t.m, .string x.t.n, .slice x.aa x.t.A.len x.ca, .slice x.af x.t.F.len x.cf] 25 (0, 0))) := hid fun w hb => (hb.block _ (by omega)).trans hea
  have HOLD : Kpt (∀ w, Below wa.heap.size wa w → Below w0.heap.size w0 w) := hid fun w hb => hW.trans ((hba.trans (hb.mono hba.size)).mono hW.size)
  have HFIN : Kpt (∀ w, Below wa.heap.size wa w → Below W.heap.size W w) := hid fun w hb => hba.trans (hb.mono hba.size)
  have HBB := hid hbb
  have HOB := hid hob
  have hsb := hbb.size
  have hrb := HR.out wb hbb
  have k0 := cell_of_row wb _ 0 _ _ _ hrb
  have k2 := cell_of_row wb _ 2 _ _ _ hrb
  clear hba hea hW hbb hob hrb
  by_cases hk9 : x.t.k = 9
  · have HO0 : Kpt (OutI x.t 0 [x.t.n]) := hid ⟨List.pairwise_singleton _ _, fun z => by unfold VarIn; simp [hk9, eq_comm], by unfold psum; simp⟩
    have hkk : (x.t.k == 9) = true := by rw [hk9]; rfl
    clear hk9
    obtain ⟨C, hC⟩ : ∃ C, (Question.appendCap 1 0 9).cut (wb.tape wb.drawn (Question.appendCap 1 0 9)) = C := ⟨_, rfl⟩
    have hC0 : C = 1 + wb.tape wb.drawn (Question.appendCap 1 0 9) % (2 ^ 63 - 1) := by rw [← hC]; rfl
    have hC1 : 1 ≤ C ∧ C ≤ maxLen := by
      have h := Nat.mod_lt (wb.tape wb.drawn (Question.appendCap 1 0 9)) (show 0 < 2 ^ 63 - 1 by decide)
      rw [hC0]
      unfold maxLen
      omega
    clear hC0
    obtain ⟨w3, hw3⟩ : ∃ w3, ((wb.alloc (.cells #[.string x.t.n] 9)).alloc (.cells (#[.string x.t.n] ++ Builtin.zeroCells #[.string ⟨#[]⟩] (C - 1)) 9)).drew = w3 := ⟨_, rfl⟩
    have H3 := hid (show Below wa.heap.size wa w3 by rw [← hw3]; exact ((HBB.out.alloc (by omega) _).alloc (alloc_le (by omega) _) _).drew)
    have hown3 : w3.ownsRow (W.heap.size + 1) 9 1 (.slice (some ⟨wb.heap.size + 1, 0, none⟩) [x.t.n].length C) [x.t.n].length ([x.t.n].map Value.string) := by
      rw [← hw3]
      refine ⟨rfl, .inr ⟨wb.heap.size + 1, C, #[.string x.t.n] ++ Builtin.zeroCells #[.string ⟨#[]⟩] (C - 1), rfl, by omega, ?_, hC1.1, hC1.2, ?_, ?_⟩⟩
      · have h := World.alloc_heap_new (wb.alloc (.cells #[.string x.t.n] 9)) (.cells (#[.string x.t.n] ++ Builtin.zeroCells #[.string ⟨#[]⟩] (C - 1)) 9)
        rw [World.size_alloc] at h
        exact h
      · rw [Array.size_append, size_zeroCells]; simp; omega
      · simp
    have HW3 := hid hown3
    clear hown3
    have hr3 := HR.out w3 H3.out
    have q0 := cell_of_row w3 _ 0 _ _ _ hr3
    have q1 := cell_of_row w3 _ 1 _ _ _ hr3
    have q2 := cell_of_row w3 _ 2 _ _ _ hr3
    have q3 := cell_of_row w3 _ 3 _ _ _ hr3
    have q4 := cell_of_row w3 _ 4 _ _ _ hr3
    have hs3 := H3.out.size
    clear hr3
    go_enter Tryz.func23, Tryz.ntmps23
    have HP := hid (rparts_any w0 x w3 (HOLD.out w3 H3.out) (by omega))
    go_wp2_with fail
    refine HP.out.mono ?_
    rintro e w1 ⟨v, rs, rfl, hrs, hrow, hb1⟩
    obtain ⟨p, c1, rfl⟩ := own_slice hrow
    clear q0 q1 q2 q3 q4 k0 k2 hwa hwb hw3 hC
    have hln : rs.length = x.t.parts.length := by rw [← hrs, List.length_map]
    have hpz : psum x.t.parts x.t.parts.length = x.t.size := by unfold psum; rw [List.take_length, ← Ty.size_parts]
    have hpl : x.t.parts.length < x.t.size := by
      have h : ∀ l : List Ty, l.length ≤ (l.map Ty.size).sum := fun l => by
        induction l with
        | nil => exact Nat.le_refl _
        | cons a l ih => simp only [List.length_cons, List.map_cons, List.sum_cons, Ty.size]; omega
      rw [Ty.size_parts]
      have := h x.t.parts
      omega
    obtain ⟨L, hL⟩ : ∃ L, rs.length = L := ⟨_, rfl⟩
    rw [hL] at hrow ⊢
    have hLs : L < x.t.size := by omega
    have HB1 := hid (H3.out.trans (hb1.mono H3.out.size))
    have hs1 := HB1.out.size
    have HO1 := hid (own_belowS HW3.out hb1)
    have H1 := hid (And.intro hrs (And.intro hrow (And.intro hL (And.intro (hln.symm.trans hL) hpz))))
    clear hrs hrow hb1 hln hpz hpl hL
    go_wp2_with fail
    go_loopw [3, 5] (fun q a wr => ∃ (i : Nat) (M : List ByteArray) (g c : Nat), a = .int .i64 (i : Int) ∧ i ≤ L ∧ q = .slice (some ⟨g, 0, none⟩) M.length c ∧ Kpt (OutI x.t i M) ∧ Kpt (wr.ownsRow (W.heap.size + 1) 9 1 (.slice (some ⟨g, 0, none⟩) M.length c) M.length (M.map Value.string)) ∧ Kpt (Below w1.heap.size w1 wr)) (fun _ a _ => L - (intOf a).toNat)
    case atStart => exact ⟨0, [x.t.n], (wb.heap.size + 1), C, rfl, Nat.zero_le _, rfl, HO0, HO1, ⟨Below.refl _ _⟩⟩
    case round =>
      obtain ⟨i, M, g, c, rfl, hi9, rfl, hout, hown, hB⟩ := hrel
      by_cases hlt : i < L
      · obtain ⟨gp, cap, hv, _, _⟩ := H1.out.2.1.form (by omega)
        cases hv
        obtain ⟨y, hy⟩ : ∃ y, rs[i]? = some y := ⟨_, List.getElem?_eq_getElem (by rw [H1.out.2.2.1]; exact hlt)⟩
        have hc : ∀ j u, y.cells.toList[j]? = some u → j < 5 → wr.cell? ⟨gp, i * 5 + j, none⟩ = some u := fun j u hu hj => by
          refine old_cell hB.out ?_
          rw [H1.out.2.1.cellAt (i * 5 + j) (by omega)]
          exact flat_at (fun y : TyI w0 => y.cells.toList) 5 (fun _ => rfl) rs i j y u hy hu
        have d0 := hc 0 _ rfl (by omega)
        have d1 := hc 1 _ rfl (by omega)
        have d2 := hc 2 _ rfl (by omega)
        have d3 := hc 3 _ rfl (by omega)
        have d4 := hc 4 _ rfl (by omega)
        have hyp : x.t.parts[i]? = some y.t := by rw [← H1.out.1, List.getElem?_map, hy]; rfl
        have hys : y.t.size < x.t.size := Ty.part_size (List.mem_of_getElem? hyp)
        have hps := psum_succ hyp
        have hpl := psum_le x.t.parts (i + 1)
        rw [H1.out.2.2.2.2] at hpl
        have HBR := hid (HB1.out.trans (hB.out.mono HB1.out.size))
        have hswr := HBR.out.size
        have HC := hid (HI.out y (by omega) wr (HOLD.out wr HBR.out))
        have HY := hid hyp
        have HLN := hid (And.intro hps hpl)
        have HXS := hid hx
        clear hc hy hyp hps hpl
        simp only [Nat.add_zero] at d0
        go_wp2_with fail
        refine HC.out.mono ?_
        rintro e w4 ⟨l, gl, cl, hfl, rfl, hol, hb4⟩
        have H4 := hid hb4
        have HOL := hid hol
        have HFL := hid hfl
        have HLL := hid hfl.len
        have hs4 := hb4.size
        have HO4 := hid (own_belowS hown.out hb4)
        obtain ⟨N, hN⟩ : ∃ N, l.length = N := ⟨_, rfl⟩
        rw [hN]
        have HN := hid hN
        have hNs : N ≤ 1099511627775 := by have := hfl.len; omega
        clear hb4 hol hfl hN d0 d1 d2 d3 d4
        go_wp2_with fail
        go_loopw [3, 7] (fun q a wr2 => ∃ (k : Nat) (M2 : List ByteArray) (g2 c2 : Nat), a = .int .i64 (k : Int) ∧ k ≤ N ∧ q = .slice (some ⟨g2, 0, none⟩) M2.length c2 ∧ Kpt (InI x.t i k l M2) ∧ Kpt (wr2.ownsRow (W.heap.size + 1) 9 1 (.slice (some ⟨g2, 0, none⟩) M2.length c2) M2.length (M2.map Value.string)) ∧ Kpt (Below w4.heap.size w4 wr2)) (fun _ a _ => N - (intOf a).toNat)
        case atStart => exact ⟨0, M, g, c, rfl, Nat.zero_le _, rfl, ⟨InI.start hout.out⟩, HO4, ⟨Below.refl _ _⟩⟩
        case round =>
          obtain ⟨k, M2, g2, c2, rfl, hk8, rfl, hin, hown2, hB2⟩ := hrel
          have hs5 := hB2.out.size
          by_cases hk : k < N
          · obtain ⟨z, hz⟩ : ∃ z, l[k]? = some z := ⟨_, List.getElem?_eq_getElem (by rw [HN.out]; exact hk)⟩
            have dz : wr.cell? ⟨gl, k, none⟩ = some (.string z) := by
              have h := HOL.out.cells (g := gl) rfl k (.string z) (by rw [List.getElem?_map, hz]; rfl)
              rw [addA, Nat.zero_add] at h
              exact old_cell hB2.out h
            have HIN := hid (rinsert_any M2 z (W.heap.size + 1) g2 c2 wr hown2.out (by omega) (by have h1 := hin.out.2.2; have h2 := HLN.out; have h3 := HLL.out; have h4 := HN.out; omega))
            have HZ := hid hz
            clear hz
            go_wp2_with fail
            refine HIN.out.mono ?_
            rintro e w5 ⟨g', c', rfl, ho5, hb5⟩
            have H5 := hid (And.intro ho5 hb5)
            clear ho5 hb5 dz
            go_wp2_with fail
            go_roundw
            case rel => exact ⟨k + 1, insB M2 z, g', c', by go_num, by omega, rfl, ⟨InI.next hin.out HZ.out⟩, ⟨H5.out.1⟩, ⟨hB2.out.trans (H5.out.2.mono hB2.out.size)⟩⟩
            case measure => simp [intOf]; omega
          · obtain rfl : k = N := by omega
            go_wp2_with fail
            go_roundw
            case rel => exact ⟨i + 1, M2, g2, c2, by go_num, by omega, rfl, ⟨InI.done (by rw [HN.out]; exact hin.out) HY.out HFL.out⟩, hown2, ⟨hB.out.trans ((H4.out.trans (hB2.out.mono H4.out.size)).mono hB.out.size)⟩⟩
            case measure => simp [intOf]; omega
      · obtain rfl : i = L := by omega
        go_wp2_with fail
        go_ret
        refine ⟨M, g, c, OutI.done (by rw [H1.out.2.2.2.1]; exact hout.out), rfl, own_mono hown.out (Nat.le_succ _), HFIN.out wr (HB1.out.trans (hB.out.mono HB1.out.size))⟩
  · have HO0 : Kpt (OutI x.t 0 []) := hid ⟨List.Pairwise.nil, fun z => by unfold VarIn; simp [hk9], by unfold psum; simp⟩
    have hkk : (x.t.k == 9) = false := by rw [beq_eq_false_iff_ne]; exact hk9
    have hrb := HR.out wb HBB.out
    have k1 := cell_of_row wb _ 1 _ _ _ hrb
    have k3 := cell_of_row wb _ 3 _ _ _ hrb
    have k4 := cell_of_row wb _ 4 _ _ _ hrb
    clear hk9 hrb
    go_enter Tryz.func23, Tryz.ntmps23
    have HP := hid (rparts_any w0 x wb (HOLD.out wb HBB.out) (by omega))
    go_wp2_with fail
    refine HP.out.mono ?_
    rintro e w1 ⟨v, rs, rfl, hrs, hrow, hb1⟩
    obtain ⟨p, c1, rfl⟩ := own_slice hrow
    clear k0 k1 k2 k3 k4 hwa hwb
    have hln : rs.length = x.t.parts.length := by rw [← hrs, List.length_map]
    have hpz : psum x.t.parts x.t.parts.length = x.t.size := by unfold psum; rw [List.take_length, ← Ty.size_parts]
    have hpl : x.t.parts.length < x.t.size := by
      have h : ∀ l : List Ty, l.length ≤ (l.map Ty.size).sum := fun l => by
        induction l with
        | nil => exact Nat.le_refl _
        | cons a l ih => simp only [List.length_cons, List.map_cons, List.sum_cons, Ty.size]; omega
      rw [Ty.size_parts]
      have := h x.t.parts
      omega
    obtain ⟨L, hL⟩ : ∃ L, rs.length = L := ⟨_, rfl⟩
    rw [hL] at hrow ⊢
    have hLs : L < x.t.size := by omega
    have HB1 := hid (HBB.out.trans (hb1.mono HBB.out.size))
    have hs1 := HB1.out.size
    have HO1 := hid (own_belowS HOB.out hb1)
    have H1 := hid (And.intro hrs (And.intro hrow (And.intro hL (And.intro (hln.symm.trans hL) hpz))))
    clear hrs hrow hb1 hln hpz hpl hL
    go_wp2_with fail
    go_loopw [3, 5] (fun q a wr => ∃ (i : Nat) (M : List ByteArray) (g c : Nat), a = .int .i64 (i : Int) ∧ i ≤ L ∧ q = .slice (some ⟨g, 0, none⟩) M.length c ∧ Kpt (OutI x.t i M) ∧ Kpt (wr.ownsRow (W.heap.size + 1) 9 1 (.slice (some ⟨g, 0, none⟩) M.length c) M.length (M.map Value.string)) ∧ Kpt (Below w1.heap.size w1 wr)) (fun _ a _ => L - (intOf a).toNat)
    case atStart => exact ⟨0, [], (W.heap.size + 1), 0, rfl, Nat.zero_le _, rfl, HO0, HO1, ⟨Below.refl _ _⟩⟩
    case round =>
      obtain ⟨i, M, g, c, rfl, hi9, rfl, hout, hown, hB⟩ := hrel
      by_cases hlt : i < L
      · obtain ⟨gp, cap, hv, _, _⟩ := H1.out.2.1.form (by omega)
        cases hv
        obtain ⟨y, hy⟩ : ∃ y, rs[i]? = some y := ⟨_, List.getElem?_eq_getElem (by rw [H1.out.2.2.1]; exact hlt)⟩
        have hc : ∀ j u, y.cells.toList[j]? = some u → j < 5 → wr.cell? ⟨gp, i * 5 + j, none⟩ = some u := fun j u hu hj => by
          refine old_cell hB.out ?_
          rw [H1.out.2.1.cellAt (i * 5 + j) (by omega)]
          exact flat_at (fun y : TyI w0 => y.cells.toList) 5 (fun _ => rfl) rs i j y u hy hu
        have d0 := hc 0 _ rfl (by omega)
        have d1 := hc 1 _ rfl (by omega)
        have d2 := hc 2 _ rfl (by omega)
        have d3 := hc 3 _ rfl (by omega)
        have d4 := hc 4 _ rfl (by omega)
        have hyp : x.t.parts[i]? = some y.t := by rw [← H1.out.1, List.getElem?_map, hy]; rfl
        have hys : y.t.size < x.t.size := Ty.part_size (List.mem_of_getElem? hyp)
        have hps := psum_succ hyp
        have hpl := psum_le x.t.parts (i + 1)
        rw [H1.out.2.2.2.2] at hpl
        have HBR := hid (HB1.out.trans (hB.out.mono HB1.out.size))
        have hswr := HBR.out.size
        have HC := hid (HI.out y (by omega) wr (HOLD.out wr HBR.out))
        have HY := hid hyp
        have HLN := hid (And.intro hps hpl)
        have HXS := hid hx
        clear hc hy hyp hps hpl
        simp only [Nat.add_zero] at d0
        go_wp2_with fail
        refine HC.out.mono ?_
        rintro e w4 ⟨l, gl, cl, hfl, rfl, hol, hb4⟩
        have H4 := hid hb4
        have HOL := hid hol
        have HFL := hid hfl
        have HLL := hid hfl.len
        have hs4 := hb4.size
        have HO4 := hid (own_belowS hown.out hb4)
        obtain ⟨N, hN⟩ : ∃ N, l.length = N := ⟨_, rfl⟩
        rw [hN]
        have HN := hid hN
        have hNs : N ≤ 1099511627775 := by have := hfl.len; omega
        clear hb4 hol hfl hN d0 d1 d2 d3 d4
        go_wp2_with fail
        go_loopw [3, 7] (fun q a wr2 => ∃ (k : Nat) (M2 : List ByteArray) (g2 c2 : Nat), a = .int .i64 (k : Int) ∧ k ≤ N ∧ q = .slice (some ⟨g2, 0, none⟩) M2.length c2 ∧ Kpt (InI x.t i k l M2) ∧ Kpt (wr2.ownsRow (W.heap.size + 1) 9 1 (.slice (some ⟨g2, 0, none⟩) M2.length c2) M2.length (M2.map Value.string)) ∧ Kpt (Below w4.heap.size w4 wr2)) (fun _ a _ => N - (intOf a).toNat)
        case atStart => exact ⟨0, M, g, c, rfl, Nat.zero_le _, rfl, ⟨InI.start hout.out⟩, HO4, ⟨Below.refl _ _⟩⟩
        case round =>
          obtain ⟨k, M2, g2, c2, rfl, hk8, rfl, hin, hown2, hB2⟩ := hrel
          have hs5 := hB2.out.size
          by_cases hk : k < N
          · obtain ⟨z, hz⟩ : ∃ z, l[k]? = some z := ⟨_, List.getElem?_eq_getElem (by rw [HN.out]; exact hk)⟩
            have dz : wr.cell? ⟨gl, k, none⟩ = some (.string z) := by
              have h := HOL.out.cells (g := gl) rfl k (.string z) (by rw [List.getElem?_map, hz]; rfl)
              rw [addA, Nat.zero_add] at h
              exact old_cell hB2.out h
            have HIN := hid (rinsert_any M2 z (W.heap.size + 1) g2 c2 wr hown2.out (by omega) (by have h1 := hin.out.2.2; have h2 := HLN.out; have h3 := HLL.out; have h4 := HN.out; omega))
            have HZ := hid hz
            clear hz
            go_wp2_with fail
            refine HIN.out.mono ?_
            rintro e w5 ⟨g', c', rfl, ho5, hb5⟩
            have H5 := hid (And.intro ho5 hb5)
            clear ho5 hb5 dz
            go_wp2_with fail
            go_roundw
            case rel => exact ⟨k + 1, insB M2 z, g', c', by go_num, by omega, rfl, ⟨InI.next hin.out HZ.out⟩, ⟨H5.out.1⟩, ⟨hB2.out.trans (H5.out.2.mono hB2.out.size)⟩⟩
            case measure => simp [intOf]; omega
          · obtain rfl : k = N := by omega
            go_wp2_with fail
            go_roundw
            case rel => exact ⟨i + 1, M2, g2, c2, by go_num, by omega, rfl, ⟨InI.done (by rw [HN.out]; exact hin.out) HY.out HFL.out⟩, hown2, ⟨hB.out.trans ((H4.out.trans (hB2.out.mono H4.out.size)).mono hB.out.size)⟩⟩
            case measure => simp [intOf]; omega
      · obtain rfl : i = L := by omega
        go_wp2_with fail
        go_ret
        refine ⟨M, g, c, OutI.done (by rw [H1.out.2.2.2.1]; exact hout.out), rfl, own_mono hown.out (Nat.le_succ _), HFIN.out wr (HB1.out.trans (hB.out.mono HB1.out.size))⟩
theorem rf_all (w0 : World) : ∀ s : Nat, s ≤ 1099511627775 → RfT w0 s := by
  intro s
  induction s with
  | zero => intro _ x hx; exact absurd hx (by unfold Ty.size; omega)
  | succ s ih => intro hs; exact rf_step w0 s hs (ih (by omega))
end Go.Proofs.YtjedcijddlilaaaGreatDoor

namespace Go.Proofs.YtjedcijddlilaaaGreatDoor
open Go.RowKit Go.Shelf Go.Maps Go.Sort

theorem mem_varsL (l : List Ty) (z : List UInt8) : z ∈ varsL l ↔ ∃ u ∈ l, u.k = 9 ∧ u.n.data.toList = z := by
  unfold varsL
  simp only [List.mem_map, List.mem_filter, decide_eq_true_eq]
  constructor
  · rintro ⟨u, ⟨h1, h2⟩, h3⟩; exact ⟨u, h1, h2, h3⟩
  · rintro ⟨u, h1, h2, h3⟩; exact ⟨u, ⟨h1, h2⟩, h3⟩
theorem Frees.list {t : Ty} {M : List ByteArray} (h : Frees t M) : M.map (fun b => b.data.toList) = freeL t := by
  have hs : (M.map (fun b => b.data.toList)).Pairwise (fun a b => a < b) := by
    rw [List.pairwise_map]
    exact h.sort.imp fun {a b} hab => by rw [ByteArray.toList_eq, ByteArray.toList_eq] at hab; exact hab
  have hm : (M.map (fun b => b.data.toList)).mergeSort leB = M.map (fun b => b.data.toList) := List.mergeSort_of_pairwise (hs.imp fun {a b} hab => by simp only [leB, decide_eq_true_eq]; exact List.le_of_lt hab)
  have hn : (M.map (fun b => b.data.toList)).Nodup := hs.imp fun {a b} hab e => by subst e; exact List.lt_irrefl _ hab
  rw [← hm]
  refine mergeSort_of_perm ((List.perm_ext_iff_of_nodup hn (nodup_dedup _)).2 fun z => ?_)
  rw [mem_dedup, mem_varsL, List.mem_map]
  constructor
  · rintro ⟨b, hb, rfl⟩
    obtain ⟨u, h1, h2, rfl⟩ := (h.mem b).1 hb
    exact ⟨u, h1, h2, rfl⟩
  · rintro ⟨u, h1, h2, h3⟩
    exact ⟨u.n, (h.mem u.n).2 ⟨u, h1, h2, rfl⟩, h3⟩
theorem Frees.cells {t : Ty} {M : List ByteArray} (h : Frees t M) : M.map Value.string = (freeL t).map encStr := by
  rw [← h.list, List.map_map]
  refine List.map_congr_left fun b _ => ?_
  simp [encStr]
end Go.Proofs.YtjedcijddlilaaaGreatDoor
