/- Sha256Prefixes: the walk. -/
import Derived.Test.YtijohbohdceggaaPre0
import Derived.Test.YtijohbohdceggaaRefLen
import Derived.Test.YtijohbohdceggaaAwake
namespace Go.Proofs.Ytijohbohdceggaa
open Go.RowKit

theorem encs_length (ps : List ByteArray) : (encs ps).length = 8 * ps.length + sizes ps := by
  induction ps with
  | nil => rfl
  | cons p ps ih =>
    have e : encs (p :: ps) = enc p.data.toList ++ encs ps := rfl
    rw [e, List.length_append, enc_length, size_list, ih, sizes_cons, List.length_cons]; omega
theorem lib_byteCells (a b : List UInt8) : Lib.byteCells (a ++ b) = Lib.byteCells a ++ Lib.byteCells b := by simp [Lib.byteCells]
theorem lib_length (a : List UInt8) : (Lib.byteCells a).length = a.length := by simp [Lib.byteCells]

set_option maxRecDepth 100000 in
set_option maxHeartbeats 2000000 in
theorem prefixes_any (tag : ByteArray) (v : Value) (ps : List ByteArray) (w : World) (hv : StrN w v ps) (hb : tag.size + ps.length + sizes ps ≤ 1048576) :
    Calls Try.prog 9 #[.string tag, v] w
      fun e w' => e = .returned (.bool true) ∧ Below w.heap.size w w' := by
  go_enter Try.func9, Try.ntmps9
  go_wp2_with fail
  refine (awake_any w).mono ?_
  rintro e w1 ⟨rfl, hb1⟩
  have KB := hid (And.intro hb1 (StrN_below hv hb1))
  have KV := hid hv
  clear hb1 hv
  go_wp2_with (at_builtin; refine wpList_append_strs rfl _ _ rfl rfl (own_one w1 tag) (alloc_ge (Nat.le_refl _) _) rfl (StrN_below KB.out.2 ((Below.refl _ _).alloc (Nat.le_refl _) _)) (by omega) ?_; intro v' w2 hS2 hg2)
  have hb12 : Below w1.heap.size w1 w2 := Below.grown ((Below.refl w1.heap.size w1).alloc (Nat.le_refl _) _) hg2 (alloc_ge (Nat.le_refl _) _) (own_base (own_one w1 tag))
  have hb2 : Below w.heap.size w w2 := KB.out.1.trans (hb12.mono KB.out.1.size)
  have htot : tot (tag :: ps).length (tag :: ps) = (((tag :: ps).length + sizes (tag :: ps) : Nat) : Int) := tot_sum (tag :: ps) (tag :: ps).length (by rw [sizes_cons, List.length_cons]; omega)
  have hfew := few_any v' (tag :: ps) w2 hS2 (by rw [List.length_cons]; omega)
  rw [htot] at hfew
  have K2 := hid (And.intro hb2 (StrN_below KB.out.2 hb12))
  clear hS2 hg2 hb12 hb2 htot
  go_wp2_with fail
  refine hfew.mono ?_
  rintro e w3 ⟨rfl, rfl⟩
  clear hfew
  by_cases hle : (((tag :: ps).length + sizes (tag :: ps) : Nat) : Int) ≤ 2000
  · rw [decide_eq_true hle]
    clear hle
    go_wp2_with (at_builtin; refine wpList_append_strs_own rfl _ _ rfl rfl (own_one2 w3 (.cells #[.pointer none, .slice none 0 0] 46) tag) (by simp) rfl (StrN_below K2.out.2 (((Below.refl w3.heap.size w3).alloc (Nat.le_refl _) _).alloc (alloc_ge (Nat.le_refl _) _) _)) (by omega) ?_; intro v5 w5 hO5 hg5; obtain ⟨g, cap, cur, rfl, hgB, hrow, hnc, hcm, hcs, hcur⟩ := hO5.2.resolve_left (fun h => by have := h.2; omega))
    have hw4 : (w3.alloc (.cells #[.pointer none, .slice none 0 0] 46)).heap[w3.heap.size]? = some (.cells #[.pointer none, .slice none 0 0] 46 (0, 0)) := heap_alloc_new w3 _
    have hs4 : w3.heap.size < (w3.alloc (.cells #[.pointer none, .slice none 0 0] 46)).heap.size := by simp
    have hb34 : Below w3.heap.size w3 (w3.alloc (.cells #[.pointer none, .slice none 0 0] 46)) := (Below.refl _ _).alloc (Nat.le_refl _) _
    obtain ⟨w4, hw4e⟩ : ∃ w4, w4 = w3.alloc (.cells #[.pointer none, .slice none 0 0] 46) := ⟨_, rfl⟩
    have hs4e : w4.heap.size = w3.heap.size + 1 := by rw [hw4e]; simp
    rw [← hw4e] at hg5 hw4 hs4 hb34
    have hb45 : Below w4.heap.size w4 w5 := Below.grown ((Below.refl w4.heap.size w4).alloc (Nat.le_refl _) _) hg5 (alloc_ge (Nat.le_refl _) _) (fun k hk => by have hk' : some (w3.heap.size + 1) = some k := hk; injection hk' with hk'; omega)
    have hbw5 : Below w.heap.size w w5 := (K2.out.1.trans (hb34.mono K2.out.1.size)).trans (hb45.mono (Nat.le_trans K2.out.1.size hb34.size))
    have hbd5 := builder_fresh (w := w5) ((hb45.block w3.heap.size hs4).trans hw4)
    have hBb : w.heap.size ≤ w3.heap.size := K2.out.1.size
    have hgne : g ≠ w3.heap.size := by omega
    have hcell : ∀ k, k < ps.length + 1 → cur[k]? = some (.string ((tag :: ps).getD k ByteArray.empty)) := by
      intro k hk
      have h1 : (cur.toList.take ((ps.length + 1) * 1))[k]? = ((tag :: ps).map Value.string)[k]? := by rw [hcur]
      rw [List.getElem?_take, if_pos (by omega)] at h1
      simp only [Array.getElem?_toList] at h1
      have hk2 : k < (tag :: ps).length := by rw [List.length_cons]; omega
      have e : (tag :: ps).getD k ByteArray.empty = (tag :: ps)[k] := by rw [List.getD_eq_getElem?_getD, List.getElem?_eq_getElem hk2]; rfl
      rw [h1, List.getElem?_map, List.getElem?_eq_getElem hk2, e]
      rfl
    generalize w3.heap.size = bb at *
    have KC := hid (And.intro hcell (And.intro hgne hBb))
    have K5 := hid (And.intro hbd5 (And.intro hrow hbw5))
    have hN : ps.length + 1 = (tag :: ps).length := rfl
    have hlenE : ∀ k, (encs ((tag :: ps).take k)).length ≤ 16777216 := by
      intro k
      have h1 := encs_le (tag :: ps) k
      have h2 := encs_length (tag :: ps)
      rw [List.length_cons, sizes_cons] at h2
      omega
    have hszE : ∀ k, k < ps.length + 1 → ((tag :: ps).getD k ByteArray.empty).size ≤ 16777216 := by
      intro k hk
      have h1 := encs_take (tag :: ps) k hk
      have h3 := encs_le (tag :: ps) (k + 1)
      have h4 := encs_length (tag :: ps)
      rw [h1, List.length_append, enc_length, size_list] at h3
      rw [List.length_cons, sizes_cons] at h4
      omega
    have HE := hid (And.intro hlenE hszE)
    clear hO5 hg5 hw4 hs4 hb34 hw4e hs4e hb45 hbw5 hbd5 hcell hgne hBb hrow hnc hcm hcs hcur hgB hlenE hszE hN
    go_loopw [22] (fun i wr => ∃ k : Nat, k ≤ ps.length + 1 ∧ i = .int .i64 k ∧ Lib.IsBuilderF 46 5 bb bb (Lib.byteCells (encs ((tag :: ps).take k))) wr ∧ wr.heap[g]? = some (.cells cur 9 (0, 0)) ∧ Below w.heap.size w wr) (fun i _ => ps.length + 1 - (intOf i).toNat)
    case atStart => exact ⟨0, by omega, rfl, K5.out.1, K5.out.2.1, K5.out.2.2⟩
    case round =>
      obtain ⟨k, hk, rfl, hB, hrow, hbw⟩ := hrel
      by_cases hlt : k < ps.length + 1
      · have hcell : wr.cell? ⟨g, k, none⟩ = some (.string ((tag :: ps).getD k ByteArray.empty)) := (cell_of_row wr g k cur _ _ hrow).trans (KC.out.1 k hlt)
        have hnext := encs_take (tag :: ps) k hlt
        have hpl := HE.out.2 k hlt
        have hel := HE.out.1 k
        have hel2 := HE.out.1 (k + 1)
        generalize (tag :: ps).getD k ByteArray.empty = p at hcell hnext hpl
        generalize encs ((tag :: ps).take k) = E at hB hnext hel
        generalize hEq : encs ((tag :: ps).take (k + 1)) = E' at hnext hel2
        have KR := hid (And.intro hB (And.intro hrow hbw))
        have KN := hid hnext
        have KQ := hid hEq
        clear hB hrow hbw hnext hEq K5 K2 KB
        go_wp2_with fail
        try simp only [show decide ((k : Int) < (ps.length : Int) + 1) = true from decide_eq_true (by omega)]
        go_loopw [8] (fun i wr => ∃ j : Nat, j ≤ 8 ∧ i = .int .i64 (7 - (j : Int)) ∧ Lib.IsBuilderF 46 5 bb bb (Lib.byteCells (E ++ (be8 p.size).take j)) wr ∧ wr.heap[g]? = some (.cells cur 9 (0, 0)) ∧ Below w.heap.size w wr) (fun i _ => (intOf i + 1).toNat)
        case atStart => exact ⟨0, by omega, rfl, by simpa using KR.out.1, KR.out.2.1, KR.out.2.2⟩
        case round =>
          clear hcell
          obtain ⟨j, hj, rfl, hB, hrow, hbw⟩ := hrel
          by_cases hjl : j < 8
          · have hnx : Lib.byteCells (E ++ (be8 p.size).take (j + 1)) = Lib.byteCells (E ++ (be8 p.size).take j) ++ [.int .u8 (((be8 p.size).getD j 0).toNat : Int)] := by
              rw [be8_next p.size j hjl, ← List.append_assoc, lib_byteCells]; simp [Lib.byteCells]
            have hlen : (Lib.byteCells (E ++ (be8 p.size).take j)).length + 1 ≤ 140737488355328 := by rw [lib_length, List.length_append, List.length_take, be8_length]; omega
            have hBw : bb ≤ wr.heap.size := by
              rcases hB with h | h
              · obtain ⟨_, v, hg, _⟩ := h; exact Nat.le_of_lt (Array.getElem?_eq_some_iff.1 hg).1
              · obtain ⟨_, v, hg, _⟩ := h; exact Nat.le_of_lt (Array.getElem?_eq_some_iff.1 hg).1
            have KW := hid (And.intro hB (And.intro hrow (And.intro hbw (And.intro hnx (And.intro hlen hBw)))))
            clear hB hrow hbw hnx hlen hBw
            rcases eight hjl with rfl | rfl | rfl | rfl | rfl | rfl | rfl | rfl
            all_goals
              simp only [show (7 - ((0 : Nat) : Int)) = 7 from rfl, show (7 - ((1 : Nat) : Int)) = 6 from rfl, show (7 - ((2 : Nat) : Int)) = 5 from rfl, show (7 - ((3 : Nat) : Int)) = 4 from rfl, show (7 - ((4 : Nat) : Int)) = 3 from rfl, show (7 - ((5 : Nat) : Int)) = 2 from rfl, show (7 - ((6 : Nat) : Int)) = 1 from rfl, show (7 - ((7 : Nat) : Int)) = 0 from rfl]
              go_wp2_with fail
              refine (Try.wbyte bb bb _ _ wr KW.out.1 KW.out.2.2.2.2.1 KW.out.2.2.2.2.2).mono ?_
              rintro e w6 ⟨rfl, hat, hbel, hoth⟩
              have KX := hid (And.intro hat (And.intro (others_row hoth KW.out.2.1 KC.out.2.1) (KW.out.2.2.1.trans (hbel.mono KC.out.2.2))))
              clear hat hbel hoth
              go_wp2_with fail
              go_roundw
              case rel =>
                refine ⟨_, Nat.succ_le_of_lt hjl, by go_num, Or.inr ?_, KX.out.2.1, KX.out.2.2⟩
                rw [KW.out.2.2.2.1]
                refine cast ?_ KX.out.1
                congr 3
                simp [be8]
                first | done | omega | (simp [IntKind.wrap_u8]; omega)
              case measure => simp [intOf]
          · obtain rfl : j = 8 := by omega
            have h8 : (be8 p.size).take 8 = be8 p.size := List.take_of_length_le (by rw [be8_length]; omega)
            rw [h8] at hB
            have hE' : Lib.byteCells E' = Lib.byteCells (E ++ be8 p.size) ++ Lib.strCells p := by
              rw [KN.out, Lib.strCells_eq, ← lib_byteCells]
              unfold enc
              rw [size_list, List.append_assoc]
            have hlen : (Lib.byteCells (E ++ be8 p.size)).length + p.size ≤ 140737488355328 := by rw [lib_length, List.length_append, be8_length]; omega
            have hBw : bb ≤ wr.heap.size := by
              rcases hB with h | h
              · obtain ⟨_, v, hg, _⟩ := h; exact Nat.le_of_lt (Array.getElem?_eq_some_iff.1 hg).1
              · obtain ⟨_, v, hg, _⟩ := h; exact Nat.le_of_lt (Array.getElem?_eq_some_iff.1 hg).1
            have KW := hid (And.intro hB (And.intro hrow (And.intro hbw (And.intro hE' (And.intro hlen hBw)))))
            clear hB hrow hbw hE' hlen hBw h8
            simp only [show (7 - ((8 : Nat) : Int)) = -1 from rfl]
            go_wp2_with fail
            refine (Try.wstring bb bb _ p wr KW.out.1 KW.out.2.2.2.2.1 KW.out.2.2.2.2.2).mono ?_
            rintro e w6 ⟨rfl, hat, hbel, hoth⟩
            rw [← KW.out.2.2.2.1] at hat
            have KX := hid (And.intro hat (And.intro (others_row hoth KW.out.2.1 KC.out.2.1) (KW.out.2.2.1.trans (hbel.mono KC.out.2.2))))
            clear hat hbel hoth
            go_wp2_with fail
            refine ⟨⟨k + 1, by omega, by go_num, ?_, KX.out.2.1, KX.out.2.2⟩, by simp [intOf]; omega⟩
            rw [KQ.out]
            exact Or.inr KX.out.1
      · obtain rfl : k = ps.length + 1 := by omega
        rw [show (tag :: ps).take (ps.length + 1) = tag :: ps from List.take_of_length_le (by rw [List.length_cons]; omega), show encs (tag :: ps) = tagBytes tag ps from rfl] at hB
        have hbl : (tagBytes tag ps).length < 1152921504606846976 := by
          have h1 := HE.out.1 (ps.length + 1)
          rw [show (tag :: ps).take (ps.length + 1) = tag :: ps from List.take_of_length_le (by rw [List.length_cons]; omega), show encs (tag :: ps) = tagBytes tag ps from rfl] at h1
          omega
        have hBw : bb ≤ wr.heap.size := by
          rcases hB with h | h
          · obtain ⟨_, v, hg, _⟩ := h; exact Nat.le_of_lt (Array.getElem?_eq_some_iff.1 hg).1
          · obtain ⟨_, v, hg, _⟩ := h; exact Nat.le_of_lt (Array.getElem?_eq_some_iff.1 hg).1
        have h1 := tagged_any tag v ps wr (StrN_S (StrN_below KV.out hbw)) hbl
        have h2 : ∀ w, Calls Try.prog 11 #[.string ⟨(tagBytes tag ps).toArray⟩] w fun e w' => e = .returned (.string ⟨(sha (tagBytes tag ps)).toArray⟩) ∧ Below w.heap.size w w' := fun w =>
          sha_any ⟨(tagBytes tag ps).toArray⟩ w (by show (tagBytes tag ps).toArray.size < _; simp; omega)
        have h3 : ∀ w', Below wr.heap.size wr w' → Calls Try.prog 27 #[.pointer (some ⟨bb, 0, none⟩)] w' fun e w'' => e = .returned (.string ⟨(tagBytes tag ps).toArray⟩) ∧ Below bb w' w'' := fun w' hw' =>
          (Try.bstring bb bb (tagBytes tag ps) w' (IsBuilderF_below hB hw') (Nat.le_trans hBw hw'.size)).mono fun e w'' h => ⟨h.1, h.2.2.1⟩
        generalize tagBytes tag ps = M at h1 h2 h3
        generalize sha M = D at h1 h2
        have KF := hid (And.intro h1 (And.intro h2 (And.intro h3 hbw)))
        clear hB hrow hbw hbl hBw h1 h2 h3 K5 K2 KB
        go_wp2_with fail
        refine KF.out.1.mono ?_
        rintro e w6 ⟨rfl, hb6⟩
        have K6 := hid hb6
        clear hb6
        go_wp2_with fail
        refine (KF.out.2.2.1 w6 K6.out).mono ?_
        rintro e w7 ⟨rfl, hb7⟩
        have K7 := hid ((KF.out.2.2.2.trans (K6.out.mono KF.out.2.2.2.size)).trans (hb7.mono KC.out.2.2))
        clear hb7
        go_wp2_with fail
        refine (KF.out.2.1 w7).mono ?_
        rintro e w8 ⟨rfl, hb8⟩
        have K8 := hid (K7.out.trans (hb8.mono K7.out.size))
        clear hb8
        go_wp2_with fail
        go_ret
        exact ⟨rfl, K8.out⟩
  · rw [decide_eq_false hle]
    clear hle
    go_wp2_with fail
    go_ret
    exact ⟨rfl, K2.out.1⟩
end Go.Proofs.Ytijohbohdceggaa
