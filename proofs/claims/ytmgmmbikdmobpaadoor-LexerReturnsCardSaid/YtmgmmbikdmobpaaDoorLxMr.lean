/- lexer: the reference's Major, IsPath. -/
import Derived.Test.YtmgmmbikdmobpaaDoorLxSr
namespace Go.Proofs.YtmgmmbikdmobpaaDoor
open Go.RowKit

def rmajL (l : List UInt8) : Int × Int :=
  if 64 < l.length then (0, 4) else if (segL l).all isSgm = true then
    (if (segL l).length < 2 ∨ majR ((segL l).getLastD []) < 0 then (0, 4) else (majR ((segL l).getLastD []), 0)) else (0, 4)
theorem all_ofL {L : List (List UInt8)} {p : List UInt8 → Bool} (h : ∀ j, j < L.length → p (L.getD j []) = true) : L.all p = true := by
  rw [List.all_eq_true]
  intro x hx
  obtain ⟨j, hj, rfl⟩ := List.getElem_of_mem hx
  have := h j hj
  simpa [List.getD, hj] using this
theorem not_allL {L : List (List UInt8)} {p : List UInt8 → Bool} (j : Nat) (hj : j < L.length) (h : p (L.getD j []) = false) : L.all p = false := by
  cases hx : L.all p with
  | false => rfl
  | true =>
    rw [List.all_eq_true] at hx
    have := hx L[j] (List.getElem_mem hj)
    rw [List.getD_eq_getElem?_getD, List.getElem?_eq_getElem hj, Option.getD_some, this] at h
    exact h
theorem last_ofL (L : List (List UInt8)) : L.getLastD [] = L.getD (L.length - 1) [] := by
  rw [List.getLastD_eq_getLast?, List.getLast?_eq_getElem?, List.getD_eq_getElem?_getD]
theorem getD_le (l : List UInt8) (j : Nat) (hj : j < (segL l).length) : ((segL l).getD j []).length ≤ l.length := by
  refine segL_le l _ ?_
  rw [List.getD_eq_getElem?_getD, List.getElem?_eq_getElem hj, Option.getD_some]
  exact List.getElem_mem _

set_option maxRecDepth 100000 in
set_option maxHeartbeats 4000000 in
theorem rmajor2_any (s : ByteArray) (w : World) :
    Calls Tryd.prog 12 #[.string s] w fun e w' => e = .returned (.tuple #[.int .i64 (rmajL s.data.toList).1, .int .i64 (rmajL s.data.toList).2]) ∧ Below w.heap.size w w' := by
  by_cases hbig : 64 < s.size
  · have hM : rmajL s.data.toList = (0, 4) := by unfold rmajL; rw [if_pos (by rw [size_list]; exact hbig)]
    rw [hM]
    clear hM
    go_enter Tryd.func12, Tryd.ntmps12
    go_wp2_with fail
    go_ret2
    exact ⟨rfl, Below.refl _ _⟩
  · have hM : rmajL s.data.toList = if (segL s.data.toList).all isSgm = true then (if (segL s.data.toList).length < 2 ∨ majR ((segL s.data.toList).getD ((segL s.data.toList).length - 1) []) < 0 then (0, 4) else (majR ((segL s.data.toList).getD ((segL s.data.toList).length - 1) []), 0)) else (0, 4) := by
      unfold rmajL; rw [if_neg (by rw [size_list]; exact hbig), last_ofL]
    generalize rmajL s.data.toList = R at hM ⊢
    have hcall := rsegments_any s w (by omega)
    have hle := getD_le s.data.toList
    have hl1 := segL_length s.data.toList
    have hne := segL_ne s.data.toList
    rw [size_list] at hle hl1
    generalize segL s.data.toList = L at hM hcall hle hl1 hne
    have hN1 : 1 ≤ L.length := by cases L with | nil => exact absurd rfl hne | cons x y => simp
    have hN9 : L.length ≤ 100 := by omega
    have HC := hid hcall
    have KM := hid (And.intro hM (And.intro hle hne))
    clear hM hcall hle hne hl1
    generalize hn : L.length = N at HC KM hN1 hN9
    have HN := hid hn
    clear hn
    go_enter Tryd.func12, Tryd.ntmps12
    go_wp2_with fail
    refine HC.out.mono ?_
    rintro e w2 ⟨⟨v, rfl, hrow⟩, hb2⟩
    obtain ⟨g, cap, rfl, _, _⟩ := hrow.form (by omega)
    have hcl : ∀ j, j < N → w2.cell? ⟨g, j, none⟩ = some (strV (L.getD j [])) := fun j hj => by
      rw [hrow.cellAt j (by omega), List.getElem?_map, List.getElem?_eq_getElem (by have := HN.out; omega)]
      simp [List.getD, show j < L.length by have := HN.out; omega]
    have HL := hid (And.intro hcl hb2)
    clear hcl hb2 hrow
    go_wp2_with fail
    go_loopw [5] (fun i wr => ∃ k : Nat, k ≤ N ∧ i = .int .i64 (k : Int) ∧ (∀ j, j < k → isSgm (L.getD j []) = true) ∧ Below w2.heap.size w2 wr) (fun i _ => N - (intOf i).toNat)
    case atStart => exact ⟨0, by omega, rfl, fun j hj => absurd hj (by omega), Below.refl _ _⟩
    case round =>
      obtain ⟨k, hk, rfl, hg, hb⟩ := hrel
      by_cases hlt : k < N
      · have hck := (hb.cell (block_lt_any (HL.out.1 k hlt))).trans (HL.out.1 k hlt)
        unfold strV at hck
        have hsz := KM.out.2.1 k hlt
        have hcall2 := fun w => rsegment_any ⟨(L.getD k []).toArray⟩ w (by rw [mk_size]; omega)
        rw [mk_list] at hcall2
        cases hq : isSgm (L.getD k []) with
        | true =>
          rw [hq] at hcall2
          have HG := hid (And.intro hg (And.intro hq hb))
          have HS2 := hid hcall2
          clear hg hq hcall2 hsz hb
          generalize ByteArray.mk (L.getD k []).toArray = x at hck HS2
          go_wp2_with fail
          refine (HS2.out _).mono ?_
          rintro e w3 ⟨rfl, hb3⟩
          have HB3 := hid hb3
          clear hb3
          go_wp2_with fail
          go_roundw
          case rel =>
            refine ⟨k + 1, by omega, by go_num, fun j hj => ?_, HG.out.2.2.trans (HB3.out.mono HG.out.2.2.size)⟩
            by_cases hjk : j = k
            · rw [hjk]; exact HG.out.2.1
            · exact HG.out.1 j (by omega)
          case measure => simp [intOf]; omega
        | false =>
          rw [hq] at hcall2
          have hR : R = (0, 4) := by
            rw [KM.out.1, not_allL k (by have := HN.out; omega) hq]; rfl
          subst hR
          have HS2 := hid hcall2
          have HG := hid hb
          clear hg hq hcall2 hsz hb
          generalize ByteArray.mk (L.getD k []).toArray = x at hck HS2
          go_wp2_with fail
          refine (HS2.out _).mono ?_
          rintro e w3 ⟨rfl, hb3⟩
          have HB3 := hid hb3
          clear hb3
          go_wp2_with fail
          go_ret2
          exact ⟨rfl, HL.out.2.trans ((HG.out.trans (HB3.out.mono HG.out.size)).mono HL.out.2.size)⟩
      · obtain rfl : k = N := by omega
        have hall := all_ofL (fun j hj => hg j (by have := HN.out; omega))
        have hR := KM.out.1
        rw [hall, if_pos rfl] at hR
        have hck := (hb.cell (block_lt_any (HL.out.1 (k - 1) (by omega)))).trans (HL.out.1 (k - 1) (by omega))
        unfold strV at hck
        have hcall2 := fun w => rmajor_any ⟨(L.getD (k - 1) []).toArray⟩ w
        rw [mk_list] at hcall2
        generalize ByteArray.mk (L.getD (k - 1) []).toArray = x at hck hcall2
        generalize majR (L.getD (k - 1) []) = n at hcall2 hR
        have HS2 := hid hcall2
        have HG := hid hb
        have he1 : (k : Int) - 1 = ((k - 1 : Nat) : Int) := by omega
        clear hall hg hcall2 hb
        by_cases h2 : k < 2
        · rw [if_pos (Or.inl h2)] at hR
          subst hR
          go_wp2_with fail
          refine (HS2.out _).mono ?_
          rintro e w3 ⟨rfl, rfl⟩
          go_wp2_with fail
          go_ret2
          exact ⟨rfl, HL.out.2.trans (HG.out.mono HL.out.2.size)⟩
        · by_cases hn : n < 0
          · rw [if_pos (Or.inr hn)] at hR
            subst hR
            go_wp2_with fail
            refine (HS2.out _).mono ?_
            rintro e w3 ⟨rfl, rfl⟩
            go_wp2_with fail
            go_ret2
            exact ⟨rfl, HL.out.2.trans (HG.out.mono HL.out.2.size)⟩
          · rw [if_neg (by omega)] at hR
            subst hR
            go_wp2_with fail
            refine (HS2.out _).mono ?_
            rintro e w3 ⟨rfl, rfl⟩
            go_wp2_with fail
            go_ret2
            exact ⟨rfl, HL.out.2.trans (HG.out.mono HL.out.2.size)⟩

theorem rispath_any (s : ByteArray) (w : World) :
    Calls Tryd.prog 18 #[.string s] w fun e w' => e = .returned (.bool ((rmajL s.data.toList).2 == 0)) ∧ Below w.heap.size w w' := by
  have HM := hid (rmajor2_any s w)
  generalize rmajL s.data.toList = R at HM ⊢
  obtain ⟨n, er⟩ := R
  go_enter Tryd.func18, Tryd.ntmps18
  go_wp2_with fail
  refine HM.out.mono ?_
  rintro e w2 ⟨rfl, hb⟩
  have HB := hid hb
  clear hb
  go_wp2_with fail
  go_ret
  exact ⟨rfl, HB.out⟩
end Go.Proofs.YtmgmmbikdmobpaaDoor
