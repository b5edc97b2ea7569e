/- lexer: LexerQuotes. -/
import Derived.Test.YtmgmmbikdmobpaaDoorLxAw
import Derived.Test.YtmgmmbikdmobpaaDoorLxQt
namespace Go.Proofs.YtmgmmbikdmobpaaDoor
open Go.RowKit

theorem getD_mem (l : List UInt8) (k : Nat) (h : k < l.length) : l.getD k 0 ∈ l := by
  rw [List.getD_eq_getElem?_getD, List.getElem?_eq_getElem h, Option.getD_some]
  exact List.getElem_mem h
theorem k_lexq (s : ByteArray) (hs : s.size ≤ 1000) (w : World) : Calls Tryd.prog 23 #[.string ⟨(32 :: quoL s.data.toList).toArray⟩] w fun e w' =>
    (∃ g cap, e = .returned (.tuple #[.slice (some ⟨g, 0, none⟩) 2 cap, .int .i64 0, .int .i64 0]) ∧ w'.cell? ⟨g, 0, none⟩ = some (.int .i64 4) ∧ w'.cell? ⟨g, 1, none⟩ = some (.string s) ∧ w'.cell? ⟨g, 2, none⟩ = some (.int .i64 1)) ∧ Below w.heap.size w w' := by
  have h := lex_any ⟨(32 :: quoL s.data.toList).toArray⟩ w
  rw [mk_list, lex_quo _ (by rw [size_list]; exact hs)] at h
  refine h.mono fun e w' ⟨⟨v, he, hr⟩, hb⟩ => ⟨?_, hb⟩
  obtain ⟨g, cap, rfl, _, _⟩ := World.ownsRow.form (show w'.ownsRow w.heap.size 35 3 v 2 _ from hr) (by decide)
  have hr2 : w'.ownsRow w.heap.size 35 3 (.slice (some ⟨g, 0, none⟩) 2 cap) 2 _ := hr
  exact ⟨g, cap, he, (hr2.cellAt 0 (by decide)).trans rfl, (hr2.cellAt 1 (by decide)).trans rfl, (hr2.cellAt 2 (by decide)).trans rfl⟩

set_option maxRecDepth 100000 in
set_option maxHeartbeats 4000000 in
theorem quotes_law (s : ByteArray) (w : World) (hE : Env w) :
    Calls Tryd.prog 5 #[.string s] w fun e w' => e = .returned (.bool true) ∧ Below w.heap.size w w' := by
  by_cases hbig : 1000 < s.size
  · go_enter Tryd.func5, Tryd.ntmps5
    go_wp2_with fail
    refine (awake_any w hE).mono ?_
    rintro e w1 ⟨rfl, hb1⟩
    go_wp2_with fail
    go_ret
    exact ⟨rfl, hb1⟩
  · have K1 := hid (fun w => quote_any s w (by omega))
    have K2 := hid (k_lexq s (by omega))
    have hql := quo_len s.data.toList
    have hqp := quo_print s.data.toList
    rw [size_list] at hql
    have hQ : (ByteArray.mk ([34] ++ s.data.toList.flatMap esc ++ [34]).toArray) = ⟨(quoL s.data.toList).toArray⟩ := rfl
    rw [hQ] at K1
    have hcat : (⟨#[32]⟩ ++ ⟨(quoL s.data.toList).toArray⟩ : ByteArray) = ⟨(32 :: quoL s.data.toList).toArray⟩ := by apply ByteArray.ext; simp
    rw [← hcat] at K2
    generalize quoL s.data.toList = L at K1 K2 hql hqp
    have hix := indexk ⟨L.toArray⟩
    rw [mk_size, mk_list] at hix
    have hsz : (ByteArray.mk L.toArray).size = L.length := mk_size L
    have hsz1 : (ByteArray.mk L.toArray).size ≤ 4002 := by omega
    have KP := hid (And.intro hix (And.intro hqp hsz))
    clear hqp hcat hQ hix
    generalize ByteArray.mk L.toArray = Q at K1 K2 KP hsz hsz1
    go_enter Tryd.func5, Tryd.ntmps5
    go_wp2_with fail
    refine (awake_any w hE).mono ?_
    rintro e w1 ⟨rfl, hb1⟩
    clear hsz
    go_wp2_with fail
    refine (K1.out w1).mono ?_
    rintro e w2 ⟨rfl, hb⟩
    have hb2 := hb1.trans (hb.mono hb1.size)
    clear hb hb1
    have KB := hid hb2
    clear hb2
    go_wp2_with fail
    go_loopw [17] (fun i wr => ∃ k : Nat, k ≤ Q.size ∧ i = .int .i64 (k : Int) ∧ wr = w2) (fun i _ => Q.size - (intOf i).toNat)
    case atStart => exact ⟨0, by omega, rfl, rfl⟩
    case round =>
      obtain ⟨k, hk, rfl, rfl⟩ := hrel
      by_cases hlt : k < Q.size
      · have hix := KP.out.1 k (by have := KP.out.2.2; omega)
        have hp := KP.out.2.1 (L.getD k 0) (getD_mem L k (by have := KP.out.2.2; omega))
        have hat : at' L k = (L.getD k 0).toNat := rfl
        rw [← hat] at hp
        clear hat
        generalize at' L k = c at hix hp
        obtain ⟨hp1, hp2⟩ := hp
        go_wp2_with fail
        exact ⟨⟨k + 1, by omega, by go_num, trivial⟩, by simp [intOf]; omega⟩
      · obtain rfl : k = Q.size := by omega
        go_wp2_with fail
        refine (K2.out wr).mono ?_
        rintro e w3 ⟨⟨g, cap, rfl, c0, c1, c2⟩, hb⟩
        have hb3 := KB.out.trans (hb.mono KB.out.size)
        clear hb
        go_wp2_with fail
        go_ret
        exact ⟨by simp, hb3⟩
end Go.Proofs.YtmgmmbikdmobpaaDoor
