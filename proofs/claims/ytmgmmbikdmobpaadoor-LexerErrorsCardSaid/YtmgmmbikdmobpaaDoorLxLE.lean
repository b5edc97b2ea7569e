/- lexer: LexerErrors. -/
import Derived.Test.YtmgmmbikdmobpaaDoorLxLO
import Derived.Test.YtmgmmbikdmobpaaDoorLxEr
namespace Go.Proofs.YtmgmmbikdmobpaaDoor
open Go.RowKit

set_option maxRecDepth 100000 in
set_option maxHeartbeats 4000000 in
theorem errors_law (s : ByteArray) (w : World) (hE : Env w) :
    Calls Tryd.prog 8 #[.string s] w fun e w' => e = .returned (.bool true) ∧ Below w.heap.size w w' := by
  by_cases hbig : 1000 < s.size
  · go_enter Tryd.func8, Tryd.ntmps8
    go_wp2_with fail
    refine (awake_any w hE).mono ?_
    rintro e w1 ⟨rfl, hb1⟩
    go_wp2_with fail
    go_ret
    exact ⟨rfl, hb1⟩
  · rcases lex_two s (by omega) with ⟨hL, hg, hok, hcall⟩ | ⟨o, er, hL, he, ho, hcall⟩
    · have HC := hid hcall
      generalize (allT s.data.toList).length = N at HC
      clear hcall hL hg hok
      go_enter Tryd.func8, Tryd.ntmps8
      go_wp2_with fail
      refine (awake_any w hE).mono ?_
      rintro e w1 ⟨rfl, hb1⟩
      go_wp2_with fail
      refine (HC.out w1).mono ?_
      rintro e w2 ⟨⟨g, cap, rfl, hT⟩, hb⟩
      have hb2 := hb1.trans (hb.mono hb1.size)
      clear hb hb1 hT
      go_wp2_with fail
      go_ret
      exact ⟨rfl, hb2⟩
    · have hcut := lex_cut s.data.toList (by rw [size_list]; omega) o er hL (by omega)
      have c1 := fun w => lex_any (s.extract 0 o) w
      have c2 := fun w => lex_any (s.extract o s.size) w
      have hl1 : (s.extract 0 o).data.toList = s.data.toList.take o := by rw [upto_bytes, mk_list]
      rw [hl1] at c1
      rw [from_bytes] at c2
      have hm : ∀ {e : Ending} {w w' : World} {r : List TkY × Nat × Int}, ((∃ v, e = .returned (.tuple #[v, .int .i64 (r.2.1 : Int), .int .i64 r.2.2]) ∧ w'.ownsRow w.heap.size 35 3 v r.1.length (tkCells r.1)) ∧ Below w.heap.size w w') → (∃ b n c, e = .returned (.tuple #[.slice b n c, .int .i64 (r.2.1 : Int), .int .i64 r.2.2])) ∧ Below w.heap.size w w' := by
        rintro e w w' r ⟨⟨v, he, hr⟩, hb⟩
        rcases hr.2 with ⟨rfl, _⟩ | ⟨g, cap, cur, rfl, _⟩
        · exact ⟨⟨_, _, _, he⟩, hb⟩
        · exact ⟨⟨_, _, _, he⟩, hb⟩
      have d1 := fun w => (c1 w).mono (fun e w' h => hm h)
      have d2 := fun w => (c2 w).mono (fun e w' h => hm h)
      rw [hcut.1] at d1
      rw [hcut.2] at d2
      generalize (lexL (s.data.toList.take o)).2.1 = q at d1
      have he0 : (er == 0) = false := by rw [beq_eq_false_iff_ne]; omega
      have he1 : (er != 0) = true := by rw [bne_iff_ne]; omega
      have HC := hid hcall
      have D1 := hid d1
      have D2 := hid d2
      clear hcall hL he hcut c1 c2 hl1 hm d1 d2
      go_enter Tryd.func8, Tryd.ntmps8
      go_wp2_with fail
      refine (awake_any w hE).mono ?_
      rintro e w1 ⟨rfl, hb1⟩
      go_wp2_with fail
      refine (HC.out w1).mono ?_
      rintro e w2 ⟨⟨b, c, rfl⟩, hb⟩
      have hb2 := hb1.trans (hb.mono hb1.size)
      clear hb hb1
      go_wp2_with fail
      refine (D1.out w2).mono ?_
      rintro e w3 ⟨⟨b1, n1, c1, rfl⟩, hb⟩
      have hb3 := hb2.trans (hb.mono hb2.size)
      clear hb hb2
      go_wp2_with fail
      refine (D2.out w3).mono ?_
      rintro e w4 ⟨⟨b2, n2, c2, rfl⟩, hb⟩
      have hb4 := hb3.trans (hb.mono hb3.size)
      clear hb hb3
      go_wp2_with fail
      go_ret
      exact ⟨by simp, hb4⟩
end Go.Proofs.YtmgmmbikdmobpaaDoor
