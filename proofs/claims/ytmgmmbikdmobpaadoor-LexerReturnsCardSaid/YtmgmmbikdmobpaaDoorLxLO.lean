/- lexer: LexerOffsets. -/
import Derived.Test.YtmgmmbikdmobpaaDoorLxAw
import Derived.Test.YtmgmmbikdmobpaaDoorLxOf
namespace Go.Proofs.YtmgmmbikdmobpaaDoor
open Go.RowKit

theorem tk_at (xs : List TkY) : ∀ (k : Nat) (x : TkY), xs[k]? = some x → (tkCells xs)[k * 3]? = some (.int .i64 x.k) ∧ (tkCells xs)[k * 3 + 1]? = some (.string ⟨x.t.toArray⟩) ∧ (tkCells xs)[k * 3 + 2]? = some (.int .i64 (x.o : Int)) := by
  induction xs with
  | nil => intro k x h; simp at h
  | cons y xs ih =>
    intro k x h
    have hc : tkCells (y :: xs) = .int .i64 y.k :: .string ⟨y.t.toArray⟩ :: .int .i64 (y.o : Int) :: tkCells xs := rfl
    rw [hc]
    cases k with
    | zero =>
      simp only [List.getElem?_cons_zero, Option.some.injEq] at h
      subst h
      exact ⟨rfl, rfl, rfl⟩
    | succ k =>
      rw [List.getElem?_cons_succ] at h
      obtain ⟨h1, h2, h3⟩ := ih k x h
      rw [show (k + 1) * 3 = k * 3 + 1 + 1 + 1 by omega, List.getElem?_cons_succ, List.getElem?_cons_succ, List.getElem?_cons_succ, show k * 3 + 1 + 1 + 1 + 1 = k * 3 + 1 + 1 + 1 + 1 by rfl, List.getElem?_cons_succ, List.getElem?_cons_succ, List.getElem?_cons_succ, show k * 3 + 1 + 1 + 1 + 2 = k * 3 + 2 + 1 + 1 + 1 by omega, List.getElem?_cons_succ, List.getElem?_cons_succ, List.getElem?_cons_succ]
      exact ⟨h1, h2, h3⟩
theorem tkCells_length (xs : List TkY) : (tkCells xs).length = xs.length * 3 := by
  induction xs with
  | nil => rfl
  | cons y xs ih =>
    have hc : tkCells (y :: xs) = .int .i64 y.k :: .string ⟨y.t.toArray⟩ :: .int .i64 (y.o : Int) :: tkCells xs := rfl
    rw [hc]; simp [ih]; omega
/-- The slice holds the tokens. -/
def TkS (w : World) (g : Nat) (xs : List TkY) : Prop := ∀ (k : Nat) (x : TkY), xs[k]? = some x → w.cell? ⟨g, k * 3, none⟩ = some (.int .i64 x.k) ∧ w.cell? ⟨g, k * 3 + 1, none⟩ = some (.string ⟨x.t.toArray⟩) ∧ w.cell? ⟨g, k * 3 + 2, none⟩ = some (.int .i64 (x.o : Int))
theorem TkS_below {w w' : World} {g : Nat} {xs : List TkY} (h : TkS w g xs) (hb : Below w.heap.size w w') : TkS w' g xs := fun k x hx => by
  obtain ⟨h1, h2, h3⟩ := h k x hx
  exact ⟨(hb.cell (block_lt_any h1)).trans h1, (hb.cell (block_lt_any h2)).trans h2, (hb.cell (block_lt_any h3)).trans h3⟩
theorem TkS_own {w : World} {B : Nat} {v : Value} {xs : List TkY} (h : w.ownsRow B 35 3 v xs.length (tkCells xs)) (h0 : 0 < xs.length) : ∃ g cap, v = .slice (some ⟨g, 0, none⟩) xs.length cap ∧ TkS w g xs := by
  obtain ⟨g, cap, rfl, _, _⟩ := h.form h0
  refine ⟨g, cap, rfl, fun k x hx => ?_⟩
  have hk : k < xs.length := (List.getElem?_eq_some_iff.1 hx).1
  obtain ⟨h1, h2, h3⟩ := tk_at xs k x hx
  exact ⟨(h.cellAt _ (by omega)).trans h1, (h.cellAt _ (by omega)).trans h2, (h.cellAt _ (by omega)).trans h3⟩
theorem own_zero {w : World} {B : Nat} {v : Value} {e : TypeId} (h : w.ownsRow B e 3 v 0 []) : ∃ b c, v = .slice b 0 c := by
  rcases h.2 with ⟨rfl, _⟩ | ⟨g, cap, cur, rfl, _⟩
  · exact ⟨_, _, rfl⟩
  · exact ⟨_, _, rfl⟩
/-- Lex, in the form that a law uses: the tokens; or an error with its offset. -/
theorem lex_two (s : ByteArray) (hs : s.size ≤ 65536) :
    (lexL s.data.toList = (allT s.data.toList, 0, 0) ∧ (∀ x ∈ allT s.data.toList, x.e = 0) ∧ okL s.data.toList 0 (allT s.data.toList) ∧ ∀ w, Calls Tryd.prog 23 #[.string s] w fun e w' => (∃ g cap, e = .returned (.tuple #[.slice (some ⟨g, 0, none⟩) (allT s.data.toList).length cap, .int .i64 0, .int .i64 0]) ∧ TkS w' g (allT s.data.toList)) ∧ Below w.heap.size w w') ∨
    (∃ (o : Nat) (er : Int), lexL s.data.toList = ([], o, er) ∧ (er = 3 ∨ er = 4) ∧ o < s.size ∧ ∀ w, Calls Tryd.prog 23 #[.string s] w fun e w' => (∃ b c, e = .returned (.tuple #[.slice b 0 c, .int .i64 (o : Int), .int .i64 er])) ∧ Below w.heap.size w w') := by
  have hl := fun w => lex_any s w
  rcases lex_or s.data.toList (by rw [size_list]; omega) with ⟨h1, h2⟩ | ⟨x, hx, he, h1⟩
  · refine Or.inl ⟨h1, h2, allT_ok _ h2, fun w => ?_⟩
    have h3 := hl w
    rw [h1] at h3
    have h0 : 0 < (allT s.data.toList).length := by
      have := allT_ok _ h2
      cases hq : allT s.data.toList with
      | nil => rw [hq] at this; exact this.elim
      | cons a b => simp
    exact h3.mono fun e w' ⟨⟨v, he, hr⟩, hb⟩ => ⟨by obtain ⟨g, cap, rfl, ht⟩ := TkS_own hr h0; exact ⟨g, cap, he, ht⟩, hb⟩
  · have hb := toks_bad _ _ _ x hx he
    rw [size_list] at hb
    refine Or.inr ⟨x.o, x.e, h1, hb.2.2, hb.2.1, fun w => ?_⟩
    have h3 := hl w
    rw [h1] at h3
    exact h3.mono fun e w' ⟨⟨v, he, hr⟩, hb⟩ => ⟨by obtain ⟨b, c, rfl⟩ := own_zero hr; exact ⟨b, c, he⟩, hb⟩

set_option maxRecDepth 100000 in
set_option maxHeartbeats 4000000 in
theorem offsets_law (s : ByteArray) (w : World) (hE : Env w) :
    Calls Tryd.prog 7 #[.string s] w fun e w' => e = .returned (.bool true) ∧ Below w.heap.size w w' := by
  by_cases hbig : 1000 < s.size
  · go_enter Tryd.func7, Tryd.ntmps7
    go_wp2_with fail
    refine (awake_any w hE).mono ?_
    rintro e w1 ⟨rfl, hb1⟩
    go_wp2_with fail
    go_ret
    exact ⟨rfl, hb1⟩
  · rcases lex_two s (by omega) with ⟨hL, hg, hok, hcall⟩ | ⟨o, er, hL, he, ho, hcall⟩
    · have hlen := allT_length s.data.toList
      rw [size_list] at hlen
      clear hL hg
      generalize allT s.data.toList = xs at hok hcall hlen
      have HC := hid hcall
      have HO := hid hok
      clear hcall hok
      obtain ⟨N, hN⟩ : ∃ N, xs.length = N := ⟨_, rfl⟩
      rw [hN] at HC hlen
      have HN := hid hN
      clear hN
      have hN9 : N ≤ 1001 := by omega
      clear hlen
      go_enter Tryd.func7, Tryd.ntmps7
      go_wp2_with fail
      refine (awake_any w hE).mono ?_
      rintro e w1 ⟨rfl, hb1⟩
      go_wp2_with fail
      refine (HC.out w1).mono ?_
      rintro e w2 ⟨⟨g, cap, rfl, hT⟩, hb⟩
      have hb2 := hb1.trans (hb.mono hb1.size)
      clear hb hb1
      have KT := hid (And.intro hT hb2)
      clear hT hb2
      go_wp2_with fail
      go_loopw [6, 37] (fun q i wr => ∃ (k p : Nat), i = .int .i64 (k : Int) ∧ q = .int .i64 (p : Int) ∧ p ≤ s.size ∧ okL s.data.toList p (xs.drop k) ∧ Below w2.heap.size w2 wr) (fun _ i _ => N - (intOf i).toNat)
      case atStart => exact ⟨0, 0, rfl, rfl, by omega, HO.out, Below.refl _ _⟩
      case round =>
        obtain ⟨k, p, rfl, rfl, hp, hok, hb⟩ := hrel
        have hlk := congrArg List.length (show xs.drop k = xs.drop k from rfl)
        cases hd : xs.drop k with
        | nil => rw [hd] at hok; exact hok.elim
        | cons x rest =>
          have hxk : xs[k]? = some x := by
            have := congrArg (fun l => l[0]?) hd
            simpa using this
          have hlen : k + (rest.length + 1) = N := by
            have h1 := congrArg List.length hd
            rw [List.length_drop, HN.out, List.length_cons] at h1
            omega
          obtain ⟨c0, c1, c2⟩ := TkS_below KT.out.1 hb k x hxk
          rw [hd] at hok
          clear hlk
          cases hrest : rest with
          | nil =>
            rw [hrest] at hok hlen
            obtain ⟨o1, o2, o3, o4⟩ := hok
            rw [size_list] at o3 o4
            rw [o1] at c0
            rw [o2] at c1
            rw [o3] at c2
            have hk1 : (N : Int) - 1 = (k : Int) := by simp at hlen; omega
            have hkN : (k : Int) < N := by simp at hlen; omega
            have HB := hid hb
            clear hd hxk o1 o2 o3 hrest hlen hb
            go_wp2_with fail
            go_ret
            exact ⟨rfl, KT.out.2.trans ((HB.out.alloc HB.out.size _).mono KT.out.2.size)⟩
          | cons y r =>
            rw [hrest] at hok hlen
            obtain ⟨o1, o2, o3, o4, o5, o6, o7⟩ := hok
            rw [size_list] at o3 o6
            have hk0 : (x.k == 0) = false := by rw [beq_eq_false_iff_ne]; exact o1
            have hk1 : ((k : Int) == (N : Int) - 1) = false := by rw [beq_eq_false_iff_ne]; simp at hlen; omega
            have hkN : (k : Int) < N := by simp at hlen; omega
            have hdr : xs.drop (k + 1) = y :: r := by
              rw [← List.drop_drop, hd, hrest]; rfl
            have hxl : x.t.length ≤ s.size := by
              unfold endT at o6
              split at o6 <;> omega
            have hpre := fun (z : ByteArray) (w : World) => Tryd.strings_HasPrefix (s.extract x.o s.size) z w
            rw [from_bytes] at hpre
            by_cases h4 : x.k = 4
            · have he : endT x = x.o + (x.t.length + 2) := by unfold endT; rw [if_pos h4]
              rw [he] at o6 o7
              have hp1 := hpre ⟨#[34]⟩
              rw [show (⟨#[34]⟩ : ByteArray).data.toList = [34] from rfl, o4 h4] at hp1
              rw [h4] at c0
              have KO := hid (And.intro o7 (And.intro hdr hb))
              have HP := hid hp1
              clear hpre hp1 hd hxk hk0 o1 o4 o5 o7 hdr hb he h4 hrest hlen
              generalize x.o = O at c2 o2 o3 o6 KO HP
              generalize x.t = T at c1 o6 hxl KO
              have hTs : (ByteArray.mk T.toArray).size = T.length := mk_size T
              go_wp2_with fail
              refine (HP.out _).mono ?_
              rintro e w4 ⟨rfl, rfl⟩
              go_wp2_with fail
              exact ⟨⟨k + 1, O + (T.length + 2), by go_num, congrArg (Value.int .i64) (by omega), o6, by rw [KO.out.2.1]; exact KO.out.1, KO.out.2.2.alloc KO.out.2.2.size _⟩, by simp [intOf]; omega⟩
            · have he : endT x = x.o + x.t.length := by unfold endT; rw [if_neg h4]
              rw [he] at o6 o7
              obtain ⟨t1, t2⟩ := o5 h4
              have hp1 := hpre ⟨x.t.toArray⟩
              rw [mk_list, t2] at hp1
              have hk4 : (x.k == 4) = false := by rw [beq_eq_false_iff_ne]; exact h4
              have KO := hid (And.intro o7 (And.intro hdr hb))
              have HP := hid hp1
              clear hpre hp1 hd hxk o1 o4 o5 o7 hdr hb he h4 hrest hlen t2
              generalize x.o = O at c2 o2 o3 o6 KO HP
              generalize x.t = T at c1 o6 hxl KO HP t1
              generalize x.k = κ at c0 hk0 hk4
              have hTs : (ByteArray.mk T.toArray).size = T.length := mk_size T
              have hTe : (T == []) = false := by rw [beq_eq_false_iff_ne]; exact t1
              have hres := heap_alloc_new wr (.cells #[.int .i64 κ, .string ⟨T.toArray⟩, .int .i64 (O : Int)] 35)
              have hbl := (Below.refl wr.heap.size wr).alloc (Nat.le_refl _) (.cells #[.int .i64 κ, .string ⟨T.toArray⟩, .int .i64 (O : Int)] 35)
              go_wp2_with fail
              generalize wr.alloc (.cells #[.int .i64 κ, .string ⟨T.toArray⟩, .int .i64 (O : Int)] 35) = W at hres hbl ⊢
              have e0 := cell_of_row W wr.heap.size 0 _ _ _ hres
              have e1 := cell_of_row W wr.heap.size 1 _ _ _ hres
              have e2 := cell_of_row W wr.heap.size 2 _ _ _ hres
              have HB := hid hbl
              have R1 : Kpt (∀ n, Calls Tryd.prog 28 #[.string (s.extract O s.size), .string ⟨T.toArray⟩] (W.drewN n) fun e w' => e = .returned (.bool true) ∧ ∃ m, w' = W.drewN m) := hid fun n => (HP.out (W.drewN n)).mono fun e w' ⟨he, hw⟩ => ⟨he, n, hw⟩
              clear hres hbl HP c0 c1 c2
              go_quiet ((go_at_call 28; with_reducible exact R1.out _))
              go_wp2_with fail
              exact ⟨⟨k + 1, O + T.length, by go_num, congrArg (Value.int .i64) (by omega), o6, by rw [KO.out.2.1]; exact KO.out.1, below_drawn (KO.out.2.2.trans (HB.out.mono KO.out.2.2.size)) nq⟩, by simp [intOf]; omega⟩
    · have he0 : (er == 0) = false := by rw [beq_eq_false_iff_ne]; omega
      have he1 : (er != 0) = true := by rw [bne_iff_ne]; omega
      have HC := hid hcall
      clear hcall hL he
      go_enter Tryd.func7, Tryd.ntmps7
      go_wp2_with fail
      refine (awake_any w hE).mono ?_
      rintro e w1 ⟨rfl, hb1⟩
      go_wp2_with fail
      refine (HC.out w1).mono ?_
      rintro e w2 ⟨⟨b, c, rfl⟩, hb⟩
      have hb2 := hb1.trans (hb.mono hb1.size)
      clear hb hb1
      go_wp2_with fail
      go_ret
      exact ⟨by simp, hb2⟩
end Go.Proofs.YtmgmmbikdmobpaaDoor
