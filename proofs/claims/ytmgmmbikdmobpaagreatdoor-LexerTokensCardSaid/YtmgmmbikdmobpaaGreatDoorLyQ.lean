/- lexer: LexerTokens. -/
import Derived.Test.YtmgmmbikdmobpaaGreatDoorLyZ
import Derived.Test.YtmgmmbikdmobpaaGreatDoorLxAw
import Derived.Test.YtmgmmbikdmobpaaGreatDoorLxSm
import Derived.Deep.AppendLies
namespace Go.Proofs.YtmgmmbikdmobpaaGreatDoor
open Go.RowKit

theorem tk_at (xs : List TkY) : ∀ (k : Nat) (x : TkY), xs[k]? = some x → (tkCells xs)[k * 3]? = some (.int .i64 x.k) ∧ (tkCells xs)[k * 3 + 1]? = some (.string ⟨x.t.toArray⟩) ∧ (tkCells xs)[k * 3 + 2]? = some (.int .i64 (x.o : Int)) := by
  induction xs with
  | nil => intro k x h; simp at h
  | cons y xs ih =>
    intro k x h
    have hc : tkCells (y :: xs) = .int .i64 y.k :: .string ⟨y.t.toArray⟩ :: .int .i64 (y.o : Int) :: tkCells xs := rfl
    rw [hc]
    cases k with
    | zero =>
      simp only [List.getElem?_cons_zero, Option.some.injEq] at h
      subst h
      exact ⟨rfl, rfl, rfl⟩
    | succ k =>
      rw [List.getElem?_cons_succ] at h
      obtain ⟨h1, h2, h3⟩ := ih k x h
      rw [show (k + 1) * 3 = k * 3 + 1 + 1 + 1 by omega, List.getElem?_cons_succ, List.getElem?_cons_succ, List.getElem?_cons_succ, show k * 3 + 1 + 1 + 1 + 1 = k * 3 + 1 + 1 + 1 + 1 by rfl, List.getElem?_cons_succ, List.getElem?_cons_succ, List.getElem?_cons_succ, show k * 3 + 1 + 1 + 1 + 2 = k * 3 + 2 + 1 + 1 + 1 by omega, List.getElem?_cons_succ, List.getElem?_cons_succ, List.getElem?_cons_succ]
      exact ⟨h1, h2, h3⟩
/-- The slice holds the tokens. -/
def TkS (w : World) (g : Nat) (xs : List TkY) : Prop := ∀ (k : Nat) (x : TkY), xs[k]? = some x → w.cell? ⟨g, k * 3, none⟩ = some (.int .i64 x.k) ∧ w.cell? ⟨g, k * 3 + 1, none⟩ = some (.string ⟨x.t.toArray⟩) ∧ w.cell? ⟨g, k * 3 + 2, none⟩ = some (.int .i64 (x.o : Int))
theorem TkS_below {w w' : World} {g : Nat} {xs : List TkY} (h : TkS w g xs) (hb : Below w.heap.size w w') : TkS w' g xs := fun k x hx => by
  obtain ⟨h1, h2, h3⟩ := h k x hx
  exact ⟨(hb.cell (block_lt_any h1)).trans h1, (hb.cell (block_lt_any h2)).trans h2, (hb.cell (block_lt_any h3)).trans h3⟩
theorem TkS_own {w : World} {B : Nat} {v : Value} {xs : List TkY} (h : w.ownsRow B 32 3 v xs.length (tkCells xs)) (h0 : 0 < xs.length) : ∃ g cap, v = .slice (some ⟨g, 0, none⟩) xs.length cap ∧ TkS w g xs := by
  obtain ⟨g, cap, rfl, _, _⟩ := h.form h0
  refine ⟨g, cap, rfl, fun k x hx => ?_⟩
  have hk : k < xs.length := (List.getElem?_eq_some_iff.1 hx).1
  obtain ⟨h1, h2, h3⟩ := tk_at xs k x hx
  exact ⟨(h.cellAt _ (by omega)).trans h1, (h.cellAt _ (by omega)).trans h2, (h.cellAt _ (by omega)).trans h3⟩
theorem own_zero {w : World} {B : Nat} {v : Value} {e : TypeId} (h : w.ownsRow B e 3 v 0 []) : ∃ b c, v = .slice b 0 c := by
  rcases h.2 with ⟨rfl, _⟩ | ⟨g, cap, cur, rfl, _⟩
  · exact ⟨_, _, rfl⟩
  · exact ⟨_, _, rfl⟩

set_option maxRecDepth 100000 in
theorem same_zero (b1 b2 : Option Addr) (c1 c2 : Nat) (off : Bool) (w : World) :
    Calls Tryz.prog 7 #[.slice b1 0 c1, .slice b2 0 c2, .bool off] w fun e w' => e = .returned (.bool true) ∧ w' = w := by
  go_enter Tryz.func7, Tryz.ntmps7
  go_wp2_with fail
  go_loopw [7] (fun i wr => i = .int .i64 0 ∧ wr = w) (fun _ _ => 0)
  case atStart => exact ⟨rfl, rfl⟩
  case round =>
    obtain ⟨rfl, rfl⟩ := hrel
    go_wp2_with fail
    go_ret
    exact ⟨rfl, rfl⟩
theorem same_tk {w : World} {g1 g2 : Nat} {xs : List TkY} (h1 : TkS w g1 xs) (h2 : TkS w g2 xs) : SameS w g1 g2 xs.length true := by
  intro k hk
  have hx : xs[k]? = some xs[k] := List.getElem?_eq_getElem hk
  obtain ⟨a0, a1, a2⟩ := h1 k _ hx
  obtain ⟨b0, b1, b2⟩ := h2 k _ hx
  exact ⟨_, _, _, _, a0, a1, a2, b0, b1, b2, fun _ => rfl⟩
/-- Two rows of the same tokens are the same. -/
theorem same_rows {w : World} {B1 B2 : Nat} {v1 v2 : Value} {xs : List TkY} (h1 : w.ownsRow B1 32 3 v1 xs.length (tkCells xs)) (h2 : w.ownsRow B2 32 3 v2 xs.length (tkCells xs)) (hn : xs.length ≤ 1000000) :
    Calls Tryz.prog 7 #[v1, v2, .bool true] w fun e w' => e = .returned (.bool true) ∧ ∃ m, w' = w.drewN m := by
  by_cases h0 : xs.length = 0
  · have hx : xs = [] := List.eq_nil_of_length_eq_zero h0
    subst hx
    obtain ⟨b1, c1, rfl⟩ := own_zero h1
    obtain ⟨b2, c2, rfl⟩ := own_zero h2
    exact (same_zero b1 b2 c1 c2 true w).mono fun e w' ⟨he, hw⟩ => ⟨he, 0, hw⟩
  · obtain ⟨g1, c1, rfl, t1⟩ := TkS_own h1 (by omega)
    obtain ⟨g2, c2, rfl, t2⟩ := TkS_own h2 (by omega)
    exact same_any g1 c1 g2 c2 xs.length true w (same_tk t1 t2) hn
theorem lexL_length (l : List UInt8) : (lexL l).1.length ≤ 65537 := by
  unfold lexL
  by_cases h : 65536 < l.length
  · rw [if_pos h]; simp
  · rw [if_neg h]
    have h2 := allT_length l
    unfold lexOut
    split
    · simp
    · show (allT l).length ≤ _; omega

set_option maxRecDepth 100000 in
set_option maxHeartbeats 4000000 in
theorem tokens_law (s : ByteArray) (w : World) (hE : Env w) :
    Calls Tryz.prog 3 #[.string s] w fun e w' => e = .returned (.bool true) ∧ Below w.heap.size w w' := by
  by_cases hbig : 1000 < s.size ∧ s.size ≤ 65536
  · obtain ⟨h1, h2⟩ := hbig
    go_enter Tryz.func3, Tryz.ntmps3
    go_wp2_with fail
    refine (awake_any w hE).mono ?_
    rintro e w1 ⟨rfl, hb1⟩
    go_wp2_with fail
    go_ret
    exact ⟨rfl, hb1⟩
  · have hN := hid (lexL_length s.data.toList)
    have L1 := hid (fun w => lex_any s w)
    have L2 := hid (fun w => rlex_any s w)
    generalize lexL s.data.toList = R at hN L1 L2
    obtain ⟨xs, o, er⟩ := R
    by_cases h1 : 1000 < s.size
    · have h2 : 65536 < s.size := by omega
      clear hbig
      go_enter Tryz.func3, Tryz.ntmps3
      go_wp2_with fail
      refine (awake_any w hE).mono ?_
      rintro e w1 ⟨rfl, hb1⟩
      have K1 := hid hb1
      clear hb1
      go_wp2_with fail
      refine (L1.out w1).mono ?_
      rintro e w2 ⟨⟨v, rfl, hrow⟩, hb⟩
      have K2 := hid (And.intro (K1.out.trans (hb.mono K1.out.size)) hrow)
      clear hb hrow
      go_wp2_with fail
      refine (L2.out w2).mono ?_
      rintro e w3 ⟨⟨v', rfl, hrow⟩, hb⟩
      have K3 := hid (And.intro (K2.out.1.trans (hb.mono K2.out.1.size)) (same_rows (own_below K2.out.2 hb) hrow (by have := hN.out; omega)))
      clear hb hrow
      go_wp2_with fail
      refine K3.out.2.mono ?_
      rintro e w4 ⟨rfl, m, rfl⟩
      go_wp2_with fail
      go_ret
      exact ⟨by simp, below_drawn K3.out.1 m⟩
    · clear hbig
      go_enter Tryz.func3, Tryz.ntmps3
      go_wp2_with fail
      refine (awake_any w hE).mono ?_
      rintro e w1 ⟨rfl, hb1⟩
      have K1 := hid hb1
      clear hb1
      go_wp2_with fail
      refine (L1.out w1).mono ?_
      rintro e w2 ⟨⟨v, rfl, hrow⟩, hb⟩
      have K2 := hid (And.intro (K1.out.trans (hb.mono K1.out.size)) hrow)
      clear hb hrow
      go_wp2_with fail
      refine (L2.out w2).mono ?_
      rintro e w3 ⟨⟨v', rfl, hrow⟩, hb⟩
      have K3 := hid (And.intro (K2.out.1.trans (hb.mono K2.out.1.size)) (same_rows (own_below K2.out.2 hb) hrow (by have := hN.out; omega)))
      clear hb hrow
      go_wp2_with fail
      refine K3.out.2.mono ?_
      rintro e w4 ⟨rfl, m, rfl⟩
      go_wp2_with fail
      go_ret
      exact ⟨by simp, below_drawn K3.out.1 m⟩
end Go.Proofs.YtmgmmbikdmobpaaGreatDoor
