/- codec: Texts. -/
import Derived.Test.YtoimmmcmlbaenaaCEach
namespace Go.Proofs.Ytoimmmcmlbaenaa
open Go.RowKit

/-- A list's bytes: its length, its strings. -/
def encT (ps : List ByteArray) : List UInt8 := uvL ps.length ++ encUs ps

theorem each_any (base : Option Addr) (n c : Nat) (w : World) :
    Calls Try.prog 40 #[.func (.func 39) #[] #[], .slice base n c] w
      fun e w' => e = .returned (.func (.func 52) #[] #[.pointer (some ⟨w.heap.size + 1, 0, none⟩), .pointer (some ⟨w.heap.size, 0, none⟩)]) ∧ w' = (w.alloc (.cells #[.func (.func 39) #[] #[]] 71)).alloc (.cells #[.slice base n c] 22) := by
  go_enter Try.func40, Try.ntmps40
  go_wp2_with fail
  go_ret
  exact ⟨rfl, rfl⟩

set_option maxRecDepth 100000 in
set_option maxHeartbeats 1000000 in
theorem written_list (n : Nat) (p pl pe : Addr) (g : Nat) (vl : Value) (ps : List ByteArray) (w : World) (hnn : n < 18446744073709551616) (hp : w.cell? p = some (.int .u64 (n : Int)))
    (hg0 : w.cell? ⟨g, 0, none⟩ = some (.func (.func 50) #[] #[.pointer (some p)])) (hg1 : w.cell? ⟨g, 1, none⟩ = some (.func (.func 52) #[] #[.pointer (some pl), .pointer (some pe)]))
    (hpl : w.cell? pl = some vl) (hpe : w.cell? pe = some (.func (.func 39) #[] #[])) (hvl : StrS w vl ps) (hb : (encUs ps).length ≤ 8796093022208) (hn : ps.length ≤ 17592186044416) :
    Calls Try.prog 36 #[.slice (some ⟨g, 0, none⟩) 2 2] w
      fun e w' => e = .returned (.string ⟨(uvL n ++ encUs ps).toArray⟩) ∧ Below w.heap.size w w' := by
  have hn1 := number1_any n p w.heap.size (.slice none 0 0) [] w hnn hp (OwnB_nil _ _) (Nat.le_refl _) (by simp)
  simp only [List.nil_append] at hn1
  have hten := uvL_ten n hnn
  have hgl := World.block_lt_of_cell? w _ hg1
  have hpll := World.block_lt_of_cell? w _ hpl
  have hpel := World.block_lt_of_cell? w _ hpe
  have he1 : ∀ (t : Value) (wr : World), OwnB wr w.heap.size t (uvL n) → Below w.heap.size w wr → Calls Try.prog 52 #[t, .pointer (some pl), .pointer (some pe)] wr
      fun e w' => (∃ v', e = .returned v' ∧ OwnB w' w.heap.size v' (uvL n ++ encUs ps)) ∧ Below w.heap.size wr w' := fun t wr ht hbw =>
    each1_any pl pe vl ps w.heap.size t (uvL n) wr ((hbw.cell hpll).trans hpl) ((hbw.cell hpel).trans hpe) (StrS_below hvl hbw (Nat.le_refl _))
      (fun b o m c hv h0 => by
        obtain ⟨base, cap, hv2, hc⟩ := hvl
        obtain ⟨b', o', hbo, h1⟩ := hc 0 h0
        rw [hv2] at hv
        injection hv with e1 _ _
        rw [hbo] at e1
        injection e1 with e1
        injection e1 with e1 _
        subst e1
        exact World.block_lt_of_cell? w _ h1)
      hpel ht hbw.size (by omega) hn
  have HN := hid (And.intro hn1 (And.intro he1 (And.intro hgl hg1)))
  clear hn1 he1 hg1 hpl hpe hvl hp hpll hpel hgl
  go_enter Try.func36, Try.ntmps36
  go_wp2_with fail
  go_loopw [3, 8] (fun t i wr => (i = .int .i64 0 ∧ t = .slice none 0 0 ∧ wr = w) ∨ (i = .int .i64 1 ∧ OwnB wr w.heap.size t (uvL n) ∧ Below w.heap.size w wr) ∨ (i = .int .i64 2 ∧ OwnB wr w.heap.size t (uvL n ++ encUs ps) ∧ Below w.heap.size w wr)) (fun _ i _ => 2 - (intOf i).toNat)
  case atStart => exact Or.inl ⟨rfl, rfl, rfl⟩
  case round =>
    rcases hrel with ⟨rfl, rfl, rfl⟩ | ⟨rfl, ho, hb⟩ | ⟨rfl, ho, hb⟩
    · go_wp2_with fail
      refine HN.out.1.mono ?_
      rintro e w2 ⟨⟨v', rfl, ho⟩, hb⟩
      have KO := hid (And.intro ho hb)
      clear ho hb
      go_wp2_with fail
      go_roundw
      case rel => exact Or.inr (Or.inl ⟨by go_num, KO.out.1, KO.out.2⟩)
      case measure => simp [intOf]
    · clear hg0
      have hg1 := (hb.cell (p := ⟨g, 1, none⟩) HN.out.2.2.1).trans HN.out.2.2.2
      have KO := hid (And.intro ho hb)
      clear ho hb
      go_wp2_with fail
      refine (HN.out.2.1 _ wr KO.out.1 KO.out.2).mono ?_
      rintro e w2 ⟨⟨v', rfl, ho⟩, hb⟩
      have KN := hid (And.intro ho (KO.out.2.trans hb))
      clear ho hb
      go_wp2_with fail
      go_roundw
      case rel => exact Or.inr (Or.inr ⟨by go_num, KN.out.1, KN.out.2⟩)
      case measure => simp [intOf]
    · have hcv := OwnB_string ho
      have KB := hid hb
      clear ho hb hg0
      go_wp2_with fail
      go_ret
      exact ⟨rfl, KB.out⟩

set_option maxRecDepth 100000 in
set_option maxHeartbeats 1000000 in
theorem ctexts_any (v : Value) (ps : List ByteArray) (w : World) (hv : StrS w v ps) (hb : (encUs ps).length ≤ 8796093022208) (hn : ps.length ≤ 17592186044416) :
    Calls Try.prog 18 #[v] w
      fun e w' => e = .returned (.string ⟨(encT ps).toArray⟩) ∧ Below w.heap.size w w' := by
  have hv0 := hv
  obtain ⟨base, cap, rfl, _⟩ := hv0
  have q : IntKind.u64.wrap (ps.length : Int) = (ps.length : Int) := by rw [IntKind.wrap_u64]; omega
  have hb4 : Below w.heap.size w ((((w.alloc (.cells #[.int .u64 (ps.length : Int)] 69)).alloc (.cells #[.func (.func 39) #[] #[]] 71)).alloc (.cells #[.slice base ps.length cap] 22)).alloc (.cells #[.func (.func 50) #[] #[.pointer (some ⟨w.heap.size, 0, none⟩)], .func (.func 52) #[] #[.pointer (some ⟨w.heap.size + 1 + 1, 0, none⟩), .pointer (some ⟨w.heap.size + 1, 0, none⟩)]] 67)) :=
    ((((Below.refl w.heap.size w).alloc (Nat.le_refl _) _).alloc (alloc_le (Nat.le_refl _) _) _).alloc (alloc_le (alloc_le (Nat.le_refl _) _) _) _).alloc (alloc_le (alloc_le (alloc_le (Nat.le_refl _) _) _) _) _
  have hm := written_list ps.length ⟨w.heap.size, 0, none⟩ ⟨w.heap.size + 1 + 1, 0, none⟩ ⟨w.heap.size + 1, 0, none⟩ (w.heap.size + 1 + 1 + 1) (.slice base ps.length cap) ps _ (by omega)
    (show ((((w.alloc (.cells #[.int .u64 (ps.length : Int)] 69)).alloc (.cells #[.func (.func 39) #[] #[]] 71)).alloc (.cells #[.slice base ps.length cap] 22)).alloc (.cells #[.func (.func 50) #[] #[.pointer (some ⟨w.heap.size, 0, none⟩)], .func (.func 52) #[] #[.pointer (some ⟨w.heap.size + 1 + 1, 0, none⟩), .pointer (some ⟨w.heap.size + 1, 0, none⟩)]] 67)).cell? ⟨w.heap.size, 0, none⟩ = some (.int .u64 (ps.length : Int)) by simp [go_sem])
    (by simp [go_sem]) (by simp [go_sem]) (by simp [go_sem]) (by simp [go_sem]) (StrS_below hv hb4 (Nat.le_refl _)) hb hn
  have HM := hid (And.intro hm hb4)
  clear hm hb4 hv
  go_enter Try.func18, Try.ntmps18
  go_wp2_with fail
  refine (number_any ps.length w).mono ?_
  rintro e w2 ⟨rfl, rfl⟩
  go_wp2_with fail
  refine (each_any base ps.length cap _).mono ?_
  rintro e w3 ⟨rfl, rfl⟩
  go_wp2_with fail
  refine HM.out.1.mono ?_
  rintro e w4 ⟨rfl, hb⟩
  have KB := hid (HM.out.2.trans (hb.mono HM.out.2.size))
  clear hb
  go_wp2_with fail
  go_ret
  exact ⟨rfl, KB.out⟩
end Go.Proofs.Ytoimmmcmlbaenaa
