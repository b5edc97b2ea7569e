/- syntax: the functions that find what stands for a variable. -/
import Derived.Test.YthpkinmlpppglaaGreatDoorSyS
namespace Go.Proofs.YthpkinmlpppglaaGreatDoor
open Go.RowKit Go.Shelf

/-- The zero type. -/
def zeroTy : Value := .agg #[.int .i64 0, .string ⟨#[]⟩, .string ⟨#[]⟩, .slice none 0 0, .slice none 0 0]
/-- A function value that finds. -/
def FindAt (w0 : World) (g : Nat) (lb : Array Value) (f : ByteArray → Option Ty) : Prop :=
  ∀ s W, Below w0.heap.size w0 W → Calls Tryz.prog g (#[.string s] ++ lb) W fun e W' => Below W.heap.size W W' ∧
    ((f s = none ∧ e = .returned (.tuple #[zeroTy, .bool false])) ∨ ∃ y : TyI w0, f s = some y.t ∧ e = .returned (.tuple #[y.v, .bool true]))
set_option maxHeartbeats 1000000 in
theorem nothing_find (w0 : World) : FindAt w0 135 #[] (fun _ => none) := by
  intro s W hW
  clear hW
  show Calls Tryz.prog 135 #[.string s] W _
  go_enter Tryz.func135, Tryz.ntmps135
  go_wp2_with fail
  have hb := World.alloc_heap_new W (.cells #[.int .i64 0, .string ⟨#[]⟩, .string ⟨#[]⟩, .slice none 0 0, .slice none 0 0] 25)
  have hB : Below W.heap.size W (W.alloc (.cells #[.int .i64 0, .string ⟨#[]⟩, .string ⟨#[]⟩, .slice none 0 0, .slice none 0 0] 25)) := (Below.refl _ W).alloc (Nat.le_refl _) _
  generalize W.alloc (.cells #[.int .i64 0, .string ⟨#[]⟩, .string ⟨#[]⟩, .slice none 0 0, .slice none 0 0] 25) = W1 at hb hB ⊢
  have c0 := cell_of_row W1 _ 0 _ _ _ hb
  have c1 := cell_of_row W1 _ 1 _ _ _ hb
  have c2 := cell_of_row W1 _ 2 _ _ _ hb
  have c3 := cell_of_row W1 _ 3 _ _ _ hb
  have c4 := cell_of_row W1 _ 4 _ _ _ hb
  refine ⟨rfl, .tuple #[zeroTy, .bool false], by simp [results, Tryz.results135, go_sem, c0, c1, c2, c3, c4, zeroTy], hB, .inl ⟨trivial, rfl⟩⟩

/-- A row of strings. -/
def RowS (w : World) (ns : List ByteArray) (a : Option Addr) : Prop := ns = [] ∨ ∃ b o, a = some ⟨b, o, none⟩ ∧ ∀ (i : Nat) (s : ByteArray), ns[i]? = some s → w.cell? ⟨b, o + i, none⟩ = some (.string s)
def idxN : List ByteArray → ByteArray → Nat
  | [], _ => 0
  | x :: l, s => if s = x then 0 else idxN l s + 1
theorem idx_at {s t : ByteArray} : ∀ {ns : List ByteArray} {i : Nat}, (∀ (j : Nat) (u : ByteArray), j < i → ns[j]? = some u → ¬ s = u) → ns[i]? = some t → s = t → idxN ns s = i := by
  intro ns
  induction ns with
  | nil => intro i _ ht; cases ht
  | cons x ns ih =>
    intro i h ht he
    cases i with
    | zero =>
      simp only [List.getElem?_cons_zero, Option.some.injEq] at ht
      rw [idxN, if_pos (he.trans ht.symm)]
    | succ i =>
      rw [idxN, if_neg (h 0 x (by omega) rfl), ih (i := i) (fun j u hj hu => h (j + 1) u (by omega) (by simpa using hu)) (by simpa using ht) he]
theorem idx_none {s : ByteArray} : ∀ {ns : List ByteArray}, (∀ (j : Nat) (u : ByteArray), j < ns.length → ns[j]? = some u → ¬ s = u) → idxN ns s = ns.length := by
  intro ns
  induction ns with
  | nil => intro _; rfl
  | cons x ns ih =>
    intro h
    rw [idxN, if_neg (h 0 x (by simp) rfl), ih (fun j u hj hu => h (j + 1) u (by simp; omega) (by simpa using hu))]
    rfl
def idxI (ns : List ByteArray) (s : ByteArray) : Int := if idxN ns s < ns.length then (idxN ns s : Int) else -1
set_option maxRecDepth 100000 in
set_option maxHeartbeats 2000000 in
theorem index_any (w0 : World) (ns : List ByteArray) (a : Option Addr) (c : Nat) (s : ByteArray) (W : World) (hr : RowS w0 ns a) (hW : Below w0.heap.size w0 W) (hl : ns.length ≤ 1099511627776) :
    Calls Tryz.prog 88 #[.slice a ns.length c, .string s] W fun e W' => e = .returned (.int .i64 (idxI ns s)) ∧ W' = W := by
  have HR := hid (And.intro hr hW)
  clear hr hW
  obtain ⟨L, hL⟩ : ∃ L, ns.length = L := ⟨_, rfl⟩
  have HL := hid hL
  rw [hL] at hl ⊢
  clear hL
  go_enter Tryz.func88, Tryz.ntmps88
  go_wp2_with fail
  go_loopw [8] (fun x wr => ∃ (i : Nat), x = .int .i64 (i : Int) ∧ i ≤ L ∧ (∀ (j : Nat) (u : ByteArray), j < i → ns[j]? = some u → ¬ s = u) ∧ wr = W) (fun x _ => L - (intOf x).toNat)
  case atStart => exact ⟨0, rfl, by omega, fun j u hj => absurd hj (by omega), rfl⟩
  case round =>
    obtain ⟨i, rfl, hi, hne, rfl⟩ := hrel
    have HN := hid hne
    clear hne
    by_cases hlt : i < L
    · obtain ⟨b, o, rfl, hc⟩ : ∃ b o, a = some ⟨b, o, none⟩ ∧ ∀ (i : Nat) (s : ByteArray), ns[i]? = some s → w0.cell? ⟨b, o + i, none⟩ = some (.string s) := by
        rcases HR.out.1 with h | h
        · exfalso; have := HL.out; rw [h] at this; simp at this; omega
        · exact h
      obtain ⟨t, ht⟩ : ∃ t, ns[i]? = some t := ⟨_, List.getElem?_eq_getElem (by rw [HL.out]; exact hlt)⟩
      have c0 := (HR.out.2.cell (World.block_lt_of_cell? w0 _ (hc i t ht))).trans (hc i t ht)
      have HT := hid ht
      clear hc ht
      by_cases he : s = t
      · have hee : (s.toList == t.toList) = true := by rw [he]; simp
        have hres : idxI ns s = (i : Int) := by
          unfold idxI
          rw [idx_at HN.out HT.out he, if_pos (by rw [HL.out]; exact hlt)]
        have HK := hid hres
        clear hres he
        go_wp2_with fail
        go_ret
        exact ⟨by rw [HK.out]; rfl, rfl⟩
      · have hee := toList_ne he
        have HE := hid he
        clear he
        go_wp2_with fail
        go_roundw
        case rel => exact ⟨i + 1, by go_num, by omega, fun j u hj hu => by
          rcases Nat.lt_or_ge j i with h | h
          · exact HN.out j u h hu
          · obtain rfl : j = i := by omega
            rw [HT.out] at hu
            cases hu
            exact HE.out, trivial⟩
        case measure => simp [intOf]; omega
    · have hres : idxI ns s = -1 := by
        unfold idxI
        rw [idx_none (fun j u hj hu => HN.out j u (by rw [HL.out] at hj; omega) hu), if_neg (by omega)]
      have HK := hid hres
      clear hres
      go_wp2_with fail
      go_ret
      exact ⟨by rw [HK.out]; rfl, rfl⟩
end Go.Proofs.YthpkinmlpppglaaGreatDoor
