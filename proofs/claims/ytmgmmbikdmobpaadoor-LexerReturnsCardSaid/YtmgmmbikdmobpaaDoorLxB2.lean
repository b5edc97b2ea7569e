/- strings.Builder with a frame of its own row: two builders stand beside each other. -/
import Derived.Test.YtmgmmbikdmobpaaDoorShB
import Derived.Test.YtmgmmbikdmobpaaDoorLxQ2
import Derived.Shelf.Strings.Builder1
namespace Go.Proofs.YtmgmmbikdmobpaaDoor
open Go.RowKit

/-- Where an append of a string puts what it makes. -/
theorem append_at {P : Program} {w : World} (base : Nat) (t u ty e : TypeId) (i : TypeInfo) (ht : P.underlying t = some (.slice e)) (hu : P.underlying u = some .string) (hi : P.info? e = some i) (hz : i.zero = some (.int .u8 0)) (hsize : i.size = 1) (hby : i.bytes = 1)
    (v : Value) (n : Nat) (xs : List Value) (hown : w.ownsRow base e 1 v n xs) (s : ByteArray) (h63 : n + s.size ≤ maxLen) (hbytes : n + s.size ≤ 140737488355328) {v' : Value} {w' : World}
    (hr : (Builtin.append_ #[t, u] ty #[v, .string s]).run P w = .ok v' w') (hnil : v' = .slice none 0 0 ↔ v = .slice none 0 0 ∧ s.size = 0) : v'.ownBlock = v.ownBlock ∨ v'.ownBlock = some w.heap.size := by
  have hsmall : n + s.size ≤ 9223372036854775807 := by simp only [maxLen] at h63; omega
  have hxl : xs.length = n := by simpa using hown.1
  rcases hown.2 with ⟨rfl, rfl⟩ | ⟨g, cap, cur, rfl, hbg, hg, hnc, hcm, hcs, htake⟩
  · by_cases hm : s.size = 0
    · left; rw [hnil.2 ⟨rfl, hm⟩]
    · have h2 := run_append_nil_string (P := P) w t u ty e i (.int .u8 0) ht hu hi hz s (by omega) (by omega) (by rw [hby]; omega)
      rw [h2] at hr
      injection hr with h3 h4
      right; rw [← h3]; rfl
  · have hcs' : cur.size = cap := by simpa using hcs
    by_cases hroom : n + s.size ≤ cap
    · have h2 := Lib.run_append_room_string (P := P) w t u ty e i ht hu hi hsize g n cap cur hg s hroom (by omega)
      rw [h2] at hr
      injection hr with h3 h4
      left; rw [← h3]; rfl
    · have holds : ∀ j u, xs[j]? = some u → w.cell? ((⟨g, 0, none⟩ : Addr).add j) = some u := hown.cells (g := g) rfl
      have h2 := Lib.run_append_grow_string (P := P) w t u ty e i (.int .u8 0) ht hu hi hz ⟨g, 0, none⟩ n cap xs (by rw [hsize]; simpa using hxl) holds s (by omega) (by omega) (by rw [hby]; exact growslice_fits (by omega) (by omega))
      rw [h2] at hr
      injection hr with h3 h4
      right; rw [← h3]; rfl
theorem wpList_append_bstr_at {P : Program} {w : World} {ops : Array Oper} {rest : List Oper} {o : Oper} {a : Act} {Q : Exit → Act → World → Prop} (hgd : o.guard = none) (sl x : Operand) (t u : TypeId)
    (ho : o.op = .call { callee := .builtin .append, args := #[sl, x], argTypes := #[t, u] })
    (base : Nat) (e : TypeId) (i : TypeInfo) (ht : P.underlying t = some (.slice e)) (hu : P.underlying u = some .string) (hi : P.info? e = some i) (hz : i.zero = some (.int .u8 0)) (hsize : i.size = 1) (hby : i.bytes = 1)
    (v : Value) (n : Nat) (xs : List Value) (hs : a.eval sl = v) (hown : w.ownsRow base e 1 v n xs) (s : ByteArray) (hx : a.eval x = .string s)
    (h63 : n + s.size ≤ maxLen) (hbytes : n + s.size ≤ 140737488355328) (hbase : base ≤ w.heap.size)
    (h : ∀ v' w', w'.ownsRow base e 1 v' (n + s.size) (xs ++ Lib.strCells s) → w.grownBy w' v.ownBlock → (v'.ownBlock = v.ownBlock ∨ v'.ownBlock = some w.heap.size) → wpList P ops Q rest (a.put o.dst v') w') :
    wpList P ops Q (o :: rest) a w := by
  refine wpList_plain hgd fun K hK => ?_
  obtain ⟨v', w', hr, h2, h3, h4⟩ := Lib.run_append_own_string (P := P) w base t u o.type e i ht hu hi hz hsize hby v n xs hown s h63 hbytes hbase
  have hat := append_at base t u o.type e i ht hu hi hz hsize hby v n xs hown s h63 hbytes hr h4
  unfold Oper.wp execOp
  simp only [ho, resolve, invoke, builtin, Sem.run_bind, Sem.run_pure, Result.andThen_ok, List.map_toArray, List.map_cons, List.map_nil, hs, hx, hr]
  exact hK _ _ (h v' w' h2 h3 hat)

/-- All but block b and a row lies as it lay. -/
structure Foot (w w' : World) (b : Nat) (row : Option Nat) : Prop where
  os : w'.os = w.os
  tape : w'.tape = w.tape
  output : w'.output = w.output
  size : w.heap.size ≤ w'.heap.size
  block : ∀ k, k < w.heap.size → k ≠ b → some k ≠ row → w'.heap[k]? = w.heap[k]?
theorem Foot.below {w w' : World} {b : Nat} {row : Option Nat} {n : Nat} (h : Foot w w' b row) (hn : n ≤ w.heap.size) (hb : n ≤ b) (hr : ∀ k, row = some k → n ≤ k) : Below n w w' :=
  ⟨h.os, h.tape, h.output, h.size, fun k hk => h.block k (by omega) (by omega) (fun e => by have := hr k e.symm; omega)⟩
/-- A builder at block b whose buffer is v and holds l. -/
structure Bld (w : World) (n b : Nat) (v : Value) (l : List UInt8) : Prop where
  blk : ∃ p, w.heap[b]? = some (.cells #[p, v] 39 (0, 0)) ∧ (p = .pointer none ∨ p = .pointer (some ⟨b, 0, none⟩))
  own : w.ownsRow n 5 1 v l.length (byteCells l)
theorem Bld.lt {w : World} {n b : Nat} {v : Value} {l : List UInt8} (h : Bld w n b v l) : b < w.heap.size := by
  obtain ⟨p, h1, _⟩ := h.blk
  exact (Array.getElem?_eq_some_iff.1 h1).1
/-- A builder's buffer is no builder. -/
theorem Bld.ne {w : World} {n b n' b' : Nat} {v v' : Value} {l l' : List UInt8} (h : Bld w n b v l) (h' : Bld w n' b' v' l') : some b ≠ v'.ownBlock := by
  obtain ⟨p, h1, _⟩ := h.blk
  rcases h'.own.2 with ⟨rfl, _⟩ | ⟨g, cap, cur, rfl, _, hg, _⟩
  · intro e; cases e
  · intro e
    have : b = g := by simpa [Value.ownBlock] using e
    subst this
    rw [h1] at hg; cases hg
theorem Bld.kept {w w' : World} {n b b' : Nat} {v : Value} {l : List UInt8} {row : Option Nat} (h : Bld w n b v l) (hf : Foot w w' b' row) (h1 : b ≠ b') (h2 : some b ≠ row) (h3 : v.ownBlock = none ∨ (v.ownBlock ≠ row ∧ v.ownBlock ≠ some b')) : Bld w' n b v l := by
  obtain ⟨p, hp, hpp⟩ := h.blk
  refine ⟨⟨p, (hf.block b h.lt h1 h2).trans hp, hpp⟩, h.own.1, ?_⟩
  rcases h.own.2 with hn | ⟨g, cap, cur, rfl, hb, hg, r⟩
  · exact Or.inl hn
  · refine Or.inr ⟨g, cap, cur, rfl, hb, ?_, r⟩
    have hlt := (Array.getElem?_eq_some_iff.1 hg).1
    rcases h3 with h3 | ⟨h3, h4⟩
    · cases h3
    · exact (hf.block g hlt (fun e => h4 (by rw [e]; rfl)) h3).trans hg
theorem Bld.below {w w' : World} {n b : Nat} {v : Value} {l : List UInt8} (h : Bld w n b v l) (hb : Below w.heap.size w w') : Bld w' n b v l :=
  h.kept (b' := w.heap.size) (row := none) ⟨hb.os, hb.tape, hb.output, hb.size, fun k hk _ _ => hb.block k hk⟩ (by have := h.lt; omega) (by simp) (by
    rcases h.own.2 with ⟨rfl, _⟩ | ⟨g, cap, cur, rfl, _, hg, _⟩
    · exact Or.inl rfl
    · have hlt := (Array.getElem?_eq_some_iff.1 hg).1
      exact Or.inr ⟨by simp [Value.ownBlock], by simp [Value.ownBlock]; omega⟩)
theorem strCells_list (s : ByteArray) : Lib.strCells s = byteCells s.data.toList := rfl

theorem copycheck_any (n b : Nat) (v : Value) (l : List UInt8) (w : World) (h : Bld w n b v l) :
    Calls Tryd.prog 45 #[.pointer (some ⟨b, 0, none⟩)] w fun e w' => e = .returned (.tuple #[]) ∧ w'.heap[b]? = some (.cells #[.pointer (some ⟨b, 0, none⟩), v] 39 (0, 0)) ∧ Foot w w' b none ∧ w'.heap.size = w.heap.size := by
  obtain ⟨p, hp, hpp⟩ := h.blk
  rcases hpp with rfl | rfl
  · refine (Any.Builder_copyCheck_fresh { Tryd.lays166 with } Tryd.Builder_Extra_B.toX72 b w (by rw [Lib.cell_of_heap hp]; rfl) (by simp [World.shape?, hp, Tryd.laysB_ren]) (Lib.frozen_of_heap hp 0)).mono ?_
    rintro e w' ⟨rfl, rfl⟩
    refine ⟨rfl, ?_, ⟨rfl, rfl, rfl, by simp, fun k _ hk _ => heap_setCell_other w ⟨b, 0, none⟩ k _ hk⟩, by simp⟩
    have := heap_setCell_same w b 0 _ _ (.pointer (some ⟨b, 0, none⟩)) hp
    exact this
  · refine (Any.Builder_copyCheck_used { Tryd.lays166 with } Tryd.Builder_Extra_B.toX72 b w (by rw [Lib.cell_of_heap hp]; rfl)).mono ?_
    rintro e w' ⟨rfl, rfl⟩
    exact ⟨rfl, hp, ⟨rfl, rfl, rfl, Nat.le_refl _, fun _ _ _ _ => rfl⟩, rfl⟩
theorem byteCells_len (l : List UInt8) : (byteCells l).length = l.length := by simp [byteCells]

set_option maxRecDepth 100000 in
set_option maxHeartbeats 2000000 in
theorem bwrite_any (n b : Nat) (v : Value) (l : List UInt8) (s : ByteArray) (w : World) (h : Bld w n b v l) (hn : n ≤ w.heap.size) (hlen : l.length + s.size ≤ 1000000) :
    Calls Tryd.prog 24 #[.pointer (some ⟨b, 0, none⟩), .string s] w fun e w' => e = .returned (.tuple #[.int .i64 (s.size : Int), .nilIface]) ∧ ∃ v', Bld w' n b v' (l ++ s.data.toList) ∧ (v'.ownBlock = v.ownBlock ∨ v'.ownBlock = some w.heap.size) ∧ Foot w w' b v.ownBlock := by
  obtain ⟨i0, hi, hz0, hz1, hz2⟩ := info_parts infoU8
  have hne := h.ne h
  have hlt := h.lt
  have hcc := copycheck_any n b v l w h
  have hown := h.own
  have HC := hid hcc
  have HO := hid hown
  clear hcc hown h
  go_enter Tryd.func24, Tryd.ntmps24
  go_wp2_with fail
  refine HC.out.mono ?_
  rintro e w1 ⟨rfl, hbk, hf, hsz⟩
  have hown1 : w1.ownsRow n 5 1 v l.length (byteCells l) := by
    have h0 := HO.out
    refine ⟨h0.1, ?_⟩
    rcases h0.2 with hn | ⟨g, cap, cur, rfl, hb, hg, r⟩
    · exact Or.inl hn
    · exact Or.inr ⟨g, cap, cur, rfl, hb, (hf.block g (Array.getElem?_eq_some_iff.1 hg).1 (fun e => hne (by rw [e]; rfl)) (by simp)).trans hg, r⟩
  have c0 : w1.cell? ⟨b, 0, none⟩ = some (.pointer (some ⟨b, 0, none⟩)) := by rw [Lib.cell_of_heap hbk]; rfl
  have c1 : w1.cell? ⟨b, 1, none⟩ = some v := by rw [Lib.cell_of_heap hbk]; rfl
  have K1 := hid (And.intro hbk (And.intro hf (And.intro hown1 hsz)))
  clear hbk hf hown1 hsz
  go_wp2_with (at_builtin; refine wpList_append_bstr_at rfl _ _ 36 9 rfl n 5 i0 Tryd.underlying36 Tryd.underlying9 hi hz0 hz1 hz2 _ _ _ rfl K1.out.2.2.1 s rfl ?c3 ?c4 ?c5 ?_)
  case c3 => unfold maxLen; omega
  case c4 => omega
  case c5 => have := K1.out.2.2.2; omega
  intro v' w2 hown2 hgrow hat
  have hgrow2 : World.grownBy w1 w2 v.ownBlock := hgrow
  have hat2 : v'.ownBlock = v.ownBlock ∨ v'.ownBlock = some w1.heap.size := hat
  have hbl : b < w1.heap.size := by have := K1.out.2.2.2; omega
  have hb2 : w2.heap[b]? = some (.cells #[.pointer (some ⟨b, 0, none⟩), v] 39 (0, 0)) := by
    rw [hgrow2.block b hbl hne]; exact K1.out.1
  have d0 : w2.cell? ⟨b, 0, none⟩ = some (.pointer (some ⟨b, 0, none⟩)) := by rw [Lib.cell_of_heap hb2]; rfl
  have d1 : w2.cell? ⟨b, 1, none⟩ = some v := by rw [Lib.cell_of_heap hb2]; rfl
  have f1 : w2.frozen? ⟨b, 1, none⟩ = false := Lib.frozen_of_heap hb2 1
  have K2 := hid (And.intro hown2 (And.intro hgrow2 (And.intro hat2 hb2)))
  clear hown2 hgrow hgrow2 hat hat2 hb2
  obtain ⟨ao, n', cap, rfl⟩ : ∃ ao n' cap, v' = .slice ao n' cap := by
    rcases K2.out.1.2 with ⟨hv, _⟩ | ⟨g, cap, cur, hv, _⟩
    · exact ⟨_, _, _, hv⟩
    · exact ⟨_, _, _, hv⟩
  go_wp2_with fail
  go_ret2
  have hsz1 := K1.out.2.2.2
  have hf1 := K1.out.2.1
  have hset := heap_setCell_same w2 b 1 _ _ (.slice ao n' cap) K2.out.2.2.2
  have hst : w2.grownBy (w2.setCell ⟨b, 1, none⟩ (.slice ao n' cap)) (some b) := ⟨rfl, rfl, rfl, by simp, fun k _ hk => heap_setCell_other w2 ⟨b, 1, none⟩ k _ (fun e => hk (by rw [e]))⟩
  have hvb : Value.ownBlock (.slice ao n' cap) ≠ some b := by
    intro e
    rcases K2.out.1.2 with ⟨hv, _⟩ | ⟨g, cap', cur, hv, _, hg, _⟩
    · rw [hv] at e; cases e
    · rw [hv] at e
      have : g = b := by simpa [Value.ownBlock] using e
      subst this
      rw [K2.out.2.2.2] at hg; cases hg
  refine ⟨rfl, .slice ao n' cap, ⟨⟨_, hset, Or.inr rfl⟩, ?_⟩, ?_, ?_⟩
  · have h1 := K2.out.1.kept hst (Or.inr hvb)
    rw [strCells_list, ← byteCells_append] at h1
    rw [List.length_append, size_list]
    exact h1
  · rcases K2.out.2.2.1 with h1 | h1
    · exact Or.inl h1
    · exact Or.inr (by rw [h1, hsz1])
  · have hg := K2.out.2.1
    exact ⟨hst.os.trans (hg.os.trans hf1.os), hst.tape.trans (hg.tape.trans hf1.tape), hst.output.trans (hg.output.trans hf1.output), Nat.le_trans hf1.size (Nat.le_trans hg.size hst.size), fun k hk hkb hkr => by
      rw [hst.block k (by have := hg.size; omega) (fun e => hkb (by cases e; rfl)), hg.block k (by omega) hkr, hf1.block k hk hkb (by simp)]⟩
end Go.Proofs.YtmgmmbikdmobpaaDoor
