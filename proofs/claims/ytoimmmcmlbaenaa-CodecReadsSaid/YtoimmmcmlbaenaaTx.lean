/- codec: the function that adds a string's bytes. -/
import Derived.Test.YtoimmmcmlbaenaaUvRow
import Derived.Deep.RegionHeld3
import Derived.Lib.AppendStr
namespace Go.Proofs.Ytoimmmcmlbaenaa
open Go.RowKit

theorem text_any (s : ByteArray) (w : World) :
    Calls Try.prog 39 #[.string s] w
      fun e w' => e = .returned (.func (.func 51) #[] #[.pointer (some ⟨w.heap.size, 0, none⟩)]) ∧ w' = w.alloc (.cells #[.string s] 9) := by
  go_enter Try.func39, Try.ntmps39
  go_wp2_with fail
  go_ret
  exact ⟨rfl, rfl⟩

/-- append(v, s...) at a step of a region that draws. -/
theorem step_append_str {P : Program} {w : World} {ops : Array Oper} {o : Oper} {a : Act} {K : Act → World → Prop} {Q : Exit → Act → World → Prop} {E : Prop} (hgd : o.guard = none) (sl x : Operand) (t u : TypeId)
    (ho : o.op = .call { callee := .builtin .append, args := #[sl, x], argTypes := #[t, u] })
    (base : Nat) (e : TypeId) (i : TypeInfo) (ht : P.underlying t = some (.slice e)) (hu : P.underlying u = some .string) (hi : P.info? e = some i) (hz : i.zero = some (.int .u8 0)) (hsize : i.size = 1) (hby : i.bytes = 1)
    (v : Value) (n : Nat) (xs : List Value) (hs : a.eval sl = v) (hown : w.ownsRow base e 1 v n xs) (s : ByteArray) (hx : a.eval x = .string s)
    (h63 : n + s.size ≤ maxLen) (hbytes : n + s.size ≤ 140737488355328) (hbase : base ≤ w.heap.size)
    (h : ∀ v' w', w'.ownsRow base e 1 v' (n + s.size) (xs ++ Lib.strCells s) → w.grownBy w' v.ownBlock → K (a.put o.dst v') w') :
    if Region.wanted o (yielded ops a.tmps) = true then Oper.wp P o a w K Q else E := by
  have hw : Region.wanted o (yielded ops a.tmps) = true := by simp [Region.wanted, hgd]
  rw [if_pos hw]
  obtain ⟨v', w', hr, h2, h3, _⟩ := Lib.run_append_own_string (P := P) w base t u o.type e i ht hu hi hz hsize hby v n xs hown s h63 hbytes hbase
  unfold Oper.wp execOp
  simp only [ho, resolve, invoke, builtin, Sem.run_bind, Sem.run_pure, Result.andThen_ok, List.map_toArray, List.map_cons, List.map_nil, hs, hx, hr]
  exact h v' w' h2 h3

set_option maxRecDepth 100000 in
set_option maxHeartbeats 1000000 in
theorem text1_any (s : ByteArray) (p : Addr) (B : Nat) (v : Value) (l : List UInt8) (w : World) (hp : w.cell? p = some (.string s)) (ho : OwnB w B v l) (hB : B ≤ w.heap.size) (hne : some p.block ≠ v.ownBlock) (hl : l.length + s.size ≤ 35184372088832) :
    Calls Try.prog 51 #[v, .pointer (some p)] w
      fun e w' => (∃ v', e = .returned v' ∧ OwnB w' B v' (l ++ uvL s.size ++ s.data.toList)) ∧ Below B w w' := by
  obtain ⟨i0, hi, hz0, hz1, hz2⟩ := info_parts infoU8
  have hpl := World.block_lt_of_cell? w p hp
  have q : IntKind.u64.wrap (s.size : Int) = (s.size : Int) := by rw [IntKind.wrap_u64]; omega
  have hpa : (w.drew.alloc (.cells #[.int .u64 (s.size : Int)] 69)).cell? p = some (.string s) := by rw [World.cell?_alloc_old _ _ _ (by show p.block ≠ w.heap.size; omega)]; exact hp
  have hr := number1_row s.size ⟨w.heap.size, 0, none⟩ B v l (w.drew.alloc (.cells #[.int .u64 (s.size : Int)] 69)) (by omega) (by simp [go_sem]) (World.ownsRow.alloc ho _) (by simp; omega) (by omega)
  have hlen : (l ++ uvL s.size).length + s.size ≤ maxLen := by have := uvL_ten s.size (by omega); rw [List.length_append]; unfold maxLen; omega
  have hlen2 : (l ++ uvL s.size).length + s.size ≤ 140737488355328 := by have := uvL_ten s.size (by omega); rw [List.length_append]; omega
  have HR := hid hr
  clear hr
  go_enter Try.func51, Try.ntmps51
  go_wp2_with fail
  go_region_held3 (fun w' => w'.cell? p = some (.string s)) (first | exact hp | exact hpa | assumption) ((first | (go_at_call 37; refine (number_any s.size w.drew).mono ?_; rintro e w2 ⟨rfl, rfl⟩) | (go_at_call 50; refine HR.out.mono ?_; rintro e w3 ⟨⟨v', rfl, ho3, hg3⟩, hb3⟩; have hp3 : w3.cell? p = some (.string s) := hg3.1.cell hpa hne) | (refine step_append_str (by rfl) _ _ _ _ (by rfl) B 5 i0 Try.underlying52 Try.underlying9 hi hz0 hz1 hz2 _ _ _ (by rfl) ho3 s (by rfl) hlen hlen2 (Nat.le_trans (by simp; omega) hb3.size) ?_; intro v2 w4 ho4 hg4; have hp4 : w4.cell? p = some (.string s) := hg4.cell hp3 (RowOf_apart hg3 (by show p.block < (w.drew.alloc _).heap.size; simp; omega) hne))))
  have hb1 : Below B w (w.drew.alloc (.cells #[.int .u64 (s.size : Int)] 69)) := ((Below.refl B w).drew).alloc hB _
  have hb4 : Below B w w4 := Below.grown (hb1.trans hb3) hg4 (Nat.le_trans (alloc_le hB _) hb3.size) (own_base ho3)
  have hres : OwnB w4 B v2 (l ++ uvL s.size ++ s.data.toList) := by
    unfold OwnB
    rw [List.length_append, size_list, byteCells_append]
    exact ho4
  have KF := hid (And.intro hres hb4)
  clear hres hb4 hb1 ho4 hg4 hp4 hp3 hg3 ho3 hb3
  go_wp2_with fail
  go_ret
  exact ⟨⟨_, rfl, KF.out.1⟩, KF.out.2⟩
end Go.Proofs.Ytoimmmcmlbaenaa
