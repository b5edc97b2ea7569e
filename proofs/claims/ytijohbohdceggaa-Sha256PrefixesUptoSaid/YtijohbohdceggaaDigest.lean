/- digest, Clone. -/
import Derived.Test.YtijohbohdceggaaHash
namespace Go.Proofs.Ytijohbohdceggaa
open Go.RowKit
attribute [local go_sem ↓ high] u_and u_or u_xor u_not u_add shl_rule shr_rule shl_lit shr_lit u_byte

/-- The bytes of a state. -/
def bytesOf (s : S8) : List UInt8 := (List.range 32).map fun i => UInt8.ofBitVec (((s.list.getD (i / 4) 0) >>> (24 - i % 4 * 8)).setWidth 8)
theorem bytesOf_length (s : S8) : (bytesOf s).length = 32 := by simp [bytesOf]
theorem bytesOf_get (s : S8) (i : Nat) (h : i < 32) : (bytesOf s).getD i 0 = UInt8.ofBitVec (((s.list.getD (i / 4) 0) >>> (24 - i % 4 * 8)).setWidth 8) := by
  simp [bytesOf, List.getD, h]
def Z32B : List UInt8 := List.replicate 32 0
/-- A row whose first bytes are known. -/
theorem bytes_next (l : List UInt8) (cur : List Value) (k : Nat) (hk : k < l.length) (hc : l.length ≤ cur.length) :
    (part cur 0 (byteCells (l.take k))).toArray.setIfInBounds k (.int .u8 ((l.getD k 0).toNat : Int)) = (part cur 0 (byteCells (l.take (k + 1)))).toArray := by
  have hl : (byteCells (l.take k)).length = k := by simp [byteCells_length]; omega
  have := part_next cur 0 (byteCells (l.take k)) (.int .u8 ((l.getD k 0).toNat : Int)) (by rw [hl]; omega)
  rw [hl, Nat.zero_add] at this
  rw [this, List.take_succ_eq_append_getElem hk]
  have e : byteCells (l.take k ++ [l[k]]) = byteCells (l.take k) ++ [.int .u8 ((l.getD k 0).toNat : Int)] := by
    simp only [byteCells, List.map_append, List.map_cons, List.map_nil]
    simp [List.getD, hk]
  rw [e]
theorem part_all (cur l : List Value) (h : l.length = cur.length) : part cur 0 l = l := by simp [part, h]

/-- The string of the bytes of a row. -/
theorem run_bytes_row {P : Program} (w : World) (src dst e : TypeId) (g o n c : Nat) (t : TypeId) (fr : Nat × Nat) (cur : List Value) (l : List UInt8) (hs : P.underlying src = some (.slice e)) (he : P.underlying e = some (.int .u8)) (hd : P.underlying dst = some .string)
    (hg : w.heap[g]? = some (.cells cur.toArray t fr)) (hl : l.length = n) (hc : ∀ j, j < n → cur[o + j]? = some (.int .u8 ((l.getD j 0).toNat : Int))) :
    (convert src dst (.slice (some ⟨g, o, none⟩) n c)).run P w = .ok (.string ⟨l.toArray⟩) w := by
  have h := run_convert_bytes_arg (P := P) w src e hs he g o n c (l.map fun b => (b.toNat : Int)) (by simpa using hl) (fun i hi => by
    rw [cell_of_row w g _ _ _ _ hg]
    have hil : i < l.length := by omega
    have := hc i hi
    simp only [List.getElem?_toArray, this]
    simp [List.getD, hil]) dst hd
  have e1 : strOfNums (l.map fun b => (b.toNat : Int)) = ⟨l.toArray⟩ := by
    unfold strOfNums
    rw [List.map_map]
    have : l.map ((fun n : Int => UInt8.ofNat n.toNat) ∘ fun b : UInt8 => (b.toNat : Int)) = l := by
      conv => rhs; rw [← List.map_id l]
      exact List.map_congr_left fun b _ => by simp
    rw [this]
  rw [h, e1]

set_option maxRecDepth 100000 in
set_option maxHeartbeats 1000000 in
theorem digest_any (s : S8) (w : World) :
    Calls Try.prog 36 #[.agg (UC s.list)] w
      fun e w' => e = .returned (.string ⟨(bytesOf s).toArray⟩) ∧ Below w.heap.size w w' := by
  go_enter Try.func36, Try.ntmps36
  go_wp2_with (with_reducible refine wpList_run_alloc rfl 60 rfl (byteCells Z32B).toArray (by kernel_rfl) ?_)
  have hw := heap_alloc2_old w (.cells (UC s.list) 64) (.cells (byteCells Z32B).toArray 60)
  have hr := heap_alloc2_new w (.cells (UC s.list) 64) (.cells (byteCells Z32B).toArray 60)
  have hb : Below w.heap.size w ((w.alloc (.cells (UC s.list) 64)).alloc (.cells (byteCells Z32B).toArray 60)) := ((Below.refl _ _).alloc (Nat.le_refl _) _).alloc (by simp) _
  have hn : w.heap.size + 1 < ((w.alloc (.cells (UC s.list) 64)).alloc (.cells (byteCells Z32B).toArray 60)).heap.size := by simp
  generalize ((w.alloc (.cells (UC s.list) 64)).alloc (.cells (byteCells Z32B).toArray 60)) = w1 at hw hr hb hn
  go_loopw [5] (fun v wr => ∃ k : Nat, k ≤ 32 ∧ v = .int .i64 k ∧ RowRel (w.heap.size + 1) 60 w1 (part (byteCells Z32B) 0 (byteCells ((bytesOf s).take k))).toArray wr) (fun v _ => 32 - (intOf v).toNat)
  case atStart => exact ⟨0, by omega, rfl, RR_start hr⟩
  case round =>
    obtain ⟨k, hk, rfl, hS⟩ := hrel
    by_cases hlt : k < 32
    · have hf := RR_free hS k
      obtain ⟨old, ho⟩ := RR_some hS k (by simp [part, byteCells_length, bytesOf_length, Z32B]; omega)
      have hfin := RR_set hS k (.int .u8 (((bytesOf s).getD k 0).toNat : Int))
      rw [bytes_next _ _ _ (by rw [bytesOf_length]; exact hlt) (by rw [bytesOf_length]; decide), bytesOf_get s k hlt] at hfin
      have hc : wr.cell? ⟨w.heap.size, k / 4, none⟩ = some (.int .u32 (u (s.list.getD (k / 4) 0))) := by
        rw [RR_far hS (by omega) (by omega), cell_of_row _ _ _ _ _ _ hw]
        exact UC_get _ _ (by show k / 4 < 8; omega)
      have he : (24 - (k : Int) % 4 * 8) = ((24 - k % 4 * 8 : Nat) : Int) := by omega
      generalize s.list.getD (k / 4) 0 = x at hc hfin
      have hv := u_u8 (x >>> (24 - k % 4 * 8))
      have HX := hid hfin
      clear hfin hS hw hr hb
      go_wp2_with fail
      refine ⟨⟨k + 1, by omega, by go_num, put_close (by simp) HX.out⟩, by simp [intOf]; omega⟩
    · obtain rfl : k = 32 := by omega
      have h32 : part (byteCells Z32B) 0 (byteCells ((bytesOf s).take 32)) = byteCells (bytesOf s) := by
        rw [List.take_of_length_le (by rw [bytesOf_length]; decide)]
        exact part_all _ _ (by rw [byteCells_length, byteCells_length, bytesOf_length]; rfl)
      rw [h32] at hS
      have hB : Below w.heap.size w wr := hb.trans (below_of_gb hS.1 (by omega) (by omega))
      have hcv := run_bytes_row (P := Try.prog) wr 34 9 5 (w.heap.size + 1) 0 32 32 60 (0, 0) (byteCells (bytesOf s)) (bytesOf s) Try.underlying34 Try.underlying5 Try.underlying9 hS.2 (bytesOf_length s)
        (fun j hj => by simp [byteCells, List.getD, bytesOf_length, hj])
      clear hS hw hr hb h32
      go_wp2_with fail
      go_ret
      exact ⟨rfl, hB⟩

def ZS : S8 := ⟨0, 0, 0, 0, 0, 0, 0, 0⟩
set_option maxRecDepth 100000 in
set_option maxHeartbeats 1000000 in
theorem clone_any (g : Nat) (m : List UInt8) (w : World) (h : HashIs w g m) :
    Calls Try.prog 24 #[.pointer (some ⟨g, 0, none⟩)] w
      fun e w' => e = .returned (.pointer (some ⟨w.heap.size, 0, none⟩)) ∧ HashIs w' w.heap.size m ∧ Below w.heap.size w w' := by
  obtain ⟨blk, hl, ht, hg⟩ := h
  have hz : (hcells (stateOf m) blk m.length).toArray.size = 73 := by simp [hcells_length _ _ _ hl]
  have h1 : (hcells (stateOf m) blk m.length).toArray.all (·.oneCell') = true := by simp [hcells, byteCells, Value.oneCell']
  have hfin : (w.alloc (.cells (hcells ZS Z64B 0).toArray 67)).setRow w.heap.size (hcells (stateOf m) blk m.length).toArray = w.alloc (.cells (hcells (stateOf m) blk m.length).toArray 67) := alloc_setRow _ _ _ _
  have HH : HashIs (w.alloc (.cells (hcells (stateOf m) blk m.length).toArray 67)) w.heap.size m := ⟨blk, hl, ht, heap_alloc_new _ _⟩
  generalize (hcells (stateOf m) blk m.length).toArray = cs at hg hz h1 hfin HH
  have HZ := hid hz
  have H1 := hid h1
  have HF := hid hfin
  clear hz h1 hfin hl ht
  go_enter Try.func24, Try.ntmps24
  go_wp2_with (first
    | (with_reducible refine wpList_run_alloc rfl 67 rfl (hcells ZS Z64B 0).toArray (by kernel_rfl) ?_)
    | (with_reducible refine wpList_load_row rfl 67 _ rfl g rfl 67 cs (0, 0) _ hg Try.underlying67 rfl (by rw [HZ.out]; kernel_rfl) ?_)
    | (with_reducible refine wpList_store_row rfl 67 _ _ rfl w.heap.size cs rfl rfl 67 _ (heap_alloc_new _ _) (by rw [HZ.out]; kernel_rfl) ((show (hcells ZS Z64B 0).toArray.size = 73 by kernel_rfl).trans HZ.out.symm) H1.out ?_))
  rw [HF.out]
  go_ret
  exact ⟨rfl, HH, (Below.refl _ _).alloc (Nat.le_refl _) _⟩
end Go.Proofs.Ytijohbohdceggaa
