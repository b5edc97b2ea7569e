/- lexer: wordKind, word, number. -/
import Derived.Test.YtjedcijddlilaaaGreatDoorLxK
namespace Go.Proofs.YtjedcijddlilaaaGreatDoor
open Go.RowKit

/-- The first byte. -/
def fst (l : List UInt8) : Nat := (l.getD 0 0).toNat
/-- The kind of a word. -/
def wkOf (l : List UInt8) : Option Int := if isKw l then some 5 else if 32 < l.length then none else if isSm (fst l) then some 1 else some 2
def WK (x : Option Int) (e : Ending) : Prop :=
  match x with
  | some k => e = .returned (.tuple #[.int .i64 k, .bool true])
  | none => e = .returned (.tuple #[.int .i64 0, .bool false])
theorem index0 (s : ByteArray) (h : 0 < s.size) (w : World) : (Instr.index 9 (.string s) (.int .i64 0)).run Tryz.prog w = .ok (.int .u8 (fst s.data.toList : Int)) w := run_index_str s 0 h w
theorem fst_lt (l : List UInt8) : fst l < 256 := (l.getD 0 0).toNat_lt

set_option maxRecDepth 100000 in
set_option maxHeartbeats 1000000 in
theorem wordkind_any (s : ByteArray) (w : World) (h : 0 < s.size) :
    Calls Tryz.prog 171 #[.string s] w fun e w' => WK (wkOf s.data.toList) e ∧ w' = w := by
  have hk := keyword_any s w
  have hc := fst_lt s.data.toList
  have hsm := small_is (fst s.data.toList) w hc
  have hix := index0 s h
  unfold wkOf
  rw [size_list]
  cases q : isKw s.data.toList with
  | true =>
    rw [q] at hk
    rw [if_pos rfl]
    have HK := hid hk
    clear hk q hsm hix
    go_enter Tryz.func171, Tryz.ntmps171
    go_wp2_with fail
    refine HK.out.mono ?_
    rintro e w1 ⟨rfl, rfl⟩
    go_wp2_with fail
    go_ret2
    exact ⟨rfl, rfl⟩
  | false =>
    rw [q] at hk
    rw [if_neg (by decide)]
    have HK := hid hk
    clear hk q
    by_cases hl : 32 < s.size
    · rw [if_pos hl]
      clear hsm hix
      go_enter Tryz.func171, Tryz.ntmps171
      go_wp2_with fail
      refine HK.out.mono ?_
      rintro e w1 ⟨rfl, rfl⟩
      go_wp2_with fail
      go_ret2
      exact ⟨rfl, rfl⟩
    · rw [if_neg hl]
      generalize fst s.data.toList = c at hc hsm hix ⊢
      cases q : isSm c with
      | true =>
        rw [q] at hsm
        rw [if_pos rfl]
        have HS := hid hsm
        clear hsm q
        go_enter Tryz.func171, Tryz.ntmps171
        go_wp2_with fail
        refine HK.out.mono ?_
        rintro e w1 ⟨rfl, rfl⟩
        go_wp2_with fail
        refine HS.out.mono ?_
        rintro e w2 ⟨rfl, rfl⟩
        go_wp2_with fail
        go_ret2
        exact ⟨rfl, rfl⟩
      | false =>
        rw [q] at hsm
        rw [if_neg (by decide)]
        have HS := hid hsm
        clear hsm q
        go_enter Tryz.func171, Tryz.ntmps171
        go_wp2_with fail
        refine HK.out.mono ?_
        rintro e w1 ⟨rfl, rfl⟩
        go_wp2_with fail
        refine HS.out.mono ?_
        rintro e w2 ⟨rfl, rfl⟩
        go_wp2_with fail
        go_ret2
        exact ⟨rfl, rfl⟩

/-- A token at the beginning: its kind, its text, its size; or the error. -/
inductive Tk
  | tok (kind : Int) (text : List UInt8) (size : Nat)
  | err (e : Int)
/-- What the readers of a token return. -/
def TkRet (x : Tk) (e : Ending) : Prop :=
  match x with
  | .tok k t n => e = .returned (.tuple #[.agg #[.int .i64 k, .string ⟨t.toArray⟩, .int .i64 0], .int .i64 (n : Int), .int .i64 0])
  | .err er => e = .returned (.tuple #[.agg #[.int .i64 0, .string ⟨#[]⟩, .int .i64 0], .int .i64 0, .int .i64 er])
def wordT (l : List UInt8) : Tk := match wkOf (l.take (spn isWd l)) with | some k => .tok k (l.take (spn isWd l)) (spn isWd l) | none => .err 4
theorem upto_bytes (s : ByteArray) (k : Nat) : s.extract 0 k = ⟨(s.data.toList.take k).toArray⟩ := by
  apply ByteArray.ext; rw [ByteArray.data_extract]; apply Array.toList_inj.1; simp
theorem mk_list (l : List UInt8) : (ByteArray.mk l.toArray).data.toList = l := by simp
theorem mk_size (l : List UInt8) : (ByteArray.mk l.toArray).size = l.length := by rw [← size_list, mk_list]

/-- A number. -/
def numT (l : List UInt8) : Tk := if 19 < spn isDg l ∨ (1 < spn isDg l ∧ fst l = 48) ∨ (spn isDg l < l.length ∧ isWd (l.getD (spn isDg l) 0).toNat = true) then .err 3 else .tok 3 (l.take (spn isDg l)) (spn isDg l)

end Go.Proofs.YtjedcijddlilaaaGreatDoor
