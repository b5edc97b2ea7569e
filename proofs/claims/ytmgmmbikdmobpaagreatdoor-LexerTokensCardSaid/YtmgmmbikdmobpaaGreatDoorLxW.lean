/- lexer: wordKind, word, number. -/
import Derived.Test.YtmgmmbikdmobpaaGreatDoorLxK
namespace Go.Proofs.YtmgmmbikdmobpaaGreatDoor
open Go.RowKit

/-- The first byte. -/
def fst (l : List UInt8) : Nat := (l.getD 0 0).toNat
/-- The kind of a word. -/
def wkOf (l : List UInt8) : Option Int := if isKw l then some 5 else if 32 < l.length then none else if isSm (fst l) then some 1 else some 2
def WK (x : Option Int) (e : Ending) : Prop :=
  match x with
  | some k => e = .returned (.tuple #[.int .i64 k, .bool true])
  | none => e = .returned (.tuple #[.int .i64 0, .bool false])
theorem index0 (s : ByteArray) (h : 0 < s.size) (w : World) : (Instr.index 9 (.string s) (.int .i64 0)).run Tryz.prog w = .ok (.int .u8 (fst s.data.toList : Int)) w := run_index_str s 0 h w
theorem fst_lt (l : List UInt8) : fst l < 256 := (l.getD 0 0).toNat_lt

set_option maxRecDepth 100000 in
set_option maxHeartbeats 1000000 in
theorem wordkind_any (s : ByteArray) (w : World) (h : 0 < s.size) :
    Calls Tryz.prog 50 #[.string s] w fun e w' => WK (wkOf s.data.toList) e ∧ w' = w := by
  have hk := keyword_any s w
  have hc := fst_lt s.data.toList
  have hsm := small_is (fst s.data.toList) w hc
  have hix := index0 s h
  unfold wkOf
  rw [size_list]
  cases q : isKw s.data.toList with
  | true =>
    rw [q] at hk
    rw [if_pos rfl]
    have HK := hid hk
    clear hk q hsm hix
    go_enter Tryz.func50, Tryz.ntmps50
    go_wp2_with fail
    refine HK.out.mono ?_
    rintro e w1 ⟨rfl, rfl⟩
    go_wp2_with fail
    go_ret2
    exact ⟨rfl, rfl⟩
  | false =>
    rw [q] at hk
    rw [if_neg (by decide)]
    have HK := hid hk
    clear hk q
    by_cases hl : 32 < s.size
    · rw [if_pos hl]
      clear hsm hix
      go_enter Tryz.func50, Tryz.ntmps50
      go_wp2_with fail
      refine HK.out.mono ?_
      rintro e w1 ⟨rfl, rfl⟩
      go_wp2_with fail
      go_ret2
      exact ⟨rfl, rfl⟩
    · rw [if_neg hl]
      generalize fst s.data.toList = c at hc hsm hix ⊢
      cases q : isSm c with
      | true =>
        rw [q] at hsm
        rw [if_pos rfl]
        have HS := hid hsm
        clear hsm q
        go_enter Tryz.func50, Tryz.ntmps50
        go_wp2_with fail
        refine HK.out.mono ?_
        rintro e w1 ⟨rfl, rfl⟩
        go_wp2_with fail
        refine HS.out.mono ?_
        rintro e w2 ⟨rfl, rfl⟩
        go_wp2_with fail
        go_ret2
        exact ⟨rfl, rfl⟩
      | false =>
        rw [q] at hsm
        rw [if_neg (by decide)]
        have HS := hid hsm
        clear hsm q
        go_enter Tryz.func50, Tryz.ntmps50
        go_wp2_with fail
        refine HK.out.mono ?_
        rintro e w1 ⟨rfl, rfl⟩
        go_wp2_with fail
        refine HS.out.mono ?_
        rintro e w2 ⟨rfl, rfl⟩
        go_wp2_with fail
        go_ret2
        exact ⟨rfl, rfl⟩

/-- A token at the beginning: its kind, its text, its size; or the error. -/
inductive Tk
  | tok (kind : Int) (text : List UInt8) (size : Nat)
  | err (e : Int)
/-- What the readers of a token return. -/
def TkRet (x : Tk) (e : Ending) : Prop :=
  match x with
  | .tok k t n => e = .returned (.tuple #[.agg #[.int .i64 k, .string ⟨t.toArray⟩, .int .i64 0], .int .i64 (n : Int), .int .i64 0])
  | .err er => e = .returned (.tuple #[.agg #[.int .i64 0, .string ⟨#[]⟩, .int .i64 0], .int .i64 0, .int .i64 er])
def wordT (l : List UInt8) : Tk := match wkOf (l.take (spn isWd l)) with | some k => .tok k (l.take (spn isWd l)) (spn isWd l) | none => .err 4
theorem upto_bytes (s : ByteArray) (k : Nat) : s.extract 0 k = ⟨(s.data.toList.take k).toArray⟩ := by
  apply ByteArray.ext; rw [ByteArray.data_extract]; apply Array.toList_inj.1; simp
theorem mk_list (l : List UInt8) : (ByteArray.mk l.toArray).data.toList = l := by simp
theorem mk_size (l : List UInt8) : (ByteArray.mk l.toArray).size = l.length := by rw [← size_list, mk_list]

set_option maxRecDepth 100000 in
set_option maxHeartbeats 1000000 in
theorem lword_any (s : ByteArray) (w : World) (hs : s.size ≤ 9223372036854775807) (hw : isWd (fst s.data.toList) = true) (h : 0 < s.size) :
    Calls Tryz.prog 54 #[.string s] w fun e w' => TkRet (wordT s.data.toList) e ∧ Below w.heap.size w w' := by
  have hsp := fun w => span_word s w hs
  have hle := spn_le isWd s.data.toList
  rw [size_list] at hle
  have hpos : 0 < spn isWd s.data.toList := by
    unfold spn
    cases hl : s.data.toList with
    | nil => rw [← size_list, hl] at h; simp at h
    | cons b r => rw [hl] at hw; have hb : isWd b.toNat = true := by simpa [fst] using hw
                  rw [List.takeWhile_cons, hb]; simp
  have hex := upto_bytes s (spn isWd s.data.toList)
  unfold wordT
  generalize spn isWd s.data.toList = n at hsp hle hpos hex ⊢
  have hwk := fun w => wordkind_any (s.extract 0 n) w (by rw [ByteArray.size_extract]; omega)
  have hlist : (s.extract 0 n).data.toList = s.data.toList.take n := by rw [hex, mk_list]
  rw [hlist] at hwk
  have HE := hid hex
  clear hlist
  have HS := hid hsp
  clear hex hsp hw
  cases q : wkOf (s.data.toList.take n) with
  | some k =>
    rw [q] at hwk
    have HW := hid hwk
    clear hwk q
    go_enter Tryz.func54, Tryz.ntmps54
    go_wp2_with fail
    refine (HS.out _).mono ?_
    rintro e w1 ⟨rfl, rfl⟩
    go_wp2_with fail
    refine (HW.out _).mono ?_
    rintro e w2 ⟨he, rfl⟩
    have he2 : e = .returned (.tuple #[.int .i64 k, .bool true]) := he
    subst he2
    clear he
    go_wp2_with fail
    exact bodyPost_ret (v := .tuple #[.agg #[.int .i64 k, .string (s.extract 0 n), .int .i64 0], .int .i64 (n : Int), .int .i64 0]) (by simp [results, Tryz.results54, go_sem]) rfl ⟨by rw [HE.out]; rfl, (Below.refl w.heap.size w).alloc (Nat.le_refl _) _⟩
  | none =>
    rw [q] at hwk
    have HW := hid hwk
    clear hwk q
    go_enter Tryz.func54, Tryz.ntmps54
    go_wp2_with fail
    refine (HS.out _).mono ?_
    rintro e w1 ⟨rfl, rfl⟩
    go_wp2_with fail
    refine (HW.out _).mono ?_
    rintro e w2 ⟨he, rfl⟩
    have he2 : e = .returned (.tuple #[.int .i64 0, .bool false]) := he
    subst he2
    clear he
    go_wp2_with fail
    exact bodyPost_ret (v := .tuple #[.agg #[.int .i64 0, .string ⟨#[]⟩, .int .i64 0], .int .i64 0, .int .i64 4]) (by simp [results, Tryz.results54, go_sem]) rfl ⟨rfl, (Below.refl w.heap.size w).alloc (Nat.le_refl _) _⟩
/-- A number. -/
def numT (l : List UInt8) : Tk := if 19 < spn isDg l ∨ (1 < spn isDg l ∧ fst l = 48) ∨ (spn isDg l < l.length ∧ isWd (l.getD (spn isDg l) 0).toNat = true) then .err 3 else .tok 3 (l.take (spn isDg l)) (spn isDg l)

set_option maxRecDepth 100000 in
set_option maxHeartbeats 4000000 in
theorem lnumber_any (s : ByteArray) (w : World) (hs : s.size ≤ 9223372036854775807) (h : 0 < s.size) :
    Calls Tryz.prog 56 #[.string s] w fun e w' => TkRet (numT s.data.toList) e ∧ Below w.heap.size w w' := by
  have hsp := fun w => span_digit s w hs
  have hle := spn_le isDg s.data.toList
  rw [size_list] at hle
  have hex := upto_bytes s (spn isDg s.data.toList)
  have hix0 := index0 s h
  have hc0 := fst_lt s.data.toList
  have hixn := fun (hn : spn isDg s.data.toList < s.size) => run_index_str s (spn isDg s.data.toList) hn
  have hwd := fun w => word_is (s.data.toList.getD (spn isDg s.data.toList) 0).toNat w (s.data.toList.getD (spn isDg s.data.toList) 0).toNat_lt
  have hcn : (s.data.toList.getD (spn isDg s.data.toList) 0).toNat < 256 := (s.data.toList.getD (spn isDg s.data.toList) 0).toNat_lt
  unfold numT
  rw [size_list]
  generalize (s.data.toList.getD (spn isDg s.data.toList) 0).toNat = d at hixn hwd hcn ⊢
  generalize spn isDg s.data.toList = n at hsp hle hex hixn ⊢
  generalize fst s.data.toList = c at hix0 hc0 ⊢
  have HE := hid hex
  have HS := hid hsp
  have HW := hid hwd
  have HX := hid hixn
  clear hex hsp hwd hixn
  by_cases h19 : 19 < n
  · rw [if_pos (Or.inl h19)]
    have h1 : 1 < n := by omega
    cases z : ((c : Int) == 48) with
    | true =>
      go_enter Tryz.func56, Tryz.ntmps56
      go_wp2_with fail
      refine (HS.out _).mono ?_
      rintro e w1 ⟨rfl, rfl⟩
      go_wp2_with fail
      exact bodyPost_ret (v := .tuple #[.agg #[.int .i64 0, .string ⟨#[]⟩, .int .i64 0], .int .i64 0, .int .i64 3]) (by simp [results, Tryz.results56, go_sem]) rfl ⟨rfl, (Below.refl w.heap.size w).alloc (Nat.le_refl _) _⟩
    | false =>
      go_enter Tryz.func56, Tryz.ntmps56
      go_wp2_with fail
      refine (HS.out _).mono ?_
      rintro e w1 ⟨rfl, rfl⟩
      go_wp2_with fail
      exact bodyPost_ret (v := .tuple #[.agg #[.int .i64 0, .string ⟨#[]⟩, .int .i64 0], .int .i64 0, .int .i64 3]) (by simp [results, Tryz.results56, go_sem]) rfl ⟨rfl, (Below.refl w.heap.size w).alloc (Nat.le_refl _) _⟩
  by_cases hz : 1 < n ∧ c = 48
  · rw [if_pos (Or.inr (Or.inl hz))]
    obtain ⟨h1, rfl⟩ := hz
    go_enter Tryz.func56, Tryz.ntmps56
    go_wp2_with fail
    refine (HS.out _).mono ?_
    rintro e w1 ⟨rfl, rfl⟩
    go_wp2_with fail
    exact bodyPost_ret (v := .tuple #[.agg #[.int .i64 0, .string ⟨#[]⟩, .int .i64 0], .int .i64 0, .int .i64 3]) (by simp [results, Tryz.results56, go_sem]) rfl ⟨rfl, (Below.refl w.heap.size w).alloc (Nat.le_refl _) _⟩
  have hlz : Kpt (¬ (1 < n ∧ c = 48)) := hid hz
  by_cases hlt : n < s.size
  · have hixn := HX.out hlt
    cases q : isWd d with
    | true =>
      have hw1 := fun w => HW.out w
      rw [q] at hw1
      have HW1 := hid hw1
      rw [if_pos (Or.inr (Or.inr ⟨hlt, rfl⟩))]
      clear q hw1 hz
      by_cases h1 : 1 < n
      · have z : ((c : Int) == 48) = false := by rw [beq_eq_false_iff_ne]; have := hlz.out; omega
        go_enter Tryz.func56, Tryz.ntmps56
        go_wp2_with fail
        refine (HS.out _).mono ?_
        rintro e w1 ⟨rfl, rfl⟩
        go_wp2_with fail
        refine (HW1.out _).mono ?_
        rintro e w2 ⟨rfl, rfl⟩
        go_wp2_with fail
        exact bodyPost_ret (v := .tuple #[.agg #[.int .i64 0, .string ⟨#[]⟩, .int .i64 0], .int .i64 0, .int .i64 3]) (by simp [results, Tryz.results56, go_sem]) rfl ⟨rfl, (Below.refl w.heap.size w).alloc (Nat.le_refl _) _⟩
      · go_enter Tryz.func56, Tryz.ntmps56
        go_wp2_with fail
        refine (HS.out _).mono ?_
        rintro e w1 ⟨rfl, rfl⟩
        go_wp2_with fail
        refine (HW1.out _).mono ?_
        rintro e w2 ⟨rfl, rfl⟩
        go_wp2_with fail
        exact bodyPost_ret (v := .tuple #[.agg #[.int .i64 0, .string ⟨#[]⟩, .int .i64 0], .int .i64 0, .int .i64 3]) (by simp [results, Tryz.results56, go_sem]) rfl ⟨rfl, (Below.refl w.heap.size w).alloc (Nat.le_refl _) _⟩
    | false =>
      have hw1 := fun w => HW.out w
      rw [q] at hw1
      have HW1 := hid hw1
      rw [if_neg (by simp; omega)]
      clear q hw1 hz
      by_cases h1 : 1 < n
      · have z : ((c : Int) == 48) = false := by rw [beq_eq_false_iff_ne]; have := hlz.out; omega
        go_enter Tryz.func56, Tryz.ntmps56
        go_wp2_with fail
        refine (HS.out _).mono ?_
        rintro e w1 ⟨rfl, rfl⟩
        go_wp2_with fail
        refine (HW1.out _).mono ?_
        rintro e w2 ⟨rfl, rfl⟩
        go_wp2_with fail
        exact bodyPost_ret (v := .tuple #[.agg #[.int .i64 3, .string (s.extract 0 n), .int .i64 0], .int .i64 (n : Int), .int .i64 0]) (by simp [results, Tryz.results56, go_sem]) rfl ⟨by rw [HE.out]; rfl, (Below.refl w.heap.size w).alloc (Nat.le_refl _) _⟩
      · go_enter Tryz.func56, Tryz.ntmps56
        go_wp2_with fail
        refine (HS.out _).mono ?_
        rintro e w1 ⟨rfl, rfl⟩
        go_wp2_with fail
        refine (HW1.out _).mono ?_
        rintro e w2 ⟨rfl, rfl⟩
        go_wp2_with fail
        exact bodyPost_ret (v := .tuple #[.agg #[.int .i64 3, .string (s.extract 0 n), .int .i64 0], .int .i64 (n : Int), .int .i64 0]) (by simp [results, Tryz.results56, go_sem]) rfl ⟨by rw [HE.out]; rfl, (Below.refl w.heap.size w).alloc (Nat.le_refl _) _⟩
  · rw [if_neg (by omega)]
    have hge : s.size ≤ n := by omega
    clear hz
    by_cases h1 : 1 < n
    · have z : ((c : Int) == 48) = false := by rw [beq_eq_false_iff_ne]; have := hlz.out; omega
      go_enter Tryz.func56, Tryz.ntmps56
      go_wp2_with fail
      refine (HS.out _).mono ?_
      rintro e w1 ⟨rfl, rfl⟩
      go_wp2_with fail
      exact bodyPost_ret (v := .tuple #[.agg #[.int .i64 3, .string (s.extract 0 n), .int .i64 0], .int .i64 (n : Int), .int .i64 0]) (by simp [results, Tryz.results56, go_sem]) rfl ⟨by rw [HE.out]; rfl, (Below.refl w.heap.size w).alloc (Nat.le_refl _) _⟩
    · go_enter Tryz.func56, Tryz.ntmps56
      go_wp2_with fail
      refine (HS.out _).mono ?_
      rintro e w1 ⟨rfl, rfl⟩
      go_wp2_with fail
      exact bodyPost_ret (v := .tuple #[.agg #[.int .i64 3, .string (s.extract 0 n), .int .i64 0], .int .i64 (n : Int), .int .i64 0]) (by simp [results, Tryz.results56, go_sem]) rfl ⟨by rw [HE.out]; rfl, (Below.refl w.heap.size w).alloc (Nat.le_refl _) _⟩
end Go.Proofs.YtmgmmbikdmobpaaGreatDoor
