/- lexer: the reference's token at a number. -/
import Derived.Test.YtmgmmbikdmobpaaGreatDoorLyWp
namespace Go.Proofs.YtmgmmbikdmobpaaGreatDoor
open Go.RowKit

set_option maxRecDepth 100000 in
set_option maxHeartbeats 16000000 in
theorem rtokD_any (s : ByteArray) (w : World) (hs : s.size ≤ 9223372036854775807) (h : 0 < s.size) (hdg : isDg (fst s.data.toList) = true) :
    Calls Tryz.prog 16 #[.string s] w fun e w' => TkRet (numT s.data.toList) e ∧ Below w.heap.size w w' := by
  have hsp := fun w => rspan_any s true w hs
  rw [show dwP true = isDg from funext fun c => rfl] at hsp
  have hd := rdigit_is (fst s.data.toList)
  rw [hdg] at hd
  have b34 : fst s.data.toList ≠ 34 := by unfold isDg at hdg; simp at hdg; omega
  clear hdg
  have hle := spn_le isDg s.data.toList
  rw [size_list] at hle
  have hex := upto_bytes s (spn isDg s.data.toList)
  have hix0 := index0 s h
  have hc0 := fst_lt s.data.toList
  have hixn := fun (hn : spn isDg s.data.toList < s.size) => run_index_str s (spn isDg s.data.toList) hn
  have hwd := fun w => rword_is (s.data.toList.getD (spn isDg s.data.toList) 0).toNat w (s.data.toList.getD (spn isDg s.data.toList) 0).toNat_lt
  have hcn : (s.data.toList.getD (spn isDg s.data.toList) 0).toNat < 256 := (s.data.toList.getD (spn isDg s.data.toList) 0).toNat_lt
  unfold numT
  rw [size_list]
  generalize (s.data.toList.getD (spn isDg s.data.toList) 0).toNat = d at hixn hwd hcn ⊢
  generalize spn isDg s.data.toList = n at hsp hle hex hixn ⊢
  generalize fst s.data.toList = c at hix0 hc0 hd b34 ⊢
  have b34b : ((c : Int) == 34) = false := by rw [beq_eq_false_iff_ne]; omega
  have HDG := hid (fun w => hd w hc0)
  clear hd b34
  have HE := hid hex
  have HS := hid hsp
  have HW := hid hwd
  have HX := hid hixn
  clear hex hsp hwd hixn
  by_cases h19 : 19 < n
  · rw [if_pos (Or.inl h19)]
    have h1 : 1 < n := by omega
    cases z : ((c : Int) == 48) with
    | true =>
      go_enter Tryz.func16, Tryz.ntmps16
      go_wp2_with fail
      refine (HDG.out _).mono ?_
      rintro e w0 ⟨rfl, rfl⟩
      go_wp2_with fail
      refine (HS.out _).mono ?_
      rintro e w1 ⟨rfl, rfl⟩
      go_wp2_with fail
      exact bodyPost_ret (v := .tuple #[.agg #[.int .i64 0, .string ⟨#[]⟩, .int .i64 0], .int .i64 0, .int .i64 3]) (by simp [results, Tryz.results16, go_sem]) rfl ⟨rfl, (Below.refl w.heap.size w).alloc (Nat.le_refl _) _⟩
    | false =>
      go_enter Tryz.func16, Tryz.ntmps16
      go_wp2_with fail
      refine (HDG.out _).mono ?_
      rintro e w0 ⟨rfl, rfl⟩
      go_wp2_with fail
      refine (HS.out _).mono ?_
      rintro e w1 ⟨rfl, rfl⟩
      go_wp2_with fail
      exact bodyPost_ret (v := .tuple #[.agg #[.int .i64 0, .string ⟨#[]⟩, .int .i64 0], .int .i64 0, .int .i64 3]) (by simp [results, Tryz.results16, go_sem]) rfl ⟨rfl, (Below.refl w.heap.size w).alloc (Nat.le_refl _) _⟩
  by_cases hz : 1 < n ∧ c = 48
  · rw [if_pos (Or.inr (Or.inl hz))]
    obtain ⟨h1, rfl⟩ := hz
    go_enter Tryz.func16, Tryz.ntmps16
    go_wp2_with fail
    refine (HDG.out _).mono ?_
    rintro e w0 ⟨rfl, rfl⟩
    go_wp2_with fail
    refine (HS.out _).mono ?_
    rintro e w1 ⟨rfl, rfl⟩
    go_wp2_with fail
    exact bodyPost_ret (v := .tuple #[.agg #[.int .i64 0, .string ⟨#[]⟩, .int .i64 0], .int .i64 0, .int .i64 3]) (by simp [results, Tryz.results16, go_sem]) rfl ⟨rfl, (Below.refl w.heap.size w).alloc (Nat.le_refl _) _⟩
  have hlz : Kpt (¬ (1 < n ∧ c = 48)) := hid hz
  by_cases hlt : n < s.size
  · have hixn := HX.out hlt
    cases q : isWd d with
    | true =>
      have hw1 := fun w => HW.out w
      rw [q] at hw1
      have HW1 := hid hw1
      rw [if_pos (Or.inr (Or.inr ⟨hlt, rfl⟩))]
      clear q hw1 hz
      by_cases h1 : 1 < n
      · have z : ((c : Int) == 48) = false := by rw [beq_eq_false_iff_ne]; have := hlz.out; omega
        go_enter Tryz.func16, Tryz.ntmps16
        go_wp2_with fail
        refine (HDG.out _).mono ?_
        rintro e w0 ⟨rfl, rfl⟩
        go_wp2_with fail
        refine (HS.out _).mono ?_
        rintro e w1 ⟨rfl, rfl⟩
        go_wp2_with fail
        refine (HW1.out _).mono ?_
        rintro e w2 ⟨rfl, rfl⟩
        go_wp2_with fail
        exact bodyPost_ret (v := .tuple #[.agg #[.int .i64 0, .string ⟨#[]⟩, .int .i64 0], .int .i64 0, .int .i64 3]) (by simp [results, Tryz.results16, go_sem]) rfl ⟨rfl, (Below.refl w.heap.size w).alloc (Nat.le_refl _) _⟩
      · go_enter Tryz.func16, Tryz.ntmps16
        go_wp2_with fail
        refine (HDG.out _).mono ?_
        rintro e w0 ⟨rfl, rfl⟩
        go_wp2_with fail
        refine (HS.out _).mono ?_
        rintro e w1 ⟨rfl, rfl⟩
        go_wp2_with fail
        refine (HW1.out _).mono ?_
        rintro e w2 ⟨rfl, rfl⟩
        go_wp2_with fail
        exact bodyPost_ret (v := .tuple #[.agg #[.int .i64 0, .string ⟨#[]⟩, .int .i64 0], .int .i64 0, .int .i64 3]) (by simp [results, Tryz.results16, go_sem]) rfl ⟨rfl, (Below.refl w.heap.size w).alloc (Nat.le_refl _) _⟩
    | false =>
      have hw1 := fun w => HW.out w
      rw [q] at hw1
      have HW1 := hid hw1
      rw [if_neg (by simp; omega)]
      clear q hw1 hz
      by_cases h1 : 1 < n
      · have z : ((c : Int) == 48) = false := by rw [beq_eq_false_iff_ne]; have := hlz.out; omega
        go_enter Tryz.func16, Tryz.ntmps16
        go_wp2_with fail
        refine (HDG.out _).mono ?_
        rintro e w0 ⟨rfl, rfl⟩
        go_wp2_with fail
        refine (HS.out _).mono ?_
        rintro e w1 ⟨rfl, rfl⟩
        go_wp2_with fail
        refine (HW1.out _).mono ?_
        rintro e w2 ⟨rfl, rfl⟩
        go_wp2_with fail
        exact bodyPost_ret (v := .tuple #[.agg #[.int .i64 3, .string (s.extract 0 n), .int .i64 0], .int .i64 (n : Int), .int .i64 0]) (by simp [results, Tryz.results16, go_sem]) rfl ⟨by rw [HE.out]; rfl, (Below.refl w.heap.size w).alloc (Nat.le_refl _) _⟩
      · go_enter Tryz.func16, Tryz.ntmps16
        go_wp2_with fail
        refine (HDG.out _).mono ?_
        rintro e w0 ⟨rfl, rfl⟩
        go_wp2_with fail
        refine (HS.out _).mono ?_
        rintro e w1 ⟨rfl, rfl⟩
        go_wp2_with fail
        refine (HW1.out _).mono ?_
        rintro e w2 ⟨rfl, rfl⟩
        go_wp2_with fail
        exact bodyPost_ret (v := .tuple #[.agg #[.int .i64 3, .string (s.extract 0 n), .int .i64 0], .int .i64 (n : Int), .int .i64 0]) (by simp [results, Tryz.results16, go_sem]) rfl ⟨by rw [HE.out]; rfl, (Below.refl w.heap.size w).alloc (Nat.le_refl _) _⟩
  · rw [if_neg (by omega)]
    have hge : s.size ≤ n := by omega
    clear hz
    by_cases h1 : 1 < n
    · have z : ((c : Int) == 48) = false := by rw [beq_eq_false_iff_ne]; have := hlz.out; omega
      go_enter Tryz.func16, Tryz.ntmps16
      go_wp2_with fail
      refine (HDG.out _).mono ?_
      rintro e w0 ⟨rfl, rfl⟩
      go_wp2_with fail
      refine (HS.out _).mono ?_
      rintro e w1 ⟨rfl, rfl⟩
      go_wp2_with fail
      exact bodyPost_ret (v := .tuple #[.agg #[.int .i64 3, .string (s.extract 0 n), .int .i64 0], .int .i64 (n : Int), .int .i64 0]) (by simp [results, Tryz.results16, go_sem]) rfl ⟨by rw [HE.out]; rfl, (Below.refl w.heap.size w).alloc (Nat.le_refl _) _⟩
    · go_enter Tryz.func16, Tryz.ntmps16
      go_wp2_with fail
      refine (HDG.out _).mono ?_
      rintro e w0 ⟨rfl, rfl⟩
      go_wp2_with fail
      refine (HS.out _).mono ?_
      rintro e w1 ⟨rfl, rfl⟩
      go_wp2_with fail
      exact bodyPost_ret (v := .tuple #[.agg #[.int .i64 3, .string (s.extract 0 n), .int .i64 0], .int .i64 (n : Int), .int .i64 0]) (by simp [results, Tryz.results16, go_sem]) rfl ⟨by rw [HE.out]; rfl, (Below.refl w.heap.size w).alloc (Nat.le_refl _) _⟩
end Go.Proofs.YtmgmmbikdmobpaaGreatDoor
