/- lexer: LexerReturns. -/
import Derived.Test.YtmgmmbikdmobpaaDoorLxLO
import Derived.Test.YtmgmmbikdmobpaaDoorLxWr
import Derived.Test.YtmgmmbikdmobpaaDoorLxB3
import Derived.Test.YtmgmmbikdmobpaaDoorLxSm
namespace Go.Proofs.YtmgmmbikdmobpaaDoor
open Go.RowKit

/-- A slice of n bytes K. -/
def KindsN (w : World) (v : Value) (n : Nat) (K : Nat → Nat) : Prop := ∃ base cap, v = .slice base n cap ∧ ∀ i, i < n → ∃ b o, base = some ⟨b, o, none⟩ ∧ w.cell? ⟨b, o + i, none⟩ = some (.int .u8 (K i : Int)) ∧ K i < 256
/-- Which gap stands in front of a token. -/
def gapK (n : Nat) (K : Nat → Nat) (i : Nat) : Nat := if i < n then K i % 5 else 0
theorem gapK_lt (n : Nat) (K : Nat → Nat) (i : Nat) : gapK n K i < 5 := by
  unfold gapK; split <;> omega
theorem gap_cell (W : World) (k : Nat) (hk : k < 5) : (W.alloc (.cells #[.string ⟨#[32]⟩, .string ⟨#[9]⟩, .string ⟨#[13, 10]⟩, .string ⟨#[32, 47, 47, 32, 34, 32, 47, 47, 32, 120, 10]⟩, .string ⟨#[32, 47, 47, 10, 10]⟩] 9)).cell? ⟨W.heap.size, k, none⟩ = some (.string ⟨(gapL k).toArray⟩) := by
  rw [cell_of_row _ _ _ _ _ _ (heap_alloc_new W _)]
  have h : k = 0 ∨ k = 1 ∨ k = 2 ∨ k = 3 ∨ k = 4 := by omega
  rcases h with rfl | rfl | rfl | rfl | rfl <;> rfl
theorem other_snoc (G : Nat → Nat) : ∀ (xs : List TkY) (i : Nat) (x : TkY), otherL G i (xs ++ [x]) = otherL G i xs ++ (gapL (G (i + xs.length)) ++ wT x)
  | [], i, x => by simp [otherL]
  | y :: xs, i, x => by
    show gapL (G i) ++ wT y ++ otherL G (i + 1) (xs ++ [x]) = gapL (G i) ++ wT y ++ otherL G (i + 1) xs ++ _
    rw [other_snoc G xs (i + 1) x, List.length_cons, show i + 1 + xs.length = i + (xs.length + 1) by omega]
    simp only [List.append_assoc]
theorem plain_snoc (xs : List TkY) (x : TkY) : plainL (xs ++ [x]) = plainL xs ++ (wT x ++ [32]) := by simp [plainL]
def Sep2 (v1 v2 : Value) : Prop := ∀ g, v1.ownBlock = some g → v2.ownBlock ≠ some g
theorem Sep2.symm {v1 v2 : Value} (h : Sep2 v1 v2) : Sep2 v2 v1 := fun g h2 h1 => h g h1 h2
/-- Behind a write to one builder the other one stands as it stood. -/
theorem bld_two {w w' : World} {n b1 b2 : Nat} {v1 v2 v1' : Value} {l1 l2 : List UInt8} (h1 : Bld w n b1 v1 l1) (h2 : Bld w n b2 v2 l2) (hb : b1 ≠ b2) (hs : Sep2 v1 v2) (hf : Foot w w' b1 v1.ownBlock)
    (hat : v1'.ownBlock = v1.ownBlock ∨ v1'.ownBlock = some w.heap.size) : Bld w' n b2 v2 l2 ∧ Sep2 v1' v2 := by
  refine ⟨h2.kept hf (Ne.symm hb) (h2.ne h1) ?_, fun g hg h => ?_⟩
  · cases hv : v2.ownBlock with
    | none => exact Or.inl rfl
    | some g => exact Or.inr ⟨fun e => hs g e.symm hv, fun e => h1.ne h2 (by rw [hv]; exact e.symm)⟩
  · rcases hat with ha | ha
    · exact hs g (by rw [← ha]; exact hg) h
    · rw [ha] at hg
      have := (h2.own.lt g h).2
      injection hg with hg
      omega
theorem Bld.foot {w w' : World} {n b : Nat} {v : Value} {l : List UInt8} (h : Bld w n b v l) (hf : Foot w w' b v.ownBlock) (hn : n ≤ w.heap.size) (hb : n ≤ b) : Below n w w' := hf.below hn hb (fun k hk => (h.own.lt k hk).1)
/-- A box that is no builder's abides a write. -/
theorem Bld.box {w w' : World} {n b : Nat} {v : Value} {l : List UInt8} (h : Bld w n b v l) (hf : Foot w w' b v.ownBlock) {q : Nat} {cs : Array Value} (hq : w.heap[q]? = some (.cells cs 35 (0, 0))) : w'.heap[q]? = some (.cells cs 35 (0, 0)) := by
  refine (hf.block q (Array.getElem?_eq_some_iff.1 hq).1 ?_ ?_).trans hq
  · rintro rfl
    obtain ⟨p, hp, _⟩ := h.blk
    rw [hp] at hq; cases hq
  · intro e
    rcases h.own.2 with ⟨rfl, _⟩ | ⟨g, cap, cur, rfl, _, hg, _⟩
    · cases e
    · have : q = g := by simpa [Value.ownBlock] using e
      subst this
      rw [hg] at hq; cases hq
theorem lex_of (Y : List UInt8) (N : Nat) (ys : List TkY) (h1 : lexL Y = (ys, 0, 0)) (hN : ys.length = N) (h0 : 0 < N) (w : World) :
    Calls Tryd.prog 23 #[.string ⟨Y.toArray⟩] w fun e w' => (∃ g cap, e = .returned (.tuple #[.slice (some ⟨g, 0, none⟩) N cap, .int .i64 0, .int .i64 0]) ∧ w.heap.size ≤ g ∧ TkS w' g ys) ∧ Below w.heap.size w w' := by
  have h := lex_any ⟨Y.toArray⟩ w
  rw [mk_list, h1] at h
  subst hN
  exact h.mono fun e w' ⟨⟨v, he, hr⟩, hb⟩ => ⟨by
    obtain ⟨g, cap, rfl, ht⟩ := TkS_own hr h0
    exact ⟨g, cap, he, (hr.lt g rfl).1, ht⟩, hb⟩
theorem TkS_foot {w w' : World} {g b : Nat} {row : Option Nat} {ys : List TkY} (h : TkS w g ys) (hf : Foot w w' b row) (hg : g ≠ b) (hr : some g ≠ row) : TkS w' g ys := fun k x hx => by
  obtain ⟨h1, h2, h3⟩ := h k x hx
  have hb := hf.block g (block_lt_any h1) hg hr
  exact ⟨(World.cell?_of_block hb).trans h1, (World.cell?_of_block hb).trans h2, (World.cell?_of_block hb).trans h3⟩
theorem same_of {w : World} {g1 g2 N : Nat} {xs ys : List TkY} (h1 : TkS w g1 ys) (h2 : TkS w g2 xs) (hm : ys.map (fun x => (x.k, x.t)) = xs.map (fun x => (x.k, x.t))) (hN : xs.length = N) : SameS w g1 g2 N false := fun k hk => by
  have hyl : ys.length = N := by have := congrArg List.length hm; simpa [hN] using this
  obtain ⟨x, hx⟩ : ∃ x, xs[k]? = some x := ⟨xs[k]'(by omega), List.getElem?_eq_getElem _⟩
  obtain ⟨y, hy⟩ : ∃ y, ys[k]? = some y := ⟨ys[k]'(by omega), List.getElem?_eq_getElem _⟩
  have hq := congrArg (fun l => l[k]?) hm
  simp only [List.getElem?_map, hx, hy, Option.map_some, Option.some.injEq, Prod.mk.injEq] at hq
  obtain ⟨a1, a2, a3⟩ := h1 k y hy
  obtain ⟨b1, b2, b3⟩ := h2 k x hx
  rw [hq.1] at a1
  rw [hq.2] at a2
  exact ⟨x.k, ⟨x.t.toArray⟩, y.o, x.o, a1, a2, a3, b1, b2, b3, fun h => by cases h⟩
theorem szL_take (xs : List TkY) (k : Nat) : szL (xs.take k) ≤ szL xs := by
  unfold szL
  induction xs generalizing k with
  | nil => simp
  | cons x xs ih =>
    cases k with
    | zero => simp
    | succ k => simp only [List.take_succ_cons, List.map_cons, List.sum_cons]; have := ih k; omega
theorem szL_mem (xs : List TkY) (x : TkY) (h : x ∈ xs) : (wT x).length ≤ szL xs := by
  unfold szL
  induction xs with
  | nil => cases h
  | cons y xs ih =>
    simp only [List.map_cons, List.sum_cons]
    rcases List.mem_cons.1 h with rfl | h
    · omega
    · have := ih h; omega

theorem flat_ge : ∀ (t : List UInt8), t.length ≤ (t.flatMap esc).length
  | [] => Nat.le_refl _
  | b :: t => by
    have ih := flat_ge t
    have hl : 0 < (esc b).length := by rcases esc_cases b with ⟨_, he⟩ | ⟨_, he⟩ | he | ⟨_, _, _, _, he⟩ <;> rw [he] <;> simp
    rw [List.flatMap_cons, List.length_append, List.length_cons]; omega
theorem wT_ge (x : TkY) : x.t.length ≤ (wT x).length := by
  unfold wT
  split
  · have := flat_ge x.t
    unfold quoL
    simp only [List.length_append, List.length_cons, List.length_nil]
    omega
  · exact Nat.le_refl _

set_option maxRecDepth 100000 in
set_option maxHeartbeats 2000000 in
theorem returns_law (s : ByteArray) (vk : Value) (n : Nat) (K : Nat → Nat) (w : World) (hE : Env w) (hk : KindsN w vk n K) (hn : n ≤ 9223372036854775807) :
    Calls Tryd.prog 6 #[.string s, vk] w fun e w' => e = .returned (.bool true) ∧ Below w.heap.size w w' := by
  obtain ⟨base, kc, rfl, hK⟩ := hk
  by_cases hbig : 1000 < s.size ∨ 1000 < n
  · clear hK
    by_cases h1 : 1000 < s.size
    · go_enter Tryd.func6, Tryd.ntmps6
      go_wp2_with fail
      refine (awake_any w hE).mono ?_
      rintro e w1 ⟨rfl, hb1⟩
      go_wp2_with fail
      go_ret
      exact ⟨rfl, hb1⟩
    · have h2 : 1000 < n := by omega
      clear hbig
      go_enter Tryd.func6, Tryd.ntmps6
      go_wp2_with fail
      refine (awake_any w hE).mono ?_
      rintro e w1 ⟨rfl, hb1⟩
      go_wp2_with fail
      go_ret
      exact ⟨rfl, hb1⟩
  · have hs9 : s.size ≤ 1000 := by omega
    have hn9 : n ≤ 1000 := by omega
    clear hbig
    rcases lex_two s (by omega) with ⟨hL, hg, hok, hcall⟩ | ⟨o, er, hL, he, ho, hcall⟩
    · have hlen := allT_length s.data.toList
      rw [size_list] at hlen
      have hgood : goodL (allT s.data.toList) := toks_good _ _ _ hg
      have hsz : szL (allT s.data.toList) ≤ 4000 := by
        have := toks_size s.data.toList s.data.toList.length (sep s.data.toList) hg (sep_le _)
        rw [size_list] at this
        have h2 : szL (toks s.data.toList s.data.toList.length (sep s.data.toList)) = szL (allT s.data.toList) := rfl
        rw [size_list] at h2
        omega
      clear hL hg hok
      generalize allT s.data.toList = xs at hgood hcall hlen hsz
      have HC := hid hcall
      have HG := hid (And.intro hgood (And.intro hsz hK))
      clear hcall hgood hsz hK
      obtain ⟨N, hN⟩ : ∃ N, xs.length = N := ⟨_, rfl⟩
      rw [hN] at HC hlen
      have HN := hid hN
      clear hN
      have hN9 : N ≤ 1001 := by omega
      clear hlen
      go_enter Tryd.func6, Tryd.ntmps6
      go_wp2_with fail
      refine (awake_any w hE).mono ?_
      rintro e w1 ⟨rfl, hb1⟩
      go_wp2_with fail
      refine (HC.out w1).mono ?_
      rintro e w2 ⟨⟨g, cap, rfl, hT⟩, hb⟩
      have hb2 := hb1.trans (hb.mono hb1.size)
      clear hb hb1
      have KT := hid (And.intro hT hb2)
      clear hT hb2
      have s1 : Bld ((w2.alloc (.cells #[.pointer none, .slice none 0 0] 39)).alloc (.cells #[.pointer none, .slice none 0 0] 39)) w2.heap.size w2.heap.size (.slice none 0 0) [] :=
        ⟨⟨_, (heap_alloc_old _ _ (by simp)).trans (heap_alloc_new w2 _), Or.inl rfl⟩, World.ownsRow_nil _ _ _ _⟩
      have s2 : Bld ((w2.alloc (.cells #[.pointer none, .slice none 0 0] 39)).alloc (.cells #[.pointer none, .slice none 0 0] 39)) w2.heap.size (w2.heap.size + 1) (.slice none 0 0) [] :=
        ⟨⟨_, by have := heap_alloc_new (w2.alloc (.cells #[.pointer none, .slice none 0 0] 39)) (.cells #[.pointer none, .slice none 0 0] 39); simpa only [World.size_alloc] using this, Or.inl rfl⟩, World.ownsRow_nil _ _ _ _⟩
      have s3 := ((Below.refl w2.heap.size w2).alloc (Nat.le_refl _) (.cells #[.pointer none, .slice none 0 0] 39)).alloc (alloc_le (Nat.le_refl _) _) (.cells #[.pointer none, .slice none 0 0] 39)
      have KS := hid (And.intro s1 (And.intro s2 s3))
      clear s1 s2 s3
      go_wp2_with fail
      go_loopw [42] (fun i wr => ∃ (k : Nat) (v1 v2 : Value), k ≤ N ∧ i = .int .i64 (k : Int) ∧ Bld wr w2.heap.size w2.heap.size v1 (plainL (xs.take k)) ∧ Bld wr w2.heap.size (w2.heap.size + 1) v2 (otherL (gapK n K) 0 (xs.take k)) ∧ Sep2 v1 v2 ∧ Below w2.heap.size w2 wr) (fun i _ => N - (intOf i).toNat)
      case atStart => exact ⟨0, _, _, by omega, rfl, KS.out.1, KS.out.2.1, (fun g h => by cases h), KS.out.2.2⟩
      case round =>
        obtain ⟨k, v1, v2, hkN, rfl, hb1, hb2, hsep, hbl⟩ := hrel
        by_cases hlt : k < N
        · obtain ⟨x, hx⟩ : ∃ x, xs[k]? = some x := ⟨xs[k]'(by have := HN.out; omega), List.getElem?_eq_getElem _⟩
          have htk : xs.take (k + 1) = xs.take k ++ [x] := by rw [List.take_add_one, hx]; rfl
          obtain ⟨c0, c1, c2⟩ := TkS_below KT.out.1 hbl k x hx
          have hwx := szL_mem xs x (List.mem_of_getElem? hx)
          have hxt : x.t.length ≤ 4000 := by
            have h1 := HG.out.2.1
            have h2 := wT_ge x
            omega
          have HW := hid (fun (o : Int) (W : World) => written_any x o W (by omega))
          have hl1 := plain_len (xs.take k)
          have hl2 := other_len (gapK n K) 0 (xs.take k)
          have hl3 := szL_take xs k
          rw [List.length_take] at hl1 hl2
          have hw4 : (wT x).length ≤ 4000 := by have := HG.out.2.1; omega
          have hp4 : (plainL (xs.take k)).length ≤ 10000 := by have := HG.out.2.1; omega
          have ho4 : (otherL (gapK n K) 0 (xs.take k)).length ≤ 20000 := by have := HG.out.2.1; omega
          obtain ⟨T, hTd⟩ : ∃ T, wT x = T := ⟨_, rfl⟩
          obtain ⟨P, hPd⟩ : ∃ P, plainL (xs.take k) = P := ⟨_, rfl⟩
          obtain ⟨O, hOd⟩ : ∃ O, otherL (gapK n K) 0 (xs.take k) = O := ⟨_, rfl⟩
          rw [hTd] at HW hw4
          rw [hPd] at hb1 hp4
          rw [hOd] at hb2 ho4
          have HD := hid (And.intro hTd (And.intro hPd hOd))
          have KB := hid (And.intro hb1 (And.intro hb2 (And.intro hsep (And.intro hbl (And.intro htk hx)))))
          clear hb1 hb2 hsep htk hx hwx hl1 hl2 hl3 hxt hTd hPd hOd
          by_cases hkn : k < n
          · obtain ⟨b, o, rfl, hc, hc256⟩ := HG.out.2.2 k hkn
            have hcr : wr.cell? ⟨b, o + k, none⟩ = some (.int .u8 (K k : Int)) := by
              have h1 := (KT.out.2.cell (p := ⟨b, o + k, none⟩) (block_lt_any hc)).trans hc
              exact (hbl.cell (p := ⟨b, o + k, none⟩) (block_lt_any h1)).trans h1
            clear hc hbl
            obtain ⟨G, hG⟩ : ∃ G, K k % 5 = G := ⟨_, rfl⟩
            have hG5 : G < 5 := by omega
            have hgk : gapK n K k = G := by unfold gapK; rw [if_pos hkn]; exact hG
            have hmod : ((K k : Nat) : Int) % 5 = (G : Int) := by omega
            generalize K k = c at hcr hc256 hmod
            have hgp := fun W : World => gap_cell W G hG5
            have hcr1 := (((Below.refl wr.heap.size wr).alloc (Nat.le_refl _) (.cells #[.int .i64 x.k, .string ⟨x.t.toArray⟩, .int .i64 (x.o : Int)] 35)).cell (p := ⟨b, o + k, none⟩) (block_lt_any hcr)).trans hcr
            have HGK := hid (And.intro hG hgk)
            clear hG hgk
            obtain ⟨GL, hGL⟩ : ∃ GL, gapL G = GL := ⟨_, rfl⟩
            have hGl : GL.length ≤ 11 := by rw [← hGL]; exact gap_len G
            have hgl : ∀ (h : G < 5), ([.string ⟨#[32]⟩, .string ⟨#[9]⟩, .string ⟨#[13, 10]⟩, .string ⟨#[32, 47, 47, 32, 34, 32, 47, 47, 32, 120, 10]⟩, .string ⟨#[32, 47, 47, 10, 10]⟩] : List Value)[G] = .string ⟨GL.toArray⟩ := by
              intro h
              rw [← hGL]
              have h5 : G = 0 ∨ G = 1 ∨ G = 2 ∨ G = 3 ∨ G = 4 := by omega
              rcases h5 with rfl | rfl | rfl | rfl | rfl <;> rfl
            have hbx := heap_alloc_new wr (.cells #[.int .i64 x.k, .string ⟨x.t.toArray⟩, .int .i64 (x.o : Int)] 35)
            have hW0 := (Below.refl wr.heap.size wr).alloc (Nat.le_refl _) (.cells #[.int .i64 x.k, .string ⟨x.t.toArray⟩, .int .i64 (x.o : Int)] 35)
            have KX := hid (And.intro hbx hW0)
            have HGL := hid hgl
            have HGE := hid hGL
            clear hbx hW0 hgl hGL
            go_wp2_with fail
            simp only [HGL.out]
            clear hcr1 c0 c1 c2 hgp hcr
            have hbx2 := (heap_alloc_old (wr.alloc (.cells #[.int .i64 x.k, .string ⟨x.t.toArray⟩, .int .i64 (x.o : Int)] 35)) (.cells #[.string ⟨#[32]⟩, .string ⟨#[9]⟩, .string ⟨#[13, 10]⟩, .string ⟨#[32, 47, 47, 32, 34, 32, 47, 47, 32, 120, 10]⟩, .string ⟨#[32, 47, 47, 10, 10]⟩] 9) (show wr.heap.size < _ by simp)).trans KX.out.1
            have hW2 := KX.out.2.alloc KX.out.2.size (.cells #[.string ⟨#[32]⟩, .string ⟨#[9]⟩, .string ⟨#[13, 10]⟩, .string ⟨#[32, 47, 47, 32, 34, 32, 47, 47, 32, 120, 10]⟩, .string ⟨#[32, 47, 47, 10, 10]⟩] 9)
            generalize (wr.alloc (.cells #[.int .i64 x.k, .string ⟨x.t.toArray⟩, .int .i64 (x.o : Int)] 35)).alloc (.cells #[.string ⟨#[32]⟩, .string ⟨#[9]⟩, .string ⟨#[13, 10]⟩, .string ⟨#[32, 47, 47, 32, 34, 32, 47, 47, 32, 120, 10]⟩, .string ⟨#[32, 47, 47, 10, 10]⟩] 9) = W at hbx2 hW2 ⊢
            refine (HW.out (x.o : Int) W).mono ?_
            rintro e w3 ⟨rfl, hb3⟩
            have hb3r := hW2.trans (hb3.mono hW2.size)
            have x3 := (hb3.block _ (Array.getElem?_eq_some_iff.1 hbx2).1).trans hbx2
            have A1 := KB.out.1.below hb3r
            have A2 := KB.out.2.1.below hb3r
            have hz3 : w2.heap.size ≤ w3.heap.size := Nat.le_trans KB.out.2.2.2.1.size hb3r.size
            have L3 := KB.out.2.2.2.1.trans (hb3r.mono KB.out.2.2.2.1.size)
            have hlim : ¬ 9223372036854775807 < T.length + 1 := by omega
            have hcat : (⟨T.toArray⟩ ++ ⟨#[32]⟩ : ByteArray) = ⟨(T ++ [32]).toArray⟩ := by apply ByteArray.ext; simp
            have hlen1 : P.length + (ByteArray.mk (T ++ [32]).toArray).size ≤ 1000000 := by
              rw [mk_size, List.length_append, List.length_cons, List.length_nil]; omega
            have hcw := bwrite_any w2.heap.size w2.heap.size v1 P ⟨(T ++ [32]).toArray⟩ w3 A1 hz3 hlen1
            rw [mk_list] at hcw
            have HCW := hid hcw
            clear hcw hlen1
            have K3 := hid (And.intro A1 (And.intro A2 (And.intro x3 (And.intro hz3 L3))))
            clear hb3 hb3r x3 A1 A2 hz3 L3 hbx2 hW2
            go_wp2_with fail
            refine HCW.out.mono ?_
            rintro e w4 ⟨rfl, v1', B1, hat1, hf1⟩
            obtain ⟨B2, S2⟩ := bld_two K3.out.1 K3.out.2.1 (by omega) KB.out.2.2.1 hf1 hat1
            have x4 := K3.out.1.box hf1 K3.out.2.2.1
            have L4 := K3.out.2.2.2.2.trans (K3.out.1.foot hf1 K3.out.2.2.2.1 (Nat.le_refl _))
            have e0 := cell_of_row w4 wr.heap.size 0 _ _ _ x4
            have e1 := cell_of_row w4 wr.heap.size 1 _ _ _ x4
            have e2 := cell_of_row w4 wr.heap.size 2 _ _ _ x4
            have K4 := hid (And.intro B1 (And.intro B2 (And.intro S2 L4)))
            clear B1 B2 S2 x4 L4 hat1 hf1
            go_wp2_with fail
            refine (HW.out (x.o : Int) w4).mono ?_
            rintro e w5 ⟨rfl, hb5⟩
            have A1 := K4.out.1.below hb5
            have A2 := K4.out.2.1.below hb5
            have hz4 : w2.heap.size ≤ w4.heap.size := K4.out.2.2.2.size
            have hz5 : w2.heap.size ≤ w5.heap.size := Nat.le_trans hz4 hb5.size
            have L5 := K4.out.2.2.2.trans (hb5.mono hz4)
            have hlim2 : ¬ 9223372036854775807 < GL.length + T.length := by omega
            have hcat2 : (⟨GL.toArray⟩ ++ ⟨T.toArray⟩ : ByteArray) = ⟨(GL ++ T).toArray⟩ := by apply ByteArray.ext; simp
            have hlen2 : O.length + (ByteArray.mk (GL ++ T).toArray).size ≤ 1000000 := by
              rw [mk_size, List.length_append]; omega
            have hcw2 := bwrite_any w2.heap.size (w2.heap.size + 1) v2 O ⟨(GL ++ T).toArray⟩ w5 A2 hz5 hlen2
            rw [mk_list] at hcw2
            have HCW2 := hid hcw2
            have K5 := hid (And.intro A1 (And.intro A2 (And.intro hz5 L5)))
            clear hcw2 hlen2 A1 A2 hz4 hz5 L5 hb5 e0 e1 e2 hlim hcat
            go_wp2_with fail
            refine HCW2.out.mono ?_
            rintro e w6 ⟨rfl, v2', B2, hat2, hf2⟩
            obtain ⟨B1, S1⟩ := bld_two K5.out.2.1 K5.out.1 (by omega) K4.out.2.2.1.symm hf2 hat2
            have L6 := K5.out.2.2.2.trans (K5.out.2.1.foot hf2 K5.out.2.2.1 (by omega))
            have K6 := hid (And.intro B1 (And.intro B2 (And.intro S1.symm L6)))
            clear B1 B2 S1 L6 hat2 hf2 hlim2 hcat2
            go_wp2_with fail
            go_roundw
            case rel =>
              refine ⟨k + 1, v1', v2', by omega, by go_num, ?_, ?_, K6.out.2.2.1, K6.out.2.2.2⟩
              · rw [KB.out.2.2.2.2.1, plain_snoc, HD.out.1, HD.out.2.1]; exact K6.out.1
              · rw [KB.out.2.2.2.2.1, other_snoc, HD.out.1, HD.out.2.2, List.length_take, HN.out, Nat.zero_add, Nat.min_eq_left (by omega), HGK.out.2, HGE.out]; exact K6.out.2.1
            case measure => simp [intOf]; omega
          · have hgk : gapK n K k = 0 := by unfold gapK; rw [if_neg hkn]
            have hgp := fun W : World => gap_cell W 0 (by omega)
            have HGK := hid hgk
            clear hgk hbl
            have hbx := heap_alloc_new wr (.cells #[.int .i64 x.k, .string ⟨x.t.toArray⟩, .int .i64 (x.o : Int)] 35)
            have hW0 := (Below.refl wr.heap.size wr).alloc (Nat.le_refl _) (.cells #[.int .i64 x.k, .string ⟨x.t.toArray⟩, .int .i64 (x.o : Int)] 35)
            have KX := hid (And.intro hbx hW0)
            clear hbx hW0
            go_wp2_with fail
            clear c0 c1 c2 hgp
            have hbx2 := (heap_alloc_old (wr.alloc (.cells #[.int .i64 x.k, .string ⟨x.t.toArray⟩, .int .i64 (x.o : Int)] 35)) (.cells #[.string ⟨#[32]⟩, .string ⟨#[9]⟩, .string ⟨#[13, 10]⟩, .string ⟨#[32, 47, 47, 32, 34, 32, 47, 47, 32, 120, 10]⟩, .string ⟨#[32, 47, 47, 10, 10]⟩] 9) (show wr.heap.size < _ by simp)).trans KX.out.1
            have hW2 := KX.out.2.alloc KX.out.2.size (.cells #[.string ⟨#[32]⟩, .string ⟨#[9]⟩, .string ⟨#[13, 10]⟩, .string ⟨#[32, 47, 47, 32, 34, 32, 47, 47, 32, 120, 10]⟩, .string ⟨#[32, 47, 47, 10, 10]⟩] 9)
            generalize (wr.alloc (.cells #[.int .i64 x.k, .string ⟨x.t.toArray⟩, .int .i64 (x.o : Int)] 35)).alloc (.cells #[.string ⟨#[32]⟩, .string ⟨#[9]⟩, .string ⟨#[13, 10]⟩, .string ⟨#[32, 47, 47, 32, 34, 32, 47, 47, 32, 120, 10]⟩, .string ⟨#[32, 47, 47, 10, 10]⟩] 9) = W at hbx2 hW2 ⊢
            refine (HW.out (x.o : Int) W).mono ?_
            rintro e w3 ⟨rfl, hb3⟩
            have hb3r := hW2.trans (hb3.mono hW2.size)
            have x3 := (hb3.block _ (Array.getElem?_eq_some_iff.1 hbx2).1).trans hbx2
            have A1 := KB.out.1.below hb3r
            have A2 := KB.out.2.1.below hb3r
            have hz3 : w2.heap.size ≤ w3.heap.size := Nat.le_trans KB.out.2.2.2.1.size hb3r.size
            have L3 := KB.out.2.2.2.1.trans (hb3r.mono KB.out.2.2.2.1.size)
            have hlim : ¬ 9223372036854775807 < T.length + 1 := by omega
            have hcat : (⟨T.toArray⟩ ++ ⟨#[32]⟩ : ByteArray) = ⟨(T ++ [32]).toArray⟩ := by apply ByteArray.ext; simp
            have hlen1 : P.length + (ByteArray.mk (T ++ [32]).toArray).size ≤ 1000000 := by
              rw [mk_size, List.length_append, List.length_cons, List.length_nil]; omega
            have hcw := bwrite_any w2.heap.size w2.heap.size v1 P ⟨(T ++ [32]).toArray⟩ w3 A1 hz3 hlen1
            rw [mk_list] at hcw
            have HCW := hid hcw
            clear hcw hlen1
            have K3 := hid (And.intro A1 (And.intro A2 (And.intro x3 (And.intro hz3 L3))))
            clear hb3 hb3r x3 A1 A2 hz3 L3 hbx2 hW2
            go_wp2_with fail
            refine HCW.out.mono ?_
            rintro e w4 ⟨rfl, v1', B1, hat1, hf1⟩
            obtain ⟨B2, S2⟩ := bld_two K3.out.1 K3.out.2.1 (by omega) KB.out.2.2.1 hf1 hat1
            have x4 := K3.out.1.box hf1 K3.out.2.2.1
            have L4 := K3.out.2.2.2.2.trans (K3.out.1.foot hf1 K3.out.2.2.2.1 (Nat.le_refl _))
            have e0 := cell_of_row w4 wr.heap.size 0 _ _ _ x4
            have e1 := cell_of_row w4 wr.heap.size 1 _ _ _ x4
            have e2 := cell_of_row w4 wr.heap.size 2 _ _ _ x4
            have K4 := hid (And.intro B1 (And.intro B2 (And.intro S2 L4)))
            clear B1 B2 S2 x4 L4 hat1 hf1
            go_wp2_with fail
            refine (HW.out (x.o : Int) w4).mono ?_
            rintro e w5 ⟨rfl, hb5⟩
            have A1 := K4.out.1.below hb5
            have A2 := K4.out.2.1.below hb5
            have hz4 : w2.heap.size ≤ w4.heap.size := K4.out.2.2.2.size
            have hz5 : w2.heap.size ≤ w5.heap.size := Nat.le_trans hz4 hb5.size
            have L5 := K4.out.2.2.2.trans (hb5.mono hz4)
            have hlim2 : ¬ 9223372036854775807 < 1 + T.length := by omega
            have hcat2 : (⟨#[32]⟩ ++ ⟨T.toArray⟩ : ByteArray) = ⟨(32 :: T).toArray⟩ := by apply ByteArray.ext; simp
            have hlen2 : O.length + (ByteArray.mk (32 :: T).toArray).size ≤ 1000000 := by
              rw [mk_size, List.length_cons]; omega
            have hcw2 := bwrite_any w2.heap.size (w2.heap.size + 1) v2 O ⟨(32 :: T).toArray⟩ w5 A2 hz5 hlen2
            rw [mk_list] at hcw2
            have HCW2 := hid hcw2
            have K5 := hid (And.intro A1 (And.intro A2 (And.intro hz5 L5)))
            clear hcw2 hlen2 A1 A2 hz4 hz5 L5 hb5 e0 e1 e2 hlim hcat
            go_wp2_with fail
            refine HCW2.out.mono ?_
            rintro e w6 ⟨rfl, v2', B2, hat2, hf2⟩
            obtain ⟨B1, S1⟩ := bld_two K5.out.2.1 K5.out.1 (by omega) K4.out.2.2.1.symm hf2 hat2
            have L6 := K5.out.2.2.2.trans (K5.out.2.1.foot hf2 K5.out.2.2.1 (by omega))
            have K6 := hid (And.intro B1 (And.intro B2 (And.intro S1.symm L6)))
            clear B1 B2 S1 L6 hat2 hf2 hlim2 hcat2
            go_wp2_with fail
            go_roundw
            case rel =>
              refine ⟨k + 1, v1', v2', by omega, by go_num, ?_, ?_, K6.out.2.2.1, K6.out.2.2.2⟩
              · rw [KB.out.2.2.2.2.1, plain_snoc, HD.out.1, HD.out.2.1]; exact K6.out.1
              · rw [KB.out.2.2.2.2.1, other_snoc, HD.out.1, HD.out.2.2, List.length_take, HN.out, Nat.zero_add, Nat.min_eq_left (by omega), HGK.out]; exact K6.out.2.1
            case measure => simp [intOf]; omega
        · obtain rfl : k = N := by omega
          have htk : xs.take k = xs := List.take_of_length_le (by have := HN.out; omega)
          rw [htk] at hb1 hb2
          have hg := HG.out.1
          have hsz := HG.out.2.1
          have hN' := HN.out
          have hpl := plain_len xs
          have hol := other_len (gapK n K) 0 xs
          obtain ⟨p1, p2⟩ := plain_lex xs hg (by omega)
          obtain ⟨o1, o2⟩ := other_lex (gapK n K) xs hg (by omega)
          have hpn : plainL xs ≠ [] := by
            cases xs with
            | nil => exact hg.elim
            | cons a r => unfold plainL; simp
          have hon : otherL (gapK n K) 0 xs ≠ [] := by
            cases xs with
            | nil => exact hg.elim
            | cons a r =>
              obtain ⟨b, q, hq, _⟩ := gap_bl (gapK n K 0)
              show gapL (gapK n K 0) ++ wT a ++ _ ≠ []
              rw [hq]; simp
          have hk0 : 0 < k := by
            cases xs with
            | nil => exact hg.elim
            | cons a r => rw [← hN']; simp
          have hS1 := bstring_any w2.heap.size w2.heap.size v1 (plainL xs) wr hb1 hpn
          have q1 : lexL (plainL xs) = ((lexL (plainL xs)).1, 0, 0) := by rw [← p1]
          have q2 : lexL (otherL (gapK n K) 0 xs) = ((lexL (otherL (gapK n K) 0 xs)).1, 0, 0) := by rw [← o1]
          have l1 : (lexL (plainL xs)).1.length = k := by have := congrArg List.length p2; simpa [hN'] using this
          have l2 : (lexL (otherL (gapK n K) 0 xs)).1.length = k := by have := congrArg List.length o2; simpa [hN'] using this
          have hX1 := lex_of _ k _ q1 l1 hk0
          have hX2 := lex_of _ k _ q2 l2 hk0
          generalize (lexL (plainL xs)).1 = ys1 at hX1 p2
          generalize (lexL (otherL (gapK n K) 0 xs)).1 = ys2 at hX2 o2
          have hS2 := fun (W : World) (h : Bld W w2.heap.size (w2.heap.size + 1) v2 (otherL (gapK n K) 0 xs)) => bstring_any w2.heap.size (w2.heap.size + 1) v2 _ W h hon
          generalize plainL xs = P at hb1 hS1 hX1
          generalize otherL (gapK n K) 0 xs = O at hb2 hS2 hX2
          have KF := hid (And.intro hb1 (And.intro hb2 (And.intro hsep (And.intro hbl (And.intro p2 (And.intro o2 hN'))))))
          have H1 := hid hS1
          have H2 := hid hS2
          have X1 := hid hX1
          have X2 := hid hX2
          clear hb1 hb2 hsep hbl p1 o1 hpl hol hpn hon hS1 hS2 q1 q2 l1 l2 hX1 hX2 hg hsz hN' htk p2 o2
          go_wp2_with fail
          refine H1.out.mono ?_
          rintro e w3 ⟨rfl, hf3⟩
          have B3 := (bld_two KF.out.1 KF.out.2.1 (by omega) KF.out.2.2.1 hf3 (Or.inl rfl)).1
          have L3 := KF.out.2.2.2.1.trans (KF.out.1.foot hf3 KF.out.2.2.2.1.size (Nat.le_refl _))
          have K3 := hid (And.intro B3 L3)
          clear B3 L3 hf3
          go_wp2_with fail
          refine (X1.out w3).mono ?_
          rintro e w4 ⟨⟨ga, ca, rfl, hga, ta⟩, hb⟩
          have B4 := K3.out.1.below hb
          have L4 := K3.out.2.trans (hb.mono K3.out.2.size)
          have hga1 : ga ≠ w2.heap.size + 1 := by have := K3.out.1.lt; omega
          have hga2 : some ga ≠ v2.ownBlock := by intro e; have := (K3.out.1.own.lt ga e.symm).2; omega
          have K4 := hid (And.intro B4 (And.intro L4 (And.intro ta (And.intro hga1 hga2))))
          clear B4 L4 ta hga hga1 hga2 hb
          go_wp2_with fail
          refine (H2.out w4 K4.out.1).mono ?_
          rintro e w5 ⟨rfl, hf5⟩
          have T5 := TkS_foot K4.out.2.2.1 hf5 K4.out.2.2.2.1 K4.out.2.2.2.2
          have L5 := K4.out.2.1.trans (K4.out.1.foot hf5 K4.out.2.1.size (by omega))
          have K5 := hid (And.intro T5 L5)
          clear T5 L5 hf5
          go_wp2_with fail
          refine (X2.out w5).mono ?_
          rintro e w6 ⟨⟨gb, cb, rfl, hgb, tb⟩, hb⟩
          have T6 := TkS_below K5.out.1 hb
          have L6 := K5.out.2.trans (hb.mono K5.out.2.size)
          have TL := TkS_below KT.out.1 L6
          have S1 := same_of T6 TL KF.out.2.2.2.2.1 KF.out.2.2.2.2.2.2
          have S2 := same_of tb TL KF.out.2.2.2.2.2.1 KF.out.2.2.2.2.2.2
          have R0 := hid (same_any ga ca g cap k false w6 S1 (by omega))
          have R2 := hid (fun m => (same_any gb cb g cap k false (w6.drewN m) S2 (by omega)))
          have K6 := hid L6
          clear T6 L6 TL S1 S2 hb hgb tb
          go_wp2_with fail
          refine R0.out.mono ?_
          rintro e w7 ⟨rfl, m, rfl⟩
          go_wp2_with fail
          refine (R2.out m).mono ?_
          rintro e w8 ⟨rfl, m2, rfl⟩
          go_wp2_with fail
          go_ret
          exact ⟨by simp, KT.out.2.trans ((below_drawn K6.out (m + m2)).mono KT.out.2.size)⟩
    · have he0 : (er == 0) = false := by rw [beq_eq_false_iff_ne]; omega
      have he1 : (er != 0) = true := by rw [bne_iff_ne]; omega
      have HC := hid hcall
      clear hcall hL he hK
      go_enter Tryd.func6, Tryd.ntmps6
      go_wp2_with fail
      refine (awake_any w hE).mono ?_
      rintro e w1 ⟨rfl, hb1⟩
      go_wp2_with fail
      refine (HC.out w1).mono ?_
      rintro e w2 ⟨⟨b, c, rfl⟩, hb⟩
      have hb2 := hb1.trans (hb.mono hb1.size)
      clear hb hb1
      go_wp2_with fail
      go_ret
      exact ⟨by simp, hb2⟩
end Go.Proofs.YtmgmmbikdmobpaaDoor
