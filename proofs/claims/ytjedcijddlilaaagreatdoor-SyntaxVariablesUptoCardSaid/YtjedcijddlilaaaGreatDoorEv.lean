/- Data of structs, slices, integers, booleans and strings: chains of cells in the memory. Whatever reads as a type of these is such a chain, no larger than what is read. | syntax: expressions, declarations and modules as data; what reads as one of them is one. | syntax: expressions, declarations and modules as they are handed on; equality and sizes (pure). -/
import Derived.Test.YtjedcijddlilaaaGreatDoorBase
import Derived.Deep.Fields
import Derived.Deep.Slices
import Derived.Deep.Strs
import Derived.OpenShut
import Derived.Test.YtjedcijddlilaaaGreatDoorRows
import Derived.Test.YtjedcijddlilaaaGreatDoorSyI
namespace Go.Proofs.YtjedcijddlilaaaGreatDoor
open Go.ChangeShapes Go.WideShapes Go.ChangeAt Go.RowKit

/-- Cells that lie one behind the other. -/
inductive Dt where
  | nil
  | int (z : Int) (nx : Dt)
  | bool (b : Bool) (nx : Dt)
  | str (s : ByteArray) (nx : Dt)
  | sl (n : Nat) (C nx : Dt)
def Dt.wd : Dt → Nat
  | .nil => 0
  | .int _ nx => nx.wd + 1
  | .bool _ nx => nx.wd + 1
  | .str _ nx => nx.wd + 1
  | .sl _ _ nx => nx.wd + 1
def Dt.bk : Dt → Nat
  | .nil => 0
  | .int _ nx => 1 + nx.bk
  | .bool _ nx => 1 + nx.bk
  | .str s nx => s.size + 1 + nx.bk
  | .sl _ C nx => C.bk + 1 + nx.bk
def Dt.app : Dt → Dt → Dt
  | .nil, E => E
  | .int z nx, E => .int z (nx.app E)
  | .bool z nx, E => .bool z (nx.app E)
  | .str z nx, E => .str z (nx.app E)
  | .sl n C nx, E => .sl n C (nx.app E)
theorem Dt.wd_app (D E : Dt) : (D.app E).wd = D.wd + E.wd := by
  induction D <;> simp only [Dt.app, Dt.wd, *] <;> omega
theorem Dt.bk_app (D E : Dt) : (D.app E).bk = D.bk + E.bk := by
  induction D <;> simp only [Dt.app, Dt.bk, *] <;> omega
/-- The cells lie in the memory from cell o of block b on. -/
def Dt.Lies (w : World) : Dt → Nat → Nat → Prop
  | .nil, _, _ => True
  | .int z nx, b, o => (w.cell? ⟨b, o, none⟩ = some (.int .i64 z) ∧ (Lit.int .i64 z).wf = true) ∧ nx.Lies w b (o + 1)
  | .bool x nx, b, o => w.cell? ⟨b, o, none⟩ = some (.bool x) ∧ nx.Lies w b (o + 1)
  | .str s nx, b, o => w.cell? ⟨b, o, none⟩ = some (.string s) ∧ nx.Lies w b (o + 1)
  | .sl n C nx, b, o => (∃ a c, w.cell? ⟨b, o, none⟩ = some (.slice a n c) ∧ (C = .nil ∨ ∃ b' o', a = some ⟨b', o', none⟩ ∧ C.Lies w b' o')) ∧ nx.Lies w b (o + 1)
/-- The values are these cells. -/
def Dt.Reads (w : World) : Dt → List Value → Prop
  | .nil, vs => vs = []
  | .int z nx, vs => ∃ r, vs = .int .i64 z :: r ∧ (Lit.int .i64 z).wf = true ∧ nx.Reads w r
  | .bool x nx, vs => ∃ r, vs = .bool x :: r ∧ nx.Reads w r
  | .str s nx, vs => ∃ r, vs = .string s :: r ∧ nx.Reads w r
  | .sl n C nx, vs => ∃ a c r, vs = .slice a n c :: r ∧ (C = .nil ∨ ∃ b' o', a = some ⟨b', o', none⟩ ∧ C.Lies w b' o') ∧ nx.Reads w r
theorem Dt.reads_len {w : World} : ∀ {D : Dt} {vs : List Value}, D.Reads w vs → vs.length = D.wd := by
  intro D
  induction D with
  | nil => intro vs h; cases h; rfl
  | int z nx ih => rintro vs ⟨r, rfl, _, h⟩; simp only [List.length_cons, Dt.wd, ih h]
  | bool z nx ih => rintro vs ⟨r, rfl, h⟩; simp only [List.length_cons, Dt.wd, ih h]
  | str z nx ih => rintro vs ⟨r, rfl, h⟩; simp only [List.length_cons, Dt.wd, ih h]
  | sl n C nx _ ih => rintro vs ⟨a, c, r, rfl, _, h⟩; simp only [List.length_cons, Dt.wd, ih h]
theorem Dt.lies_of_reads {w : World} : ∀ {D : Dt} {vs : List Value} {b o : Nat}, D.Reads w vs → (∀ j v, vs[j]? = some v → w.cell? ⟨b, o + j, none⟩ = some v) → D.Lies w b o := by
  intro D
  have key : ∀ {v : Value} {r : List Value} {b o : Nat}, (∀ j u, (v :: r)[j]? = some u → w.cell? ⟨b, o + j, none⟩ = some u) → w.cell? ⟨b, o, none⟩ = some v ∧ ∀ j u, r[j]? = some u → w.cell? ⟨b, o + 1 + j, none⟩ = some u := by
    intro v r b o h
    refine ⟨h 0 v rfl, fun j u hu => ?_⟩
    have h2 := h (j + 1) u (by simpa using hu)
    rwa [show o + (j + 1) = o + 1 + j by omega] at h2
  induction D with
  | nil => intro vs b o _ _; trivial
  | int z nx ih => rintro vs b o ⟨r, rfl, hz, h⟩ hc; exact ⟨⟨(key hc).1, hz⟩, ih h (key hc).2⟩
  | bool z nx ih => rintro vs b o ⟨r, rfl, h⟩ hc; exact ⟨(key hc).1, ih h (key hc).2⟩
  | str z nx ih => rintro vs b o ⟨r, rfl, h⟩ hc; exact ⟨(key hc).1, ih h (key hc).2⟩
  | sl n C nx _ ih => rintro vs b o ⟨a, c, r, rfl, h0, h⟩ hc; exact ⟨⟨a, c, (key hc).1, h0⟩, ih h (key hc).2⟩
theorem Dt.reads_app {w : World} {E : Dt} {us : List Value} (hE : E.Reads w us) : ∀ {D : Dt} {vs : List Value}, D.Reads w vs → (D.app E).Reads w (vs ++ us) := by
  intro D
  induction D with
  | nil => intro vs h; cases h; exact hE
  | int z nx ih => rintro vs ⟨r, rfl, hz, h⟩; exact ⟨_, rfl, hz, ih h⟩
  | bool z nx ih => rintro vs ⟨r, rfl, h⟩; exact ⟨_, rfl, ih h⟩
  | str z nx ih => rintro vs ⟨r, rfl, h⟩; exact ⟨_, rfl, ih h⟩
  | sl n C nx _ ih => rintro vs ⟨a, c, r, rfl, h0, h⟩; exact ⟨a, c, _, rfl, h0, ih h⟩
theorem Dt.lies_app {w : World} {E : Dt} : ∀ {D : Dt} {b o : Nat}, (D.app E).Lies w b o ↔ D.Lies w b o ∧ E.Lies w b (o + D.wd) := by
  intro D
  induction D with
  | nil => intro b o; exact ⟨fun h => ⟨trivial, h⟩, fun h => h.2⟩
  | int z nx ih => intro b o; simp only [Dt.app, Dt.Lies, Dt.wd, ih, and_assoc, Nat.add_assoc, Nat.add_comm 1]
  | bool z nx ih => intro b o; simp only [Dt.app, Dt.Lies, Dt.wd, ih, and_assoc, Nat.add_assoc, Nat.add_comm 1]
  | str z nx ih => intro b o; simp only [Dt.app, Dt.Lies, Dt.wd, ih, and_assoc, Nat.add_assoc, Nat.add_comm 1]
  | sl n C nx _ ih => intro b o; simp only [Dt.app, Dt.Lies, Dt.wd, ih, and_assoc, Nat.add_assoc, Nat.add_comm 1]
theorem dt_lt {w : World} {a : Addr} {v : Value} (h : w.cell? a = some v) : a.block < w.heap.size := World.block_lt_of_cell? w a h
theorem Dt.lies_below {w w' : World} (hb : Below w.heap.size w w') : ∀ {D : Dt} {b o : Nat}, D.Lies w b o → D.Lies w' b o := by
  intro D
  induction D with
  | nil => intro b o _; trivial
  | int z nx ih => rintro b o ⟨⟨h, hz⟩, h'⟩; exact ⟨⟨(hb.cell (dt_lt h)).trans h, hz⟩, ih h'⟩
  | bool z nx ih => rintro b o ⟨h, h'⟩; exact ⟨(hb.cell (dt_lt h)).trans h, ih h'⟩
  | str z nx ih => rintro b o ⟨h, h'⟩; exact ⟨(hb.cell (dt_lt h)).trans h, ih h'⟩
  | sl n C nx ihC ih =>
    rintro b o ⟨⟨a, c, h, h0⟩, h'⟩
    exact ⟨⟨a, c, (hb.cell (dt_lt h)).trans h, h0.imp id fun ⟨b', o', e, hC⟩ => ⟨b', o', e, ihC hC⟩⟩, ih h'⟩
/-- A slice whose elements' cells are C. -/
def SlD (w : World) (a : Option Addr) (C : Dt) : Prop := C = .nil ∨ ∃ b o, a = some ⟨b, o, none⟩ ∧ C.Lies w b o
theorem SlD.below {w w' : World} {a : Option Addr} {C : Dt} (h : SlD w a C) (hb : Below w.heap.size w w') : SlD w' a C :=
  h.imp id fun ⟨b', o', e, hC⟩ => ⟨b', o', e, Dt.lies_below hb hC⟩

/-- What a cell is. -/
inductive CT where
  | i | b | s | sl (e : TypeId)
deriving DecidableEq
def rep (n : Nat) (l : List CT) : List CT := (List.replicate n l).flatten
theorem rep_zero (l : List CT) : rep 0 l = [] := rfl
theorem rep_succ (n : Nat) (l : List CT) : rep (n + 1) l = l ++ rep n l := by simp [rep, List.replicate_succ]
/-- Cells of these kinds. -/
inductive Conf (flat : TypeId → List CT) : List CT → Dt → Prop
  | nil : Conf flat [] .nil
  | int {z r nx} : Conf flat r nx → Conf flat (.i :: r) (.int z nx)
  | bool {z r nx} : Conf flat r nx → Conf flat (.b :: r) (.bool z nx)
  | str {z r nx} : Conf flat r nx → Conf flat (.s :: r) (.str z nx)
  | sl {e n C r nx} : Conf flat (rep n (flat e)) C → Conf flat r nx → Conf flat (.sl e :: r) (.sl n C nx)
theorem Conf.app {flat : TypeId → List CT} {l l' : List CT} {D E : Dt} (h : Conf flat l D) (h' : Conf flat l' E) : Conf flat (l ++ l') (D.app E) := by
  induction h with
  | nil => exact h'
  | int _ ih => exact .int ih
  | bool _ ih => exact .bool ih
  | str _ ih => exact .str ih
  | sl h0 _ _ ih => exact .sl h0 ih
def offsOk (P : Program) : List Go.Field → Nat → Nat → Bool
  | [], o, tot => o == tot
  | f :: r, o, tot => f.offset == o && offsOk P r (o + P.cellsOf f.type) tot
/-- The types of S are of these kinds, and their parts are in S. -/
def okT (P : Program) (flat : TypeId → List CT) (S : List TypeId) (t : TypeId) : Bool :=
  match P.underlying t with
  | some (.int .i64) => flat t == [.i]
  | some .bool => flat t == [.b]
  | some .string => flat t == [.s]
  | some (.slice e) => S.contains e && flat t == [.sl e] && decide (0 < P.cellsOf e)
  | some (.struct fs) => offsOk P fs.toList 0 (P.cellsOf t) && fs.toList.all (fun f => S.contains f.type) && flat t == fs.toList.flatMap fun f => flat f.type
  | _ => false

section
variable {H : Type} {enc : TypeId × Value → H} {P : Program} {w : World} {base : Nat} {spare : Nat → Bool} {held : Bool}
/-- What reads as a type has cells. -/
def OpenD (enc : TypeId × Value → H) (P : Program) (w : World) (base : Nat) (spare : Nat → Bool) (held : Bool) (flat : TypeId → List CT) (n : Nat) (t : TypeId) : Prop :=
  ∀ (cs : List Value) (x : DataW H × List MemPlace), DataW.trod enc P w base spare held n t cs = some x → ∃ D : Dt, D.Reads w cs ∧ Conf flat (flat t) D ∧ D.bk ≤ Rows.uptoBulk x.1
theorem fields_dt {flat : TypeId → List CT} {k : Nat} : ∀ (fl : List Go.Field) (off : Nat) (cs : List Value) (ys : List (DataW H × List MemPlace)),
    (∀ f ∈ fl, OpenD enc P w base spare held flat k f.type) → offsOk P fl off (off + cs.length) = true → ys.length = fl.length →
    (∀ (i : Nat) (f : Go.Field), fl[i]? = some f → DataW.trod enc P w base spare held k f.type ((cs.drop (f.offset - off)).take (P.cellsOf f.type)) = ys[i]?) →
    ∃ D : Dt, D.Reads w cs ∧ Conf flat (fl.flatMap fun f : Go.Field => flat f.type) D ∧ D.bk ≤ Rows.uptoBulkAll (ys.map (·.1)) := by
  intro fl
  induction fl with
  | nil =>
    intro off cs ys _ ho _ _
    have h : off = off + cs.length := by simpa [offsOk] using ho
    have hcs : cs = [] := List.eq_nil_of_length_eq_zero (by omega)
    exact ⟨.nil, hcs, .nil, Nat.zero_le _⟩
  | cons f fl ih =>
    intro off cs ys hop ho hlen hf
    cases ys with
    | nil => cases hlen
    | cons y ys =>
      simp only [offsOk, Bool.and_eq_true, beq_iff_eq] at ho
      obtain ⟨h1, h2⟩ := ho
      have h0 := hf 0 f rfl
      rw [h1, Nat.sub_self, List.drop_zero, List.getElem?_cons_zero] at h0
      obtain ⟨D, hD, hcD, hbD⟩ := hop f (List.mem_cons_self ..) _ _ h0
      have hle : P.cellsOf f.type ≤ cs.length := by
        have : ∀ (fl : List Go.Field) (o tot : Nat), offsOk P fl o tot = true → o ≤ tot := by
          intro fl
          induction fl with
          | nil => intro o tot h; simp only [offsOk, beq_iff_eq] at h; omega
          | cons g fl ih => intro o tot h; simp only [offsOk, Bool.and_eq_true] at h; have := ih _ _ h.2; omega
        have := this _ _ _ h2
        omega
      obtain ⟨E, hE, hcE, hbE⟩ := ih (off + P.cellsOf f.type) (cs.drop (P.cellsOf f.type)) ys (fun g hg => hop g (List.mem_cons_of_mem _ hg))
        (by rw [List.length_drop]; rwa [show off + P.cellsOf f.type + (cs.length - P.cellsOf f.type) = off + cs.length by omega]) (by simpa using hlen)
        (fun i g hg => by
          have h3 := hf (i + 1) g (by simpa using hg)
          rw [List.getElem?_cons_succ] at h3
          rw [← h3, List.drop_drop]
          have h4 : off + P.cellsOf f.type ≤ g.offset := by
            have : ∀ (fl : List Go.Field) (o tot : Nat), offsOk P fl o tot = true → ∀ g ∈ fl, o ≤ g.offset := by
              intro fl
              induction fl with
              | nil => intro o tot _ g hg; cases hg
              | cons a fl ih =>
                intro o tot h g hg
                simp only [offsOk, Bool.and_eq_true, beq_iff_eq] at h
                rcases List.mem_cons.1 hg with rfl | hg
                · omega
                · have := ih _ _ h.2 g hg; omega
            exact this _ _ _ h2 g (List.mem_of_getElem? hg)
          congr 3
          omega)
      refine ⟨D.app E, ?_, ?_, ?_⟩
      · have := Dt.reads_app hE hD
        rwa [List.take_append_drop] at this
      · rw [List.flatMap_cons]; exact hcD.app hcE
      · rw [Dt.bk_app, List.map_cons]
        show _ ≤ Rows.uptoBulk y.1 + Rows.uptoBulkAll (ys.map (·.1))
        omega
def rsumD (f : Nat → Nat) (len : Nat) : Nat → Nat
  | 0 => 0
  | j + 1 => rsumD f len j + f (len - (j + 1))
def bulkAtD {H : Type} (l : List (DataW H)) (i : Nat) : Nat := match l[i]? with
  | some d => Rows.uptoBulk d
  | none => 0
theorem bulkAtD_get {H : Type} (elems : List (DataW H × List MemPlace)) (i : Nat) (h : i < elems.length) : bulkAtD (elems.map (·.1)) i = Rows.uptoBulk elems[i].1 := by
  unfold bulkAtD
  rw [List.getElem?_map, List.getElem?_eq_getElem h]
  rfl
theorem rsumD_drop {H : Type} (l : List (DataW H)) (len : Nat) (hl : l.length = len) : ∀ j, j ≤ len → rsumD (bulkAtD l) len j = Rows.uptoBulkAll (l.drop (len - j)) := by
  intro j
  induction j with
  | zero => intro _; rw [Nat.sub_zero, List.drop_eq_nil_of_le (by omega)]; rfl
  | succ j ih =>
    intro hj
    have h1 : len - (j + 1) < l.length := by omega
    have e : len - (j + 1) + 1 = len - j := by omega
    rw [List.drop_eq_getElem_cons h1, e]
    show rsumD (bulkAtD l) len j + bulkAtD l (len - (j + 1)) = Rows.uptoBulk _ + Rows.uptoBulkAll _
    rw [ih (by omega)]
    have : bulkAtD l (len - (j + 1)) = Rows.uptoBulk l[len - (j + 1)] := by unfold bulkAtD; rw [List.getElem?_eq_getElem h1]
    omega
theorem rsumD_all {H : Type} (l : List (DataW H)) (len : Nat) (hl : l.length = len) : rsumD (bulkAtD l) len len = Rows.uptoBulkAll l := by
  rw [rsumD_drop l len hl len (Nat.le_refl _), Nat.sub_self]; rfl
/-- A row out of its elements. -/
theorem row_dt {flat : TypeId → List CT} {f : Nat → Nat} {a : Addr} {len sz : Nat} {l : List CT} (hsz : 0 < sz) (h : ∀ i, i < len → ∃ cs D, w.cells? base (a.add (i * sz)) sz = some cs ∧ D.Reads w cs ∧ Conf flat l D ∧ D.bk ≤ f i) :
    ∀ j, j ≤ len → ∃ C : Dt, Conf flat (rep j l) C ∧ C.bk ≤ rsumD f len j ∧ (C = .nil ∨ (a.spot = none ∧ C.Lies w a.block (a.off + (len - j) * sz))) := by
  intro j
  induction j with
  | zero => intro _; exact ⟨.nil, .nil, Nat.le_refl _, .inl rfl⟩
  | succ j ih =>
    intro hj
    obtain ⟨C, hC, hbk, hL⟩ := ih (by omega)
    obtain ⟨cs, D, hc, hD, hDc, hDb⟩ := h (len - (j + 1)) (by omega)
    obtain ⟨hb, hlen, hcell⟩ := World.cells?_some hc
    obtain ⟨b, o, sp⟩ := a
    obtain ⟨cs0, D0, hc0, _⟩ := h 0 (by omega)
    obtain ⟨_, hl0, hcell0⟩ := World.cells?_some hc0
    have hsp : sp = none := by
      have h9 := hcell0 0 (by omega)
      rw [List.getElem?_eq_getElem (by omega)] at h9
      simpa [Addr.add] using World.cell?_spot h9
    subst hsp
    have hw : D.wd = sz := by rw [← Dt.reads_len hD]; exact hlen
    refine ⟨D.app C, by rw [rep_succ]; exact hDc.app hC, ?_, .inr ⟨rfl, ?_⟩⟩
    · rw [Dt.bk_app]
      show _ ≤ rsumD f len j + f (len - (j + 1))
      omega
    · show (D.app C).Lies w b (o + (len - (j + 1)) * sz)
      refine Dt.lies_app.2 ⟨Dt.lies_of_reads hD fun i v hv => ?_, ?_⟩
      · have hi : i < sz := by
          rw [← hlen]
          exact (List.getElem?_eq_some_iff.1 hv).1
        have h2 := hcell i hi
        rw [hv] at h2
        simpa only [Addr.add_lit] using h2
      · rw [hw]
        rcases hL with rfl | ⟨_, hL⟩
        · trivial
        · have e : o + (len - (j + 1)) * sz + sz = o + (len - j) * sz := by
            have : len - j = len - (j + 1) + 1 := by omega
            rw [this, Nat.add_mul, Nat.one_mul]; omega
          rw [e]; exact hL
theorem open_dt {flat : TypeId → List CT} {S : List TypeId} (ok : S.all (okT P flat S) = true) : ∀ (n : Nat) (t : TypeId), S.contains t = true → OpenD enc P w base spare held flat n t := by
  intro n
  induction n using Nat.strongRecOn with
  | _ n ih =>
    intro t ht cs x h
    have hS : ∀ u, S.contains u = true → okT P flat S u = true := fun u hu => List.all_eq_true.1 ok u (by simpa using hu)
    have hk := hS t ht
    unfold okT at hk
    split at hk
    next e =>
      obtain ⟨z, rfl, hx, hz⟩ := DataW.trod_int e h
      rw [beq_iff_eq] at hk
      rw [hk, hx]
      exact ⟨.int z .nil, ⟨_, rfl, hz, rfl⟩, .int .nil, Nat.le_refl _⟩
    next e =>
      obtain ⟨z, rfl, hx⟩ := DataW.trod_bool e h
      rw [beq_iff_eq] at hk
      rw [hk, hx]
      exact ⟨.bool z .nil, ⟨_, rfl, rfl⟩, .bool .nil, Nat.le_refl _⟩
    next e =>
      obtain ⟨z, rfl, hx, _⟩ := DataW.trod_string e h
      rw [beq_iff_eq] at hk
      rw [hk, hx]
      refine ⟨.str z .nil, ⟨_, rfl, rfl⟩, .str .nil, ?_⟩
      show z.size + 1 + 0 ≤ z.data.toList.length + 1
      rw [Array.length_toList]
      exact Nat.le_refl _
    next u e =>
      simp only [Bool.and_eq_true, beq_iff_eq, decide_eq_true_eq] at hk
      obtain ⟨⟨h1, h2⟩, h3⟩ := hk
      rw [h2]
      rcases DataW.trod_slice e h with ⟨rfl, hx⟩ | ⟨a, len, cap, elems, rest, m, hn, rfl, hx, _, _, _, hlen, hel, _⟩
      · exact ⟨.sl 0 .nil .nil, ⟨none, 0, [], rfl, .inl rfl, rfl⟩, .sl .nil .nil, by rw [hx]; exact Nat.le_refl _⟩
      · obtain ⟨C, hC, hbk, hL⟩ := row_dt (w := w) (base := base) (flat := flat) (a := a) (len := len) (l := flat u) (f := bulkAtD (elems.map (·.1))) h3 (fun i hi => by
          have h1' := hel i hi
          rw [List.getElem?_eq_getElem (by omega)] at h1'
          obtain ⟨cs, h2', h3'⟩ := Option.bind_eq_some_iff.1 h1'
          obtain ⟨D, hD, hDc, hDb⟩ := ih m (by omega) u h1 cs _ h3'
          exact ⟨cs, D, h2', hD, hDc, by rwa [bulkAtD_get elems i (by omega)]⟩) len (Nat.le_refl _)
        refine ⟨.sl len C .nil, ⟨some a, cap, [], rfl, ?_, rfl⟩, .sl hC .nil, ?_⟩
        · rcases hL with h | ⟨hs, hL⟩
          · exact .inl h
          · obtain ⟨b, o, sp⟩ := a
            have hs2 : sp = none := hs
            subst hs2
            refine .inr ⟨b, o, rfl, ?_⟩
            have e : o + (len - len) * P.cellsOf u = o := by rw [Nat.sub_self]; omega
            have hL2 : C.Lies w b (o + (len - len) * P.cellsOf u) := hL
            rw [e] at hL2; exact hL2
        · rw [hx]
          show C.bk + 1 + 0 ≤ Rows.uptoBulkAll (elems.map (·.1)) + Rows.uptoBulkAll (rest.map (·.1)) + 1
          have h5 := rsumD_all (elems.map (·.1)) len (by rw [List.length_map]; exact hlen)
          omega
    next fs e =>
      simp only [Bool.and_eq_true, beq_iff_eq] at hk
      obtain ⟨⟨h1, h2⟩, h3⟩ := hk
      obtain ⟨xs, k, hn, hx, hlen, hxl, hf⟩ := DataW.trod_struct e h
      obtain ⟨D, hD, hcD, hbD⟩ := fields_dt (enc := enc) (P := P) (w := w) (base := base) (spare := spare) (held := held) (flat := flat) (k := k) fs.toList 0 cs xs
        (fun f hf => ih k (by omega) f.type (List.all_eq_true.1 h2 f hf)) (by rw [Nat.zero_add, hlen]; exact h1) (by simpa using hxl)
        (fun i f hi => by rw [Nat.sub_zero]; exact hf i f (by simpa using hi))
      refine ⟨D, hD, by rw [h3]; exact hcD, ?_⟩
      rw [hx]
      show _ ≤ Rows.uptoBulkAll (xs.map (·.1)) + 1
      omega
    next => cases hk
end
end Go.Proofs.YtjedcijddlilaaaGreatDoor

namespace Go.Proofs.YtjedcijddlilaaaGreatDoor
open Go.ChangeShapes Go.WideShapes Go.ChangeAt Go.RowKit

def Tr.enc : Tr → Bool → Dt
  | .nil, _ => .nil
  | .node fn op k m n A F nx, true => .str fn (.int k (.str m (.str n (.sl A.len (A.enc false) (.sl F.len (F.enc true) (.bool op (nx.enc true)))))))
  | .node _ _ k m n A F nx, false => .int k (.str m (.str n (.sl A.len (A.enc false) (.sl F.len (F.enc true) (nx.enc false)))))
theorem Tr.enc_nil {T : Tr} {fl : Bool} : T.enc fl = .nil ↔ T = .nil := by
  cases T <;> cases fl <;> simp [Tr.enc]
theorem Tr.lies_enc {w : World} : ∀ (T : Tr) (fl : Bool) (b o : Nat), (T.enc fl).Lies w b o ↔ Lies w T fl b o := by
  intro T
  induction T with
  | nil => intro fl b o; exact Iff.rfl
  | node fn op k m n A F nx ha hf hn =>
    intro fl b o
    cases fl with
    | true =>
      have e : o + (5 + 2 * true.toNat) = o + 7 := rfl
      constructor
      · rintro ⟨h0, ⟨h1, h1w⟩, h2, h3, ⟨a, c, h4, h5⟩, ⟨a', c', h6, h7⟩, h8, h9⟩
        refine ⟨fun _ => ⟨h0, h8⟩, ⟨h1, h1w⟩, h2, h3, ⟨a, c, h4, ?_⟩, ⟨a', c', h6, ?_⟩, ?_⟩
        · exact h5.imp (fun h => Tr.enc_nil.1 h) (fun ⟨b', o', h, h'⟩ => ⟨b', o', h, (ha _ _ _).1 h'⟩)
        · exact h7.imp (fun h => Tr.enc_nil.1 h) (fun ⟨b', o', h, h'⟩ => ⟨b', o', h, (hf _ _ _).1 h'⟩)
        · rw [e]; exact (hn _ _ _).1 h9
      · rintro ⟨h0, ⟨h1, h1w⟩, h2, h3, ⟨a, c, h4, h5⟩, ⟨a', c', h6, h7⟩, h9⟩
        rw [e] at h9
        refine ⟨(h0 rfl).1, ⟨h1, h1w⟩, h2, h3, ⟨a, c, h4, ?_⟩, ⟨a', c', h6, ?_⟩, (h0 rfl).2, (hn _ _ _).2 h9⟩
        · exact h5.imp (fun h => Tr.enc_nil.2 h) (fun ⟨b', o', h, h'⟩ => ⟨b', o', h, (ha _ _ _).2 h'⟩)
        · exact h7.imp (fun h => Tr.enc_nil.2 h) (fun ⟨b', o', h, h'⟩ => ⟨b', o', h, (hf _ _ _).2 h'⟩)
    | false =>
      have e : o + (5 + 2 * false.toNat) = o + 5 := rfl
      constructor
      · rintro ⟨⟨h1, h1w⟩, h2, h3, ⟨a, c, h4, h5⟩, ⟨a', c', h6, h7⟩, h9⟩
        refine ⟨fun h => (by cases h), ⟨h1, h1w⟩, h2, h3, ⟨a, c, h4, ?_⟩, ⟨a', c', h6, ?_⟩, ?_⟩
        · exact h5.imp (fun h => Tr.enc_nil.1 h) (fun ⟨b', o', h, h'⟩ => ⟨b', o', h, (ha _ _ _).1 h'⟩)
        · exact h7.imp (fun h => Tr.enc_nil.1 h) (fun ⟨b', o', h, h'⟩ => ⟨b', o', h, (hf _ _ _).1 h'⟩)
        · rw [e]; exact (hn _ _ _).1 h9
      · rintro ⟨h0, ⟨h1, h1w⟩, h2, h3, ⟨a, c, h4, h5⟩, ⟨a', c', h6, h7⟩, h9⟩
        rw [e] at h9
        refine ⟨⟨h1, h1w⟩, h2, h3, ⟨a, c, h4, ?_⟩, ⟨a', c', h6, ?_⟩, (hn _ _ _).2 h9⟩
        · exact h5.imp (fun h => Tr.enc_nil.2 h) (fun ⟨b', o', h, h'⟩ => ⟨b', o', h, (ha _ _ _).2 h'⟩)
        · exact h7.imp (fun h => Tr.enc_nil.2 h) (fun ⟨b', o', h, h'⟩ => ⟨b', o', h, (hf _ _ _).2 h'⟩)
theorem slD_tr {w : World} {a : Option Addr} {T : Tr} {fl : Bool} : SlD w a (T.enc fl) ↔ (T = .nil ∨ ∃ b o, a = some ⟨b, o, none⟩ ∧ Lies w T fl b o) := by
  constructor
  · exact fun h => h.imp (fun h => Tr.enc_nil.1 h) (fun ⟨b', o', h, h'⟩ => ⟨b', o', h, (Tr.lies_enc _ _ _ _).1 h'⟩)
  · exact fun h => h.imp (fun h => Tr.enc_nil.2 h) (fun ⟨b', o', h, h'⟩ => ⟨b', o', h, (Tr.lies_enc _ _ _ _).2 h'⟩)

/-- A type's cells in front of others. -/
def Ty.on (t : Ty) (nx : Dt) : Dt := .int t.k (.str t.m (.str t.n (.sl t.A.len (t.A.enc false) (.sl t.F.len (t.F.enc true) nx))))
/-- A label. -/
structure Lb where
  nm : ByteArray
  vr : ByteArray
  t : Ty
  op : Bool
def encLb : List Lb → Dt
  | [] => .nil
  | x :: r => .str x.nm (.str x.vr (x.t.on (.bool x.op (encLb r))))
/-- A row of expressions: the first one, and the next ones. -/
inductive Ex where
  | nil
  | node (k : Int) (m n tx : ByteArray) (num : Int) (T : Tr) (L : List Lb) (K nx : Ex)
def Ex.len : Ex → Nat
  | .nil => 0
  | .node _ _ _ _ _ _ _ _ r => r.len + 1
def Ex.enc : Ex → Dt
  | .nil => .nil
  | .node k m n tx num T L K nx => .int k (.str m (.str n (.str tx (.int num (.sl T.len (T.enc false) (.sl L.length (encLb L) (.sl K.len K.enc nx.enc)))))))
/-- An expression. -/
structure Xp where
  k : Int
  m : ByteArray
  n : ByteArray
  tx : ByteArray
  num : Int
  T : Tr
  L : List Lb
  K : Ex
def Xp.on (e : Xp) (nx : Dt) : Dt := .int e.k (.str e.m (.str e.n (.str e.tx (.int e.num (.sl e.T.len (e.T.enc false) (.sl e.L.length (encLb e.L) (.sl e.K.len e.K.enc nx)))))))
/-- A parameter. -/
structure Pm where
  nm : ByteArray
  vr : Int
  t : Ty
def encPm : List Pm → Dt
  | [] => .nil
  | x :: r => .str x.nm (.int x.vr (x.t.on (encPm r)))
/-- An import. -/
structure Im where
  p : ByteArray
  a : ByteArray
def encIm : List Im → Dt
  | [] => .nil
  | x :: r => .str x.p (.str x.a (encIm r))
/-- A declaration. -/
structure Dc where
  k : Int
  nm : ByteArray
  ex : Bool
  dp : Bool
  note : ByteArray
  P : List Pm
  lo : Ty
  up : Ty
  t : Ty
  e : Xp
  m : ByteArray
  tg : ByteArray
def encDc : List Dc → Dt
  | [] => .nil
  | x :: r => .int x.k (.str x.nm (.bool x.ex (.bool x.dp (.str x.note (.sl x.P.length (encPm x.P) (x.lo.on (x.up.on (x.t.on (x.e.on (.str x.m (.str x.tg (encDc r)))))))))))) 
/-- A module. -/
structure Md where
  p : ByteArray
  I : List Im
  D : List Dc
def Md.on (x : Md) (nx : Dt) : Dt := .str x.p (.sl x.I.length (encIm x.I) (.sl x.D.length (encDc x.D) nx))

/-- Rows that are no rows of fields bear no names. -/
def Tr.Can : Tr → Bool → Prop
  | .nil, _ => True
  | .node fn op _ _ _ A F nx, fl => (fl = false → fn = ⟨#[]⟩ ∧ op = false) ∧ A.Can false ∧ F.Can true ∧ nx.Can fl
def Ty.Can (t : Ty) : Prop := t.A.Can false ∧ t.F.Can true
def Ex.Can : Ex → Prop
  | .nil => True
  | .node _ _ _ _ _ T L K nx => T.Can false ∧ (∀ x ∈ L, x.t.Can) ∧ K.Can ∧ nx.Can
def Xp.Can (e : Xp) : Prop := e.T.Can false ∧ (∀ x ∈ e.L, x.t.Can) ∧ e.K.Can
def Dc.Can (d : Dc) : Prop := (∀ x ∈ d.P, x.t.Can) ∧ d.lo.Can ∧ d.up.Can ∧ d.t.Can ∧ d.e.Can
def Md.Can (m : Md) : Prop := ∀ d ∈ m.D, d.Can
theorem can_cons {α : Type} {p : α → Prop} {a : α} {l : List α} (h : p a) (h' : ∀ x ∈ l, p x) : ∀ x ∈ a :: l, p x := by
  intro x hx
  rcases List.mem_cons.1 hx with rfl | hx
  · exact h
  · exact h' x hx
theorem can_nil {α : Type} {p : α → Prop} : ∀ x ∈ ([] : List α), p x := fun _ h => by cases h

def tabS : List (TypeId × List CT) := [
  (3, [.i]), (9, [.s]), (4, [.b]),
  (22, [.sl 25]), (23, [.sl 86]), (26, [.sl 115]), (27, [.sl 29]),
  (66, [.sl 70]), (30, [.sl 117]), (31, [.sl 68]),
  (25, [.i, .s, .s, .sl 25, .sl 86]),
  (86, [.s, .i, .s, .s, .sl 25, .sl 86, .b]),
  (115, [.s, .s, .i, .s, .s, .sl 25, .sl 86, .b]),
  (29, [.i, .s, .s, .s, .i, .sl 25, .sl 115, .sl 29]),
  (70, [.s, .i, .i, .s, .s, .sl 25, .sl 86]),
  (117, [.s, .s]),
  (68, [.i, .s, .b, .b, .s, .sl 70, .i, .s, .s, .sl 25, .sl 86, .i, .s, .s, .sl 25, .sl 86, .i, .s, .s, .sl 25, .sl 86, .i, .s, .s, .s, .i, .sl 25, .sl 115, .sl 29, .s, .s]),
  (33, [.s, .sl 117, .sl 68])]
def flatS (t : TypeId) : List CT := ((tabS.find? fun p => p.1 == t).map (·.2)).getD []
theorem okS : (tabS.map (·.1)).all (okT Tryz.prog flatS (tabS.map (·.1))) = true := by kernel_rfl

theorem flTy : flatS 25 = [.i, .s, .s, .sl 25, .sl 86] := by kernel_rfl
theorem flFd : flatS 86 = [.s, .i, .s, .s, .sl 25, .sl 86, .b] := by kernel_rfl
theorem flLb : flatS 115 = [.s, .s, .i, .s, .s, .sl 25, .sl 86, .b] := by kernel_rfl
theorem flEx : flatS 29 = [.i, .s, .s, .s, .i, .sl 25, .sl 115, .sl 29] := by kernel_rfl
theorem flPm : flatS 70 = [.s, .i, .i, .s, .s, .sl 25, .sl 86] := by kernel_rfl
theorem flIm : flatS 117 = [.s, .s] := by kernel_rfl
theorem flDc : flatS 68 = [.i, .s, .b, .b, .s, .sl 70, .i, .s, .s, .sl 25, .sl 86, .i, .s, .s, .sl 25, .sl 86, .i, .s, .s, .sl 25, .sl 86, .i, .s, .s, .s, .i, .sl 25, .sl 115, .sl 29, .s, .s] := by kernel_rfl
theorem flMd : flatS 33 = [.s, .sl 117, .sl 68] := by kernel_rfl

theorem conf_nil {flat : TypeId → List CT} {l : List CT} {D : Dt} (hl : l = []) (h : Conf flat l D) : D = .nil := by
  subst hl; cases h; rfl
/-- Rows of types and of fields. -/
theorem conf_tr : ∀ (N : Nat) (D : Dt), D.bk ≤ N → ∀ n, (Conf flatS (rep n (flatS 25)) D → ∃ T : Tr, T.len = n ∧ T.enc false = D ∧ T.Can false) ∧ (Conf flatS (rep n (flatS 86)) D → ∃ T : Tr, T.len = n ∧ T.enc true = D ∧ T.Can true) := by
  intro N
  induction N with
  | zero =>
    intro D hD n
    have hn : D = .nil := by cases D <;> first | rfl | (simp only [Dt.bk] at hD; omega)
    subst hn
    cases n with
    | zero => exact ⟨fun _ => ⟨.nil, rfl, rfl, trivial⟩, fun _ => ⟨.nil, rfl, rfl, trivial⟩⟩
    | succ n =>
      rw [rep_succ, rep_succ, flTy, flFd]
      exact ⟨fun h => (by cases h), fun h => (by cases h)⟩
  | succ N ih =>
    intro D hD n
    cases n with
    | zero => exact ⟨fun h => ⟨.nil, rfl, (conf_nil rfl h).symm, trivial⟩, fun h => ⟨.nil, rfl, (conf_nil rfl h).symm, trivial⟩⟩
    | succ n =>
      rw [rep_succ, rep_succ]
      constructor
      · rw [flTy]
        intro h
        cases h with | int h =>
        cases h with | str h =>
        cases h with | str h =>
        cases h with | sl hA h =>
        cases h with | sl hF h =>
        simp only [Dt.bk] at hD
        obtain ⟨A, rfl, rfl, cA⟩ := (ih _ (by omega) _).1 hA
        obtain ⟨F, rfl, rfl, cF⟩ := (ih _ (by omega) _).2 hF
        rw [← flTy] at h
        obtain ⟨X, rfl, rfl, cX⟩ := (ih _ (by omega) _).1 h
        exact ⟨.node ⟨#[]⟩ false _ _ _ A F X, rfl, rfl, fun _ => ⟨rfl, rfl⟩, cA, cF, cX⟩
      · rw [flFd]
        intro h
        cases h with | str h =>
        cases h with | int h =>
        cases h with | str h =>
        cases h with | str h =>
        cases h with | sl hA h =>
        cases h with | sl hF h =>
        cases h with | bool h =>
        simp only [Dt.bk] at hD
        obtain ⟨A, rfl, rfl, cA⟩ := (ih _ (by omega) _).1 hA
        obtain ⟨F, rfl, rfl, cF⟩ := (ih _ (by omega) _).2 hF
        rw [← flFd] at h
        obtain ⟨X, rfl, rfl, cX⟩ := (ih _ (by omega) _).2 h
        exact ⟨.node _ _ _ _ _ A F X, rfl, rfl, fun h => (by cases h), cA, cF, cX⟩
theorem conf_ty {r : List CT} {D : Dt} (h : Conf flatS (.i :: .s :: .s :: .sl 25 :: .sl 86 :: r) D) : ∃ t nx, D = Ty.on t nx ∧ t.Can ∧ Conf flatS r nx := by
  cases h with | int h =>
  cases h with | str h =>
  cases h with | str h =>
  cases h with | sl hA h =>
  cases h with | sl hF h =>
  obtain ⟨A, rfl, rfl, cA⟩ := (conf_tr _ _ (Nat.le_refl _) _).1 hA
  obtain ⟨F, rfl, rfl, cF⟩ := (conf_tr _ _ (Nat.le_refl _) _).2 hF
  exact ⟨⟨_, _, _, A, F⟩, _, rfl, ⟨cA, cF⟩, h⟩
theorem conf_lb : ∀ (n : Nat) (D : Dt), Conf flatS (rep n (flatS 115)) D → ∃ L : List Lb, L.length = n ∧ encLb L = D ∧ ∀ x ∈ L, x.t.Can := by
  intro n
  induction n with
  | zero => exact fun D h => ⟨[], rfl, (conf_nil rfl h).symm, can_nil⟩
  | succ n ih =>
    intro D h
    rw [rep_succ] at h
    replace h : Conf flatS (.s :: .s :: .i :: .s :: .s :: .sl 25 :: .sl 86 :: .b :: rep n (flatS 115)) D := by rw [flLb] at h ⊢; exact h
    cases h with | str h =>
    cases h with | str h =>
    replace h := conf_ty h
    obtain ⟨t, nx, rfl, ct, h⟩ := h
    cases h with | bool h =>
    obtain ⟨L, rfl, rfl, cL⟩ := ih _ h
    exact ⟨⟨_, _, t, _⟩ :: L, rfl, rfl, can_cons ct cL⟩
theorem conf_ex : ∀ (N : Nat) (D : Dt), D.bk ≤ N → ∀ n, Conf flatS (rep n (flatS 29)) D → ∃ K : Ex, K.len = n ∧ K.enc = D ∧ K.Can := by
  intro N
  induction N with
  | zero =>
    intro D hD n
    have hn : D = .nil := by cases D <;> first | rfl | (simp only [Dt.bk] at hD; omega)
    subst hn
    cases n with
    | zero => exact fun _ => ⟨.nil, rfl, rfl, trivial⟩
    | succ n =>
      rw [rep_succ, flEx]
      exact fun h => (by cases h)
  | succ N ih =>
    intro D hD n
    cases n with
    | zero => exact fun h => ⟨.nil, rfl, (conf_nil rfl h).symm, trivial⟩
    | succ n =>
      rw [rep_succ, flEx]
      intro h
      cases h with | int h =>
      cases h with | str h =>
      cases h with | str h =>
      cases h with | str h =>
      cases h with | int h =>
      cases h with | sl hT h =>
      cases h with | sl hL h =>
      cases h with | sl hK h =>
      simp only [Dt.bk] at hD
      obtain ⟨T, rfl, rfl, cT⟩ := (conf_tr _ _ (Nat.le_refl _) _).1 hT
      obtain ⟨L, rfl, rfl, cL⟩ := conf_lb _ _ hL
      obtain ⟨K, rfl, rfl, cK⟩ := ih _ (by omega) _ hK
      rw [← flEx] at h
      obtain ⟨X, rfl, rfl, cX⟩ := ih _ (by omega) _ h
      exact ⟨.node _ _ _ _ _ T L K X, rfl, rfl, cT, cL, cK, cX⟩
theorem conf_xp {r : List CT} {D : Dt} (h : Conf flatS (.i :: .s :: .s :: .s :: .i :: .sl 25 :: .sl 115 :: .sl 29 :: r) D) : ∃ e nx, D = Xp.on e nx ∧ e.Can ∧ Conf flatS r nx := by
  cases h with | int h =>
  cases h with | str h =>
  cases h with | str h =>
  cases h with | str h =>
  cases h with | int h =>
  cases h with | sl hT h =>
  cases h with | sl hL h =>
  cases h with | sl hK h =>
  obtain ⟨T, rfl, rfl, cT⟩ := (conf_tr _ _ (Nat.le_refl _) _).1 hT
  obtain ⟨L, rfl, rfl, cL⟩ := conf_lb _ _ hL
  obtain ⟨K, rfl, rfl, cK⟩ := conf_ex _ _ (Nat.le_refl _) _ hK
  exact ⟨⟨_, _, _, _, _, T, L, K⟩, _, rfl, ⟨cT, cL, cK⟩, h⟩
theorem conf_pm : ∀ (n : Nat) (D : Dt), Conf flatS (rep n (flatS 70)) D → ∃ L : List Pm, L.length = n ∧ encPm L = D ∧ ∀ x ∈ L, x.t.Can := by
  intro n
  induction n with
  | zero => exact fun D h => ⟨[], rfl, (conf_nil rfl h).symm, can_nil⟩
  | succ n ih =>
    intro D h
    rw [rep_succ] at h
    replace h : Conf flatS (.s :: .i :: .i :: .s :: .s :: .sl 25 :: .sl 86 :: rep n (flatS 70)) D := by rw [flPm] at h ⊢; exact h
    cases h with | str h =>
    cases h with | int h =>
    replace h := conf_ty h
    obtain ⟨t, nx, rfl, ct, h⟩ := h
    obtain ⟨L, rfl, rfl, cL⟩ := ih _ h
    exact ⟨⟨_, _, t⟩ :: L, rfl, rfl, can_cons ct cL⟩
theorem conf_im : ∀ (n : Nat) (D : Dt), Conf flatS (rep n (flatS 117)) D → ∃ L : List Im, L.length = n ∧ encIm L = D := by
  intro n
  induction n with
  | zero => exact fun D h => ⟨[], rfl, (conf_nil rfl h).symm⟩
  | succ n ih =>
    intro D h
    rw [rep_succ] at h
    replace h : Conf flatS (.s :: .s :: rep n (flatS 117)) D := by rw [flIm] at h ⊢; exact h
    cases h with | str h =>
    cases h with | str h =>
    obtain ⟨L, rfl, rfl⟩ := ih _ h
    exact ⟨⟨_, _⟩ :: L, rfl, rfl⟩
theorem conf_dc : ∀ (n : Nat) (D : Dt), Conf flatS (rep n (flatS 68)) D → ∃ L : List Dc, L.length = n ∧ encDc L = D ∧ ∀ x ∈ L, x.Can := by
  intro n
  induction n with
  | zero => exact fun D h => ⟨[], rfl, (conf_nil rfl h).symm, can_nil⟩
  | succ n ih =>
    intro D h
    rw [rep_succ] at h
    replace h : Conf flatS (.i :: .s :: .b :: .b :: .s :: .sl 70 :: .i :: .s :: .s :: .sl 25 :: .sl 86 :: .i :: .s :: .s :: .sl 25 :: .sl 86 :: .i :: .s :: .s :: .sl 25 :: .sl 86 :: .i :: .s :: .s :: .s :: .i :: .sl 25 :: .sl 115 :: .sl 29 :: .s :: .s :: rep n (flatS 68)) D := by rw [flDc] at h ⊢; exact h
    cases h with | int h =>
    cases h with | str h =>
    cases h with | bool h =>
    cases h with | bool h =>
    cases h with | str h =>
    cases h with | sl hP h =>
    obtain ⟨P, rfl, rfl, cP⟩ := conf_pm _ _ hP
    replace h := conf_ty h
    obtain ⟨t1, nx, rfl, c1, h⟩ := h
    replace h := conf_ty h
    obtain ⟨t2, nx, rfl, c2, h⟩ := h
    replace h := conf_ty h
    obtain ⟨t3, nx, rfl, c3, h⟩ := h
    replace h := conf_xp h
    obtain ⟨e, nx, rfl, ce, h⟩ := h
    cases h with | str h =>
    cases h with | str h =>
    obtain ⟨L, rfl, rfl, cL⟩ := ih _ h
    exact ⟨⟨_, _, _, _, _, P, t1, t2, t3, e, _, _⟩ :: L, rfl, rfl, can_cons ⟨cP, c1, c2, c3, ce⟩ cL⟩
theorem conf_md {r : List CT} {D : Dt} (h : Conf flatS (.s :: .sl 117 :: .sl 68 :: r) D) : ∃ e nx, D = Md.on e nx ∧ e.Can ∧ Conf flatS r nx := by
  cases h with | str h =>
  cases h with | sl hI h =>
  cases h with | sl hD h =>
  obtain ⟨I, rfl, rfl⟩ := conf_im _ _ hI
  obtain ⟨L, rfl, rfl, cL⟩ := conf_dc _ _ hD
  exact ⟨⟨_, I, L⟩, _, rfl, cL, h⟩
set_option maxRecDepth 100000 in
/-- An argument of one of the types. -/
theorem open_argD {H : Type} {enc : TypeId × Value → H} {W : World} {base : Nat} {t : TypeId} {fs : Array Field} (hu : Tryz.prog.underlying t = some (.struct fs)) (ht : (tabS.map (·.1)).contains t = true) {v : Value} {d : DataW H} {p : List MemPlace}
    (hval : Value.okWide Tryz.prog W .any base t v) (h : DataW.Trod enc Tryz.prog W 0 (fun _ => true) true t v d p) : ∃ (cs : Array Value) (D : Dt), v = .agg cs ∧ D.Reads W cs.toList ∧ Conf flatS (flatS t) D ∧ D.bk ≤ Rows.uptoBulk d := by
  obtain ⟨cs, rfl, hcs⟩ := okWide_struct hu hval
  obtain ⟨fuel, hf⟩ := h
  obtain ⟨D, h1, h2, h3⟩ := open_dt okS fuel t ht _ _ hf
  exact ⟨cs, D, rfl, h1, h2, h3⟩
end Go.Proofs.YtjedcijddlilaaaGreatDoor

namespace Go.Proofs.YtjedcijddlilaaaGreatDoor
open Go.ChangeShapes Go.WideShapes Go.ChangeAt Go.RowKit

/-- The type in front. -/
theorem tyI_reads {w : World} {t : Ty} {nx : Dt} {vs : List Value} (h : (t.on nx).Reads w vs) : ∃ (x : TyI w) (r : List Value), x.t = t ∧ vs = .int .i64 x.t.k :: .string x.t.m :: .string x.t.n :: .slice x.aa x.t.A.len x.ca :: .slice x.af x.t.F.len x.cf :: r ∧ nx.Reads w r := by
  obtain ⟨_, rfl, hk, _, rfl, _, rfl, a, c, _, rfl, hA, a', c', r, rfl, hF, h⟩ := h
  exact ⟨⟨t, a, c, a', c', hk, slD_tr.1 hA, slD_tr.1 hF⟩, r, rfl, rfl, h⟩
theorem tyI_lies {w : World} {t : Ty} {nx : Dt} {b o : Nat} (h : (t.on nx).Lies w b o) : ∃ x : TyI w, x.t = t ∧
    (w.cell? ⟨b, o, none⟩ = some (.int .i64 x.t.k) ∧ w.cell? ⟨b, o + 1, none⟩ = some (.string x.t.m) ∧ w.cell? ⟨b, o + 2, none⟩ = some (.string x.t.n) ∧ w.cell? ⟨b, o + 3, none⟩ = some (.slice x.aa x.t.A.len x.ca) ∧ w.cell? ⟨b, o + 4, none⟩ = some (.slice x.af x.t.F.len x.cf)) ∧ nx.Lies w b (o + 5) := by
  obtain ⟨⟨h1, hk⟩, h2, h3, ⟨a, c, h4, hA⟩, ⟨a', c', h5, hF⟩, h⟩ := h
  exact ⟨⟨t, a, c, a', c', hk, slD_tr.1 hA, slD_tr.1 hF⟩, rfl, ⟨h1, h2, h3, h4, h5⟩, h⟩
/-- An expression as it is handed on. -/
structure XpI (w0 : World) where
  e : Xp
  aT : Option Addr
  cT : Nat
  aL : Option Addr
  cL : Nat
  aK : Option Addr
  cK : Nat
  hk : (Lit.int .i64 e.k).wf = true
  hnum : (Lit.int .i64 e.num).wf = true
  hT : e.T = .nil ∨ ∃ b o, aT = some ⟨b, o, none⟩ ∧ Lies w0 e.T false b o
  hL : SlD w0 aL (encLb e.L)
  hK : SlD w0 aK e.K.enc
def XpI.cells {w0 : World} (x : XpI w0) : Array Value := #[.int .i64 x.e.k, .string x.e.m, .string x.e.n, .string x.e.tx, .int .i64 x.e.num, .slice x.aT x.e.T.len x.cT, .slice x.aL x.e.L.length x.cL, .slice x.aK x.e.K.len x.cK]
def XpI.v {w0 : World} (x : XpI w0) : Value := .agg x.cells
theorem xpI_reads {w : World} {e : Xp} {nx : Dt} {vs : List Value} (h : (e.on nx).Reads w vs) : ∃ (x : XpI w) (r : List Value), x.e = e ∧ vs = .int .i64 x.e.k :: .string x.e.m :: .string x.e.n :: .string x.e.tx :: .int .i64 x.e.num :: .slice x.aT x.e.T.len x.cT :: .slice x.aL x.e.L.length x.cL :: .slice x.aK x.e.K.len x.cK :: r ∧ nx.Reads w r := by
  obtain ⟨_, rfl, hk, _, rfl, _, rfl, _, rfl, _, rfl, hnum, a, c, _, rfl, hT, a', c', _, rfl, hL, a2, c2, r, rfl, hK, h⟩ := h
  exact ⟨⟨e, a, c, a', c', a2, c2, hk, hnum, slD_tr.1 hT, hL, hK⟩, r, rfl, rfl, h⟩
theorem xpI_lies {w : World} {e : Xp} {nx : Dt} {b o : Nat} (h : (e.on nx).Lies w b o) : ∃ x : XpI w, x.e = e ∧
    (w.cell? ⟨b, o, none⟩ = some (.int .i64 x.e.k) ∧ w.cell? ⟨b, o + 1, none⟩ = some (.string x.e.m) ∧ w.cell? ⟨b, o + 2, none⟩ = some (.string x.e.n) ∧ w.cell? ⟨b, o + 3, none⟩ = some (.string x.e.tx) ∧ w.cell? ⟨b, o + 4, none⟩ = some (.int .i64 x.e.num) ∧ w.cell? ⟨b, o + 5, none⟩ = some (.slice x.aT x.e.T.len x.cT) ∧ w.cell? ⟨b, o + 6, none⟩ = some (.slice x.aL x.e.L.length x.cL) ∧ w.cell? ⟨b, o + 7, none⟩ = some (.slice x.aK x.e.K.len x.cK)) ∧ nx.Lies w b (o + 8) := by
  obtain ⟨⟨h1, hk⟩, h2, h3, h4, ⟨h5, hnum⟩, ⟨a, c, h6, hT⟩, ⟨a', c', h7, hL⟩, ⟨a2, c2, h8, hK⟩, h⟩ := h
  exact ⟨⟨e, a, c, a', c', a2, c2, hk, hnum, slD_tr.1 hT, hL, hK⟩, rfl, ⟨h1, h2, h3, h4, h5, h6, h7, h8⟩, h⟩
theorem Ex.on_node {k : Int} {m n tx : ByteArray} {num : Int} {T : Tr} {L : List Lb} {K nx : Ex} : (Ex.node k m n tx num T L K nx).enc = (Xp.mk k m n tx num T L K).on nx.enc := rfl
/-- A declaration as it is handed on. -/
structure DcI (w0 : World) where
  d : Dc
  aP : Option Addr
  cP : Nat
  lo : TyI w0
  up : TyI w0
  t : TyI w0
  e : XpI w0
  hk : (Lit.int .i64 d.k).wf = true
  hP : SlD w0 aP (encPm d.P)
  hlo : lo.t = d.lo
  hup : up.t = d.up
  ht : t.t = d.t
  he : e.e = d.e
/-- A module as it is handed on. -/
structure MdI (w0 : World) where
  m : Md
  aI : Option Addr
  cI : Nat
  aD : Option Addr
  cD : Nat
  hI : SlD w0 aI (encIm m.I)
  hD : SlD w0 aD (encDc m.D)
def MdI.cells {w0 : World} (x : MdI w0) : Array Value := #[.string x.m.p, .slice x.aI x.m.I.length x.cI, .slice x.aD x.m.D.length x.cD]
def MdI.v {w0 : World} (x : MdI w0) : Value := .agg x.cells
theorem mdI_reads {w : World} {m : Md} {vs : List Value} (h : (m.on .nil).Reads w vs) : ∃ x : MdI w, x.m = m ∧ vs = x.cells.toList := by
  obtain ⟨_, rfl, a, c, _, rfl, hI, a', c', r, rfl, hD, rfl⟩ := h
  exact ⟨⟨m, a, c, a', c', hI, hD⟩, rfl, rfl⟩

/-- Equality. -/
def Lb.eq (x y : Lb) : Bool := decide (x.nm = y.nm) && decide (x.vr = y.vr) && (x.op == y.op) && x.t.eq y.t
def allEq {α : Type} (f : α → α → Bool) : List α → List α → Bool
  | [], [] => true
  | a :: r, b :: s => f a b && allEq f r s
  | _, _ => false
theorem allEq_len {α : Type} {f : α → α → Bool} : ∀ {l l' : List α}, allEq f l l' = true → l.length = l'.length := by
  intro l
  induction l with
  | nil => intro l' h; cases l' with
    | nil => rfl
    | cons => cases h
  | cons a l ih => intro l' h; cases l' with
    | nil => cases h
    | cons b l' => simp only [allEq, Bool.and_eq_true] at h; simp only [List.length_cons, ih h.2]
def Ex.eq : Ex → Ex → Bool
  | .nil, .nil => true
  | .node k m n tx num T L K nx, .node k' m' n' tx' num' T' L' K' nx' =>
    (decide (k = k') && decide (m = m') && decide (n = n') && decide (tx = tx') && decide (num = num') && T.eq false T' && allEq Lb.eq L L' && K.eq K') && nx.eq nx'
  | _, _ => false
def Xp.eq (e f : Xp) : Bool := decide (e.k = f.k) && decide (e.m = f.m) && decide (e.n = f.n) && decide (e.tx = f.tx) && decide (e.num = f.num) && e.T.eq false f.T && allEq Lb.eq e.L f.L && e.K.eq f.K
theorem Ex.eq_len : ∀ {T U : Ex}, T.eq U = true → T.len = U.len := by
  intro T
  induction T with
  | nil => intro U h; cases U <;> simp_all [Ex.eq, Ex.len]
  | node k m n tx num T L K nx hk hn =>
    intro U h
    cases U with
    | nil => simp [Ex.eq] at h
    | node k' m' n' tx' num' T' L' K' nx' =>
      simp only [Ex.eq, Bool.and_eq_true] at h
      simp only [Ex.len, hn h.2]
def Pm.eq (x y : Pm) : Bool := decide (x.nm = y.nm) && decide (x.vr = y.vr) && x.t.eq y.t
def Im.eq (x y : Im) : Bool := decide (x.p = y.p) && decide (x.a = y.a)
def Dc.eq (x y : Dc) : Bool := decide (x.k = y.k) && decide (x.nm = y.nm) && (x.ex == y.ex) && (x.dp == y.dp) && decide (x.note = y.note) && decide (x.m = y.m) && decide (x.tg = y.tg) && allEq Pm.eq x.P y.P && x.lo.eq y.lo && x.up.eq y.up && x.t.eq y.t && x.e.eq y.e
def Md.eq (x y : Md) : Bool := decide (x.p = y.p) && allEq Im.eq x.I y.I && allEq Dc.eq x.D y.D

/-- Equal data that bear no other names are the same. -/
theorem Tr.eq_can : ∀ {T U : Tr} {fl : Bool}, T.Can fl → U.Can fl → T.eq fl U = true → T = U := by
  intro T
  induction T with
  | nil => intro U fl _ _ h; cases U with
    | nil => rfl
    | node => simp [Tr.eq] at h
  | node fn op k m n A F nx ha hf hn =>
    intro U fl hT hU h
    cases U with
    | nil => simp [Tr.eq] at h
    | node fn' op' k' m' n' A' F' nx' =>
      simp only [Tr.eq, Bool.and_eq_true, decide_eq_true_eq] at h
      obtain ⟨⟨h0, ⟨⟨⟨h1, h2⟩, h3⟩, h4⟩, h5⟩, h6⟩ := h
      obtain ⟨g0, g1, g2, g3⟩ := hT
      obtain ⟨k0, k1, k2, k3⟩ := hU
      rw [ha g1 k1 h4, hf g2 k2 h5, hn g3 k3 h6, h1, h2, h3]
      cases fl with
      | false => rw [(g0 rfl).1, (g0 rfl).2, (k0 rfl).1, (k0 rfl).2]
      | true =>
        simp only [Bool.not_true, Bool.false_or, Bool.and_eq_true, decide_eq_true_eq, beq_iff_eq] at h0
        rw [h0.1, h0.2]
theorem Ty.eq_can {t u : Ty} (ht : t.Can) (hu : u.Can) (h : t.eq u = true) : t = u := by
  cases t; cases u
  simp only [Ty.eq, Bool.and_eq_true, decide_eq_true_eq] at h
  obtain ⟨⟨⟨⟨h1, h2⟩, h3⟩, h4⟩, h5⟩ := h
  have e1 := Tr.eq_can ht.1 hu.1 h4
  have e2 := Tr.eq_can ht.2 hu.2 h5
  simp only at h1 h2 h3 e1 e2
  rw [h1, h2, h3, e1, e2]
theorem allEq_can {α : Type} {f : α → α → Bool} {p : α → Prop} (hf : ∀ a b, p a → p b → f a b = true → a = b) : ∀ {l l' : List α}, (∀ x ∈ l, p x) → (∀ x ∈ l', p x) → allEq f l l' = true → l = l' := by
  intro l
  induction l with
  | nil => intro l' _ _ h; cases l' with
    | nil => rfl
    | cons => cases h
  | cons a l ih => intro l' hl hl' h; cases l' with
    | nil => cases h
    | cons b l' =>
      simp only [allEq, Bool.and_eq_true] at h
      rw [hf a b (hl a (List.mem_cons_self ..)) (hl' b (List.mem_cons_self ..)) h.1, ih (fun x hx => hl x (List.mem_cons_of_mem _ hx)) (fun x hx => hl' x (List.mem_cons_of_mem _ hx)) h.2]
theorem Lb.eq_can (x y : Lb) (hx : x.t.Can) (hy : y.t.Can) (h : x.eq y = true) : x = y := by
  cases x; cases y
  simp only [Lb.eq, Bool.and_eq_true, decide_eq_true_eq, beq_iff_eq] at h
  obtain ⟨⟨⟨h1, h2⟩, h3⟩, h4⟩ := h
  have := Ty.eq_can hx hy h4
  simp_all
theorem Ex.eq_can : ∀ {T U : Ex}, T.Can → U.Can → T.eq U = true → T = U := by
  intro T
  induction T with
  | nil => intro U _ _ h; cases U with
    | nil => rfl
    | node => simp [Ex.eq] at h
  | node k m n tx num T L K nx hk hn =>
    intro U hT hU h
    cases U with
    | nil => simp [Ex.eq] at h
    | node k' m' n' tx' num' T' L' K' nx' =>
      simp only [Ex.eq, Bool.and_eq_true, decide_eq_true_eq] at h
      obtain ⟨⟨⟨⟨⟨⟨⟨⟨h1, h2⟩, h3⟩, h4⟩, h5⟩, h6⟩, h7⟩, h8⟩, h9⟩ := h
      obtain ⟨g0, g1, g2, g3⟩ := hT
      obtain ⟨k0, k1, k2, k3⟩ := hU
      rw [hk g2 k2 h8, hn g3 k3 h9, Tr.eq_can g0 k0 h6, allEq_can Lb.eq_can g1 k1 h7, h1, h2, h3, h4, h5]
theorem Xp.eq_can {e f : Xp} (he : e.Can) (hf : f.Can) (h : e.eq f = true) : e = f := by
  cases e; cases f
  simp only [Xp.eq, Bool.and_eq_true, decide_eq_true_eq] at h
  obtain ⟨⟨⟨⟨⟨⟨⟨h1, h2⟩, h3⟩, h4⟩, h5⟩, h6⟩, h7⟩, h8⟩ := h
  obtain ⟨g0, g1, g2⟩ := he
  obtain ⟨k0, k1, k2⟩ := hf
  have e1 := Tr.eq_can g0 k0 h6
  have e2 := allEq_can Lb.eq_can g1 k1 h7
  have e3 := Ex.eq_can g2 k2 h8
  simp only at h1 h2 h3 h4 h5 e1 e2 e3
  rw [h1, h2, h3, h4, h5, e1, e2, e3]
theorem Pm.eq_can (x y : Pm) (hx : x.t.Can) (hy : y.t.Can) (h : x.eq y = true) : x = y := by
  cases x; cases y
  simp only [Pm.eq, Bool.and_eq_true, decide_eq_true_eq] at h
  obtain ⟨⟨h1, h2⟩, h4⟩ := h
  have := Ty.eq_can hx hy h4
  simp_all
theorem Im.eq_can (x y : Im) (h : x.eq y = true) : x = y := by
  cases x; cases y
  simp only [Im.eq, Bool.and_eq_true, decide_eq_true_eq] at h
  simp_all
theorem Dc.eq_can (x y : Dc) (hx : x.Can) (hy : y.Can) (h : x.eq y = true) : x = y := by
  cases x; cases y
  simp only [Dc.eq, Bool.and_eq_true, decide_eq_true_eq, beq_iff_eq] at h
  obtain ⟨⟨⟨⟨⟨⟨⟨⟨⟨⟨⟨h1, h2⟩, h3⟩, h4⟩, h5⟩, h6⟩, h7⟩, h8⟩, h9⟩, ha⟩, hb⟩, hc⟩ := h
  obtain ⟨g0, g1, g2, g3, g4⟩ := hx
  obtain ⟨k0, k1, k2, k3, k4⟩ := hy
  have e1 := allEq_can Pm.eq_can g0 k0 h8
  have e2 := Ty.eq_can g1 k1 h9
  have e3 := Ty.eq_can g2 k2 ha
  have e4 := Ty.eq_can g3 k3 hb
  have e5 := Xp.eq_can g4 k4 hc
  simp_all
theorem Md.eq_can {x y : Md} (hx : x.Can) (hy : y.Can) (h : x.eq y = true) : x = y := by
  cases x; cases y
  simp only [Md.eq, Bool.and_eq_true, decide_eq_true_eq] at h
  obtain ⟨⟨h1, h2⟩, h3⟩ := h
  have e1 := allEq_can (p := fun _ => True) (fun a b _ _ => Im.eq_can a b) (fun _ _ => trivial) (fun _ _ => trivial) h2
  have e2 := allEq_can Dc.eq_can hx hy h3
  simp_all
/-- Equality is reflexive and symmetric. -/
theorem allEq_refl {α : Type} {f : α → α → Bool} (hf : ∀ a, f a a = true) : ∀ l : List α, allEq f l l = true := by
  intro l
  induction l with
  | nil => rfl
  | cons a l ih => simp [allEq, hf, ih]
theorem allEq_comm {α : Type} {f : α → α → Bool} (hf : ∀ a b, f a b = f b a) : ∀ l l' : List α, allEq f l l' = allEq f l' l := by
  intro l
  induction l with
  | nil => intro l'; cases l' <;> rfl
  | cons a l ih => intro l'; cases l' with
    | nil => rfl
    | cons b l' => simp only [allEq, hf a b, ih]
theorem dec_comm {α : Type} [DecidableEq α] (a b : α) : decide (a = b) = decide (b = a) := by
  by_cases h : a = b
  · rw [h]
  · rw [decide_eq_false h, decide_eq_false (fun e => h e.symm)]
theorem Lb.eq_refl (x : Lb) : x.eq x = true := by simp [Lb.eq, Ty.eq_refl]
theorem Ex.eq_refl (K : Ex) : K.eq K = true := by
  induction K with
  | nil => rfl
  | node k m n tx num T L K nx hk hn => simp [Ex.eq, Tr.eq_refl, allEq_refl Lb.eq_refl, hk, hn]
theorem Xp.eq_refl (e : Xp) : e.eq e = true := by simp [Xp.eq, Tr.eq_refl, allEq_refl Lb.eq_refl, Ex.eq_refl]
theorem Pm.eq_refl (x : Pm) : x.eq x = true := by simp [Pm.eq, Ty.eq_refl]
theorem Im.eq_refl (x : Im) : x.eq x = true := by simp [Im.eq]
theorem Dc.eq_refl (x : Dc) : x.eq x = true := by simp [Dc.eq, Ty.eq_refl, allEq_refl Pm.eq_refl, Xp.eq_refl]
theorem Md.eq_refl (x : Md) : x.eq x = true := by simp [Md.eq, allEq_refl Im.eq_refl, allEq_refl Dc.eq_refl]

/-- Bulks. -/
def Xp.bk (e : Xp) : Nat := (e.on .nil).bk
theorem Tr.size_enc (T : Tr) : ∀ fl, T.size ≤ (T.enc fl).bk := by
  induction T with
  | nil => intro fl; exact Nat.zero_le _
  | node fn op k m n A F nx ha hf hn =>
    intro fl
    have h1 := ha false
    have h2 := hf true
    have h3 := hn fl
    cases fl <;> simp only [Tr.size, Tr.enc, Dt.bk] <;> omega
theorem Ty.on_bk (t : Ty) (nx : Dt) : t.size + nx.bk + 4 ≤ (t.on nx).bk := by
  have h1 := t.A.size_enc false
  have h2 := t.F.size_enc true
  simp only [Ty.size, Ty.on, Dt.bk]
  omega
theorem Xp.on_bk (e : Xp) (nx : Dt) : (e.on nx).bk = e.bk + nx.bk := by
  simp only [Xp.bk, Xp.on, Dt.bk]; omega
theorem Xp.bk_eq (e : Xp) : e.bk = e.m.size + e.n.size + e.tx.size + (e.T.enc false).bk + (encLb e.L).bk + e.K.enc.bk + 8 := by
  simp only [Xp.bk, Xp.on, Dt.bk]; omega
theorem Lb.len_bk : ∀ L : List Lb, L.length ≤ (encLb L).bk := by
  intro L
  induction L with
  | nil => exact Nat.le_refl _
  | cons x r ih =>
    have := x.t.on_bk (.bool x.op (encLb r))
    simp only [encLb, Dt.bk, List.length_cons] at *; omega
theorem Ex.len_bk : ∀ K : Ex, K.len ≤ K.enc.bk := by
  intro K
  induction K with
  | nil => exact Nat.le_refl _
  | node k m n tx num T L K nx hk hn => simp only [Ex.len, Ex.enc, Dt.bk]; omega
theorem Pm.len_bk : ∀ L : List Pm, L.length ≤ (encPm L).bk := by
  intro L
  induction L with
  | nil => exact Nat.le_refl _
  | cons x r ih =>
    have := x.t.on_bk (encPm r)
    simp only [encPm, Dt.bk, List.length_cons] at *; omega
theorem Im.len_bk : ∀ L : List Im, L.length ≤ (encIm L).bk := by
  intro L
  induction L with
  | nil => exact Nat.le_refl _
  | cons x r ih => simp only [encIm, Dt.bk, List.length_cons] at *; omega
theorem Dc.len_bk : ∀ L : List Dc, L.length ≤ (encDc L).bk := by
  intro L
  induction L with
  | nil => exact Nat.le_refl _
  | cons x r ih =>
    have h1 := x.lo.on_bk (x.up.on (x.t.on (x.e.on (.str x.m (.str x.tg (encDc r))))))
    have h2 := x.up.on_bk (x.t.on (x.e.on (.str x.m (.str x.tg (encDc r)))))
    have h3 := x.t.on_bk (x.e.on (.str x.m (.str x.tg (encDc r))))
    have h4 := x.e.on_bk (.str x.m (.str x.tg (encDc r)))
    simp only [encDc, Dt.bk, List.length_cons] at *; omega
/-- A row that is nothing, or lies at an address. -/
def RowD (w : World) (C : Dt) (a : Option Addr) (off : Nat) : Prop := C = .nil ∨ ∃ b o, a = some ⟨b, o, none⟩ ∧ C.Lies w b (o + off)
theorem rowD_zero {w : World} {C : Dt} {a : Option Addr} {m : Nat} (h : SlD w a C) : RowD w C a (0 * m) := by
  rw [Nat.zero_mul]; exact h
theorem rowD_lb {w : World} {x : Lb} {r : List Lb} {a : Option Addr} {i : Nat} (h : RowD w (encLb (x :: r)) a (i * 8)) :
    ∃ (b o : Nat) (p : TyI w), a = some ⟨b, o, none⟩ ∧ p.t = x.t ∧
      (w.cell? ⟨b, o + i * 8, none⟩ = some (.string x.nm) ∧ w.cell? ⟨b, o + i * 8 + 1, none⟩ = some (.string x.vr) ∧ w.cell? ⟨b, o + i * 8 + 2, none⟩ = some (.int .i64 p.t.k) ∧ w.cell? ⟨b, o + i * 8 + 3, none⟩ = some (.string p.t.m) ∧ w.cell? ⟨b, o + i * 8 + 4, none⟩ = some (.string p.t.n) ∧
      w.cell? ⟨b, o + i * 8 + 5, none⟩ = some (.slice p.aa p.t.A.len p.ca) ∧ w.cell? ⟨b, o + i * 8 + 6, none⟩ = some (.slice p.af p.t.F.len p.cf) ∧ w.cell? ⟨b, o + i * 8 + 7, none⟩ = some (.bool x.op)) ∧ RowD w (encLb r) a ((i + 1) * 8) := by
  rcases h with h | ⟨b, o, h, h0, h1, h2⟩
  · cases h
  · obtain ⟨p, hp, ⟨c1, c2, c3, c4, c5⟩, h7, hr⟩ := tyI_lies h2
    exact ⟨b, o, p, h, hp, ⟨h0, h1, c1, c2, c3, c4, c5, h7⟩, .inr ⟨b, o, h, by rw [Nat.add_mul, Nat.one_mul, ← Nat.add_assoc]; exact hr⟩⟩
theorem rowD_ex {w : World} {k : Int} {m n tx : ByteArray} {num : Int} {T : Tr} {L : List Lb} {K nx : Ex} {a : Option Addr} {i : Nat} (h : RowD w (Ex.node k m n tx num T L K nx).enc a (i * 8)) :
    ∃ (b o : Nat) (p : XpI w), a = some ⟨b, o, none⟩ ∧ p.e = ⟨k, m, n, tx, num, T, L, K⟩ ∧
      (w.cell? ⟨b, o + i * 8, none⟩ = some (.int .i64 p.e.k) ∧ w.cell? ⟨b, o + i * 8 + 1, none⟩ = some (.string p.e.m) ∧ w.cell? ⟨b, o + i * 8 + 2, none⟩ = some (.string p.e.n) ∧ w.cell? ⟨b, o + i * 8 + 3, none⟩ = some (.string p.e.tx) ∧ w.cell? ⟨b, o + i * 8 + 4, none⟩ = some (.int .i64 p.e.num) ∧
      w.cell? ⟨b, o + i * 8 + 5, none⟩ = some (.slice p.aT p.e.T.len p.cT) ∧ w.cell? ⟨b, o + i * 8 + 6, none⟩ = some (.slice p.aL p.e.L.length p.cL) ∧ w.cell? ⟨b, o + i * 8 + 7, none⟩ = some (.slice p.aK p.e.K.len p.cK)) ∧ RowD w nx.enc a ((i + 1) * 8) := by
  rcases h with h | ⟨b, o, h, h2⟩
  · cases h
  · rw [Ex.on_node] at h2
    obtain ⟨p, hp, hc, hr⟩ := xpI_lies h2
    exact ⟨b, o, p, h, hp, hc, .inr ⟨b, o, h, by rw [Nat.add_mul, Nat.one_mul, ← Nat.add_assoc]; exact hr⟩⟩
theorem rowD_pm {w : World} {x : Pm} {r : List Pm} {a : Option Addr} {i : Nat} (h : RowD w (encPm (x :: r)) a (i * 7)) :
    ∃ (b o : Nat) (p : TyI w), a = some ⟨b, o, none⟩ ∧ p.t = x.t ∧ (Lit.int .i64 x.vr).wf = true ∧
      (w.cell? ⟨b, o + i * 7, none⟩ = some (.string x.nm) ∧ w.cell? ⟨b, o + i * 7 + 1, none⟩ = some (.int .i64 x.vr) ∧ w.cell? ⟨b, o + i * 7 + 2, none⟩ = some (.int .i64 p.t.k) ∧ w.cell? ⟨b, o + i * 7 + 3, none⟩ = some (.string p.t.m) ∧ w.cell? ⟨b, o + i * 7 + 4, none⟩ = some (.string p.t.n) ∧
      w.cell? ⟨b, o + i * 7 + 5, none⟩ = some (.slice p.aa p.t.A.len p.ca) ∧ w.cell? ⟨b, o + i * 7 + 6, none⟩ = some (.slice p.af p.t.F.len p.cf)) ∧ RowD w (encPm r) a ((i + 1) * 7) := by
  rcases h with h | ⟨b, o, h, h0, ⟨h1, hw⟩, h2⟩
  · cases h
  · obtain ⟨p, hp, ⟨c1, c2, c3, c4, c5⟩, hr⟩ := tyI_lies h2
    exact ⟨b, o, p, h, hp, hw, ⟨h0, h1, c1, c2, c3, c4, c5⟩, .inr ⟨b, o, h, by rw [Nat.add_mul, Nat.one_mul, ← Nat.add_assoc]; exact hr⟩⟩
theorem rowD_im {w : World} {x : Im} {r : List Im} {a : Option Addr} {i : Nat} (h : RowD w (encIm (x :: r)) a (i * 2)) :
    ∃ (b o : Nat), a = some ⟨b, o, none⟩ ∧ (w.cell? ⟨b, o + i * 2, none⟩ = some (.string x.p) ∧ w.cell? ⟨b, o + i * 2 + 1, none⟩ = some (.string x.a)) ∧ RowD w (encIm r) a ((i + 1) * 2) := by
  rcases h with h | ⟨b, o, h, h0, h1, hr⟩
  · cases h
  · exact ⟨b, o, h, ⟨h0, h1⟩, .inr ⟨b, o, h, by rw [Nat.add_mul, Nat.one_mul, ← Nat.add_assoc]; exact hr⟩⟩
/-- A declaration's cells. -/
def DcI.cells {w0 : World} (x : DcI w0) : Array Value := #[.int .i64 x.d.k, .string x.d.nm, .bool x.d.ex, .bool x.d.dp, .string x.d.note, .slice x.aP x.d.P.length x.cP,
  .int .i64 x.lo.t.k, .string x.lo.t.m, .string x.lo.t.n, .slice x.lo.aa x.lo.t.A.len x.lo.ca, .slice x.lo.af x.lo.t.F.len x.lo.cf,
  .int .i64 x.up.t.k, .string x.up.t.m, .string x.up.t.n, .slice x.up.aa x.up.t.A.len x.up.ca, .slice x.up.af x.up.t.F.len x.up.cf,
  .int .i64 x.t.t.k, .string x.t.t.m, .string x.t.t.n, .slice x.t.aa x.t.t.A.len x.t.ca, .slice x.t.af x.t.t.F.len x.t.cf,
  .int .i64 x.e.e.k, .string x.e.e.m, .string x.e.e.n, .string x.e.e.tx, .int .i64 x.e.e.num, .slice x.e.aT x.e.e.T.len x.e.cT, .slice x.e.aL x.e.e.L.length x.e.cL, .slice x.e.aK x.e.e.K.len x.e.cK, .string x.d.m, .string x.d.tg]
theorem rowD_dc {w : World} {x : Dc} {r : List Dc} {a : Option Addr} {i : Nat} (h : RowD w (encDc (x :: r)) a (i * 31)) :
    ∃ (b o : Nat) (p : DcI w), a = some ⟨b, o, none⟩ ∧ p.d = x ∧ (∀ j v, p.cells[j]? = some v → w.cell? ⟨b, o + i * 31 + j, none⟩ = some v) ∧ RowD w (encDc r) a ((i + 1) * 31) := by
  rcases h with h | ⟨b, o, h, ⟨h0, hk⟩, h1, h2, h3, h4, ⟨aP, cP, h5, hP⟩, h6⟩
  · cases h
  · obtain ⟨lo, hlo, ⟨c0, c1, c2, c3, c4⟩, h7⟩ := tyI_lies h6
    obtain ⟨up, hup, ⟨d0, d1, d2, d3, d4⟩, h8⟩ := tyI_lies h7
    obtain ⟨t, ht, ⟨e0, e1, e2, e3, e4⟩, h9⟩ := tyI_lies h8
    obtain ⟨e, he, ⟨f0, f1, f2, f3, f4, f5, f6, f7⟩, g0, g1, hr⟩ := xpI_lies h9
    refine ⟨b, o, ⟨x, aP, cP, lo, up, t, e, hk, hP, hlo, hup, ht, he⟩, h, rfl, ?_, .inr ⟨b, o, h, by rw [Nat.add_mul, Nat.one_mul, ← Nat.add_assoc]; exact hr⟩⟩
    intro j v hj
    have hl : j < 31 := (Array.getElem?_eq_some_iff.1 hj).1
    match j, hl with
    | 0, _ => cases hj; exact h0
    | 1, _ => cases hj; exact h1
    | 2, _ => cases hj; exact h2
    | 3, _ => cases hj; exact h3
    | 4, _ => cases hj; exact h4
    | 5, _ => cases hj; exact h5
    | 6, _ => cases hj; exact c0
    | 7, _ => cases hj; exact c1
    | 8, _ => cases hj; exact c2
    | 9, _ => cases hj; exact c3
    | 10, _ => cases hj; exact c4
    | 11, _ => cases hj; exact d0
    | 12, _ => cases hj; exact d1
    | 13, _ => cases hj; exact d2
    | 14, _ => cases hj; exact d3
    | 15, _ => cases hj; exact d4
    | 16, _ => cases hj; exact e0
    | 17, _ => cases hj; exact e1
    | 18, _ => cases hj; exact e2
    | 19, _ => cases hj; exact e3
    | 20, _ => cases hj; exact e4
    | 21, _ => cases hj; exact f0
    | 22, _ => cases hj; exact f1
    | 23, _ => cases hj; exact f2
    | 24, _ => cases hj; exact f3
    | 25, _ => cases hj; exact f4
    | 26, _ => cases hj; exact f5
    | 27, _ => cases hj; exact f6
    | 28, _ => cases hj; exact f7
    | 29, _ => cases hj; exact g0
    | 30, _ => cases hj; exact g1
end Go.Proofs.YtjedcijddlilaaaGreatDoor
