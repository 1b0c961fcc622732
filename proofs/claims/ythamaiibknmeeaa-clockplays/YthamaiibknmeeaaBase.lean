/-
  How a heap lies in memory: the struct of two fields, the slice of its items, the map of their places; what stays when one of them is written.
-/
import Derived.Test.YthamaiibknmeeaaWalkB
import Derived.Maps.OwnSet
import Derived.OwnWalk
import Derived.Deep.AppendLies
import Derived.Laws.AppendOwnNone
namespace Go.Proofs.Ythamaiibknmeeaa
open Go.RowKit Go.Lib Go.Sort Go.Maps

/-- Key and id are numbers of their types. -/
def Wf (x : Int × Int) : Prop := (0 ≤ x.1 ∧ x.1 < 18446744073709551616) ∧ (-9223372036854775808 ≤ x.2 ∧ x.2 < 9223372036854775808)

/-- Nothing that was there has turned but the blocks of S. -/
structure Kept (S : Nat → Prop) (w w' : World) : Prop where
  os : w'.os = w.os
  tape : w'.tape = w.tape
  output : w'.output = w.output
  size : w.heap.size ≤ w'.heap.size
  block : ∀ k, k < w.heap.size → ¬ S k → w'.heap[k]? = w.heap[k]?

theorem Kept.refl (S : Nat → Prop) (w : World) : Kept S w w := ⟨rfl, rfl, rfl, Nat.le_refl _, fun _ _ _ => rfl⟩
theorem Kept.trans {S : Nat → Prop} {a b c : World} (h : Kept S a b) (k : Kept S b c) : Kept S a c :=
  ⟨k.os.trans h.os, k.tape.trans h.tape, k.output.trans h.output, Nat.le_trans h.size k.size, fun i hi hn => (k.block i (Nat.lt_of_lt_of_le hi h.size) hn).trans (h.block i hi hn)⟩
theorem Kept.mono {S T : Nat → Prop} {w w' : World} (h : Kept S w w') (e : ∀ k, k < w.heap.size → S k → T k) : Kept T w w' :=
  ⟨h.os, h.tape, h.output, h.size, fun k hk hn => h.block k hk fun hs => hn (e k hk hs)⟩
/-- .. where the second step turns new blocks too. -/
theorem Kept.then {S T : Nat → Prop} {a b c : World} (h : Kept S a b) (k : Kept T b c) (e : ∀ j, j < a.heap.size → T j → S j) : Kept S a c :=
  ⟨k.os.trans h.os, k.tape.trans h.tape, k.output.trans h.output, Nat.le_trans h.size k.size, fun i hi hn => (k.block i (Nat.lt_of_lt_of_le hi h.size) fun ht => hn (e i hi ht)).trans (h.block i hi hn)⟩
theorem Kept.of_below {w w' : World} (h : Below w.heap.size w w') (S : Nat → Prop) : Kept S w w' := ⟨h.os, h.tape, h.output, h.size, fun k hk _ => h.block k hk⟩
theorem Kept.below {S : Nat → Prop} {B : Nat} {w w' : World} (h : Kept S w w') (hB : B ≤ w.heap.size) (e : ∀ k, S k → B ≤ k) : Below B w w' :=
  ⟨h.os, h.tape, h.output, h.size, fun k hk => h.block k (Nat.lt_of_lt_of_le hk hB) fun hs => by have := e k hs; omega⟩
theorem Kept.of_grown {S : Nat → Prop} {w w' : World} {row : Option Nat} (h : w.grownBy w' row) (e : ∀ k, row = some k → S k) : Kept S w w' :=
  ⟨h.os, h.tape, h.output, h.size, fun k hk hn => h.block k hk fun er => hn (e k er.symm)⟩
theorem Kept.alloc {S : Nat → Prop} {a w : World} (h : Kept S a w) (o : Obj) : Kept S a (w.alloc o) := h.trans (Kept.of_below ((Below.refl _ _).alloc (Nat.le_refl _) _) S)
theorem Kept.drew {S : Nat → Prop} {a w : World} (h : Kept S a w) : Kept S a w.drew := ⟨h.os, h.tape, h.output, h.size, h.block⟩
theorem Kept.setCell {S : Nat → Prop} {a w : World} (h : Kept S a w) (p : Addr) (v : Value) (hp : S p.block) : Kept S a (w.setCell p v) :=
  ⟨h.os, h.tape, h.output, by simpa using h.size, fun k hk hn => (Below.heap_setCell _ _ _ _ (fun e => hn (by rw [e]; exact hp))).trans (h.block k hk hn)⟩
theorem Kept.cell {S : Nat → Prop} {w w' : World} (h : Kept S w w') {b o : Nat} (hb : b < w.heap.size) (hn : ¬ S b) : w'.cell? ⟨b, o, none⟩ = w.cell? ⟨b, o, none⟩ :=
  World.cell?_of_block (h.block b hb hn)
theorem Kept.frozen {S : Nat → Prop} {w w' : World} (h : Kept S w w') {b o : Nat} (hb : b < w.heap.size) (hn : ¬ S b) : w'.frozen? ⟨b, o, none⟩ = w.frozen? ⟨b, o, none⟩ :=
  World.frozen?_of_block (h.block b hb hn)

/-! ### the items -/
/-- Block g has room for cap items; the first n are f 0, f 1, .. -/
def Arr (w : World) (g n cap : Nat) (f : Nat → Int × Int) : Prop :=
  ∃ cur : Array Value, w.heap[g]? = some (.cells cur 61 (0, 0)) ∧ n ≤ cap ∧ cap ≤ maxLen ∧ cur.size = cap * 2 ∧
    ∀ i, i < n → cur[i * 2]? = some (.int .u64 (f i).1) ∧ cur[i * 2 + 1]? = some (.int .i64 (f i).2)

/-- The first n of f, as cells. -/
def cellsOf (f : Nat → Int × Int) (n : Nat) : List Value := (List.range (n * 2)).map fun j => if j % 2 = 0 then .int .u64 (f (j / 2)).1 else .int .i64 (f (j / 2)).2
theorem cellsOf_len (f : Nat → Int × Int) (n : Nat) : (cellsOf f n).length = n * 2 := by simp [cellsOf]
theorem cellsOf_get (f : Nat → Int × Int) (n j : Nat) (h : j < n * 2) : (cellsOf f n)[j]? = some (if j % 2 = 0 then .int .u64 (f (j / 2)).1 else .int .i64 (f (j / 2)).2) := by simp [cellsOf, h]
theorem cellsOf_even (f : Nat → Int × Int) (n i : Nat) (h : i < n) : (cellsOf f n)[i * 2]? = some (.int .u64 (f i).1) := by
  rw [cellsOf_get f n _ (by omega), if_pos (by omega), show i * 2 / 2 = i by omega]
theorem cellsOf_odd (f : Nat → Int × Int) (n i : Nat) (h : i < n) : (cellsOf f n)[i * 2 + 1]? = some (.int .i64 (f i).2) := by
  rw [cellsOf_get f n _ (by omega), if_neg (by omega), show (i * 2 + 1) / 2 = i by omega]
theorem cells_one (f : Nat → Int × Int) (n : Nat) : ∀ u ∈ cellsOf f n, u.oneCell' = true := by
  intro u hu
  simp only [cellsOf, List.mem_map] at hu
  obtain ⟨j, _, rfl⟩ := hu
  split <;> rfl
theorem cells_ext {f : Nat → Int × Int} {n : Nat} {l : List Value} (hl : l.length = n * 2) (h : ∀ i, i < n → l[i * 2]? = some (.int .u64 (f i).1) ∧ l[i * 2 + 1]? = some (.int .i64 (f i).2)) : l = cellsOf f n := by
  apply List.ext_getElem?
  intro j
  by_cases c : j < n * 2
  · by_cases e : j % 2 = 0
    · have := (h (j / 2) (by omega)).1
      rw [show j / 2 * 2 = j by omega] at this
      rw [this, cellsOf_get f n j c, if_pos e]
    · have := (h (j / 2) (by omega)).2
      rw [show j / 2 * 2 + 1 = j by omega] at this
      rw [this, cellsOf_get f n j c, if_neg e]
  · rw [List.getElem?_eq_none (by omega), List.getElem?_eq_none (by rw [cellsOf_len]; omega)]

theorem Arr.owns {w : World} {g n cap : Nat} {f : Nat → Int × Int} (h : Arr w g n cap f) (base : Nat) (hb : base ≤ g) : w.ownsRow base 61 2 (.slice (some ⟨g, 0, none⟩) n cap) n (cellsOf f n) := by
  obtain ⟨cur, h1, h2, h3, h4, h5⟩ := h
  refine ⟨cellsOf_len f n, .inr ⟨g, cap, cur, rfl, hb, h1, h2, h3, h4, ?_⟩⟩
  apply cells_ext
  · simp; omega
  · intro i hi
    rw [List.getElem?_take, if_pos (by omega), List.getElem?_take, if_pos (by omega)]
    simpa using h5 i hi

theorem Arr.of_owns {w : World} {base g n cap : Nat} {f : Nat → Int × Int} (h : w.ownsRow base 61 2 (.slice (some ⟨g, 0, none⟩) n cap) n (cellsOf f n)) : Arr w g n cap f := by
  rcases h.2 with ⟨h', _⟩ | ⟨g', cap', cur, h', _, h1, h2, h3, h4, h5⟩
  · simp at h'
  · simp at h'
    obtain ⟨rfl, rfl⟩ := h'
    refine ⟨cur, h1, h2, h3, h4, fun i hi => ?_⟩
    have e1 := cellsOf_even f n i hi
    have e2 := cellsOf_odd f n i hi
    rw [← h5, List.getElem?_take, if_pos (by omega)] at e1 e2
    exact ⟨by simpa using e1, by simpa using e2⟩

section
variable {w w' : World} {g n cap : Nat} {f : Nat → Int × Int}
theorem Arr.lt (h : Arr w g n cap f) : g < w.heap.size := by
  obtain ⟨cur, h1, _⟩ := h
  exact (Array.getElem?_eq_some_iff.1 h1).1
theorem Arr.same (h : Arr w g n cap f) (e : w'.heap[g]? = w.heap[g]?) : Arr w' g n cap f := by
  obtain ⟨cur, h1, r⟩ := h
  exact ⟨cur, e.trans h1, r⟩
theorem Arr.cells (h : Arr w g n cap f) {i : Nat} (hi : i < n) : w.cell? ⟨g, i * 2, none⟩ = some (.int .u64 (f i).1) ∧ w.cell? ⟨g, i * 2 + 1, none⟩ = some (.int .i64 (f i).2) := by
  obtain ⟨cur, h1, _, _, _, h5⟩ := h
  exact ⟨by rw [cell_of_row w g _ cur 61 (0, 0) h1]; exact (h5 i hi).1, by rw [cell_of_row w g _ cur 61 (0, 0) h1]; exact (h5 i hi).2⟩
theorem Arr.frozen (h : Arr w g n cap f) (j : Nat) : w.frozen? ⟨g, j, none⟩ = false := (h.owns 0 (Nat.zero_le _)).frozenAt j
theorem Arr.len (h : Arr w g n cap f) : n ≤ cap := by obtain ⟨_, _, h, _⟩ := h; exact h
theorem Arr.room (h : Arr w g n cap f) : cap ≤ maxLen := by obtain ⟨_, _, _, h, _⟩ := h; exact h
theorem Arr.congr {f' : Nat → Int × Int} (h : Arr w g n cap f) (e : ∀ i, i < n → f i = f' i) : Arr w g n cap f' := by
  obtain ⟨cur, h1, h2, h3, h4, h5⟩ := h
  exact ⟨cur, h1, h2, h3, h4, fun i hi => by rw [← e i hi]; exact h5 i hi⟩
theorem Arr.less {m : Nat} (h : Arr w g n cap f) (hm : m ≤ n) : Arr w g m cap f := by
  obtain ⟨cur, h1, h2, h3, h4, h5⟩ := h
  exact ⟨cur, h1, by omega, h3, h4, fun i hi => h5 i (by omega)⟩
theorem Arr.store (h : Arr w g n cap f) {i : Nat} (hi : i < n) (x : Int × Int) : Arr ((w.setCell ⟨g, i * 2, none⟩ (.int .u64 x.1)).setCell ⟨g, i * 2 + 1, none⟩ (.int .i64 x.2)) g n cap (upd f i x) := by
  obtain ⟨cur, h1, h2, h3, h4, h5⟩ := h
  refine ⟨(cur.setIfInBounds (i * 2) (.int .u64 x.1)).setIfInBounds (i * 2 + 1) (.int .i64 x.2), ?_, h2, h3, by simpa using h4, fun k hk => ?_⟩
  · exact heap_setCell_same _ _ _ _ _ _ (heap_setCell_same _ _ _ _ _ _ h1)
  · have hk5 := h5 k hk
    by_cases c : k = i
    · subst c
      rw [upd_same]
      constructor
      · rw [Array.getElem?_setIfInBounds_ne (by omega), Array.getElem?_setIfInBounds_self_of_lt (by omega)]
      · rw [Array.getElem?_setIfInBounds_self_of_lt (by simp; omega)]
    · rw [upd_other c]
      constructor
      · rw [Array.getElem?_setIfInBounds_ne (by omega), Array.getElem?_setIfInBounds_ne (by omega)]; exact hk5.1
      · rw [Array.getElem?_setIfInBounds_ne (by omega), Array.getElem?_setIfInBounds_ne (by omega)]; exact hk5.2
end

/-! ### the places -/
theorem law3 : Keyed Try.prog 3 := int_keyed Try.underlying3
theorem zero3 (w : World) : (zeroValue 3).run Try.prog w = .ok (.int .i64 0) w := by kernel_rfl

/-- How many entries there are, when one comes that may be there. -/
def cnt (c : Nat) (o : Option Nat) : Nat := if o.isSome then c else c + 1
theorem cnt_some (c p : Nat) : cnt c (some p) = c := rfl
theorem cnt_none (c : Nat) : cnt c none = c + 1 := rfl

/-- Block b is a map of c entries: the place of each id, as pos says. -/
def MapIs (w : World) (b c : Nat) (pos : Int → Option Nat) : Prop :=
  ∃ D : DataW Unit, w.ownsMap Try.prog 3 (plainElem Try.prog 3) b c D ∧ Maps.size D = c ∧
    ∀ id, Maps.has D (.int .i64 id) = (pos id).isSome ∧ ∀ p, pos id = some p → D.atKey (.int .i64 id) (.lit (.int .i64 0)) = .lit (.int .i64 p)

theorem ownsMap_tight {w : World} {b n : Nat} {D : DataW Unit} {R : Value → Option (DataW Unit × List MemPlace)} (h : w.ownsMap Try.prog 3 R b n D) : w.ownsMap Try.prog 3 R b (Maps.size D) D := by
  obtain ⟨es, clock, hb, F, hs, rfl⟩ := h
  exact ⟨es, clock, hb, F, by simp [Maps.size, length_sorted], rfl⟩

theorem wf64 {x : Int} (h : -9223372036854775808 ≤ x ∧ x < 9223372036854775808) : (Lit.int .i64 x).wf = true := WalkArith.wf_i64 (by omega)

theorem isKey_int (id : Int) : WideAt.IsKeyLit (.int .i64 id) := trivial

section
variable {w w' : World} {b c : Nat} {pos : Int → Option Nat}
theorem MapIs.lt (h : MapIs w b c pos) : b < w.heap.size := by obtain ⟨D, h, _⟩ := h; exact h.lt
theorem MapIs.same (h : MapIs w b c pos) (e : w'.heap[b]? = w.heap[b]?) : MapIs w' b c pos := by
  obtain ⟨D, ⟨es, clock, hb, r⟩, h2, h3⟩ := h
  exact ⟨D, ⟨es, clock, e.trans hb, r⟩, h2, h3⟩
theorem MapIs.look (h : MapIs w b c pos) {id : Int} (hid : -9223372036854775808 ≤ id ∧ id < 9223372036854775808) :
    (Instr.lookup 67 (.map (some b)) (.int .i64 id) true).run Try.prog w = .ok (.tuple #[.int .i64 (((pos id).getD 0 : Nat) : Int), .bool (pos id).isSome]) w := by
  obtain ⟨D, hown, hs, hp⟩ := h
  obtain ⟨v, ps, hrun, hv⟩ := hown.look_ok law3 Try.underlying67 (zero3 _) (plainElem_int Try.underlying3 (by decide)) (keyOf_int_mk Try.underlying3 (wf64 hid))
  obtain ⟨a, rfl, hc, hwc⟩ := plainElem_int_inv Try.underlying3 hv
  rw [hrun, (hp id).1]
  have hat := congrArg Prod.fst hc
  cases e : pos id with
  | none =>
    have hh := (hp id).1
    rw [e] at hh
    rw [atKey_of_not_has hh] at hat
    simp at hat
    simp [hat]
  | some p =>
    have := (hp id).2 p e
    rw [this] at hat
    simp at hat
    simp [hat]

theorem MapIs.store (h : MapIs w b c pos) (hc : c ≤ 8192) {id : Int} (hid : -9223372036854775808 ≤ id ∧ id < 9223372036854775808) {p : Nat} (hp : p ≤ 8192) :
    ∃ w', (Instr.mapUpdate 67 (.map (some b)) (.int .i64 id) (.int .i64 (p : Int))).run Try.prog w = .ok () w' ∧ MapIs w' b (cnt c (pos id)) (updp pos id (some p)) ∧ w.grownBy w' (some b) := by
  obtain ⟨D, hown, hs, hpos⟩ := h
  obtain ⟨w', hrun, hown', hg⟩ := hown.store law3 Try.underlying67 (by unfold maxLen; omega) (keyOf_int_mk Try.underlying3 (wf64 hid)) (plainElem_int Try.underlying3 (wf64 (x := (p : Int)) (by omega)))
  refine ⟨w', hrun, ⟨D.put (.int .i64 id) (.lit (.int .i64 (p : Int))), ?_, ?_, ?_⟩, hg.grown⟩
  · have := ownsMap_tight hown'
    rw [size_put (hown.tidy law3), (hpos id).1, hs] at this
    exact this
  · rw [size_put (hown.tidy law3), (hpos id).1, hs]; rfl
  · intro k
    by_cases e : k = id
    · subst e
      rw [updp_same]
      refine ⟨by rw [has_put_same hown.isMap (isKey_int k)]; rfl, fun q hq => ?_⟩
      cases hq
      rw [atKey_put_same hown.isMap (isKey_int k)]
    · have ne : (Lit.int .i64 k) ≠ .int .i64 id := by intro h; cases h; exact e rfl
      rw [updp_other e]
      refine ⟨by rw [has_put_other ne]; exact (hpos k).1, fun q hq => ?_⟩
      rw [atKey_put_other ne]
      exact (hpos k).2 q hq

theorem MapIs.drop (h : MapIs w b c pos) {id : Int} (hid : -9223372036854775808 ≤ id ∧ id < 9223372036854775808) (hin : (pos id).isSome = true) (ty : TypeId) :
    ∃ w', (Builtin.delete_ #[67, 3] ty #[.map (some b), .int .i64 id]).run Try.prog w = .ok (.tuple #[]) w' ∧ MapIs w' b (c - 1) (updp pos id none) ∧ w.grownBy w' (some b) := by
  obtain ⟨D, hown, hs, hpos⟩ := h
  obtain ⟨w', hrun, hown', hg⟩ := hown.drop law3 Try.underlying67 (keyOf_int_mk Try.underlying3 (wf64 hid)) ty
  have hsz : Maps.size (D.del (.int .i64 id)) = c - 1 := by
    have := size_del (k := .int .i64 id) (hown.tidy law3)
    rw [(hpos id).1, hin, if_pos rfl, hs] at this
    omega
  refine ⟨w', hrun, ⟨D.del (.int .i64 id), ?_, hsz, ?_⟩, hg.grown⟩
  · have := ownsMap_tight hown'
    rwa [hsz] at this
  · intro k
    by_cases e : k = id
    · subst e
      rw [updp_same]
      exact ⟨by rw [has_del_same]; rfl, fun q hq => by cases hq⟩
    · have ne : (Lit.int .i64 k) ≠ .int .i64 id := by intro h; cases h; exact e rfl
      rw [updp_other e]
      refine ⟨by rw [has_del_other ne]; exact (hpos k).1, fun q hq => ?_⟩
      rw [atKey_del_other ne]
      exact (hpos k).2 q hq
end

theorem MapIs.made (w : World) : MapIs (w.alloc (.map #[] 0)) w.heap.size 0 (fun _ => none) :=
  ⟨.map [], World.ownsMap_made _ _ _ _, rfl, fun id => ⟨rfl, fun p h => by cases h⟩⟩
end Go.Proofs.Ythamaiibknmeeaa
