/-
  A slice of bytes in memory of the call's own, whichever mark its block bears; append onto it; what the reference's 'Flow' answers.
-/
import Derived.Test.YthelchhmjcpafaaRefA
import Derived.Deep.AppendSrc
import Derived.Deep.MidRow
import Derived.Laws.IdiomStrings
import Derived.OwnWalk
namespace Go.Proofs.Ythelchhmjcpafaa
open Go.RowKit

/-- Cells laid in a block from B on. -/
theorem below_set {B g : Nat} (hg : B ≤ g) (vs : List Value) : ∀ (o : Nat) (w : World), Below B w (w.setCells g o vs) := by
  induction vs with
  | nil => intro o w; exact Below.refl B w
  | cons v r ih => intro o w; exact ((Below.refl B w).setCell (p := ⟨g, o, none⟩) hg v).trans (ih (o + 1) _)

theorem Try.info5 : (Try.prog.info? 5).map (fun i => (i.zero, i.size, i.bytes)) = some (some (.int .u8 0), 1, 1) := by kernel_rfl

/-- The bytes as cells. -/
def cellsB (l : List UInt8) : List Value := l.map fun b => Value.int .u8 b.toNat
theorem cellsB_len (l : List UInt8) : (cellsB l).length = l.length := by simp [cellsB]
theorem cellsB_one (l : List UInt8) : ∀ u ∈ cellsB l, u.oneCell' = true := by
  intro u hu
  obtain ⟨_, _, rfl⟩ := List.mem_map.1 hu
  rfl
theorem cellsB_at (l : List UInt8) (j : Nat) (hj : j < l.length) : (cellsB l)[j]? = some (.int .u8 (l[j].toNat : Int)) := by simp [cellsB, hj]

/-- v is a slice of the bytes l, in a block from base on, of which no cell is frozen. -/
structure Bts (base : Nat) (w : World) (v : Value) (l : List UInt8) (g cap : Nat) : Prop where
  val : v = .slice (some ⟨g, 0, none⟩) l.length cap
  low : base ≤ g
  lt : g < w.heap.size
  room : l.length ≤ cap
  there : ∀ j, j < cap → (w.cell? ⟨g, j, none⟩).isSome = true
  free : ∀ j, j < cap → w.frozen? ⟨g, j, none⟩ = false
  cell : ∀ j (hj : j < l.length), w.cell? ⟨g, j, none⟩ = some (.int .u8 (l[j].toNat : Int))

theorem Bts.below {base : Nat} {w w' : World} {v : Value} {l : List UInt8} {g cap : Nat} (h : Bts base w v l g cap) (b : Below w.heap.size w w') : Bts base w' v l g cap where
  val := h.val
  low := h.low
  lt := Nat.lt_of_lt_of_le h.lt b.size
  room := h.room
  there j hj := by rw [b.cell (p := ⟨g, j, none⟩) h.lt]; exact h.there j hj
  free j hj := by rw [b.frozen (p := ⟨g, j, none⟩) h.lt]; exact h.free j hj
  cell j hj := by rw [b.cell (p := ⟨g, j, none⟩) h.lt]; exact h.cell j hj

theorem add_at (g j : Nat) : (⟨g, 0, none⟩ : Addr).add j = ⟨g, j, none⟩ := by unfold Addr.add; split <;> simp_all

theorem Bts.cells {base : Nat} {w : World} {v : Value} {l : List UInt8} {g cap : Nat} (h : Bts base w v l g cap) : ∀ j u, (cellsB l)[j]? = some u → w.cell? ((⟨g, 0, none⟩ : Addr).add j) = some u := by
  intro j u hu
  have hj : j < l.length := by
    have := (List.getElem?_eq_some_iff.1 hu).1
    rwa [cellsB_len] at this
  rw [cellsB_at l j hj] at hu
  rw [add_at, h.cell j hj, hu]

/-- append, both arms. -/
theorem app_bytes {base : Nat} {w : World} {v : Value} {l : List UInt8} {g cap : Nat} (h : Bts base w v l g cap) (tx ty : TypeId) (x : Value) (m : List UInt8) (src : Src Try.prog 1 tx x m.length (cellsB m) w)
    (hbase : base ≤ w.heap.size) (hn : l.length + m.length ≤ 1000000) :
    ∃ v' w' g' cap', (Builtin.append_ #[29, tx] ty #[v, x]).run Try.prog w = .ok v' w' ∧ Bts base w' v' (l ++ m) g' cap' ∧ Below base w w' := by
  obtain ⟨i, hi, hz0, hz1, hz2⟩ := info_parts Try.info5
  have src' : Src Try.prog i.size tx x m.length (cellsB m) w := by rw [hz1]; exact src
  obtain rfl := h.val
  by_cases hroom : l.length + m.length ≤ cap
  · have hc : ∀ j, j < (cellsB m).length → (w.cell? ⟨g, 0 + l.length * i.size + j, none⟩).isSome = true := fun j hj => by
      rw [cellsB_len] at hj
      rw [hz1]
      exact h.there _ (by omega)
    have hf : ∀ j, j < (cellsB m).length → w.frozen? ⟨g, 0 + l.length * i.size + j, none⟩ = false := fun j hj => by
      rw [cellsB_len] at hj
      rw [hz1]
      exact h.free _ (by omega)
    refine ⟨_, _, g, cap, run_append_room_src w 29 tx ty 5 i Try.underlying29 hi g 0 l.length cap x m.length (cellsB m) src' hroom hc hf, ?_, below_set h.low _ _ _⟩
    have b0 : Below 0 w (w.setCells g (0 + l.length * i.size) (cellsB m)) := below_set (Nat.zero_le _) _ _ _
    refine ⟨by rw [List.length_append], h.low, Nat.lt_of_lt_of_le h.lt b0.size, by rw [List.length_append]; exact hroom, ?_, ?_, ?_⟩
    · intro j hj
      exact World.isSome_setCells _ _ _ _ _ (h.there j hj)
    · intro j hj
      rw [World.frozen?_setCells]
      exact h.free j hj
    · intro j hj
      rw [List.length_append] at hj
      by_cases c : j < l.length
      · rw [World.cell?_setCells_out _ _ _ _ _ (fun _ _ => .inl (by rw [hz1]; show j < _; omega)), h.cell j c, List.getElem_append_left c]
      · have hk := World.cell?_setCells_in g (cellsB m) (0 + l.length * i.size) w hc (j - l.length) (by rw [cellsB_len]; omega)
        rw [show 0 + l.length * i.size + (j - l.length) = j by rw [hz1]; omega] at hk
        rw [hk, List.getElem_append_right (by omega)]
        simp [cellsB]
  · have hold : (Builtin.firstCells i.size l.length (.slice (some ⟨g, 0, none⟩) l.length cap)).run Try.prog w.drew = .ok (cellsB l).toArray w.drew :=
      run_firstCells_some w.drew i.size l.length ⟨g, 0, none⟩ l.length cap (cellsB l) (by rw [cellsB_len, hz1, Nat.mul_one]) (by simpa using h.cells)
    have hr := run_append_grow_src w 29 tx ty 5 i (.int .u8 0) Try.underlying29 hi hz0 (some ⟨g, 0, none⟩) l.length cap (cellsB l) hold x m.length (cellsB m) src' (by omega) (by omega) (by rw [hz2]; exact growslice_fits (by omega) (by omega))
    have hge := grownCap_ge w (l.length + m.length) cap 5
    have hz : (Value.int IntKind.u8 0).cells.size = 1 := rfl
    refine ⟨_, _, w.heap.size, grownCap w (l.length + m.length) cap 5, hr, ⟨by rw [List.length_append], hbase, by simp, by rw [List.length_append]; exact hge, ?_, ?_, ?_⟩, ?_⟩
    · intro j hj
      rw [show w.heap.size = w.drew.heap.size from rfl, World.cell?_alloc_mark]
      rw [Array.getElem?_eq_getElem (by
        simp only [Array.size_append, List.size_toArray, List.length_append, cellsB_len, size_zeroCells, hz]
        omega)]
      rfl
    · intro j _
      rw [show w.heap.size = w.drew.heap.size from rfl, World.frozen?_alloc_mark]
      simp
    · intro j hj
      rw [show w.heap.size = w.drew.heap.size from rfl, World.cell?_alloc_mark]
      have e : cellsB l ++ cellsB m = cellsB (l ++ m) := by simp [cellsB]
      rw [e, Array.getElem?_append_left (by rw [List.size_toArray, cellsB_len]; exact hj), List.getElem?_toArray]
      exact cellsB_at (l ++ m) j hj
    · exact (Below.refl base w).drew.alloc hbase _
end Go.Proofs.Ythelchhmjcpafaa
