/-
  Slices of steps of a script that came in: how they lie in memory.
-/
import Derived.Test.YtomohkoenohmbaaWalkS
namespace Go.Proofs.Ytomohkoenohmbaa
open Go.RowKit Go.Lib Go.Sort Go.Maps

/-- The slice at a of n steps lies in memory: what is to be done, and the item. -/
def RowO (w : World) (a : Option Addr) (n : Nat) (f : Nat → Int × (Int × Int)) : Prop :=
  0 < n → ∃ b off, a = some ⟨b, off, none⟩ ∧ b < w.heap.size ∧ ∀ k, k < n → w.cell? ⟨b, off + k * 3, none⟩ = some (.int .i64 (f k).1) ∧ w.cell? ⟨b, off + k * 3 + 1, none⟩ = some (.int .u64 (f k).2.1) ∧ w.cell? ⟨b, off + k * 3 + 2, none⟩ = some (.int .i64 (f k).2.2)
def WfO (x : Int × (Int × Int)) : Prop := (-9223372036854775808 ≤ x.1 ∧ x.1 < 9223372036854775808) ∧ Wf x.2

theorem open_op {H : Type} {enc : TypeId × Value → H} {W : World} {base : Nat} {sp : Nat → Bool} {held : Bool} {n : Nat} {v0 v1 v2 : Value} {x : DataW H × List MemPlace} (h : DataW.trod enc Try.prog W base sp held n 31 [v0, v1, v2] = some x) :
    v0 = .int .i64 (intOf v0) ∧ v1 = .int .u64 (intOf v1) ∧ v2 = .int .i64 (intOf v2) ∧ WfO (intOf v0, (intOf v1, intOf v2)) := by
  obtain ⟨xs, k, hk, hxy, _, hxl, hf⟩ := DataW.trod_struct Try.underlying31 h
  have c3 : Try.prog.cellsOf 3 = 1 := by kernel_rfl
  have c27 : Try.prog.cellsOf 27 = 1 := by kernel_rfl
  have c29 : Try.prog.cellsOf 29 = 2 := by kernel_rfl
  match xs, hxl with
  | [y0, y1], _ =>
    have g0 := hf 0 _ rfl
    have g1 := hf 1 _ rfl
    simp [c3, c29] at g0 g1
    obtain ⟨n0, h0, _, w0⟩ := DataW.trod_int Try.underlying3 g0
    obtain ⟨xs', k', hk', hxy', _, hxl', hf'⟩ := DataW.trod_struct Try.underlying29 g1
    match xs', hxl' with
    | [z0, z1], _ =>
      have q0 := hf' 0 _ rfl
      have q1 := hf' 1 _ rfl
      simp [c3, c27] at q0 q1
      obtain ⟨n1, h1, _, w1⟩ := DataW.trod_int Try.underlying27 q0
      obtain ⟨n2, h2, _, w2⟩ := DataW.trod_int Try.underlying3 q1
      simp at h0 h1 h2
      subst h0 h1 h2
      exact ⟨rfl, rfl, rfl, wf_i w0, wf_u w1, wf_i w2⟩

theorem open_ops {H : Type} {enc : TypeId × Value → H} {W : World} {base : Nat} {sp : Nat → Bool} {held : Bool} {fuel : Nat} {a : Option Addr} {len cap : Nat} {x : DataW H × List MemPlace}
    (h : DataW.trod enc Try.prog W base sp held fuel 22 (Value.slice a len cap).cells.toList = some x) :
    ∃ f, RowO W a len f ∧ (∀ k, k < len → WfO (f k)) ∧ len ≤ cap ∧ cap ≤ maxLen ∧ (a = none → len = 0 ∧ cap = 0) := by
  have c31 : Try.prog.cellsOf 31 = 3 := by kernel_rfl
  rcases Go.Deep.open_slice Try.underlying22 h with ⟨hcs, _⟩ | ⟨x, l, c, m, n, D, Pl, hcs, _, hl, hm, hmm, _, hc⟩
  · simp [Value.cells] at hcs
    obtain ⟨rfl, rfl, rfl⟩ := hcs
    exact ⟨fun _ => (0, (0, 0)), fun h => by omega, fun k hk => by omega, Nat.le_refl _, Nat.zero_le _, fun _ => ⟨rfl, rfl⟩⟩
  · simp [Value.cells] at hcs
    obtain ⟨rfl, rfl, rfl⟩ := hcs
    have hlm : len ≤ m := by rw [hmm]; split <;> omega
    have each : ∀ k, k < len → ∃ q : Int × (Int × Int), (W.cell? (x.add (k * 3)) = some (.int .i64 q.1) ∧ W.cell? (x.add (k * 3 + 1)) = some (.int .u64 q.2.1) ∧ W.cell? (x.add (k * 3 + 2)) = some (.int .i64 q.2.2)) ∧ WfO q := by
      intro k hk
      obtain ⟨cs', h1, h2⟩ := hc k (by omega)
      rw [c31] at h1
      obtain ⟨_, hlen, hcell⟩ := World.cells?_some h1
      match cs', hlen with
      | [v0, v1, v2], _ =>
        obtain ⟨e0, e1, e2, hw⟩ := open_op h2
        have d0 := hcell 0 (by omega)
        have d1 := hcell 1 (by omega)
        have d2 := hcell 2 (by omega)
        rw [Go.Deep.add_add] at d0 d1 d2
        refine ⟨(intOf v0, (intOf v1, intOf v2)), ⟨?_, ?_, ?_⟩, hw⟩
        · rw [← e0]; simpa using d0
        · rw [← e1]; simpa using d1
        · rw [← e2]; simpa using d2
    obtain ⟨q, hq⟩ := Go.Deep.choose_lt each
    refine ⟨q, fun hn => ?_, fun k hk => (hq k hk).2, hl, hm, fun h => by cases h⟩
    obtain ⟨b, off, spot⟩ := x
    have hspot : spot = none := by simpa [Addr.add] using World.cell?_spot (hq 0 (by omega)).1.1
    subst hspot
    refine ⟨b, off, rfl, ?_, fun k hk => ?_⟩
    · have := (hq 0 (by omega)).1.1
      rw [Go.WideShapes.add_plain] at this
      exact World.block_lt_of_cell? _ _ this
    · obtain ⟨⟨q0, q1, q2⟩, _⟩ := hq k hk
      rw [Go.WideShapes.add_plain] at q0 q1 q2
      exact ⟨q0, q1, q2⟩
end Go.Proofs.Ytomohkoenohmbaa
