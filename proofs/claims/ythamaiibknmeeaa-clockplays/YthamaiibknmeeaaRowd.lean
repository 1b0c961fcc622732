/-
  Slices of dues, of numbers and of steps of a script that came in: how they lie in memory.
-/
import Derived.Test.YthamaiibknmeeaaAwake
import Derived.Deep.SlicePairs
namespace Go.Proofs.Ythamaiibknmeeaa
open Go.RowKit Go.Lib Go.Sort Go.Maps

theorem wf_i {x : Int} (h : (Lit.int .i64 x).wf = true) : -9223372036854775808 ≤ x ∧ x < 9223372036854775808 := by
  simp [Lit.wf, IntKind.min, IntKind.max, IntKind.bits, IntKind.signed] at h; omega

/-- Moment and id are numbers of their types. -/
def WfD (x : Int × Int) : Prop := (-9223372036854775808 ≤ x.1 ∧ x.1 < 9223372036854775808) ∧ (-9223372036854775808 ≤ x.2 ∧ x.2 < 9223372036854775808)

theorem open_dues {H : Type} {enc : TypeId × Value → H} {W : World} {base : Nat} {sp : Nat → Bool} {held : Bool} {fuel : Nat} {a : Option Addr} {len cap : Nat} {x : DataW H × List MemPlace}
    (h : DataW.trod enc Try.prog W base sp held fuel 26 (Value.slice a len cap).cells.toList = some x) :
    ∃ f, DRow W a len f ∧ (∀ k, k < len → WfD (f k)) ∧ len ≤ cap ∧ cap ≤ maxLen ∧ (a = none → len = 0 ∧ cap = 0) := by
  rcases Go.Deep.open_slice_pairs Try.underlying26 Try.underlying43 (by kernel_rfl) rfl rfl (by kernel_rfl) (by kernel_rfl) h with ⟨hcs, _⟩ | ⟨x, l, c, m, n, V0, V1, D0, D1, P0, P1, hcs, _, hl, hm, hmm, _, hc⟩
  · simp [Value.cells] at hcs
    obtain ⟨rfl, rfl, rfl⟩ := hcs
    exact ⟨fun _ => (0, 0), fun h => by omega, fun k hk => by omega, Nat.le_refl _, Nat.zero_le _, fun _ => ⟨rfl, rfl⟩⟩
  · simp [Value.cells] at hcs
    obtain ⟨rfl, rfl, rfl⟩ := hcs
    have hlm : len ≤ m := by rw [hmm]; split <;> omega
    have e0 : ∀ k, k < len → V0 k = .int .i64 (intOf (V0 k)) ∧ V1 k = .int .i64 (intOf (V1 k)) ∧ WfD (intOf (V1 k), intOf (V0 k)) := by
      intro k hk
      obtain ⟨_, _, t0, t1⟩ := hc k (by omega)
      obtain ⟨n0, h0, _, w0⟩ := DataW.trod_int Try.underlying3 t0
      obtain ⟨n1, h1, _, w1⟩ := DataW.trod_int Try.underlying3 t1
      simp at h0 h1
      rw [h0, h1]
      exact ⟨rfl, rfl, wf_i w1, wf_i w0⟩
    refine ⟨fun k => (intOf (V1 k), intOf (V0 k)), fun hn => ?_, fun k hk => (e0 k hk).2.2, hl, hm, fun h => by cases h⟩
    obtain ⟨b, off, spot⟩ := x
    have hspot : spot = none := by simpa [Addr.add] using World.cell?_spot (hc 0 (by omega)).1
    subst hspot
    refine ⟨b, off, rfl, ?_, fun k hk => ?_⟩
    · have := (hc 0 (by omega)).1
      rw [Go.WideShapes.add_plain] at this
      exact World.block_lt_of_cell? _ _ this
    · obtain ⟨q0, q1, _, _⟩ := hc k (by omega)
      rw [Go.WideShapes.add_plain] at q0 q1
      rw [(e0 k hk).1] at q0
      rw [(e0 k hk).2.1] at q1
      exact ⟨q0, q1⟩

/-- The slice at a of n numbers lies in memory, and they are f 0, f 1, .. -/
def RowI (w : World) (a : Option Addr) (n : Nat) (f : Nat → Int) : Prop :=
  0 < n → ∃ b off, a = some ⟨b, off, none⟩ ∧ b < w.heap.size ∧ ∀ k, k < n → w.cell? ⟨b, off + k, none⟩ = some (.int .i64 (f k))
def WfI (x : Int) : Prop := -9223372036854775808 ≤ x ∧ x < 9223372036854775808
theorem RowI.carry {w w' : World} {a : Option Addr} {n : Nat} {f : Nat → Int} (h : RowI w a n f) (g : Below w.heap.size w w') : RowI w' a n f := by
  intro hn
  obtain ⟨b, off, e, hb, hc⟩ := h hn
  exact ⟨b, off, e, Nat.lt_of_lt_of_le hb g.size, fun k hk => (g.cell (p := ⟨b, off + k, none⟩) hb).trans (hc k hk)⟩

theorem open_ints {H : Type} {enc : TypeId × Value → H} {W : World} {base : Nat} {sp : Nat → Bool} {held : Bool} {fuel : Nat} {a : Option Addr} {len cap : Nat} {x : DataW H × List MemPlace}
    (h : DataW.trod enc Try.prog W base sp held fuel 48 (Value.slice a len cap).cells.toList = some x) :
    ∃ f, RowI W a len f ∧ (∀ k, k < len → WfI (f k)) ∧ len ≤ cap ∧ cap ≤ maxLen ∧ (a = none → len = 0 ∧ cap = 0) := by
  have c3 : Try.prog.cellsOf 3 = 1 := by kernel_rfl
  rcases Go.Deep.open_slice Try.underlying48 h with ⟨hcs, _⟩ | ⟨x, l, c, m, n, D, Pl, hcs, _, hl, hm, hmm, _, hc⟩
  · simp [Value.cells] at hcs
    obtain ⟨rfl, rfl, rfl⟩ := hcs
    exact ⟨fun _ => 0, fun h => by omega, fun k hk => by omega, Nat.le_refl _, Nat.zero_le _, fun _ => ⟨rfl, rfl⟩⟩
  · simp [Value.cells] at hcs
    obtain ⟨rfl, rfl, rfl⟩ := hcs
    have hlm : len ≤ m := by rw [hmm]; split <;> omega
    have each : ∀ k, k < len → ∃ q : Int, W.cell? (x.add k) = some (.int .i64 q) ∧ WfI q := by
      intro k hk
      obtain ⟨cs', h1, h2⟩ := hc k (by omega)
      rw [c3] at h1
      obtain ⟨_, hlen, hcell⟩ := World.cells?_some h1
      match cs', hlen with
      | [v0], _ =>
        obtain ⟨n0, h0, _, w0⟩ := DataW.trod_int Try.underlying3 h2
        simp at h0
        have d0 := hcell 0 (by omega)
        rw [Go.Deep.add_add] at d0
        refine ⟨n0, ?_, wf_i w0⟩
        rw [← h0]; simpa using d0
    obtain ⟨q, hq⟩ := Go.Deep.choose_lt each
    refine ⟨q, fun hn => ?_, fun k hk => (hq k hk).2, hl, hm, fun h => by cases h⟩
    obtain ⟨b, off, spot⟩ := x
    have hspot : spot = none := by simpa [Addr.add] using World.cell?_spot (hq 0 (by omega)).1
    subst hspot
    refine ⟨b, off, rfl, ?_, fun k hk => ?_⟩
    · have := (hq 0 (by omega)).1
      rw [Go.WideShapes.add_plain] at this
      exact World.block_lt_of_cell? _ _ this
    · have q0 := (hq k hk).1
      rw [Go.WideShapes.add_plain] at q0
      exact q0

/-- The slice at a of n steps lies in memory: what is to be done, and the moment and the id. -/
def RowO (w : World) (a : Option Addr) (n : Nat) (f : Nat → Int × (Int × Int)) : Prop :=
  0 < n → ∃ b off, a = some ⟨b, off, none⟩ ∧ b < w.heap.size ∧ ∀ k, k < n → w.cell? ⟨b, off + k * 3, none⟩ = some (.int .i64 (f k).1) ∧ w.cell? ⟨b, off + k * 3 + 1, none⟩ = some (.int .i64 (f k).2.2) ∧ w.cell? ⟨b, off + k * 3 + 2, none⟩ = some (.int .i64 (f k).2.1)
def WfO (x : Int × (Int × Int)) : Prop := WfI x.1 ∧ WfD x.2

theorem open_op {H : Type} {enc : TypeId × Value → H} {W : World} {base : Nat} {sp : Nat → Bool} {held : Bool} {n : Nat} {v0 v1 v2 : Value} {x : DataW H × List MemPlace} (h : DataW.trod enc Try.prog W base sp held n 30 [v0, v1, v2] = some x) :
    v0 = .int .i64 (intOf v0) ∧ v1 = .int .i64 (intOf v1) ∧ v2 = .int .i64 (intOf v2) ∧ WfO (intOf v0, (intOf v2, intOf v1)) := by
  obtain ⟨xs, k, hk, hxy, _, hxl, hf⟩ := DataW.trod_struct Try.underlying30 h
  have c3 : Try.prog.cellsOf 3 = 1 := by kernel_rfl
  match xs, hxl with
  | [y0, y1, y2], _ =>
    have g0 := hf 0 _ rfl
    have g1 := hf 1 _ rfl
    have g2 := hf 2 _ rfl
    simp [c3] at g0 g1 g2
    obtain ⟨n0, h0, _, w0⟩ := DataW.trod_int Try.underlying3 g0
    obtain ⟨n1, h1, _, w1⟩ := DataW.trod_int Try.underlying3 g1
    obtain ⟨n2, h2, _, w2⟩ := DataW.trod_int Try.underlying3 g2
    simp at h0 h1 h2
    subst h0 h1 h2
    exact ⟨rfl, rfl, rfl, wf_i w0, wf_i w2, wf_i w1⟩

theorem open_ops {H : Type} {enc : TypeId × Value → H} {W : World} {base : Nat} {sp : Nat → Bool} {held : Bool} {fuel : Nat} {a : Option Addr} {len cap : Nat} {x : DataW H × List MemPlace}
    (h : DataW.trod enc Try.prog W base sp held fuel 22 (Value.slice a len cap).cells.toList = some x) :
    ∃ f, RowO W a len f ∧ (∀ k, k < len → WfO (f k)) ∧ len ≤ cap ∧ cap ≤ maxLen ∧ (a = none → len = 0 ∧ cap = 0) := by
  have c30 : Try.prog.cellsOf 30 = 3 := by kernel_rfl
  rcases Go.Deep.open_slice Try.underlying22 h with ⟨hcs, _⟩ | ⟨x, l, c, m, n, D, Pl, hcs, _, hl, hm, hmm, _, hc⟩
  · simp [Value.cells] at hcs
    obtain ⟨rfl, rfl, rfl⟩ := hcs
    exact ⟨fun _ => (0, (0, 0)), fun h => by omega, fun k hk => by omega, Nat.le_refl _, Nat.zero_le _, fun _ => ⟨rfl, rfl⟩⟩
  · simp [Value.cells] at hcs
    obtain ⟨rfl, rfl, rfl⟩ := hcs
    have hlm : len ≤ m := by rw [hmm]; split <;> omega
    have each : ∀ k, k < len → ∃ q : Int × (Int × Int), (W.cell? (x.add (k * 3)) = some (.int .i64 q.1) ∧ W.cell? (x.add (k * 3 + 1)) = some (.int .i64 q.2.2) ∧ W.cell? (x.add (k * 3 + 2)) = some (.int .i64 q.2.1)) ∧ WfO q := by
      intro k hk
      obtain ⟨cs', h1, h2⟩ := hc k (by omega)
      rw [c30] at h1
      obtain ⟨_, hlen, hcell⟩ := World.cells?_some h1
      match cs', hlen with
      | [v0, v1, v2], _ =>
        obtain ⟨e0, e1, e2, hw⟩ := open_op h2
        have d0 := hcell 0 (by omega)
        have d1 := hcell 1 (by omega)
        have d2 := hcell 2 (by omega)
        rw [Go.Deep.add_add] at d0 d1 d2
        refine ⟨(intOf v0, (intOf v2, intOf v1)), ⟨?_, ?_, ?_⟩, hw⟩
        · rw [← e0]; simpa using d0
        · rw [← e1]; simpa using d1
        · rw [← e2]; simpa using d2
    obtain ⟨q, hq⟩ := Go.Deep.choose_lt each
    refine ⟨q, fun hn => ?_, fun k hk => (hq k hk).2, hl, hm, fun h => by cases h⟩
    obtain ⟨b, off, spot⟩ := x
    have hspot : spot = none := by simpa [Addr.add] using World.cell?_spot (hq 0 (by omega)).1.1
    subst hspot
    refine ⟨b, off, rfl, ?_, fun k hk => ?_⟩
    · have := (hq 0 (by omega)).1.1
      rw [Go.WideShapes.add_plain] at this
      exact World.block_lt_of_cell? _ _ this
    · obtain ⟨⟨q0, q1, q2⟩, _⟩ := hq k hk
      rw [Go.WideShapes.add_plain] at q0 q1 q2
      exact ⟨q0, q1, q2⟩
end Go.Proofs.Ythamaiibknmeeaa
