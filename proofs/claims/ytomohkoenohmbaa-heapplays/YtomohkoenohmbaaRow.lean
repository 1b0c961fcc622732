/-
  Slices of items that came in: how they lie in memory.
-/
import Derived.Test.YtomohkoenohmbaaWalkK
import Derived.Deep.SlicePairs
namespace Go.Proofs.Ytomohkoenohmbaa
open Go.RowKit Go.Lib Go.Sort Go.Maps

/-- The slice at a of n items lies in memory, and its items are f 0, f 1, .. -/
def Row (w : World) (a : Option Addr) (n : Nat) (f : Nat → Int × Int) : Prop :=
  0 < n → ∃ b off, a = some ⟨b, off, none⟩ ∧ b < w.heap.size ∧ ∀ k, k < n → w.cell? ⟨b, off + k * 2, none⟩ = some (.int .u64 (f k).1) ∧ w.cell? ⟨b, off + k * 2 + 1, none⟩ = some (.int .i64 (f k).2)

theorem Row.carry {w w' : World} {a : Option Addr} {n : Nat} {f : Nat → Int × Int} (h : Row w a n f) (g : Below w.heap.size w w') : Row w' a n f := by
  intro hn
  obtain ⟨b, off, e, hb, hc⟩ := h hn
  exact ⟨b, off, e, Nat.lt_of_lt_of_le hb g.size, fun k hk => ⟨(g.cell (p := ⟨b, off + k * 2, none⟩) hb).trans (hc k hk).1, (g.cell (p := ⟨b, off + k * 2 + 1, none⟩) hb).trans (hc k hk).2⟩⟩

theorem wf_u {x : Int} (h : (Lit.int .u64 x).wf = true) : 0 ≤ x ∧ x < 18446744073709551616 := by
  simp [Lit.wf, IntKind.min, IntKind.max, IntKind.bits, IntKind.signed] at h; omega
theorem wf_i {x : Int} (h : (Lit.int .i64 x).wf = true) : -9223372036854775808 ≤ x ∧ x < 9223372036854775808 := by
  simp [Lit.wf, IntKind.min, IntKind.max, IntKind.bits, IntKind.signed] at h; omega

theorem open_items {H : Type} {enc : TypeId × Value → H} {W : World} {base : Nat} {sp : Nat → Bool} {held : Bool} {fuel : Nat} {a : Option Addr} {len cap : Nat} {x : DataW H × List MemPlace}
    (h : DataW.trod enc Try.prog W base sp held fuel 26 (Value.slice a len cap).cells.toList = some x) :
    ∃ f, Row W a len f ∧ (∀ k, k < len → Wf (f k)) ∧ len ≤ cap ∧ cap ≤ maxLen ∧ (a = none → len = 0 ∧ cap = 0) := by
  rcases Go.Deep.open_slice_pairs Try.underlying26 Try.underlying29 (by kernel_rfl) rfl rfl (by kernel_rfl) (by kernel_rfl) h with ⟨hcs, _⟩ | ⟨x, l, c, m, n, V0, V1, D0, D1, P0, P1, hcs, _, hl, hm, hmm, _, hc⟩
  · simp [Value.cells] at hcs
    obtain ⟨rfl, rfl, rfl⟩ := hcs
    exact ⟨fun _ => (0, 0), fun h => by omega, fun k hk => by omega, Nat.le_refl _, Nat.zero_le _, fun _ => ⟨rfl, rfl⟩⟩
  · simp [Value.cells] at hcs
    obtain ⟨rfl, rfl, rfl⟩ := hcs
    have hlm : len ≤ m := by rw [hmm]; split <;> omega
    have e0 : ∀ k, k < len → V0 k = .int .u64 (intOf (V0 k)) ∧ V1 k = .int .i64 (intOf (V1 k)) ∧ Wf (intOf (V0 k), intOf (V1 k)) := by
      intro k hk
      obtain ⟨_, _, t0, t1⟩ := hc k (by omega)
      obtain ⟨n0, h0, _, w0⟩ := DataW.trod_int Try.underlying27 t0
      obtain ⟨n1, h1, _, w1⟩ := DataW.trod_int Try.underlying3 t1
      simp at h0 h1
      rw [h0, h1]
      exact ⟨rfl, rfl, wf_u w0, wf_i w1⟩
    refine ⟨fun k => (intOf (V0 k), intOf (V1 k)), fun hn => ?_, fun k hk => (e0 k hk).2.2, hl, hm, fun h => by cases h⟩
    obtain ⟨b, off, spot⟩ := x
    have hspot : spot = none := by simpa [Addr.add] using World.cell?_spot (hc 0 (by omega)).1
    subst hspot
    refine ⟨b, off, rfl, ?_, fun k hk => ?_⟩
    · have := (hc 0 (by omega)).1
      rw [Go.WideShapes.add_plain] at this
      exact World.block_lt_of_cell? _ _ this
    · obtain ⟨q0, q1, _, _⟩ := hc k (by omega)
      rw [Go.WideShapes.add_plain] at q0 q1
      rw [(e0 k hk).1] at q0
      rw [(e0 k hk).2.1] at q1
      exact ⟨q0, q1⟩
end Go.Proofs.Ytomohkoenohmbaa
