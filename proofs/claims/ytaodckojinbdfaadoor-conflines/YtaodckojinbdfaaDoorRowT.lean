/-
  Lists of bytes that came in, as the statements' frame tells them. Condition: they lie in memory.
-/
import Derived.Test.YtaodckojinbdfaaDoorAid
import Derived.SliceStrings
import Derived.Deep.SlicePairs
namespace Go.Proofs.YtaodckojinbdfaaDoor
open Go.RowKit

/-- A list of bytes that lies in memory. -/
def RowB (w : World) (a : Option Addr) (n : Nat) (f : Nat → Nat) : Prop :=
  0 < n → ∃ b off, a = some ⟨b, off, none⟩ ∧ b < w.heap.size ∧ ∀ k, k < n → w.cell? ⟨b, off + k, none⟩ = some (.int .u8 (f k : Nat))
theorem RowB.carry {w w' : World} {a : Option Addr} {n : Nat} {f : Nat → Nat} (h : RowB w a n f) (g : Below w.heap.size w w') : RowB w' a n f := by
  intro hn
  obtain ⟨b, off, e, hb, hc⟩ := h hn
  exact ⟨b, off, e, Nat.lt_of_lt_of_le hb g.size, fun k hk => (g.cell (p := ⟨b, off + k, none⟩) hb).trans (hc k hk)⟩

theorem wf_b {x : Int} (h : (Lit.int .u8 x).wf = true) : 0 ≤ x ∧ x < 256 := by
  simp [Lit.wf, IntKind.min, IntKind.max, IntKind.bits, IntKind.signed] at h; omega
theorem open_byts {H : Type} {enc : TypeId × Value → H} {W : World} {base : Nat} {sp : Nat → Bool} {held : Bool} {fuel : Nat} {a : Option Addr} {len cap : Nat} {x : DataW H × List MemPlace}
    (h : DataW.trod enc Tryd.prog W base sp held fuel 22 (Value.slice a len cap).cells.toList = some x) :
    ∃ f : Nat → Nat, RowB W a len f ∧ (∀ k, k < len → f k < 256) ∧ len ≤ cap ∧ cap ≤ maxLen ∧ (a = none → len = 0 ∧ cap = 0) := by
  have c3 : Tryd.prog.cellsOf 5 = 1 := by kernel_rfl
  rcases Go.Deep.open_slice Tryd.underlying22 h with ⟨hcs, _⟩ | ⟨x, l, c, m, n, D, Pl, hcs, _, hl, hm, hmm, _, hc⟩
  · simp [Value.cells] at hcs
    obtain ⟨rfl, rfl, rfl⟩ := hcs
    exact ⟨fun _ => 0, fun h => by omega, fun k hk => by omega, Nat.le_refl _, Nat.zero_le _, fun _ => ⟨rfl, rfl⟩⟩
  · simp [Value.cells] at hcs
    obtain ⟨rfl, rfl, rfl⟩ := hcs
    have hlm : len ≤ m := by rw [hmm]; split <;> omega
    have each : ∀ k, k < len → ∃ q : Nat, W.cell? (x.add k) = some (.int .u8 (q : Nat)) ∧ q < 256 := by
      intro k hk
      obtain ⟨cs', h1, h2⟩ := hc k (by omega)
      rw [c3] at h1
      obtain ⟨_, hlen, hcell⟩ := World.cells?_some h1
      match cs', hlen with
      | [v0], _ =>
        obtain ⟨n0, h0, _, w0⟩ := DataW.trod_int Tryd.underlying5 h2
        simp at h0
        have d0 := hcell 0 (by omega)
        rw [Go.Deep.add_add] at d0
        obtain ⟨w1, w2⟩ := wf_b w0
        refine ⟨n0.toNat, ?_, by omega⟩
        rw [show ((n0.toNat : Nat) : Int) = n0 by omega, ← h0]; simpa using d0
    obtain ⟨q, hq⟩ := Go.Deep.choose_lt each
    refine ⟨q, fun hn => ?_, fun k hk => (hq k hk).2, hl, hm, fun h => by cases h⟩
    obtain ⟨b, off, spot⟩ := x
    have hspot : spot = none := by simpa [Addr.add] using World.cell?_spot (hq 0 (by omega)).1
    subst hspot
    refine ⟨b, off, rfl, ?_, fun k hk => ?_⟩
    · have := (hq 0 (by omega)).1
      rw [Go.WideShapes.add_plain] at this
      exact World.block_lt_of_cell? _ _ this
    · have q0 := (hq k hk).1
      rw [Go.WideShapes.add_plain] at q0
      exact q0

end Go.Proofs.YtaodckojinbdfaaDoor
