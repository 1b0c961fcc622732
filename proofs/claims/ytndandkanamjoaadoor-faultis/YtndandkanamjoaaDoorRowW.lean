/-
  Slices of wraps that came in: how they lie in memory. Condition: they lie in memory.
-/
import Derived.Test.YtndandkanamjoaaDoorWalkG
import Derived.WalkKit
import Derived.Deep.SlicePairs
import Derived.OpenShut
import Derived.ShutString
import Derived.ChangeMaps5
namespace Go.Proofs.YtndandkanamjoaaDoor
open Go.RowKit

/-- One wrap: its kind, a line, a text. -/
structure Wp where
  kind : Int
  line : Int
  what : ByteArray
/-- The slice at a of n wraps lies in memory. -/
def RowW (w : World) (a : Option Addr) (n : Nat) (f : Nat → Wp) : Prop :=
  0 < n → ∃ b off, a = some ⟨b, off, none⟩ ∧ b < w.heap.size ∧ ∀ k, k < n → w.cell? ⟨b, off + k * 3, none⟩ = some (.int .i64 (f k).kind) ∧ w.cell? ⟨b, off + k * 3 + 1, none⟩ = some (.int .i64 (f k).line) ∧ w.cell? ⟨b, off + k * 3 + 2, none⟩ = some (.string (f k).what)
def WfI (x : Int) : Prop := -9223372036854775808 ≤ x ∧ x < 9223372036854775808
def WfW (x : Wp) : Prop := WfI x.kind ∧ WfI x.line ∧ x.what.size ≤ maxLen
theorem wf_i {x : Int} (h : (Lit.int .i64 x).wf = true) : WfI x := by
  simp [Lit.wf, IntKind.min, IntKind.max, IntKind.bits, IntKind.signed] at h; unfold WfI; omega
theorem RowW.stays {w w' : World} {a : Option Addr} {n : Nat} {f : Nat → Wp} (h : RowW w a n f) (b : Below w.heap.size w w') : RowW w' a n f := by
  intro hn
  obtain ⟨bl, off, e, hb, hc⟩ := h hn
  exact ⟨bl, off, e, Nat.lt_of_lt_of_le hb b.size, fun k hk => ⟨(b.cell (p := ⟨bl, off + k * 3, none⟩) hb).trans (hc k hk).1, (b.cell (p := ⟨bl, off + k * 3 + 1, none⟩) hb).trans (hc k hk).2.1, (b.cell (p := ⟨bl, off + k * 3 + 2, none⟩) hb).trans (hc k hk).2.2⟩⟩

def strOf : Value → ByteArray
  | .string s => s
  | _ => ⟨#[]⟩

theorem open_wrap {H : Type} {enc : TypeId × Value → H} {W : World} {base : Nat} {sp : Nat → Bool} {held : Bool} {n : Nat} {v0 v1 v2 : Value} {x : DataW H × List MemPlace} (h : DataW.trod enc Tryd.prog W base sp held n 48 [v0, v1, v2] = some x) :
    v0 = .int .i64 (intOf v0) ∧ v1 = .int .i64 (intOf v1) ∧ v2 = .string (strOf v2) ∧ WfW ⟨intOf v0, intOf v1, strOf v2⟩ := by
  obtain ⟨xs, k, hk, hxy, _, hxl, hf⟩ := DataW.trod_struct Tryd.underlying48 h
  have c3 : Tryd.prog.cellsOf 3 = 1 := by kernel_rfl
  have c9 : Tryd.prog.cellsOf 9 = 1 := by kernel_rfl
  match xs, hxl with
  | [y0, y1, y2], _ =>
    have g0 := hf 0 _ rfl
    have g1 := hf 1 _ rfl
    have g2 := hf 2 _ rfl
    simp [c3, c9] at g0 g1 g2
    obtain ⟨n0, h0, _, w0⟩ := DataW.trod_int Tryd.underlying3 g0
    obtain ⟨n1, h1, _, w1⟩ := DataW.trod_int Tryd.underlying3 g1
    obtain ⟨s2, h2, _, w2⟩ := DataW.trod_string Tryd.underlying9 g2
    simp at h0 h1 h2
    subst h0 h1 h2
    exact ⟨rfl, rfl, rfl, wf_i w0, wf_i w1, w2⟩

theorem open_wraps {H : Type} {enc : TypeId × Value → H} {W : World} {base : Nat} {sp : Nat → Bool} {held : Bool} {fuel : Nat} {a : Option Addr} {len cap : Nat} {x : DataW H × List MemPlace}
    (h : DataW.trod enc Tryd.prog W base sp held fuel 22 (Value.slice a len cap).cells.toList = some x) :
    ∃ f, RowW W a len f ∧ (∀ k, k < len → WfW (f k)) ∧ len ≤ cap ∧ cap ≤ maxLen ∧ (a = none → len = 0 ∧ cap = 0) := by
  have c48 : Tryd.prog.cellsOf 48 = 3 := by kernel_rfl
  rcases Go.Deep.open_slice Tryd.underlying22 h with ⟨hcs, _⟩ | ⟨x, l, c, m, n, D, Pl, hcs, _, hl, hm, hmm, _, hc⟩
  · simp [Value.cells] at hcs
    obtain ⟨rfl, rfl, rfl⟩ := hcs
    exact ⟨fun _ => ⟨0, 0, ⟨#[]⟩⟩, fun h => by omega, fun k hk => by omega, Nat.le_refl _, Nat.zero_le _, fun _ => ⟨rfl, rfl⟩⟩
  · simp [Value.cells] at hcs
    obtain ⟨rfl, rfl, rfl⟩ := hcs
    have hlm : len ≤ m := by rw [hmm]; split <;> omega
    have each : ∀ k, k < len → ∃ q : Wp, (W.cell? (x.add (k * 3)) = some (.int .i64 q.kind) ∧ W.cell? (x.add (k * 3 + 1)) = some (.int .i64 q.line) ∧ W.cell? (x.add (k * 3 + 2)) = some (.string q.what)) ∧ WfW q := by
      intro k hk
      obtain ⟨cs', h1, h2⟩ := hc k (by omega)
      rw [c48] at h1
      obtain ⟨_, hlen, hcell⟩ := World.cells?_some h1
      match cs', hlen with
      | [v0, v1, v2], _ =>
        obtain ⟨e0, e1, e2, hw⟩ := open_wrap h2
        have d0 := hcell 0 (by omega)
        have d1 := hcell 1 (by omega)
        have d2 := hcell 2 (by omega)
        rw [Go.Deep.add_add] at d0 d1 d2
        refine ⟨⟨intOf v0, intOf v1, strOf v2⟩, ⟨?_, ?_, ?_⟩, hw⟩
        · simp only; rw [← e0]; simpa using d0
        · simp only; rw [← e1]; simpa using d1
        · simp only; rw [← e2]; simpa using d2
    have : Inhabited Wp := ⟨⟨0, 0, ⟨#[]⟩⟩⟩
    obtain ⟨q, hq⟩ := Go.Deep.choose_lt each
    refine ⟨q, fun hn => ?_, fun k hk => (hq k hk).2, hl, hm, fun h => by cases h⟩
    obtain ⟨b, off, spot⟩ := x
    have hspot : spot = none := by simpa [Addr.add] using World.cell?_spot (hq 0 (by omega)).1.1
    subst hspot
    refine ⟨b, off, rfl, ?_, fun k hk => ?_⟩
    · have := (hq 0 (by omega)).1.1
      rw [Go.WideShapes.add_plain] at this
      exact World.block_lt_of_cell? _ _ this
    · obtain ⟨⟨q0, q1, q2⟩, _⟩ := hq k hk
      rw [Go.WideShapes.add_plain] at q0 q1 q2
      exact ⟨q0, q1, q2⟩
end Go.Proofs.YtndandkanamjoaaDoor
