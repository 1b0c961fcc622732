/-
  Lists of texts and of bytes that came in, as the statements' frame tells them. Condition: they lie in memory.
-/
import Derived.Test.YtooaojegdhamjaaDoorLawB
import Derived.SliceStrings
import Derived.Deep.SlicePairs
namespace Go.Proofs.YtooaojegdhamjaaDoor
open Go.RowKit

theorem open_strs {H : Type} {enc : TypeId × Value → H} {W : World} {base : Nat} {sp : Nat → Bool} {held : Bool} {fuel : Nat} {a : Option Addr} {len cap : Nat} {x : DataW H × List MemPlace}
    (h : DataW.trod enc Tryd.prog W base sp held fuel 22 (Value.slice a len cap).cells.toList = some x) :
    ∃ L : List ByteArray, L.length = len ∧ RowL W a L ∧ Short L ∧ L.length ≤ cap ∧ cap ≤ maxLen ∧ (a = none → L.length = 0 ∧ cap = 0) := by
  rcases Go.ChangeShapes.open_strings Tryd.underlying22 Tryd.underlying9 (by kernel_rfl) h with ⟨hcs, _⟩ | ⟨x, l, c, ss, hcs, _, hl, hm, hlen, _, hcell, hsz⟩
  · simp [Value.cells] at hcs
    obtain ⟨rfl, rfl, rfl⟩ := hcs
    exact ⟨[], rfl, fun h => absurd h (Nat.lt_irrefl 0), fun k hk => absurd hk (Nat.not_lt_zero _), Nat.le_refl _, Nat.zero_le _, fun _ => ⟨rfl, rfl⟩⟩
  · simp [Value.cells] at hcs
    obtain ⟨rfl, rfl, rfl⟩ := hcs
    have hle : len ≤ ss.length := by rw [hlen]; split <;> omega
    have hlt : (ss.take len).length = len := by rw [List.length_take]; omega
    have hg : ∀ k, k < len → gt (ss.take len) k = ss.getD k ByteArray.empty := fun k hk => by
      rw [gt_eq (by omega), List.getElem_take, List.getD, List.getElem?_eq_getElem (by omega)]
      rfl
    refine ⟨ss.take len, hlt, fun hn => ?_, fun k hk => ?_, by omega, hm, fun h => by cases h⟩
    · rw [hlt] at hn
      obtain ⟨b, off, spot⟩ := x
      have hspot : spot = none := by simpa [Addr.add] using World.cell?_spot (hcell 0 (by omega))
      subst hspot
      refine ⟨b, off, rfl, ?_, fun k hk => ?_⟩
      · have := hcell 0 (by omega)
        rw [Go.WideShapes.add_plain] at this
        exact World.block_lt_of_cell? _ _ this
      · rw [hlt] at hk
        have q0 := hcell k (by omega)
        rw [Go.WideShapes.add_plain] at q0
        rw [q0, hg k hk]
    · rw [hlt] at hk
      rw [hg k hk, List.getD, List.getElem?_eq_getElem (by omega)]
      have := hsz _ (List.getElem_mem (l := ss) (n := k) (by omega))
      unfold maxLen at this
      show (ss[k]).size ≤ _
      omega

theorem wf_b {x : Int} (h : (Lit.int .u8 x).wf = true) : 0 ≤ x ∧ x < 256 := by
  simp [Lit.wf, IntKind.min, IntKind.max, IntKind.bits, IntKind.signed] at h; omega
theorem open_byts {H : Type} {enc : TypeId × Value → H} {W : World} {base : Nat} {sp : Nat → Bool} {held : Bool} {fuel : Nat} {a : Option Addr} {len cap : Nat} {x : DataW H × List MemPlace}
    (h : DataW.trod enc Tryd.prog W base sp held fuel 37 (Value.slice a len cap).cells.toList = some x) :
    ∃ f : Nat → Nat, RowB W a len f ∧ (∀ k, k < len → f k < 256) ∧ len ≤ cap ∧ cap ≤ maxLen ∧ (a = none → len = 0 ∧ cap = 0) := by
  have c3 : Tryd.prog.cellsOf 5 = 1 := by kernel_rfl
  rcases Go.Deep.open_slice Tryd.underlying37 h with ⟨hcs, _⟩ | ⟨x, l, c, m, n, D, Pl, hcs, _, hl, hm, hmm, _, hc⟩
  · simp [Value.cells] at hcs
    obtain ⟨rfl, rfl, rfl⟩ := hcs
    exact ⟨fun _ => 0, fun h => by omega, fun k hk => by omega, Nat.le_refl _, Nat.zero_le _, fun _ => ⟨rfl, rfl⟩⟩
  · simp [Value.cells] at hcs
    obtain ⟨rfl, rfl, rfl⟩ := hcs
    have hlm : len ≤ m := by rw [hmm]; split <;> omega
    have each : ∀ k, k < len → ∃ q : Nat, W.cell? (x.add k) = some (.int .u8 (q : Nat)) ∧ q < 256 := by
      intro k hk
      obtain ⟨cs', h1, h2⟩ := hc k (by omega)
      rw [c3] at h1
      obtain ⟨_, hlen, hcell⟩ := World.cells?_some h1
      match cs', hlen with
      | [v0], _ =>
        obtain ⟨n0, h0, _, w0⟩ := DataW.trod_int Tryd.underlying5 h2
        simp at h0
        have d0 := hcell 0 (by omega)
        rw [Go.Deep.add_add] at d0
        obtain ⟨w1, w2⟩ := wf_b w0
        refine ⟨n0.toNat, ?_, by omega⟩
        rw [show ((n0.toNat : Nat) : Int) = n0 by omega, ← h0]; simpa using d0
    obtain ⟨q, hq⟩ := Go.Deep.choose_lt each
    refine ⟨q, fun hn => ?_, fun k hk => (hq k hk).2, hl, hm, fun h => by cases h⟩
    obtain ⟨b, off, spot⟩ := x
    have hspot : spot = none := by simpa [Addr.add] using World.cell?_spot (hq 0 (by omega)).1
    subst hspot
    refine ⟨b, off, rfl, ?_, fun k hk => ?_⟩
    · have := (hq 0 (by omega)).1
      rw [Go.WideShapes.add_plain] at this
      exact World.block_lt_of_cell? _ _ this
    · have q0 := (hq k hk).1
      rw [Go.WideShapes.add_plain] at q0
      exact q0

end Go.Proofs.YtooaojegdhamjaaDoor
