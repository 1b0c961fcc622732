/-
  A list of integers that came in, as the statements' frame tells it; what 'Copy' of the reference answers. Condition: the list lies in memory.
-/
import Derived.Test.YtcfjnflicgifjaaRefA
import Derived.Laws.AppendOwnNone
import Derived.Deep.SlicePairs
import Derived.Deep.AppendLies
namespace Go.Proofs.Ytcfjnflicgifjaa
open Go.RowKit

def WfI (x : Int) : Prop := -9223372036854775808 ≤ x ∧ x < 9223372036854775808
theorem wf_i {x : Int} (h : (Lit.int .i64 x).wf = true) : -9223372036854775808 ≤ x ∧ x < 9223372036854775808 := by
  simp [Lit.wf, IntKind.min, IntKind.max, IntKind.bits, IntKind.signed] at h; omega
theorem open_ints {H : Type} {enc : TypeId × Value → H} {W : World} {base : Nat} {sp : Nat → Bool} {held : Bool} {fuel : Nat} {a : Option Addr} {len cap : Nat} {x : DataW H × List MemPlace}
    (h : DataW.trod enc Try.prog W base sp held fuel 24 (Value.slice a len cap).cells.toList = some x) :
    ∃ f, Row W a len f ∧ (∀ k, k < len → WfI (f k)) ∧ len ≤ cap ∧ cap ≤ maxLen ∧ (a = none → len = 0 ∧ cap = 0) := by
  have c3 : Try.prog.cellsOf 3 = 1 := by kernel_rfl
  rcases Go.Deep.open_slice Try.underlying24 h with ⟨hcs, _⟩ | ⟨x, l, c, m, n, D, Pl, hcs, _, hl, hm, hmm, _, hc⟩
  · simp [Value.cells] at hcs
    obtain ⟨rfl, rfl, rfl⟩ := hcs
    exact ⟨fun _ => 0, fun h => by omega, fun k hk => by omega, Nat.le_refl _, Nat.zero_le _, fun _ => ⟨rfl, rfl⟩⟩
  · simp [Value.cells] at hcs
    obtain ⟨rfl, rfl, rfl⟩ := hcs
    have hlm : len ≤ m := by rw [hmm]; split <;> omega
    have each : ∀ k, k < len → ∃ q : Int, W.cell? (x.add k) = some (.int .i64 q) ∧ WfI q := by
      intro k hk
      obtain ⟨cs', h1, h2⟩ := hc k (by omega)
      rw [c3] at h1
      obtain ⟨_, hlen, hcell⟩ := World.cells?_some h1
      match cs', hlen with
      | [v0], _ =>
        obtain ⟨n0, h0, _, w0⟩ := DataW.trod_int Try.underlying3 h2
        simp at h0
        have d0 := hcell 0 (by omega)
        rw [Go.Deep.add_add] at d0
        refine ⟨n0, ?_, wf_i w0⟩
        rw [← h0]; simpa using d0
    obtain ⟨q, hq⟩ := Go.Deep.choose_lt each
    refine ⟨q, fun hn => ?_, fun k hk => (hq k hk).2, hl, hm, fun h => by cases h⟩
    obtain ⟨b, off, spot⟩ := x
    have hspot : spot = none := by simpa [Addr.add] using World.cell?_spot (hq 0 (by omega)).1
    subst hspot
    refine ⟨b, off, rfl, ?_, fun k hk => ?_⟩
    · have := (hq 0 (by omega)).1
      rw [Go.WideShapes.add_plain] at this
      exact World.block_lt_of_cell? _ _ this
    · have q0 := (hq k hk).1
      rw [Go.WideShapes.add_plain] at q0
      exact q0

theorem cells_at {w : World} {x : Addr} {n : Nat} {f : Nat → Int} (h : Row w (some x) n f) : ∀ j u, (cellsOf f n)[j]? = some u → w.cell? (x.add j) = some u := by
  intro j u hj
  have hl : j < n := by
    by_cases c : j < n
    · exact c
    · rw [List.getElem?_eq_none (by simp [cellsOf]; omega)] at hj; cases hj
  rw [cellsOf_get f n j hl] at hj
  obtain ⟨b, off, e, _, hc⟩ := h (by omega)
  cases e
  rw [Go.WideShapes.add_plain, hc j hl]
  exact hj
theorem cells_one (f : Nat → Int) (n : Nat) : ∀ u ∈ cellsOf f n, u.oneCell' = true := by
  intro u hu
  simp [cellsOf] at hu
  obtain ⟨j, _, rfl⟩ := hu
  rfl

theorem copy_any (a : Option Addr) (n cap : Nat) (f : Nat → Int) (w : World) (hr : Row w a n f) (hc : a = none → n = 0 ∧ cap = 0) (hn : n ≤ 64) :
    Calls Try.prog 14 #[.slice a n cap] w fun e w' => ∃ v, e = .returned v ∧ w'.ownsRow w.heap.size 3 1 v n (cellsOf f n) ∧ Below w.heap.size w w' := by
  obtain ⟨i0, hi, hz0, hz1, hz2⟩ := info_parts Try.info3
  have hown : (w.alloc (.cells #[] 3)).ownsRow w.heap.size 3 1 (.slice (some ⟨w.heap.size, 0, none⟩) 0 0) 0 [] := World.ownsRow_lit (e := 3) w #[] 0 (Nat.le_refl _) (by unfold maxLen; omega) rfl
  have hrA : Row (w.alloc (.cells #[] 3)) a n f := hr.carry ((Below.refl _ _).alloc (Nat.le_refl _) _)
  have hbA : Below w.heap.size w (w.alloc (.cells #[] 3)) := (Below.refl _ _).alloc (Nat.le_refl _) _
  cases a with
  | none =>
    obtain ⟨rfl, rfl⟩ := hc rfl
    go_enter Try.func14, Try.ntmps14
    go_wp2_with (at_builtin; refine wpList_append_own_none rfl _ _ 24 rfl w.heap.size 3 i0 1 Try.underlying24 hi _ _ _ rfl hown rfl ?_)
    go_ret
    exact ⟨_, rfl, hown, hbA⟩
  | some x =>
    go_enter Try.func14, Try.ntmps14
    go_wp2_with (at_builtin; refine wpList_append_own _ rfl _ _ 24 rfl w.heap.size 3 i0 (.int .i64 0) 1 8 Try.underlying24 hi hz0 hz1 hz2 rfl (by decide) _ _ _ rfl hown x n cap (cellsOf f n) rfl (by simp [cellsOf]) (cells_at hrA) (cells_one f n) (by unfold maxLen; omega) (by omega) (by simp) ?_; intro v' w2 hown' hgrow _)
    go_ret
    rw [Nat.zero_add, List.nil_append] at hown'
    exact ⟨_, rfl, hown', hbA.grown hgrow (by simp) (fun q e => (hown.lt q e).1)⟩

/-- The cards, and 7 behind them. -/
theorem mine {w : World} {B g c n : Nat} {f : Nat → Int} (h : w.ownsRow B 3 1 (.slice (some ⟨g, 0, none⟩) (n + 1) c) (n + 1) (cellsOf f n ++ [.int .i64 7])) :
    Row w (some ⟨g, 0, none⟩) n f ∧ w.cell? ⟨g, n, none⟩ = some (.int .i64 7) ∧ n + 1 ≤ c ∧ g < w.heap.size := by
  have hl : (cellsOf f n).length = n := by simp [cellsOf]
  refine ⟨fun hn => ⟨g, 0, rfl, (h.lt g rfl).2, fun k hk => ?_⟩, ?_, ?_, (h.lt g rfl).2⟩
  · rw [Nat.zero_add, h.cellAt k (by omega), List.getElem?_append_left (by omega), cellsOf_get f n k hk]
  · rw [h.cellAt n (by omega), List.getElem?_append_right (by omega), hl]; simp
  · rcases h.2 with ⟨h', _⟩ | ⟨g', cap', cur, h', _, _, hnc, _⟩
    · simp at h'
    · simp at h'; omega

end Go.Proofs.Ytcfjnflicgifjaa
