/-
  Slices of wraps that came in: the texts in them are within the form's reach. Condition: they lie in memory, and are within the reach.
-/
import Derived.Test.YtndandkanamjoaaDoorTellA
import Derived.SizedLaws
namespace Go.Proofs.YtndandkanamjoaaDoor
open Go.RowKit

theorem weights_all_mem {H : Type} {P : Program} {e : TypeId} {d : DataW H} {n : Nat} : ∀ {l : List (DataW H)}, d ∈ l → n ∈ d.weights P e → n ∈ DataW.weightsAll P e l
  | a :: r, hd, hn => by
    rw [DataW.weightsAll]
    rcases List.mem_cons.1 hd with rfl | hd
    · exact List.mem_append_left _ hn
    · exact List.mem_append_right _ (weights_all_mem hd hn)

theorem wrap_weight {H : Type} {enc : TypeId × Value → H} {W : World} {base : Nat} {sp : Nat → Bool} {held : Bool} {n : Nat} {v0 v1 v2 : Value} {x : DataW H × List MemPlace} (h : DataW.trod enc Tryd.prog W base sp held n 48 [v0, v1, v2] = some x) :
    (strOf v2).size ∈ x.1.weights Tryd.prog 48 := by
  obtain ⟨xs, k, hk, hxy, _, hxl, hf⟩ := DataW.trod_struct Tryd.underlying48 h
  have c3 : Tryd.prog.cellsOf 3 = 1 := by kernel_rfl
  have c9 : Tryd.prog.cellsOf 9 = 1 := by kernel_rfl
  match xs, hxl, hxy with
  | [y0, y1, y2], _, hxy =>
    have g2 := hf 2 _ rfl
    simp [c9] at g2
    obtain ⟨s2, h2, e2, w2⟩ := DataW.trod_string Tryd.underlying9 g2
    simp at h2
    subst h2
    rw [hxy, e2]
    show s2.size ∈ DataW.weights Tryd.prog 48 (.agg [y0.1, y1.1, .lit (.string s2.data.toList)])
    rw [DataW.weights]
    simp only [Tryd.underlying48]
    refine DataW.weights_mem_each (j := 2) (t := 9) (d := .lit (.string s2.data.toList)) rfl rfl _ ?_
    rw [DataW.weights]
    simp

theorem open_wraps_sized {H : Type} {enc : TypeId × Value → H} {W : World} {base : Nat} {sp : Nat → Bool} {held : Bool} {fuel : Nat} {a : Option Addr} {len cap : Nat} {x : DataW H × List MemPlace}
    (h : DataW.trod enc Tryd.prog W base sp held fuel 22 (Value.slice a len cap).cells.toList = some x) (hs : ∀ n ∈ x.1.weights Tryd.prog 22, n ≤ 140737488351232) :
    ∃ f, RowW W a len f ∧ (∀ k, k < len → WfW (f k) ∧ (f k).what.size ≤ 140737488351232) ∧ len ≤ cap ∧ cap ≤ maxLen ∧ (a = none → len = 0 ∧ cap = 0) := by
  have c48 : Tryd.prog.cellsOf 48 = 3 := by kernel_rfl
  rcases Go.Deep.open_slice Tryd.underlying22 h with ⟨hcs, _⟩ | ⟨y, l, c, m, n, D, Pl, hcs, _, hl, hm, hmm, hx, hc⟩
  · simp [Value.cells] at hcs
    obtain ⟨rfl, rfl, rfl⟩ := hcs
    exact ⟨fun _ => ⟨0, 0, ⟨#[]⟩⟩, fun h => by omega, fun k hk => absurd hk (Nat.not_lt_zero _), Nat.le_refl _, Nat.zero_le _, fun _ => ⟨rfl, rfl⟩⟩
  · simp [Value.cells] at hcs
    obtain ⟨rfl, rfl, rfl⟩ := hcs
    have hlm : len ≤ m := by rw [hmm]; split <;> omega
    have each : ∀ k, k < len → ∃ q : Wp, (W.cell? (y.add (k * 3)) = some (.int .i64 q.kind) ∧ W.cell? (y.add (k * 3 + 1)) = some (.int .i64 q.line) ∧ W.cell? (y.add (k * 3 + 2)) = some (.string q.what)) ∧ WfW q ∧ q.what.size ≤ 140737488351232 := by
      intro k hk
      obtain ⟨cs', h1, h2⟩ := hc k (by omega)
      rw [c48] at h1
      obtain ⟨_, hlen, hcell⟩ := World.cells?_some h1
      match cs', hlen with
      | [v0, v1, v2], _ =>
        obtain ⟨e0, e1, e2, hw⟩ := open_wrap h2
        have d0 := hcell 0 (by omega)
        have d1 := hcell 1 (by omega)
        have d2 := hcell 2 (by omega)
        rw [Go.Deep.add_add] at d0 d1 d2
        refine ⟨⟨intOf v0, intOf v1, strOf v2⟩, ⟨?_, ?_, ?_⟩, hw, hs _ ?_⟩
        · simp only; rw [← e0]; simpa using d0
        · simp only; rw [← e1]; simpa using d1
        · simp only; rw [← e2]; simpa using d2
        · rw [hx]
          show (strOf v2).size ∈ DataW.weights Tryd.prog 22 (.slice _ _)
          rw [DataW.weights]
          simp only [Tryd.underlying22]
          refine List.mem_cons_of_mem _ (List.mem_append_left _ (weights_all_mem (d := D k) ?_ (wrap_weight h2)))
          exact List.mem_map.2 ⟨k, List.mem_range.2 hk, rfl⟩
    have : Inhabited Wp := ⟨⟨0, 0, ⟨#[]⟩⟩⟩
    obtain ⟨q, hq⟩ := Go.Deep.choose_lt each
    refine ⟨q, fun hn => ?_, fun k hk => (hq k hk).2, hl, hm, fun h => by cases h⟩
    obtain ⟨b, off, spot⟩ := y
    have hspot : spot = none := by simpa [Addr.add] using World.cell?_spot (hq 0 (by omega)).1.1
    subst hspot
    refine ⟨b, off, rfl, ?_, fun k hk => ?_⟩
    · have := (hq 0 (by omega)).1.1
      rw [Go.WideShapes.add_plain] at this
      exact World.block_lt_of_cell? _ _ this
    · obtain ⟨⟨q0, q1, q2⟩, _⟩ := hq k hk
      rw [Go.WideShapes.add_plain] at q0 q1 q2
      exact ⟨q0, q1, q2⟩
end Go.Proofs.YtndandkanamjoaaDoor
