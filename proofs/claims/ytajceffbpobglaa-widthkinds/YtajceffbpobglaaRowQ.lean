/-
  A request that came in: how it lies in memory. Condition: it lies in memory.
-/
import Derived.Test.YtajceffbpobglaaBas
import Derived.OpenShut
namespace Go.Proofs.Ytajceffbpobglaa
open Go.RowKit

theorem cl3 : Try.prog.cellsOf 3 = 1 := by kernel_rfl
theorem cl9 : Try.prog.cellsOf 9 = 1 := by kernel_rfl
theorem cl42 : Try.prog.cellsOf 22 = 1 := by kernel_rfl
theorem cl27 : Try.prog.cellsOf 24 = 6 := by kernel_rfl
theorem len_succ {α : Type} {n : Nat} : ∀ {l : List α}, l.length = n + 1 → ∃ a t, l = a :: t ∧ t.length = n
  | a :: t, h => ⟨a, t, rfl, by simpa using h⟩
theorem len5 {α : Type} {l : List α} (h : l.length = 5) : ∃ a b c d e, l = [a, b, c, d, e] := by
  obtain ⟨a, t1, rfl, h1⟩ := len_succ h
  obtain ⟨b, t2, rfl, h2⟩ := len_succ h1
  obtain ⟨c, t3, rfl, h3⟩ := len_succ h2
  obtain ⟨d, t4, rfl, h4⟩ := len_succ h3
  obtain ⟨e, t5, rfl, h5⟩ := len_succ h4
  obtain rfl := List.length_eq_zero_iff.1 h5
  exact ⟨a, b, c, d, e, rfl⟩
theorem len6 {α : Type} {l : List α} (h : l.length = 6) : ∃ a b c d e f, l = [a, b, c, d, e, f] := by
  obtain ⟨a, t1, rfl, h1⟩ := len_succ h
  obtain ⟨b, c, d, e, f, rfl⟩ := len5 h1
  exact ⟨a, b, c, d, e, f, rfl⟩
theorem open_list {H : Type} {enc : TypeId × Value → H} {W : World} {base : Nat} {sp : Nat → Bool} {held : Bool} {fuel : Nat} {x : DataW H × List MemPlace} {v : Value} (h : DataW.trod enc Try.prog W base sp held fuel 22 [v] = some x) : ∃ L, LsR W v L := by
  rcases Go.ChangeShapes.open_strings Try.underlying22 Try.underlying9 cl9 h with ⟨hcs, _⟩ | ⟨a, l, c, ss, hcs, _, hl, hm, hlen, _, hcell, hsz⟩
  · obtain rfl : v = .slice none 0 0 := by simpa using hcs
    exact ⟨[], none, 0, rfl, fun h => absurd h (Nat.lt_irrefl 0), Nat.le_refl _, Nat.zero_le _, fun _ h => by cases h⟩
  · obtain rfl : v = .slice (some a) l c := by simpa using hcs
    have hle : l ≤ ss.length := by rw [hlen]; split <;> omega
    have hlt : (ss.take l).length = l := by rw [List.length_take]; omega
    have hg : ∀ k, k < l → gt (ss.take l) k = ss.getD k ByteArray.empty := fun k hk => by
      rw [gt_eq (by omega), List.getElem_take, List.getD, List.getElem?_eq_getElem (by omega)]
      rfl
    have hm9 : c ≤ 9223372036854775807 := by unfold maxLen at hm; omega
    refine ⟨ss.take l, some a, c, by rw [hlt], fun hn => ?_, by omega, by omega, fun y hy => ?_⟩
    · rw [hlt] at hn
      obtain ⟨b, off, spot⟩ := a
      have hspot : spot = none := by simpa [Addr.add] using World.cell?_spot (hcell 0 (by omega))
      subst hspot
      refine ⟨b, off, rfl, ?_, fun k hk => ?_⟩
      · have := hcell 0 (by omega)
        rw [Go.WideShapes.add_plain] at this
        exact World.block_lt_of_cell? _ _ this
      · rw [hlt] at hk
        have q0 := hcell k (by omega)
        rw [Go.WideShapes.add_plain] at q0
        rw [q0, hg k hk]
    · have := hsz y (List.mem_of_mem_take hy)
      unfold maxLen at this
      omega
section
variable {H : Type} {enc : TypeId × Value → H} {W : World} {base : Nat} {sp : Nat → Bool} {held : Bool} {fuel : Nat} {x : DataW H × List MemPlace} {cs : Array Value}
theorem open_request (h : DataW.trod enc Try.prog W base sp held fuel 24 cs.toList = some x) : ∃ x0 L x2 x3 x4 x5 a n c, cs = #[.string x0, .slice a n c, .string x2, .string x3, .string x4, .int .i64 x5] ∧ RqR W (.agg #[.string x0, .slice a n c, .string x2, .string x3, .string x4, .int .i64 x5]) ⟨x0, L, x2, x3, x4, x5⟩ := by
  obtain ⟨xs, k, hk, hxy, hcl, hxl, hf⟩ := DataW.trod_struct Try.underlying24 h
  rw [cl27] at hcl
  obtain ⟨cs⟩ := cs
  simp only at h hf hcl ⊢
  obtain ⟨v0, v1, v2, v3, v4, v5, rfl⟩ := len6 hcl
  obtain ⟨y0, y1, y2, y3, y4, y5, rfl⟩ := len6 (show xs.length = 6 from hxl)
  have g0 := hf 0 _ rfl
  have g1 := hf 1 _ rfl
  have g2 := hf 2 _ rfl
  have g3 := hf 3 _ rfl
  have g4 := hf 4 _ rfl
  have g5 := hf 5 _ rfl
  simp [cl3, cl9, cl42] at g0 g1 g2 g3 g4 g5
  obtain ⟨s0, h0, _, w0⟩ := DataW.trod_string Try.underlying9 g0
  obtain ⟨L, l1⟩ := open_list g1
  obtain ⟨s2, h2, _, w2⟩ := DataW.trod_string Try.underlying9 g2
  obtain ⟨s3, h3, _, w3⟩ := DataW.trod_string Try.underlying9 g3
  obtain ⟨s4, h4, _, w4⟩ := DataW.trod_string Try.underlying9 g4
  obtain ⟨n5, h5, _, w5⟩ := DataW.trod_int Try.underlying3 g5
  simp at h0 h2 h3 h4 h5
  subst h0 h2 h3 h4 h5
  have l1' := l1
  obtain ⟨a, c, e, -⟩ := l1'
  subst e
  unfold maxLen at w0 w2 w3 w4
  exact ⟨s0, L, s2, s3, s4, n5, a, _, c, rfl, ⟨_, _, _, rfl, l1⟩, ⟨by simp only; omega, by simp only; omega, by simp only; omega, by simp only; omega⟩, int_of_wf w5⟩
end
end Go.Proofs.Ytajceffbpobglaa
