/-
  Levels that came in: how they lie in memory, and how many they may be. Condition: they lie in memory.
-/
import Derived.Test.YtkohofiobpniiaaBas
import Derived.OpenShut
import Derived.Deep.SlicePairs
import Derived.SizedLaws
namespace Go.Proofs.Ytkohofiobpniiaa
open Go.RowKit

theorem cl3 : Try.prog.cellsOf 3 = 1 := by kernel_rfl
theorem cl9 : Try.prog.cellsOf 9 = 1 := by kernel_rfl
theorem cl31 : Try.prog.cellsOf 31 = 10 := by kernel_rfl
theorem bytes31 : Try.prog.bytesOf 31 = 88 := by kernel_rfl
theorem len_succ {α : Type} {n : Nat} : ∀ {l : List α}, l.length = n + 1 → ∃ a t, l = a :: t ∧ t.length = n
  | a :: t, h => ⟨a, t, rfl, by simpa using h⟩
theorem len5 {α : Type} {l : List α} (h : l.length = 5) : ∃ a b c d e, l = [a, b, c, d, e] := by
  obtain ⟨a, t1, rfl, h1⟩ := len_succ h
  obtain ⟨b, t2, rfl, h2⟩ := len_succ h1
  obtain ⟨c, t3, rfl, h3⟩ := len_succ h2
  obtain ⟨d, t4, rfl, h4⟩ := len_succ h3
  obtain ⟨e, t5, rfl, h5⟩ := len_succ h4
  obtain rfl := List.length_eq_zero_iff.1 h5
  exact ⟨a, b, c, d, e, rfl⟩
theorem len6 {α : Type} {l : List α} (h : l.length = 6) : ∃ a b c d e f, l = [a, b, c, d, e, f] := by
  obtain ⟨a, t1, rfl, h1⟩ := len_succ h
  obtain ⟨b, c, d, e, f, rfl⟩ := len5 h1
  exact ⟨a, b, c, d, e, f, rfl⟩
theorem len10 {α : Type} {l : List α} (h : l.length = 10) : ∃ a b c d e f g i j k, l = [a, b, c, d, e, f, g, i, j, k] := by
  obtain ⟨a, t1, rfl, h1⟩ := len_succ h
  obtain ⟨b, t2, rfl, h2⟩ := len_succ h1
  obtain ⟨c, t3, rfl, h3⟩ := len_succ h2
  obtain ⟨d, t4, rfl, h4⟩ := len_succ h3
  obtain ⟨e, f, g, i, j, k, rfl⟩ := len6 h4
  exact ⟨a, b, c, d, e, f, g, i, j, k, rfl⟩
theorem open_level {H : Type} {enc : TypeId × Value → H} {W : World} {base : Nat} {sp : Nat → Bool} {held : Bool} {fuel : Nat} {x : DataW H × List MemPlace} {cs : List Value} (h : DataW.trod enc Try.prog W base sp held fuel 31 cs = some x) : ∃ l : Lv, cs = lvC l := by
  obtain ⟨xs, k, hk, hxy, hcl, hxl, hf⟩ := DataW.trod_struct Try.underlying31 h
  rw [cl31] at hcl
  obtain ⟨v0, v1, v2, v3, v4, v5, v6, v7, v8, v9, rfl⟩ := len10 hcl
  obtain ⟨y0, y1, y2, y3, y4, y5, y6, y7, y8, y9, rfl⟩ := len10 (show xs.length = 10 from hxl)
  · skip
    have g0 := hf 0 _ rfl
    have g1 := hf 1 _ rfl
    have g2 := hf 2 _ rfl
    have g3 := hf 3 _ rfl
    have g4 := hf 4 _ rfl
    have g5 := hf 5 _ rfl
    have g6 := hf 6 _ rfl
    have g7 := hf 7 _ rfl
    have g8 := hf 8 _ rfl
    have g9 := hf 9 _ rfl
    simp [cl3, cl9] at g0 g1 g2 g3 g4 g5 g6 g7 g8 g9
    obtain ⟨s0, h0, _, _⟩ := DataW.trod_string Try.underlying9 g0
    obtain ⟨n1, h1, _, _⟩ := DataW.trod_int Try.underlying3 g1
    obtain ⟨n2, h2, _, _⟩ := DataW.trod_int Try.underlying3 g2
    obtain ⟨n3, h3, _, _⟩ := DataW.trod_int Try.underlying3 g3
    obtain ⟨n4, h4, _, _⟩ := DataW.trod_int Try.underlying3 g4
    obtain ⟨n5, h5, _, _⟩ := DataW.trod_int Try.underlying3 g5
    obtain ⟨n6, h6, _, _⟩ := DataW.trod_int Try.underlying3 g6
    obtain ⟨n7, h7, _, _⟩ := DataW.trod_int Try.underlying3 g7
    obtain ⟨n8, h8, _, _⟩ := DataW.trod_int Try.underlying3 g8
    obtain ⟨n9, h9, _, _⟩ := DataW.trod_int Try.underlying3 g9
    simp at h0 h1 h2 h3 h4 h5 h6 h7 h8 h9
    subst h0 h1 h2 h3 h4 h5 h6 h7 h8 h9
    exact ⟨⟨s0, n1, n2, n3, n4, n5, n6, n7, n8, n9⟩, rfl⟩

theorem open_levels {H : Type} {enc : TypeId × Value → H} {W : World} {base : Nat} {sp : Nat → Bool} {held : Bool} {fuel : Nat} {x : DataW H × List MemPlace} {v : Value} (h : DataW.trod enc Try.prog W base sp held fuel 22 [v] = some x) :
    ∃ l a n c, v = .slice a n c ∧ (a = none → n = 0 ∧ c = 0) ∧ LvR W a n l ∧ (n = 0 ∨ ∃ el sp, x.1 = .slice el sp ∧ el.length = n) := by
  rcases Go.Deep.open_slice Try.underlying22 h with ⟨hcs, _⟩ | ⟨a, l, c, m, n, D, Pl, hcs, _, hl, hm, hmm, hx, hc⟩
  · obtain rfl : v = .slice none 0 0 := by simpa using hcs
    exact ⟨fun _ => lvZ, none, 0, 0, rfl, fun _ => ⟨rfl, rfl⟩, fun h => absurd h (Nat.lt_irrefl 0), .inl rfl⟩
  · obtain rfl : v = .slice (some a) l c := by simpa using hcs
    have hlm : l ≤ m := by rw [hmm]; split <;> omega
    have each : ∀ k, k < l → ∃ r : Lv, ∀ j, j < 10 → W.cell? (a.add (k * 10 + j)) = (lvC r)[j]? := by
      intro k hk
      obtain ⟨cs', h1, h2⟩ := hc k (by omega)
      rw [cl31] at h1
      obtain ⟨_, hlen, hcell⟩ := World.cells?_some h1
      obtain ⟨r, rfl⟩ := open_level h2
      exact ⟨r, fun j hj => by have := hcell j hj; rw [Go.Deep.add_add] at this; exact this⟩
    have : Inhabited Lv := ⟨lvZ⟩
    obtain ⟨q, hq⟩ := Go.Deep.choose_lt each
    refine ⟨q, some a, l, c, rfl, (fun h => by cases h), fun hn => ?_, .inr ⟨(List.range l).map D, _, by rw [hx], by simp⟩⟩
    obtain ⟨b, off, spot⟩ := a
    have hu0 : W.cell? (Addr.add ⟨b, off, spot⟩ (0 * 10 + 0)) = some (.string (q 0).name) := hq 0 hn 0 (by decide)
    have hspot : spot = none := by simpa [Addr.add] using World.cell?_spot hu0
    subst hspot
    rw [Go.WideShapes.add_plain] at hu0
    refine ⟨b, off, rfl, World.block_lt_of_cell? _ _ hu0, fun k hk j hj => ?_⟩
    have := hq k hk j hj
    rw [Go.WideShapes.add_plain, ← Nat.add_assoc] at this
    exact this
end Go.Proofs.Ytkohofiobpniiaa
