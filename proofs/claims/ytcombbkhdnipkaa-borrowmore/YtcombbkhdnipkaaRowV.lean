/-
  Levels, bounds, demands and numbers that came in: how they lie in memory, and how many they may be. Condition: they lie in memory.
-/
import Derived.Test.YtcombbkhdnipkaaDs
import Derived.OpenShut
import Derived.Deep.SlicePairs
import Derived.SizedLaws
namespace Go.Proofs.Ytcombbkhdnipkaa
open Go.RowKit

theorem cl3 : Try.prog.cellsOf 3 = 1 := by kernel_rfl
theorem cl9 : Try.prog.cellsOf 9 = 1 := by kernel_rfl
theorem cl41 : Try.prog.cellsOf 41 = 10 := by kernel_rfl
theorem bytes41 : Try.prog.bytesOf 41 = 88 := by kernel_rfl
theorem len_succ {α : Type} {n : Nat} : ∀ {l : List α}, l.length = n + 1 → ∃ a t, l = a :: t ∧ t.length = n
  | a :: t, h => ⟨a, t, rfl, by simpa using h⟩
theorem len5 {α : Type} {l : List α} (h : l.length = 5) : ∃ a b c d e, l = [a, b, c, d, e] := by
  obtain ⟨a, t1, rfl, h1⟩ := len_succ h
  obtain ⟨b, t2, rfl, h2⟩ := len_succ h1
  obtain ⟨c, t3, rfl, h3⟩ := len_succ h2
  obtain ⟨d, t4, rfl, h4⟩ := len_succ h3
  obtain ⟨e, t5, rfl, h5⟩ := len_succ h4
  obtain rfl := List.length_eq_zero_iff.1 h5
  exact ⟨a, b, c, d, e, rfl⟩
theorem len6 {α : Type} {l : List α} (h : l.length = 6) : ∃ a b c d e f, l = [a, b, c, d, e, f] := by
  obtain ⟨a, t1, rfl, h1⟩ := len_succ h
  obtain ⟨b, c, d, e, f, rfl⟩ := len5 h1
  exact ⟨a, b, c, d, e, f, rfl⟩
theorem len10 {α : Type} {l : List α} (h : l.length = 10) : ∃ a b c d e f g i j k, l = [a, b, c, d, e, f, g, i, j, k] := by
  obtain ⟨a, t1, rfl, h1⟩ := len_succ h
  obtain ⟨b, t2, rfl, h2⟩ := len_succ h1
  obtain ⟨c, t3, rfl, h3⟩ := len_succ h2
  obtain ⟨d, t4, rfl, h4⟩ := len_succ h3
  obtain ⟨e, f, g, i, j, k, rfl⟩ := len6 h4
  exact ⟨a, b, c, d, e, f, g, i, j, k, rfl⟩
theorem open_level {H : Type} {enc : TypeId × Value → H} {W : World} {base : Nat} {sp : Nat → Bool} {held : Bool} {fuel : Nat} {x : DataW H × List MemPlace} {cs : List Value} (h : DataW.trod enc Try.prog W base sp held fuel 41 cs = some x) : ∃ l : Lv, cs = lvC l := by
  obtain ⟨xs, k, hk, hxy, hcl, hxl, hf⟩ := DataW.trod_struct Try.underlying41 h
  rw [cl41] at hcl
  obtain ⟨v0, v1, v2, v3, v4, v5, v6, v7, v8, v9, rfl⟩ := len10 hcl
  obtain ⟨y0, y1, y2, y3, y4, y5, y6, y7, y8, y9, rfl⟩ := len10 (show xs.length = 10 from hxl)
  · skip
    have g0 := hf 0 _ rfl
    have g1 := hf 1 _ rfl
    have g2 := hf 2 _ rfl
    have g3 := hf 3 _ rfl
    have g4 := hf 4 _ rfl
    have g5 := hf 5 _ rfl
    have g6 := hf 6 _ rfl
    have g7 := hf 7 _ rfl
    have g8 := hf 8 _ rfl
    have g9 := hf 9 _ rfl
    simp [cl3, cl9] at g0 g1 g2 g3 g4 g5 g6 g7 g8 g9
    obtain ⟨s0, h0, _, _⟩ := DataW.trod_string Try.underlying9 g0
    obtain ⟨n1, h1, _, _⟩ := DataW.trod_int Try.underlying3 g1
    obtain ⟨n2, h2, _, _⟩ := DataW.trod_int Try.underlying3 g2
    obtain ⟨n3, h3, _, _⟩ := DataW.trod_int Try.underlying3 g3
    obtain ⟨n4, h4, _, _⟩ := DataW.trod_int Try.underlying3 g4
    obtain ⟨n5, h5, _, _⟩ := DataW.trod_int Try.underlying3 g5
    obtain ⟨n6, h6, _, _⟩ := DataW.trod_int Try.underlying3 g6
    obtain ⟨n7, h7, _, _⟩ := DataW.trod_int Try.underlying3 g7
    obtain ⟨n8, h8, _, _⟩ := DataW.trod_int Try.underlying3 g8
    obtain ⟨n9, h9, _, _⟩ := DataW.trod_int Try.underlying3 g9
    simp at h0 h1 h2 h3 h4 h5 h6 h7 h8 h9
    subst h0 h1 h2 h3 h4 h5 h6 h7 h8 h9
    exact ⟨⟨s0, n1, n2, n3, n4, n5, n6, n7, n8, n9⟩, rfl⟩

theorem open_levels {H : Type} {enc : TypeId × Value → H} {W : World} {base : Nat} {sp : Nat → Bool} {held : Bool} {fuel : Nat} {x : DataW H × List MemPlace} {v : Value} (h : DataW.trod enc Try.prog W base sp held fuel 33 [v] = some x) :
    ∃ l a n c, v = .slice a n c ∧ (a = none → n = 0 ∧ c = 0) ∧ LvR W a n l ∧ (n = 0 ∨ ∃ el sp, x.1 = .slice el sp ∧ el.length = n) := by
  rcases Go.Deep.open_slice Try.underlying33 h with ⟨hcs, _⟩ | ⟨a, l, c, m, n, D, Pl, hcs, _, hl, hm, hmm, hx, hc⟩
  · obtain rfl : v = .slice none 0 0 := by simpa using hcs
    exact ⟨fun _ => lvZ, none, 0, 0, rfl, fun _ => ⟨rfl, rfl⟩, fun h => absurd h (Nat.lt_irrefl 0), .inl rfl⟩
  · obtain rfl : v = .slice (some a) l c := by simpa using hcs
    have hlm : l ≤ m := by rw [hmm]; split <;> omega
    have each : ∀ k, k < l → ∃ r : Lv, ∀ j, j < 10 → W.cell? (a.add (k * 10 + j)) = (lvC r)[j]? := by
      intro k hk
      obtain ⟨cs', h1, h2⟩ := hc k (by omega)
      rw [cl41] at h1
      obtain ⟨_, hlen, hcell⟩ := World.cells?_some h1
      obtain ⟨r, rfl⟩ := open_level h2
      exact ⟨r, fun j hj => by have := hcell j hj; rw [Go.Deep.add_add] at this; exact this⟩
    have : Inhabited Lv := ⟨lvZ⟩
    obtain ⟨q, hq⟩ := Go.Deep.choose_lt each
    refine ⟨q, some a, l, c, rfl, (fun h => by cases h), fun hn => ?_, .inr ⟨(List.range l).map D, _, by rw [hx], by simp⟩⟩
    obtain ⟨b, off, spot⟩ := a
    have hu0 : W.cell? (Addr.add ⟨b, off, spot⟩ (0 * 10 + 0)) = some (.string (q 0).name) := hq 0 hn 0 (by decide)
    have hspot : spot = none := by simpa [Addr.add] using World.cell?_spot hu0
    subst hspot
    rw [Go.WideShapes.add_plain] at hu0
    refine ⟨b, off, rfl, World.block_lt_of_cell? _ _ hu0, fun k hk j hj => ?_⟩
    have := hq k hk j hj
    rw [Go.WideShapes.add_plain, ← Nat.add_assoc] at this
    exact this

theorem cl39 : Try.prog.cellsOf 39 = 3 := by kernel_rfl
theorem cl37 : Try.prog.cellsOf 37 = 2 := by kernel_rfl
theorem len2 {α : Type} {l : List α} (h : l.length = 2) : ∃ a b, l = [a, b] := by
  match l, h with
  | [a, b], _ => exact ⟨a, b, rfl⟩
theorem len3 {α : Type} {l : List α} (h : l.length = 3) : ∃ a b c, l = [a, b, c] := by
  match l, h with
  | [a, b, c], _ => exact ⟨a, b, c, rfl⟩
def dmC (d : Dm) : List Value := [.int .i64 d.hig, .int .i64 d.smo]

theorem open_bounds1 {H : Type} {enc : TypeId × Value → H} {W : World} {base : Nat} {sp : Nat → Bool} {held : Bool} {fuel : Nat} {x : DataW H × List MemPlace} {cs : List Value} (h : DataW.trod enc Try.prog W base sp held fuel 39 cs = some x) : ∃ r : Bd, cs = bdC r := by
  obtain ⟨xs, k, hk, hxy, hcl, hxl, hf⟩ := DataW.trod_struct Try.underlying39 h
  rw [cl39] at hcl
  obtain ⟨v0, v1, v2, rfl⟩ := len3 hcl
  obtain ⟨y0, y1, y2, rfl⟩ := len3 (show xs.length = 3 from hxl)
  have g0 := hf 0 _ rfl
  have g1 := hf 1 _ rfl
  have g2 := hf 2 _ rfl
  simp [cl3] at g0 g1 g2
  obtain ⟨n0, h0, _, _⟩ := DataW.trod_int Try.underlying3 g0
  obtain ⟨n1, h1, _, _⟩ := DataW.trod_int Try.underlying3 g1
  obtain ⟨n2, h2, _, _⟩ := DataW.trod_int Try.underlying3 g2
  simp at h0 h1 h2
  subst h0 h1 h2
  exact ⟨⟨n0, n1, n2⟩, rfl⟩

theorem open_bounds {H : Type} {enc : TypeId × Value → H} {W : World} {base : Nat} {sp : Nat → Bool} {held : Bool} {fuel : Nat} {x : DataW H × List MemPlace} {v : Value} (h : DataW.trod enc Try.prog W base sp held fuel 22 [v] = some x) :
    ∃ l a n c, v = .slice a n c ∧ (a = none → n = 0 ∧ c = 0) ∧ BdR W a n l := by
  rcases Go.Deep.open_slice Try.underlying22 h with ⟨hcs, _⟩ | ⟨a, l, c, m, n, D, Pl, hcs, _, hl, hm, hmm, hx, hc⟩
  · obtain rfl : v = .slice none 0 0 := by simpa using hcs
    exact ⟨fun _ => ⟨0, 0, 0⟩, none, 0, 0, rfl, fun _ => ⟨rfl, rfl⟩, fun h => absurd h (Nat.lt_irrefl 0)⟩
  · obtain rfl : v = .slice (some a) l c := by simpa using hcs
    have hlm : l ≤ m := by rw [hmm]; split <;> omega
    have each : ∀ k, k < l → ∃ r : Bd, ∀ j, j < 3 → W.cell? (a.add (k * 3 + j)) = (bdC r)[j]? := by
      intro k hk
      obtain ⟨cs', h1, h2⟩ := hc k (by omega)
      rw [cl39] at h1
      obtain ⟨_, hlen, hcell⟩ := World.cells?_some h1
      obtain ⟨r, rfl⟩ := open_bounds1 h2
      exact ⟨r, fun j hj => by have := hcell j hj; rw [Go.Deep.add_add] at this; exact this⟩
    have : Inhabited Bd := ⟨⟨0, 0, 0⟩⟩
    obtain ⟨q, hq⟩ := Go.Deep.choose_lt each
    refine ⟨q, some a, l, c, rfl, (fun h => by cases h), fun hn => ?_⟩
    obtain ⟨b, off, spot⟩ := a
    have hu0 : W.cell? (Addr.add ⟨b, off, spot⟩ (0 * 3 + 0)) = some (.int .i64 (q 0).nom) := hq 0 hn 0 (by decide)
    have hspot : spot = none := by simpa [Addr.add] using World.cell?_spot hu0
    subst hspot
    rw [Go.WideShapes.add_plain] at hu0
    refine ⟨b, off, rfl, World.block_lt_of_cell? _ _ hu0, fun k hk => ?_⟩
    have y := fun j hj => hq k hk j hj
    simp only [Go.WideShapes.add_plain, ← Nat.add_assoc] at y
    exact ⟨y 0 (by decide), y 1 (by decide), y 2 (by decide)⟩

theorem open_demands1 {H : Type} {enc : TypeId × Value → H} {W : World} {base : Nat} {sp : Nat → Bool} {held : Bool} {fuel : Nat} {x : DataW H × List MemPlace} {cs : List Value} (h : DataW.trod enc Try.prog W base sp held fuel 37 cs = some x) : ∃ r : Dm, cs = dmC r := by
  obtain ⟨xs, k, hk, hxy, hcl, hxl, hf⟩ := DataW.trod_struct Try.underlying37 h
  rw [cl37] at hcl
  obtain ⟨v0, v1, rfl⟩ := len2 hcl
  obtain ⟨y0, y1, rfl⟩ := len2 (show xs.length = 2 from hxl)
  have g0 := hf 0 _ rfl
  have g1 := hf 1 _ rfl
  simp [cl3] at g0 g1
  obtain ⟨n0, h0, _, _⟩ := DataW.trod_int Try.underlying3 g0
  obtain ⟨n1, h1, _, _⟩ := DataW.trod_int Try.underlying3 g1
  simp at h0 h1
  subst h0 h1
  exact ⟨⟨n0, n1⟩, rfl⟩

theorem open_demands {H : Type} {enc : TypeId × Value → H} {W : World} {base : Nat} {sp : Nat → Bool} {held : Bool} {fuel : Nat} {x : DataW H × List MemPlace} {v : Value} (h : DataW.trod enc Try.prog W base sp held fuel 23 [v] = some x) :
    ∃ l a n c, v = .slice a n c ∧ (a = none → n = 0 ∧ c = 0) ∧ DmR W a n l := by
  rcases Go.Deep.open_slice Try.underlying23 h with ⟨hcs, _⟩ | ⟨a, l, c, m, n, D, Pl, hcs, _, hl, hm, hmm, hx, hc⟩
  · obtain rfl : v = .slice none 0 0 := by simpa using hcs
    exact ⟨fun _ => ⟨0, 0⟩, none, 0, 0, rfl, fun _ => ⟨rfl, rfl⟩, fun h => absurd h (Nat.lt_irrefl 0)⟩
  · obtain rfl : v = .slice (some a) l c := by simpa using hcs
    have hlm : l ≤ m := by rw [hmm]; split <;> omega
    have each : ∀ k, k < l → ∃ r : Dm, ∀ j, j < 2 → W.cell? (a.add (k * 2 + j)) = (dmC r)[j]? := by
      intro k hk
      obtain ⟨cs', h1, h2⟩ := hc k (by omega)
      rw [cl37] at h1
      obtain ⟨_, hlen, hcell⟩ := World.cells?_some h1
      obtain ⟨r, rfl⟩ := open_demands1 h2
      exact ⟨r, fun j hj => by have := hcell j hj; rw [Go.Deep.add_add] at this; exact this⟩
    have : Inhabited Dm := ⟨⟨0, 0⟩⟩
    obtain ⟨q, hq⟩ := Go.Deep.choose_lt each
    refine ⟨q, some a, l, c, rfl, (fun h => by cases h), fun hn => ?_⟩
    obtain ⟨b, off, spot⟩ := a
    have hu0 : W.cell? (Addr.add ⟨b, off, spot⟩ (0 * 2 + 0)) = some (.int .i64 (q 0).hig) := hq 0 hn 0 (by decide)
    have hspot : spot = none := by simpa [Addr.add] using World.cell?_spot hu0
    subst hspot
    rw [Go.WideShapes.add_plain] at hu0
    refine ⟨b, off, rfl, World.block_lt_of_cell? _ _ hu0, fun k hk => ?_⟩
    have y := fun j hj => hq k hk j hj
    simp only [Go.WideShapes.add_plain, ← Nat.add_assoc] at y
    exact ⟨y 0 (by decide), y 1 (by decide)⟩

theorem open_ints1 {H : Type} {enc : TypeId × Value → H} {W : World} {base : Nat} {sp : Nat → Bool} {held : Bool} {fuel : Nat} {x : DataW H × List MemPlace} {cs : List Value} (h : DataW.trod enc Try.prog W base sp held fuel 3 cs = some x) : ∃ r : Int, cs = [.int .i64 r] := by
  obtain ⟨n, h1, _, _⟩ := DataW.trod_int Try.underlying3 h
  exact ⟨n, h1⟩

theorem open_ints {H : Type} {enc : TypeId × Value → H} {W : World} {base : Nat} {sp : Nat → Bool} {held : Bool} {fuel : Nat} {x : DataW H × List MemPlace} {v : Value} (h : DataW.trod enc Try.prog W base sp held fuel 25 [v] = some x) :
    ∃ l a n c, v = .slice a n c ∧ (a = none → n = 0 ∧ c = 0) ∧ Row W a n l := by
  rcases Go.Deep.open_slice Try.underlying25 h with ⟨hcs, _⟩ | ⟨a, l, c, m, n, D, Pl, hcs, _, hl, hm, hmm, hx, hc⟩
  · obtain rfl : v = .slice none 0 0 := by simpa using hcs
    exact ⟨fun _ => 0, none, 0, 0, rfl, fun _ => ⟨rfl, rfl⟩, fun h => absurd h (Nat.lt_irrefl 0)⟩
  · obtain rfl : v = .slice (some a) l c := by simpa using hcs
    have hlm : l ≤ m := by rw [hmm]; split <;> omega
    have each : ∀ k, k < l → ∃ r : Int, ∀ j, j < 1 → W.cell? (a.add (k * 1 + j)) = (([.int .i64 r] : List Value))[j]? := by
      intro k hk
      obtain ⟨cs', h1, h2⟩ := hc k (by omega)
      rw [cl3] at h1
      obtain ⟨_, hlen, hcell⟩ := World.cells?_some h1
      obtain ⟨r, rfl⟩ := open_ints1 h2
      exact ⟨r, fun j hj => by have := hcell j hj; rw [Go.Deep.add_add] at this; exact this⟩
    have : Inhabited Int := ⟨0⟩
    obtain ⟨q, hq⟩ := Go.Deep.choose_lt each
    refine ⟨q, some a, l, c, rfl, (fun h => by cases h), fun hn => ?_⟩
    obtain ⟨b, off, spot⟩ := a
    have hu0 : W.cell? (Addr.add ⟨b, off, spot⟩ (0 * 1 + 0)) = some (.int .i64 (q 0)) := hq 0 hn 0 (by decide)
    have hspot : spot = none := by simpa [Addr.add] using World.cell?_spot hu0
    subst hspot
    rw [Go.WideShapes.add_plain] at hu0
    refine ⟨b, off, rfl, World.block_lt_of_cell? _ _ hu0, fun k hk => ?_⟩
    have y := fun j hj => hq k hk j hj
    simp only [Go.WideShapes.add_plain, ← Nat.add_assoc] at y
    have := y 0 (by decide)
    rw [Nat.mul_one, Nat.add_zero] at this
    exact this
end Go.Proofs.Ytcombbkhdnipkaa
