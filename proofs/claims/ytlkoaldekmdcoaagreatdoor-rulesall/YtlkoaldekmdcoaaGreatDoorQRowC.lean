/-
  Configurations that came in: how they lie in memory. Condition: they lie in memory.
-/
import Derived.Test.YtlkoaldekmdcoaaGreatDoorQPrE
import Derived.WalkKit
import Derived.SliceStrings
import Derived.Deep.SlicePairs
import Derived.OpenShut
import Derived.ShutString
import Derived.ChangeMaps5
namespace Go.Proofs.YtlkoaldekmdcoaaGreatDoor
open Go.RowKit

theorem cl3 : Tryz.prog.cellsOf 3 = 1 := by kernel_rfl
theorem cl9 : Tryz.prog.cellsOf 9 = 1 := by kernel_rfl
theorem cl22 : Tryz.prog.cellsOf 22 = 1 := by kernel_rfl
theorem cl23 : Tryz.prog.cellsOf 23 = 1 := by kernel_rfl
theorem cl25 : Tryz.prog.cellsOf 25 = 6 := by kernel_rfl
theorem cl38 : Tryz.prog.cellsOf 40 = 10 := by kernel_rfl
theorem cl39 : Tryz.prog.cellsOf 44 = 1 := by kernel_rfl
theorem cl41 : Tryz.prog.cellsOf 46 = 5 := by kernel_rfl
theorem cl42 : Tryz.prog.cellsOf 49 = 1 := by kernel_rfl
theorem cl44 : Tryz.prog.cellsOf 51 = 5 := by kernel_rfl
theorem len_succ {α : Type} {n : Nat} : ∀ {l : List α}, l.length = n + 1 → ∃ a t, l = a :: t ∧ t.length = n
  | a :: t, h => ⟨a, t, rfl, by simpa using h⟩
theorem len5 {α : Type} {l : List α} (h : l.length = 5) : ∃ a b c d e, l = [a, b, c, d, e] := by
  obtain ⟨a, t1, rfl, h1⟩ := len_succ h
  obtain ⟨b, t2, rfl, h2⟩ := len_succ h1
  obtain ⟨c, t3, rfl, h3⟩ := len_succ h2
  obtain ⟨d, t4, rfl, h4⟩ := len_succ h3
  obtain ⟨e, t5, rfl, h5⟩ := len_succ h4
  obtain rfl := List.length_eq_zero_iff.1 h5
  exact ⟨a, b, c, d, e, rfl⟩
theorem len6 {α : Type} {l : List α} (h : l.length = 6) : ∃ a b c d e f, l = [a, b, c, d, e, f] := by
  obtain ⟨a, t1, rfl, h1⟩ := len_succ h
  obtain ⟨b, c, d, e, f, rfl⟩ := len5 h1
  exact ⟨a, b, c, d, e, f, rfl⟩
theorem len10 {α : Type} {l : List α} (h : l.length = 10) : ∃ a b c d e f g i j k, l = [a, b, c, d, e, f, g, i, j, k] := by
  obtain ⟨a, t1, rfl, h1⟩ := len_succ h
  obtain ⟨b, t2, rfl, h2⟩ := len_succ h1
  obtain ⟨c, t3, rfl, h3⟩ := len_succ h2
  obtain ⟨d, t4, rfl, h4⟩ := len_succ h3
  obtain ⟨e, f, g, i, j, k, rfl⟩ := len6 h4
  exact ⟨a, b, c, d, e, f, g, i, j, k, rfl⟩
theorem open_list {H : Type} {enc : TypeId × Value → H} {W : World} {base : Nat} {sp : Nat → Bool} {held : Bool} {fuel : Nat} {x : DataW H × List MemPlace} {v : Value} (h : DataW.trod enc Tryz.prog W base sp held fuel 49 [v] = some x) : ∃ L, LsR W v L := by
  rcases Go.ChangeShapes.open_strings Tryz.underlying49 Tryz.underlying9 cl9 h with ⟨hcs, _⟩ | ⟨a, l, c, ss, hcs, _, hl, hm, hlen, _, hcell, hsz⟩
  · obtain rfl : v = .slice none 0 0 := by simpa using hcs
    exact ⟨[], none, 0, rfl, fun h => absurd h (Nat.lt_irrefl 0), Nat.le_refl _, Nat.zero_le _, fun _ h => by cases h⟩
  · obtain rfl : v = .slice (some a) l c := by simpa using hcs
    have hle : l ≤ ss.length := by rw [hlen]; split <;> omega
    have hlt : (ss.take l).length = l := by rw [List.length_take]; omega
    have hg : ∀ k, k < l → gt (ss.take l) k = ss.getD k ByteArray.empty := fun k hk => by
      rw [gt_eq (by omega), List.getElem_take, List.getD, List.getElem?_eq_getElem (by omega)]
      rfl
    have hm9 : c ≤ 9223372036854775807 := by unfold maxLen at hm; omega
    refine ⟨ss.take l, some a, c, by rw [hlt], fun hn => ?_, by omega, by omega, fun y hy => ?_⟩
    · rw [hlt] at hn
      obtain ⟨b, off, spot⟩ := a
      have hspot : spot = none := by simpa [Addr.add] using World.cell?_spot (hcell 0 (by omega))
      subst hspot
      refine ⟨b, off, rfl, ?_, fun k hk => ?_⟩
      · have := hcell 0 (by omega)
        rw [Go.WideShapes.add_plain] at this
        exact World.block_lt_of_cell? _ _ this
      · rw [hlt] at hk
        have q0 := hcell k (by omega)
        rw [Go.WideShapes.add_plain] at q0
        rw [q0, hg k hk]
    · have := hsz y (List.mem_of_mem_take hy)
      unfold maxLen at this
      omega
theorem open_rule {H : Type} {enc : TypeId × Value → H} {W : World} {base : Nat} {sp : Nat → Bool} {held : Bool} {fuel : Nat} {x : DataW H × List MemPlace} {cs : List Value} (h : DataW.trod enc Tryz.prog W base sp held fuel 51 cs = some x) : ∃ r v0 v1 v2 v3 v4, cs = [v0, v1, v2, v3, v4] ∧ RuR W v0 v1 v2 v3 v4 r := by
  obtain ⟨xs, k, hk, hxy, hcl, hxl, hf⟩ := DataW.trod_struct Tryz.underlying51 h
  rw [cl44] at hcl
  obtain ⟨v0, v1, v2, v3, v4, rfl⟩ := len5 hcl
  obtain ⟨y0, y1, y2, y3, y4, rfl⟩ := len5 (show xs.length = 5 from hxl)
  · skip
    have g0 := hf 0 _ rfl
    have g1 := hf 1 _ rfl
    have g2 := hf 2 _ rfl
    have g3 := hf 3 _ rfl
    have g4 := hf 4 _ rfl
    simp [cl42] at g0 g1 g2 g3 g4
    obtain ⟨L0, l0⟩ := open_list g0
    obtain ⟨L1, l1⟩ := open_list g1
    obtain ⟨L2, l2⟩ := open_list g2
    obtain ⟨L3, l3⟩ := open_list g3
    obtain ⟨L4, l4⟩ := open_list g4
    exact ⟨⟨L0, L1, L2, L3, L4⟩, v0, v1, v2, v3, v4, rfl, l0, l1, l2, l3, l4⟩
theorem open_rules {H : Type} {enc : TypeId × Value → H} {W : World} {base : Nat} {sp : Nat → Bool} {held : Bool} {fuel : Nat} {x : DataW H × List MemPlace} {v : Value} (h : DataW.trod enc Tryz.prog W base sp held fuel 44 [v] = some x) : ∃ rs, RlR W v rs := by
  rcases Go.Deep.open_slice Tryz.underlying44 h with ⟨hcs, _⟩ | ⟨a, l, c, m, n, D, Pl, hcs, _, hl, hm, hmm, _, hc⟩
  · obtain rfl : v = .slice none 0 0 := by simpa using hcs
    exact ⟨[], none, 0, rfl, Nat.zero_le _, fun h => absurd h (Nat.lt_irrefl 0)⟩
  · obtain rfl : v = .slice (some a) l c := by simpa using hcs
    have hlm : l ≤ m := by rw [hmm]; split <;> omega
    have hm9 : c ≤ 9223372036854775807 := by unfold maxLen at hm; omega
    have each : ∀ k, k < l → ∃ r : Rl, ∃ v0 v1 v2 v3 v4, (∀ j, j < 5 → W.cell? (a.add (k * 5 + j)) = [v0, v1, v2, v3, v4][j]?) ∧ RuR W v0 v1 v2 v3 v4 r := by
      intro k hk
      obtain ⟨cs', h1, h2⟩ := hc k (by omega)
      rw [cl44] at h1
      obtain ⟨_, hlen, hcell⟩ := World.cells?_some h1
      obtain ⟨r, v0, v1, v2, v3, v4, rfl, hr⟩ := open_rule h2
      exact ⟨r, v0, v1, v2, v3, v4, fun j hj => by have := hcell j hj; rw [Go.Deep.add_add] at this; exact this, hr⟩
    have : Inhabited Rl := ⟨⟨[], [], [], [], []⟩⟩
    obtain ⟨q, hq⟩ := Go.Deep.choose_lt each
    have hlen : ((List.range l).map q).length = l := by simp
    refine ⟨(List.range l).map q, some a, c, by rw [hlen], by rw [hlen]; omega, fun hn => ?_⟩
    rw [hlen] at hn
    obtain ⟨b, off, spot⟩ := a
    obtain ⟨u0, u1, u2, u3, u4, hu, _⟩ := hq 0 hn
    have hu0 : W.cell? (Addr.add ⟨b, off, spot⟩ (0 * 5 + 0)) = some u0 := hu 0 (by decide)
    have hspot : spot = none := by simpa [Addr.add] using World.cell?_spot hu0
    subst hspot
    rw [Go.WideShapes.add_plain] at hu0
    refine ⟨b, off, rfl, World.block_lt_of_cell? _ _ hu0, fun k hk => ?_⟩
    obtain ⟨v0, v1, v2, v3, v4, hcl, hr⟩ := hq k (by rw [hlen] at hk; exact hk)
    have e : ((List.range l).map q)[k] = q k := by simp
    have hcl' : ∀ j, j < 5 → W.cell? ⟨b, off + k * 5 + j, none⟩ = [v0, v1, v2, v3, v4][j]? := fun j hj => by have := hcl j hj; rw [Go.WideShapes.add_plain, ← Nat.add_assoc] at this; exact this
    rw [e]
    exact ⟨v0, v1, v2, v3, v4, ⟨hcl' 0 (by decide), hcl' 1 (by decide), hcl' 2 (by decide), hcl' 3 (by decide), hcl' 4 (by decide)⟩, hr⟩
end Go.Proofs.YtlkoaldekmdcoaaGreatDoor
