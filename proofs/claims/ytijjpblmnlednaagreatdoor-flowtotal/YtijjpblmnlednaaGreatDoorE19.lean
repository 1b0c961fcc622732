/-
  Configurations that came in: how they lie in memory.
-/
import Derived.Test.YtijjpblmnlednaaGreatDoorE9
import Derived.WalkKit
import Derived.SliceStrings
import Derived.Deep.SlicePairs
import Derived.OpenShut
import Derived.ShutString
import Derived.ChangeMaps5
namespace Go.Proofs.YtijjpblmnlednaaGreatDoor
open Go.RowKit
theorem cl3 : Tryz.prog.cellsOf 3 = 1 := by kernel_rfl
theorem cl9 : Tryz.prog.cellsOf 9 = 1 := by kernel_rfl
theorem cl22 : Tryz.prog.cellsOf 22 = 1 := by kernel_rfl
theorem cl23 : Tryz.prog.cellsOf 23 = 1 := by kernel_rfl
theorem cl25 : Tryz.prog.cellsOf 25 = 6 := by kernel_rfl
theorem cl38 : Tryz.prog.cellsOf 45 = 10 := by kernel_rfl
theorem cl39 : Tryz.prog.cellsOf 51 = 1 := by kernel_rfl
theorem cl41 : Tryz.prog.cellsOf 53 = 5 := by kernel_rfl
theorem cl42 : Tryz.prog.cellsOf 26 = 1 := by kernel_rfl
theorem cl44 : Tryz.prog.cellsOf 50 = 5 := by kernel_rfl
theorem len_succ {α : Type} {n : Nat} : ∀ {l : List α}, l.length = n + 1 → ∃ a t, l = a :: t ∧ t.length = n
  | a :: t, h => ⟨a, t, rfl, by simpa using h⟩
theorem len5 {α : Type} {l : List α} (h : l.length = 5) : ∃ a b c d e, l = [a, b, c, d, e] := by
  obtain ⟨a, t1, rfl, h1⟩ := len_succ h
  obtain ⟨b, t2, rfl, h2⟩ := len_succ h1
  obtain ⟨c, t3, rfl, h3⟩ := len_succ h2
  obtain ⟨d, t4, rfl, h4⟩ := len_succ h3
  obtain ⟨e, t5, rfl, h5⟩ := len_succ h4
  obtain rfl := List.length_eq_zero_iff.1 h5
  exact ⟨a, b, c, d, e, rfl⟩
theorem len6 {α : Type} {l : List α} (h : l.length = 6) : ∃ a b c d e f, l = [a, b, c, d, e, f] := by
  obtain ⟨a, t1, rfl, h1⟩ := len_succ h
  obtain ⟨b, c, d, e, f, rfl⟩ := len5 h1
  exact ⟨a, b, c, d, e, f, rfl⟩
theorem len10 {α : Type} {l : List α} (h : l.length = 10) : ∃ a b c d e f g i j k, l = [a, b, c, d, e, f, g, i, j, k] := by
  obtain ⟨a, t1, rfl, h1⟩ := len_succ h
  obtain ⟨b, t2, rfl, h2⟩ := len_succ h1
  obtain ⟨c, t3, rfl, h3⟩ := len_succ h2
  obtain ⟨d, t4, rfl, h4⟩ := len_succ h3
  obtain ⟨e, f, g, i, j, k, rfl⟩ := len6 h4
  exact ⟨a, b, c, d, e, f, g, i, j, k, rfl⟩
theorem open_list {H : Type} {enc : TypeId × Value → H} {W : World} {base : Nat} {sp : Nat → Bool} {held : Bool} {fuel : Nat} {x : DataW H × List MemPlace} {v : Value} (h : DataW.trod enc Tryz.prog W base sp held fuel 26 [v] = some x) : ∃ L, LsR W v L := by
  rcases Go.ChangeShapes.open_strings Tryz.underlying26 Tryz.underlying9 cl9 h with ⟨hcs, _⟩ | ⟨a, l, c, ss, hcs, _, hl, hm, hlen, _, hcell, hsz⟩
  · obtain rfl : v = .slice none 0 0 := by simpa using hcs
    exact ⟨[], none, 0, rfl, fun h => absurd h (Nat.lt_irrefl 0), Nat.le_refl _, Nat.zero_le _, fun _ h => by cases h⟩
  · obtain rfl : v = .slice (some a) l c := by simpa using hcs
    have hle : l ≤ ss.length := by rw [hlen]; split <;> omega
    have hlt : (ss.take l).length = l := by rw [List.length_take]; omega
    have hg : ∀ k, k < l → gt (ss.take l) k = ss.getD k ByteArray.empty := fun k hk => by
      rw [gt_eq (by omega), List.getElem_take, List.getD, List.getElem?_eq_getElem (by omega)]
      rfl
    have hm9 : c ≤ 9223372036854775807 := by unfold maxLen at hm; omega
    refine ⟨ss.take l, some a, c, by rw [hlt], fun hn => ?_, by omega, by omega, fun y hy => ?_⟩
    · rw [hlt] at hn
      obtain ⟨b, off, spot⟩ := a
      have hspot : spot = none := by simpa [Addr.add] using World.cell?_spot (hcell 0 (by omega))
      subst hspot
      refine ⟨b, off, rfl, ?_, fun k hk => ?_⟩
      · have := hcell 0 (by omega)
        rw [Go.WideShapes.add_plain] at this
        exact World.block_lt_of_cell? _ _ this
      · rw [hlt] at hk
        have q0 := hcell k (by omega)
        rw [Go.WideShapes.add_plain] at q0
        rw [q0, hg k hk]
    · have := hsz y (List.mem_of_mem_take hy)
      unfold maxLen at this
      omega
theorem open_rule {H : Type} {enc : TypeId × Value → H} {W : World} {base : Nat} {sp : Nat → Bool} {held : Bool} {fuel : Nat} {x : DataW H × List MemPlace} {cs : List Value} (h : DataW.trod enc Tryz.prog W base sp held fuel 50 cs = some x) : ∃ r v0 v1 v2 v3 v4, cs = [v0, v1, v2, v3, v4] ∧ RuR W v0 v1 v2 v3 v4 r := by
  obtain ⟨xs, k, hk, hxy, hcl, hxl, hf⟩ := DataW.trod_struct Tryz.underlying50 h
  rw [cl44] at hcl
  obtain ⟨v0, v1, v2, v3, v4, rfl⟩ := len5 hcl
  obtain ⟨y0, y1, y2, y3, y4, rfl⟩ := len5 (show xs.length = 5 from hxl)
  · skip
    have g0 := hf 0 _ rfl
    have g1 := hf 1 _ rfl
    have g2 := hf 2 _ rfl
    have g3 := hf 3 _ rfl
    have g4 := hf 4 _ rfl
    simp [cl42] at g0 g1 g2 g3 g4
    obtain ⟨L0, l0⟩ := open_list g0
    obtain ⟨L1, l1⟩ := open_list g1
    obtain ⟨L2, l2⟩ := open_list g2
    obtain ⟨L3, l3⟩ := open_list g3
    obtain ⟨L4, l4⟩ := open_list g4
    exact ⟨⟨L0, L1, L2, L3, L4⟩, v0, v1, v2, v3, v4, rfl, l0, l1, l2, l3, l4⟩
theorem open_level {H : Type} {enc : TypeId × Value → H} {W : World} {base : Nat} {sp : Nat → Bool} {held : Bool} {fuel : Nat} {x : DataW H × List MemPlace} {cs : List Value} (h : DataW.trod enc Tryz.prog W base sp held fuel 45 cs = some x) : ∃ l : Lv, cs = lvC l ∧ l.name.size ≤ 9223372036854775807 := by
  obtain ⟨xs, k, hk, hxy, hcl, hxl, hf⟩ := DataW.trod_struct Tryz.underlying45 h
  rw [cl38] at hcl
  obtain ⟨v0, v1, v2, v3, v4, v5, v6, v7, v8, v9, rfl⟩ := len10 hcl
  obtain ⟨y0, y1, y2, y3, y4, y5, y6, y7, y8, y9, rfl⟩ := len10 (show xs.length = 10 from hxl)
  · skip
    have g0 := hf 0 _ rfl
    have g1 := hf 1 _ rfl
    have g2 := hf 2 _ rfl
    have g3 := hf 3 _ rfl
    have g4 := hf 4 _ rfl
    have g5 := hf 5 _ rfl
    have g6 := hf 6 _ rfl
    have g7 := hf 7 _ rfl
    have g8 := hf 8 _ rfl
    have g9 := hf 9 _ rfl
    simp [cl3, cl9] at g0 g1 g2 g3 g4 g5 g6 g7 g8 g9
    obtain ⟨s0, h0, _, w0⟩ := DataW.trod_string Tryz.underlying9 g0
    obtain ⟨n1, h1, _, _⟩ := DataW.trod_int Tryz.underlying3 g1
    obtain ⟨n2, h2, _, _⟩ := DataW.trod_int Tryz.underlying3 g2
    obtain ⟨n3, h3, _, _⟩ := DataW.trod_int Tryz.underlying3 g3
    obtain ⟨n4, h4, _, _⟩ := DataW.trod_int Tryz.underlying3 g4
    obtain ⟨n5, h5, _, _⟩ := DataW.trod_int Tryz.underlying3 g5
    obtain ⟨n6, h6, _, _⟩ := DataW.trod_int Tryz.underlying3 g6
    obtain ⟨n7, h7, _, _⟩ := DataW.trod_int Tryz.underlying3 g7
    obtain ⟨n8, h8, _, _⟩ := DataW.trod_int Tryz.underlying3 g8
    obtain ⟨n9, h9, _, _⟩ := DataW.trod_int Tryz.underlying3 g9
    simp at h0 h1 h2 h3 h4 h5 h6 h7 h8 h9
    subst h0 h1 h2 h3 h4 h5 h6 h7 h8 h9
    exact ⟨⟨s0, n1, n2, n3, n4, n5, n6, n7, n8, n9⟩, rfl, by unfold maxLen at w0; simp only; omega⟩
theorem open_rules {H : Type} {enc : TypeId × Value → H} {W : World} {base : Nat} {sp : Nat → Bool} {held : Bool} {fuel : Nat} {x : DataW H × List MemPlace} {v : Value} (h : DataW.trod enc Tryz.prog W base sp held fuel 51 [v] = some x) : ∃ rs, RlR W v rs := by
  rcases Go.Deep.open_slice Tryz.underlying51 h with ⟨hcs, _⟩ | ⟨a, l, c, m, n, D, Pl, hcs, _, hl, hm, hmm, _, hc⟩
  · obtain rfl : v = .slice none 0 0 := by simpa using hcs
    exact ⟨[], none, 0, rfl, Nat.zero_le _, fun h => absurd h (Nat.lt_irrefl 0)⟩
  · obtain rfl : v = .slice (some a) l c := by simpa using hcs
    have hlm : l ≤ m := by rw [hmm]; split <;> omega
    have hm9 : c ≤ 9223372036854775807 := by unfold maxLen at hm; omega
    have each : ∀ k, k < l → ∃ r : Rl, ∃ v0 v1 v2 v3 v4, (∀ j, j < 5 → W.cell? (a.add (k * 5 + j)) = [v0, v1, v2, v3, v4][j]?) ∧ RuR W v0 v1 v2 v3 v4 r := by
      intro k hk
      obtain ⟨cs', h1, h2⟩ := hc k (by omega)
      rw [cl44] at h1
      obtain ⟨_, hlen, hcell⟩ := World.cells?_some h1
      obtain ⟨r, v0, v1, v2, v3, v4, rfl, hr⟩ := open_rule h2
      exact ⟨r, v0, v1, v2, v3, v4, fun j hj => by have := hcell j hj; rw [Go.Deep.add_add] at this; exact this, hr⟩
    have : Inhabited Rl := ⟨⟨[], [], [], [], []⟩⟩
    obtain ⟨q, hq⟩ := Go.Deep.choose_lt each
    have hlen : ((List.range l).map q).length = l := by simp
    refine ⟨(List.range l).map q, some a, c, by rw [hlen], by rw [hlen]; omega, fun hn => ?_⟩
    rw [hlen] at hn
    obtain ⟨b, off, spot⟩ := a
    obtain ⟨u0, u1, u2, u3, u4, hu, _⟩ := hq 0 hn
    have hu0 : W.cell? (Addr.add ⟨b, off, spot⟩ (0 * 5 + 0)) = some u0 := hu 0 (by decide)
    have hspot : spot = none := by simpa [Addr.add] using World.cell?_spot hu0
    subst hspot
    rw [Go.WideShapes.add_plain] at hu0
    refine ⟨b, off, rfl, World.block_lt_of_cell? _ _ hu0, fun k hk => ?_⟩
    obtain ⟨v0, v1, v2, v3, v4, hcl, hr⟩ := hq k (by rw [hlen] at hk; exact hk)
    have e : ((List.range l).map q)[k] = q k := by simp
    have hcl' : ∀ j, j < 5 → W.cell? ⟨b, off + k * 5 + j, none⟩ = [v0, v1, v2, v3, v4][j]? := fun j hj => by have := hcl j hj; rw [Go.WideShapes.add_plain, ← Nat.add_assoc] at this; exact this
    rw [e]
    exact ⟨v0, v1, v2, v3, v4, ⟨hcl' 0 (by decide), hcl' 1 (by decide), hcl' 2 (by decide), hcl' 3 (by decide), hcl' 4 (by decide)⟩, hr⟩
theorem open_schema {H : Type} {enc : TypeId × Value → H} {W : World} {base : Nat} {sp : Nat → Bool} {held : Bool} {fuel : Nat} {x : DataW H × List MemPlace} {cs : List Value} (h : DataW.trod enc Tryz.prog W base sp held fuel 53 cs = some x) : ∃ p : Sc × Value, cs = scC p.1 p.2 ∧ p.1.name.size ≤ 9223372036854775807 ∧ p.1.level.size ≤ 9223372036854775807 ∧ RlR W p.2 p.1.rules := by
  obtain ⟨xs, k, hk, hxy, hcl, hxl, hf⟩ := DataW.trod_struct Tryz.underlying53 h
  rw [cl41] at hcl
  obtain ⟨v0, v1, v2, v3, v4, rfl⟩ := len5 hcl
  obtain ⟨y0, y1, y2, y3, y4, rfl⟩ := len5 (show xs.length = 5 from hxl)
  · skip
    have g0 := hf 0 _ rfl
    have g1 := hf 1 _ rfl
    have g2 := hf 2 _ rfl
    have g3 := hf 3 _ rfl
    have g4 := hf 4 _ rfl
    simp [cl3, cl9, cl39] at g0 g1 g2 g3 g4
    obtain ⟨s0, h0, _, w0⟩ := DataW.trod_string Tryz.underlying9 g0
    obtain ⟨s1, h1, _, w1⟩ := DataW.trod_string Tryz.underlying9 g1
    obtain ⟨n2, h2, _, _⟩ := DataW.trod_int Tryz.underlying3 g2
    obtain ⟨n3, h3, _, _⟩ := DataW.trod_int Tryz.underlying3 g3
    obtain ⟨rs, hr⟩ := open_rules g4
    simp at h0 h1 h2 h3
    subst h0 h1 h2 h3
    exact ⟨(⟨s0, s1, n2, n3, rs⟩, v4), rfl, by unfold maxLen at w0; simp only; omega, by unfold maxLen at w1; simp only; omega, hr⟩
theorem open_levels {H : Type} {enc : TypeId × Value → H} {W : World} {base : Nat} {sp : Nat → Bool} {held : Bool} {fuel : Nat} {x : DataW H × List MemPlace} {v : Value} (h : DataW.trod enc Tryz.prog W base sp held fuel 22 [v] = some x) : ∃ L a c, v = .slice a L.length c ∧ L.length ≤ c ∧ c ≤ 9223372036854775807 ∧ LvR W a L ∧ ∀ l ∈ L, l.name.size ≤ 9223372036854775807 := by
  rcases Go.Deep.open_slice Tryz.underlying22 h with ⟨hcs, _⟩ | ⟨a, l, c, m, n, D, Pl, hcs, _, hl, hm, hmm, _, hc⟩
  · obtain rfl : v = .slice none 0 0 := by simpa using hcs
    exact ⟨[], none, 0, rfl, Nat.le_refl _, Nat.zero_le _, fun h => absurd h (Nat.lt_irrefl 0), fun _ h => by cases h⟩
  · obtain rfl : v = .slice (some a) l c := by simpa using hcs
    have hlm : l ≤ m := by rw [hmm]; split <;> omega
    have hm9 : c ≤ 9223372036854775807 := by unfold maxLen at hm; omega
    have each : ∀ k, k < l → ∃ r : Lv, (∀ j, j < 10 → W.cell? (a.add (k * 10 + j)) = (lvC r)[j]?) ∧ r.name.size ≤ 9223372036854775807 := by
      intro k hk
      obtain ⟨cs', h1, h2⟩ := hc k (by omega)
      rw [cl38] at h1
      obtain ⟨_, hlen, hcell⟩ := World.cells?_some h1
      obtain ⟨r, rfl, hr⟩ := open_level h2
      exact ⟨r, fun j hj => by have := hcell j hj; rw [Go.Deep.add_add] at this; exact this, hr⟩
    have : Inhabited Lv := ⟨⟨⟨#[]⟩, 0, 0, 0, 0, 0, 0, 0, 0, 0⟩⟩
    obtain ⟨q, hq⟩ := Go.Deep.choose_lt each
    have hlen : ((List.range l).map q).length = l := by simp
    refine ⟨(List.range l).map q, some a, c, by rw [hlen], by omega, hm9, fun hn => ?_, fun y hy => ?_⟩
    · rw [hlen] at hn
      obtain ⟨b, off, spot⟩ := a
      have hu0 : W.cell? (Addr.add ⟨b, off, spot⟩ (0 * 10 + 0)) = some (.string (q 0).name) := (hq 0 hn).1 0 (by decide)
      have hspot : spot = none := by simpa [Addr.add] using World.cell?_spot hu0
      subst hspot
      rw [Go.WideShapes.add_plain] at hu0
      refine ⟨b, off, rfl, World.block_lt_of_cell? _ _ hu0, fun k hk j hj => ?_⟩
      have e : ((List.range l).map q)[k] = q k := by simp
      have := (hq k (by rw [hlen] at hk; exact hk)).1 j hj
      rw [Go.WideShapes.add_plain, ← Nat.add_assoc] at this
      rw [e]
      exact this
    · obtain ⟨k, hk, rfl⟩ := List.mem_map.1 hy
      exact (hq k (List.mem_range.1 hk)).2
theorem open_schemas {H : Type} {enc : TypeId × Value → H} {W : World} {base : Nat} {sp : Nat → Bool} {held : Bool} {fuel : Nat} {x : DataW H × List MemPlace} {v : Value} (h : DataW.trod enc Tryz.prog W base sp held fuel 23 [v] = some x) : ∃ S V a c, v = .slice a S.length c ∧ S.length ≤ c ∧ c ≤ 9223372036854775807 ∧ V.length = S.length ∧ ScR W a S V ∧ (∀ s ∈ S, s.name.size ≤ 9223372036854775807 ∧ s.level.size ≤ 9223372036854775807) ∧ ∀ k (h : k < S.length) (h' : k < V.length), RlR W V[k] S[k].rules := by
  rcases Go.Deep.open_slice Tryz.underlying23 h with ⟨hcs, _⟩ | ⟨a, l, c, m, n, D, Pl, hcs, _, hl, hm, hmm, _, hc⟩
  · obtain rfl : v = .slice none 0 0 := by simpa using hcs
    exact ⟨[], [], none, 0, rfl, Nat.le_refl _, Nat.zero_le _, rfl, (fun h => absurd h (Nat.lt_irrefl 0)), (fun s h => absurd h List.not_mem_nil), (fun k h => absurd h (Nat.not_lt_zero _))⟩
  · obtain rfl : v = .slice (some a) l c := by simpa using hcs
    have hlm : l ≤ m := by rw [hmm]; split <;> omega
    have hm9 : c ≤ 9223372036854775807 := by unfold maxLen at hm; omega
    have each : ∀ k, k < l → ∃ p : Sc × Value, (∀ j, j < 5 → W.cell? (a.add (k * 5 + j)) = (scC p.1 p.2)[j]?) ∧ p.1.name.size ≤ 9223372036854775807 ∧ p.1.level.size ≤ 9223372036854775807 ∧ RlR W p.2 p.1.rules := by
      intro k hk
      obtain ⟨cs', h1, h2⟩ := hc k (by omega)
      rw [cl41] at h1
      obtain ⟨_, hlen, hcell⟩ := World.cells?_some h1
      obtain ⟨r, rfl, hr⟩ := open_schema h2
      exact ⟨r, fun j hj => by have := hcell j hj; rw [Go.Deep.add_add] at this; exact this, hr⟩
    have : Inhabited (Sc × Value) := ⟨(⟨⟨#[]⟩, ⟨#[]⟩, 0, 0, []⟩, .nilIface)⟩
    obtain ⟨q, hq⟩ := Go.Deep.choose_lt each
    have hlen : ((List.range l).map fun k => (q k).1).length = l := by simp
    have hlenV : ((List.range l).map fun k => (q k).2).length = l := by simp
    refine ⟨(List.range l).map fun k => (q k).1, (List.range l).map fun k => (q k).2, some a, c, by rw [hlen], by omega, hm9, by rw [hlen, hlenV], fun hn => ?_, fun y hy => ?_, fun k hk hk' => ?_⟩
    · rw [hlen] at hn
      obtain ⟨b, off, spot⟩ := a
      have hu0 : W.cell? (Addr.add ⟨b, off, spot⟩ (0 * 5 + 0)) = some (.string (q 0).1.name) := (hq 0 hn).1 0 (by decide)
      have hspot : spot = none := by simpa [Addr.add] using World.cell?_spot hu0
      subst hspot
      rw [Go.WideShapes.add_plain] at hu0
      refine ⟨b, off, rfl, World.block_lt_of_cell? _ _ hu0, fun k hk hk' j hj => ?_⟩
      have e : ((List.range l).map fun k => (q k).1)[k] = (q k).1 := by simp
      have e' : ((List.range l).map fun k => (q k).2)[k] = (q k).2 := by simp
      have := (hq k (by rw [hlen] at hk; exact hk)).1 j hj
      rw [Go.WideShapes.add_plain, ← Nat.add_assoc] at this
      rw [e, e']
      exact this
    · obtain ⟨k, hk, rfl⟩ := List.mem_map.1 hy
      exact ⟨(hq k (List.mem_range.1 hk)).2.1, (hq k (List.mem_range.1 hk)).2.2.1⟩
    · have e : ((List.range l).map fun k => (q k).1)[k] = (q k).1 := by simp
      have e' : ((List.range l).map fun k => (q k).2)[k] = (q k).2 := by simp
      rw [e, e']
      exact (hq k (by rw [hlen] at hk; exact hk)).2.2.2
theorem open_conf {H : Type} {enc : TypeId × Value → H} {W : World} {base : Nat} {sp : Nat → Bool} {held : Bool} {fuel : Nat} {x : DataW H × List MemPlace} {cs : Array Value} (h : DataW.trod enc Tryz.prog W base sp held fuel 25 cs.toList = some x) : ∃ C, CfR W (.agg cs) C := by
  obtain ⟨xs, k, hk, hxy, hcl, hxl, hf⟩ := DataW.trod_struct Tryz.underlying25 h
  rw [cl25] at hcl
  obtain ⟨cs⟩ := cs
  simp only at h hf hcl ⊢
  obtain ⟨v0, v1, v2, v3, v4, v5, rfl⟩ := len6 hcl
  obtain ⟨y0, y1, y2, y3, y4, y5, rfl⟩ := len6 (show xs.length = 6 from hxl)
  · skip
    have g0 := hf 0 _ rfl
    have g1 := hf 1 _ rfl
    have g2 := hf 2 _ rfl
    have g3 := hf 3 _ rfl
    have g4 := hf 4 _ rfl
    have g5 := hf 5 _ rfl
    simp [cl3, cl22, cl23] at g0 g1 g2 g3 g4 g5
    obtain ⟨n0, h0, _, _⟩ := DataW.trod_int Tryz.underlying3 g0
    obtain ⟨n1, h1, _, _⟩ := DataW.trod_int Tryz.underlying3 g1
    obtain ⟨n2, h2, _, _⟩ := DataW.trod_int Tryz.underlying3 g2
    obtain ⟨n3, h3, _, _⟩ := DataW.trod_int Tryz.underlying3 g3
    obtain ⟨L, aL, cL, rfl, l1, l2, l3, l4⟩ := open_levels g4
    obtain ⟨S, V, aS, cS, rfl, s1, s2, s3, s4, s5, s6⟩ := open_schemas g5
    simp at h0 h1 h2 h3
    subst h0 h1 h2 h3
    exact ⟨⟨n0, n1, n2, n3, L, S⟩, ⟨by simp only; omega, by simp only; omega⟩, ⟨l4, s5⟩, aL, cL, aS, cS, V, rfl, l1, s1, l3, s3, s4, s6⟩
end Go.Proofs.YtijjpblmnlednaaGreatDoor
