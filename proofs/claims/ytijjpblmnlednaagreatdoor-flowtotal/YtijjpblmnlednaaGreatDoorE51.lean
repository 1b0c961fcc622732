/-
  Rules, schemas and requests that came in: how they lie in memory.
  The table of powers that the rows list, as the library's theorem on strconv.Itoa asks it.
-/
import Derived.Test.YtijjpblmnlednaaGreatDoorE19
import Derived.Test.YtijjpblmnlednaaGreatDoorE50
import Derived.OpenShut
import Derived.Test.YtijjpblmnlednaaGreatDoorE35
import Derived.Lib.LaidU8
namespace Go.Proofs.YtijjpblmnlednaaGreatDoor
open Go.RowKit
theorem cl27 : Tryz.prog.cellsOf 28 = 6 := by kernel_rfl
section
variable {H : Type} {enc : TypeId × Value → H} {W : World} {base : Nat} {sp : Nat → Bool} {held : Bool} {fuel : Nat} {x : DataW H × List MemPlace} {cs : Array Value}
theorem open_ruleA (h : DataW.trod enc Tryz.prog W base sp held fuel 50 cs.toList = some x) : ∃ r a0 n0 c0 a1 n1 c1 a2 n2 c2 a3 n3 c3 a4 n4 c4, cs = #[.slice a0 n0 c0, .slice a1 n1 c1, .slice a2 n2 c2, .slice a3 n3 c3, .slice a4 n4 c4] ∧ RuR W (.slice a0 n0 c0) (.slice a1 n1 c1) (.slice a2 n2 c2) (.slice a3 n3 c3) (.slice a4 n4 c4) r := by
  obtain ⟨r, v0, v1, v2, v3, v4, e, hr⟩ := open_rule h
  obtain ⟨l⟩ := cs
  simp only at e
  subst e
  have hr0 := hr
  obtain ⟨⟨a0, c0, e0, -⟩, ⟨a1, c1, e1, -⟩, ⟨a2, c2, e2, -⟩, ⟨a3, c3, e3, -⟩, ⟨a4, c4, e4, -⟩⟩ := hr0
  subst e0 e1 e2 e3 e4
  exact ⟨r, _, _, _, _, _, _, _, _, _, _, _, _, _, _, _, rfl, hr⟩
theorem open_schemaA (h : DataW.trod enc Tryz.prog W base sp held fuel 53 cs.toList = some x) : ∃ s : Sc, ∃ a n c, cs = #[.string s.name, .string s.level, .int .i64 s.rank, .int .i64 s.way, .slice a n c] ∧ s.name.size ≤ 9223372036854775807 ∧ s.level.size ≤ 9223372036854775807 ∧ RlR W (.slice a n c) s.rules := by
  obtain ⟨⟨s, v⟩, e, h0, h1, hr⟩ := open_schema h
  obtain ⟨l⟩ := cs
  simp only at e h0 h1 hr
  subst e
  have hr0 := hr
  obtain ⟨a, c, e, -⟩ := hr0
  subst e
  exact ⟨s, a, _, c, rfl, h0, h1, hr⟩
theorem open_request (h : DataW.trod enc Tryz.prog W base sp held fuel 28 cs.toList = some x) : ∃ x0 L x2 x3 x4 x5 a n c, cs = #[.string x0, .slice a n c, .string x2, .string x3, .string x4, .int .i64 x5] ∧ RqR W (.agg #[.string x0, .slice a n c, .string x2, .string x3, .string x4, .int .i64 x5]) ⟨x0, L, x2, x3, x4, x5⟩ := by
  obtain ⟨xs, k, hk, hxy, hcl, hxl, hf⟩ := DataW.trod_struct Tryz.underlying28 h
  rw [cl27] at hcl
  obtain ⟨cs⟩ := cs
  simp only at h hf hcl ⊢
  obtain ⟨v0, v1, v2, v3, v4, v5, rfl⟩ := len6 hcl
  obtain ⟨y0, y1, y2, y3, y4, y5, rfl⟩ := len6 (show xs.length = 6 from hxl)
  have g0 := hf 0 _ rfl
  have g1 := hf 1 _ rfl
  have g2 := hf 2 _ rfl
  have g3 := hf 3 _ rfl
  have g4 := hf 4 _ rfl
  have g5 := hf 5 _ rfl
  simp [cl3, cl9, cl42] at g0 g1 g2 g3 g4 g5
  obtain ⟨s0, h0, _, w0⟩ := DataW.trod_string Tryz.underlying9 g0
  obtain ⟨L, l1⟩ := open_list g1
  obtain ⟨s2, h2, _, w2⟩ := DataW.trod_string Tryz.underlying9 g2
  obtain ⟨s3, h3, _, w3⟩ := DataW.trod_string Tryz.underlying9 g3
  obtain ⟨s4, h4, _, w4⟩ := DataW.trod_string Tryz.underlying9 g4
  obtain ⟨n5, h5, _, _⟩ := DataW.trod_int Tryz.underlying3 g5
  simp at h0 h2 h3 h4 h5
  subst h0 h2 h3 h4 h5
  have l1' := l1
  obtain ⟨a, c, e, -⟩ := l1'
  subst e
  unfold maxLen at w0 w2 w3 w4
  exact ⟨s0, L, s2, s3, s4, n5, a, _, c, rfl, ⟨_, _, _, rfl, l1⟩, by simp only; omega, by simp only; omega, by simp only; omega, by simp only; omega⟩
end
end Go.Proofs.YtijjpblmnlednaaGreatDoor

namespace Go.Proofs.YtijjpblmnlednaaGreatDoor
open Go.Lib
theorem pow_datum : (Rows.laid_internal_strconv_uint64pow10 : DataW Unit) = tabData .u64 pow10Tab := by kernel_rfl
theorem pow_tab {W : World} (h : VarReads Tryz.prog W powName Rows.laid_internal_strconv_uint64pow10) : Tab W := by
  obtain ⟨g, t, cs, fuel, p, hg, ht, hv, hd⟩ := h
  obtain rfl : 1 = g := Option.some.inj ((show Tryz.prog.globalNamed powName = some 1 by kernel_rfl).symm.trans hg)
  obtain rfl : 174 = t := Option.some.inj ((show (Tryz.prog.globals[1]?).map (·.type) = some 174 by kernel_rfl).symm.trans ht)
  rw [pow_datum] at hd
  unfold Tab TabIs
  rw [hv, ← cells_of_tab Tryz.underlying174 Tryz.underlying32 (by kernel_rfl) (by kernel_rfl) hd]
end Go.Proofs.YtijjpblmnlednaaGreatDoor
