/-
  Schemas that came in: how they lie in memory, and a configuration of them. Condition: they lie in memory.
-/
import Derived.Test.YtijjpblmnlednaaRowQ
import Derived.Test.YtijjpblmnlednaaCl
namespace Go.Proofs.Ytijjpblmnlednaa
open Go.RowKit

theorem open_scs {H : Type} {enc : TypeId × Value → H} {W : World} {base : Nat} {sp : Nat → Bool} {held : Bool} {fuel : Nat} {x : DataW H × List MemPlace} {a : Option Addr} {n c : Nat} (h : DataW.trod enc Try.prog W base sp held fuel 22 [.slice a n c] = some x) : ∃ S, SsR W (.slice a n c) S ∧ n ≤ c ∧ c ≤ 9223372036854775807 ∧ (a = none → n = 0 ∧ c = 0) := by
  have hN : a = none → n = 0 ∧ c = 0 := by
    rcases Go.Deep.open_slice Try.underlying22 h with ⟨hcs, _⟩ | ⟨a', l, c', m, n', D, Pl, hcs, _⟩
    · intro _
      simp at hcs
      exact ⟨hcs.2.1, hcs.2.2⟩
    · intro e
      simp at hcs
      rw [e] at hcs
      cases hcs.1
  obtain ⟨S, V, a', c', e, h1, h2, h3, h4, h5, h6⟩ := open_schemas h
  injection e with e1 e2 e3
  subst e1 e2 e3
  exact ⟨S, ⟨⟨_, _, V, rfl, by omega, h3, h4, h6⟩, h5⟩, h1, h2, hN⟩
theorem cf_of {W : World} {a : Option Addr} {n c : Nat} {S : List Sc} (h : SsR W (.slice a n c) S) (hc : n ≤ c) : CfR W (.agg #[.int .i64 0, .int .i64 0, .int .i64 0, .int .i64 0, .slice none 0 0, .slice a n c]) ⟨0, 0, 0, 0, [], S⟩ := by
  obtain ⟨a', c', V, e, hl, hV, hS, hR⟩ := h.ex
  injection e with e1 e2 e3
  subst e1 e2 e3
  exact ⟨⟨Nat.zero_le _, hl⟩, ⟨fun l h => absurd h List.not_mem_nil, h.nm⟩, none, 0, _, _, V, rfl, Nat.le_refl _, hc, fun h => absurd h (Nat.lt_irrefl 0), hV, hS, hR⟩
end Go.Proofs.Ytijjpblmnlednaa
