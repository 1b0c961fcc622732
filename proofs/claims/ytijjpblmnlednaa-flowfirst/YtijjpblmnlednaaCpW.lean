/-
  A list in memory of its own is read. No condition.
-/
import Derived.Test.YtijjpblmnlednaaPrE
namespace Go.Proofs.Ytijjpblmnlednaa
open Go.RowKit

theorem own_ls {B : Nat} {w : World} {v : Value} {L : List ByteArray} (h : OwnT B w v L) (h1 : L.length ≤ 9223372036854775807) (h2 : ∀ x ∈ L, x.size ≤ 9223372036854775807) : LsR w v L := by
  obtain ⟨a, c, e, hr⟩ := h.shape
  refine ⟨a, c, e, hr, ?_, h1, h2⟩
  rcases h.2 with ⟨e2, h0⟩ | ⟨g, cap, cur, e2, hb, hg, hc, _⟩
  · omega
  · rw [e] at e2
    injection e2 with _ _ e3
    omega
end Go.Proofs.Ytijjpblmnlednaa
