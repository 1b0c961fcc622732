/-
  A configuration in memory of its own: lists, rules, schemas, levels; what stays when a block of another type is written; how it is read. No condition.
-/
import Derived.Test.YtlkoaldekmdcoaaGreatDoorCpy
import Derived.Test.YtlkoaldekmdcoaaGreatDoorPrJ
import Derived.Test.YtlkoaldekmdcoaaGreatDoorRowC
import Derived.Test.YtlkoaldekmdcoaaGreatDoorSmB
import Derived.Test.YtlkoaldekmdcoaaGreatDoorSmS
namespace Go.Proofs.YtlkoaldekmdcoaaGreatDoor
open Go.RowKit

/-- One after another the five are written. -/
theorem q5C_set : ∀ (L : List Q5) (i : Nat) (q : Q5), i < L.length →
    (((((q5C L).set (i * 5) q.v0).set (i * 5 + 1) q.v1).set (i * 5 + 2) q.v2).set (i * 5 + 3) q.v3).set (i * 5 + 4) q.v4 = q5C (L.set i q)
  | [], i, q, h => by simp at h
  | x :: L, 0, q, _ => by simp [q5C, q5L]
  | x :: L, i + 1, q, h => by
    have := q5C_set L i q (by simpa using h)
    simp only [q5C, q5L, List.set_cons_succ]
    rw [← this]
    rw [show (i + 1) * 5 = (i * 5) + 1 + 1 + 1 + 1 + 1 by omega]
    simp [List.set_cons_succ]
theorem scCs_set : ∀ (L : List Sc) (V : List Value) (i : Nat) (u : Value), i < L.length → i < V.length → (scCs L V).set (i * 5 + 4) u = scCs L (V.set i u)
  | [], _, i, u, h, _ => by simp at h
  | _ :: _, [], i, u, _, h => by simp at h
  | x :: L, v :: V, 0, u, _, _ => by simp [scCs, scC]
  | x :: L, v :: V, i + 1, u, h, h' => by
    have := scCs_set L V i u (by simpa using h) (by simpa using h')
    simp only [scCs, scC, List.set_cons_succ]
    rw [← this, show (i + 1) * 5 + 4 = (i * 5 + 4) + 1 + 1 + 1 + 1 + 1 by omega]
    simp [List.set_cons_succ]

section
variable {B : Nat} {S : Nat → Prop} {w w' : World} {v : Value}
/-- A store into an own row. -/
theorem owns_set {e size n g c : Nat} {xs : List Value} (h : w.ownsRow B e size (.slice (some ⟨g, 0, none⟩) n c) n xs) (i : Nat) (u : Value) : (w.setCell ⟨g, i, none⟩ u).ownsRow B e size (.slice (some ⟨g, 0, none⟩) n c) n (xs.set i u) := by
  obtain ⟨hl, h⟩ := h
  refine ⟨by simpa using hl, ?_⟩
  rcases h with ⟨e, _⟩ | ⟨g', cap, cur, e', hb, hg, hn, hc, hs, ht⟩
  · cases e
  · injection e' with e1 e2 e3
    injection e1 with e1
    injection e1 with e1
    subst e1 e3
    refine .inr ⟨g, c, cur.setIfInBounds i u, rfl, hb, Blk.set hg i u, hn, hc, by simpa using hs, ?_⟩
    rw [← ht]
    simp [List.take_set]
end

section
variable {B B' : Nat} {S : Nat → Prop} {w w' : World} {v : Value}
end
section
variable {B : Nat} {w : World} {v : Value}
end
end Go.Proofs.YtlkoaldekmdcoaaGreatDoor
