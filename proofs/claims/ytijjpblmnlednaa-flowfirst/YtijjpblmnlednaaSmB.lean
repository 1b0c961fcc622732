/-
  What the look of 'Small' keeps in its course. No condition.
-/
import Derived.Test.YtijjpblmnlednaaOwn
namespace Go.Proofs.Ytijjpblmnlednaa
open Go.RowKit

/-- A yes, which says that no list is long, or a no. -/
structure IsB (C : Cf) (e : Ending) : Prop where
  ex : ∃ b, e = .returned (.bool b) ∧ (b = true → Bnd 80 C)
def ScN (s : Sc) : Prop := s.rules.length ≤ 40 ∧ ∀ r ∈ s.rules, RlN 40 r
def fv (r : Rl) : Nat → List ByteArray
  | 0 => r.users
  | 1 => r.groups
  | 2 => r.verbs
  | 3 => r.resources
  | _ => r.spaces
theorem fv_all {r : Rl} (h : ∀ t, t < 5 → (fv r t).length ≤ 40) : RlN 40 r := ⟨h 0 (by decide), h 1 (by decide), h 2 (by decide), h 3 (by decide), h 4 (by decide)⟩
theorem bnd_of {C : Cf} (h1 : C.levels.length ≤ 40) (h2 : C.schemas.length ≤ 80) (h3 : ∀ t (h : t < C.schemas.length), ScN C.schemas[t]) : Bnd 80 C :=
  ⟨by omega, h2, fun s hs => by
    obtain ⟨k, hk, rfl⟩ := List.getElem_of_mem hs
    obtain ⟨a, b⟩ := h3 k hk
    exact ⟨by omega, fun r hr => by obtain ⟨c0, c1, c2, c3, c4⟩ := b r hr; exact ⟨by omega, by omega, by omega, by omega, by omega⟩⟩⟩
theorem next_of {α : Type} {P : α → Prop} {L : List α} {k : Nat} (h : ∀ t (h : t < L.length), t < k → P L[t]) (hk : k < L.length) (hp : P L[k]) : ∀ t (h : t < L.length), t < k + 1 → P L[t] := fun t ht hlt => by
  rcases Nat.lt_or_eq_of_le (Nat.le_of_lt_succ hlt) with h1 | h1
  · exact h t ht h1
  · subst h1; exact hp
/-- A configuration in the course of the look. -/
structure Sml (w wr : World) (A : Nat) (x0 x1 x2 x3 : Int) (aL : Option Addr) (cL : Nat) (aS : Option Addr) (cS : Nat) (L : List Lv) (S : List Sc) (V : List Value) : Prop where
  bel : Below w.heap.size w wr
  blk : Blk wr A 29 #[.int .i64 x0, .int .i64 x1, .int .i64 x2, .int .i64 x3, .slice aL L.length cL, .slice aS S.length cS]
  lv : LvR wr aL L
  sc : ScR wr aS S V
  rl : ∀ k (h : k < S.length) (h' : k < V.length), RlR wr V[k] S[k].rules
theorem Sml.grown {w wr w' : World} {A : Nat} {x0 x1 x2 x3 : Int} {aL : Option Addr} {cL : Nat} {aS : Option Addr} {cS : Nat} {L : List Lv} {S : List Sc} {V : List Value}
    (h : Sml w wr A x0 x1 x2 x3 aL cL aS cS L S V) (b : Below wr.heap.size wr w') : Sml w w' A x0 x1 x2 x3 aL cL aS cS L S V :=
  ⟨h.bel.trans (b.mono h.bel.size), h.blk.kept (Kept.of_below b (fun _ => False)) id, h.lv.carry b, h.sc.carry b, fun k h1 h2 => (h.rl k h1 h2).carry b⟩
/-- Five lists. -/
def Fiv (w : World) (g : Nat) (r : Rl) : Prop := g < w.heap.size ∧ ∀ p, p < 5 → ∃ v, w.cell? ⟨g, p, none⟩ = some v ∧ LsR w v (fv r p)
theorem Fiv.grown {w w' : World} {g : Nat} {r : Rl} (h : Fiv w g r) (b : Below w.heap.size w w') : Fiv w' g r :=
  ⟨Nat.lt_of_lt_of_le h.1 b.size, fun p hp => by
    obtain ⟨v, hc, hl⟩ := h.2 p hp
    exact ⟨v, (b.cell (p := ⟨g, p, none⟩) h.1).trans hc, hl.carry b⟩⟩
theorem Fiv.new {w : World} {v0 v1 v2 v3 v4 : Value} {r : Rl} (h : RuR w v0 v1 v2 v3 v4 r) : Fiv (w.alloc (.cells #[v0, v1, v2, v3, v4] 23)) w.heap.size r := by
  have AL := alloc_below w (.cells #[v0, v1, v2, v3, v4] 23)
  have NB := Blk.new w 23 #[v0, v1, v2, v3, v4]
  obtain ⟨l0, l1, l2, l3, l4⟩ := h
  refine ⟨NB.lt, fun p hp => ?_⟩
  match p, hp with
  | 0, _ => exact ⟨v0, NB.cellv 0 rfl, l0.carry AL⟩
  | 1, _ => exact ⟨v1, NB.cellv 1 rfl, l1.carry AL⟩
  | 2, _ => exact ⟨v2, NB.cellv 2 rfl, l2.carry AL⟩
  | 3, _ => exact ⟨v3, NB.cellv 3 rfl, l3.carry AL⟩
  | 4, _ => exact ⟨v4, NB.cellv 4 rfl, l4.carry AL⟩
/-- What the look at a schema keeps. -/
structure Smr (w wr : World) (A : Nat) (x0 x1 x2 x3 : Int) (aL : Option Addr) (cL : Nat) (aS : Option Addr) (cS : Nat) (L : List Lv) (S : List Sc) (V : List Value) (g : Nat) (y0 y1 : ByteArray) (y2 y3 : Int) (vr : Value) (rs : List Rl) : Prop where
  sm : Sml w wr A x0 x1 x2 x3 aL cL aS cS L S V
  bl : Blk wr g 46 #[.string y0, .string y1, .int .i64 y2, .int .i64 y3, vr]
  ru : RlR wr vr rs
theorem Smr.grown {w wr w' : World} {A : Nat} {x0 x1 x2 x3 : Int} {aL : Option Addr} {cL : Nat} {aS : Option Addr} {cS : Nat} {L : List Lv} {S : List Sc} {V : List Value} {g : Nat} {y0 y1 : ByteArray} {y2 y3 : Int} {vr : Value} {rs : List Rl}
    (h : Smr w wr A x0 x1 x2 x3 aL cL aS cS L S V g y0 y1 y2 y3 vr rs) (b : Below wr.heap.size wr w') : Smr w w' A x0 x1 x2 x3 aL cL aS cS L S V g y0 y1 y2 y3 vr rs :=
  ⟨h.sm.grown b, h.bl.kept (Kept.of_below b (fun _ => False)) id, h.ru.carry b⟩

end Go.Proofs.Ytijjpblmnlednaa
