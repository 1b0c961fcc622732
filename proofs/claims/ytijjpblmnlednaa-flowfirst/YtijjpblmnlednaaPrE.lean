/-
  Levels, schemas, rules and lists that are only read. No condition.
-/
import Derived.Test.YtijjpblmnlednaaBas
import Derived.Shelf.Abstract
namespace Go.Proofs.Ytijjpblmnlednaa
open Go.RowKit

theorem str_is {x y : ByteArray} (h : x = y) : (x.toList == y.toList) = true := by subst h; simp
theorem str_isnt {x y : ByteArray} (h : x ≠ y) : (x.toList == y.toList) = false := str_ne h
def lvV (l : Lv) : Value := .agg #[.string l.name, .int .i64 l.kind, .int .i64 l.shares, .int .i64 l.lend, .int .i64 l.borrow, .int .i64 l.queues, .int .i64 l.hand, .int .i64 l.length, .int .i64 l.wait, .int .i64 l.guess]
def scV (s : Sc) (v : Value) : Value := .agg #[.string s.name, .string s.level, .int .i64 s.rank, .int .i64 s.way, v]
theorem name_eq (x y : ByteArray) : (x.toList == y.toList) = decide (x = y) := by
  by_cases h : x = y
  · rw [str_is h, decide_eq_true h]
  · rw [str_isnt h, decide_eq_false h]

/-- Levels, schemas, rules, lists that are read. -/
def LvR (w : World) (a : Option Addr) (L : List Lv) : Prop := 0 < L.length → ∃ b off, a = some ⟨b, off, none⟩ ∧ b < w.heap.size ∧ ∀ k (h : k < L.length), ∀ j, j < 10 → w.cell? ⟨b, off + k * 10 + j, none⟩ = (lvC L[k])[j]?
def ScR (w : World) (a : Option Addr) (L : List Sc) (V : List Value) : Prop := 0 < L.length → ∃ b off, a = some ⟨b, off, none⟩ ∧ b < w.heap.size ∧ ∀ k (h : k < L.length) (h' : k < V.length), ∀ j, j < 5 → w.cell? ⟨b, off + k * 5 + j, none⟩ = (scC L[k] V[k])[j]?
def LsR (w : World) (v : Value) (L : List ByteArray) : Prop := ∃ a c, v = .slice a L.length c ∧ RowL w a L ∧ L.length ≤ c ∧ L.length ≤ 9223372036854775807 ∧ ∀ x ∈ L, x.size ≤ 9223372036854775807
def RuR (w : World) (v0 v1 v2 v3 v4 : Value) (r : Rl) : Prop := LsR w v0 r.users ∧ LsR w v1 r.groups ∧ LsR w v2 r.verbs ∧ LsR w v3 r.resources ∧ LsR w v4 r.spaces
def RlR (w : World) (v : Value) (rs : List Rl) : Prop := ∃ a c, v = .slice a rs.length c ∧ rs.length ≤ 9223372036854775807 ∧ (0 < rs.length → ∃ b off, a = some ⟨b, off, none⟩ ∧ b < w.heap.size ∧ ∀ k (h : k < rs.length), ∃ v0 v1 v2 v3 v4,
  (w.cell? ⟨b, off + k * 5, none⟩ = some v0 ∧ w.cell? ⟨b, off + k * 5 + 1, none⟩ = some v1 ∧ w.cell? ⟨b, off + k * 5 + 2, none⟩ = some v2 ∧ w.cell? ⟨b, off + k * 5 + 3, none⟩ = some v3 ∧ w.cell? ⟨b, off + k * 5 + 4, none⟩ = some v4) ∧ RuR w v0 v1 v2 v3 v4 rs[k])
structure CfR (w : World) (v : Value) (C : Cf) : Prop where
  sz : C.levels.length ≤ 9223372036854775807 ∧ C.schemas.length ≤ 9223372036854775807
  nm : (∀ l ∈ C.levels, l.name.size ≤ 9223372036854775807) ∧ ∀ s ∈ C.schemas, s.name.size ≤ 9223372036854775807 ∧ s.level.size ≤ 9223372036854775807
  ex : ∃ aL cL aS cS V, v = .agg #[.int .i64 C.total, .int .i64 C.period, .int .i64 C.perSeat, .int .i64 C.most, .slice aL C.levels.length cL, .slice aS C.schemas.length cS] ∧ C.levels.length ≤ cL ∧ C.schemas.length ≤ cS ∧ LvR w aL C.levels ∧ V.length = C.schemas.length ∧ ScR w aS C.schemas V ∧ ∀ k (h : k < C.schemas.length) (h' : k < V.length), RlR w V[k] C.schemas[k].rules
theorem LvR.carry {w w' : World} {a : Option Addr} {L : List Lv} (h : LvR w a L) (b : Below w.heap.size w w') : LvR w' a L := fun hn => by
  obtain ⟨g, off, rfl, hg, hc⟩ := h hn
  exact ⟨g, off, rfl, Nat.lt_of_lt_of_le hg b.size, fun k hk j hj => (b.cell (p := ⟨g, off + k * 10 + j, none⟩) hg).trans (hc k hk j hj)⟩
theorem ScR.carry {w w' : World} {a : Option Addr} {L : List Sc} {V : List Value} (h : ScR w a L V) (b : Below w.heap.size w w') : ScR w' a L V := fun hn => by
  obtain ⟨g, off, rfl, hg, hc⟩ := h hn
  exact ⟨g, off, rfl, Nat.lt_of_lt_of_le hg b.size, fun k hk hk' j hj => (b.cell (p := ⟨g, off + k * 5 + j, none⟩) hg).trans (hc k hk hk' j hj)⟩
theorem LsR.carry {w w' : World} {v : Value} {L : List ByteArray} (h : LsR w v L) (b : Below w.heap.size w w') : LsR w' v L := by
  obtain ⟨a, c, e, hr, hc⟩ := h
  exact ⟨a, c, e, hr.carry b, hc⟩
theorem RuR.carry {w w' : World} {v0 v1 v2 v3 v4 : Value} {r : Rl} (h : RuR w v0 v1 v2 v3 v4 r) (b : Below w.heap.size w w') : RuR w' v0 v1 v2 v3 v4 r := ⟨h.1.carry b, h.2.1.carry b, h.2.2.1.carry b, h.2.2.2.1.carry b, h.2.2.2.2.carry b⟩
theorem RlR.carry {w w' : World} {v : Value} {rs : List Rl} (h : RlR w v rs) (b : Below w.heap.size w w') : RlR w' v rs := by
  obtain ⟨a, c, e, hl, h⟩ := h
  refine ⟨a, c, e, hl, fun hn => ?_⟩
  obtain ⟨g, off, rfl, hg, hc⟩ := h hn
  refine ⟨g, off, rfl, Nat.lt_of_lt_of_le hg b.size, fun k hk => ?_⟩
  obtain ⟨v0, v1, v2, v3, v4, ⟨h0, h1, h2, h3, h4⟩, hr⟩ := hc k hk
  exact ⟨v0, v1, v2, v3, v4, ⟨(b.cell (p := ⟨g, off + k * 5, none⟩) hg).trans h0, (b.cell (p := ⟨g, off + k * 5 + 1, none⟩) hg).trans h1, (b.cell (p := ⟨g, off + k * 5 + 2, none⟩) hg).trans h2, (b.cell (p := ⟨g, off + k * 5 + 3, none⟩) hg).trans h3, (b.cell (p := ⟨g, off + k * 5 + 4, none⟩) hg).trans h4⟩, hr.carry b⟩
theorem CfR.carry {w w' : World} {v : Value} {C : Cf} (h : CfR w v C) (b : Below w.heap.size w w') : CfR w' v C := by
  obtain ⟨aL, cL, aS, cS, V, e, h1, h2, h3, h4, h5, h6⟩ := h.ex
  exact ⟨h.sz, h.nm, aL, cL, aS, cS, V, e, h1, h2, h3.carry b, h4, h5.carry b, fun k hk hk' => (h6 k hk hk').carry b⟩
end Go.Proofs.Ytijjpblmnlednaa
