/-
  The reference of layers 8 and 10 (BxS). Conditions: what is read lies in memory.
-/
import Derived.Test.YtfollcabppkihaaDoorD23
import Derived.Test.YtfollcabppkihaaDoorD20
namespace Go.Proofs.YtfollcabppkihaaDoor
open Go.RowKit Go.Lib

/-- A configuration's shape. -/
def Six (v : Value) : Prop := ∃ (x0 x1 x2 x3 : Int) (a1 : Option Addr) (n1 c1 : Nat) (a2 : Option Addr) (n2 c2 : Nat), v = .agg #[.int .i64 x0, .int .i64 x1, .int .i64 x2, .int .i64 x3, .slice a1 n1 c1, .slice a2 n2 c2]

theorem CfV.six {B : Nat} {w : World} {v : Value} {C : Cf} (h : CfV B w v C) : Six v := by
  obtain ⟨vL, vS, V, rfl, hL, hS⟩ := h
  obtain ⟨a1, c1, rfl⟩ := own_form hL
  obtain ⟨a2, c2, rfl⟩ := own_form hS.own
  exact ⟨_, _, _, _, _, _, _, _, _, _, rfl⟩

/-- The answer's cells, once they are written. -/
theorem Bx.sets {B : Nat} {w wr : World} {C : Cf} {vL vS : Value} {V : List Value} (h : Bx B w wr C vL vS V) (v0 v1 v2 v3 v4 v5 : Value) :
    Blk ((((((wr.setCell ⟨w.heap.size + 1, 0, none⟩ v0).setCell ⟨w.heap.size + 1, 1, none⟩ v1).setCell ⟨w.heap.size + 1, 2, none⟩ v2).setCell ⟨w.heap.size + 1, 3, none⟩ v3).setCell ⟨w.heap.size + 1, 4, none⟩ v4).setCell ⟨w.heap.size + 1, 5, none⟩ v5) (w.heap.size + 1) 25 #[v0, v1, v2, v3, v4, v5]
    ∧ Below w.heap.size w ((((((wr.setCell ⟨w.heap.size + 1, 0, none⟩ v0).setCell ⟨w.heap.size + 1, 1, none⟩ v1).setCell ⟨w.heap.size + 1, 2, none⟩ v2).setCell ⟨w.heap.size + 1, 3, none⟩ v3).setCell ⟨w.heap.size + 1, 4, none⟩ v4).setCell ⟨w.heap.size + 1, 5, none⟩ v5)
    ∧ Kept (fun k => k = w.heap.size + 1) wr ((((((wr.setCell ⟨w.heap.size + 1, 0, none⟩ v0).setCell ⟨w.heap.size + 1, 1, none⟩ v1).setCell ⟨w.heap.size + 1, 2, none⟩ v2).setCell ⟨w.heap.size + 1, 3, none⟩ v3).setCell ⟨w.heap.size + 1, 4, none⟩ v4).setCell ⟨w.heap.size + 1, 5, none⟩ v5) := by
  have k : Kept (fun k => k = w.heap.size + 1) wr ((((((wr.setCell ⟨w.heap.size + 1, 0, none⟩ v0).setCell ⟨w.heap.size + 1, 1, none⟩ v1).setCell ⟨w.heap.size + 1, 2, none⟩ v2).setCell ⟨w.heap.size + 1, 3, none⟩ v3).setCell ⟨w.heap.size + 1, 4, none⟩ v4).setCell ⟨w.heap.size + 1, 5, none⟩ v5) := ((((((Kept.refl (fun k => k = w.heap.size + 1) wr).setCell ⟨w.heap.size + 1, 0, none⟩ v0 (.inl rfl)).setCell ⟨w.heap.size + 1, 1, none⟩ v1 (.inl rfl)).setCell ⟨w.heap.size + 1, 2, none⟩ v2 (.inl rfl)).setCell ⟨w.heap.size + 1, 3, none⟩ v3 (.inl rfl)).setCell ⟨w.heap.size + 1, 4, none⟩ v4 (.inl rfl)).setCell ⟨w.heap.size + 1, 5, none⟩ v5 (.inl rfl)
  exact ⟨(((((h.r.set 0 v0).set 1 v1).set 2 v2).set 3 v3).set 4 v4).set 5 v5, h.bel.trans (k.below h.bel.size (fun j hj => by omega)), k⟩

theorem Bx.reads {B : Nat} {w wr : World} {C : Cf} {vL vS : Value} {V : List Value} (h : Bx B w wr C vL vS V) :
    wr.cell? ⟨w.heap.size, 0, none⟩ = some (.int .i64 C.total) ∧ wr.cell? ⟨w.heap.size, 1, none⟩ = some (.int .i64 C.period) ∧ wr.cell? ⟨w.heap.size, 2, none⟩ = some (.int .i64 C.perSeat) ∧ wr.cell? ⟨w.heap.size, 3, none⟩ = some (.int .i64 C.most) ∧ wr.cell? ⟨w.heap.size, 4, none⟩ = some vL ∧ wr.cell? ⟨w.heap.size, 5, none⟩ = some vS :=
  ⟨h.c.cellv 0 rfl, h.c.cellv 1 rfl, h.c.cellv 2 rfl, h.c.cellv 3 rfl, h.c.cellv 4 rfl, h.c.cellv 5 rfl⟩

theorem Bx.room {B : Nat} {w wr : World} {C : Cf} {vL vS : Value} {V : List Value} (h : Bx B w wr C vL vS V) :
    wr.cell? ⟨w.heap.size + 1, 0, none⟩ = some (.int .i64 0) ∧ wr.cell? ⟨w.heap.size + 1, 1, none⟩ = some (.int .i64 0) ∧ wr.cell? ⟨w.heap.size + 1, 2, none⟩ = some (.int .i64 0) ∧ wr.cell? ⟨w.heap.size + 1, 3, none⟩ = some (.int .i64 0) ∧ wr.cell? ⟨w.heap.size + 1, 4, none⟩ = some (.slice none 0 0) ∧ wr.cell? ⟨w.heap.size + 1, 5, none⟩ = some (.slice none 0 0)
    ∧ wr.frozen? ⟨w.heap.size + 1, 0, none⟩ = false ∧ wr.frozen? ⟨w.heap.size + 1, 1, none⟩ = false ∧ wr.frozen? ⟨w.heap.size + 1, 2, none⟩ = false ∧ wr.frozen? ⟨w.heap.size + 1, 3, none⟩ = false ∧ wr.frozen? ⟨w.heap.size + 1, 4, none⟩ = false ∧ wr.frozen? ⟨w.heap.size + 1, 5, none⟩ = false :=
  ⟨h.r.cellv 0 rfl, h.r.cellv 1 rfl, h.r.cellv 2 rfl, h.r.cellv 3 rfl, h.r.cellv 4 rfl, h.r.cellv 5 rfl, h.r.frozen 0, h.r.frozen 1, h.r.frozen 2, h.r.frozen 3, h.r.frozen 4, h.r.frozen 5⟩

theorem blk_two (w : World) (cs : Array Value) : Blk ((w.alloc (.cells cs 25)).alloc (.cells cs 25)) (w.heap.size + 1) 25 cs := by
  have := Blk.new (w.alloc (.cells cs 25)) 25 cs
  simpa using this


end Go.Proofs.YtfollcabppkihaaDoor
