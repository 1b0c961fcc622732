/-
  Blocks of memory, levels that are read, bounds. No condition.
-/
import Derived.Test.YtcombbkhdnipkaaRows
import Derived.WalkKit
import Derived.ProofKit
import Derived.OpenShut
import Derived.Below
import Derived.BigQuiet
import Derived.OwnWalk
import Derived.Deep.QuietTactic
import Derived.Deep.DeepMust
import Derived.Laws.Rows
import Derived.Deep.Cut
import Derived.Deep.CutBlock
import Derived.Deep.DeepCutAuto
import Derived.Lib.MinMax
namespace Go.Proofs.Ytcombbkhdnipkaa
open Go.RowKit

/-- A fact that no rule may use. -/
structure Hd (p : Prop) : Prop where
  out : p

/-- Nothing that was there has turned but the blocks of S. -/
structure Kept (S : Nat → Prop) (w w' : World) : Prop where
  os : w'.os = w.os
  tape : w'.tape = w.tape
  output : w'.output = w.output
  size : w.heap.size ≤ w'.heap.size
  block : ∀ k, k < w.heap.size → ¬ S k → w'.heap[k]? = w.heap[k]?

theorem Kept.refl (S : Nat → Prop) (w : World) : Kept S w w := ⟨rfl, rfl, rfl, Nat.le_refl _, fun _ _ _ => rfl⟩
theorem Kept.trans {S : Nat → Prop} {a b c : World} (h : Kept S a b) (k : Kept S b c) : Kept S a c :=
  ⟨k.os.trans h.os, k.tape.trans h.tape, k.output.trans h.output, Nat.le_trans h.size k.size, fun i hi hn => (k.block i (Nat.lt_of_lt_of_le hi h.size) hn).trans (h.block i hi hn)⟩
theorem Kept.mono {S T : Nat → Prop} {w w' : World} (h : Kept S w w') (e : ∀ k, k < w.heap.size → S k → T k) : Kept T w w' :=
  ⟨h.os, h.tape, h.output, h.size, fun k hk hn => h.block k hk fun hs => hn (e k hk hs)⟩
theorem Kept.then {S T : Nat → Prop} {a b c : World} (h : Kept S a b) (k : Kept T b c) (e : ∀ j, j < a.heap.size → T j → S j) : Kept S a c :=
  ⟨k.os.trans h.os, k.tape.trans h.tape, k.output.trans h.output, Nat.le_trans h.size k.size, fun i hi hn => (k.block i (Nat.lt_of_lt_of_le hi h.size) fun ht => hn (e i hi ht)).trans (h.block i hi hn)⟩
theorem Kept.of_below {w w' : World} (h : Below w.heap.size w w') (S : Nat → Prop) : Kept S w w' := ⟨h.os, h.tape, h.output, h.size, fun k hk _ => h.block k hk⟩
theorem Kept.below {S : Nat → Prop} {B : Nat} {w w' : World} (h : Kept S w w') (hB : B ≤ w.heap.size) (e : ∀ k, S k → B ≤ k) : Below B w w' :=
  ⟨h.os, h.tape, h.output, h.size, fun k hk => h.block k (Nat.lt_of_lt_of_le hk hB) fun hs => by have := e k hs; omega⟩
theorem Kept.of_grown {S : Nat → Prop} {w w' : World} {row : Option Nat} (h : w.grownBy w' row) (e : ∀ k, row = some k → S k) : Kept S w w' :=
  ⟨h.os, h.tape, h.output, h.size, fun k hk hn => h.block k hk fun er => hn (e k er.symm)⟩
theorem Kept.alloc {S : Nat → Prop} {a w : World} (h : Kept S a w) (o : Obj) : Kept S a (w.alloc o) := h.trans (Kept.of_below ((Below.refl _ _).alloc (Nat.le_refl _) _) S)
theorem Kept.drew {S : Nat → Prop} {a w : World} (h : Kept S a w) : Kept S a w.drew := ⟨h.os, h.tape, h.output, h.size, h.block⟩
theorem Kept.setCell {S : Nat → Prop} {a w : World} (h : Kept S a w) (p : Addr) (v : Value) (hp : S p.block ∨ a.heap.size ≤ p.block) : Kept S a (w.setCell p v) :=
  ⟨h.os, h.tape, h.output, by simpa using h.size, fun k hk hn => (Below.heap_setCell _ _ _ _ (fun e => hp.elim (fun hp => hn (by rw [e]; exact hp)) (fun hp => by omega))).trans (h.block k hk hn)⟩

/-- A block of cells of the type t, which may be written. -/
def Blk (w : World) (b t : Nat) (cs : Array Value) : Prop := w.heap[b]? = some (.cells cs t (0, 0))
theorem Blk.lt {w : World} {b t : Nat} {cs : Array Value} (h : Blk w b t cs) : b < w.heap.size := by
  unfold Blk at h
  rcases Nat.lt_or_ge b w.heap.size with h1 | h1
  · exact h1
  · rw [Array.getElem?_eq_none h1] at h; cases h
theorem Blk.cell {w : World} {b t : Nat} {cs : Array Value} (h : Blk w b t cs) (i : Nat) : w.cell? ⟨b, i, none⟩ = cs[i]? := by
  unfold Blk at h; simp [World.cell?, h]
theorem Blk.cellv {w : World} {b t : Nat} {cs : Array Value} (h : Blk w b t cs) (i : Nat) {v : Value} (hv : cs[i]? = some v) : w.cell? ⟨b, i, none⟩ = some v := (h.cell i).trans hv
theorem Blk.frozen {w : World} {b t : Nat} {cs : Array Value} (h : Blk w b t cs) (i : Nat) : w.frozen? ⟨b, i, none⟩ = false := by
  unfold Blk at h; simp [World.frozen?, h]
theorem Blk.kept {S : Nat → Prop} {w w' : World} {b t : Nat} {cs : Array Value} (h : Blk w b t cs) (k : Kept S w w') (hS : ¬ S b) : Blk w' b t cs := (k.block b h.lt hS).trans h
theorem Blk.set {w : World} {b t : Nat} {cs : Array Value} (h : Blk w b t cs) (i : Nat) (v : Value) : Blk (w.setCell ⟨b, i, none⟩ v) b t (cs.setIfInBounds i v) := heap_setCell_same w b i cs t v h
theorem Blk.other {w : World} {b t : Nat} {cs : Array Value} (h : Blk w b t cs) {p : Addr} (hp : b ≠ p.block) (v : Value) : Blk (w.setCell p v) b t cs := (Below.heap_setCell _ _ _ _ hp).trans h
theorem Blk.new (w : World) (t : Nat) (cs : Array Value) : Blk (w.alloc (.cells cs t)) w.heap.size t cs := by
  unfold Blk; show (w.heap.push _)[_]? = _; simp
theorem Blk.ne {w : World} {b b' t t' : Nat} {cs cs' : Array Value} (h : Blk w b t cs) (h' : Blk w b' t' cs') (e : t ≠ t') : b ≠ b' := fun he => by
  subst he; unfold Blk at h h'; rw [h] at h'; cases h'; exact e rfl
theorem Blk.ne' {w : World} {b b' t t' : Nat} {cs cs' : Array Value} {f : Nat × Nat} (h : Blk w b t cs) (h' : w.heap[b']? = some (.cells cs' t' f)) (e : t ≠ t') : b ≠ b' := fun he => by
  subst he; unfold Blk at h; rw [h] at h'; cases h'; exact e rfl


theorem alloc_below (w : World) (o : Obj) : Below w.heap.size w (w.alloc o) := (Below.refl _ _).alloc (Nat.le_refl _) _

theorem Blk.alloc {w : World} {b t : Nat} {cs : Array Value} (h : Blk w b t cs) (o : Obj) : Blk (w.alloc o) b t cs := h.kept (Kept.of_below (alloc_below w o) (fun _ => False)) id
theorem alloc_new (w : World) (o : Obj) (t : Nat) (cs : Array Value) : Blk ((w.alloc o).alloc (.cells cs t)) (w.heap.size + 1) t cs := by
  have := Blk.new (w.alloc o) t cs
  rwa [show (w.alloc o).heap.size = w.heap.size + 1 from by simp] at this
/-- Two boxes. -/
theorem boxes (w : World) (t1 t2 : Nat) (x y : Array Value) : Below w.heap.size w ((w.alloc (.cells x t1)).alloc (.cells y t2)) ∧ Blk ((w.alloc (.cells x t1)).alloc (.cells y t2)) w.heap.size t1 x ∧ Blk ((w.alloc (.cells x t1)).alloc (.cells y t2)) (w.heap.size + 1) t2 y :=
  ⟨((Below.refl _ _).alloc (Nat.le_refl _) _).alloc (by simp) _, (Blk.new w t1 x).alloc _, alloc_new w _ t2 y⟩

structure Lv where
  name : ByteArray
  kind : Int
  shares : Int
  lend : Int
  borrow : Int
  queues : Int
  hand : Int
  length : Int
  wait : Int
  guess : Int
def lvC (l : Lv) : List Value := [.string l.name, .int .i64 l.kind, .int .i64 l.shares, .int .i64 l.lend, .int .i64 l.borrow, .int .i64 l.queues, .int .i64 l.hand, .int .i64 l.length, .int .i64 l.wait, .int .i64 l.guess]
def lvA (l : Lv) : Array Value := #[.string l.name, .int .i64 l.kind, .int .i64 l.shares, .int .i64 l.lend, .int .i64 l.borrow, .int .i64 l.queues, .int .i64 l.hand, .int .i64 l.length, .int .i64 l.wait, .int .i64 l.guess]
def lvV (l : Lv) : Value := .agg #[.string l.name, .int .i64 l.kind, .int .i64 l.shares, .int .i64 l.lend, .int .i64 l.borrow, .int .i64 l.queues, .int .i64 l.hand, .int .i64 l.length, .int .i64 l.wait, .int .i64 l.guess]
def lvZ : Lv := ⟨⟨#[]⟩, 0, 0, 0, 0, 0, 0, 0, 0, 0⟩
/-- A level's ten cells, put. -/
theorem ten_set {w : World} {g : Nat} {z : Lv} (h : Blk w g 41 (lvA z)) (l : Lv) : Blk ((((((((((w.setCell ⟨g, 0, none⟩ (.string l.name)).setCell ⟨g, 1, none⟩ (.int .i64 l.kind)).setCell ⟨g, 2, none⟩ (.int .i64 l.shares)).setCell ⟨g, 3, none⟩ (.int .i64 l.lend)).setCell ⟨g, 4, none⟩ (.int .i64 l.borrow)).setCell ⟨g, 5, none⟩ (.int .i64 l.queues)).setCell ⟨g, 6, none⟩ (.int .i64 l.hand)).setCell ⟨g, 7, none⟩ (.int .i64 l.length)).setCell ⟨g, 8, none⟩ (.int .i64 l.wait)).setCell ⟨g, 9, none⟩ (.int .i64 l.guess)) g 41 (lvA l)
    ∧ Kept (fun k => k = g) w ((((((((((w.setCell ⟨g, 0, none⟩ (.string l.name)).setCell ⟨g, 1, none⟩ (.int .i64 l.kind)).setCell ⟨g, 2, none⟩ (.int .i64 l.shares)).setCell ⟨g, 3, none⟩ (.int .i64 l.lend)).setCell ⟨g, 4, none⟩ (.int .i64 l.borrow)).setCell ⟨g, 5, none⟩ (.int .i64 l.queues)).setCell ⟨g, 6, none⟩ (.int .i64 l.hand)).setCell ⟨g, 7, none⟩ (.int .i64 l.length)).setCell ⟨g, 8, none⟩ (.int .i64 l.wait)).setCell ⟨g, 9, none⟩ (.int .i64 l.guess)) := by
  refine ⟨?_, (((((((((((Kept.refl (fun k => k = g) w).setCell _ _ (.inl rfl)).setCell _ _ (.inl rfl)).setCell _ _ (.inl rfl)).setCell _ _ (.inl rfl)).setCell _ _ (.inl rfl)).setCell _ _ (.inl rfl)).setCell _ _ (.inl rfl)).setCell _ _ (.inl rfl)).setCell _ _ (.inl rfl)).setCell _ _ (.inl rfl))⟩
  have := ((((((((((h.set 0 (.string l.name)).set 1 (.int .i64 l.kind)).set 2 (.int .i64 l.shares)).set 3 (.int .i64 l.lend)).set 4 (.int .i64 l.borrow)).set 5 (.int .i64 l.queues)).set 6 (.int .i64 l.hand)).set 7 (.int .i64 l.length)).set 8 (.int .i64 l.wait)).set 9 (.int .i64 l.guess))
  simpa [lvA] using this
theorem Blk.ten {w : World} {g : Nat} {l : Lv} (h : Blk w g 41 (lvA l)) :
    (w.cell? ⟨g, 0, none⟩ = some (.string l.name) ∧ w.cell? ⟨g, 1, none⟩ = some (.int .i64 l.kind) ∧ w.cell? ⟨g, 2, none⟩ = some (.int .i64 l.shares) ∧ w.cell? ⟨g, 3, none⟩ = some (.int .i64 l.lend) ∧ w.cell? ⟨g, 4, none⟩ = some (.int .i64 l.borrow) ∧ w.cell? ⟨g, 5, none⟩ = some (.int .i64 l.queues) ∧ w.cell? ⟨g, 6, none⟩ = some (.int .i64 l.hand) ∧ w.cell? ⟨g, 7, none⟩ = some (.int .i64 l.length) ∧ w.cell? ⟨g, 8, none⟩ = some (.int .i64 l.wait) ∧ w.cell? ⟨g, 9, none⟩ = some (.int .i64 l.guess))
    ∧ w.frozen? ⟨g, 0, none⟩ = false ∧ w.frozen? ⟨g, 1, none⟩ = false ∧ w.frozen? ⟨g, 2, none⟩ = false ∧ w.frozen? ⟨g, 3, none⟩ = false ∧ w.frozen? ⟨g, 4, none⟩ = false ∧ w.frozen? ⟨g, 5, none⟩ = false ∧ w.frozen? ⟨g, 6, none⟩ = false ∧ w.frozen? ⟨g, 7, none⟩ = false ∧ w.frozen? ⟨g, 8, none⟩ = false ∧ w.frozen? ⟨g, 9, none⟩ = false :=
  ⟨⟨h.cellv 0 rfl, h.cellv 1 rfl, h.cellv 2 rfl, h.cellv 3 rfl, h.cellv 4 rfl, h.cellv 5 rfl, h.cellv 6 rfl, h.cellv 7 rfl, h.cellv 8 rfl, h.cellv 9 rfl⟩, h.frozen 0, h.frozen 1, h.frozen 2, h.frozen 3, h.frozen 4, h.frozen 5, h.frozen 6, h.frozen 7, h.frozen 8, h.frozen 9⟩
/-- Levels that are read. -/
def LvR (w : World) (a : Option Addr) (n : Nat) (l : Nat → Lv) : Prop := 0 < n → ∃ b off, a = some ⟨b, off, none⟩ ∧ b < w.heap.size ∧ ∀ k, k < n → ∀ j, j < 10 → w.cell? ⟨b, off + k * 10 + j, none⟩ = (lvC (l k))[j]?
theorem LvR.carry {w w' : World} {a : Option Addr} {n : Nat} {l : Nat → Lv} (h : LvR w a n l) (b : Below w.heap.size w w') : LvR w' a n l := fun hn => by
  obtain ⟨g, off, rfl, hg, hc⟩ := h hn
  exact ⟨g, off, rfl, Nat.lt_of_lt_of_le hg b.size, fun k hk j hj => (b.cell (p := ⟨g, off + k * 10 + j, none⟩) hg).trans (hc k hk j hj)⟩
/-- The k-th level's cells. -/
theorem LvR.at {w : World} {a : Option Addr} {n : Nat} {l : Nat → Lv} (h : LvR w a n l) {k : Nat} (hk : k < n) : ∃ b off, a = some ⟨b, off, none⟩ ∧ b < w.heap.size ∧ (w.cell? ⟨b, off + k * 10, none⟩ = some (.string (l k).name) ∧ w.cell? ⟨b, off + k * 10 + 1, none⟩ = some (.int .i64 (l k).kind) ∧ w.cell? ⟨b, off + k * 10 + 2, none⟩ = some (.int .i64 (l k).shares) ∧ w.cell? ⟨b, off + k * 10 + 3, none⟩ = some (.int .i64 (l k).lend) ∧ w.cell? ⟨b, off + k * 10 + 4, none⟩ = some (.int .i64 (l k).borrow) ∧ w.cell? ⟨b, off + k * 10 + 5, none⟩ = some (.int .i64 (l k).queues) ∧ w.cell? ⟨b, off + k * 10 + 6, none⟩ = some (.int .i64 (l k).hand) ∧ w.cell? ⟨b, off + k * 10 + 7, none⟩ = some (.int .i64 (l k).length) ∧ w.cell? ⟨b, off + k * 10 + 8, none⟩ = some (.int .i64 (l k).wait) ∧ w.cell? ⟨b, off + k * 10 + 9, none⟩ = some (.int .i64 (l k).guess)) := by
  obtain ⟨b, off, rfl, hb, hc⟩ := h (by omega)
  have y := hc k hk
  exact ⟨b, off, rfl, hb, y 0 (by decide), y 1 (by decide), y 2 (by decide), y 3 (by decide), y 4 (by decide), y 5 (by decide), y 6 (by decide), y 7 (by decide), y 8 (by decide), y 9 (by decide)⟩
def shr (l : Nat → Lv) : Nat → Int := fun k => (l k).shares

/-- A level's bounds. -/
structure Bd where
  nom : Int
  mn : Int
  mx : Int
def bdC (b : Bd) : List Value := [.int .i64 b.nom, .int .i64 b.mn, .int .i64 b.mx]
def bdA (b : Bd) : Array Value := #[.int .i64 b.nom, .int .i64 b.mn, .int .i64 b.mx]
def bdV (b : Bd) : Value := .agg #[.int .i64 b.nom, .int .i64 b.mn, .int .i64 b.mx]
def bdOf (total p : Int) (l : Lv) : Bd := ⟨p, p - l.lend * p / 100, if 0 ≤ l.borrow then min (p + l.borrow * p / 100) total else total⟩
/-- A level whose numbers may be. -/
def InR (l : Lv) : Prop := 0 ≤ l.lend ∧ l.lend ≤ 100 ∧ -1 ≤ l.borrow ∧ l.borrow ≤ 1000
/-- Bounds that are read. -/
def BdR (w : World) (a : Option Addr) (n : Nat) (g : Nat → Bd) : Prop := 0 < n → ∃ b off, a = some ⟨b, off, none⟩ ∧ b < w.heap.size ∧ ∀ k, k < n → w.cell? ⟨b, off + k * 3, none⟩ = some (.int .i64 (g k).nom) ∧ w.cell? ⟨b, off + k * 3 + 1, none⟩ = some (.int .i64 (g k).mn) ∧ w.cell? ⟨b, off + k * 3 + 2, none⟩ = some (.int .i64 (g k).mx)
theorem BdR.carry {w w' : World} {a : Option Addr} {n : Nat} {g : Nat → Bd} (h : BdR w a n g) (b : Below w.heap.size w w') : BdR w' a n g := fun hn => by
  obtain ⟨q, off, rfl, hg, hc⟩ := h hn
  exact ⟨q, off, rfl, Nat.lt_of_lt_of_le hg b.size, fun k hk => ⟨(b.cell (p := ⟨q, off + k * 3, none⟩) hg).trans (hc k hk).1, (b.cell (p := ⟨q, off + k * 3 + 1, none⟩) hg).trans (hc k hk).2.1, (b.cell (p := ⟨q, off + k * 3 + 2, none⟩) hg).trans (hc k hk).2.2⟩⟩
theorem bd_set {w : World} {g : Nat} {z : Bd} (h : Blk w g 39 (bdA z)) (x y u : Int) : Blk (((w.setCell ⟨g, 0, none⟩ (.int .i64 x)).setCell ⟨g, 1, none⟩ (.int .i64 y)).setCell ⟨g, 2, none⟩ (.int .i64 u)) g 39 (bdA ⟨x, y, u⟩)
    ∧ Kept (fun k => k = g) w (((w.setCell ⟨g, 0, none⟩ (.int .i64 x)).setCell ⟨g, 1, none⟩ (.int .i64 y)).setCell ⟨g, 2, none⟩ (.int .i64 u)) := by
  refine ⟨?_, (((Kept.refl (fun k => k = g) w).setCell _ _ (.inl rfl)).setCell _ _ (.inl rfl)).setCell _ _ (.inl rfl)⟩
  have := ((h.set 0 (.int .i64 x)).set 1 (.int .i64 y)).set 2 (.int .i64 u)
  simpa [bdA] using this
end Go.Proofs.Ytcombbkhdnipkaa
