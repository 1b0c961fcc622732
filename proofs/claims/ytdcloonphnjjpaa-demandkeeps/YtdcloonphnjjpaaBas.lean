/-
  Blocks of memory, and demands that lie in one. No condition.
-/
import Derived.Test.YtdcloonphnjjpaaRows
import Derived.ProofKit
import Derived.OpenShut
import Derived.Below
import Derived.BigQuiet
import Derived.OwnWalk
import Derived.Deep.QuietTactic
import Derived.Deep.DeepMust
import Derived.WalkKit
import Derived.Laws.Rows
import Derived.Deep.Cut
import Derived.Lib.MinMax
import Derived.StillTailTactics
namespace Go.Proofs.Ytdcloonphnjjpaa
open Go.RowKit

/-- A fact that no rule may use. -/
structure Hd (p : Prop) : Prop where
  out : p

/-- Nothing that was there has turned but the blocks of S. -/
structure Kept (S : Nat → Prop) (w w' : World) : Prop where
  os : w'.os = w.os
  tape : w'.tape = w.tape
  output : w'.output = w.output
  size : w.heap.size ≤ w'.heap.size
  block : ∀ k, k < w.heap.size → ¬ S k → w'.heap[k]? = w.heap[k]?

theorem Kept.refl (S : Nat → Prop) (w : World) : Kept S w w := ⟨rfl, rfl, rfl, Nat.le_refl _, fun _ _ _ => rfl⟩
theorem Kept.trans {S : Nat → Prop} {a b c : World} (h : Kept S a b) (k : Kept S b c) : Kept S a c :=
  ⟨k.os.trans h.os, k.tape.trans h.tape, k.output.trans h.output, Nat.le_trans h.size k.size, fun i hi hn => (k.block i (Nat.lt_of_lt_of_le hi h.size) hn).trans (h.block i hi hn)⟩
theorem Kept.mono {S T : Nat → Prop} {w w' : World} (h : Kept S w w') (e : ∀ k, k < w.heap.size → S k → T k) : Kept T w w' :=
  ⟨h.os, h.tape, h.output, h.size, fun k hk hn => h.block k hk fun hs => hn (e k hk hs)⟩
theorem Kept.then {S T : Nat → Prop} {a b c : World} (h : Kept S a b) (k : Kept T b c) (e : ∀ j, j < a.heap.size → T j → S j) : Kept S a c :=
  ⟨k.os.trans h.os, k.tape.trans h.tape, k.output.trans h.output, Nat.le_trans h.size k.size, fun i hi hn => (k.block i (Nat.lt_of_lt_of_le hi h.size) fun ht => hn (e i hi ht)).trans (h.block i hi hn)⟩
theorem Kept.of_below {w w' : World} (h : Below w.heap.size w w') (S : Nat → Prop) : Kept S w w' := ⟨h.os, h.tape, h.output, h.size, fun k hk _ => h.block k hk⟩
theorem Kept.below {S : Nat → Prop} {B : Nat} {w w' : World} (h : Kept S w w') (hB : B ≤ w.heap.size) (e : ∀ k, S k → B ≤ k) : Below B w w' :=
  ⟨h.os, h.tape, h.output, h.size, fun k hk => h.block k (Nat.lt_of_lt_of_le hk hB) fun hs => by have := e k hs; omega⟩
theorem Kept.of_grown {S : Nat → Prop} {w w' : World} {row : Option Nat} (h : w.grownBy w' row) (e : ∀ k, row = some k → S k) : Kept S w w' :=
  ⟨h.os, h.tape, h.output, h.size, fun k hk hn => h.block k hk fun er => hn (e k er.symm)⟩
theorem Kept.alloc {S : Nat → Prop} {a w : World} (h : Kept S a w) (o : Obj) : Kept S a (w.alloc o) := h.trans (Kept.of_below ((Below.refl _ _).alloc (Nat.le_refl _) _) S)
theorem Kept.drew {S : Nat → Prop} {a w : World} (h : Kept S a w) : Kept S a w.drew := ⟨h.os, h.tape, h.output, h.size, h.block⟩
theorem Kept.setCell {S : Nat → Prop} {a w : World} (h : Kept S a w) (p : Addr) (v : Value) (hp : S p.block ∨ a.heap.size ≤ p.block) : Kept S a (w.setCell p v) :=
  ⟨h.os, h.tape, h.output, by simpa using h.size, fun k hk hn => (Below.heap_setCell _ _ _ _ (fun e => hp.elim (fun hp => hn (by rw [e]; exact hp)) (fun hp => by omega))).trans (h.block k hk hn)⟩

/-- A block of cells of the type t, which may be written. -/
def Blk (w : World) (b t : Nat) (cs : Array Value) : Prop := w.heap[b]? = some (.cells cs t (0, 0))
theorem Blk.lt {w : World} {b t : Nat} {cs : Array Value} (h : Blk w b t cs) : b < w.heap.size := by
  unfold Blk at h
  rcases Nat.lt_or_ge b w.heap.size with h1 | h1
  · exact h1
  · rw [Array.getElem?_eq_none h1] at h; cases h
theorem Blk.cell {w : World} {b t : Nat} {cs : Array Value} (h : Blk w b t cs) (i : Nat) : w.cell? ⟨b, i, none⟩ = cs[i]? := by
  unfold Blk at h; simp [World.cell?, h]
theorem Blk.cellv {w : World} {b t : Nat} {cs : Array Value} (h : Blk w b t cs) (i : Nat) {v : Value} (hv : cs[i]? = some v) : w.cell? ⟨b, i, none⟩ = some v := (h.cell i).trans hv
theorem Blk.frozen {w : World} {b t : Nat} {cs : Array Value} (h : Blk w b t cs) (i : Nat) : w.frozen? ⟨b, i, none⟩ = false := by
  unfold Blk at h; simp [World.frozen?, h]
theorem Blk.kept {S : Nat → Prop} {w w' : World} {b t : Nat} {cs : Array Value} (h : Blk w b t cs) (k : Kept S w w') (hS : ¬ S b) : Blk w' b t cs := (k.block b h.lt hS).trans h
theorem Blk.set {w : World} {b t : Nat} {cs : Array Value} (h : Blk w b t cs) (i : Nat) (v : Value) : Blk (w.setCell ⟨b, i, none⟩ v) b t (cs.setIfInBounds i v) := heap_setCell_same w b i cs t v h
theorem Blk.other {w : World} {b t : Nat} {cs : Array Value} (h : Blk w b t cs) {p : Addr} (hp : b ≠ p.block) (v : Value) : Blk (w.setCell p v) b t cs := (Below.heap_setCell _ _ _ _ hp).trans h
theorem Blk.new (w : World) (t : Nat) (cs : Array Value) : Blk (w.alloc (.cells cs t)) w.heap.size t cs := by
  unfold Blk; show (w.heap.push _)[_]? = _; simp
theorem Blk.ne {w : World} {b b' t t' : Nat} {cs cs' : Array Value} (h : Blk w b t cs) (h' : Blk w b' t' cs') (e : t ≠ t') : b ≠ b' := fun he => by
  subst he; unfold Blk at h h'; rw [h] at h'; cases h'; exact e rfl
theorem Blk.ne' {w : World} {b b' t t' : Nat} {cs cs' : Array Value} {f : Nat × Nat} (h : Blk w b t cs) (h' : w.heap[b']? = some (.cells cs' t' f)) (e : t ≠ t') : b ≠ b' := fun he => by
  subst he; unfold Blk at h; rw [h] at h'; cases h'; exact e rfl

theorem alloc_below (w : World) (o : Obj) : Below w.heap.size w (w.alloc o) := (Below.refl _ _).alloc (Nat.le_refl _) _
theorem Blk.alloc {w : World} {b t : Nat} {cs : Array Value} (h : Blk w b t cs) (o : Obj) : Blk (w.alloc o) b t cs := h.kept (Kept.of_below (alloc_below w o) (fun _ => False)) id
theorem alloc_new (w : World) (o : Obj) (t : Nat) (cs : Array Value) : Blk ((w.alloc o).alloc (.cells cs t)) (w.heap.size + 1) t cs := by
  have := Blk.new (w.alloc o) t cs
  rwa [show (w.alloc o).heap.size = w.heap.size + 1 from by simp] at this
/-- Two boxes. -/
theorem boxes (w : World) (t1 t2 : Nat) (x y : Array Value) : Below w.heap.size w ((w.alloc (.cells x t1)).alloc (.cells y t2)) ∧ Blk ((w.alloc (.cells x t1)).alloc (.cells y t2)) w.heap.size t1 x ∧ Blk ((w.alloc (.cells x t1)).alloc (.cells y t2)) (w.heap.size + 1) t2 y :=
  ⟨((Below.refl _ _).alloc (Nat.le_refl _) _).alloc (by simp) _, (Blk.new w t1 x).alloc _, alloc_new w _ t2 y⟩

theorem int_of_wf {x : Int} (h : (Lit.int .i64 x).wf = true) : -9223372036854775808 ≤ x ∧ x ≤ 9223372036854775807 := by
  simp [Lit.wf, IntKind.min, IntKind.max, IntKind.signed, IntKind.bits] at h
  omega


theorem region_tail {id : Nat} {Q : Exit → Act → World → Prop} {a : Act} {w : World} {l : List Oper} (n : Nat) (hB : Region.lexTailB .any l.toArray n = true)
    (h : wpStill Try.prog l.toArray w.drew (fun a' => wpList Try.prog l.toArray Q (l.drop n) a' w.drew) (l.take n) a) : (Code.region id l.toArray true).wp Try.prog Q a w :=
  wp_region_still_tail n (by kernel_rfl) hB h

/-- A demand's two numbers. -/
def dmA (h s : Int) : Array Value := #[.int .i64 h, .int .i64 s]
theorem Blk.two {w : World} {g : Nat} {h s : Int} (k : Blk w g 23 (dmA h s)) : (w.cell? ⟨g, 0, none⟩ = some (.int .i64 h) ∧ w.cell? ⟨g, 1, none⟩ = some (.int .i64 s)) ∧ w.frozen? ⟨g, 0, none⟩ = false ∧ w.frozen? ⟨g, 1, none⟩ = false :=
  ⟨⟨k.cellv 0 rfl, k.cellv 1 rfl⟩, k.frozen 0, k.frozen 1⟩
theorem dm_set {w : World} {g : Nat} {h s : Int} (k : Blk w g 23 (dmA h s)) (x y : Int) : Blk ((w.setCell ⟨g, 0, none⟩ (.int .i64 x)).setCell ⟨g, 1, none⟩ (.int .i64 y)) g 23 (dmA x y)
    ∧ Kept (fun k => k = g) w ((w.setCell ⟨g, 0, none⟩ (.int .i64 x)).setCell ⟨g, 1, none⟩ (.int .i64 y)) := by
  refine ⟨?_, ((Kept.refl (fun k => k = g) w).setCell _ _ (.inl rfl)).setCell _ _ (.inl rfl)⟩
  have := (k.set 0 (.int .i64 x)).set 1 (.int .i64 y)
  simpa [dmA] using this
end Go.Proofs.Ytdcloonphnjjpaa
