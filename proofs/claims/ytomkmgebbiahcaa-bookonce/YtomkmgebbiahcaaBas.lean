/-
  Blocks of memory, entries that are read. No condition.
-/
import Derived.Test.YtomkmgebbiahcaaRows
import Derived.WalkKit
import Derived.ProofKit
import Derived.OpenShut
import Derived.Below
import Derived.BigQuiet
import Derived.OwnWalk
import Derived.Deep.QuietTactic
import Derived.Deep.DeepMust
import Derived.Laws.Rows
import Derived.Deep.Cut
import Derived.Deep.CutBlock
import Derived.Deep.DeepCutAuto
import Derived.Lib.MinMax
import Derived.StillTailTactics
import Derived.Deep.AppendLies
import Derived.Laws.AppendOwnNone
namespace Go.Proofs.Ytomkmgebbiahcaa
open Go.RowKit

/-- A fact that no rule may use. -/
structure Hd (p : Prop) : Prop where
  out : p

/-- Nothing that was there has turned but the blocks of S. -/
structure Kept (S : Nat → Prop) (w w' : World) : Prop where
  os : w'.os = w.os
  tape : w'.tape = w.tape
  output : w'.output = w.output
  size : w.heap.size ≤ w'.heap.size
  block : ∀ k, k < w.heap.size → ¬ S k → w'.heap[k]? = w.heap[k]?

theorem Kept.refl (S : Nat → Prop) (w : World) : Kept S w w := ⟨rfl, rfl, rfl, Nat.le_refl _, fun _ _ _ => rfl⟩
theorem Kept.trans {S : Nat → Prop} {a b c : World} (h : Kept S a b) (k : Kept S b c) : Kept S a c :=
  ⟨k.os.trans h.os, k.tape.trans h.tape, k.output.trans h.output, Nat.le_trans h.size k.size, fun i hi hn => (k.block i (Nat.lt_of_lt_of_le hi h.size) hn).trans (h.block i hi hn)⟩
theorem Kept.mono {S T : Nat → Prop} {w w' : World} (h : Kept S w w') (e : ∀ k, k < w.heap.size → S k → T k) : Kept T w w' :=
  ⟨h.os, h.tape, h.output, h.size, fun k hk hn => h.block k hk fun hs => hn (e k hk hs)⟩
theorem Kept.then {S T : Nat → Prop} {a b c : World} (h : Kept S a b) (k : Kept T b c) (e : ∀ j, j < a.heap.size → T j → S j) : Kept S a c :=
  ⟨k.os.trans h.os, k.tape.trans h.tape, k.output.trans h.output, Nat.le_trans h.size k.size, fun i hi hn => (k.block i (Nat.lt_of_lt_of_le hi h.size) fun ht => hn (e i hi ht)).trans (h.block i hi hn)⟩
theorem Kept.of_below {w w' : World} (h : Below w.heap.size w w') (S : Nat → Prop) : Kept S w w' := ⟨h.os, h.tape, h.output, h.size, fun k hk _ => h.block k hk⟩
theorem Kept.below {S : Nat → Prop} {B : Nat} {w w' : World} (h : Kept S w w') (hB : B ≤ w.heap.size) (e : ∀ k, S k → B ≤ k) : Below B w w' :=
  ⟨h.os, h.tape, h.output, h.size, fun k hk => h.block k (Nat.lt_of_lt_of_le hk hB) fun hs => by have := e k hs; omega⟩
theorem Kept.of_grown {S : Nat → Prop} {w w' : World} {row : Option Nat} (h : w.grownBy w' row) (e : ∀ k, row = some k → S k) : Kept S w w' :=
  ⟨h.os, h.tape, h.output, h.size, fun k hk hn => h.block k hk fun er => hn (e k er.symm)⟩
theorem Kept.alloc {S : Nat → Prop} {a w : World} (h : Kept S a w) (o : Obj) : Kept S a (w.alloc o) := h.trans (Kept.of_below ((Below.refl _ _).alloc (Nat.le_refl _) _) S)
theorem Kept.drew {S : Nat → Prop} {a w : World} (h : Kept S a w) : Kept S a w.drew := ⟨h.os, h.tape, h.output, h.size, h.block⟩
theorem Kept.setCell {S : Nat → Prop} {a w : World} (h : Kept S a w) (p : Addr) (v : Value) (hp : S p.block ∨ a.heap.size ≤ p.block) : Kept S a (w.setCell p v) :=
  ⟨h.os, h.tape, h.output, by simpa using h.size, fun k hk hn => (Below.heap_setCell _ _ _ _ (fun e => hp.elim (fun hp => hn (by rw [e]; exact hp)) (fun hp => by omega))).trans (h.block k hk hn)⟩

/-- A block of cells of the type t, which may be written. -/
def Blk (w : World) (b t : Nat) (cs : Array Value) : Prop := w.heap[b]? = some (.cells cs t (0, 0))
theorem Blk.lt {w : World} {b t : Nat} {cs : Array Value} (h : Blk w b t cs) : b < w.heap.size := by
  unfold Blk at h
  rcases Nat.lt_or_ge b w.heap.size with h1 | h1
  · exact h1
  · rw [Array.getElem?_eq_none h1] at h; cases h
theorem Blk.cell {w : World} {b t : Nat} {cs : Array Value} (h : Blk w b t cs) (i : Nat) : w.cell? ⟨b, i, none⟩ = cs[i]? := by
  unfold Blk at h; simp [World.cell?, h]
theorem Blk.cellv {w : World} {b t : Nat} {cs : Array Value} (h : Blk w b t cs) (i : Nat) {v : Value} (hv : cs[i]? = some v) : w.cell? ⟨b, i, none⟩ = some v := (h.cell i).trans hv
theorem Blk.frozen {w : World} {b t : Nat} {cs : Array Value} (h : Blk w b t cs) (i : Nat) : w.frozen? ⟨b, i, none⟩ = false := by
  unfold Blk at h; simp [World.frozen?, h]
theorem Blk.kept {S : Nat → Prop} {w w' : World} {b t : Nat} {cs : Array Value} (h : Blk w b t cs) (k : Kept S w w') (hS : ¬ S b) : Blk w' b t cs := (k.block b h.lt hS).trans h
theorem Blk.set {w : World} {b t : Nat} {cs : Array Value} (h : Blk w b t cs) (i : Nat) (v : Value) : Blk (w.setCell ⟨b, i, none⟩ v) b t (cs.setIfInBounds i v) := heap_setCell_same w b i cs t v h
theorem Blk.other {w : World} {b t : Nat} {cs : Array Value} (h : Blk w b t cs) {p : Addr} (hp : b ≠ p.block) (v : Value) : Blk (w.setCell p v) b t cs := (Below.heap_setCell _ _ _ _ hp).trans h
theorem Blk.new (w : World) (t : Nat) (cs : Array Value) : Blk (w.alloc (.cells cs t)) w.heap.size t cs := by
  unfold Blk; show (w.heap.push _)[_]? = _; simp
theorem Blk.ne {w : World} {b b' t t' : Nat} {cs cs' : Array Value} (h : Blk w b t cs) (h' : Blk w b' t' cs') (e : t ≠ t') : b ≠ b' := fun he => by
  subst he; unfold Blk at h h'; rw [h] at h'; cases h'; exact e rfl
theorem Blk.ne' {w : World} {b b' t t' : Nat} {cs cs' : Array Value} {f : Nat × Nat} (h : Blk w b t cs) (h' : w.heap[b']? = some (.cells cs' t' f)) (e : t ≠ t') : b ≠ b' := fun he => by
  subst he; unfold Blk at h; rw [h] at h'; cases h'; exact e rfl


theorem alloc_below (w : World) (o : Obj) : Below w.heap.size w (w.alloc o) := (Below.refl _ _).alloc (Nat.le_refl _) _

theorem Blk.alloc {w : World} {b t : Nat} {cs : Array Value} (h : Blk w b t cs) (o : Obj) : Blk (w.alloc o) b t cs := h.kept (Kept.of_below (alloc_below w o) (fun _ => False)) id
theorem alloc_new (w : World) (o : Obj) (t : Nat) (cs : Array Value) : Blk ((w.alloc o).alloc (.cells cs t)) (w.heap.size + 1) t cs := by
  have := Blk.new (w.alloc o) t cs
  rwa [show (w.alloc o).heap.size = w.heap.size + 1 from by simp] at this
/-- Two boxes. -/
theorem boxes (w : World) (t1 t2 : Nat) (x y : Array Value) : Below w.heap.size w ((w.alloc (.cells x t1)).alloc (.cells y t2)) ∧ Blk ((w.alloc (.cells x t1)).alloc (.cells y t2)) w.heap.size t1 x ∧ Blk ((w.alloc (.cells x t1)).alloc (.cells y t2)) (w.heap.size + 1) t2 y :=
  ⟨((Below.refl _ _).alloc (Nat.le_refl _) _).alloc (by simp) _, (Blk.new w t1 x).alloc _, alloc_new w _ t2 y⟩

/-- Three boxes. -/
theorem boxes3 (w : World) (t1 t2 t3 : Nat) (x y z : Array Value) : Below w.heap.size w (((w.alloc (.cells x t1)).alloc (.cells y t2)).alloc (.cells z t3)) ∧ Blk (((w.alloc (.cells x t1)).alloc (.cells y t2)).alloc (.cells z t3)) w.heap.size t1 x ∧ Blk (((w.alloc (.cells x t1)).alloc (.cells y t2)).alloc (.cells z t3)) (w.heap.size + 1) t2 y ∧ Blk (((w.alloc (.cells x t1)).alloc (.cells y t2)).alloc (.cells z t3)) (w.heap.size + 1 + 1) t3 z := by
  refine ⟨(((Below.refl _ _).alloc (Nat.le_refl _) _).alloc (by simp) _).alloc (by simp; omega) _, ((Blk.new w t1 x).alloc _).alloc _, (alloc_new w _ t2 y).alloc _, ?_⟩
  have := alloc_new (w.alloc (.cells x t1)) (.cells y t2) t3 z
  rw [show (w.alloc (.cells x t1)).heap.size = w.heap.size + 1 from by simp] at this
  exact this
theorem region_tail {id : Nat} {Q : Exit → Act → World → Prop} {a : Act} {w : World} {l : List Oper} (n : Nat) (hB : Region.lexTailB .any l.toArray n = true)
    (h : wpStill Try.prog l.toArray w.drew (fun a' => wpList Try.prog l.toArray Q (l.drop n) a' w.drew) (l.take n) a) : (Code.region id l.toArray true).wp Try.prog Q a w :=
  wp_region_still_tail n (by kernel_rfl) hB h

/-- A entry. -/
structure En where
  id : Int
  ph : Int
  lv : ByteArray
def enC (t : En) : List Value := [.int .i64 t.id, .int .i64 t.ph, .string t.lv]
def enA (t : En) : Array Value := #[.int .i64 t.id, .int .i64 t.ph, .string t.lv]
def enZ : En := ⟨0, 0, ⟨#[]⟩⟩
def enCs (L : List En) : List Value := L.flatMap enC
def ge (L : List En) (k : Nat) : En := L.getD k enZ
theorem ge_cons_zero (t : En) (L : List En) : ge (t :: L) 0 = t := rfl
theorem ge_cons_succ (t : En) (L : List En) (k : Nat) : ge (t :: L) (k + 1) = ge L k := rfl
theorem ge_get {L : List En} {k : Nat} (h : k < L.length) : L[k]? = some (ge L k) := by
  unfold ge; rw [List.getD_eq_getElem?_getD, List.getElem?_eq_getElem h]; rfl
theorem enCs_nil : enCs [] = [] := rfl
theorem enCs_cons (t : En) (L : List En) : enCs (t :: L) = enC t ++ enCs L := by simp [enCs]
theorem enCs_append (L M : List En) : enCs (L ++ M) = enCs L ++ enCs M := by simp [enCs]
theorem enCs_single (t : En) : enCs [t] = enC t := by simp [enCs]
theorem enCs_len (L : List En) : (enCs L).length = L.length * 3 := by
  induction L with
  | nil => rfl
  | cons t L ih => rw [enCs_cons, List.length_append, ih]; simp [enC]; omega
theorem enCs_at : ∀ (L : List En) (k : Nat), k < L.length → ∀ j, j < 3 → (enCs L)[k * 3 + j]? = (enC (ge L k))[j]?
  | [], k, h, _, _ => absurd h (Nat.not_lt_zero k)
  | t :: L, 0, _, j, hj => by
    rw [enCs_cons, ge_cons_zero, List.getElem?_append_left (by simp [enC]; omega)]
    simp
  | t :: L, k + 1, h, j, hj => by
    rw [enCs_cons, ge_cons_succ, List.getElem?_append_right (by simp [enC]; omega)]
    rw [← enCs_at L k (by simpa using h) j hj]
    congr 1
    simp [enC]; omega
theorem enCs_one {L : List En} : ∀ u ∈ enCs L, u.oneCell' = true := by
  intro u hu
  unfold enCs at hu
  obtain ⟨t, -, h⟩ := List.mem_flatMap.1 hu
  simp [enC] at h
  rcases h with rfl | rfl | rfl <;> rfl
/-- Entries that are read. -/
def EnR (w : World) (a : Option Addr) (L : List En) : Prop := L ≠ [] → ∃ b off, a = some ⟨b, off, none⟩ ∧ b < w.heap.size ∧ ∀ j u, (enCs L)[j]? = some u → w.cell? ⟨b, off + j, none⟩ = some u
theorem EnR.nil (w : World) (a : Option Addr) : EnR w a [] := fun h => absurd rfl h
theorem EnR.carry {w w' : World} {a : Option Addr} {L : List En} (h : EnR w a L) (b : Below w.heap.size w w') : EnR w' a L := fun hn => by
  obtain ⟨g, off, rfl, hg, hc⟩ := h hn
  exact ⟨g, off, rfl, Nat.lt_of_lt_of_le hg b.size, fun j u hj => (b.cell (p := ⟨g, off + j, none⟩) hg).trans (hc j u hj)⟩
/-- Carried over what leaves the first blocks as they are. -/
theorem EnR.keep {S : Nat → Prop} {w w' : World} {a : Option Addr} {L : List En} (h : EnR w a L) (k : Kept S w w') (hS : ∀ b off, a = some ⟨b, off, none⟩ → ¬ S b) : EnR w' a L := fun hn => by
  obtain ⟨g, off, rfl, hg, hc⟩ := h hn
  refine ⟨g, off, rfl, Nat.lt_of_lt_of_le hg k.size, fun j u hj => ?_⟩
  rw [World.cell?_of_block (k.block g hg (hS g off rfl))]
  exact hc j u hj
/-- The k-th entry's cells. -/
theorem EnR.at {w : World} {a : Option Addr} {L : List En} (h : EnR w a L) {k : Nat} (hk : k < L.length) : ∃ b off, a = some ⟨b, off, none⟩ ∧ b < w.heap.size ∧ w.cell? ⟨b, off + k * 3, none⟩ = some (.int .i64 (ge L k).id) ∧ w.cell? ⟨b, off + k * 3 + 1, none⟩ = some (.int .i64 (ge L k).ph) ∧ w.cell? ⟨b, off + k * 3 + 2, none⟩ = some (.string (ge L k).lv) := by
  obtain ⟨b, off, rfl, hb, hc⟩ := h (by intro e; rw [e] at hk; exact absurd hk (Nat.not_lt_zero k))
  exact ⟨b, off, rfl, hb, hc (k * 3 + 0) _ (enCs_at L k hk 0 (by decide)), hc (k * 3 + 1) _ (enCs_at L k hk 1 (by decide)), hc (k * 3 + 2) _ (enCs_at L k hk 2 (by decide))⟩
theorem EnR.cells {w : World} {x : Addr} {L : List En} (h : EnR w (some x) L) : ∀ j u, (enCs L)[j]? = some u → w.cell? (x.add j) = some u := fun j u hj => by
  obtain ⟨b, off, e, -, hc⟩ := h (by intro e; rw [e] at hj; simp [enCs] at hj)
  cases e
  rw [Go.WideShapes.add_plain]
  exact hc j u hj
/-- The first ones, the last ones. -/
theorem EnR.take {w : World} {a : Option Addr} {L M : List En} (h : EnR w a (L ++ M)) : EnR w a L := fun hn => by
  obtain ⟨b, off, rfl, hb, hc⟩ := h (by intro e; exact hn (List.append_eq_nil_iff.1 e).1)
  refine ⟨b, off, rfl, hb, fun j u hj => hc j u ?_⟩
  rw [enCs_append]
  have : j < (enCs L).length := by
    rcases Nat.lt_or_ge j (enCs L).length with c | c
    · exact c
    · rw [List.getElem?_eq_none c] at hj; cases hj
  rw [List.getElem?_append_left this]
  exact hj
theorem EnR.drop {w : World} {b off : Nat} {L M : List En} (h : EnR w (some ⟨b, off, none⟩) (L ++ M)) : EnR w (some ⟨b, off + L.length * 3, none⟩) M := fun hn => by
  obtain ⟨b', off', e, hb, hc⟩ := h (by intro e; exact hn (List.append_eq_nil_iff.1 e).2)
  cases e
  refine ⟨b, off + L.length * 3, rfl, hb, fun j u hj => ?_⟩
  rw [Nat.add_assoc]
  refine hc (L.length * 3 + j) u ?_
  rw [enCs_append, List.getElem?_append_right (by rw [enCs_len]; omega), enCs_len, Nat.add_sub_cancel_left]
  exact hj
/-- A slice of entrys that is read. -/
def SlE (w : World) (a : Option Addr) (c : Nat) (L : List En) : Prop := L.length ≤ c ∧ (a = none → c = 0) ∧ EnR w a L
theorem SlE.carry {w w' : World} {a : Option Addr} {c : Nat} {L : List En} (h : SlE w a c L) (b : Below w.heap.size w w') : SlE w' a c L := ⟨h.1, h.2.1, h.2.2.carry b⟩
/-- A row of the call's own that holds entrys, as it is read. -/
theorem en_owned {w : World} {base : Nat} {v : Value} {L : List En} (h : w.ownsRow base 24 3 v L.length (enCs L)) : ∃ a c, v = .slice a L.length c ∧ SlE w a c L := by
  rcases id h.2 with ⟨rfl, e⟩ | ⟨g, cap, cur, rfl, hb, hg, hc, r⟩
  · have : L = [] := List.eq_nil_of_length_eq_zero e
    subst this
    exact ⟨none, 0, rfl, Nat.le_refl _, fun _ => rfl, EnR.nil _ _⟩
  · refine ⟨some ⟨g, 0, none⟩, cap, rfl, hc, (fun e => by cases e), fun _ => ⟨g, 0, rfl, (h.lt g rfl).2, fun j u hj => ?_⟩⟩
    have := h.cells rfl j u hj
    rw [Go.WideShapes.add_plain] at this
    exact this
theorem Try.info24 : (Try.prog.info? 24).map (fun i => (i.zero, i.size, i.bytes)) = some (some (.agg #[.int .i64 0, .int .i64 0, .string ⟨#[]⟩]), 3, 32) := by kernel_rfl
/-- An entry's box. -/
theorem Blk.three {w : World} {g : Nat} {t : En} (h : Blk w g 24 (enA t)) :
    (w.cell? ⟨g, 0, none⟩ = some (.int .i64 t.id) ∧ w.cell? ⟨g, 1, none⟩ = some (.int .i64 t.ph) ∧ w.cell? ⟨g, 2, none⟩ = some (.string t.lv))
    ∧ w.frozen? ⟨g, 0, none⟩ = false ∧ w.frozen? ⟨g, 1, none⟩ = false ∧ w.frozen? ⟨g, 2, none⟩ = false :=
  ⟨⟨h.cellv 0 rfl, h.cellv 1 rfl, h.cellv 2 rfl⟩, h.frozen 0, h.frozen 1, h.frozen 2⟩
theorem three_set {w : World} {g : Nat} {z : En} (h : Blk w g 24 (enA z)) (t : En) :
    Blk (((w.setCell ⟨g, 0, none⟩ (.int .i64 t.id)).setCell ⟨g, 1, none⟩ (.int .i64 t.ph)).setCell ⟨g, 2, none⟩ (.string t.lv)) g 24 (enA t)
    ∧ Kept (fun k => k = g) w (((w.setCell ⟨g, 0, none⟩ (.int .i64 t.id)).setCell ⟨g, 1, none⟩ (.int .i64 t.ph)).setCell ⟨g, 2, none⟩ (.string t.lv)) := by
  refine ⟨?_, (((Kept.refl (fun k => k = g) w).setCell _ _ (.inl rfl)).setCell _ _ (.inl rfl)).setCell _ _ (.inl rfl)⟩
  have := ((h.set 0 (.int .i64 t.id)).set 1 (.int .i64 t.ph)).set 2 (.string t.lv)
  simpa [enA] using this
end Go.Proofs.Ytomkmgebbiahcaa
