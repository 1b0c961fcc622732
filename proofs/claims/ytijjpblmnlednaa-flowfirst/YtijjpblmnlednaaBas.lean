/-
  The views of a configuration that is read; blocks of memory; rows of own memory. No condition.
-/
import Derived.Test.YtijjpblmnlednaaRows
import Derived.ProofKit
import Derived.OpenShut
import Derived.Below
import Derived.BigQuiet
import Derived.OwnWalk
import Derived.Deep.QuietTactic
import Derived.Deep.DeepMust
import Derived.WalkKit
import Derived.Shelf.Abstract
import Derived.Laws.Rows
import Derived.Deep.AppendLies
import Derived.Laws.AppendOwnNone
import Derived.Deep.SlicePairs
import Derived.Deep.Cut
import Derived.Deep.RegionHeld
import Derived.Deep.RegionLaw
namespace Go.Proofs.Ytijjpblmnlednaa
open Go.RowKit

/-- A fact that no rule may use. -/
structure Hd (p : Prop) : Prop where
  out : p

def intOf : Value → Int
  | .int _ n => n
  | _ => 0

/-- The k-th text of a list. -/
def gt (L : List ByteArray) (k : Nat) : ByteArray := L.getD k ⟨#[]⟩

theorem gt_eq {L : List ByteArray} {k : Nat} (h : k < L.length) : gt L k = L[k] := by unfold gt; simp [h]

/-- A list of texts that lies in memory. -/
def RowL (w : World) (a : Option Addr) (L : List ByteArray) : Prop :=
  0 < L.length → ∃ b off, a = some ⟨b, off, none⟩ ∧ b < w.heap.size ∧ ∀ k, k < L.length → w.cell? ⟨b, off + k, none⟩ = some (.string (gt L k))

theorem RowL.carry {w w' : World} {a : Option Addr} {L : List ByteArray} (h : RowL w a L) (g : Below w.heap.size w w') : RowL w' a L := by
  intro hn
  obtain ⟨b, off, e, hb, hc⟩ := h hn
  exact ⟨b, off, e, Nat.lt_of_lt_of_le hb g.size, fun k hk => (g.cell (p := ⟨b, off + k, none⟩) hb).trans (hc k hk)⟩

theorem str_ne {x y : ByteArray} (h : x ≠ y) : (x.toList == y.toList) = false := by
  rw [ByteArray.toList_eq, ByteArray.toList_eq]
  cases hb : (x.data.toList == y.data.toList) with
  | false => rfl
  | true =>
    have e := eq_of_beq hb
    exact absurd (ByteArray.ext (Array.toList_inj.1 e)) h

structure Lv where
  name : ByteArray
  kind : Int
  shares : Int
  lend : Int
  borrow : Int
  queues : Int
  hand : Int
  length : Int
  wait : Int
  guess : Int

structure Rl where
  users : List ByteArray
  groups : List ByteArray
  verbs : List ByteArray
  resources : List ByteArray
  spaces : List ByteArray

structure Sc where
  name : ByteArray
  level : ByteArray
  rank : Int
  way : Int
  rules : List Rl

structure Cf where
  total : Int
  period : Int
  perSeat : Int
  most : Int
  levels : List Lv
  schemas : List Sc

theorem info9 : (Try.prog.info? 9).map (fun i => (i.zero, i.size, i.bytes)) = some (some (.string ByteArray.empty), 1, 16) := by kernel_rfl

def OwnT (B : Nat) (w : World) (v : Value) (L : List ByteArray) : Prop := w.ownsRow B 9 1 v L.length (L.map Value.string)

theorem OwnT.shape {B : Nat} {w : World} {v : Value} {L : List ByteArray} (h : OwnT B w v L) : ∃ a c, v = .slice a L.length c ∧ RowL w a L := by
  rcases h.2 with ⟨rfl, h0⟩ | ⟨g, cap, cur, rfl, hb, hg, rest⟩
  · have : L = [] := by cases L with | nil => rfl | cons _ _ => simp at h0
    subst this
    exact ⟨none, 0, rfl, fun h => absurd h (Nat.lt_irrefl 0)⟩
  · refine ⟨some ⟨g, 0, none⟩, cap, rfl, fun hn => ⟨g, 0, rfl, (h.lt g rfl).2, fun k hk => ?_⟩⟩
    rw [Nat.zero_add, h.cellAt k (by omega), List.getElem?_map, List.getElem?_eq_getElem hk, gt_eq hk]
    rfl

/-- Nothing that was there has turned but the blocks of S. -/
structure Kept (S : Nat → Prop) (w w' : World) : Prop where
  os : w'.os = w.os
  tape : w'.tape = w.tape
  output : w'.output = w.output
  size : w.heap.size ≤ w'.heap.size
  block : ∀ k, k < w.heap.size → ¬ S k → w'.heap[k]? = w.heap[k]?

theorem Kept.refl (S : Nat → Prop) (w : World) : Kept S w w := ⟨rfl, rfl, rfl, Nat.le_refl _, fun _ _ _ => rfl⟩
theorem Kept.trans {S : Nat → Prop} {a b c : World} (h : Kept S a b) (k : Kept S b c) : Kept S a c :=
  ⟨k.os.trans h.os, k.tape.trans h.tape, k.output.trans h.output, Nat.le_trans h.size k.size, fun i hi hn => (k.block i (Nat.lt_of_lt_of_le hi h.size) hn).trans (h.block i hi hn)⟩
theorem Kept.mono {S T : Nat → Prop} {w w' : World} (h : Kept S w w') (e : ∀ k, k < w.heap.size → S k → T k) : Kept T w w' :=
  ⟨h.os, h.tape, h.output, h.size, fun k hk hn => h.block k hk fun hs => hn (e k hk hs)⟩
theorem Kept.then {S T : Nat → Prop} {a b c : World} (h : Kept S a b) (k : Kept T b c) (e : ∀ j, j < a.heap.size → T j → S j) : Kept S a c :=
  ⟨k.os.trans h.os, k.tape.trans h.tape, k.output.trans h.output, Nat.le_trans h.size k.size, fun i hi hn => (k.block i (Nat.lt_of_lt_of_le hi h.size) fun ht => hn (e i hi ht)).trans (h.block i hi hn)⟩
theorem Kept.of_below {w w' : World} (h : Below w.heap.size w w') (S : Nat → Prop) : Kept S w w' := ⟨h.os, h.tape, h.output, h.size, fun k hk _ => h.block k hk⟩
theorem Kept.below {S : Nat → Prop} {B : Nat} {w w' : World} (h : Kept S w w') (hB : B ≤ w.heap.size) (e : ∀ k, S k → B ≤ k) : Below B w w' :=
  ⟨h.os, h.tape, h.output, h.size, fun k hk => h.block k (Nat.lt_of_lt_of_le hk hB) fun hs => by have := e k hs; omega⟩
theorem Kept.of_grown {S : Nat → Prop} {w w' : World} {row : Option Nat} (h : w.grownBy w' row) (e : ∀ k, row = some k → S k) : Kept S w w' :=
  ⟨h.os, h.tape, h.output, h.size, fun k hk hn => h.block k hk fun er => hn (e k er.symm)⟩
theorem Kept.alloc {S : Nat → Prop} {a w : World} (h : Kept S a w) (o : Obj) : Kept S a (w.alloc o) := h.trans (Kept.of_below ((Below.refl _ _).alloc (Nat.le_refl _) _) S)
theorem Kept.drew {S : Nat → Prop} {a w : World} (h : Kept S a w) : Kept S a w.drew := ⟨h.os, h.tape, h.output, h.size, h.block⟩
theorem Kept.setCell {S : Nat → Prop} {a w : World} (h : Kept S a w) (p : Addr) (v : Value) (hp : S p.block ∨ a.heap.size ≤ p.block) : Kept S a (w.setCell p v) :=
  ⟨h.os, h.tape, h.output, by simpa using h.size, fun k hk hn => (Below.heap_setCell _ _ _ _ (fun e => hp.elim (fun hp => hn (by rw [e]; exact hp)) (fun hp => by omega))).trans (h.block k hk hn)⟩

/-- A block of cells of the type t, which may be written. -/
def Blk (w : World) (b t : Nat) (cs : Array Value) : Prop := w.heap[b]? = some (.cells cs t (0, 0))
theorem Blk.lt {w : World} {b t : Nat} {cs : Array Value} (h : Blk w b t cs) : b < w.heap.size := by
  unfold Blk at h
  rcases Nat.lt_or_ge b w.heap.size with h1 | h1
  · exact h1
  · rw [Array.getElem?_eq_none h1] at h; cases h
theorem Blk.cell {w : World} {b t : Nat} {cs : Array Value} (h : Blk w b t cs) (i : Nat) : w.cell? ⟨b, i, none⟩ = cs[i]? := by
  unfold Blk at h; simp [World.cell?, h]
theorem Blk.cellv {w : World} {b t : Nat} {cs : Array Value} (h : Blk w b t cs) (i : Nat) {v : Value} (hv : cs[i]? = some v) : w.cell? ⟨b, i, none⟩ = some v := (h.cell i).trans hv
theorem Blk.frozen {w : World} {b t : Nat} {cs : Array Value} (h : Blk w b t cs) (i : Nat) : w.frozen? ⟨b, i, none⟩ = false := by
  unfold Blk at h; simp [World.frozen?, h]
theorem Blk.kept {S : Nat → Prop} {w w' : World} {b t : Nat} {cs : Array Value} (h : Blk w b t cs) (k : Kept S w w') (hS : ¬ S b) : Blk w' b t cs := (k.block b h.lt hS).trans h
theorem Blk.set {w : World} {b t : Nat} {cs : Array Value} (h : Blk w b t cs) (i : Nat) (v : Value) : Blk (w.setCell ⟨b, i, none⟩ v) b t (cs.setIfInBounds i v) := heap_setCell_same w b i cs t v h
theorem Blk.other {w : World} {b t : Nat} {cs : Array Value} (h : Blk w b t cs) {p : Addr} (hp : b ≠ p.block) (v : Value) : Blk (w.setCell p v) b t cs := (Below.heap_setCell _ _ _ _ hp).trans h
theorem Blk.new (w : World) (t : Nat) (cs : Array Value) : Blk (w.alloc (.cells cs t)) w.heap.size t cs := by
  unfold Blk; show (w.heap.push _)[_]? = _; simp
theorem Blk.ne {w : World} {b b' t t' : Nat} {cs cs' : Array Value} (h : Blk w b t cs) (h' : Blk w b' t' cs') (e : t ≠ t') : b ≠ b' := fun he => by
  subst he; unfold Blk at h h'; rw [h] at h'; cases h'; exact e rfl
theorem Blk.ne' {w : World} {b b' t t' : Nat} {cs cs' : Array Value} {f : Nat × Nat} (h : Blk w b t cs) (h' : w.heap[b']? = some (.cells cs' t' f)) (e : t ≠ t') : b ≠ b' := fun he => by
  subst he; unfold Blk at h; rw [h] at h'; cases h'; exact e rfl

/-- A level's ten cells. -/
def lvC (l : Lv) : List Value := [.string l.name, .int .i64 l.kind, .int .i64 l.shares, .int .i64 l.lend, .int .i64 l.borrow, .int .i64 l.queues, .int .i64 l.hand, .int .i64 l.length, .int .i64 l.wait, .int .i64 l.guess]
def lvCs : List Lv → List Value
  | [] => []
  | l :: L => lvC l ++ lvCs L
theorem lvCs_len : ∀ L, (lvCs L).length = L.length * 10
  | [] => rfl
  | l :: L => by simp [lvCs, lvC, lvCs_len L]; omega
theorem lvCs_append : ∀ A B, lvCs (A ++ B) = lvCs A ++ lvCs B
  | [], B => rfl
  | x :: A, B => by simp [lvCs, lvCs_append A B]
theorem lvCs_at : ∀ (L : List Lv) (i j : Nat) (h : i < L.length), j < 10 → (lvCs L)[i * 10 + j]? = (lvC L[i])[j]?
  | [], i, j, h, _ => by simp at h
  | x :: L, 0, j, _, hj => by
    simp only [lvCs, Nat.zero_mul, Nat.zero_add]
    rw [List.getElem?_append_left (by simpa [lvC] using hj)]
    rfl
  | x :: L, i + 1, j, h, hj => by
    have := lvCs_at L i j (by simpa using h) hj
    simp only [lvCs]
    rw [List.getElem?_append_right (by simp [lvC]; omega), show (i + 1) * 10 + j - (lvC x).length = i * 10 + j by simp [lvC]; omega]
    simpa using this

/-- The schemas' cells, V: the slices of their rules. -/
def scC (s : Sc) (v : Value) : List Value := [.string s.name, .string s.level, .int .i64 s.rank, .int .i64 s.way, v]
def scCs : List Sc → List Value → List Value
  | s :: ss, v :: vs => scC s v ++ scCs ss vs
  | _, _ => []
theorem owns_kept {B : Nat} {S : Nat → Prop} {w w' : World} {v : Value} {e size n : Nat} {xs : List Value} (h : w.ownsRow B e size v n xs) (k : Kept S w w') (hS : ∀ g, v.ownBlock = some g → ¬ S g) : w'.ownsRow B e size v n xs := by
  have hl := h.lt
  obtain ⟨h1, h2⟩ := h
  refine ⟨h1, h2.imp id ?_⟩
  rintro ⟨g, cap, cur, rfl, hb, hg, r⟩
  exact ⟨g, cap, cur, rfl, hb, (k.block g (hl g rfl).2 (hS g rfl)).trans hg, r⟩
/-- The row's block bears its type. -/
theorem owns_type {B : Nat} {w : World} {v : Value} {e size n g : Nat} {xs : List Value} (h : w.ownsRow B e size v n xs) (hg : v.ownBlock = some g) : ∃ cur, Blk w g e cur := by
  rcases h.2 with ⟨rfl, _⟩ | ⟨g', cap, cur, rfl, _, hb, _⟩
  · cases hg
  · cases hg
    exact ⟨cur, hb⟩
theorem owns_mono {B : Nat} {w : World} {v : Value} {B' e size n : Nat} {xs : List Value} (h : w.ownsRow B e size v n xs) (k : B' ≤ B) : w.ownsRow B' e size v n xs := by
  obtain ⟨h1, h2⟩ := h
  refine ⟨h1, h2.imp id ?_⟩
  rintro ⟨g, cap, cur, rfl, hb, r⟩
  exact ⟨g, cap, cur, rfl, Nat.le_trans k hb, r⟩
theorem alloc_below (w : World) (o : Obj) : Below w.heap.size w (w.alloc o) := (Below.refl _ _).alloc (Nat.le_refl _) _


end Go.Proofs.Ytijjpblmnlednaa
