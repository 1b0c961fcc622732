/-
  Blocks of memory, texts, lists of texts and requests that are read. No condition.
-/
import Derived.Test.YtajceffbpobglaaRows
import Derived.ProofKit
import Derived.OpenShut
import Derived.Below
import Derived.BigQuiet
import Derived.OwnWalk
import Derived.Deep.QuietTactic
import Derived.Deep.DeepMust
import Derived.WalkKit
import Derived.Laws.Rows
import Derived.Deep.Cut
import Derived.Lib.MinMax
import Derived.SliceStrings
namespace Go.Proofs.Ytajceffbpobglaa
open Go.RowKit

/-- A fact that no rule may use. -/
structure Hd (p : Prop) : Prop where
  out : p

def intOf : Value → Int
  | .int _ n => n
  | _ => 0

/-- The k-th text of a list. -/
def gt (L : List ByteArray) (k : Nat) : ByteArray := L.getD k ⟨#[]⟩

theorem gt_eq {L : List ByteArray} {k : Nat} (h : k < L.length) : gt L k = L[k] := by unfold gt; simp [h]

/-- A list of texts that lies in memory. -/
def RowL (w : World) (a : Option Addr) (L : List ByteArray) : Prop :=
  0 < L.length → ∃ b off, a = some ⟨b, off, none⟩ ∧ b < w.heap.size ∧ ∀ k, k < L.length → w.cell? ⟨b, off + k, none⟩ = some (.string (gt L k))

theorem RowL.carry {w w' : World} {a : Option Addr} {L : List ByteArray} (h : RowL w a L) (g : Below w.heap.size w w') : RowL w' a L := by
  intro hn
  obtain ⟨b, off, e, hb, hc⟩ := h hn
  exact ⟨b, off, e, Nat.lt_of_lt_of_le hb g.size, fun k hk => (g.cell (p := ⟨b, off + k, none⟩) hb).trans (hc k hk)⟩

theorem str_ne {x y : ByteArray} (h : x ≠ y) : (x.toList == y.toList) = false := by
  rw [ByteArray.toList_eq, ByteArray.toList_eq]
  cases hb : (x.data.toList == y.data.toList) with
  | false => rfl
  | true =>
    have e := eq_of_beq hb
    exact absurd (ByteArray.ext (Array.toList_inj.1 e)) h

/-- Nothing that was there has turned but the blocks of S. -/
structure Kept (S : Nat → Prop) (w w' : World) : Prop where
  os : w'.os = w.os
  tape : w'.tape = w.tape
  output : w'.output = w.output
  size : w.heap.size ≤ w'.heap.size
  block : ∀ k, k < w.heap.size → ¬ S k → w'.heap[k]? = w.heap[k]?

theorem Kept.refl (S : Nat → Prop) (w : World) : Kept S w w := ⟨rfl, rfl, rfl, Nat.le_refl _, fun _ _ _ => rfl⟩
theorem Kept.trans {S : Nat → Prop} {a b c : World} (h : Kept S a b) (k : Kept S b c) : Kept S a c :=
  ⟨k.os.trans h.os, k.tape.trans h.tape, k.output.trans h.output, Nat.le_trans h.size k.size, fun i hi hn => (k.block i (Nat.lt_of_lt_of_le hi h.size) hn).trans (h.block i hi hn)⟩
theorem Kept.mono {S T : Nat → Prop} {w w' : World} (h : Kept S w w') (e : ∀ k, k < w.heap.size → S k → T k) : Kept T w w' :=
  ⟨h.os, h.tape, h.output, h.size, fun k hk hn => h.block k hk fun hs => hn (e k hk hs)⟩
theorem Kept.then {S T : Nat → Prop} {a b c : World} (h : Kept S a b) (k : Kept T b c) (e : ∀ j, j < a.heap.size → T j → S j) : Kept S a c :=
  ⟨k.os.trans h.os, k.tape.trans h.tape, k.output.trans h.output, Nat.le_trans h.size k.size, fun i hi hn => (k.block i (Nat.lt_of_lt_of_le hi h.size) fun ht => hn (e i hi ht)).trans (h.block i hi hn)⟩
theorem Kept.of_below {w w' : World} (h : Below w.heap.size w w') (S : Nat → Prop) : Kept S w w' := ⟨h.os, h.tape, h.output, h.size, fun k hk _ => h.block k hk⟩
theorem Kept.below {S : Nat → Prop} {B : Nat} {w w' : World} (h : Kept S w w') (hB : B ≤ w.heap.size) (e : ∀ k, S k → B ≤ k) : Below B w w' :=
  ⟨h.os, h.tape, h.output, h.size, fun k hk => h.block k (Nat.lt_of_lt_of_le hk hB) fun hs => by have := e k hs; omega⟩
theorem Kept.of_grown {S : Nat → Prop} {w w' : World} {row : Option Nat} (h : w.grownBy w' row) (e : ∀ k, row = some k → S k) : Kept S w w' :=
  ⟨h.os, h.tape, h.output, h.size, fun k hk hn => h.block k hk fun er => hn (e k er.symm)⟩
theorem Kept.alloc {S : Nat → Prop} {a w : World} (h : Kept S a w) (o : Obj) : Kept S a (w.alloc o) := h.trans (Kept.of_below ((Below.refl _ _).alloc (Nat.le_refl _) _) S)
theorem Kept.drew {S : Nat → Prop} {a w : World} (h : Kept S a w) : Kept S a w.drew := ⟨h.os, h.tape, h.output, h.size, h.block⟩
theorem Kept.setCell {S : Nat → Prop} {a w : World} (h : Kept S a w) (p : Addr) (v : Value) (hp : S p.block ∨ a.heap.size ≤ p.block) : Kept S a (w.setCell p v) :=
  ⟨h.os, h.tape, h.output, by simpa using h.size, fun k hk hn => (Below.heap_setCell _ _ _ _ (fun e => hp.elim (fun hp => hn (by rw [e]; exact hp)) (fun hp => by omega))).trans (h.block k hk hn)⟩

/-- A block of cells of the type t, which may be written. -/
def Blk (w : World) (b t : Nat) (cs : Array Value) : Prop := w.heap[b]? = some (.cells cs t (0, 0))
theorem Blk.lt {w : World} {b t : Nat} {cs : Array Value} (h : Blk w b t cs) : b < w.heap.size := by
  unfold Blk at h
  rcases Nat.lt_or_ge b w.heap.size with h1 | h1
  · exact h1
  · rw [Array.getElem?_eq_none h1] at h; cases h
theorem Blk.cell {w : World} {b t : Nat} {cs : Array Value} (h : Blk w b t cs) (i : Nat) : w.cell? ⟨b, i, none⟩ = cs[i]? := by
  unfold Blk at h; simp [World.cell?, h]
theorem Blk.cellv {w : World} {b t : Nat} {cs : Array Value} (h : Blk w b t cs) (i : Nat) {v : Value} (hv : cs[i]? = some v) : w.cell? ⟨b, i, none⟩ = some v := (h.cell i).trans hv
theorem Blk.frozen {w : World} {b t : Nat} {cs : Array Value} (h : Blk w b t cs) (i : Nat) : w.frozen? ⟨b, i, none⟩ = false := by
  unfold Blk at h; simp [World.frozen?, h]
theorem Blk.kept {S : Nat → Prop} {w w' : World} {b t : Nat} {cs : Array Value} (h : Blk w b t cs) (k : Kept S w w') (hS : ¬ S b) : Blk w' b t cs := (k.block b h.lt hS).trans h
theorem Blk.set {w : World} {b t : Nat} {cs : Array Value} (h : Blk w b t cs) (i : Nat) (v : Value) : Blk (w.setCell ⟨b, i, none⟩ v) b t (cs.setIfInBounds i v) := heap_setCell_same w b i cs t v h
theorem Blk.other {w : World} {b t : Nat} {cs : Array Value} (h : Blk w b t cs) {p : Addr} (hp : b ≠ p.block) (v : Value) : Blk (w.setCell p v) b t cs := (Below.heap_setCell _ _ _ _ hp).trans h
theorem Blk.new (w : World) (t : Nat) (cs : Array Value) : Blk (w.alloc (.cells cs t)) w.heap.size t cs := by
  unfold Blk; show (w.heap.push _)[_]? = _; simp
theorem Blk.ne {w : World} {b b' t t' : Nat} {cs cs' : Array Value} (h : Blk w b t cs) (h' : Blk w b' t' cs') (e : t ≠ t') : b ≠ b' := fun he => by
  subst he; unfold Blk at h h'; rw [h] at h'; cases h'; exact e rfl
theorem Blk.ne' {w : World} {b b' t t' : Nat} {cs cs' : Array Value} {f : Nat × Nat} (h : Blk w b t cs) (h' : w.heap[b']? = some (.cells cs' t' f)) (e : t ≠ t') : b ≠ b' := fun he => by
  subst he; unfold Blk at h; rw [h] at h'; cases h'; exact e rfl

theorem alloc_below (w : World) (o : Obj) : Below w.heap.size w (w.alloc o) := (Below.refl _ _).alloc (Nat.le_refl _) _
theorem str_is {x y : ByteArray} (h : x = y) : (x.toList == y.toList) = true := by subst h; simp
theorem lit_yes {x : ByteArray} {a : Array UInt8} (h : x = ⟨a⟩) : (x.toList == a.toList) = true := by subst h; rw [ByteArray.toList_eq]; simp
theorem lit_no {x : ByteArray} {a : Array UInt8} (h : x ≠ ⟨a⟩) : (x.toList == a.toList) = false := by
  have := str_ne h
  rw [ByteArray.toList_eq (⟨a⟩ : ByteArray)] at this
  exact this
theorem empty_no {x : ByteArray} (h : x ≠ ⟨#[]⟩) : x.toList.isEmpty = false := by
  cases hb : x.toList.isEmpty with
  | false => rfl
  | true =>
    exfalso
    apply h
    rw [List.isEmpty_iff, ByteArray.toList_eq] at hb
    apply ByteArray.ext
    exact Array.toList_inj.1 hb
def LsR (w : World) (v : Value) (L : List ByteArray) : Prop := ∃ a c, v = .slice a L.length c ∧ RowL w a L ∧ L.length ≤ c ∧ L.length ≤ 9223372036854775807 ∧ ∀ x ∈ L, x.size ≤ 9223372036854775807
theorem LsR.carry {w w' : World} {v : Value} {L : List ByteArray} (h : LsR w v L) (b : Below w.heap.size w w') : LsR w' v L := by
  obtain ⟨a, c, e, hr, hc⟩ := h
  exact ⟨a, c, e, hr.carry b, hc⟩
/-- A request. -/
structure Rq where
  user : ByteArray
  groups : List ByteArray
  verb : ByteArray
  resource : ByteArray
  space : ByteArray
  objects : Int
/-- A request that is read. -/
structure RqR (w : World) (v : Value) (q : Rq) : Prop where
  ex : ∃ a n c, v = .agg (#[.string q.user, .slice a n c, .string q.verb, .string q.resource, .string q.space, .int .i64 q.objects]) ∧ LsR w (.slice a n c) q.groups
  sz : q.user.size ≤ 9223372036854775807 ∧ q.verb.size ≤ 9223372036854775807 ∧ q.resource.size ≤ 9223372036854775807 ∧ q.space.size ≤ 9223372036854775807
  ob : -9223372036854775808 ≤ q.objects ∧ q.objects ≤ 9223372036854775807
theorem RqR.carry {w w' : World} {v : Value} {q : Rq} (h : RqR w v q) (b : Below w.heap.size w w') : RqR w' v q := by
  obtain ⟨a, n, c, e, hl⟩ := h.ex
  exact ⟨⟨a, n, c, e, hl.carry b⟩, h.sz, h.ob⟩
theorem int_of_wf {x : Int} (h : (Lit.int .i64 x).wf = true) : -9223372036854775808 ≤ x ∧ x ≤ 9223372036854775807 := by
  simp [Lit.wf, IntKind.min, IntKind.max, IntKind.signed, IntKind.bits] at h
  omega

end Go.Proofs.Ytajceffbpobglaa
