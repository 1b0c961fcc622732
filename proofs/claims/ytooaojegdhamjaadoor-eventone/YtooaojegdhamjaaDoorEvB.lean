/-
  Blocks of memory; a reader of words, and what each of its calls answers. Condition: the words have at most 2^31 bytes.
-/
import Derived.Test.YtooaojegdhamjaaDoorEvM
import Derived.Deep.DeepMust
import Derived.Laws.Rows
import Derived.Deep.Cut
import Derived.Deep.CutBlock
import Derived.Deep.DeepCutAuto
namespace Go.Proofs.YtooaojegdhamjaaDoor
open Go.RowKit Go.Lib

/-- Nothing that was there has turned but the blocks of S. -/
structure Kept (S : Nat → Prop) (w w' : World) : Prop where
  os : w'.os = w.os
  tape : w'.tape = w.tape
  output : w'.output = w.output
  size : w.heap.size ≤ w'.heap.size
  block : ∀ k, k < w.heap.size → ¬ S k → w'.heap[k]? = w.heap[k]?

theorem Kept.refl (S : Nat → Prop) (w : World) : Kept S w w := ⟨rfl, rfl, rfl, Nat.le_refl _, fun _ _ _ => rfl⟩
theorem Kept.trans {S : Nat → Prop} {a b c : World} (h : Kept S a b) (k : Kept S b c) : Kept S a c :=
  ⟨k.os.trans h.os, k.tape.trans h.tape, k.output.trans h.output, Nat.le_trans h.size k.size, fun i hi hn => (k.block i (Nat.lt_of_lt_of_le hi h.size) hn).trans (h.block i hi hn)⟩
theorem Kept.mono {S T : Nat → Prop} {w w' : World} (h : Kept S w w') (e : ∀ k, k < w.heap.size → S k → T k) : Kept T w w' :=
  ⟨h.os, h.tape, h.output, h.size, fun k hk hn => h.block k hk fun hs => hn (e k hk hs)⟩
theorem Kept.then {S T : Nat → Prop} {a b c : World} (h : Kept S a b) (k : Kept T b c) (e : ∀ j, j < a.heap.size → T j → S j) : Kept S a c :=
  ⟨k.os.trans h.os, k.tape.trans h.tape, k.output.trans h.output, Nat.le_trans h.size k.size, fun i hi hn => (k.block i (Nat.lt_of_lt_of_le hi h.size) fun ht => hn (e i hi ht)).trans (h.block i hi hn)⟩
theorem Kept.of_below {w w' : World} (h : Below w.heap.size w w') (S : Nat → Prop) : Kept S w w' := ⟨h.os, h.tape, h.output, h.size, fun k hk _ => h.block k hk⟩
theorem Kept.below {S : Nat → Prop} {B : Nat} {w w' : World} (h : Kept S w w') (hB : B ≤ w.heap.size) (e : ∀ k, S k → B ≤ k) : Below B w w' :=
  ⟨h.os, h.tape, h.output, h.size, fun k hk => h.block k (Nat.lt_of_lt_of_le hk hB) fun hs => by have := e k hs; omega⟩
theorem Kept.of_grown {S : Nat → Prop} {w w' : World} {row : Option Nat} (h : w.grownBy w' row) (e : ∀ k, row = some k → S k) : Kept S w w' :=
  ⟨h.os, h.tape, h.output, h.size, fun k hk hn => h.block k hk fun er => hn (e k er.symm)⟩
theorem Kept.alloc {S : Nat → Prop} {a w : World} (h : Kept S a w) (o : Obj) : Kept S a (w.alloc o) := h.trans (Kept.of_below ((Below.refl _ _).alloc (Nat.le_refl _) _) S)
theorem Kept.drew {S : Nat → Prop} {a w : World} (h : Kept S a w) : Kept S a w.drew := ⟨h.os, h.tape, h.output, h.size, h.block⟩
theorem Kept.setCell {S : Nat → Prop} {a w : World} (h : Kept S a w) (p : Addr) (v : Value) (hp : S p.block ∨ a.heap.size ≤ p.block) : Kept S a (w.setCell p v) :=
  ⟨h.os, h.tape, h.output, by simpa using h.size, fun k hk hn => (Below.heap_setCell _ _ _ _ (fun e => hp.elim (fun hp => hn (by rw [e]; exact hp)) (fun hp => by omega))).trans (h.block k hk hn)⟩

/-- A block of cells of the type t, which may be written. -/
def Blk (w : World) (b t : Nat) (cs : Array Value) : Prop := w.heap[b]? = some (.cells cs t (0, 0))
theorem Blk.lt {w : World} {b t : Nat} {cs : Array Value} (h : Blk w b t cs) : b < w.heap.size := by
  unfold Blk at h
  rcases Nat.lt_or_ge b w.heap.size with h1 | h1
  · exact h1
  · rw [Array.getElem?_eq_none h1] at h; cases h
theorem Blk.cell {w : World} {b t : Nat} {cs : Array Value} (h : Blk w b t cs) (i : Nat) : w.cell? ⟨b, i, none⟩ = cs[i]? := by
  unfold Blk at h; simp [World.cell?, h]
theorem Blk.cellv {w : World} {b t : Nat} {cs : Array Value} (h : Blk w b t cs) (i : Nat) {v : Value} (hv : cs[i]? = some v) : w.cell? ⟨b, i, none⟩ = some v := (h.cell i).trans hv
theorem Blk.frozen {w : World} {b t : Nat} {cs : Array Value} (h : Blk w b t cs) (i : Nat) : w.frozen? ⟨b, i, none⟩ = false := by
  unfold Blk at h; simp [World.frozen?, h]
theorem Blk.kept {S : Nat → Prop} {w w' : World} {b t : Nat} {cs : Array Value} (h : Blk w b t cs) (k : Kept S w w') (hS : ¬ S b) : Blk w' b t cs := (k.block b h.lt hS).trans h
theorem Blk.set {w : World} {b t : Nat} {cs : Array Value} (h : Blk w b t cs) (i : Nat) (v : Value) : Blk (w.setCell ⟨b, i, none⟩ v) b t (cs.setIfInBounds i v) := heap_setCell_same w b i cs t v h
theorem Blk.other {w : World} {b t : Nat} {cs : Array Value} (h : Blk w b t cs) {p : Addr} (hp : b ≠ p.block) (v : Value) : Blk (w.setCell p v) b t cs := (Below.heap_setCell _ _ _ _ hp).trans h
theorem Blk.new (w : World) (t : Nat) (cs : Array Value) : Blk (w.alloc (.cells cs t)) w.heap.size t cs := by
  unfold Blk; show (w.heap.push _)[_]? = _; simp
theorem Blk.ne {w : World} {b b' t t' : Nat} {cs cs' : Array Value} (h : Blk w b t cs) (h' : Blk w b' t' cs') (e : t ≠ t') : b ≠ b' := fun he => by
  subst he; unfold Blk at h h'; rw [h] at h'; cases h'; exact e rfl
theorem Blk.ne' {w : World} {b b' t t' : Nat} {cs cs' : Array Value} {f : Nat × Nat} (h : Blk w b t cs) (h' : w.heap[b']? = some (.cells cs' t' f)) (e : t ≠ t') : b ≠ b' := fun he => by
  subst he; unfold Blk at h; rw [h] at h'; cases h'; exact e rfl

theorem alloc_below (w : World) (o : Obj) : Below w.heap.size w (w.alloc o) := (Below.refl _ _).alloc (Nat.le_refl _) _
theorem str_is {x y : ByteArray} (h : x = y) : (x.toList == y.toList) = true := by subst h; simp
theorem lit_yes {x : ByteArray} {a : Array UInt8} (h : x = ⟨a⟩) : (x.toList == a.toList) = true := by subst h; rw [ByteArray.toList_eq]; simp
theorem lit_no {x : ByteArray} {a : Array UInt8} (h : x ≠ ⟨a⟩) : (x.toList == a.toList) = false := by
  have := str_ne h
  rw [ByteArray.toList_eq (⟨a⟩ : ByteArray)] at this
  exact this
theorem empty_no {x : ByteArray} (h : x ≠ ⟨#[]⟩) : x.toList.isEmpty = false := by
  cases hb : x.toList.isEmpty with
  | false => rfl
  | true =>
    exfalso
    apply h
    rw [List.isEmpty_iff, ByteArray.toList_eq] at hb
    apply ByteArray.ext
    exact Array.toList_inj.1 hb
theorem Blk.alloc {w : World} {b t : Nat} {cs : Array Value} (h : Blk w b t cs) (o : Obj) : Blk (w.alloc o) b t cs := h.kept (Kept.of_below (alloc_below w o) (fun _ => False)) id
theorem alloc_new (w : World) (o : Obj) (t : Nat) (cs : Array Value) : Blk ((w.alloc o).alloc (.cells cs t)) (w.heap.size + 1) t cs := by
  have := Blk.new (w.alloc o) t cs
  rwa [show (w.alloc o).heap.size = w.heap.size + 1 from by simp] at this
/-- Two boxes. -/
theorem boxes (w : World) (t1 t2 : Nat) (x y : Array Value) : Below w.heap.size w ((w.alloc (.cells x t1)).alloc (.cells y t2)) ∧ Blk ((w.alloc (.cells x t1)).alloc (.cells y t2)) w.heap.size t1 x ∧ Blk ((w.alloc (.cells x t1)).alloc (.cells y t2)) (w.heap.size + 1) t2 y :=
  ⟨((Below.refl _ _).alloc (Nat.le_refl _) _).alloc (by simp) _, (Blk.new w t1 x).alloc _, alloc_new w _ t2 y⟩


theorem gt_drop (L : List ByteArray) (n k : Nat) : gt (L.drop n) k = gt L (n + k) := by
  unfold gt
  rw [List.getD_eq_getElem?_getD, List.getD_eq_getElem?_getD, List.getElem?_drop]
theorem gt_far {L : List ByteArray} {k : Nat} (h : L.length ≤ k) : gt L k = ⟨#[]⟩ := by
  unfold gt
  rw [List.getD_eq_getElem?_getD, List.getElem?_eq_none h]
  rfl
/-- Texts that aren't too long. -/
def ShB (L : List ByteArray) : Prop := ∀ k, (gt L k).size < 4294967281
theorem ShB.drop {L : List ByteArray} (h : ShB L) (n : Nat) : ShB (L.drop n) := fun k => by rw [gt_drop]; exact h _
/-- A reader: the words that are left, and the first error. -/
structure RdS (w : World) (p : Nat) (L : List ByteArray) (e : Int) : Prop where
  ex : ∃ a, Blk w p 46 #[.slice a L.length L.length, .int .i64 e] ∧ RowL w a L ∧ ∀ b off, a = some ⟨b, off, none⟩ → b < p
  sh : ShB L
  ln : L.length ≤ 9223372036854775807
theorem RowL.kept {S : Nat → Prop} {w w' : World} {a : Option Addr} {L : List ByteArray} (h : RowL w a L) (k : Kept S w w') (hS : ∀ b off, a = some ⟨b, off, none⟩ → ¬ S b) : RowL w' a L := by
  intro hn
  obtain ⟨b, off, e, hb, hc⟩ := h hn
  refine ⟨b, off, e, Nat.lt_of_lt_of_le hb k.size, fun i hi => ?_⟩
  rw [← hc i hi]
  simp only [World.cell?]
  rw [k.block b hb (hS b off e)]
theorem RdS.kept {S : Nat → Prop} {w w' : World} {p : Nat} {L : List ByteArray} {e : Int} (h : RdS w p L e) (k : Kept S w w') (hS : ∀ j, S j → p < j) : RdS w' p L e := by
  obtain ⟨a, hb, hr, hn⟩ := h.ex
  exact ⟨⟨a, hb.kept k (fun h => absurd (hS _ h) (Nat.lt_irrefl _)), hr.kept k (fun b off e h => by have := hS _ h; have := hn b off e; omega), hn⟩, h.sh, h.ln⟩
theorem RdS.below {w w' : World} {p : Nat} {L : List ByteArray} {e : Int} (h : RdS w p L e) (k : Below w.heap.size w w') : RdS w' p L e :=
  h.kept (Kept.of_below k (fun _ => False)) (fun _ h => h.elim)
theorem RdS.lt {w : World} {p : Nat} {L : List ByteArray} {e : Int} (h : RdS w p L e) : p < w.heap.size := by
  obtain ⟨a, hb, _⟩ := h.ex
  exact hb.lt
abbrev At (p : Nat) : Nat → Prop := fun k => k = p

theorem must_ok (w : World) (p : Nat) (v : Value) (e x : Int) (b : Bool) (h : Blk w p 46 #[v, .int .i64 e]) :
    Calls Tryd.prog 38 #[.pointer (some ⟨p, 0, none⟩), .bool b, .int .i64 x] w fun q w' => q = .returned (.tuple #[]) ∧ Blk w' p 46 #[v, .int .i64 (mst e b x)] ∧ Kept (At p) w w' := by
  have r1 := h.cellv 1 rfl
  have f1 := h.frozen 1
  have HB := Hd.mk h
  clear h
  cases b with
  | true =>
    have e1 : mst e true x = e := by unfold mst; by_cases he : e = 0 <;> simp [he]
    rw [e1]
    go_enter Tryd.func38, Tryd.ntmps38
    go_wp2_with fail
    go_end0
    exact ⟨rfl, HB.out, Kept.refl _ _⟩
  | false =>
    by_cases he : e = 0
    · subst he
      have e1 : mst 0 false x = x := rfl
      rw [e1]
      go_enter Tryd.func38, Tryd.ntmps38
      go_wp2_with fail
      go_end0
      exact ⟨rfl, by simpa using HB.out.set 1 (.int .i64 x), (Kept.refl _ _).setCell _ _ (.inl rfl)⟩
    · have e1 : mst e false x = e := by unfold mst; rw [if_neg he]
      rw [e1]
      have d1 : (e == 0) = false := by simpa using he
      clear he
      go_enter Tryd.func38, Tryd.ntmps38
      go_wp2_with fail
      go_end0
      exact ⟨rfl, HB.out, Kept.refl _ _⟩
end Go.Proofs.YtooaojegdhamjaaDoor
