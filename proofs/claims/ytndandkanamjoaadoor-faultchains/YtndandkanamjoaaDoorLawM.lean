/-
  'made' of the statements: the chain that it makes, and the list of its links. Condition: the wraps lie in memory.
-/
import Derived.Test.YtndandkanamjoaaDoorRowW
import Derived.Test.YtndandkanamjoaaDoorLawN
import Derived.Laws.AppendOwn
import Derived.Laws.OwnMore
import Derived.OwnWalk
namespace Go.Proofs.YtndandkanamjoaaDoor
open Go.RowKit Go.Extern.Stop Go.Stop Go.Extern

theorem info50 : (Tryd.prog.info? 50).map (fun i => (i.zero, i.size, i.bytes)) = some (some (.agg #[.int .i64 0, .string ByteArray.empty]), 2, 24) := by kernel_rfl

/-- The cells of a list of links. -/
def cl (Q : List Lk) : List Value := Q.flatMap fun l => [.int .i64 l.line, .string l.what]
theorem cl_snoc (Q : List Lk) (l : Lk) : cl (Q ++ [l]) = cl Q ++ [.int .i64 l.line, .string l.what] := by simp [cl]
theorem cl_len (Q : List Lk) : (cl Q).length = Q.length * 2 := by
  induction Q with
  | nil => rfl
  | cons l Q ih => simp only [cl, List.flatMap_cons, List.length_append, List.length_cons, List.length_nil] at *; omega
theorem cl_at : ∀ (Q : List Lk) (k : Nat) (h : k < Q.length), (cl Q)[k * 2]? = some (.int .i64 (Q[k]).line) ∧ (cl Q)[k * 2 + 1]? = some (.string (Q[k]).what)
  | [], k, h => absurd h (Nat.not_lt_zero _)
  | l :: Q, 0, _ => ⟨rfl, rfl⟩
  | l :: Q, k + 1, h => by
    have := cl_at Q k (by simpa using h)
    have e1 : (k + 1) * 2 = k * 2 + 1 + 1 := by omega
    rw [e1]
    exact this

/-- A list of links of the call's own. -/
def OwnK (B : Nat) (w : World) (v : Value) (Q : List Lk) : Prop := w.ownsRow B 50 2 v Q.length (cl Q)

/-- The state of 'made': the answer's block, the chain's block, the links. -/
structure Ms (w wr : World) (code : Int) (v : Value) (Q : List Lk) : Prop where
  bel : Below w.heap.size w wr
  sz : w.heap.size + 1 < wr.heap.size
  r0 : wr.cell? ⟨w.heap.size, 0, none⟩ = some (.int .i64 0)
  r1 : wr.cell? ⟨w.heap.size, 1, none⟩ = some (.slice none 0 0)
  g0 : wr.frozen? ⟨w.heap.size, 0, none⟩ = false
  g1 : wr.frozen? ⟨w.heap.size, 1, none⟩ = false
  c0 : wr.cell? ⟨w.heap.size + 1, 0, none⟩ = some (.int .i64 code)
  c1 : wr.cell? ⟨w.heap.size + 1, 1, none⟩ = some v
  f1 : wr.frozen? ⟨w.heap.size + 1, 1, none⟩ = false
  own : OwnK (w.heap.size + 2) wr v Q

theorem Ms.next {w wr w2 : World} {code : Int} {v v' : Value} {Q : List Lk} {l : Lk} (h : Ms w wr code v Q) (b : Below (w.heap.size + 2) wr w2)
    (ho : w2.ownsRow (w.heap.size + 2) 50 2 v' (Q.length + 1) (cl Q ++ [.int .i64 l.line, .string l.what])) : Ms w (w2.setCell ⟨w.heap.size + 1, 1, none⟩ v') code v' (Q ++ [l]) := by
  have e : ∀ k, k < w.heap.size + 1 → (w2.setCell ⟨w.heap.size + 1, 1, none⟩ v').heap[k]? = wr.heap[k]? := fun k hk =>
    (Below.heap_setCell _ _ _ _ (by simp only; omega)).trans (b.block k (by omega))
  have c1 : w2.cell? ⟨w.heap.size + 1, 1, none⟩ = some v := (b.cell (p := ⟨w.heap.size + 1, 1, none⟩) (by simp)).trans h.c1
  refine ⟨⟨?_, ?_, ?_, ?_, ?_⟩, ?_, ?_, ?_, ?_, ?_, ?_, ?_, ?_, ?_⟩
  · exact b.os.trans h.bel.os
  · exact b.tape.trans h.bel.tape
  · exact b.output.trans h.bel.output
  · have := b.size; have := h.bel.size; simp [World.setCell]; omega
  · intro k hk; exact (e k (by omega)).trans (h.bel.block k hk)
  · have := b.size; have := h.sz; simp [World.setCell]; omega
  · exact (World.cell?_of_block (a := ⟨w.heap.size, 0, none⟩) (e _ (by simp))).trans h.r0
  · exact (World.cell?_of_block (a := ⟨w.heap.size, 1, none⟩) (e _ (by simp))).trans h.r1
  · exact (World.frozen?_of_block (a := ⟨w.heap.size, 0, none⟩) (e _ (by simp))).trans h.g0
  · exact (World.frozen?_of_block (a := ⟨w.heap.size, 1, none⟩) (e _ (by simp))).trans h.g1
  · rw [World.cell?_setCell_other _ _ _ _ (by simp)]
    exact (b.cell (p := ⟨w.heap.size + 1, 0, none⟩) (by simp)).trans h.c0
  · exact World.cell?_setCell_same _ _ _ c1
  · rw [World.frozen?_setCell]
    exact (b.frozen (p := ⟨w.heap.size + 1, 1, none⟩) (by simp)).trans h.f1
  · unfold OwnK
    rw [cl_snoc, List.length_append]
    exact ownsRow_setCell_below ho (by simp) _

/-- The link that a wrap makes. -/
def lkOf (x : Wp) : Lk := cond ((IntKind.u64.wrap x.kind).tmod 3 == 0) ⟨x.line, ⟨#[]⟩⟩ (cond ((IntKind.u64.wrap x.kind).tmod 3 == 1) ⟨0, x.what⟩ ⟨x.line, x.what⟩)
def lks (f : Nat → Wp) (k : Nat) : List Lk := (List.range k).map fun j => lkOf (f j)
theorem lks_len (f : Nat → Wp) (k : Nat) : (lks f k).length = k := by simp [lks]
theorem lks_succ (f : Nat → Wp) (k : Nat) : lks f (k + 1) = lks f k ++ [lkOf (f k)] := by simp [lks, List.range_succ]

theorem own_shape {B : Nat} {w : World} {v : Value} {n : Nat} {xs : List Value} (h : w.ownsRow B 50 2 v n xs) : ∃ a c, v = .slice a n c := by
  rcases h.2 with ⟨rfl, h0⟩ | ⟨g, cap, cur, rfl, _⟩
  · have := h.1
    rw [h0] at this
    have : n = 0 := by simp at this; omega
    subst this
    exact ⟨none, 0, rfl⟩
  · exact ⟨_, _, rfl⟩
theorem one_newK (w : World) (x : Int) (y : ByteArray) (n : Nat) (hn : n = w.heap.size) : ∀ j u, ([.int .i64 x, .string y] : List Value)[j]? = some u → (w.alloc (.cells #[.int .i64 x, .string y] 50)).cell? ((⟨n, 0, none⟩ : Addr).add j) = some u := by
  subst hn
  intro j u hj
  match j, hj with
  | 0, hj => simp at hj; subst hj; simp [Addr.add]
  | 1, hj => simp at hj; subst hj; simp [Addr.add]
theorem one_cellK (x : Int) (y : ByteArray) : ∀ u ∈ ([.int .i64 x, .string y] : List Value), u.oneCell' = true := by
  intro u hu; simp at hu; rcases hu with rfl | rfl <;> rfl

theorem new_ok (s : ByteArray) (w : World) : Calls Tryd.prog 22 #[.string s] w fun e w' => e = .returned (.iface 62 (.pointer (some ⟨w.heap.size, 0, none⟩))) ∧ Below w.heap.size w w' := by
  have b : Hd (Below w.heap.size w (w.alloc (.cells #[.string s] 64))) := ⟨(Below.refl _ _).alloc (Nat.le_refl _) _⟩
  go_enter Tryd.func22, Tryd.ntmps22
  go_wp2
  go_ret
  refine ⟨rfl, ?_⟩
  first | exact b.out | exact (Below.refl _ _).alloc (Nat.le_refl _) _

end Go.Proofs.YtndandkanamjoaaDoor
