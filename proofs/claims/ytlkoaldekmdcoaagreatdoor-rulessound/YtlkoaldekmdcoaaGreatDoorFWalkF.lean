/-
  'nearest', 'Line' and 'What' of the program, for every chain of Faults around a number or nothing. Condition: errorType holds what its text lays.
-/
import Derived.Test.YtlkoaldekmdcoaaGreatDoorFWalkE
namespace Go.Proofs.YtlkoaldekmdcoaaGreatDoor
open Go.RowKit Go.Extern.Stop Go.Stop Go.Extern

theorem near1_hit (L : Int) (S : ByteArray) (z : Value) (hz : z.oneCell' = true) (pe : Addr) (tb : Nat) (x0 : Int) (y0 : ByteArray) (z0 : Value) (w : World) (he : ET w)
    (hp : w.cell? pe = some (.iface 71 (.agg #[.int .i64 L, .string S, z]))) (ht : Flt w tb x0 y0 z0) :
    Calls Tryz.prog 60 #[.pointer (some pe), .pointer (some ⟨tb, 0, none⟩)] w fun e w' => e = .returned (.bool true) ∧ ∃ w1, Below w.heap.size w w1 ∧ w' = set3 tb L S z w1 := by
  have C := as_hit L S z hz tb x0 y0 z0 w he ht
  clear he ht hz
  go_enter Tryz.func60, Tryz.ntmps60
  go_wp2_with (go_at_call 33; refine C.mono ?_; rintro e w' ⟨rfl, w1, hb, rfl⟩)
  go_ret
  exact ⟨rfl, w1, hb, rfl⟩
theorem near1_miss (B : Base) (pe : Addr) (tb : Nat) (x0 : Int) (y0 : ByteArray) (z0 : Value) (w : World) (he : ET w) (hp : w.cell? pe = some B.val) (ht : Flt w tb x0 y0 z0) :
    Calls Tryz.prog 60 #[.pointer (some pe), .pointer (some ⟨tb, 0, none⟩)] w fun e w' => e = .returned (.bool false) ∧ Below w.heap.size w w' := by
  have C : Calls Tryz.prog 33 #[B.val, .iface 101 (.pointer (some ⟨tb, 0, none⟩))] w fun e w' => e = .returned (.bool false) ∧ Below w.heap.size w w' := by
    by_cases hB : B = (.inr ())
    · subst hB
      refine (as_nil _ w).mono ?_
      rintro e w' ⟨rfl, rfl⟩
      exact ⟨rfl, Below.refl _ _⟩
    · exact as_miss B hB tb x0 y0 z0 w he ht
  clear he ht
  generalize B.val = q at *
  go_enter Tryz.func60, Tryz.ntmps60
  go_wp2_with (go_at_call 33; refine C.mono ?_; rintro e w' ⟨rfl, hb⟩)
  go_ret
  exact ⟨rfl, hb⟩

/-- A function value that answers whether a Fault says something. -/
def Says (g : Nat) (p : Int → ByteArray → Bool) : Prop :=
  Enters Tryz.prog g ∧ ∀ (x : Int) (y : ByteArray) (z : Value) (w : World), z.oneCell' = true → Calls Tryz.prog g #[.agg #[.int .i64 x, .string y, z]] w fun e w' => e = .returned (.bool (p x y)) ∧ Below w.heap.size w w'
/-- The first Fault that says it. -/
def near (p : Int → ByteArray → Bool) : List Lk → Lk
  | [] => ⟨0, ⟨#[]⟩⟩
  | l :: ls => if p l.line l.what then l else near p ls

/-- The state of the search: the error that is asked next, the answer that is laid, the Fault that was found last. -/
structure St (w wr : World) (q : Value) (x : Int) (y : ByteArray) (z : Value) : Prop where
  bel : Below w.heap.size w wr
  sz : w.heap.size + 2 < wr.heap.size
  err : wr.cell? ⟨w.heap.size, 0, none⟩ = some q
  frz : wr.frozen? ⟨w.heap.size, 0, none⟩ = false
  ans : Flt wr (w.heap.size + 1) 0 ⟨#[]⟩ .nilIface
  flt : Flt wr (w.heap.size + 2) x y z

theorem St.grown {w wr w' : World} {q : Value} {x : Int} {y : ByteArray} {z : Value} (h : St w wr q x y z) (b : Below wr.heap.size wr w') : St w w' q x y z := by
  have := h.sz
  exact ⟨h.bel.trans (b.mono h.bel.size), Nat.lt_of_lt_of_le h.sz b.size, (b.cell (p := ⟨w.heap.size, 0, none⟩) (by simp only; omega)).trans h.err, (b.frozen (p := ⟨w.heap.size, 0, none⟩) (by simp only; omega)).trans h.frz,
    h.ans.stays b (by omega), h.flt.stays b (by omega)⟩
theorem St.found {w wr : World} {q : Value} {x : Int} {y : ByteArray} {z : Value} (h : St w wr q x y z) (x' : Int) (y' : ByteArray) (z' : Value) : St w (set3 (w.heap.size + 2) x' y' z' wr) q x' y' z' := by
  have e : ∀ k, k ≠ w.heap.size + 2 → (set3 (w.heap.size + 2) x' y' z' wr).heap[k]? = wr.heap[k]? := fun k hk => set3_other k hk
  have b : Below (w.heap.size + 2) wr (set3 (w.heap.size + 2) x' y' z' wr) := Below.set3 (Below.refl _ _) (Nat.le_refl _) _ _ _
  exact ⟨h.bel.trans (b.mono (by omega)), by rw [set3_size]; exact h.sz, (b.cell (p := ⟨w.heap.size, 0, none⟩) (by simp)).trans h.err, (b.frozen (p := ⟨w.heap.size, 0, none⟩) (by simp)).trans h.frz,
    h.ans.stays b (by omega), h.flt.set _ _ _⟩
theorem St.own {w wr : World} {q : Value} {x : Int} {y : ByteArray} {z : Value} (h : St w wr q x y z) {k : Nat} (hk : w.heap.size + 3 ≤ k) (v : Value) : St w (wr.setCell ⟨k, 0, none⟩ v) q x y z := by
  have b : Below (w.heap.size + 3) wr (wr.setCell ⟨k, 0, none⟩ v) := (Below.refl _ _).setCell (p := ⟨k, 0, none⟩) hk v
  exact ⟨h.bel.trans (b.mono (by omega)), Nat.lt_of_lt_of_le h.sz b.size, (b.cell (p := ⟨w.heap.size, 0, none⟩) (by simp only; omega)).trans h.err, (b.frozen (p := ⟨w.heap.size, 0, none⟩) (by simp only; omega)).trans h.frz,
    h.ans.stays b (by omega), h.flt.stays b (by omega)⟩
theorem flt_other {w : World} {b : Nat} {x : Int} {y : ByteArray} {z : Value} (h : Flt w b x y z) {a : Addr} (ha : a.block ≠ b) (v : Value) : Flt (w.setCell a v) b x y z :=
  have e : (w.setCell a v).heap[b]? = w.heap[b]? := Below.heap_setCell _ _ _ _ (fun e => ha e.symm)
  ⟨(World.cell?_of_block (a := ⟨b, 0, none⟩) e).trans h.c0, (World.cell?_of_block (a := ⟨b, 1, none⟩) e).trans h.c1, (World.cell?_of_block (a := ⟨b, 2, none⟩) e).trans h.c2,
   (World.frozen?_of_block (a := ⟨b, 0, none⟩) e).trans h.f0, (World.frozen?_of_block (a := ⟨b, 1, none⟩) e).trans h.f1, (World.frozen?_of_block (a := ⟨b, 2, none⟩) e).trans h.f2⟩
theorem St.next {w wr : World} {q : Value} {x : Int} {y : ByteArray} {z : Value} (h : St w wr q x y z) (q' : Value) : St w (wr.setCell ⟨w.heap.size, 0, none⟩ q') q' x y z := by
  exact ⟨h.bel.setCell (p := ⟨w.heap.size, 0, none⟩) (Nat.le_refl _) _, by simpa [World.setCell] using h.sz, World.cell?_setCell_same _ _ _ h.err, (World.frozen?_setCell _ _ _ _).trans h.frz,
    flt_other h.ans (by simp) _, flt_other h.flt (by simp) _⟩

/-- One question: is there a Fault? -/
theorem ask_hit (L : Int) (S : ByteArray) (z : Value) (hz : z.oneCell' = true) (x0 : Int) (y0 : ByteArray) (z0 : Value) (w wr : World) (he : ET w)
    (h : St w wr (.iface 71 (.agg #[.int .i64 L, .string S, z])) x0 y0 z0) :
    Calls Tryz.prog 31 #[.func (.func 60) #[] #[.pointer (some ⟨w.heap.size, 0, none⟩), .pointer (some ⟨w.heap.size + 2, 0, none⟩)]] wr fun e w' => e = .returned (.bool true) ∧ St w w' (.iface 71 (.agg #[.int .i64 L, .string S, z])) L S z := by
  have bY : Below wr.heap.size wr (wr.alloc (.cells #[.bool false] 4)) := (Below.refl _ _).alloc (Nat.le_refl _) _
  have hY := h.grown bY
  have sY := h.sz
  have c1 := near1_hit L S z hz ⟨w.heap.size, 0, none⟩ (w.heap.size + 2) x0 y0 z0 (wr.alloc (.cells #[.bool false] 4)) (he.stays hY.bel) hY.err hY.flt
  have A := answers_ok 60 (enters_of Tryz.func60 (by kernel_rfl) rfl) (.pointer (some ⟨w.heap.size, 0, none⟩)) (.pointer (some ⟨w.heap.size + 2, 0, none⟩)) true
    (fun w' => ∃ w1, Below (wr.alloc (.cells #[.bool false] 4)).heap.size (wr.alloc (.cells #[.bool false] 4)) w1 ∧ w' = set3 (w.heap.size + 2) L S z w1) wr c1 (by
      rintro w2 ⟨w1, h1, rfl⟩
      have e : (set3 (w.heap.size + 2) L S z w1).heap[wr.heap.size]? = (wr.alloc (.cells #[.bool false] 4)).heap[wr.heap.size]? :=
        (set3_other _ (by omega)).trans (h1.block _ (by simp))
      exact ⟨(World.cell?_of_block (a := ⟨wr.heap.size, 0, none⟩) e).trans (by simp), (World.frozen?_of_block (a := ⟨wr.heap.size, 0, none⟩) e).trans (by simp)⟩)
  refine A.mono ?_
  rintro e w' ⟨rfl, w2, ⟨w1, h1, rfl⟩, rfl⟩
  exact ⟨rfl, ((hY.grown h1).found L S z).own (by omega) _⟩
theorem ask_miss (B : Base) (x0 : Int) (y0 : ByteArray) (z0 : Value) (w wr : World) (he : ET w) (h : St w wr B.val x0 y0 z0) :
    Calls Tryz.prog 31 #[.func (.func 60) #[] #[.pointer (some ⟨w.heap.size, 0, none⟩), .pointer (some ⟨w.heap.size + 2, 0, none⟩)]] wr fun e w' => e = .returned (.bool false) ∧ St w w' B.val x0 y0 z0 := by
  have bY : Below wr.heap.size wr (wr.alloc (.cells #[.bool false] 4)) := (Below.refl _ _).alloc (Nat.le_refl _) _
  have hY := h.grown bY
  have sY := h.sz
  have c1 := near1_miss B ⟨w.heap.size, 0, none⟩ (w.heap.size + 2) x0 y0 z0 (wr.alloc (.cells #[.bool false] 4)) (he.stays hY.bel) hY.err hY.flt
  have A := answers_ok 60 (enters_of Tryz.func60 (by kernel_rfl) rfl) (.pointer (some ⟨w.heap.size, 0, none⟩)) (.pointer (some ⟨w.heap.size + 2, 0, none⟩)) false
    (fun w' => Below (wr.alloc (.cells #[.bool false] 4)).heap.size (wr.alloc (.cells #[.bool false] 4)) w') wr c1 (by
      intro w1 h1
      have e := h1.block wr.heap.size (by simp)
      exact ⟨(World.cell?_of_block (a := ⟨wr.heap.size, 0, none⟩) e).trans (by simp), (World.frozen?_of_block (a := ⟨wr.heap.size, 0, none⟩) e).trans (by simp)⟩)
  refine A.mono ?_
  rintro e w' ⟨rfl, w1, h1, rfl⟩
  exact ⟨rfl, (hY.grown h1).own (by omega) _⟩

end Go.Proofs.YtlkoaldekmdcoaaGreatDoor
