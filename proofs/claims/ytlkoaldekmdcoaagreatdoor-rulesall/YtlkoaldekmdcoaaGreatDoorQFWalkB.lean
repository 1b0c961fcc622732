/-
  errors.as and errors.As of the library at a pointer to a Fault, for every chain of Faults around a number or nothing. Conditions: the target's three cells are there and may be written; of errors.As: errorType holds what its text lays.
-/
import Derived.Test.YtlkoaldekmdcoaaGreatDoorQFWalkA
namespace Go.Proofs.YtlkoaldekmdcoaaGreatDoor
open Go.RowKit Go.Extern.Stop Go.Stop Go.Extern

/-- A Fault is laid into three cells. -/
def set3 (tb : Nat) (x : Int) (y : ByteArray) (z : Value) (w : World) : World :=
  ((w.setCell ⟨tb, 0, none⟩ (.int .i64 x)).setCell ⟨tb, 1, none⟩ (.string y)).setCell ⟨tb, 2, none⟩ z
/-- A block of a Fault's three cells, which may be written. -/
structure Flt (w : World) (b : Nat) (x : Int) (y : ByteArray) (z : Value) : Prop where
  c0 : w.cell? ⟨b, 0, none⟩ = some (.int .i64 x)
  c1 : w.cell? ⟨b, 1, none⟩ = some (.string y)
  c2 : w.cell? ⟨b, 2, none⟩ = some z
  f0 : w.frozen? ⟨b, 0, none⟩ = false
  f1 : w.frozen? ⟨b, 1, none⟩ = false
  f2 : w.frozen? ⟨b, 2, none⟩ = false
theorem Flt.lt {w : World} {b : Nat} {x : Int} {y : ByteArray} {z : Value} (h : Flt w b x y z) : b < w.heap.size := lt_of_cell h.c0
theorem Flt.stays {w w' : World} {b B : Nat} {x : Int} {y : ByteArray} {z : Value} (h : Flt w b x y z) (g : Below B w w') (hB : b < B) : Flt w' b x y z :=
  ⟨(g.cell (p := ⟨b, 0, none⟩) hB).trans h.c0, (g.cell (p := ⟨b, 1, none⟩) hB).trans h.c1, (g.cell (p := ⟨b, 2, none⟩) hB).trans h.c2,
   (g.frozen (p := ⟨b, 0, none⟩) hB).trans h.f0, (g.frozen (p := ⟨b, 1, none⟩) hB).trans h.f1, (g.frozen (p := ⟨b, 2, none⟩) hB).trans h.f2⟩
theorem Flt.set {w : World} {b : Nat} {x : Int} {y : ByteArray} {z : Value} (h : Flt w b x y z) (x' : Int) (y' : ByteArray) (z' : Value) : Flt (set3 b x' y' z' w) b x' y' z' := by
  have h0 : (w.setCell ⟨b, 0, none⟩ (.int .i64 x')).cell? ⟨b, 0, none⟩ = some (.int .i64 x') := World.cell?_setCell_same _ _ _ h.c0
  have h1 : ((w.setCell ⟨b, 0, none⟩ (.int .i64 x')).setCell ⟨b, 1, none⟩ (.string y')).cell? ⟨b, 1, none⟩ = some (.string y') :=
    World.cell?_setCell_same _ _ _ ((World.cell?_setCell_other _ _ _ _ (by simp)).trans h.c1)
  refine ⟨?_, ?_, ?_, ?_, ?_, ?_⟩
  · exact (World.cell?_setCell_other _ _ _ _ (by simp)).trans ((World.cell?_setCell_other _ _ _ _ (by simp)).trans h0)
  · exact (World.cell?_setCell_other _ _ _ _ (by simp)).trans h1
  · exact World.cell?_setCell_same _ _ _ ((World.cell?_setCell_other _ _ _ _ (by simp)).trans ((World.cell?_setCell_other _ _ _ _ (by simp)).trans h.c2))
  · simp [set3, h.f0]
  · simp [set3, h.f1]
  · simp [set3, h.f2]
theorem Below.set3 {B : Nat} {a w : World} (h : Below B a w) {b : Nat} (hb : B ≤ b) (x : Int) (y : ByteArray) (z : Value) : Below B a (set3 b x y z w) :=
  ((h.setCell (p := ⟨b, 0, none⟩) hb _).setCell (p := ⟨b, 1, none⟩) hb _).setCell (p := ⟨b, 2, none⟩) hb _
theorem set3_other {w : World} {b : Nat} {x : Int} {y : ByteArray} {z : Value} (k : Nat) (h : k ≠ b) : (set3 b x y z w).heap[k]? = w.heap[k]? := by
  unfold set3
  rw [Below.heap_setCell _ _ _ _ h, Below.heap_setCell _ _ _ _ h, Below.heap_setCell _ _ _ _ h]
theorem set3_size (w : World) (b : Nat) (x : Int) (y : ByteArray) (z : Value) : (set3 b x y z w).heap.size = w.heap.size := by simp [set3, World.setCell]

set_option maxHeartbeats 4000000 in
theorem as36_hit (L : Int) (S : ByteArray) (z : Value) (hz : z.oneCell' = true) (a : Addr) (tb : Nat) (x0 : Int) (y0 : ByteArray) (z0 : Value) (w : World)
    (ha : w.cell? a = some (.pointer (some ⟨tb, 0, none⟩))) (ht : Flt w tb x0 y0 z0) :
    Calls Tryz.prog 59 #[.iface 71 (.agg #[.int .i64 L, .string S, z]), .iface 101 (.pointer (some ⟨tb, 0, none⟩)), .agg #[.pointer (some ⟨2, 101, none⟩), .pointer (some a), .int .u64 150], .iface 117 (.agg #[.pointer (some ⟨2, 71, none⟩)])] w fun e w' => e = .returned (.bool true) ∧ ∃ w1, Below w.heap.size w w1 ∧ w' = set3 tb L S z w1 := by
  have mA := Tryz.methodAssignableTo
  have la := lt_of_cell ha
  have lt := ht.lt
  obtain ⟨w1, hw1⟩ : ∃ w1, w1 = w.alloc (.cells #[.pointer (some ⟨2, 101, none⟩), .pointer (some a), .int .u64 150] 92) := ⟨_, rfl⟩
  have b1 : Below w.heap.size w w1 := by rw [hw1]; exact (Below.refl _ _).alloc (Nat.le_refl _) _
  have s1 : w1.heap.size = w.heap.size + 1 := by rw [hw1]; simp
  obtain ⟨w2, hw2⟩ : ∃ w2, w2 = w1.alloc (.cells #[.int .i64 L, .string S, z] 71) := ⟨_, rfl⟩
  have b2 : Below w1.heap.size w1 w2 := by rw [hw2]; exact (Below.refl _ _).alloc (Nat.le_refl _) _
  have f2 := (ht.stays b1 lt).stays b2 (by omega)
  have k1 := Tryz.c38_44 (.agg #[.int .i64 L, .string S, z])
  have k2 := Tryz.c78_44_44
  have k3 := Tryz.c41_77 a ⟨tb, 0, none⟩ w1 ((b1.cell la).trans ha)
  have k4 := Tryz.c33_44 (.int .i64 L) (.string S) z w1
  have k5 := Tryz.c42_44 tb w1.heap.size L S z (.int .i64 x0) (.string y0) z0 w2 hz (by rw [hw2]; simp) (by rw [hw2]; simp) (by rw [hw2]; simp) f2.c0 f2.c1 f2.c2 f2.f0 f2.f1 f2.f2
  have R : Hd (Below w.heap.size w w2) := ⟨b1.trans (b2.mono b1.size)⟩
  rw [← hw2] at k4
  have HW : Hd (w1 = w.alloc (.cells #[.pointer (some ⟨2, 101, none⟩), .pointer (some a), .int .u64 150] 92)) := ⟨hw1⟩
  have y0 : w1.cell? ⟨w.heap.size, 0, none⟩ = some (.pointer (some ⟨2, 101, none⟩)) := by rw [hw1]; simp
  have y1 : w1.cell? ⟨w.heap.size, 1, none⟩ = some (.pointer (some a)) := by rw [hw1]; simp
  have y2 : w1.cell? ⟨w.heap.size, 2, none⟩ = some (.int .u64 150) := by rw [hw1]; simp
  clear ha ht hz b1 b2 f2 hw1 hw2 la lt s1
  go_enter Tryz.func59, Tryz.ntmps59
  go_wp2
  rw [← HW.out]
  refine wp_loop_rounds 1 ?_
  rw [rounds_succ]
  go_wp2
  go_ret
  exact ⟨rfl, w2, R.out, rfl⟩

set_option maxHeartbeats 4000000 in
theorem as36_miss (B : Base) (hB : B ≠ (.inr ())) (t a : Addr) (w : World) :
    Calls Tryz.prog 59 #[B.val, .iface 101 (.pointer (some t)), .agg #[.pointer (some ⟨2, 101, none⟩), .pointer (some a), .int .u64 150], .iface 117 (.agg #[.pointer (some ⟨2, 71, none⟩)])] w fun e w' => e = .returned (.bool false) ∧ Below w.heap.size w w' := by
  have mA := Tryz.methodAssignableTo
  have b1 : Hd (Below w.heap.size w (w.alloc (.cells #[.pointer (some ⟨2, 101, none⟩), .pointer (some a), .int .u64 150] 92))) := ⟨(Below.refl _ _).alloc (Nat.le_refl _) _⟩
  rcases B with n | ⟨⟩
  ·
    have k1 := Tryz.c38_31 (.int .i64 n)
    have k2 := Tryz.c78_31_44
    have k3 := Tryz.as31_85 (.int .i64 n)
    have k4 := Tryz.as31_88 (.int .i64 n)
    have k5 := Tryz.as31_89 (.int .i64 n)
    simp only [Base.val]
    go_enter Tryz.func59, Tryz.ntmps59
    go_wp2
    refine wp_loop_rounds 1 ?_
    rw [rounds_succ]
    go_wp2
    go_ret
    exact ⟨rfl, b1.out⟩
  · exact absurd rfl hB

set_option maxHeartbeats 4000000 in
theorem as_hit (L : Int) (S : ByteArray) (z : Value) (hz : z.oneCell' = true) (tb : Nat) (x0 : Int) (y0 : ByteArray) (z0 : Value) (w : World) (he : ET w) (ht : Flt w tb x0 y0 z0) :
    Calls Tryz.prog 33 #[.iface 71 (.agg #[.int .i64 L, .string S, z]), .iface 101 (.pointer (some ⟨tb, 0, none⟩))] w fun e w' => e = .returned (.bool true) ∧ ∃ w1, Below w.heap.size w w1 ∧ w' = set3 tb L S z w1 := by
  have mK := Tryz.methodKind
  have mE := Tryz.methodElem
  have mI := Tryz.methodImplements
  have lt := ht.lt
  have k1 := Tryz.c33_77 ⟨tb, 0, none⟩ w
  have k2 := Tryz.c34_77
  have k3 := Tryz.c69_77
  have k4 := Tryz.c69_44
  have k5 := Tryz.c80_77
  have k6 := Tryz.c81_44
  obtain ⟨w2, hw2⟩ : ∃ w2, w2 = (w.alloc (.cells #[.pointer (some ⟨tb, 0, none⟩)] 101)).alloc (.cells #[.pointer (some ⟨2, 101, none⟩), .pointer (some ⟨w.heap.size, 0, none⟩), .int .u64 150] 92) := ⟨_, rfl⟩
  have b2 : Below w.heap.size w w2 := by rw [hw2]; exact ((Below.refl _ _).alloc (Nat.le_refl _) _).alloc (by simp) _
  have k7 := Tryz.c35_77 ⟨w.heap.size, 0, none⟩ ⟨tb, 0, none⟩ w2 (by rw [hw2]; simp)
  have y1 : w2.cell? ⟨w.heap.size, 0, none⟩ = some (.pointer (some ⟨tb, 0, none⟩)) := by rw [hw2]; simp
  have e2 : w2.cell? ⟨0, 0, none⟩ = some (.iface 117 (.agg #[.pointer (some ⟨2, 31, none⟩)])) := he.stays b2
  have C := as36_hit L S z hz ⟨w.heap.size, 0, none⟩ tb x0 y0 z0 w2 y1 (ht.stays b2 lt)
  have BB : Hd (Below w.heap.size w w2) := ⟨b2⟩
  clear he ht y1 b2
  clear hz
  subst hw2
  go_enter Tryz.func33, Tryz.ntmps33
  go_wp2_with (go_at_call 59; refine C.mono ?_; rintro e w' ⟨rfl, w3, hb3, rfl⟩)
  go_ret
  exact ⟨rfl, w3, BB.out.trans (hb3.mono BB.out.size), rfl⟩

set_option maxHeartbeats 4000000 in
theorem as_miss (B : Base) (hB : B ≠ (.inr ())) (tb : Nat) (x0 : Int) (y0 : ByteArray) (z0 : Value) (w : World) (he : ET w) (ht : Flt w tb x0 y0 z0) :
    Calls Tryz.prog 33 #[B.val, .iface 101 (.pointer (some ⟨tb, 0, none⟩))] w fun e w' => e = .returned (.bool false) ∧ Below w.heap.size w w' := by
  have mK := Tryz.methodKind
  have mE := Tryz.methodElem
  have mI := Tryz.methodImplements
  have lt := ht.lt
  have k1 := Tryz.c33_77 ⟨tb, 0, none⟩ w
  have k2 := Tryz.c34_77
  have k3 := Tryz.c69_77
  have k4 := Tryz.c69_44
  have k5 := Tryz.c80_77
  have k6 := Tryz.c81_44
  obtain ⟨w2, hw2⟩ : ∃ w2, w2 = (w.alloc (.cells #[.pointer (some ⟨tb, 0, none⟩)] 101)).alloc (.cells #[.pointer (some ⟨2, 101, none⟩), .pointer (some ⟨w.heap.size, 0, none⟩), .int .u64 150] 92) := ⟨_, rfl⟩
  have b2 : Below w.heap.size w w2 := by rw [hw2]; exact ((Below.refl _ _).alloc (Nat.le_refl _) _).alloc (by simp) _
  have k7 := Tryz.c35_77 ⟨w.heap.size, 0, none⟩ ⟨tb, 0, none⟩ w2 (by rw [hw2]; simp)
  have y1 : w2.cell? ⟨w.heap.size, 0, none⟩ = some (.pointer (some ⟨tb, 0, none⟩)) := by rw [hw2]; simp
  have e2 : w2.cell? ⟨0, 0, none⟩ = some (.iface 117 (.agg #[.pointer (some ⟨2, 31, none⟩)])) := he.stays b2
  have C := as36_miss B hB ⟨tb, 0, none⟩ ⟨w.heap.size, 0, none⟩ w2
  have BB : Hd (Below w.heap.size w w2) := ⟨b2⟩
  clear he ht y1 b2
  clear lt
  obtain ⟨T, u, hT⟩ : ∃ T u, B.val = .iface T u := by
    rcases B with n | ⟨⟩
    · exact ⟨_, _, rfl⟩
    · exact absurd rfl hB
  rw [hT] at C ⊢
  clear hT hB
  subst hw2
  go_enter Tryz.func33, Tryz.ntmps33
  go_wp2_with (go_at_call 59; refine C.mono ?_; rintro e w' ⟨rfl, hb3⟩)
  go_ret
  exact ⟨rfl, BB.out.trans (hb3.mono BB.out.size)⟩

end Go.Proofs.YtlkoaldekmdcoaaGreatDoor
