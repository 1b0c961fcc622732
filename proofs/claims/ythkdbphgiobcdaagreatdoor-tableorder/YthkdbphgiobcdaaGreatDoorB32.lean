/-
  errors.as and errors.As of the library at a pointer to api's number, for every chain of Faults around a number or nothing. Conditions: the target's variable is there and may be written; of errors.As: errorType holds what its text lays.
  errors.as and errors.As of the library at a pointer to a Fault, for every chain of Faults around a number or nothing. Conditions: the target's three cells are there and may be written; of errors.As: errorType holds what its text lays.
  'answers' of the program: what the function that it is handed answers, at a function that does not panic. Condition: the function answers, and leaves the one new variable alone.
-/
import Derived.Test.YthkdbphgiobcdaaGreatDoorB31
import Derived.Defers
import Derived.Recover
import Derived.Laws.Pointers
import Derived.Shelf.Abstract
namespace Go.Proofs.YthkdbphgiobcdaaGreatDoor
open Go.RowKit Go.Extern.Stop Go.Stop Go.Extern

theorem lt_of_cell {w : World} {a : Addr} {v : Value} (h : w.cell? a = some v) : a.block < w.heap.size := by
  rcases Nat.lt_or_ge a.block w.heap.size with h1 | h1
  · exact h1
  · simp [World.cell?, Array.getElem?_eq_none h1] at h

/-- What a chain's tail is: nothing, or something. -/
theorem val_is (B : Base) (ls : List Lk) : (ls = [] ∧ B = (.inr ())) ∨ ∃ T u, val B ls = .iface T u := by
  cases ls with
  | nil =>
    rcases B with n | ⟨⟩
    · exact .inr ⟨_, _, rfl⟩
    · exact .inl ⟨rfl, rfl⟩
  | cons l ls => exact .inr ⟨_, _, rfl⟩

set_option maxHeartbeats 4000000 in
theorem as36_num (B : Base) (ls : List Lk) (t a : Addr) (old : Value) (w : World) (ha : w.cell? a = some (.pointer (some t))) (ht : w.cell? t = some old) (hf : w.frozen? t = false)
    (T : TypeId) (u : Value) (hv : val B ls = .iface T u) :
    Calls Tryz.prog 72 #[val B ls, .iface 72 (.pointer (some t)), .agg #[.pointer (some ⟨5, 72, none⟩), .pointer (some a), .int .u64 150], .iface 163 (.agg #[.pointer (some ⟨5, 38, none⟩)])] w fun e w' => e = .returned (.bool B.isNum) ∧ ∃ w1, Below w.heap.size w w1 ∧ w' = B.put t w1 := by
  have mA := Tryz.methodAssignableTo
  have mU := Tryz.methodUnwrap
  have la := lt_of_cell ha
  have lt := lt_of_cell ht
  obtain ⟨w1, hw1⟩ : ∃ w1, w1 = w.alloc (.cells #[.pointer (some ⟨5, 72, none⟩), .pointer (some a), .int .u64 150] 106) := ⟨_, rfl⟩
  have b1 : Below w.heap.size w w1 := by rw [hw1]; exact (Below.refl _ _).alloc (Nat.le_refl _) _
  have s1 : w1.heap.size = w.heap.size + 1 := by rw [hw1]; simp
  have x0 : w1.cell? ⟨w.heap.size, 0, none⟩ = some (.pointer (some ⟨5, 72, none⟩)) := by rw [hw1]; simp
  have x1 : w1.cell? ⟨w.heap.size, 1, none⟩ = some (.pointer (some a)) := by rw [hw1]; simp
  have x2 : w1.cell? ⟨w.heap.size, 2, none⟩ = some (.int .u64 150) := by rw [hw1]; simp
  have HV : Hd (val B ls = .iface T u) := ⟨hv⟩
  clear hv
  generalize hq : val B ls = q
  have HQ : Hd (val B ls = q) := ⟨hq⟩
  clear hq
  go_enter Tryz.func72, Tryz.ntmps72
  go_wp2
  rw [← hw1]
  have HW : Hd (w1 = w.alloc (.cells #[.pointer (some ⟨5, 72, none⟩), .pointer (some a), .int .u64 150] 106)) := ⟨hw1⟩
  clear hw1
  go_loopg [0] ls.length (fun g q' wr => ∃ ls' : List Lk, ls'.length ≤ g ∧ q' = val B ls' ∧ (∃ T u, val B ls' = .iface T u) ∧ Below w1.heap.size w1 wr)
  case atStart => exact ⟨ls, Nat.le_refl _, HQ.out.symm, ⟨T, u, HV.out⟩, Below.refl _ _⟩
  case round =>
    obtain ⟨ls', hl, rfl, hT, hb⟩ := hrel
    have c0 : wr.cell? ⟨w.heap.size, 0, none⟩ = some (.pointer (some ⟨5, 72, none⟩)) := (hb.cell (p := ⟨w.heap.size, 0, none⟩) (by rw [s1]; exact Nat.lt_succ_self _)).trans x0
    have c1 : wr.cell? ⟨w.heap.size, 1, none⟩ = some (.pointer (some a)) := (hb.cell (p := ⟨w.heap.size, 1, none⟩) (by rw [s1]; exact Nat.lt_succ_self _)).trans x1
    have c2 : wr.cell? ⟨w.heap.size, 2, none⟩ = some (.int .u64 150) := (hb.cell (p := ⟨w.heap.size, 2, none⟩) (by rw [s1]; exact Nat.lt_succ_self _)).trans x2
    have BB : Hd (Below w.heap.size w wr) := ⟨b1.trans (hb.mono b1.size)⟩
    have HB : Hd (Below w1.heap.size w1 wr) := ⟨hb⟩
    have sz : w.heap.size < wr.heap.size := by have := hb.size; omega
    clear hb x0 x1 x2 b1 HW HQ HV
    cases ls' with
    | nil =>
      rcases B with n | ⟨⟩
      ·
        show Code.wp _ _ _ _ _
        obtain ⟨w2, hw2⟩ : ∃ w2, w2 = wr.alloc (.cells #[.int .i64 n] 38) := ⟨_, rfl⟩
        have b2 : Below wr.heap.size wr w2 := by rw [hw2]; exact (Below.refl _ _).alloc (Nat.le_refl _) _
        have y0 : wr.cell? a = some (.pointer (some t)) := (BB.out.cell la).trans ha
        have y1 : w2.cell? ⟨wr.heap.size, 0, none⟩ = some (.int .i64 n) := by rw [hw2]; simp
        have y2 : w2.cell? t = some old := (b2.cell (by omega)).trans ((BB.out.cell lt).trans ht)
        have y3 : w2.frozen? t = false := (b2.frozen (by omega)).trans ((BB.out.frozen lt).trans hf)
        have k1 := Tryz.c38_31 (.int .i64 n)
        have k2 := Tryz.c78_31_31
        have k3 := Tryz.c41_57 a t wr y0
        have k4 := Tryz.c33_31 n wr
        rw [← hw2] at k4
        have k5 := Tryz.c42_31 t ⟨wr.heap.size, 0, none⟩ n old w2 y1 y2 y3
        have R : Hd (Below w.heap.size w w2) := ⟨BB.out.trans (b2.mono BB.out.size)⟩
        clear ha ht hf y0 y1 y2 y3 b2 hw2
        simp only [val, Base.val]
        go_wp2
        go_ret
        exact ⟨rfl, w2, R.out, rfl⟩
      · obtain ⟨T, u, h⟩ := hT; cases h
    | cons l ls' =>
      obtain ⟨L, S⟩ := l
      obtain ⟨z, hz⟩ : ∃ z, z = val B ls' := ⟨_, rfl⟩
      have HZ : Hd (z = val B ls') := ⟨hz⟩
      have k1 := Tryz.c38_44 (.agg #[.int .i64 L, .string S, z])
      have k2 := Tryz.c78_44_31
      have k3 := Tryz.as44_85 (.agg #[.int .i64 L, .string S, z])
      have k4 := Tryz.as44_88 (.agg #[.int .i64 L, .string S, z])
      have R : Hd (Below w1.heap.size w1 (wr.alloc (.cells #[.int .i64 L, .string S, z] 74))) := ⟨HB.out.alloc (by omega) _⟩
      have R' : Hd (Below w.heap.size w (wr.alloc (.cells #[.int .i64 L, .string S, z] 74))) := ⟨BB.out.alloc BB.out.size _⟩
      clear ha ht hf hT
      simp only [val]
      rw [← hz]
      clear hz
      rcases val_is B ls' with ⟨rfl, rfl⟩ | ⟨T', u', h'⟩
      · obtain rfl : z = .nilIface := HZ.out
        go_wp2_with (go_at_call 222; refine (unwrap_ok L S _ _).mono ?_; rintro e w' ⟨rfl, rfl⟩)
        go_ret
        exact ⟨rfl, _, R'.out, rfl⟩
      · obtain rfl : z = .iface T' u' := HZ.out.trans h'
        have HH : Hd (val B ls' = .iface T' u') := ⟨h'⟩
        clear h' HZ
        go_wp2_with (go_at_call 222; refine (unwrap_ok L S _ _).mono ?_; rintro e w' ⟨rfl, rfl⟩)
        obtain ⟨g, rfl⟩ : ∃ g, gk = g + 1 := ⟨gk - 1, by simp at hl; omega⟩
        go_roundg g
        case rel => exact ⟨ls', by simp at hl; omega, HH.out.symm, ⟨T', u', HH.out⟩, R.out⟩
        case measure => exact Nat.lt_succ_self _

theorem as_nil (t : Value) (w : World) :
    Calls Tryz.prog 33 #[.nilIface, t] w fun e w' => e = .returned (.bool false) ∧ w' = w := by
  go_enter Tryz.func33, Tryz.ntmps33
  go_wp2
  go_ret
  exact ⟨rfl, rfl⟩

set_option maxHeartbeats 4000000 in
theorem as_num (B : Base) (ls : List Lk) (t : Addr) (old : Value) (w : World) (he : ET w) (ht : w.cell? t = some old) (hf : w.frozen? t = false)
    (T : TypeId) (u : Value) (hv : val B ls = .iface T u) :
    Calls Tryz.prog 33 #[val B ls, .iface 72 (.pointer (some t))] w fun e w' => e = .returned (.bool B.isNum) ∧ ∃ w1, Below w.heap.size w w1 ∧ w' = B.put t w1 := by
  have mK := Tryz.methodKind
  have mE := Tryz.methodElem
  have mI := Tryz.methodImplements
  have lt := lt_of_cell ht
  have k1 := Tryz.c33_57 t w
  have k2 := Tryz.c34_57
  have k3 := Tryz.c69_57
  have k4 := Tryz.c69_31
  have k5 := Tryz.c80_57
  have k6 := Tryz.c81_31
  obtain ⟨w2, hw2⟩ : ∃ w2, w2 = (w.alloc (.cells #[.pointer (some t)] 72)).alloc (.cells #[.pointer (some ⟨5, 72, none⟩), .pointer (some ⟨w.heap.size, 0, none⟩), .int .u64 150] 106) := ⟨_, rfl⟩
  have b2 : Below w.heap.size w w2 := by rw [hw2]; exact ((Below.refl _ _).alloc (Nat.le_refl _) _).alloc (by simp) _
  have k7 := Tryz.c35_57 ⟨w.heap.size, 0, none⟩ t w2 (by rw [hw2]; simp)
  have y0 : w2.cell? ⟨w.heap.size, 0, none⟩ = some (.pointer (some t)) := by rw [hw2]; simp
  have x0 : w2.cell? ⟨w.heap.size + 1, 0, none⟩ = some (.pointer (some ⟨5, 72, none⟩)) := by rw [hw2]; simp
  have x1 : w2.cell? ⟨w.heap.size + 1, 1, none⟩ = some (.pointer (some ⟨w.heap.size, 0, none⟩)) := by rw [hw2]; simp
  have x2 : w2.cell? ⟨w.heap.size + 1, 2, none⟩ = some (.int .u64 150) := by rw [hw2]; simp
  have e2 : w2.cell? ⟨0, 0, none⟩ = some (.iface 163 (.agg #[.pointer (some ⟨5, 33, none⟩)])) := he.stays b2
  have C := as36_num B ls t ⟨w.heap.size, 0, none⟩ old w2 y0 ((b2.cell lt).trans ht) ((b2.frozen lt).trans hf) T u hv
  have BB : Hd (Below w.heap.size w w2) := ⟨b2⟩
  clear he ht hf y0 b2
  rw [hv] at C ⊢
  clear hv
  clear x0 x1 x2
  subst hw2
  go_enter Tryz.func33, Tryz.ntmps33
  go_wp2_with (go_at_call 72; refine C.mono ?_; rintro e w' ⟨rfl, w3, hb3, rfl⟩)
  go_ret
  exact ⟨rfl, w3, BB.out.trans (hb3.mono BB.out.size), rfl⟩
end Go.Proofs.YthkdbphgiobcdaaGreatDoor

namespace Go.Proofs.YthkdbphgiobcdaaGreatDoor
open Go.RowKit Go.Extern.Stop Go.Stop Go.Extern

/-- A Fault is laid into three cells. -/
def set3 (tb : Nat) (x : Int) (y : ByteArray) (z : Value) (w : World) : World :=
  ((w.setCell ⟨tb, 0, none⟩ (.int .i64 x)).setCell ⟨tb, 1, none⟩ (.string y)).setCell ⟨tb, 2, none⟩ z
/-- A block of a Fault's three cells, which may be written. -/
structure Flt (w : World) (b : Nat) (x : Int) (y : ByteArray) (z : Value) : Prop where
  c0 : w.cell? ⟨b, 0, none⟩ = some (.int .i64 x)
  c1 : w.cell? ⟨b, 1, none⟩ = some (.string y)
  c2 : w.cell? ⟨b, 2, none⟩ = some z
  f0 : w.frozen? ⟨b, 0, none⟩ = false
  f1 : w.frozen? ⟨b, 1, none⟩ = false
  f2 : w.frozen? ⟨b, 2, none⟩ = false
theorem Flt.lt {w : World} {b : Nat} {x : Int} {y : ByteArray} {z : Value} (h : Flt w b x y z) : b < w.heap.size := lt_of_cell h.c0
theorem Flt.stays {w w' : World} {b B : Nat} {x : Int} {y : ByteArray} {z : Value} (h : Flt w b x y z) (g : Below B w w') (hB : b < B) : Flt w' b x y z :=
  ⟨(g.cell (p := ⟨b, 0, none⟩) hB).trans h.c0, (g.cell (p := ⟨b, 1, none⟩) hB).trans h.c1, (g.cell (p := ⟨b, 2, none⟩) hB).trans h.c2,
   (g.frozen (p := ⟨b, 0, none⟩) hB).trans h.f0, (g.frozen (p := ⟨b, 1, none⟩) hB).trans h.f1, (g.frozen (p := ⟨b, 2, none⟩) hB).trans h.f2⟩
theorem Flt.set {w : World} {b : Nat} {x : Int} {y : ByteArray} {z : Value} (h : Flt w b x y z) (x' : Int) (y' : ByteArray) (z' : Value) : Flt (set3 b x' y' z' w) b x' y' z' := by
  have h0 : (w.setCell ⟨b, 0, none⟩ (.int .i64 x')).cell? ⟨b, 0, none⟩ = some (.int .i64 x') := World.cell?_setCell_same _ _ _ h.c0
  have h1 : ((w.setCell ⟨b, 0, none⟩ (.int .i64 x')).setCell ⟨b, 1, none⟩ (.string y')).cell? ⟨b, 1, none⟩ = some (.string y') :=
    World.cell?_setCell_same _ _ _ ((World.cell?_setCell_other _ _ _ _ (by simp)).trans h.c1)
  refine ⟨?_, ?_, ?_, ?_, ?_, ?_⟩
  · exact (World.cell?_setCell_other _ _ _ _ (by simp)).trans ((World.cell?_setCell_other _ _ _ _ (by simp)).trans h0)
  · exact (World.cell?_setCell_other _ _ _ _ (by simp)).trans h1
  · exact World.cell?_setCell_same _ _ _ ((World.cell?_setCell_other _ _ _ _ (by simp)).trans ((World.cell?_setCell_other _ _ _ _ (by simp)).trans h.c2))
  · simp [set3, h.f0]
  · simp [set3, h.f1]
  · simp [set3, h.f2]
theorem Below.set3 {B : Nat} {a w : World} (h : Below B a w) {b : Nat} (hb : B ≤ b) (x : Int) (y : ByteArray) (z : Value) : Below B a (set3 b x y z w) :=
  ((h.setCell (p := ⟨b, 0, none⟩) hb _).setCell (p := ⟨b, 1, none⟩) hb _).setCell (p := ⟨b, 2, none⟩) hb _
theorem set3_other {w : World} {b : Nat} {x : Int} {y : ByteArray} {z : Value} (k : Nat) (h : k ≠ b) : (set3 b x y z w).heap[k]? = w.heap[k]? := by
  unfold set3
  rw [Below.heap_setCell _ _ _ _ h, Below.heap_setCell _ _ _ _ h, Below.heap_setCell _ _ _ _ h]
theorem set3_size (w : World) (b : Nat) (x : Int) (y : ByteArray) (z : Value) : (set3 b x y z w).heap.size = w.heap.size := by simp [set3, World.setCell]

set_option maxHeartbeats 4000000 in
theorem as36_hit (L : Int) (S : ByteArray) (z : Value) (hz : z.oneCell' = true) (a : Addr) (tb : Nat) (x0 : Int) (y0 : ByteArray) (z0 : Value) (w : World)
    (ha : w.cell? a = some (.pointer (some ⟨tb, 0, none⟩))) (ht : Flt w tb x0 y0 z0) :
    Calls Tryz.prog 72 #[.iface 74 (.agg #[.int .i64 L, .string S, z]), .iface 115 (.pointer (some ⟨tb, 0, none⟩)), .agg #[.pointer (some ⟨5, 115, none⟩), .pointer (some a), .int .u64 150], .iface 163 (.agg #[.pointer (some ⟨5, 74, none⟩)])] w fun e w' => e = .returned (.bool true) ∧ ∃ w1, Below w.heap.size w w1 ∧ w' = set3 tb L S z w1 := by
  have mA := Tryz.methodAssignableTo
  have la := lt_of_cell ha
  have lt := ht.lt
  obtain ⟨w1, hw1⟩ : ∃ w1, w1 = w.alloc (.cells #[.pointer (some ⟨5, 115, none⟩), .pointer (some a), .int .u64 150] 106) := ⟨_, rfl⟩
  have b1 : Below w.heap.size w w1 := by rw [hw1]; exact (Below.refl _ _).alloc (Nat.le_refl _) _
  have s1 : w1.heap.size = w.heap.size + 1 := by rw [hw1]; simp
  obtain ⟨w2, hw2⟩ : ∃ w2, w2 = w1.alloc (.cells #[.int .i64 L, .string S, z] 74) := ⟨_, rfl⟩
  have b2 : Below w1.heap.size w1 w2 := by rw [hw2]; exact (Below.refl _ _).alloc (Nat.le_refl _) _
  have f2 := (ht.stays b1 lt).stays b2 (by omega)
  have k1 := Tryz.c38_44 (.agg #[.int .i64 L, .string S, z])
  have k2 := Tryz.c78_44_44
  have k3 := Tryz.c41_77 a ⟨tb, 0, none⟩ w1 ((b1.cell la).trans ha)
  have k4 := Tryz.c33_44 (.int .i64 L) (.string S) z w1
  have k5 := Tryz.c42_44 tb w1.heap.size L S z (.int .i64 x0) (.string y0) z0 w2 hz (by rw [hw2]; simp) (by rw [hw2]; simp) (by rw [hw2]; simp) f2.c0 f2.c1 f2.c2 f2.f0 f2.f1 f2.f2
  have R : Hd (Below w.heap.size w w2) := ⟨b1.trans (b2.mono b1.size)⟩
  rw [← hw2] at k4
  have HW : Hd (w1 = w.alloc (.cells #[.pointer (some ⟨5, 115, none⟩), .pointer (some a), .int .u64 150] 106)) := ⟨hw1⟩
  have y0 : w1.cell? ⟨w.heap.size, 0, none⟩ = some (.pointer (some ⟨5, 115, none⟩)) := by rw [hw1]; simp
  have y1 : w1.cell? ⟨w.heap.size, 1, none⟩ = some (.pointer (some a)) := by rw [hw1]; simp
  have y2 : w1.cell? ⟨w.heap.size, 2, none⟩ = some (.int .u64 150) := by rw [hw1]; simp
  clear ha ht hz b1 b2 f2 hw1 hw2 la lt s1
  go_enter Tryz.func72, Tryz.ntmps72
  go_wp2
  rw [← HW.out]
  refine wp_loop_rounds 1 ?_
  rw [rounds_succ]
  go_wp2
  go_ret
  exact ⟨rfl, w2, R.out, rfl⟩

set_option maxHeartbeats 4000000 in
theorem as36_miss (B : Base) (hB : B ≠ (.inr ())) (t a : Addr) (w : World) :
    Calls Tryz.prog 72 #[B.val, .iface 115 (.pointer (some t)), .agg #[.pointer (some ⟨5, 115, none⟩), .pointer (some a), .int .u64 150], .iface 163 (.agg #[.pointer (some ⟨5, 74, none⟩)])] w fun e w' => e = .returned (.bool false) ∧ Below w.heap.size w w' := by
  have mA := Tryz.methodAssignableTo
  have b1 : Hd (Below w.heap.size w (w.alloc (.cells #[.pointer (some ⟨5, 115, none⟩), .pointer (some a), .int .u64 150] 106))) := ⟨(Below.refl _ _).alloc (Nat.le_refl _) _⟩
  rcases B with n | ⟨⟩
  ·
    have k1 := Tryz.c38_31 (.int .i64 n)
    have k2 := Tryz.c78_31_44
    have k3 := Tryz.as31_85 (.int .i64 n)
    have k4 := Tryz.as31_88 (.int .i64 n)
    have k5 := Tryz.as31_89 (.int .i64 n)
    simp only [Base.val]
    go_enter Tryz.func72, Tryz.ntmps72
    go_wp2
    refine wp_loop_rounds 1 ?_
    rw [rounds_succ]
    go_wp2
    go_ret
    exact ⟨rfl, b1.out⟩
  · exact absurd rfl hB

set_option maxHeartbeats 4000000 in
theorem as_hit (L : Int) (S : ByteArray) (z : Value) (hz : z.oneCell' = true) (tb : Nat) (x0 : Int) (y0 : ByteArray) (z0 : Value) (w : World) (he : ET w) (ht : Flt w tb x0 y0 z0) :
    Calls Tryz.prog 33 #[.iface 74 (.agg #[.int .i64 L, .string S, z]), .iface 115 (.pointer (some ⟨tb, 0, none⟩))] w fun e w' => e = .returned (.bool true) ∧ ∃ w1, Below w.heap.size w w1 ∧ w' = set3 tb L S z w1 := by
  have mK := Tryz.methodKind
  have mE := Tryz.methodElem
  have mI := Tryz.methodImplements
  have lt := ht.lt
  have k1 := Tryz.c33_77 ⟨tb, 0, none⟩ w
  have k2 := Tryz.c34_77
  have k3 := Tryz.c69_77
  have k4 := Tryz.c69_44
  have k5 := Tryz.c80_77
  have k6 := Tryz.c81_44
  obtain ⟨w2, hw2⟩ : ∃ w2, w2 = (w.alloc (.cells #[.pointer (some ⟨tb, 0, none⟩)] 115)).alloc (.cells #[.pointer (some ⟨5, 115, none⟩), .pointer (some ⟨w.heap.size, 0, none⟩), .int .u64 150] 106) := ⟨_, rfl⟩
  have b2 : Below w.heap.size w w2 := by rw [hw2]; exact ((Below.refl _ _).alloc (Nat.le_refl _) _).alloc (by simp) _
  have k7 := Tryz.c35_77 ⟨w.heap.size, 0, none⟩ ⟨tb, 0, none⟩ w2 (by rw [hw2]; simp)
  have y1 : w2.cell? ⟨w.heap.size, 0, none⟩ = some (.pointer (some ⟨tb, 0, none⟩)) := by rw [hw2]; simp
  have e2 : w2.cell? ⟨0, 0, none⟩ = some (.iface 163 (.agg #[.pointer (some ⟨5, 33, none⟩)])) := he.stays b2
  have C := as36_hit L S z hz ⟨w.heap.size, 0, none⟩ tb x0 y0 z0 w2 y1 (ht.stays b2 lt)
  have BB : Hd (Below w.heap.size w w2) := ⟨b2⟩
  clear he ht y1 b2
  clear hz
  subst hw2
  go_enter Tryz.func33, Tryz.ntmps33
  go_wp2_with (go_at_call 72; refine C.mono ?_; rintro e w' ⟨rfl, w3, hb3, rfl⟩)
  go_ret
  exact ⟨rfl, w3, BB.out.trans (hb3.mono BB.out.size), rfl⟩

set_option maxHeartbeats 4000000 in
theorem as_miss (B : Base) (hB : B ≠ (.inr ())) (tb : Nat) (x0 : Int) (y0 : ByteArray) (z0 : Value) (w : World) (he : ET w) (ht : Flt w tb x0 y0 z0) :
    Calls Tryz.prog 33 #[B.val, .iface 115 (.pointer (some ⟨tb, 0, none⟩))] w fun e w' => e = .returned (.bool false) ∧ Below w.heap.size w w' := by
  have mK := Tryz.methodKind
  have mE := Tryz.methodElem
  have mI := Tryz.methodImplements
  have lt := ht.lt
  have k1 := Tryz.c33_77 ⟨tb, 0, none⟩ w
  have k2 := Tryz.c34_77
  have k3 := Tryz.c69_77
  have k4 := Tryz.c69_44
  have k5 := Tryz.c80_77
  have k6 := Tryz.c81_44
  obtain ⟨w2, hw2⟩ : ∃ w2, w2 = (w.alloc (.cells #[.pointer (some ⟨tb, 0, none⟩)] 115)).alloc (.cells #[.pointer (some ⟨5, 115, none⟩), .pointer (some ⟨w.heap.size, 0, none⟩), .int .u64 150] 106) := ⟨_, rfl⟩
  have b2 : Below w.heap.size w w2 := by rw [hw2]; exact ((Below.refl _ _).alloc (Nat.le_refl _) _).alloc (by simp) _
  have k7 := Tryz.c35_77 ⟨w.heap.size, 0, none⟩ ⟨tb, 0, none⟩ w2 (by rw [hw2]; simp)
  have y1 : w2.cell? ⟨w.heap.size, 0, none⟩ = some (.pointer (some ⟨tb, 0, none⟩)) := by rw [hw2]; simp
  have e2 : w2.cell? ⟨0, 0, none⟩ = some (.iface 163 (.agg #[.pointer (some ⟨5, 33, none⟩)])) := he.stays b2
  have C := as36_miss B hB ⟨tb, 0, none⟩ ⟨w.heap.size, 0, none⟩ w2
  have BB : Hd (Below w.heap.size w w2) := ⟨b2⟩
  clear he ht y1 b2
  clear lt
  obtain ⟨T, u, hT⟩ : ∃ T u, B.val = .iface T u := by
    rcases B with n | ⟨⟩
    · exact ⟨_, _, rfl⟩
    · exact absurd rfl hB
  rw [hT] at C ⊢
  clear hT hB
  subst hw2
  go_enter Tryz.func33, Tryz.ntmps33
  go_wp2_with (go_at_call 72; refine C.mono ?_; rintro e w' ⟨rfl, hb3⟩)
  go_ret
  exact ⟨rfl, BB.out.trans (hb3.mono BB.out.size)⟩

end Go.Proofs.YthkdbphgiobcdaaGreatDoor

namespace Go.Proofs.YthkdbphgiobcdaaGreatDoor
open Go.RowKit Go.Extern.Stop Go.Stop Go.Extern

theorem catch_idle (p : Addr) (w : World) :
    CallsD Tryz.prog 68 #[.pointer (some p)] .returning w fun e u' w' => e = .returned (.tuple #[]) ∧ u' = .returning ∧ w' = w := by
  refine callsD_of_wpS Tryz.func68 rfl fun c₀ cs hu => ?_
  apply wpS_seq
  apply wpS_region
  simp [wpOpsS, go_sem, recoverD, hu, Tryz.ntmps68, Exit.thenS]
  refine wpS_cond (t := false) (by simp [Act.eval, Array.replicate]) ?_
  simp only [Bool.false_eq_true, if_false]
  refine wpS_of_wp (wp_skip ?_)
  cases c₀
  simp_all [bodyPostS, results, Tryz.results68]

theorem answers_ok (g : Nat) (eg : Enters Tryz.prog g) (p q : Value) (b : Bool) (R : World → Prop) (w : World)
    (H : Calls Tryz.prog g #[p, q] (w.alloc (.cells #[.bool false] 4)) fun e w' => e = .returned (.bool b) ∧ R w')
    (hR : ∀ w1, R w1 → w1.cell? ⟨w.heap.size, 0, none⟩ = some (.bool false) ∧ w1.frozen? ⟨w.heap.size, 0, none⟩ = false) :
    Calls Tryz.prog 31 #[.func (.func g) #[] #[p, q]] w fun e w' => e = .returned (.bool b) ∧ ∃ w1, R w1 ∧ w' = w1.setCell ⟨w.heap.size, 0, none⟩ (.bool b) := by
  have hmf : ∀ (fn : Fn) (first cap : Array Value) (w : World), (Instr.makeFunc fn first cap).run Tryz.prog w = .ok (.func fn first cap) w := fun _ _ _ _ => rfl
  have eg' : ∀ args w, (callFunc g args).run Tryz.prog w = .ok (.enter g args) w := eg
  clear eg
  go_enter_defers Tryz.func31, Tryz.ntmps31
  go_wp2_with (go_at_fn g; refine H.mono ?_; rintro e w1 ⟨rfl, hr⟩; obtain ⟨hc, hz⟩ := hR w1 hr)
  refine leaves_cons (f := 68) (args := #[.pointer (some ⟨w.heap.size, 0, none⟩)]) (by simp) (by simp [go_sem]) ?_
  refine (catch_idle ⟨w.heap.size, 0, none⟩ _).mono ?_
  rintro e u' w'' ⟨rfl, rfl, rfl⟩
  simp [Leaves, settle, results, Tryz.results31, go_sem]
  exact ⟨.bool b, by rw [World.cell?_setCell_same _ _ _ hc], rfl, w1, hr, rfl⟩

end Go.Proofs.YthkdbphgiobcdaaGreatDoor
