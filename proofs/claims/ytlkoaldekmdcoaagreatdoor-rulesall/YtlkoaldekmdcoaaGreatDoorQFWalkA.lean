/-
  errors.as and errors.As of the library at a pointer to api's number, for every chain of Faults around a number or nothing. Conditions: the target's variable is there and may be written; of errors.As: errorType holds what its text lays.
-/
import Derived.Test.YtlkoaldekmdcoaaGreatDoorQFExt
namespace Go.Proofs.YtlkoaldekmdcoaaGreatDoor
open Go.RowKit Go.Extern.Stop Go.Stop Go.Extern

theorem lt_of_cell {w : World} {a : Addr} {v : Value} (h : w.cell? a = some v) : a.block < w.heap.size := by
  rcases Nat.lt_or_ge a.block w.heap.size with h1 | h1
  · exact h1
  · simp [World.cell?, Array.getElem?_eq_none h1] at h

/-- What a chain's tail is: nothing, or something. -/
theorem val_is (B : Base) (ls : List Lk) : (ls = [] ∧ B = (.inr ())) ∨ ∃ T u, val B ls = .iface T u := by
  cases ls with
  | nil =>
    rcases B with n | ⟨⟩
    · exact .inr ⟨_, _, rfl⟩
    · exact .inl ⟨rfl, rfl⟩
  | cons l ls => exact .inr ⟨_, _, rfl⟩

set_option maxHeartbeats 4000000 in
theorem as36_num (B : Base) (ls : List Lk) (t a : Addr) (old : Value) (w : World) (ha : w.cell? a = some (.pointer (some t))) (ht : w.cell? t = some old) (hf : w.frozen? t = false)
    (T : TypeId) (u : Value) (hv : val B ls = .iface T u) :
    Calls Tryz.prog 59 #[val B ls, .iface 69 (.pointer (some t)), .agg #[.pointer (some ⟨2, 69, none⟩), .pointer (some a), .int .u64 150], .iface 117 (.agg #[.pointer (some ⟨2, 35, none⟩)])] w fun e w' => e = .returned (.bool B.isNum) ∧ ∃ w1, Below w.heap.size w w1 ∧ w' = B.put t w1 := by
  have mA := Tryz.methodAssignableTo
  have mU := Tryz.methodUnwrap
  have la := lt_of_cell ha
  have lt := lt_of_cell ht
  obtain ⟨w1, hw1⟩ : ∃ w1, w1 = w.alloc (.cells #[.pointer (some ⟨2, 69, none⟩), .pointer (some a), .int .u64 150] 92) := ⟨_, rfl⟩
  have b1 : Below w.heap.size w w1 := by rw [hw1]; exact (Below.refl _ _).alloc (Nat.le_refl _) _
  have s1 : w1.heap.size = w.heap.size + 1 := by rw [hw1]; simp
  have x0 : w1.cell? ⟨w.heap.size, 0, none⟩ = some (.pointer (some ⟨2, 69, none⟩)) := by rw [hw1]; simp
  have x1 : w1.cell? ⟨w.heap.size, 1, none⟩ = some (.pointer (some a)) := by rw [hw1]; simp
  have x2 : w1.cell? ⟨w.heap.size, 2, none⟩ = some (.int .u64 150) := by rw [hw1]; simp
  have HV : Hd (val B ls = .iface T u) := ⟨hv⟩
  clear hv
  generalize hq : val B ls = q
  have HQ : Hd (val B ls = q) := ⟨hq⟩
  clear hq
  go_enter Tryz.func59, Tryz.ntmps59
  go_wp2
  rw [← hw1]
  have HW : Hd (w1 = w.alloc (.cells #[.pointer (some ⟨2, 69, none⟩), .pointer (some a), .int .u64 150] 92)) := ⟨hw1⟩
  clear hw1
  go_loopg [0] ls.length (fun g q' wr => ∃ ls' : List Lk, ls'.length ≤ g ∧ q' = val B ls' ∧ (∃ T u, val B ls' = .iface T u) ∧ Below w1.heap.size w1 wr)
  case atStart => exact ⟨ls, Nat.le_refl _, HQ.out.symm, ⟨T, u, HV.out⟩, Below.refl _ _⟩
  case round =>
    obtain ⟨ls', hl, rfl, hT, hb⟩ := hrel
    have c0 : wr.cell? ⟨w.heap.size, 0, none⟩ = some (.pointer (some ⟨2, 69, none⟩)) := (hb.cell (p := ⟨w.heap.size, 0, none⟩) (by rw [s1]; exact Nat.lt_succ_self _)).trans x0
    have c1 : wr.cell? ⟨w.heap.size, 1, none⟩ = some (.pointer (some a)) := (hb.cell (p := ⟨w.heap.size, 1, none⟩) (by rw [s1]; exact Nat.lt_succ_self _)).trans x1
    have c2 : wr.cell? ⟨w.heap.size, 2, none⟩ = some (.int .u64 150) := (hb.cell (p := ⟨w.heap.size, 2, none⟩) (by rw [s1]; exact Nat.lt_succ_self _)).trans x2
    have BB : Hd (Below w.heap.size w wr) := ⟨b1.trans (hb.mono b1.size)⟩
    have HB : Hd (Below w1.heap.size w1 wr) := ⟨hb⟩
    have sz : w.heap.size < wr.heap.size := by have := hb.size; omega
    clear hb x0 x1 x2 b1 HW HQ HV
    cases ls' with
    | nil =>
      rcases B with n | ⟨⟩
      ·
        show Code.wp _ _ _ _ _
        obtain ⟨w2, hw2⟩ : ∃ w2, w2 = wr.alloc (.cells #[.int .i64 n] 35) := ⟨_, rfl⟩
        have b2 : Below wr.heap.size wr w2 := by rw [hw2]; exact (Below.refl _ _).alloc (Nat.le_refl _) _
        have y0 : wr.cell? a = some (.pointer (some t)) := (BB.out.cell la).trans ha
        have y1 : w2.cell? ⟨wr.heap.size, 0, none⟩ = some (.int .i64 n) := by rw [hw2]; simp
        have y2 : w2.cell? t = some old := (b2.cell (by omega)).trans ((BB.out.cell lt).trans ht)
        have y3 : w2.frozen? t = false := (b2.frozen (by omega)).trans ((BB.out.frozen lt).trans hf)
        have k1 := Tryz.c38_31 (.int .i64 n)
        have k2 := Tryz.c78_31_31
        have k3 := Tryz.c41_57 a t wr y0
        have k4 := Tryz.c33_31 n wr
        rw [← hw2] at k4
        have k5 := Tryz.c42_31 t ⟨wr.heap.size, 0, none⟩ n old w2 y1 y2 y3
        have R : Hd (Below w.heap.size w w2) := ⟨BB.out.trans (b2.mono BB.out.size)⟩
        clear ha ht hf y0 y1 y2 y3 b2 hw2
        simp only [val, Base.val]
        go_wp2
        go_ret
        exact ⟨rfl, w2, R.out, rfl⟩
      · obtain ⟨T, u, h⟩ := hT; cases h
    | cons l ls' =>
      obtain ⟨L, S⟩ := l
      obtain ⟨z, hz⟩ : ∃ z, z = val B ls' := ⟨_, rfl⟩
      have HZ : Hd (z = val B ls') := ⟨hz⟩
      have k1 := Tryz.c38_44 (.agg #[.int .i64 L, .string S, z])
      have k2 := Tryz.c78_44_31
      have k3 := Tryz.as44_85 (.agg #[.int .i64 L, .string S, z])
      have k4 := Tryz.as44_88 (.agg #[.int .i64 L, .string S, z])
      have R : Hd (Below w1.heap.size w1 (wr.alloc (.cells #[.int .i64 L, .string S, z] 71))) := ⟨HB.out.alloc (by omega) _⟩
      have R' : Hd (Below w.heap.size w (wr.alloc (.cells #[.int .i64 L, .string S, z] 71))) := ⟨BB.out.alloc BB.out.size _⟩
      clear ha ht hf hT
      simp only [val]
      rw [← hz]
      clear hz
      rcases val_is B ls' with ⟨rfl, rfl⟩ | ⟨T', u', h'⟩
      · obtain rfl : z = .nilIface := HZ.out
        go_wp2_with (go_at_call 146; refine (unwrap_ok L S _ _).mono ?_; rintro e w' ⟨rfl, rfl⟩)
        go_ret
        exact ⟨rfl, _, R'.out, rfl⟩
      · obtain rfl : z = .iface T' u' := HZ.out.trans h'
        have HH : Hd (val B ls' = .iface T' u') := ⟨h'⟩
        clear h' HZ
        go_wp2_with (go_at_call 146; refine (unwrap_ok L S _ _).mono ?_; rintro e w' ⟨rfl, rfl⟩)
        obtain ⟨g, rfl⟩ : ∃ g, gk = g + 1 := ⟨gk - 1, by simp at hl; omega⟩
        go_roundg g
        case rel => exact ⟨ls', by simp at hl; omega, HH.out.symm, ⟨T', u', HH.out⟩, R.out⟩
        case measure => exact Nat.lt_succ_self _

theorem as_nil (t : Value) (w : World) :
    Calls Tryz.prog 33 #[.nilIface, t] w fun e w' => e = .returned (.bool false) ∧ w' = w := by
  go_enter Tryz.func33, Tryz.ntmps33
  go_wp2
  go_ret
  exact ⟨rfl, rfl⟩

set_option maxHeartbeats 4000000 in
theorem as_num (B : Base) (ls : List Lk) (t : Addr) (old : Value) (w : World) (he : ET w) (ht : w.cell? t = some old) (hf : w.frozen? t = false)
    (T : TypeId) (u : Value) (hv : val B ls = .iface T u) :
    Calls Tryz.prog 33 #[val B ls, .iface 69 (.pointer (some t))] w fun e w' => e = .returned (.bool B.isNum) ∧ ∃ w1, Below w.heap.size w w1 ∧ w' = B.put t w1 := by
  have mK := Tryz.methodKind
  have mE := Tryz.methodElem
  have mI := Tryz.methodImplements
  have lt := lt_of_cell ht
  have k1 := Tryz.c33_57 t w
  have k2 := Tryz.c34_57
  have k3 := Tryz.c69_57
  have k4 := Tryz.c69_31
  have k5 := Tryz.c80_57
  have k6 := Tryz.c81_31
  obtain ⟨w2, hw2⟩ : ∃ w2, w2 = (w.alloc (.cells #[.pointer (some t)] 69)).alloc (.cells #[.pointer (some ⟨2, 69, none⟩), .pointer (some ⟨w.heap.size, 0, none⟩), .int .u64 150] 92) := ⟨_, rfl⟩
  have b2 : Below w.heap.size w w2 := by rw [hw2]; exact ((Below.refl _ _).alloc (Nat.le_refl _) _).alloc (by simp) _
  have k7 := Tryz.c35_57 ⟨w.heap.size, 0, none⟩ t w2 (by rw [hw2]; simp)
  have y0 : w2.cell? ⟨w.heap.size, 0, none⟩ = some (.pointer (some t)) := by rw [hw2]; simp
  have x0 : w2.cell? ⟨w.heap.size + 1, 0, none⟩ = some (.pointer (some ⟨2, 69, none⟩)) := by rw [hw2]; simp
  have x1 : w2.cell? ⟨w.heap.size + 1, 1, none⟩ = some (.pointer (some ⟨w.heap.size, 0, none⟩)) := by rw [hw2]; simp
  have x2 : w2.cell? ⟨w.heap.size + 1, 2, none⟩ = some (.int .u64 150) := by rw [hw2]; simp
  have e2 : w2.cell? ⟨0, 0, none⟩ = some (.iface 117 (.agg #[.pointer (some ⟨2, 31, none⟩)])) := he.stays b2
  have C := as36_num B ls t ⟨w.heap.size, 0, none⟩ old w2 y0 ((b2.cell lt).trans ht) ((b2.frozen lt).trans hf) T u hv
  have BB : Hd (Below w.heap.size w w2) := ⟨b2⟩
  clear he ht hf y0 b2
  rw [hv] at C ⊢
  clear hv
  clear x0 x1 x2
  subst hw2
  go_enter Tryz.func33, Tryz.ntmps33
  go_wp2_with (go_at_call 59; refine C.mono ?_; rintro e w' ⟨rfl, w3, hb3, rfl⟩)
  go_ret
  exact ⟨rfl, w3, BB.out.trans (hb3.mono BB.out.size), rfl⟩
end Go.Proofs.YtlkoaldekmdcoaaGreatDoor
