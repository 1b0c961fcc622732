/-
  errors.As of the library at a pointer to api's number and at a pointer to a Fault, for every chain of Faults around a number or nothing. Conditions: package errors' errorType holds what its text lays; the target may be written.
-/
import Derived.Test.YtlkoaldekmdcoaaGreatDoorQFRefl
import Derived.Below
import Derived.Test.YtlkoaldekmdcoaaGreatDoorQWA
namespace Go.Proofs.YtlkoaldekmdcoaaGreatDoor
open Go.RowKit Go.Extern.Stop Go.Stop Go.Extern

/-- The variable errorType: the handle of the type error. -/
def ET (w : World) : Prop := w.cell? ⟨0, 0, none⟩ = some (.iface 117 (.agg #[.pointer (some ⟨2, 31, none⟩)]))
theorem ET.lt {w : World} (h : ET w) : 0 < w.heap.size := by
  rcases Nat.eq_zero_or_pos w.heap.size with h0 | h1
  · simp [ET, World.cell?, h0] at h
  · exact h1
theorem ET.stays {w w' : World} (h : ET w) (b : Below w.heap.size w w') : ET w' := (b.cell (p := ⟨0, 0, none⟩) h.lt).trans h

/-- (Value).IsNil at the Value of a pointer that is not nil. -/
theorem Tryz.isNil57 (a p : Addr) (W : World) (ha : W.cell? a = some (.pointer (some p))) :
    (ReflectliteValue.method (ReflectliteValue.valueError "reflectlite.Value.IsNil" 0) ReflectliteValue.isNil #[.agg #[.pointer (some ⟨2, 69, none⟩), .pointer (some a), .int .u64 150]]).run Tryz.prog W = .ok (.bool false) W := by
  show Sem.run Tryz.prog (ReflectliteValue.parts (.agg #[.pointer (some ⟨2, 69, none⟩), .pointer (some a), .int .u64 150]) >>= _) W = _
  simp only [Sem.run_bind, Tryz.parts57, Result.andThen]
  simp [ReflectliteValue.isNil, loadVar, isAgg, underlying, Tryz.underlying69, ha, Result.andThen]
/-- (Value).Elem there: the Value of what it points to, addressable. -/
theorem Tryz.elemV57 (a p : Addr) (W : World) (ha : W.cell? a = some (.pointer (some p))) :
    (ReflectliteValue.method (ReflectliteValue.valueError "reflectlite.Value.Elem" 0) ReflectliteValue.elem #[.agg #[.pointer (some ⟨2, 69, none⟩), .pointer (some a), .int .u64 150]]).run Tryz.prog W
      = .ok (.agg #[.pointer (some ⟨2, 35, none⟩), .pointer (some p), .int .u64 386]) W := by
  show Sem.run Tryz.prog (ReflectliteValue.parts (.agg #[.pointer (some ⟨2, 69, none⟩), .pointer (some a), .int .u64 150]) >>= _) W = _
  simp only [Sem.run_bind, Tryz.parts57, Result.andThen]
  simp [ReflectliteValue.elem, loadVar, isAgg, underlying, Tryz.underlying69, ha, Result.andThen, Tryz.elemOf57, Tryz.mk31]
theorem Tryz.parts31a (a : Addr) (w : World) : (ReflectliteValue.parts (.agg #[.pointer (some ⟨2, 35, none⟩), .pointer (some a), .int .u64 386])).run Tryz.prog w = .ok (some (35, a, 386)) w := by kernel_rfl
theorem Tryz.parts31 (a : Addr) (w : World) : (ReflectliteValue.parts (.agg #[.pointer (some ⟨2, 35, none⟩), .pointer (some a), .int .u64 130])).run Tryz.prog w = .ok (some (35, a, 130)) w := by kernel_rfl
theorem Tryz.direct31 (w : World) : (Rtype.directlyAssignable 35 35).run Tryz.prog w = .ok true w := by kernel_rfl

/-- (Value).IsNil at the Value of a pointer that is not nil. -/
theorem Tryz.isNil77 (a p : Addr) (W : World) (ha : W.cell? a = some (.pointer (some p))) :
    (ReflectliteValue.method (ReflectliteValue.valueError "reflectlite.Value.IsNil" 0) ReflectliteValue.isNil #[.agg #[.pointer (some ⟨2, 101, none⟩), .pointer (some a), .int .u64 150]]).run Tryz.prog W = .ok (.bool false) W := by
  show Sem.run Tryz.prog (ReflectliteValue.parts (.agg #[.pointer (some ⟨2, 101, none⟩), .pointer (some a), .int .u64 150]) >>= _) W = _
  simp only [Sem.run_bind, Tryz.parts77, Result.andThen]
  simp [ReflectliteValue.isNil, loadVar, isAgg, underlying, Tryz.underlying101, ha, Result.andThen]
/-- (Value).Elem there: the Value of what it points to, addressable. -/
theorem Tryz.elemV77 (a p : Addr) (W : World) (ha : W.cell? a = some (.pointer (some p))) :
    (ReflectliteValue.method (ReflectliteValue.valueError "reflectlite.Value.Elem" 0) ReflectliteValue.elem #[.agg #[.pointer (some ⟨2, 101, none⟩), .pointer (some a), .int .u64 150]]).run Tryz.prog W
      = .ok (.agg #[.pointer (some ⟨2, 71, none⟩), .pointer (some p), .int .u64 409]) W := by
  show Sem.run Tryz.prog (ReflectliteValue.parts (.agg #[.pointer (some ⟨2, 101, none⟩), .pointer (some a), .int .u64 150]) >>= _) W = _
  simp only [Sem.run_bind, Tryz.parts77, Result.andThen]
  simp [ReflectliteValue.elem, loadVar, isAgg, underlying, Tryz.underlying101, ha, Result.andThen, Tryz.elemOf77, Tryz.mk44]
theorem Tryz.parts44a (a : Addr) (w : World) : (ReflectliteValue.parts (.agg #[.pointer (some ⟨2, 71, none⟩), .pointer (some a), .int .u64 409])).run Tryz.prog w = .ok (some (71, a, 409)) w := by kernel_rfl
theorem Tryz.parts44 (a : Addr) (w : World) : (ReflectliteValue.parts (.agg #[.pointer (some ⟨2, 71, none⟩), .pointer (some a), .int .u64 153])).run Tryz.prog w = .ok (some (71, a, 153)) w := by kernel_rfl
theorem Tryz.direct44 (w : World) : (Rtype.directlyAssignable 71 71).run Tryz.prog w = .ok true w := by kernel_rfl

/-- (Value).Set: the number at 'ta' gets what the Value's own variable 'b' holds. -/
theorem Tryz.set31 (ta b : Addr) (n : Int) (old : Value) (W : World) (hb : W.cell? b = some (.int .i64 n)) (ht : W.cell? ta = some old) (hf : W.frozen? ta = false) :
    (ReflectliteValue.set #[.agg #[.pointer (some ⟨2, 35, none⟩), .pointer (some ta), .int .u64 386], .agg #[.pointer (some ⟨2, 35, none⟩), .pointer (some b), .int .u64 130]]).run Tryz.prog W
      = .ok (.tuple #[]) (W.setCell ta (.int .i64 n)) := by
  show Sem.run Tryz.prog (ReflectliteValue.parts (.agg #[.pointer (some ⟨2, 35, none⟩), .pointer (some ta), .int .u64 386]) >>= _) W = _
  have p2 : ∀ (h1 : (#[(.agg #[.pointer (some ⟨2, 35, none⟩), .pointer (some ta), .int .u64 386]), (.agg #[.pointer (some ⟨2, 35, none⟩), .pointer (some b), .int .u64 130])] : Array Value).size = 2) (h2 : 1 < 2), (ReflectliteValue.parts ((#[(.agg #[.pointer (some ⟨2, 35, none⟩), .pointer (some ta), .int .u64 386]), (.agg #[.pointer (some ⟨2, 35, none⟩), .pointer (some b), .int .u64 130])] : Array Value).getLit 1 h1 h2)).run Tryz.prog W = .ok (some (35, b, 130)) W := fun _ _ => Tryz.parts31 b W
  simp only [Sem.run_bind, Tryz.parts31a, p2, Result.andThen]
  simp [ReflectliteValue.flagAddr, loadVar, isAgg, underlying, Tryz.underlying35, hb, Result.andThen, Tryz.direct31, storeVar, Value.cells, storeCells, Addr.add]
  rw [run_store Tryz.prog W ta _ _ (by rfl)]
  simp [ht, hf]
theorem store_ok (a : Addr) (v old : Value) (W : World) (hv : v.oneCell' = true) (h : W.cell? a = some old) (f : W.frozen? a = false) :
    (store a v).run Tryz.prog W = .ok () (W.setCell a v) := by
  rw [run_store _ _ _ _ _ hv]; simp [h, f]
/-- The same at a Fault's three cells. -/
theorem Tryz.set44 (tb b : Nat) (x : Int) (y : ByteArray) (z x0 y0 z0 : Value) (W : World) (hz : z.oneCell' = true)
    (b0 : W.cell? ⟨b, 0, none⟩ = some (.int .i64 x)) (b1 : W.cell? ⟨b, 1, none⟩ = some (.string y)) (b2 : W.cell? ⟨b, 2, none⟩ = some z)
    (t0 : W.cell? ⟨tb, 0, none⟩ = some x0) (t1 : W.cell? ⟨tb, 1, none⟩ = some y0) (t2 : W.cell? ⟨tb, 2, none⟩ = some z0)
    (f0 : W.frozen? ⟨tb, 0, none⟩ = false) (f1 : W.frozen? ⟨tb, 1, none⟩ = false) (f2 : W.frozen? ⟨tb, 2, none⟩ = false) :
    (ReflectliteValue.set #[.agg #[.pointer (some ⟨2, 71, none⟩), .pointer (some ⟨tb, 0, none⟩), .int .u64 409], .agg #[.pointer (some ⟨2, 71, none⟩), .pointer (some ⟨b, 0, none⟩), .int .u64 153]]).run Tryz.prog W
      = .ok (.tuple #[]) (((W.setCell ⟨tb, 0, none⟩ (.int .i64 x)).setCell ⟨tb, 1, none⟩ (.string y)).setCell ⟨tb, 2, none⟩ z) := by
  show Sem.run Tryz.prog (ReflectliteValue.parts (.agg #[.pointer (some ⟨2, 71, none⟩), .pointer (some ⟨tb, 0, none⟩), .int .u64 409]) >>= _) W = _
  have p2 : ∀ (h1 : (#[(.agg #[.pointer (some ⟨2, 71, none⟩), .pointer (some ⟨tb, 0, none⟩), .int .u64 409]), (.agg #[.pointer (some ⟨2, 71, none⟩), .pointer (some ⟨b, 0, none⟩), .int .u64 153])] : Array Value).size = 2) (h2 : 1 < 2), (ReflectliteValue.parts ((#[(.agg #[.pointer (some ⟨2, 71, none⟩), .pointer (some ⟨tb, 0, none⟩), .int .u64 409]), (.agg #[.pointer (some ⟨2, 71, none⟩), .pointer (some ⟨b, 0, none⟩), .int .u64 153])] : Array Value).getLit 1 h1 h2)).run Tryz.prog W = .ok (some (71, ⟨b, 0, none⟩, 153)) W := fun _ _ => Tryz.parts44 ⟨b, 0, none⟩ W
  simp only [Sem.run_bind, Tryz.parts44a, p2, Result.andThen]
  have L : (loadVar 71 ⟨b, 0, none⟩).run Tryz.prog W = .ok (.agg #[.int .i64 x, .string y, z]) W := by
    simp [loadVar, isAgg, underlying, Tryz.underlying71, Result.andThen, go_sem, b0, b1, b2]
  have S : (storeVar 71 ⟨tb, 0, none⟩ (.agg #[.int .i64 x, .string y, z])).run Tryz.prog W = .ok () (((W.setCell ⟨tb, 0, none⟩ (.int .i64 x)).setCell ⟨tb, 1, none⟩ (.string y)).setCell ⟨tb, 2, none⟩ z) := by
    have s0 := store_ok ⟨tb, 0, none⟩ (.int .i64 x) x0 W rfl t0 f0
    have s1 := store_ok ⟨tb, 1, none⟩ (.string y) y0 (W.setCell ⟨tb, 0, none⟩ (.int .i64 x)) rfl
      ((World.cell?_setCell_other _ _ _ _ (by simp)).trans t1) ((World.frozen?_setCell _ _ _ _).trans f1)
    have s2 := store_ok ⟨tb, 2, none⟩ z z0 ((W.setCell ⟨tb, 0, none⟩ (.int .i64 x)).setCell ⟨tb, 1, none⟩ (.string y)) hz
      ((World.cell?_setCell_other _ _ _ _ (by simp)).trans ((World.cell?_setCell_other _ _ _ _ (by simp)).trans t2)) ((World.frozen?_setCell _ _ _ _).trans ((World.frozen?_setCell _ _ _ _).trans f2))
    simp [storeVar, Value.cells, storeCells, Result.andThen, go_sem, s0, s1, s2]
  simp [ReflectliteValue.flagAddr, L, S, Result.andThen, Tryz.direct44]

end Go.Proofs.YtlkoaldekmdcoaaGreatDoor
