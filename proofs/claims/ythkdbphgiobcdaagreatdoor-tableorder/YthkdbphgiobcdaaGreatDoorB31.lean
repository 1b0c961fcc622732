/-
  errors.As of the library at a pointer to api's number and at a pointer to a Fault, for every chain of Faults around a number or nothing. Conditions: package errors' errorType holds what its text lays; the target may be written.
  errors.as of the library at a pointer to api's number, for every chain of Faults around a number or nothing. Conditions: the target's variable is there and may be written.
-/
import Derived.Test.YthkdbphgiobcdaaGreatDoorB30
import Derived.Below
import Derived.Test.YthkdbphgiobcdaaGreatDoorB1
import Derived.Deep.LoopGhost
namespace Go.Proofs.YthkdbphgiobcdaaGreatDoor
open Go.RowKit Go.Extern.Stop Go.Stop Go.Extern


/-- The variable errorType: the handle of the type error. -/
def ET (w : World) : Prop := w.cell? ⟨0, 0, none⟩ = some (.iface 163 (.agg #[.pointer (some ⟨5, 33, none⟩)]))
theorem ET.lt {w : World} (h : ET w) : 0 < w.heap.size := by
  rcases Nat.eq_zero_or_pos w.heap.size with h0 | h1
  · simp [ET, World.cell?, h0] at h
  · exact h1
theorem ET.stays {w w' : World} (h : ET w) (b : Below w.heap.size w w') : ET w' := (b.cell (p := ⟨0, 0, none⟩) h.lt).trans h

/-- (Value).IsNil at the Value of a pointer that is not nil. -/
theorem Tryz.isNil57 (a p : Addr) (W : World) (ha : W.cell? a = some (.pointer (some p))) :
    (ReflectliteValue.method (ReflectliteValue.valueError "reflectlite.Value.IsNil" 0) ReflectliteValue.isNil #[.agg #[.pointer (some ⟨5, 72, none⟩), .pointer (some a), .int .u64 150]]).run Tryz.prog W = .ok (.bool false) W := by
  show Sem.run Tryz.prog (ReflectliteValue.parts (.agg #[.pointer (some ⟨5, 72, none⟩), .pointer (some a), .int .u64 150]) >>= _) W = _
  simp only [Sem.run_bind, Tryz.parts57, Result.andThen]
  simp [ReflectliteValue.isNil, loadVar, isAgg, underlying, Tryz.underlying72, ha, Result.andThen]
/-- (Value).Elem there: the Value of what it points to, addressable. -/
theorem Tryz.elemV57 (a p : Addr) (W : World) (ha : W.cell? a = some (.pointer (some p))) :
    (ReflectliteValue.method (ReflectliteValue.valueError "reflectlite.Value.Elem" 0) ReflectliteValue.elem #[.agg #[.pointer (some ⟨5, 72, none⟩), .pointer (some a), .int .u64 150]]).run Tryz.prog W
      = .ok (.agg #[.pointer (some ⟨5, 38, none⟩), .pointer (some p), .int .u64 386]) W := by
  show Sem.run Tryz.prog (ReflectliteValue.parts (.agg #[.pointer (some ⟨5, 72, none⟩), .pointer (some a), .int .u64 150]) >>= _) W = _
  simp only [Sem.run_bind, Tryz.parts57, Result.andThen]
  simp [ReflectliteValue.elem, loadVar, isAgg, underlying, Tryz.underlying72, ha, Result.andThen, Tryz.elemOf57, Tryz.mk31]
theorem Tryz.parts31a (a : Addr) (w : World) : (ReflectliteValue.parts (.agg #[.pointer (some ⟨5, 38, none⟩), .pointer (some a), .int .u64 386])).run Tryz.prog w = .ok (some (38, a, 386)) w := by kernel_rfl
theorem Tryz.parts31 (a : Addr) (w : World) : (ReflectliteValue.parts (.agg #[.pointer (some ⟨5, 38, none⟩), .pointer (some a), .int .u64 130])).run Tryz.prog w = .ok (some (38, a, 130)) w := by kernel_rfl
theorem Tryz.direct31 (w : World) : (Rtype.directlyAssignable 38 38).run Tryz.prog w = .ok true w := by kernel_rfl
theorem Tryz.sizeAt31 (w : World) : (sizeOf 38).run Tryz.prog w = .ok 1 w := by kernel_rfl

/-- (Value).IsNil at the Value of a pointer that is not nil. -/
theorem Tryz.isNil77 (a p : Addr) (W : World) (ha : W.cell? a = some (.pointer (some p))) :
    (ReflectliteValue.method (ReflectliteValue.valueError "reflectlite.Value.IsNil" 0) ReflectliteValue.isNil #[.agg #[.pointer (some ⟨5, 115, none⟩), .pointer (some a), .int .u64 150]]).run Tryz.prog W = .ok (.bool false) W := by
  show Sem.run Tryz.prog (ReflectliteValue.parts (.agg #[.pointer (some ⟨5, 115, none⟩), .pointer (some a), .int .u64 150]) >>= _) W = _
  simp only [Sem.run_bind, Tryz.parts77, Result.andThen]
  simp [ReflectliteValue.isNil, loadVar, isAgg, underlying, Tryz.underlying115, ha, Result.andThen]
/-- (Value).Elem there: the Value of what it points to, addressable. -/
theorem Tryz.elemV77 (a p : Addr) (W : World) (ha : W.cell? a = some (.pointer (some p))) :
    (ReflectliteValue.method (ReflectliteValue.valueError "reflectlite.Value.Elem" 0) ReflectliteValue.elem #[.agg #[.pointer (some ⟨5, 115, none⟩), .pointer (some a), .int .u64 150]]).run Tryz.prog W
      = .ok (.agg #[.pointer (some ⟨5, 74, none⟩), .pointer (some p), .int .u64 409]) W := by
  show Sem.run Tryz.prog (ReflectliteValue.parts (.agg #[.pointer (some ⟨5, 115, none⟩), .pointer (some a), .int .u64 150]) >>= _) W = _
  simp only [Sem.run_bind, Tryz.parts77, Result.andThen]
  simp [ReflectliteValue.elem, loadVar, isAgg, underlying, Tryz.underlying115, ha, Result.andThen, Tryz.elemOf77, Tryz.mk44]
theorem Tryz.parts44a (a : Addr) (w : World) : (ReflectliteValue.parts (.agg #[.pointer (some ⟨5, 74, none⟩), .pointer (some a), .int .u64 409])).run Tryz.prog w = .ok (some (74, a, 409)) w := by kernel_rfl
theorem Tryz.parts44 (a : Addr) (w : World) : (ReflectliteValue.parts (.agg #[.pointer (some ⟨5, 74, none⟩), .pointer (some a), .int .u64 153])).run Tryz.prog w = .ok (some (74, a, 153)) w := by kernel_rfl
theorem Tryz.direct44 (w : World) : (Rtype.directlyAssignable 74 74).run Tryz.prog w = .ok true w := by kernel_rfl
theorem Tryz.sizeAt44 (w : World) : (sizeOf 74).run Tryz.prog w = .ok 3 w := by kernel_rfl

/-- (Value).Set: the number at 'ta' gets what the Value's own variable 'b' holds. -/
theorem Tryz.set31 (ta b : Addr) (n : Int) (old : Value) (W : World) (hb : W.cell? b = some (.int .i64 n)) (ht : W.cell? ta = some old) (hf : W.frozen? ta = false) :
    (ReflectliteValue.set #[.agg #[.pointer (some ⟨5, 38, none⟩), .pointer (some ta), .int .u64 386], .agg #[.pointer (some ⟨5, 38, none⟩), .pointer (some b), .int .u64 130]]).run Tryz.prog W
      = .ok (.tuple #[]) (W.setCell ta (.int .i64 n)) := by
  show Sem.run Tryz.prog (ReflectliteValue.parts (.agg #[.pointer (some ⟨5, 38, none⟩), .pointer (some ta), .int .u64 386]) >>= _) W = _
  have p2 : ∀ (h1 : (#[(.agg #[.pointer (some ⟨5, 38, none⟩), .pointer (some ta), .int .u64 386]), (.agg #[.pointer (some ⟨5, 38, none⟩), .pointer (some b), .int .u64 130])] : Array Value).size = 2) (h2 : 1 < 2), (ReflectliteValue.parts ((#[(.agg #[.pointer (some ⟨5, 38, none⟩), .pointer (some ta), .int .u64 386]), (.agg #[.pointer (some ⟨5, 38, none⟩), .pointer (some b), .int .u64 130])] : Array Value).getLit 1 h1 h2)).run Tryz.prog W = .ok (some (38, b, 130)) W := fun _ _ => Tryz.parts31 b W
  simp only [Sem.run_bind, Tryz.parts31a, p2, Result.andThen]
  simp [ReflectliteValue.flagAddr, loadVar, isAgg, underlying, Tryz.underlying38, hb, Result.andThen, Tryz.direct31, storeVar, Value.cells, storeCells, Addr.add]
  rw [run_store Tryz.prog W ta _ _ (by rfl)]
  simp [ht, hf]
theorem store_ok (a : Addr) (v old : Value) (W : World) (hv : v.oneCell' = true) (h : W.cell? a = some old) (f : W.frozen? a = false) :
    (store a v).run Tryz.prog W = .ok () (W.setCell a v) := by
  rw [run_store _ _ _ _ _ hv]; simp [h, f]
/-- The same at a Fault's three cells. -/
theorem Tryz.set44 (tb b : Nat) (x : Int) (y : ByteArray) (z x0 y0 z0 : Value) (W : World) (hz : z.oneCell' = true)
    (b0 : W.cell? ⟨b, 0, none⟩ = some (.int .i64 x)) (b1 : W.cell? ⟨b, 1, none⟩ = some (.string y)) (b2 : W.cell? ⟨b, 2, none⟩ = some z)
    (t0 : W.cell? ⟨tb, 0, none⟩ = some x0) (t1 : W.cell? ⟨tb, 1, none⟩ = some y0) (t2 : W.cell? ⟨tb, 2, none⟩ = some z0)
    (f0 : W.frozen? ⟨tb, 0, none⟩ = false) (f1 : W.frozen? ⟨tb, 1, none⟩ = false) (f2 : W.frozen? ⟨tb, 2, none⟩ = false) :
    (ReflectliteValue.set #[.agg #[.pointer (some ⟨5, 74, none⟩), .pointer (some ⟨tb, 0, none⟩), .int .u64 409], .agg #[.pointer (some ⟨5, 74, none⟩), .pointer (some ⟨b, 0, none⟩), .int .u64 153]]).run Tryz.prog W
      = .ok (.tuple #[]) (((W.setCell ⟨tb, 0, none⟩ (.int .i64 x)).setCell ⟨tb, 1, none⟩ (.string y)).setCell ⟨tb, 2, none⟩ z) := by
  show Sem.run Tryz.prog (ReflectliteValue.parts (.agg #[.pointer (some ⟨5, 74, none⟩), .pointer (some ⟨tb, 0, none⟩), .int .u64 409]) >>= _) W = _
  have p2 : ∀ (h1 : (#[(.agg #[.pointer (some ⟨5, 74, none⟩), .pointer (some ⟨tb, 0, none⟩), .int .u64 409]), (.agg #[.pointer (some ⟨5, 74, none⟩), .pointer (some ⟨b, 0, none⟩), .int .u64 153])] : Array Value).size = 2) (h2 : 1 < 2), (ReflectliteValue.parts ((#[(.agg #[.pointer (some ⟨5, 74, none⟩), .pointer (some ⟨tb, 0, none⟩), .int .u64 409]), (.agg #[.pointer (some ⟨5, 74, none⟩), .pointer (some ⟨b, 0, none⟩), .int .u64 153])] : Array Value).getLit 1 h1 h2)).run Tryz.prog W = .ok (some (74, ⟨b, 0, none⟩, 153)) W := fun _ _ => Tryz.parts44 ⟨b, 0, none⟩ W
  simp only [Sem.run_bind, Tryz.parts44a, p2, Result.andThen]
  have L : (loadVar 74 ⟨b, 0, none⟩).run Tryz.prog W = .ok (.agg #[.int .i64 x, .string y, z]) W := by
    simp [loadVar, isAgg, underlying, Tryz.underlying74, Result.andThen, go_sem, b0, b1, b2]
  have S : (storeVar 74 ⟨tb, 0, none⟩ (.agg #[.int .i64 x, .string y, z])).run Tryz.prog W = .ok () (((W.setCell ⟨tb, 0, none⟩ (.int .i64 x)).setCell ⟨tb, 1, none⟩ (.string y)).setCell ⟨tb, 2, none⟩ z) := by
    have s0 := store_ok ⟨tb, 0, none⟩ (.int .i64 x) x0 W rfl t0 f0
    have s1 := store_ok ⟨tb, 1, none⟩ (.string y) y0 (W.setCell ⟨tb, 0, none⟩ (.int .i64 x)) rfl
      ((World.cell?_setCell_other _ _ _ _ (by simp)).trans t1) ((World.frozen?_setCell _ _ _ _).trans f1)
    have s2 := store_ok ⟨tb, 2, none⟩ z z0 ((W.setCell ⟨tb, 0, none⟩ (.int .i64 x)).setCell ⟨tb, 1, none⟩ (.string y)) hz
      ((World.cell?_setCell_other _ _ _ _ (by simp)).trans ((World.cell?_setCell_other _ _ _ _ (by simp)).trans t2)) ((World.frozen?_setCell _ _ _ _).trans ((World.frozen?_setCell _ _ _ _).trans f2))
    simp [storeVar, Value.cells, storeCells, Result.andThen, go_sem, s0, s1, s2]
  simp [ReflectliteValue.flagAddr, L, S, Result.andThen, Tryz.direct44]

end Go.Proofs.YthkdbphgiobcdaaGreatDoor

namespace Go.Proofs.YthkdbphgiobcdaaGreatDoor
open Go.RowKit Go.Extern.Stop Go.Stop Go.Extern

theorem Tryz.ext69 (v : Value) (w : World) : (callFunc 69 #[v]).run Tryz.prog w = ((ReflectliteValue.unpack v).run Tryz.prog w).andThen fun v u => .ok (.value v) u :=
  @run_callFunc_extern Tryz.prog 69 _ (fun args => ReflectliteValue.unpack (args.getD 0 (.tuple #[]))) Tryz.func69 (by kernel_rfl) (by kernel_rfl) (by kernel_rfl) (by kernel_rfl) #[v] w
theorem Tryz.ext70 (args : Array Value) (w : World) : (callFunc 70 args).run Tryz.prog w = (((ReflectliteValue.methodAny (ReflectliteValue.valueError "reflectlite.Value.Type" 0) (fun t _ _ _ => ReflectliteType.toType t)) args).run Tryz.prog w).andThen fun v u => .ok (.value v) u :=
  @run_callFunc_extern Tryz.prog 70 _ (ReflectliteValue.methodAny (ReflectliteValue.valueError "reflectlite.Value.Type" 0) (fun t _ _ _ => ReflectliteType.toType t)) Tryz.func70 (by kernel_rfl) (by kernel_rfl) (by kernel_rfl) (by kernel_rfl) args w
theorem Tryz.ext71 (args : Array Value) (w : World) : (callFunc 71 args).run Tryz.prog w = (((ReflectliteValue.method (ReflectliteValue.valueError "reflectlite.Value.IsNil" 0) ReflectliteValue.isNil) args).run Tryz.prog w).andThen fun v u => .ok (.value v) u :=
  @run_callFunc_extern Tryz.prog 71 _ (ReflectliteValue.method (ReflectliteValue.valueError "reflectlite.Value.IsNil" 0) ReflectliteValue.isNil) Tryz.func71 (by kernel_rfl) (by kernel_rfl) (by kernel_rfl) (by kernel_rfl) args w
theorem Tryz.ext217 (args : Array Value) (w : World) : (callFunc 217 args).run Tryz.prog w = (((ReflectliteType.abiMethod fun t => do pure (.int .u8 (← Rtype.kind t))) args).run Tryz.prog w).andThen fun v u => .ok (.value v) u :=
  @run_callFunc_extern Tryz.prog 217 _ (ReflectliteType.abiMethod fun t => do pure (.int .u8 (← Rtype.kind t))) Tryz.func217 (by kernel_rfl) (by kernel_rfl) (by kernel_rfl) (by kernel_rfl) args w
theorem Tryz.ext230 (args : Array Value) (w : World) : (callFunc 230 args).run Tryz.prog w = (((ReflectliteType.method ReflectliteType.elem) args).run Tryz.prog w).andThen fun v u => .ok (.value v) u :=
  @run_callFunc_extern Tryz.prog 230 _ (ReflectliteType.method ReflectliteType.elem) Tryz.func230 (by kernel_rfl) (by kernel_rfl) (by kernel_rfl) (by kernel_rfl) args w
theorem Tryz.ext231 (args : Array Value) (w : World) : (callFunc 231 args).run Tryz.prog w = (((ReflectliteType.relation "Implements" ReflectliteType.implements_) args).run Tryz.prog w).andThen fun v u => .ok (.value v) u :=
  @run_callFunc_extern Tryz.prog 231 _ (ReflectliteType.relation "Implements" ReflectliteType.implements_) Tryz.func231 (by kernel_rfl) (by kernel_rfl) (by kernel_rfl) (by kernel_rfl) args w
theorem Tryz.ext123 (args : Array Value) (w : World) : (callFunc 123 args).run Tryz.prog w = ((ReflectliteType.typeOf args).run Tryz.prog w).andThen fun v u => .ok (.value v) u :=
  @run_callFunc_extern Tryz.prog 123 _ ReflectliteType.typeOf Tryz.func123 (by kernel_rfl) (by kernel_rfl) (by kernel_rfl) (by kernel_rfl) args w
theorem Tryz.ext228 (args : Array Value) (w : World) : (callFunc 228 args).run Tryz.prog w = (((ReflectliteType.relation "AssignableTo" ReflectliteType.assignableTo) args).run Tryz.prog w).andThen fun v u => .ok (.value v) u :=
  @run_callFunc_extern Tryz.prog 228 _ (ReflectliteType.relation "AssignableTo" ReflectliteType.assignableTo) Tryz.func228 (by kernel_rfl) (by kernel_rfl) (by kernel_rfl) (by kernel_rfl) args w
theorem Tryz.ext229 (args : Array Value) (w : World) : (callFunc 229 args).run Tryz.prog w = (((ReflectliteType.method (fun t => do Rtype.noPackHeld "Comparable" t; pure (.bool (← typeInfo t).comparable))) args).run Tryz.prog w).andThen fun v u => .ok (.value v) u :=
  @run_callFunc_extern Tryz.prog 229 _ (ReflectliteType.method (fun t => do Rtype.noPackHeld "Comparable" t; pure (.bool (← typeInfo t).comparable))) Tryz.func229 (by kernel_rfl) (by kernel_rfl) (by kernel_rfl) (by kernel_rfl) args w
theorem Tryz.ext124 (args : Array Value) (w : World) : (callFunc 124 args).run Tryz.prog w = (((ReflectliteValue.method (ReflectliteValue.valueError "reflectlite.Value.Elem" 0) ReflectliteValue.elem) args).run Tryz.prog w).andThen fun v u => .ok (.value v) u :=
  @run_callFunc_extern Tryz.prog 124 _ (ReflectliteValue.method (ReflectliteValue.valueError "reflectlite.Value.Elem" 0) ReflectliteValue.elem) Tryz.func124 (by kernel_rfl) (by kernel_rfl) (by kernel_rfl) (by kernel_rfl) args w
theorem Tryz.ext125 (args : Array Value) (w : World) : (callFunc 125 args).run Tryz.prog w = ((ReflectliteValue.set args).run Tryz.prog w).andThen fun v u => .ok (.value v) u :=
  @run_callFunc_extern Tryz.prog 125 _ ReflectliteValue.set Tryz.func125 (by kernel_rfl) (by kernel_rfl) (by kernel_rfl) (by kernel_rfl) args w
theorem Tryz.c33_57 (t : Addr) (w : World) : (callFunc 69 #[.iface 72 (.pointer (some t))]).run Tryz.prog w = .ok (.value (.agg #[.pointer (some ⟨5, 72, none⟩), .pointer (some ⟨w.heap.size, 0, none⟩), .int .u64 150])) (w.alloc (.cells #[.pointer (some t)] 72)) := by
  rw [Tryz.ext69]; show Result.andThen (Sem.run _ _ _) _ = _; rw [Tryz.valueOf57]; rfl
theorem Tryz.c34_57 (a : Addr) (w : World) : (callFunc 70 #[.agg #[.pointer (some ⟨5, 72, none⟩), .pointer (some a), .int .u64 150]]).run Tryz.prog w = .ok (.value (.iface 163 (.agg #[.pointer (some ⟨5, 72, none⟩)]))) w := by
  rw [Tryz.ext70]; show Result.andThen (Sem.run _ _ _) _ = _; rw [Tryz.type57]; rfl
theorem Tryz.c35_57 (a p : Addr) (w : World) (ha : w.cell? a = some (.pointer (some p))) : (callFunc 71 #[.agg #[.pointer (some ⟨5, 72, none⟩), .pointer (some a), .int .u64 150]]).run Tryz.prog w = .ok (.value (.bool false)) w := by
  rw [Tryz.ext71]; show Result.andThen (Sem.run _ _ _) _ = _; rw [Tryz.isNil57 _ _ _ ha]; rfl
theorem Tryz.c33_77 (t : Addr) (w : World) : (callFunc 69 #[.iface 115 (.pointer (some t))]).run Tryz.prog w = .ok (.value (.agg #[.pointer (some ⟨5, 115, none⟩), .pointer (some ⟨w.heap.size, 0, none⟩), .int .u64 150])) (w.alloc (.cells #[.pointer (some t)] 115)) := by
  rw [Tryz.ext69]; show Result.andThen (Sem.run _ _ _) _ = _; rw [Tryz.valueOf77]; rfl
theorem Tryz.c34_77 (a : Addr) (w : World) : (callFunc 70 #[.agg #[.pointer (some ⟨5, 115, none⟩), .pointer (some a), .int .u64 150]]).run Tryz.prog w = .ok (.value (.iface 163 (.agg #[.pointer (some ⟨5, 115, none⟩)]))) w := by
  rw [Tryz.ext70]; show Result.andThen (Sem.run _ _ _) _ = _; rw [Tryz.type77]; rfl
theorem Tryz.c35_77 (a p : Addr) (w : World) (ha : w.cell? a = some (.pointer (some p))) : (callFunc 71 #[.agg #[.pointer (some ⟨5, 115, none⟩), .pointer (some a), .int .u64 150]]).run Tryz.prog w = .ok (.value (.bool false)) w := by
  rw [Tryz.ext71]; show Result.andThen (Sem.run _ _ _) _ = _; rw [Tryz.isNil77 _ _ _ ha]; rfl
theorem Tryz.c33_31 (n : Int) (w : World) : (callFunc 69 #[.iface 38 (.int .i64 n)]).run Tryz.prog w = .ok (.value (.agg #[.pointer (some ⟨5, 38, none⟩), .pointer (some ⟨w.heap.size, 0, none⟩), .int .u64 130])) (w.alloc (.cells #[.int .i64 n] 38)) := by
  rw [Tryz.ext69]; show Result.andThen (Sem.run _ _ _) _ = _; rw [Tryz.valueOf31]; rfl
theorem Tryz.c33_44 (a b c : Value) (w : World) : (callFunc 69 #[.iface 74 (.agg #[a, b, c])]).run Tryz.prog w = .ok (.value (.agg #[.pointer (some ⟨5, 74, none⟩), .pointer (some ⟨w.heap.size, 0, none⟩), .int .u64 153])) (w.alloc (.cells #[a, b, c] 74)) := by
  rw [Tryz.ext69]; show Result.andThen (Sem.run _ _ _) _ = _; rw [Tryz.valueOf44]; rfl
theorem Tryz.c69_57 (w : World) : (callFunc 217 #[.pointer (some ⟨5, 72, none⟩)]).run Tryz.prog w = .ok (.value (.int .u8 22)) w := by
  rw [Tryz.ext217]; kernel_rfl
theorem Tryz.c69_77 (w : World) : (callFunc 217 #[.pointer (some ⟨5, 115, none⟩)]).run Tryz.prog w = .ok (.value (.int .u8 22)) w := by
  rw [Tryz.ext217]; kernel_rfl
theorem Tryz.c69_31 (w : World) : (callFunc 217 #[.pointer (some ⟨5, 38, none⟩)]).run Tryz.prog w = .ok (.value (.int .u8 2)) w := by
  rw [Tryz.ext217]; kernel_rfl
theorem Tryz.c69_44 (w : World) : (callFunc 217 #[.pointer (some ⟨5, 74, none⟩)]).run Tryz.prog w = .ok (.value (.int .u8 25)) w := by
  rw [Tryz.ext217]; kernel_rfl
theorem Tryz.c80_57  (w : World) : (callFunc 230 #[.agg #[.pointer (some ⟨5, 72, none⟩)]]).run Tryz.prog w = .ok (.value (.iface 163 (.agg #[.pointer (some ⟨5, 38, none⟩)]))) w := by
  rw [Tryz.ext230]; show Result.andThen (Sem.run _ _ _) _ = _; rw [Tryz.elem57]; rfl
theorem Tryz.c81_31  (w : World) : (callFunc 231 #[.agg #[.pointer (some ⟨5, 38, none⟩)], .iface 163 (.agg #[.pointer (some ⟨5, 33, none⟩)])]).run Tryz.prog w = .ok (.value (.bool true)) w := by
  rw [Tryz.ext231]; show Result.andThen (Sem.run _ _ _) _ = _; rw [Tryz.implements31]; rfl
theorem Tryz.c41_57 (a p : Addr) (w : World) (ha : w.cell? a = some (.pointer (some p))) : (callFunc 124 #[.agg #[.pointer (some ⟨5, 72, none⟩), .pointer (some a), .int .u64 150]]).run Tryz.prog w = .ok (.value (.agg #[.pointer (some ⟨5, 38, none⟩), .pointer (some p), .int .u64 386])) w := by
  rw [Tryz.ext124]; show Result.andThen (Sem.run _ _ _) _ = _; rw [Tryz.elemV57 _ _ _ ha]; rfl
theorem Tryz.c80_77  (w : World) : (callFunc 230 #[.agg #[.pointer (some ⟨5, 115, none⟩)]]).run Tryz.prog w = .ok (.value (.iface 163 (.agg #[.pointer (some ⟨5, 74, none⟩)]))) w := by
  rw [Tryz.ext230]; show Result.andThen (Sem.run _ _ _) _ = _; rw [Tryz.elem77]; rfl
theorem Tryz.c81_44  (w : World) : (callFunc 231 #[.agg #[.pointer (some ⟨5, 74, none⟩)], .iface 163 (.agg #[.pointer (some ⟨5, 33, none⟩)])]).run Tryz.prog w = .ok (.value (.bool true)) w := by
  rw [Tryz.ext231]; show Result.andThen (Sem.run _ _ _) _ = _; rw [Tryz.implements44]; rfl
theorem Tryz.c41_77 (a p : Addr) (w : World) (ha : w.cell? a = some (.pointer (some p))) : (callFunc 124 #[.agg #[.pointer (some ⟨5, 115, none⟩), .pointer (some a), .int .u64 150]]).run Tryz.prog w = .ok (.value (.agg #[.pointer (some ⟨5, 74, none⟩), .pointer (some p), .int .u64 409])) w := by
  rw [Tryz.ext124]; show Result.andThen (Sem.run _ _ _) _ = _; rw [Tryz.elemV77 _ _ _ ha]; rfl
theorem Tryz.c38_31 (v : Value) (w : World) : (callFunc 123 #[.iface 38 v]).run Tryz.prog w = .ok (.value (.iface 163 (.agg #[.pointer (some ⟨5, 38, none⟩)]))) w := by
  rw [Tryz.ext123]; show Result.andThen (Sem.run _ _ _) _ = _; rw [Tryz.typeOf31]; rfl
theorem Tryz.c78_31_31  (w : World) : (callFunc 228 #[.agg #[.pointer (some ⟨5, 38, none⟩)], .iface 163 (.agg #[.pointer (some ⟨5, 38, none⟩)])]).run Tryz.prog w = .ok (.value (.bool true)) w := by
  rw [Tryz.ext228]; show Result.andThen (Sem.run _ _ _) _ = _; rw [Tryz.assign31to31]; rfl
theorem Tryz.c78_31_44  (w : World) : (callFunc 228 #[.agg #[.pointer (some ⟨5, 38, none⟩)], .iface 163 (.agg #[.pointer (some ⟨5, 74, none⟩)])]).run Tryz.prog w = .ok (.value (.bool false)) w := by
  rw [Tryz.ext228]; show Result.andThen (Sem.run _ _ _) _ = _; rw [Tryz.assign31to44]; rfl
theorem Tryz.c38_44 (v : Value) (w : World) : (callFunc 123 #[.iface 74 v]).run Tryz.prog w = .ok (.value (.iface 163 (.agg #[.pointer (some ⟨5, 74, none⟩)]))) w := by
  rw [Tryz.ext123]; show Result.andThen (Sem.run _ _ _) _ = _; rw [Tryz.typeOf44]; rfl
theorem Tryz.c78_44_31  (w : World) : (callFunc 228 #[.agg #[.pointer (some ⟨5, 74, none⟩)], .iface 163 (.agg #[.pointer (some ⟨5, 38, none⟩)])]).run Tryz.prog w = .ok (.value (.bool false)) w := by
  rw [Tryz.ext228]; show Result.andThen (Sem.run _ _ _) _ = _; rw [Tryz.assign44to31]; rfl
theorem Tryz.c78_44_44  (w : World) : (callFunc 228 #[.agg #[.pointer (some ⟨5, 74, none⟩)], .iface 163 (.agg #[.pointer (some ⟨5, 74, none⟩)])]).run Tryz.prog w = .ok (.value (.bool true)) w := by
  rw [Tryz.ext228]; show Result.andThen (Sem.run _ _ _) _ = _; rw [Tryz.assign44to44]; rfl
theorem Tryz.c79_31  (w : World) : (callFunc 229 #[.agg #[.pointer (some ⟨5, 38, none⟩)]]).run Tryz.prog w = .ok (.value (.bool true)) w := by
  rw [Tryz.ext229]; show Result.andThen (Sem.run _ _ _) _ = _; rw [Tryz.comparable31]; rfl
theorem Tryz.c42_31 (ta b : Addr) (n : Int) (old : Value) (w : World) (hb : w.cell? b = some (.int .i64 n)) (ht : w.cell? ta = some old) (hf : w.frozen? ta = false) : (callFunc 125 #[.agg #[.pointer (some ⟨5, 38, none⟩), .pointer (some ta), .int .u64 386], .agg #[.pointer (some ⟨5, 38, none⟩), .pointer (some b), .int .u64 130]]).run Tryz.prog w = .ok (.value (.tuple #[])) (w.setCell ta (.int .i64 n)) := by
  rw [Tryz.ext125]; show Result.andThen (Sem.run _ _ _) _ = _; rw [Tryz.set31 _ _ _ _ _ hb ht hf]; rfl
theorem Tryz.c42_44 (tb b : Nat) (x : Int) (y : ByteArray) (z x0 y0 z0 : Value) (w : World) (hz : z.oneCell' = true) (b0 : w.cell? ⟨b, 0, none⟩ = some (.int .i64 x)) (b1 : w.cell? ⟨b, 1, none⟩ = some (.string y)) (b2 : w.cell? ⟨b, 2, none⟩ = some z) (t0 : w.cell? ⟨tb, 0, none⟩ = some x0) (t1 : w.cell? ⟨tb, 1, none⟩ = some y0) (t2 : w.cell? ⟨tb, 2, none⟩ = some z0) (f0 : w.frozen? ⟨tb, 0, none⟩ = false) (f1 : w.frozen? ⟨tb, 1, none⟩ = false) (f2 : w.frozen? ⟨tb, 2, none⟩ = false) : (callFunc 125 #[.agg #[.pointer (some ⟨5, 74, none⟩), .pointer (some ⟨tb, 0, none⟩), .int .u64 409], .agg #[.pointer (some ⟨5, 74, none⟩), .pointer (some ⟨b, 0, none⟩), .int .u64 153]]).run Tryz.prog w = .ok (.value (.tuple #[])) (((w.setCell ⟨tb, 0, none⟩ (.int .i64 x)).setCell ⟨tb, 1, none⟩ (.string y)).setCell ⟨tb, 2, none⟩ z) := by
  rw [Tryz.ext125]; show Result.andThen (Sem.run _ _ _) _ = _; rw [Tryz.set44 _ _ _ _ _ _ _ _ _ hz b0 b1 b2 t0 t1 t2 f0 f1 f2]; rfl

/-- One Fault of a chain. -/
structure Lk where
  line : Int
  what : ByteArray
/-- What a chain ends with: a number, or nothing. -/
abbrev Base := Int ⊕ Unit
def Base.val : Base → Value
  | .inl n => .iface 38 (.int .i64 n)
  | .inr _ => .nilIface
/-- The error that a chain is. -/
def val (B : Base) : List Lk → Value
  | [] => B.val
  | l :: ls => .iface 74 (.agg #[.int .i64 l.line, .string l.what, val B ls])
theorem val_one (B : Base) (ls : List Lk) : (val B ls).oneCell' = true := by
  cases ls with
  | nil => rcases B with n | ⟨⟩ <;> rfl
  | cons l ls => rfl
def Base.isNum : Base → Bool
  | .inl _ => true
  | _ => false
def Base.put (t : Addr) (w : World) : Base → World
  | .inl n => w.setCell t (.int .i64 n)
  | _ => w

theorem unwrap_ok (a : Int) (s : ByteArray) (z : Value) (w : World) :
    Calls Tryz.prog 222 #[.agg #[.int .i64 a, .string s, z]] w fun e w' => e = .returned z ∧ w' = w.alloc (.cells #[.int .i64 a, .string s, z] 74) := by
  go_enter Tryz.func222, Tryz.ntmps222
  go_wp2
  go_ret
  exact ⟨rfl, rfl⟩
end Go.Proofs.YthkdbphgiobcdaaGreatDoor
