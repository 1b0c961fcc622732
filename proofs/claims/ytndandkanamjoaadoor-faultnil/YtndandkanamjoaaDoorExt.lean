/-
  errors.as of the library at a pointer to api's number, for every chain of Faults around a number, another error or nothing. Conditions: the target's variable is there and may be written.
-/
import Derived.Test.YtndandkanamjoaaDoorAs
import Derived.Deep.LoopGhost
namespace Go.Proofs.YtndandkanamjoaaDoor
open Go.RowKit Go.Extern.Stop Go.Stop Go.Extern

theorem Tryd.ext33 (v : Value) (w : World) : (callFunc 33 #[v]).run Tryd.prog w = ((ReflectliteValue.unpack v).run Tryd.prog w).andThen fun v u => .ok (.value v) u :=
  @run_callFunc_extern Tryd.prog 33 _ (fun args => ReflectliteValue.unpack (args.getD 0 (.tuple #[]))) Tryd.func33 (by kernel_rfl) (by kernel_rfl) (by kernel_rfl) (by kernel_rfl) #[v] w
theorem Tryd.ext34 (args : Array Value) (w : World) : (callFunc 34 args).run Tryd.prog w = (((ReflectliteValue.methodAny (ReflectliteValue.valueError "reflectlite.Value.Type" 0) (fun t _ _ _ => ReflectliteType.toType t)) args).run Tryd.prog w).andThen fun v u => .ok (.value v) u :=
  @run_callFunc_extern Tryd.prog 34 _ (ReflectliteValue.methodAny (ReflectliteValue.valueError "reflectlite.Value.Type" 0) (fun t _ _ _ => ReflectliteType.toType t)) Tryd.func34 (by kernel_rfl) (by kernel_rfl) (by kernel_rfl) (by kernel_rfl) args w
theorem Tryd.ext35 (args : Array Value) (w : World) : (callFunc 35 args).run Tryd.prog w = (((ReflectliteValue.method (ReflectliteValue.valueError "reflectlite.Value.IsNil" 0) ReflectliteValue.isNil) args).run Tryd.prog w).andThen fun v u => .ok (.value v) u :=
  @run_callFunc_extern Tryd.prog 35 _ (ReflectliteValue.method (ReflectliteValue.valueError "reflectlite.Value.IsNil" 0) ReflectliteValue.isNil) Tryd.func35 (by kernel_rfl) (by kernel_rfl) (by kernel_rfl) (by kernel_rfl) args w
theorem Tryd.ext69 (args : Array Value) (w : World) : (callFunc 69 args).run Tryd.prog w = (((ReflectliteType.abiMethod fun t => do pure (.int .u8 (← Rtype.kind t))) args).run Tryd.prog w).andThen fun v u => .ok (.value v) u :=
  @run_callFunc_extern Tryd.prog 69 _ (ReflectliteType.abiMethod fun t => do pure (.int .u8 (← Rtype.kind t))) Tryd.func69 (by kernel_rfl) (by kernel_rfl) (by kernel_rfl) (by kernel_rfl) args w
theorem Tryd.ext80 (args : Array Value) (w : World) : (callFunc 80 args).run Tryd.prog w = (((ReflectliteType.method ReflectliteType.elem) args).run Tryd.prog w).andThen fun v u => .ok (.value v) u :=
  @run_callFunc_extern Tryd.prog 80 _ (ReflectliteType.method ReflectliteType.elem) Tryd.func80 (by kernel_rfl) (by kernel_rfl) (by kernel_rfl) (by kernel_rfl) args w
theorem Tryd.ext81 (args : Array Value) (w : World) : (callFunc 81 args).run Tryd.prog w = (((ReflectliteType.relation "Implements" ReflectliteType.implements_) args).run Tryd.prog w).andThen fun v u => .ok (.value v) u :=
  @run_callFunc_extern Tryd.prog 81 _ (ReflectliteType.relation "Implements" ReflectliteType.implements_) Tryd.func81 (by kernel_rfl) (by kernel_rfl) (by kernel_rfl) (by kernel_rfl) args w
theorem Tryd.ext38 (args : Array Value) (w : World) : (callFunc 38 args).run Tryd.prog w = ((ReflectliteType.typeOf args).run Tryd.prog w).andThen fun v u => .ok (.value v) u :=
  @run_callFunc_extern Tryd.prog 38 _ ReflectliteType.typeOf Tryd.func38 (by kernel_rfl) (by kernel_rfl) (by kernel_rfl) (by kernel_rfl) args w
theorem Tryd.ext78 (args : Array Value) (w : World) : (callFunc 78 args).run Tryd.prog w = (((ReflectliteType.relation "AssignableTo" ReflectliteType.assignableTo) args).run Tryd.prog w).andThen fun v u => .ok (.value v) u :=
  @run_callFunc_extern Tryd.prog 78 _ (ReflectliteType.relation "AssignableTo" ReflectliteType.assignableTo) Tryd.func78 (by kernel_rfl) (by kernel_rfl) (by kernel_rfl) (by kernel_rfl) args w
theorem Tryd.ext79 (args : Array Value) (w : World) : (callFunc 79 args).run Tryd.prog w = (((ReflectliteType.method (fun t => do Rtype.noPackHeld "Comparable" t; pure (.bool (← typeInfo t).comparable))) args).run Tryd.prog w).andThen fun v u => .ok (.value v) u :=
  @run_callFunc_extern Tryd.prog 79 _ (ReflectliteType.method (fun t => do Rtype.noPackHeld "Comparable" t; pure (.bool (← typeInfo t).comparable))) Tryd.func79 (by kernel_rfl) (by kernel_rfl) (by kernel_rfl) (by kernel_rfl) args w
theorem Tryd.ext41 (args : Array Value) (w : World) : (callFunc 41 args).run Tryd.prog w = (((ReflectliteValue.method (ReflectliteValue.valueError "reflectlite.Value.Elem" 0) ReflectliteValue.elem) args).run Tryd.prog w).andThen fun v u => .ok (.value v) u :=
  @run_callFunc_extern Tryd.prog 41 _ (ReflectliteValue.method (ReflectliteValue.valueError "reflectlite.Value.Elem" 0) ReflectliteValue.elem) Tryd.func41 (by kernel_rfl) (by kernel_rfl) (by kernel_rfl) (by kernel_rfl) args w
theorem Tryd.ext42 (args : Array Value) (w : World) : (callFunc 42 args).run Tryd.prog w = ((ReflectliteValue.set args).run Tryd.prog w).andThen fun v u => .ok (.value v) u :=
  @run_callFunc_extern Tryd.prog 42 _ ReflectliteValue.set Tryd.func42 (by kernel_rfl) (by kernel_rfl) (by kernel_rfl) (by kernel_rfl) args w
theorem Tryd.c33_57 (t : Addr) (w : World) : (callFunc 33 #[.iface 57 (.pointer (some t))]).run Tryd.prog w = .ok (.value (.agg #[.pointer (some ⟨4, 57, none⟩), .pointer (some ⟨w.heap.size, 0, none⟩), .int .u64 150])) (w.alloc (.cells #[.pointer (some t)] 57)) := by
  rw [Tryd.ext33]; show Result.andThen (Sem.run _ _ _) _ = _; rw [Tryd.valueOf57]; rfl
theorem Tryd.c34_57 (a : Addr) (w : World) : (callFunc 34 #[.agg #[.pointer (some ⟨4, 57, none⟩), .pointer (some a), .int .u64 150]]).run Tryd.prog w = .ok (.value (.iface 81 (.agg #[.pointer (some ⟨4, 57, none⟩)]))) w := by
  rw [Tryd.ext34]; show Result.andThen (Sem.run _ _ _) _ = _; rw [Tryd.type57]; rfl
theorem Tryd.c35_57 (a p : Addr) (w : World) (ha : w.cell? a = some (.pointer (some p))) : (callFunc 35 #[.agg #[.pointer (some ⟨4, 57, none⟩), .pointer (some a), .int .u64 150]]).run Tryd.prog w = .ok (.value (.bool false)) w := by
  rw [Tryd.ext35]; show Result.andThen (Sem.run _ _ _) _ = _; rw [Tryd.isNil57 _ _ _ ha]; rfl
theorem Tryd.c33_77 (t : Addr) (w : World) : (callFunc 33 #[.iface 77 (.pointer (some t))]).run Tryd.prog w = .ok (.value (.agg #[.pointer (some ⟨4, 77, none⟩), .pointer (some ⟨w.heap.size, 0, none⟩), .int .u64 150])) (w.alloc (.cells #[.pointer (some t)] 77)) := by
  rw [Tryd.ext33]; show Result.andThen (Sem.run _ _ _) _ = _; rw [Tryd.valueOf77]; rfl
theorem Tryd.c34_77 (a : Addr) (w : World) : (callFunc 34 #[.agg #[.pointer (some ⟨4, 77, none⟩), .pointer (some a), .int .u64 150]]).run Tryd.prog w = .ok (.value (.iface 81 (.agg #[.pointer (some ⟨4, 77, none⟩)]))) w := by
  rw [Tryd.ext34]; show Result.andThen (Sem.run _ _ _) _ = _; rw [Tryd.type77]; rfl
theorem Tryd.c35_77 (a p : Addr) (w : World) (ha : w.cell? a = some (.pointer (some p))) : (callFunc 35 #[.agg #[.pointer (some ⟨4, 77, none⟩), .pointer (some a), .int .u64 150]]).run Tryd.prog w = .ok (.value (.bool false)) w := by
  rw [Tryd.ext35]; show Result.andThen (Sem.run _ _ _) _ = _; rw [Tryd.isNil77 _ _ _ ha]; rfl
theorem Tryd.c33_31 (n : Int) (w : World) : (callFunc 33 #[.iface 31 (.int .i64 n)]).run Tryd.prog w = .ok (.value (.agg #[.pointer (some ⟨4, 31, none⟩), .pointer (some ⟨w.heap.size, 0, none⟩), .int .u64 130])) (w.alloc (.cells #[.int .i64 n] 31)) := by
  rw [Tryd.ext33]; show Result.andThen (Sem.run _ _ _) _ = _; rw [Tryd.valueOf31]; rfl
theorem Tryd.c33_44 (a b c : Value) (w : World) : (callFunc 33 #[.iface 44 (.agg #[a, b, c])]).run Tryd.prog w = .ok (.value (.agg #[.pointer (some ⟨4, 44, none⟩), .pointer (some ⟨w.heap.size, 0, none⟩), .int .u64 153])) (w.alloc (.cells #[a, b, c] 44)) := by
  rw [Tryd.ext33]; show Result.andThen (Sem.run _ _ _) _ = _; rw [Tryd.valueOf44]; rfl
theorem Tryd.c69_57 (w : World) : (callFunc 69 #[.pointer (some ⟨4, 57, none⟩)]).run Tryd.prog w = .ok (.value (.int .u8 22)) w := by
  rw [Tryd.ext69]; kernel_rfl
theorem Tryd.c69_77 (w : World) : (callFunc 69 #[.pointer (some ⟨4, 77, none⟩)]).run Tryd.prog w = .ok (.value (.int .u8 22)) w := by
  rw [Tryd.ext69]; kernel_rfl
theorem Tryd.c69_31 (w : World) : (callFunc 69 #[.pointer (some ⟨4, 31, none⟩)]).run Tryd.prog w = .ok (.value (.int .u8 2)) w := by
  rw [Tryd.ext69]; kernel_rfl
theorem Tryd.c69_44 (w : World) : (callFunc 69 #[.pointer (some ⟨4, 44, none⟩)]).run Tryd.prog w = .ok (.value (.int .u8 25)) w := by
  rw [Tryd.ext69]; kernel_rfl
theorem Tryd.c80_57  (w : World) : (callFunc 80 #[.agg #[.pointer (some ⟨4, 57, none⟩)]]).run Tryd.prog w = .ok (.value (.iface 81 (.agg #[.pointer (some ⟨4, 31, none⟩)]))) w := by
  rw [Tryd.ext80]; show Result.andThen (Sem.run _ _ _) _ = _; rw [Tryd.elem57]; rfl
theorem Tryd.c81_31  (w : World) : (callFunc 81 #[.agg #[.pointer (some ⟨4, 31, none⟩)], .iface 81 (.agg #[.pointer (some ⟨4, 25, none⟩)])]).run Tryd.prog w = .ok (.value (.bool true)) w := by
  rw [Tryd.ext81]; show Result.andThen (Sem.run _ _ _) _ = _; rw [Tryd.implements31]; rfl
theorem Tryd.c41_57 (a p : Addr) (w : World) (ha : w.cell? a = some (.pointer (some p))) : (callFunc 41 #[.agg #[.pointer (some ⟨4, 57, none⟩), .pointer (some a), .int .u64 150]]).run Tryd.prog w = .ok (.value (.agg #[.pointer (some ⟨4, 31, none⟩), .pointer (some p), .int .u64 386])) w := by
  rw [Tryd.ext41]; show Result.andThen (Sem.run _ _ _) _ = _; rw [Tryd.elemV57 _ _ _ ha]; rfl
theorem Tryd.c80_77  (w : World) : (callFunc 80 #[.agg #[.pointer (some ⟨4, 77, none⟩)]]).run Tryd.prog w = .ok (.value (.iface 81 (.agg #[.pointer (some ⟨4, 44, none⟩)]))) w := by
  rw [Tryd.ext80]; show Result.andThen (Sem.run _ _ _) _ = _; rw [Tryd.elem77]; rfl
theorem Tryd.c81_44  (w : World) : (callFunc 81 #[.agg #[.pointer (some ⟨4, 44, none⟩)], .iface 81 (.agg #[.pointer (some ⟨4, 25, none⟩)])]).run Tryd.prog w = .ok (.value (.bool true)) w := by
  rw [Tryd.ext81]; show Result.andThen (Sem.run _ _ _) _ = _; rw [Tryd.implements44]; rfl
theorem Tryd.c41_77 (a p : Addr) (w : World) (ha : w.cell? a = some (.pointer (some p))) : (callFunc 41 #[.agg #[.pointer (some ⟨4, 77, none⟩), .pointer (some a), .int .u64 150]]).run Tryd.prog w = .ok (.value (.agg #[.pointer (some ⟨4, 44, none⟩), .pointer (some p), .int .u64 409])) w := by
  rw [Tryd.ext41]; show Result.andThen (Sem.run _ _ _) _ = _; rw [Tryd.elemV77 _ _ _ ha]; rfl
theorem Tryd.c38_31 (v : Value) (w : World) : (callFunc 38 #[.iface 31 v]).run Tryd.prog w = .ok (.value (.iface 81 (.agg #[.pointer (some ⟨4, 31, none⟩)]))) w := by
  rw [Tryd.ext38]; show Result.andThen (Sem.run _ _ _) _ = _; rw [Tryd.typeOf31]; rfl
theorem Tryd.c78_31_31  (w : World) : (callFunc 78 #[.agg #[.pointer (some ⟨4, 31, none⟩)], .iface 81 (.agg #[.pointer (some ⟨4, 31, none⟩)])]).run Tryd.prog w = .ok (.value (.bool true)) w := by
  rw [Tryd.ext78]; show Result.andThen (Sem.run _ _ _) _ = _; rw [Tryd.assign31to31]; rfl
theorem Tryd.c78_31_44  (w : World) : (callFunc 78 #[.agg #[.pointer (some ⟨4, 31, none⟩)], .iface 81 (.agg #[.pointer (some ⟨4, 44, none⟩)])]).run Tryd.prog w = .ok (.value (.bool false)) w := by
  rw [Tryd.ext78]; show Result.andThen (Sem.run _ _ _) _ = _; rw [Tryd.assign31to44]; rfl
theorem Tryd.c38_44 (v : Value) (w : World) : (callFunc 38 #[.iface 44 v]).run Tryd.prog w = .ok (.value (.iface 81 (.agg #[.pointer (some ⟨4, 44, none⟩)]))) w := by
  rw [Tryd.ext38]; show Result.andThen (Sem.run _ _ _) _ = _; rw [Tryd.typeOf44]; rfl
theorem Tryd.c78_44_31  (w : World) : (callFunc 78 #[.agg #[.pointer (some ⟨4, 44, none⟩)], .iface 81 (.agg #[.pointer (some ⟨4, 31, none⟩)])]).run Tryd.prog w = .ok (.value (.bool false)) w := by
  rw [Tryd.ext78]; show Result.andThen (Sem.run _ _ _) _ = _; rw [Tryd.assign44to31]; rfl
theorem Tryd.c78_44_44  (w : World) : (callFunc 78 #[.agg #[.pointer (some ⟨4, 44, none⟩)], .iface 81 (.agg #[.pointer (some ⟨4, 44, none⟩)])]).run Tryd.prog w = .ok (.value (.bool true)) w := by
  rw [Tryd.ext78]; show Result.andThen (Sem.run _ _ _) _ = _; rw [Tryd.assign44to44]; rfl
theorem Tryd.c38_62 (v : Value) (w : World) : (callFunc 38 #[.iface 62 v]).run Tryd.prog w = .ok (.value (.iface 81 (.agg #[.pointer (some ⟨4, 62, none⟩)]))) w := by
  rw [Tryd.ext38]; show Result.andThen (Sem.run _ _ _) _ = _; rw [Tryd.typeOf62]; rfl
theorem Tryd.c78_62_31  (w : World) : (callFunc 78 #[.agg #[.pointer (some ⟨4, 62, none⟩)], .iface 81 (.agg #[.pointer (some ⟨4, 31, none⟩)])]).run Tryd.prog w = .ok (.value (.bool false)) w := by
  rw [Tryd.ext78]; show Result.andThen (Sem.run _ _ _) _ = _; rw [Tryd.assign62to31]; rfl
theorem Tryd.c78_62_44  (w : World) : (callFunc 78 #[.agg #[.pointer (some ⟨4, 62, none⟩)], .iface 81 (.agg #[.pointer (some ⟨4, 44, none⟩)])]).run Tryd.prog w = .ok (.value (.bool false)) w := by
  rw [Tryd.ext78]; show Result.andThen (Sem.run _ _ _) _ = _; rw [Tryd.assign62to44]; rfl
theorem Tryd.c79_31  (w : World) : (callFunc 79 #[.agg #[.pointer (some ⟨4, 31, none⟩)]]).run Tryd.prog w = .ok (.value (.bool true)) w := by
  rw [Tryd.ext79]; show Result.andThen (Sem.run _ _ _) _ = _; rw [Tryd.comparable31]; rfl
theorem Tryd.c42_31 (ta b : Addr) (n : Int) (old : Value) (w : World) (hb : w.cell? b = some (.int .i64 n)) (ht : w.cell? ta = some old) (hf : w.frozen? ta = false) : (callFunc 42 #[.agg #[.pointer (some ⟨4, 31, none⟩), .pointer (some ta), .int .u64 386], .agg #[.pointer (some ⟨4, 31, none⟩), .pointer (some b), .int .u64 130]]).run Tryd.prog w = .ok (.value (.tuple #[])) (w.setCell ta (.int .i64 n)) := by
  rw [Tryd.ext42]; show Result.andThen (Sem.run _ _ _) _ = _; rw [Tryd.set31 _ _ _ _ _ hb ht hf]; rfl
theorem Tryd.c42_44 (tb b : Nat) (x : Int) (y : ByteArray) (z x0 y0 z0 : Value) (w : World) (hz : z.oneCell' = true) (b0 : w.cell? ⟨b, 0, none⟩ = some (.int .i64 x)) (b1 : w.cell? ⟨b, 1, none⟩ = some (.string y)) (b2 : w.cell? ⟨b, 2, none⟩ = some z) (t0 : w.cell? ⟨tb, 0, none⟩ = some x0) (t1 : w.cell? ⟨tb, 1, none⟩ = some y0) (t2 : w.cell? ⟨tb, 2, none⟩ = some z0) (f0 : w.frozen? ⟨tb, 0, none⟩ = false) (f1 : w.frozen? ⟨tb, 1, none⟩ = false) (f2 : w.frozen? ⟨tb, 2, none⟩ = false) : (callFunc 42 #[.agg #[.pointer (some ⟨4, 44, none⟩), .pointer (some ⟨tb, 0, none⟩), .int .u64 409], .agg #[.pointer (some ⟨4, 44, none⟩), .pointer (some ⟨b, 0, none⟩), .int .u64 153]]).run Tryd.prog w = .ok (.value (.tuple #[])) (((w.setCell ⟨tb, 0, none⟩ (.int .i64 x)).setCell ⟨tb, 1, none⟩ (.string y)).setCell ⟨tb, 2, none⟩ z) := by
  rw [Tryd.ext42]; show Result.andThen (Sem.run _ _ _) _ = _; rw [Tryd.set44 _ _ _ _ _ _ _ _ _ hz b0 b1 b2 t0 t1 t2 f0 f1 f2]; rfl

/-- One Fault of a chain. -/
structure Lk where
  line : Int
  what : ByteArray
/-- What a chain ends with: a number, another error, nothing. -/
abbrev Base := Int ⊕ (Value ⊕ Unit)
def Base.val : Base → Value
  | .inl n => .iface 31 (.int .i64 n)
  | .inr (.inl v) => .iface 62 v
  | .inr (.inr _) => .nilIface
/-- The error that a chain is. -/
def val (B : Base) : List Lk → Value
  | [] => B.val
  | l :: ls => .iface 44 (.agg #[.int .i64 l.line, .string l.what, val B ls])
theorem val_one (B : Base) (ls : List Lk) : (val B ls).oneCell' = true := by
  cases ls with
  | nil => rcases B with n | v | ⟨⟩ <;> rfl
  | cons l ls => rfl
def Base.isNum : Base → Bool
  | .inl _ => true
  | _ => false
def Base.put (t : Addr) (w : World) : Base → World
  | .inl n => w.setCell t (.int .i64 n)
  | _ => w

theorem unwrap_ok (a : Int) (s : ByteArray) (z : Value) (w : World) :
    Calls Tryd.prog 19 #[.agg #[.int .i64 a, .string s, z]] w fun e w' => e = .returned z ∧ w' = w.alloc (.cells #[.int .i64 a, .string s, z] 44) := by
  go_enter Tryd.func19, Tryd.ntmps19
  go_wp2
  go_ret
  exact ⟨rfl, rfl⟩
end Go.Proofs.YtndandkanamjoaaDoor
