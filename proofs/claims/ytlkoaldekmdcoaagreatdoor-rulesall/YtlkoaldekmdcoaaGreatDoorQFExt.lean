/-
  errors.as of the library at a pointer to api's number, for every chain of Faults around a number or nothing. Conditions: the target's variable is there and may be written.
-/
import Derived.Test.YtlkoaldekmdcoaaGreatDoorQFAs
import Derived.Deep.LoopGhost
namespace Go.Proofs.YtlkoaldekmdcoaaGreatDoor
open Go.RowKit Go.Extern.Stop Go.Stop Go.Extern

theorem Tryz.ext56 (v : Value) (w : World) : (callFunc 56 #[v]).run Tryz.prog w = ((ReflectliteValue.unpack v).run Tryz.prog w).andThen fun v u => .ok (.value v) u :=
  @run_callFunc_extern Tryz.prog 56 _ (fun args => ReflectliteValue.unpack (args.getD 0 (.tuple #[]))) Tryz.func56 (by kernel_rfl) (by kernel_rfl) (by kernel_rfl) (by kernel_rfl) #[v] w
theorem Tryz.ext57 (args : Array Value) (w : World) : (callFunc 57 args).run Tryz.prog w = (((ReflectliteValue.methodAny (ReflectliteValue.valueError "reflectlite.Value.Type" 0) (fun t _ _ _ => ReflectliteType.toType t)) args).run Tryz.prog w).andThen fun v u => .ok (.value v) u :=
  @run_callFunc_extern Tryz.prog 57 _ (ReflectliteValue.methodAny (ReflectliteValue.valueError "reflectlite.Value.Type" 0) (fun t _ _ _ => ReflectliteType.toType t)) Tryz.func57 (by kernel_rfl) (by kernel_rfl) (by kernel_rfl) (by kernel_rfl) args w
theorem Tryz.ext58 (args : Array Value) (w : World) : (callFunc 58 args).run Tryz.prog w = (((ReflectliteValue.method (ReflectliteValue.valueError "reflectlite.Value.IsNil" 0) ReflectliteValue.isNil) args).run Tryz.prog w).andThen fun v u => .ok (.value v) u :=
  @run_callFunc_extern Tryz.prog 58 _ (ReflectliteValue.method (ReflectliteValue.valueError "reflectlite.Value.IsNil" 0) ReflectliteValue.isNil) Tryz.func58 (by kernel_rfl) (by kernel_rfl) (by kernel_rfl) (by kernel_rfl) args w
theorem Tryz.ext141 (args : Array Value) (w : World) : (callFunc 141 args).run Tryz.prog w = (((ReflectliteType.abiMethod fun t => do pure (.int .u8 (← Rtype.kind t))) args).run Tryz.prog w).andThen fun v u => .ok (.value v) u :=
  @run_callFunc_extern Tryz.prog 141 _ (ReflectliteType.abiMethod fun t => do pure (.int .u8 (← Rtype.kind t))) Tryz.func141 (by kernel_rfl) (by kernel_rfl) (by kernel_rfl) (by kernel_rfl) args w
theorem Tryz.ext153 (args : Array Value) (w : World) : (callFunc 153 args).run Tryz.prog w = (((ReflectliteType.method ReflectliteType.elem) args).run Tryz.prog w).andThen fun v u => .ok (.value v) u :=
  @run_callFunc_extern Tryz.prog 153 _ (ReflectliteType.method ReflectliteType.elem) Tryz.func153 (by kernel_rfl) (by kernel_rfl) (by kernel_rfl) (by kernel_rfl) args w
theorem Tryz.ext154 (args : Array Value) (w : World) : (callFunc 154 args).run Tryz.prog w = (((ReflectliteType.relation "Implements" ReflectliteType.implements_) args).run Tryz.prog w).andThen fun v u => .ok (.value v) u :=
  @run_callFunc_extern Tryz.prog 154 _ (ReflectliteType.relation "Implements" ReflectliteType.implements_) Tryz.func154 (by kernel_rfl) (by kernel_rfl) (by kernel_rfl) (by kernel_rfl) args w
theorem Tryz.ext83 (args : Array Value) (w : World) : (callFunc 83 args).run Tryz.prog w = ((ReflectliteType.typeOf args).run Tryz.prog w).andThen fun v u => .ok (.value v) u :=
  @run_callFunc_extern Tryz.prog 83 _ ReflectliteType.typeOf Tryz.func83 (by kernel_rfl) (by kernel_rfl) (by kernel_rfl) (by kernel_rfl) args w
theorem Tryz.ext151 (args : Array Value) (w : World) : (callFunc 151 args).run Tryz.prog w = (((ReflectliteType.relation "AssignableTo" ReflectliteType.assignableTo) args).run Tryz.prog w).andThen fun v u => .ok (.value v) u :=
  @run_callFunc_extern Tryz.prog 151 _ (ReflectliteType.relation "AssignableTo" ReflectliteType.assignableTo) Tryz.func151 (by kernel_rfl) (by kernel_rfl) (by kernel_rfl) (by kernel_rfl) args w
theorem Tryz.ext84 (args : Array Value) (w : World) : (callFunc 84 args).run Tryz.prog w = (((ReflectliteValue.method (ReflectliteValue.valueError "reflectlite.Value.Elem" 0) ReflectliteValue.elem) args).run Tryz.prog w).andThen fun v u => .ok (.value v) u :=
  @run_callFunc_extern Tryz.prog 84 _ (ReflectliteValue.method (ReflectliteValue.valueError "reflectlite.Value.Elem" 0) ReflectliteValue.elem) Tryz.func84 (by kernel_rfl) (by kernel_rfl) (by kernel_rfl) (by kernel_rfl) args w
theorem Tryz.ext85 (args : Array Value) (w : World) : (callFunc 85 args).run Tryz.prog w = ((ReflectliteValue.set args).run Tryz.prog w).andThen fun v u => .ok (.value v) u :=
  @run_callFunc_extern Tryz.prog 85 _ ReflectliteValue.set Tryz.func85 (by kernel_rfl) (by kernel_rfl) (by kernel_rfl) (by kernel_rfl) args w
theorem Tryz.c33_57 (t : Addr) (w : World) : (callFunc 56 #[.iface 69 (.pointer (some t))]).run Tryz.prog w = .ok (.value (.agg #[.pointer (some ⟨2, 69, none⟩), .pointer (some ⟨w.heap.size, 0, none⟩), .int .u64 150])) (w.alloc (.cells #[.pointer (some t)] 69)) := by
  rw [Tryz.ext56]; show Result.andThen (Sem.run _ _ _) _ = _; rw [Tryz.valueOf57]; rfl
theorem Tryz.c34_57 (a : Addr) (w : World) : (callFunc 57 #[.agg #[.pointer (some ⟨2, 69, none⟩), .pointer (some a), .int .u64 150]]).run Tryz.prog w = .ok (.value (.iface 117 (.agg #[.pointer (some ⟨2, 69, none⟩)]))) w := by
  rw [Tryz.ext57]; show Result.andThen (Sem.run _ _ _) _ = _; rw [Tryz.type57]; rfl
theorem Tryz.c35_57 (a p : Addr) (w : World) (ha : w.cell? a = some (.pointer (some p))) : (callFunc 58 #[.agg #[.pointer (some ⟨2, 69, none⟩), .pointer (some a), .int .u64 150]]).run Tryz.prog w = .ok (.value (.bool false)) w := by
  rw [Tryz.ext58]; show Result.andThen (Sem.run _ _ _) _ = _; rw [Tryz.isNil57 _ _ _ ha]; rfl
theorem Tryz.c33_77 (t : Addr) (w : World) : (callFunc 56 #[.iface 101 (.pointer (some t))]).run Tryz.prog w = .ok (.value (.agg #[.pointer (some ⟨2, 101, none⟩), .pointer (some ⟨w.heap.size, 0, none⟩), .int .u64 150])) (w.alloc (.cells #[.pointer (some t)] 101)) := by
  rw [Tryz.ext56]; show Result.andThen (Sem.run _ _ _) _ = _; rw [Tryz.valueOf77]; rfl
theorem Tryz.c34_77 (a : Addr) (w : World) : (callFunc 57 #[.agg #[.pointer (some ⟨2, 101, none⟩), .pointer (some a), .int .u64 150]]).run Tryz.prog w = .ok (.value (.iface 117 (.agg #[.pointer (some ⟨2, 101, none⟩)]))) w := by
  rw [Tryz.ext57]; show Result.andThen (Sem.run _ _ _) _ = _; rw [Tryz.type77]; rfl
theorem Tryz.c35_77 (a p : Addr) (w : World) (ha : w.cell? a = some (.pointer (some p))) : (callFunc 58 #[.agg #[.pointer (some ⟨2, 101, none⟩), .pointer (some a), .int .u64 150]]).run Tryz.prog w = .ok (.value (.bool false)) w := by
  rw [Tryz.ext58]; show Result.andThen (Sem.run _ _ _) _ = _; rw [Tryz.isNil77 _ _ _ ha]; rfl
theorem Tryz.c33_31 (n : Int) (w : World) : (callFunc 56 #[.iface 35 (.int .i64 n)]).run Tryz.prog w = .ok (.value (.agg #[.pointer (some ⟨2, 35, none⟩), .pointer (some ⟨w.heap.size, 0, none⟩), .int .u64 130])) (w.alloc (.cells #[.int .i64 n] 35)) := by
  rw [Tryz.ext56]; show Result.andThen (Sem.run _ _ _) _ = _; rw [Tryz.valueOf31]; rfl
theorem Tryz.c33_44 (a b c : Value) (w : World) : (callFunc 56 #[.iface 71 (.agg #[a, b, c])]).run Tryz.prog w = .ok (.value (.agg #[.pointer (some ⟨2, 71, none⟩), .pointer (some ⟨w.heap.size, 0, none⟩), .int .u64 153])) (w.alloc (.cells #[a, b, c] 71)) := by
  rw [Tryz.ext56]; show Result.andThen (Sem.run _ _ _) _ = _; rw [Tryz.valueOf44]; rfl
theorem Tryz.c69_57 (w : World) : (callFunc 141 #[.pointer (some ⟨2, 69, none⟩)]).run Tryz.prog w = .ok (.value (.int .u8 22)) w := by
  rw [Tryz.ext141]; kernel_rfl
theorem Tryz.c69_77 (w : World) : (callFunc 141 #[.pointer (some ⟨2, 101, none⟩)]).run Tryz.prog w = .ok (.value (.int .u8 22)) w := by
  rw [Tryz.ext141]; kernel_rfl
theorem Tryz.c69_31 (w : World) : (callFunc 141 #[.pointer (some ⟨2, 35, none⟩)]).run Tryz.prog w = .ok (.value (.int .u8 2)) w := by
  rw [Tryz.ext141]; kernel_rfl
theorem Tryz.c69_44 (w : World) : (callFunc 141 #[.pointer (some ⟨2, 71, none⟩)]).run Tryz.prog w = .ok (.value (.int .u8 25)) w := by
  rw [Tryz.ext141]; kernel_rfl
theorem Tryz.c80_57  (w : World) : (callFunc 153 #[.agg #[.pointer (some ⟨2, 69, none⟩)]]).run Tryz.prog w = .ok (.value (.iface 117 (.agg #[.pointer (some ⟨2, 35, none⟩)]))) w := by
  rw [Tryz.ext153]; show Result.andThen (Sem.run _ _ _) _ = _; rw [Tryz.elem57]; rfl
theorem Tryz.c81_31  (w : World) : (callFunc 154 #[.agg #[.pointer (some ⟨2, 35, none⟩)], .iface 117 (.agg #[.pointer (some ⟨2, 31, none⟩)])]).run Tryz.prog w = .ok (.value (.bool true)) w := by
  rw [Tryz.ext154]; show Result.andThen (Sem.run _ _ _) _ = _; rw [Tryz.implements31]; rfl
theorem Tryz.c41_57 (a p : Addr) (w : World) (ha : w.cell? a = some (.pointer (some p))) : (callFunc 84 #[.agg #[.pointer (some ⟨2, 69, none⟩), .pointer (some a), .int .u64 150]]).run Tryz.prog w = .ok (.value (.agg #[.pointer (some ⟨2, 35, none⟩), .pointer (some p), .int .u64 386])) w := by
  rw [Tryz.ext84]; show Result.andThen (Sem.run _ _ _) _ = _; rw [Tryz.elemV57 _ _ _ ha]; rfl
theorem Tryz.c80_77  (w : World) : (callFunc 153 #[.agg #[.pointer (some ⟨2, 101, none⟩)]]).run Tryz.prog w = .ok (.value (.iface 117 (.agg #[.pointer (some ⟨2, 71, none⟩)]))) w := by
  rw [Tryz.ext153]; show Result.andThen (Sem.run _ _ _) _ = _; rw [Tryz.elem77]; rfl
theorem Tryz.c81_44  (w : World) : (callFunc 154 #[.agg #[.pointer (some ⟨2, 71, none⟩)], .iface 117 (.agg #[.pointer (some ⟨2, 31, none⟩)])]).run Tryz.prog w = .ok (.value (.bool true)) w := by
  rw [Tryz.ext154]; show Result.andThen (Sem.run _ _ _) _ = _; rw [Tryz.implements44]; rfl
theorem Tryz.c41_77 (a p : Addr) (w : World) (ha : w.cell? a = some (.pointer (some p))) : (callFunc 84 #[.agg #[.pointer (some ⟨2, 101, none⟩), .pointer (some a), .int .u64 150]]).run Tryz.prog w = .ok (.value (.agg #[.pointer (some ⟨2, 71, none⟩), .pointer (some p), .int .u64 409])) w := by
  rw [Tryz.ext84]; show Result.andThen (Sem.run _ _ _) _ = _; rw [Tryz.elemV77 _ _ _ ha]; rfl
theorem Tryz.c38_31 (v : Value) (w : World) : (callFunc 83 #[.iface 35 v]).run Tryz.prog w = .ok (.value (.iface 117 (.agg #[.pointer (some ⟨2, 35, none⟩)]))) w := by
  rw [Tryz.ext83]; show Result.andThen (Sem.run _ _ _) _ = _; rw [Tryz.typeOf31]; rfl
theorem Tryz.c78_31_31  (w : World) : (callFunc 151 #[.agg #[.pointer (some ⟨2, 35, none⟩)], .iface 117 (.agg #[.pointer (some ⟨2, 35, none⟩)])]).run Tryz.prog w = .ok (.value (.bool true)) w := by
  rw [Tryz.ext151]; show Result.andThen (Sem.run _ _ _) _ = _; rw [Tryz.assign31to31]; rfl
theorem Tryz.c78_31_44  (w : World) : (callFunc 151 #[.agg #[.pointer (some ⟨2, 35, none⟩)], .iface 117 (.agg #[.pointer (some ⟨2, 71, none⟩)])]).run Tryz.prog w = .ok (.value (.bool false)) w := by
  rw [Tryz.ext151]; show Result.andThen (Sem.run _ _ _) _ = _; rw [Tryz.assign31to44]; rfl
theorem Tryz.c38_44 (v : Value) (w : World) : (callFunc 83 #[.iface 71 v]).run Tryz.prog w = .ok (.value (.iface 117 (.agg #[.pointer (some ⟨2, 71, none⟩)]))) w := by
  rw [Tryz.ext83]; show Result.andThen (Sem.run _ _ _) _ = _; rw [Tryz.typeOf44]; rfl
theorem Tryz.c78_44_31  (w : World) : (callFunc 151 #[.agg #[.pointer (some ⟨2, 71, none⟩)], .iface 117 (.agg #[.pointer (some ⟨2, 35, none⟩)])]).run Tryz.prog w = .ok (.value (.bool false)) w := by
  rw [Tryz.ext151]; show Result.andThen (Sem.run _ _ _) _ = _; rw [Tryz.assign44to31]; rfl
theorem Tryz.c78_44_44  (w : World) : (callFunc 151 #[.agg #[.pointer (some ⟨2, 71, none⟩)], .iface 117 (.agg #[.pointer (some ⟨2, 71, none⟩)])]).run Tryz.prog w = .ok (.value (.bool true)) w := by
  rw [Tryz.ext151]; show Result.andThen (Sem.run _ _ _) _ = _; rw [Tryz.assign44to44]; rfl
theorem Tryz.c42_31 (ta b : Addr) (n : Int) (old : Value) (w : World) (hb : w.cell? b = some (.int .i64 n)) (ht : w.cell? ta = some old) (hf : w.frozen? ta = false) : (callFunc 85 #[.agg #[.pointer (some ⟨2, 35, none⟩), .pointer (some ta), .int .u64 386], .agg #[.pointer (some ⟨2, 35, none⟩), .pointer (some b), .int .u64 130]]).run Tryz.prog w = .ok (.value (.tuple #[])) (w.setCell ta (.int .i64 n)) := by
  rw [Tryz.ext85]; show Result.andThen (Sem.run _ _ _) _ = _; rw [Tryz.set31 _ _ _ _ _ hb ht hf]; rfl
theorem Tryz.c42_44 (tb b : Nat) (x : Int) (y : ByteArray) (z x0 y0 z0 : Value) (w : World) (hz : z.oneCell' = true) (b0 : w.cell? ⟨b, 0, none⟩ = some (.int .i64 x)) (b1 : w.cell? ⟨b, 1, none⟩ = some (.string y)) (b2 : w.cell? ⟨b, 2, none⟩ = some z) (t0 : w.cell? ⟨tb, 0, none⟩ = some x0) (t1 : w.cell? ⟨tb, 1, none⟩ = some y0) (t2 : w.cell? ⟨tb, 2, none⟩ = some z0) (f0 : w.frozen? ⟨tb, 0, none⟩ = false) (f1 : w.frozen? ⟨tb, 1, none⟩ = false) (f2 : w.frozen? ⟨tb, 2, none⟩ = false) : (callFunc 85 #[.agg #[.pointer (some ⟨2, 71, none⟩), .pointer (some ⟨tb, 0, none⟩), .int .u64 409], .agg #[.pointer (some ⟨2, 71, none⟩), .pointer (some ⟨b, 0, none⟩), .int .u64 153]]).run Tryz.prog w = .ok (.value (.tuple #[])) (((w.setCell ⟨tb, 0, none⟩ (.int .i64 x)).setCell ⟨tb, 1, none⟩ (.string y)).setCell ⟨tb, 2, none⟩ z) := by
  rw [Tryz.ext85]; show Result.andThen (Sem.run _ _ _) _ = _; rw [Tryz.set44 _ _ _ _ _ _ _ _ _ hz b0 b1 b2 t0 t1 t2 f0 f1 f2]; rfl

/-- One Fault of a chain. -/
structure Lk where
  line : Int
  what : ByteArray
/-- What a chain ends with: a number, or nothing. -/
abbrev Base := Int ⊕ Unit
def Base.val : Base → Value
  | .inl n => .iface 35 (.int .i64 n)
  | .inr _ => .nilIface
/-- The error that a chain is. -/
def val (B : Base) : List Lk → Value
  | [] => B.val
  | l :: ls => .iface 71 (.agg #[.int .i64 l.line, .string l.what, val B ls])
theorem val_one (B : Base) (ls : List Lk) : (val B ls).oneCell' = true := by
  cases ls with
  | nil => rcases B with n | ⟨⟩ <;> rfl
  | cons l ls => rfl
def Base.isNum : Base → Bool
  | .inl _ => true
  | _ => false
def Base.put (t : Addr) (w : World) : Base → World
  | .inl n => w.setCell t (.int .i64 n)
  | _ => w

theorem unwrap_ok (a : Int) (s : ByteArray) (z : Value) (w : World) :
    Calls Tryz.prog 146 #[.agg #[.int .i64 a, .string s, z]] w fun e w' => e = .returned z ∧ w' = w.alloc (.cells #[.int .i64 a, .string s, z] 71) := by
  go_enter Tryz.func146, Tryz.ntmps146
  go_wp2
  go_ret
  exact ⟨rfl, rfl⟩
end Go.Proofs.YtlkoaldekmdcoaaGreatDoor
