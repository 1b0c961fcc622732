/-
  errors.as of the library at a pointer to api's number, for every chain of Faults around a number or nothing. Conditions: the target's variable is there and may be written.
-/
import Derived.Test.YtaodckojinbdfaaDoorFAs
import Derived.Deep.LoopGhost
namespace Go.Proofs.YtaodckojinbdfaaDoor
open Go.RowKit Go.Extern.Stop Go.Stop Go.Extern

theorem Tryd.ext41 (v : Value) (w : World) : (callFunc 41 #[v]).run Tryd.prog w = ((ReflectliteValue.unpack v).run Tryd.prog w).andThen fun v u => .ok (.value v) u :=
  @run_callFunc_extern Tryd.prog 41 _ (fun args => ReflectliteValue.unpack (args.getD 0 (.tuple #[]))) Tryd.func41 (by kernel_rfl) (by kernel_rfl) (by kernel_rfl) (by kernel_rfl) #[v] w
theorem Tryd.ext42 (args : Array Value) (w : World) : (callFunc 42 args).run Tryd.prog w = (((ReflectliteValue.methodAny (ReflectliteValue.valueError "reflectlite.Value.Type" 0) (fun t _ _ _ => ReflectliteType.toType t)) args).run Tryd.prog w).andThen fun v u => .ok (.value v) u :=
  @run_callFunc_extern Tryd.prog 42 _ (ReflectliteValue.methodAny (ReflectliteValue.valueError "reflectlite.Value.Type" 0) (fun t _ _ _ => ReflectliteType.toType t)) Tryd.func42 (by kernel_rfl) (by kernel_rfl) (by kernel_rfl) (by kernel_rfl) args w
theorem Tryd.ext43 (args : Array Value) (w : World) : (callFunc 43 args).run Tryd.prog w = (((ReflectliteValue.method (ReflectliteValue.valueError "reflectlite.Value.IsNil" 0) ReflectliteValue.isNil) args).run Tryd.prog w).andThen fun v u => .ok (.value v) u :=
  @run_callFunc_extern Tryd.prog 43 _ (ReflectliteValue.method (ReflectliteValue.valueError "reflectlite.Value.IsNil" 0) ReflectliteValue.isNil) Tryd.func43 (by kernel_rfl) (by kernel_rfl) (by kernel_rfl) (by kernel_rfl) args w
theorem Tryd.ext104 (args : Array Value) (w : World) : (callFunc 104 args).run Tryd.prog w = (((ReflectliteType.abiMethod fun t => do pure (.int .u8 (← Rtype.kind t))) args).run Tryd.prog w).andThen fun v u => .ok (.value v) u :=
  @run_callFunc_extern Tryd.prog 104 _ (ReflectliteType.abiMethod fun t => do pure (.int .u8 (← Rtype.kind t))) Tryd.func104 (by kernel_rfl) (by kernel_rfl) (by kernel_rfl) (by kernel_rfl) args w
theorem Tryd.ext116 (args : Array Value) (w : World) : (callFunc 116 args).run Tryd.prog w = (((ReflectliteType.method ReflectliteType.elem) args).run Tryd.prog w).andThen fun v u => .ok (.value v) u :=
  @run_callFunc_extern Tryd.prog 116 _ (ReflectliteType.method ReflectliteType.elem) Tryd.func116 (by kernel_rfl) (by kernel_rfl) (by kernel_rfl) (by kernel_rfl) args w
theorem Tryd.ext117 (args : Array Value) (w : World) : (callFunc 117 args).run Tryd.prog w = (((ReflectliteType.relation "Implements" ReflectliteType.implements_) args).run Tryd.prog w).andThen fun v u => .ok (.value v) u :=
  @run_callFunc_extern Tryd.prog 117 _ (ReflectliteType.relation "Implements" ReflectliteType.implements_) Tryd.func117 (by kernel_rfl) (by kernel_rfl) (by kernel_rfl) (by kernel_rfl) args w
theorem Tryd.ext57 (args : Array Value) (w : World) : (callFunc 57 args).run Tryd.prog w = ((ReflectliteType.typeOf args).run Tryd.prog w).andThen fun v u => .ok (.value v) u :=
  @run_callFunc_extern Tryd.prog 57 _ ReflectliteType.typeOf Tryd.func57 (by kernel_rfl) (by kernel_rfl) (by kernel_rfl) (by kernel_rfl) args w
theorem Tryd.ext114 (args : Array Value) (w : World) : (callFunc 114 args).run Tryd.prog w = (((ReflectliteType.relation "AssignableTo" ReflectliteType.assignableTo) args).run Tryd.prog w).andThen fun v u => .ok (.value v) u :=
  @run_callFunc_extern Tryd.prog 114 _ (ReflectliteType.relation "AssignableTo" ReflectliteType.assignableTo) Tryd.func114 (by kernel_rfl) (by kernel_rfl) (by kernel_rfl) (by kernel_rfl) args w
theorem Tryd.ext115 (args : Array Value) (w : World) : (callFunc 115 args).run Tryd.prog w = (((ReflectliteType.method (fun t => do Rtype.noPackHeld "Comparable" t; pure (.bool (← typeInfo t).comparable))) args).run Tryd.prog w).andThen fun v u => .ok (.value v) u :=
  @run_callFunc_extern Tryd.prog 115 _ (ReflectliteType.method (fun t => do Rtype.noPackHeld "Comparable" t; pure (.bool (← typeInfo t).comparable))) Tryd.func115 (by kernel_rfl) (by kernel_rfl) (by kernel_rfl) (by kernel_rfl) args w
theorem Tryd.ext58 (args : Array Value) (w : World) : (callFunc 58 args).run Tryd.prog w = (((ReflectliteValue.method (ReflectliteValue.valueError "reflectlite.Value.Elem" 0) ReflectliteValue.elem) args).run Tryd.prog w).andThen fun v u => .ok (.value v) u :=
  @run_callFunc_extern Tryd.prog 58 _ (ReflectliteValue.method (ReflectliteValue.valueError "reflectlite.Value.Elem" 0) ReflectliteValue.elem) Tryd.func58 (by kernel_rfl) (by kernel_rfl) (by kernel_rfl) (by kernel_rfl) args w
theorem Tryd.ext59 (args : Array Value) (w : World) : (callFunc 59 args).run Tryd.prog w = ((ReflectliteValue.set args).run Tryd.prog w).andThen fun v u => .ok (.value v) u :=
  @run_callFunc_extern Tryd.prog 59 _ ReflectliteValue.set Tryd.func59 (by kernel_rfl) (by kernel_rfl) (by kernel_rfl) (by kernel_rfl) args w
theorem Tryd.c33_57 (t : Addr) (w : World) : (callFunc 41 #[.iface 66 (.pointer (some t))]).run Tryd.prog w = .ok (.value (.agg #[.pointer (some ⟨4, 66, none⟩), .pointer (some ⟨w.heap.size, 0, none⟩), .int .u64 150])) (w.alloc (.cells #[.pointer (some t)] 66)) := by
  rw [Tryd.ext41]; show Result.andThen (Sem.run _ _ _) _ = _; rw [Tryd.valueOf57]; rfl
theorem Tryd.c34_57 (a : Addr) (w : World) : (callFunc 42 #[.agg #[.pointer (some ⟨4, 66, none⟩), .pointer (some a), .int .u64 150]]).run Tryd.prog w = .ok (.value (.iface 102 (.agg #[.pointer (some ⟨4, 66, none⟩)]))) w := by
  rw [Tryd.ext42]; show Result.andThen (Sem.run _ _ _) _ = _; rw [Tryd.type57]; rfl
theorem Tryd.c35_57 (a p : Addr) (w : World) (ha : w.cell? a = some (.pointer (some p))) : (callFunc 43 #[.agg #[.pointer (some ⟨4, 66, none⟩), .pointer (some a), .int .u64 150]]).run Tryd.prog w = .ok (.value (.bool false)) w := by
  rw [Tryd.ext43]; show Result.andThen (Sem.run _ _ _) _ = _; rw [Tryd.isNil57 _ _ _ ha]; rfl
theorem Tryd.c33_77 (t : Addr) (w : World) : (callFunc 41 #[.iface 75 (.pointer (some t))]).run Tryd.prog w = .ok (.value (.agg #[.pointer (some ⟨4, 75, none⟩), .pointer (some ⟨w.heap.size, 0, none⟩), .int .u64 150])) (w.alloc (.cells #[.pointer (some t)] 75)) := by
  rw [Tryd.ext41]; show Result.andThen (Sem.run _ _ _) _ = _; rw [Tryd.valueOf77]; rfl
theorem Tryd.c34_77 (a : Addr) (w : World) : (callFunc 42 #[.agg #[.pointer (some ⟨4, 75, none⟩), .pointer (some a), .int .u64 150]]).run Tryd.prog w = .ok (.value (.iface 102 (.agg #[.pointer (some ⟨4, 75, none⟩)]))) w := by
  rw [Tryd.ext42]; show Result.andThen (Sem.run _ _ _) _ = _; rw [Tryd.type77]; rfl
theorem Tryd.c35_77 (a p : Addr) (w : World) (ha : w.cell? a = some (.pointer (some p))) : (callFunc 43 #[.agg #[.pointer (some ⟨4, 75, none⟩), .pointer (some a), .int .u64 150]]).run Tryd.prog w = .ok (.value (.bool false)) w := by
  rw [Tryd.ext43]; show Result.andThen (Sem.run _ _ _) _ = _; rw [Tryd.isNil77 _ _ _ ha]; rfl
theorem Tryd.c33_31 (n : Int) (w : World) : (callFunc 41 #[.iface 37 (.int .i64 n)]).run Tryd.prog w = .ok (.value (.agg #[.pointer (some ⟨4, 37, none⟩), .pointer (some ⟨w.heap.size, 0, none⟩), .int .u64 130])) (w.alloc (.cells #[.int .i64 n] 37)) := by
  rw [Tryd.ext41]; show Result.andThen (Sem.run _ _ _) _ = _; rw [Tryd.valueOf31]; rfl
theorem Tryd.c33_44 (a b c : Value) (w : World) : (callFunc 41 #[.iface 61 (.agg #[a, b, c])]).run Tryd.prog w = .ok (.value (.agg #[.pointer (some ⟨4, 61, none⟩), .pointer (some ⟨w.heap.size, 0, none⟩), .int .u64 153])) (w.alloc (.cells #[a, b, c] 61)) := by
  rw [Tryd.ext41]; show Result.andThen (Sem.run _ _ _) _ = _; rw [Tryd.valueOf44]; rfl
theorem Tryd.c69_57 (w : World) : (callFunc 104 #[.pointer (some ⟨4, 66, none⟩)]).run Tryd.prog w = .ok (.value (.int .u8 22)) w := by
  rw [Tryd.ext104]; kernel_rfl
theorem Tryd.c69_77 (w : World) : (callFunc 104 #[.pointer (some ⟨4, 75, none⟩)]).run Tryd.prog w = .ok (.value (.int .u8 22)) w := by
  rw [Tryd.ext104]; kernel_rfl
theorem Tryd.c69_31 (w : World) : (callFunc 104 #[.pointer (some ⟨4, 37, none⟩)]).run Tryd.prog w = .ok (.value (.int .u8 2)) w := by
  rw [Tryd.ext104]; kernel_rfl
theorem Tryd.c69_44 (w : World) : (callFunc 104 #[.pointer (some ⟨4, 61, none⟩)]).run Tryd.prog w = .ok (.value (.int .u8 25)) w := by
  rw [Tryd.ext104]; kernel_rfl
theorem Tryd.c80_57  (w : World) : (callFunc 116 #[.agg #[.pointer (some ⟨4, 66, none⟩)]]).run Tryd.prog w = .ok (.value (.iface 102 (.agg #[.pointer (some ⟨4, 37, none⟩)]))) w := by
  rw [Tryd.ext116]; show Result.andThen (Sem.run _ _ _) _ = _; rw [Tryd.elem57]; rfl
theorem Tryd.c81_31  (w : World) : (callFunc 117 #[.agg #[.pointer (some ⟨4, 37, none⟩)], .iface 102 (.agg #[.pointer (some ⟨4, 32, none⟩)])]).run Tryd.prog w = .ok (.value (.bool true)) w := by
  rw [Tryd.ext117]; show Result.andThen (Sem.run _ _ _) _ = _; rw [Tryd.implements31]; rfl
theorem Tryd.c41_57 (a p : Addr) (w : World) (ha : w.cell? a = some (.pointer (some p))) : (callFunc 58 #[.agg #[.pointer (some ⟨4, 66, none⟩), .pointer (some a), .int .u64 150]]).run Tryd.prog w = .ok (.value (.agg #[.pointer (some ⟨4, 37, none⟩), .pointer (some p), .int .u64 386])) w := by
  rw [Tryd.ext58]; show Result.andThen (Sem.run _ _ _) _ = _; rw [Tryd.elemV57 _ _ _ ha]; rfl
theorem Tryd.c80_77  (w : World) : (callFunc 116 #[.agg #[.pointer (some ⟨4, 75, none⟩)]]).run Tryd.prog w = .ok (.value (.iface 102 (.agg #[.pointer (some ⟨4, 61, none⟩)]))) w := by
  rw [Tryd.ext116]; show Result.andThen (Sem.run _ _ _) _ = _; rw [Tryd.elem77]; rfl
theorem Tryd.c81_44  (w : World) : (callFunc 117 #[.agg #[.pointer (some ⟨4, 61, none⟩)], .iface 102 (.agg #[.pointer (some ⟨4, 32, none⟩)])]).run Tryd.prog w = .ok (.value (.bool true)) w := by
  rw [Tryd.ext117]; show Result.andThen (Sem.run _ _ _) _ = _; rw [Tryd.implements44]; rfl
theorem Tryd.c41_77 (a p : Addr) (w : World) (ha : w.cell? a = some (.pointer (some p))) : (callFunc 58 #[.agg #[.pointer (some ⟨4, 75, none⟩), .pointer (some a), .int .u64 150]]).run Tryd.prog w = .ok (.value (.agg #[.pointer (some ⟨4, 61, none⟩), .pointer (some p), .int .u64 409])) w := by
  rw [Tryd.ext58]; show Result.andThen (Sem.run _ _ _) _ = _; rw [Tryd.elemV77 _ _ _ ha]; rfl
theorem Tryd.c38_31 (v : Value) (w : World) : (callFunc 57 #[.iface 37 v]).run Tryd.prog w = .ok (.value (.iface 102 (.agg #[.pointer (some ⟨4, 37, none⟩)]))) w := by
  rw [Tryd.ext57]; show Result.andThen (Sem.run _ _ _) _ = _; rw [Tryd.typeOf31]; rfl
theorem Tryd.c78_31_31  (w : World) : (callFunc 114 #[.agg #[.pointer (some ⟨4, 37, none⟩)], .iface 102 (.agg #[.pointer (some ⟨4, 37, none⟩)])]).run Tryd.prog w = .ok (.value (.bool true)) w := by
  rw [Tryd.ext114]; show Result.andThen (Sem.run _ _ _) _ = _; rw [Tryd.assign31to31]; rfl
theorem Tryd.c78_31_44  (w : World) : (callFunc 114 #[.agg #[.pointer (some ⟨4, 37, none⟩)], .iface 102 (.agg #[.pointer (some ⟨4, 61, none⟩)])]).run Tryd.prog w = .ok (.value (.bool false)) w := by
  rw [Tryd.ext114]; show Result.andThen (Sem.run _ _ _) _ = _; rw [Tryd.assign31to44]; rfl
theorem Tryd.c38_44 (v : Value) (w : World) : (callFunc 57 #[.iface 61 v]).run Tryd.prog w = .ok (.value (.iface 102 (.agg #[.pointer (some ⟨4, 61, none⟩)]))) w := by
  rw [Tryd.ext57]; show Result.andThen (Sem.run _ _ _) _ = _; rw [Tryd.typeOf44]; rfl
theorem Tryd.c78_44_31  (w : World) : (callFunc 114 #[.agg #[.pointer (some ⟨4, 61, none⟩)], .iface 102 (.agg #[.pointer (some ⟨4, 37, none⟩)])]).run Tryd.prog w = .ok (.value (.bool false)) w := by
  rw [Tryd.ext114]; show Result.andThen (Sem.run _ _ _) _ = _; rw [Tryd.assign44to31]; rfl
theorem Tryd.c78_44_44  (w : World) : (callFunc 114 #[.agg #[.pointer (some ⟨4, 61, none⟩)], .iface 102 (.agg #[.pointer (some ⟨4, 61, none⟩)])]).run Tryd.prog w = .ok (.value (.bool true)) w := by
  rw [Tryd.ext114]; show Result.andThen (Sem.run _ _ _) _ = _; rw [Tryd.assign44to44]; rfl
theorem Tryd.c79_31  (w : World) : (callFunc 115 #[.agg #[.pointer (some ⟨4, 37, none⟩)]]).run Tryd.prog w = .ok (.value (.bool true)) w := by
  rw [Tryd.ext115]; show Result.andThen (Sem.run _ _ _) _ = _; rw [Tryd.comparable31]; rfl
theorem Tryd.c42_31 (ta b : Addr) (n : Int) (old : Value) (w : World) (hb : w.cell? b = some (.int .i64 n)) (ht : w.cell? ta = some old) (hf : w.frozen? ta = false) : (callFunc 59 #[.agg #[.pointer (some ⟨4, 37, none⟩), .pointer (some ta), .int .u64 386], .agg #[.pointer (some ⟨4, 37, none⟩), .pointer (some b), .int .u64 130]]).run Tryd.prog w = .ok (.value (.tuple #[])) (w.setCell ta (.int .i64 n)) := by
  rw [Tryd.ext59]; show Result.andThen (Sem.run _ _ _) _ = _; rw [Tryd.set31 _ _ _ _ _ hb ht hf]; rfl
theorem Tryd.c42_44 (tb b : Nat) (x : Int) (y : ByteArray) (z x0 y0 z0 : Value) (w : World) (hz : z.oneCell' = true) (b0 : w.cell? ⟨b, 0, none⟩ = some (.int .i64 x)) (b1 : w.cell? ⟨b, 1, none⟩ = some (.string y)) (b2 : w.cell? ⟨b, 2, none⟩ = some z) (t0 : w.cell? ⟨tb, 0, none⟩ = some x0) (t1 : w.cell? ⟨tb, 1, none⟩ = some y0) (t2 : w.cell? ⟨tb, 2, none⟩ = some z0) (f0 : w.frozen? ⟨tb, 0, none⟩ = false) (f1 : w.frozen? ⟨tb, 1, none⟩ = false) (f2 : w.frozen? ⟨tb, 2, none⟩ = false) : (callFunc 59 #[.agg #[.pointer (some ⟨4, 61, none⟩), .pointer (some ⟨tb, 0, none⟩), .int .u64 409], .agg #[.pointer (some ⟨4, 61, none⟩), .pointer (some ⟨b, 0, none⟩), .int .u64 153]]).run Tryd.prog w = .ok (.value (.tuple #[])) (((w.setCell ⟨tb, 0, none⟩ (.int .i64 x)).setCell ⟨tb, 1, none⟩ (.string y)).setCell ⟨tb, 2, none⟩ z) := by
  rw [Tryd.ext59]; show Result.andThen (Sem.run _ _ _) _ = _; rw [Tryd.set44 _ _ _ _ _ _ _ _ _ hz b0 b1 b2 t0 t1 t2 f0 f1 f2]; rfl

/-- One Fault of a chain. -/
structure Lk where
  line : Int
  what : ByteArray
/-- What a chain ends with: a number, or nothing. -/
abbrev Base := Int ⊕ Unit
def Base.val : Base → Value
  | .inl n => .iface 37 (.int .i64 n)
  | .inr _ => .nilIface
/-- The error that a chain is. -/
def val (B : Base) : List Lk → Value
  | [] => B.val
  | l :: ls => .iface 61 (.agg #[.int .i64 l.line, .string l.what, val B ls])
theorem val_one (B : Base) (ls : List Lk) : (val B ls).oneCell' = true := by
  cases ls with
  | nil => rcases B with n | ⟨⟩ <;> rfl
  | cons l ls => rfl
def Base.isNum : Base → Bool
  | .inl _ => true
  | _ => false
def Base.put (t : Addr) (w : World) : Base → World
  | .inl n => w.setCell t (.int .i64 n)
  | _ => w

theorem unwrap_ok (a : Int) (s : ByteArray) (z : Value) (w : World) :
    Calls Tryd.prog 109 #[.agg #[.int .i64 a, .string s, z]] w fun e w' => e = .returned z ∧ w' = w.alloc (.cells #[.int .i64 a, .string s, z] 61) := by
  go_enter Tryd.func109, Tryd.ntmps109
  go_wp2
  go_ret
  exact ⟨rfl, rfl⟩
end Go.Proofs.YtaodckojinbdfaaDoor
