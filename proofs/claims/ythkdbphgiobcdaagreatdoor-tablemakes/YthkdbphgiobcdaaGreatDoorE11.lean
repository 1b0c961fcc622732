/-
  errors.As of the library at a pointer to api's number and at a pointer to a Fault,for every chain of Faults around a number or nothing.
  errors.as of the library at a pointer to api's number,for every chain of Faults around a number or nothing.
  errors.as and errors.As of the library at a pointer to api's number,for every chain of Faults around a number or nothing.
-/
import Derived.Test.YthkdbphgiobcdaaGreatDoorE10
import Derived.Below
import Derived.Test.YthkdbphgiobcdaaGreatDoorE0
import Derived.Deep.LoopGhost
namespace Go.Proofs.YthkdbphgiobcdaaGreatDoor
open Go.RowKit Go.Extern.Stop Go.Stop Go.Extern
def ET (w:World):Prop:=w.cell? ⟨0,0,none⟩=some (.iface 163 (.agg #[.pointer (some ⟨5,33,none⟩)]))
theorem ET.lt {w:World} (h:ET w):0<w.heap.size:=by
 rcases Nat.eq_zero_or_pos w.heap.size with h0 | h1
 ·simp [ET,World.cell?,h0] at h
 ·exact h1
theorem ET.stays {w w':World} (h:ET w) (b:Below w.heap.size w w'):ET w':=(b.cell (p:=⟨0,0,none⟩) h.lt).trans h
theorem Tryz.isNil57 (a p:Addr) (W:World) (ha:W.cell? a=some (.pointer (some p))) :
  (ReflectliteValue.method (ReflectliteValue.valueError "reflectlite.Value.IsNil" 0) ReflectliteValue.isNil #[.agg #[.pointer (some ⟨5, 72, none⟩), .pointer (some a), .int .u64 150]]).run Tryz.prog W = .ok (.bool false) W := by
 show Sem.run Tryz.prog (ReflectliteValue.parts (.agg #[.pointer (some ⟨5,72,none⟩),.pointer (some a),.int .u64 150]) >>= _) W=_
 simp only [Sem.run_bind,Tryz.parts57,Result.andThen]
 simp [ReflectliteValue.isNil,loadVar,isAgg,underlying,Tryz.underlying72,ha,Result.andThen]
theorem Tryz.elemV57 (a p:Addr) (W:World) (ha:W.cell? a=some (.pointer (some p))) :
  (ReflectliteValue.method (ReflectliteValue.valueError "reflectlite.Value.Elem" 0) ReflectliteValue.elem #[.agg #[.pointer (some ⟨5, 72, none⟩), .pointer (some a), .int .u64 150]]).run Tryz.prog W
   = .ok (.agg #[.pointer (some ⟨5,38,none⟩),.pointer (some p),.int .u64 386]) W:=by
 show Sem.run Tryz.prog (ReflectliteValue.parts (.agg #[.pointer (some ⟨5,72,none⟩),.pointer (some a),.int .u64 150]) >>= _) W=_
 simp only [Sem.run_bind,Tryz.parts57,Result.andThen]
 simp [ReflectliteValue.elem,loadVar,isAgg,underlying,Tryz.underlying72,ha,Result.andThen,Tryz.elemOf57,Tryz.mk31]
theorem Tryz.parts31a (a:Addr) (w:World):(ReflectliteValue.parts (.agg #[.pointer (some ⟨5,38,none⟩),.pointer (some a),.int .u64 386])).run Tryz.prog w=.ok (some (38,a,386)) w:=by kernel_rfl
theorem Tryz.parts31 (a:Addr) (w:World):(ReflectliteValue.parts (.agg #[.pointer (some ⟨5,38,none⟩),.pointer (some a),.int .u64 130])).run Tryz.prog w=.ok (some (38,a,130)) w:=by kernel_rfl
theorem Tryz.direct31 (w:World):(Rtype.directlyAssignable 38 38).run Tryz.prog w=.ok true w:=by kernel_rfl
theorem Tryz.isNil77 (a p:Addr) (W:World) (ha:W.cell? a=some (.pointer (some p))) :
  (ReflectliteValue.method (ReflectliteValue.valueError "reflectlite.Value.IsNil" 0) ReflectliteValue.isNil #[.agg #[.pointer (some ⟨5, 115, none⟩), .pointer (some a), .int .u64 150]]).run Tryz.prog W = .ok (.bool false) W := by
 show Sem.run Tryz.prog (ReflectliteValue.parts (.agg #[.pointer (some ⟨5,115,none⟩),.pointer (some a),.int .u64 150]) >>= _) W=_
 simp only [Sem.run_bind,Tryz.parts77,Result.andThen]
 simp [ReflectliteValue.isNil,loadVar,isAgg,underlying,Tryz.underlying115,ha,Result.andThen]
theorem Tryz.elemV77 (a p:Addr) (W:World) (ha:W.cell? a=some (.pointer (some p))) :
  (ReflectliteValue.method (ReflectliteValue.valueError "reflectlite.Value.Elem" 0) ReflectliteValue.elem #[.agg #[.pointer (some ⟨5, 115, none⟩), .pointer (some a), .int .u64 150]]).run Tryz.prog W
   = .ok (.agg #[.pointer (some ⟨5,74,none⟩),.pointer (some p),.int .u64 409]) W:=by
 show Sem.run Tryz.prog (ReflectliteValue.parts (.agg #[.pointer (some ⟨5,115,none⟩),.pointer (some a),.int .u64 150]) >>= _) W=_
 simp only [Sem.run_bind,Tryz.parts77,Result.andThen]
 simp [ReflectliteValue.elem,loadVar,isAgg,underlying,Tryz.underlying115,ha,Result.andThen,Tryz.elemOf77,Tryz.mk44]
theorem Tryz.parts44a (a:Addr) (w:World):(ReflectliteValue.parts (.agg #[.pointer (some ⟨5,74,none⟩),.pointer (some a),.int .u64 409])).run Tryz.prog w=.ok (some (74,a,409)) w:=by kernel_rfl
theorem Tryz.parts44 (a:Addr) (w:World):(ReflectliteValue.parts (.agg #[.pointer (some ⟨5,74,none⟩),.pointer (some a),.int .u64 153])).run Tryz.prog w=.ok (some (74,a,153)) w:=by kernel_rfl
theorem Tryz.direct44 (w:World):(Rtype.directlyAssignable 74 74).run Tryz.prog w=.ok true w:=by kernel_rfl
theorem Tryz.set31 (ta b:Addr) (n:Int) (old:Value) (W:World) (hb:W.cell? b=some (.int .i64 n)) (ht:W.cell? ta=some old) (hf:W.frozen? ta=false) :
  (ReflectliteValue.set #[.agg #[.pointer (some ⟨5,38,none⟩),.pointer (some ta),.int .u64 386],.agg #[.pointer (some ⟨5,38,none⟩),.pointer (some b),.int .u64 130]]).run Tryz.prog W
   = .ok (.tuple #[]) (W.setCell ta (.int .i64 n)):=by
 show Sem.run Tryz.prog (ReflectliteValue.parts (.agg #[.pointer (some ⟨5,38,none⟩),.pointer (some ta),.int .u64 386]) >>= _) W=_
 have p2:∀ (h1:(#[(.agg #[.pointer (some ⟨5,38,none⟩),.pointer (some ta),.int .u64 386]),(.agg #[.pointer (some ⟨5,38,none⟩),.pointer (some b),.int .u64 130])]:Array Value).size=2) (h2:1<2),(ReflectliteValue.parts ((#[(.agg #[.pointer (some ⟨5,38,none⟩),.pointer (some ta),.int .u64 386]),(.agg #[.pointer (some ⟨5,38,none⟩),.pointer (some b),.int .u64 130])]:Array Value).getLit 1 h1 h2)).run Tryz.prog W=.ok (some (38,b,130)) W:=fun _ _=>Tryz.parts31 b W
 simp only [Sem.run_bind,Tryz.parts31a,p2,Result.andThen]
 simp [ReflectliteValue.flagAddr,loadVar,isAgg,underlying,Tryz.underlying38,hb,Result.andThen,Tryz.direct31,storeVar,Value.cells,storeCells,Addr.add]
 rw [run_store Tryz.prog W ta _ _ (by rfl)]
 simp [ht,hf]
theorem store_ok (a:Addr) (v old:Value) (W:World) (hv:v.oneCell'=true) (h:W.cell? a=some old) (f:W.frozen? a=false) :
  (store a v).run Tryz.prog W=.ok () (W.setCell a v):=by
 rw [run_store _ _ _ _ _ hv];simp [h,f]
theorem Tryz.set44 (tb b:Nat) (x:Int) (y:ByteArray) (z x0 y0 z0:Value) (W:World) (hz:z.oneCell'=true)
  (b0:W.cell? ⟨b,0,none⟩=some (.int .i64 x)) (b1:W.cell? ⟨b,1,none⟩=some (.string y)) (b2:W.cell? ⟨b,2,none⟩=some z)
  (t0:W.cell? ⟨tb,0,none⟩=some x0) (t1:W.cell? ⟨tb,1,none⟩=some y0) (t2:W.cell? ⟨tb,2,none⟩=some z0)
  (f0:W.frozen? ⟨tb,0,none⟩=false) (f1:W.frozen? ⟨tb,1,none⟩=false) (f2:W.frozen? ⟨tb,2,none⟩=false) :
  (ReflectliteValue.set #[.agg #[.pointer (some ⟨5,74,none⟩),.pointer (some ⟨tb,0,none⟩),.int .u64 409],.agg #[.pointer (some ⟨5,74,none⟩),.pointer (some ⟨b,0,none⟩),.int .u64 153]]).run Tryz.prog W
   = .ok (.tuple #[]) (((W.setCell ⟨tb,0,none⟩ (.int .i64 x)).setCell ⟨tb,1,none⟩ (.string y)).setCell ⟨tb,2,none⟩ z):=by
 show Sem.run Tryz.prog (ReflectliteValue.parts (.agg #[.pointer (some ⟨5,74,none⟩),.pointer (some ⟨tb,0,none⟩),.int .u64 409]) >>= _) W=_
 have p2:∀ (h1:(#[(.agg #[.pointer (some ⟨5,74,none⟩),.pointer (some ⟨tb,0,none⟩),.int .u64 409]),(.agg #[.pointer (some ⟨5,74,none⟩),.pointer (some ⟨b,0,none⟩),.int .u64 153])]:Array Value).size=2) (h2:1<2),(ReflectliteValue.parts ((#[(.agg #[.pointer (some ⟨5,74,none⟩),.pointer (some ⟨tb,0,none⟩),.int .u64 409]),(.agg #[.pointer (some ⟨5,74,none⟩),.pointer (some ⟨b,0,none⟩),.int .u64 153])]:Array Value).getLit 1 h1 h2)).run Tryz.prog W=.ok (some (74,⟨b,0,none⟩,153)) W:=fun _ _=>Tryz.parts44 ⟨b,0,none⟩ W
 simp only [Sem.run_bind,Tryz.parts44a,p2,Result.andThen]
 have L:(loadVar 74 ⟨b,0,none⟩).run Tryz.prog W=.ok (.agg #[.int .i64 x,.string y,z]) W:=by
  simp [loadVar,isAgg,underlying,Tryz.underlying74,Result.andThen,go_sem,b0,b1,b2]
 have S:(storeVar 74 ⟨tb,0,none⟩ (.agg #[.int .i64 x,.string y,z])).run Tryz.prog W=.ok () (((W.setCell ⟨tb,0,none⟩ (.int .i64 x)).setCell ⟨tb,1,none⟩ (.string y)).setCell ⟨tb,2,none⟩ z):=by
  have s0:=store_ok ⟨tb,0,none⟩ (.int .i64 x) x0 W rfl t0 f0
  have s1:=store_ok ⟨tb,1,none⟩ (.string y) y0 (W.setCell ⟨tb,0,none⟩ (.int .i64 x)) rfl
   ((World.cell?_setCell_other _ _ _ _ (by simp)).trans t1) ((World.frozen?_setCell _ _ _ _).trans f1)
  have s2:=store_ok ⟨tb,2,none⟩ z z0 ((W.setCell ⟨tb,0,none⟩ (.int .i64 x)).setCell ⟨tb,1,none⟩ (.string y)) hz
   ((World.cell?_setCell_other _ _ _ _ (by simp)).trans ((World.cell?_setCell_other _ _ _ _ (by simp)).trans t2)) ((World.frozen?_setCell _ _ _ _).trans ((World.frozen?_setCell _ _ _ _).trans f2))
  simp [storeVar,Value.cells,storeCells,Result.andThen,go_sem,s0,s1,s2]
 simp [ReflectliteValue.flagAddr,L,S,Result.andThen,Tryz.direct44]
theorem Tryz.ext69 (v:Value) (w:World):(callFunc 69 #[v]).run Tryz.prog w=((ReflectliteValue.unpack v).run Tryz.prog w).andThen fun v u=>.ok (.value v) u :=
 @run_callFunc_extern Tryz.prog 69 _ (fun args=>ReflectliteValue.unpack (args.getD 0 (.tuple #[]))) Tryz.func69 (by kernel_rfl) (by kernel_rfl) (by kernel_rfl) (by kernel_rfl) #[v] w
theorem Tryz.ext70 (args : Array Value) (w : World) : (callFunc 70 args).run Tryz.prog w = (((ReflectliteValue.methodAny (ReflectliteValue.valueError "reflectlite.Value.Type" 0) (fun t _ _ _ => ReflectliteType.toType t)) args).run Tryz.prog w).andThen fun v u => .ok (.value v) u :=
 @run_callFunc_extern Tryz.prog 70 _ (ReflectliteValue.methodAny (ReflectliteValue.valueError "reflectlite.Value.Type" 0) (fun t _ _ _ => ReflectliteType.toType t)) Tryz.func70 (by kernel_rfl) (by kernel_rfl) (by kernel_rfl) (by kernel_rfl) args w
theorem Tryz.ext71 (args : Array Value) (w : World) : (callFunc 71 args).run Tryz.prog w = (((ReflectliteValue.method (ReflectliteValue.valueError "reflectlite.Value.IsNil" 0) ReflectliteValue.isNil) args).run Tryz.prog w).andThen fun v u => .ok (.value v) u :=
 @run_callFunc_extern Tryz.prog 71 _ (ReflectliteValue.method (ReflectliteValue.valueError "reflectlite.Value.IsNil" 0) ReflectliteValue.isNil) Tryz.func71 (by kernel_rfl) (by kernel_rfl) (by kernel_rfl) (by kernel_rfl) args w
theorem Tryz.ext217 (args:Array Value) (w:World):(callFunc 217 args).run Tryz.prog w=(((ReflectliteType.abiMethod fun t=>do pure (.int .u8 (← Rtype.kind t))) args).run Tryz.prog w).andThen fun v u=>.ok (.value v) u :=
 @run_callFunc_extern Tryz.prog 217 _ (ReflectliteType.abiMethod fun t=>do pure (.int .u8 (← Rtype.kind t))) Tryz.func217 (by kernel_rfl) (by kernel_rfl) (by kernel_rfl) (by kernel_rfl) args w
theorem Tryz.ext230 (args:Array Value) (w:World):(callFunc 230 args).run Tryz.prog w=(((ReflectliteType.method ReflectliteType.elem) args).run Tryz.prog w).andThen fun v u=>.ok (.value v) u :=
 @run_callFunc_extern Tryz.prog 230 _ (ReflectliteType.method ReflectliteType.elem) Tryz.func230 (by kernel_rfl) (by kernel_rfl) (by kernel_rfl) (by kernel_rfl) args w
theorem Tryz.ext231 (args : Array Value) (w : World) : (callFunc 231 args).run Tryz.prog w = (((ReflectliteType.relation "Implements" ReflectliteType.implements_) args).run Tryz.prog w).andThen fun v u => .ok (.value v) u :=
 @run_callFunc_extern Tryz.prog 231 _ (ReflectliteType.relation "Implements" ReflectliteType.implements_) Tryz.func231 (by kernel_rfl) (by kernel_rfl) (by kernel_rfl) (by kernel_rfl) args w
theorem Tryz.ext123 (args:Array Value) (w:World):(callFunc 123 args).run Tryz.prog w=((ReflectliteType.typeOf args).run Tryz.prog w).andThen fun v u=>.ok (.value v) u :=
 @run_callFunc_extern Tryz.prog 123 _ ReflectliteType.typeOf Tryz.func123 (by kernel_rfl) (by kernel_rfl) (by kernel_rfl) (by kernel_rfl) args w
theorem Tryz.ext228 (args : Array Value) (w : World) : (callFunc 228 args).run Tryz.prog w = (((ReflectliteType.relation "AssignableTo" ReflectliteType.assignableTo) args).run Tryz.prog w).andThen fun v u => .ok (.value v) u :=
 @run_callFunc_extern Tryz.prog 228 _ (ReflectliteType.relation "AssignableTo" ReflectliteType.assignableTo) Tryz.func228 (by kernel_rfl) (by kernel_rfl) (by kernel_rfl) (by kernel_rfl) args w
theorem Tryz.ext124 (args : Array Value) (w : World) : (callFunc 124 args).run Tryz.prog w = (((ReflectliteValue.method (ReflectliteValue.valueError "reflectlite.Value.Elem" 0) ReflectliteValue.elem) args).run Tryz.prog w).andThen fun v u => .ok (.value v) u :=
 @run_callFunc_extern Tryz.prog 124 _ (ReflectliteValue.method (ReflectliteValue.valueError "reflectlite.Value.Elem" 0) ReflectliteValue.elem) Tryz.func124 (by kernel_rfl) (by kernel_rfl) (by kernel_rfl) (by kernel_rfl) args w
theorem Tryz.ext125 (args:Array Value) (w:World):(callFunc 125 args).run Tryz.prog w=((ReflectliteValue.set args).run Tryz.prog w).andThen fun v u=>.ok (.value v) u :=
 @run_callFunc_extern Tryz.prog 125 _ ReflectliteValue.set Tryz.func125 (by kernel_rfl) (by kernel_rfl) (by kernel_rfl) (by kernel_rfl) args w
theorem Tryz.c33_57 (t:Addr) (w:World):(callFunc 69 #[.iface 72 (.pointer (some t))]).run Tryz.prog w=.ok (.value (.agg #[.pointer (some ⟨5,72,none⟩),.pointer (some ⟨w.heap.size,0,none⟩),.int .u64 150])) (w.alloc (.cells #[.pointer (some t)] 72)):=by
 rw [Tryz.ext69];show Result.andThen (Sem.run _ _ _) _=_;rw [Tryz.valueOf57];rfl
theorem Tryz.c34_57 (a:Addr) (w:World):(callFunc 70 #[.agg #[.pointer (some ⟨5,72,none⟩),.pointer (some a),.int .u64 150]]).run Tryz.prog w=.ok (.value (.iface 163 (.agg #[.pointer (some ⟨5,72,none⟩)]))) w:=by
 rw [Tryz.ext70];show Result.andThen (Sem.run _ _ _) _=_;rw [Tryz.type57];rfl
theorem Tryz.c35_57 (a p:Addr) (w:World) (ha:w.cell? a=some (.pointer (some p))):(callFunc 71 #[.agg #[.pointer (some ⟨5,72,none⟩),.pointer (some a),.int .u64 150]]).run Tryz.prog w=.ok (.value (.bool false)) w:=by
 rw [Tryz.ext71];show Result.andThen (Sem.run _ _ _) _=_;rw [Tryz.isNil57 _ _ _ ha];rfl
theorem Tryz.c33_77 (t:Addr) (w:World):(callFunc 69 #[.iface 115 (.pointer (some t))]).run Tryz.prog w=.ok (.value (.agg #[.pointer (some ⟨5,115,none⟩),.pointer (some ⟨w.heap.size,0,none⟩),.int .u64 150])) (w.alloc (.cells #[.pointer (some t)] 115)):=by
 rw [Tryz.ext69];show Result.andThen (Sem.run _ _ _) _=_;rw [Tryz.valueOf77];rfl
theorem Tryz.c34_77 (a:Addr) (w:World):(callFunc 70 #[.agg #[.pointer (some ⟨5,115,none⟩),.pointer (some a),.int .u64 150]]).run Tryz.prog w=.ok (.value (.iface 163 (.agg #[.pointer (some ⟨5,115,none⟩)]))) w:=by
 rw [Tryz.ext70];show Result.andThen (Sem.run _ _ _) _=_;rw [Tryz.type77];rfl
theorem Tryz.c35_77 (a p:Addr) (w:World) (ha:w.cell? a=some (.pointer (some p))):(callFunc 71 #[.agg #[.pointer (some ⟨5,115,none⟩),.pointer (some a),.int .u64 150]]).run Tryz.prog w=.ok (.value (.bool false)) w:=by
 rw [Tryz.ext71];show Result.andThen (Sem.run _ _ _) _=_;rw [Tryz.isNil77 _ _ _ ha];rfl
theorem Tryz.c33_31 (n:Int) (w:World):(callFunc 69 #[.iface 38 (.int .i64 n)]).run Tryz.prog w=.ok (.value (.agg #[.pointer (some ⟨5,38,none⟩),.pointer (some ⟨w.heap.size,0,none⟩),.int .u64 130])) (w.alloc (.cells #[.int .i64 n] 38)):=by
 rw [Tryz.ext69];show Result.andThen (Sem.run _ _ _) _=_;rw [Tryz.valueOf31];rfl
theorem Tryz.c33_44 (a b c:Value) (w:World):(callFunc 69 #[.iface 74 (.agg #[a,b,c])]).run Tryz.prog w=.ok (.value (.agg #[.pointer (some ⟨5,74,none⟩),.pointer (some ⟨w.heap.size,0,none⟩),.int .u64 153])) (w.alloc (.cells #[a,b,c] 74)):=by
 rw [Tryz.ext69];show Result.andThen (Sem.run _ _ _) _=_;rw [Tryz.valueOf44];rfl
theorem Tryz.c69_57 (w:World):(callFunc 217 #[.pointer (some ⟨5,72,none⟩)]).run Tryz.prog w=.ok (.value (.int .u8 22)) w:=by
 rw [Tryz.ext217];kernel_rfl
theorem Tryz.c69_77 (w:World):(callFunc 217 #[.pointer (some ⟨5,115,none⟩)]).run Tryz.prog w=.ok (.value (.int .u8 22)) w:=by
 rw [Tryz.ext217];kernel_rfl
theorem Tryz.c69_31 (w:World):(callFunc 217 #[.pointer (some ⟨5,38,none⟩)]).run Tryz.prog w=.ok (.value (.int .u8 2)) w:=by
 rw [Tryz.ext217];kernel_rfl
theorem Tryz.c69_44 (w:World):(callFunc 217 #[.pointer (some ⟨5,74,none⟩)]).run Tryz.prog w=.ok (.value (.int .u8 25)) w:=by
 rw [Tryz.ext217];kernel_rfl
theorem Tryz.c80_57  (w:World):(callFunc 230 #[.agg #[.pointer (some ⟨5,72,none⟩)]]).run Tryz.prog w=.ok (.value (.iface 163 (.agg #[.pointer (some ⟨5,38,none⟩)]))) w:=by
 rw [Tryz.ext230];show Result.andThen (Sem.run _ _ _) _=_;rw [Tryz.elem57];rfl
theorem Tryz.c81_31  (w:World):(callFunc 231 #[.agg #[.pointer (some ⟨5,38,none⟩)],.iface 163 (.agg #[.pointer (some ⟨5,33,none⟩)])]).run Tryz.prog w=.ok (.value (.bool true)) w:=by
 rw [Tryz.ext231];show Result.andThen (Sem.run _ _ _) _=_;rw [Tryz.implements31];rfl
theorem Tryz.c41_57 (a p:Addr) (w:World) (ha:w.cell? a=some (.pointer (some p))):(callFunc 124 #[.agg #[.pointer (some ⟨5,72,none⟩),.pointer (some a),.int .u64 150]]).run Tryz.prog w=.ok (.value (.agg #[.pointer (some ⟨5,38,none⟩),.pointer (some p),.int .u64 386])) w:=by
 rw [Tryz.ext124];show Result.andThen (Sem.run _ _ _) _=_;rw [Tryz.elemV57 _ _ _ ha];rfl
theorem Tryz.c80_77  (w:World):(callFunc 230 #[.agg #[.pointer (some ⟨5,115,none⟩)]]).run Tryz.prog w=.ok (.value (.iface 163 (.agg #[.pointer (some ⟨5,74,none⟩)]))) w:=by
 rw [Tryz.ext230];show Result.andThen (Sem.run _ _ _) _=_;rw [Tryz.elem77];rfl
theorem Tryz.c81_44  (w:World):(callFunc 231 #[.agg #[.pointer (some ⟨5,74,none⟩)],.iface 163 (.agg #[.pointer (some ⟨5,33,none⟩)])]).run Tryz.prog w=.ok (.value (.bool true)) w:=by
 rw [Tryz.ext231];show Result.andThen (Sem.run _ _ _) _=_;rw [Tryz.implements44];rfl
theorem Tryz.c41_77 (a p:Addr) (w:World) (ha:w.cell? a=some (.pointer (some p))):(callFunc 124 #[.agg #[.pointer (some ⟨5,115,none⟩),.pointer (some a),.int .u64 150]]).run Tryz.prog w=.ok (.value (.agg #[.pointer (some ⟨5,74,none⟩),.pointer (some p),.int .u64 409])) w:=by
 rw [Tryz.ext124];show Result.andThen (Sem.run _ _ _) _=_;rw [Tryz.elemV77 _ _ _ ha];rfl
theorem Tryz.c38_31 (v:Value) (w:World):(callFunc 123 #[.iface 38 v]).run Tryz.prog w=.ok (.value (.iface 163 (.agg #[.pointer (some ⟨5,38,none⟩)]))) w:=by
 rw [Tryz.ext123];show Result.andThen (Sem.run _ _ _) _=_;rw [Tryz.typeOf31];rfl
theorem Tryz.c78_31_31  (w:World):(callFunc 228 #[.agg #[.pointer (some ⟨5,38,none⟩)],.iface 163 (.agg #[.pointer (some ⟨5,38,none⟩)])]).run Tryz.prog w=.ok (.value (.bool true)) w:=by
 rw [Tryz.ext228];show Result.andThen (Sem.run _ _ _) _=_;rw [Tryz.assign31to31];rfl
theorem Tryz.c78_31_44  (w:World):(callFunc 228 #[.agg #[.pointer (some ⟨5,38,none⟩)],.iface 163 (.agg #[.pointer (some ⟨5,74,none⟩)])]).run Tryz.prog w=.ok (.value (.bool false)) w:=by
 rw [Tryz.ext228];show Result.andThen (Sem.run _ _ _) _=_;rw [Tryz.assign31to44];rfl
theorem Tryz.c38_44 (v:Value) (w:World):(callFunc 123 #[.iface 74 v]).run Tryz.prog w=.ok (.value (.iface 163 (.agg #[.pointer (some ⟨5,74,none⟩)]))) w:=by
 rw [Tryz.ext123];show Result.andThen (Sem.run _ _ _) _=_;rw [Tryz.typeOf44];rfl
theorem Tryz.c78_44_31  (w:World):(callFunc 228 #[.agg #[.pointer (some ⟨5,74,none⟩)],.iface 163 (.agg #[.pointer (some ⟨5,38,none⟩)])]).run Tryz.prog w=.ok (.value (.bool false)) w:=by
 rw [Tryz.ext228];show Result.andThen (Sem.run _ _ _) _=_;rw [Tryz.assign44to31];rfl
theorem Tryz.c78_44_44  (w:World):(callFunc 228 #[.agg #[.pointer (some ⟨5,74,none⟩)],.iface 163 (.agg #[.pointer (some ⟨5,74,none⟩)])]).run Tryz.prog w=.ok (.value (.bool true)) w:=by
 rw [Tryz.ext228];show Result.andThen (Sem.run _ _ _) _=_;rw [Tryz.assign44to44];rfl
theorem Tryz.c42_31 (ta b:Addr) (n:Int) (old:Value) (w:World) (hb:w.cell? b=some (.int .i64 n)) (ht:w.cell? ta=some old) (hf:w.frozen? ta=false):(callFunc 125 #[.agg #[.pointer (some ⟨5,38,none⟩),.pointer (some ta),.int .u64 386],.agg #[.pointer (some ⟨5,38,none⟩),.pointer (some b),.int .u64 130]]).run Tryz.prog w=.ok (.value (.tuple #[])) (w.setCell ta (.int .i64 n)):=by
 rw [Tryz.ext125];show Result.andThen (Sem.run _ _ _) _=_;rw [Tryz.set31 _ _ _ _ _ hb ht hf];rfl
theorem Tryz.c42_44 (tb b:Nat) (x:Int) (y:ByteArray) (z x0 y0 z0:Value) (w:World) (hz:z.oneCell'=true) (b0:w.cell? ⟨b,0,none⟩=some (.int .i64 x)) (b1:w.cell? ⟨b,1,none⟩=some (.string y)) (b2:w.cell? ⟨b,2,none⟩=some z) (t0:w.cell? ⟨tb,0,none⟩=some x0) (t1:w.cell? ⟨tb,1,none⟩=some y0) (t2:w.cell? ⟨tb,2,none⟩=some z0) (f0:w.frozen? ⟨tb,0,none⟩=false) (f1:w.frozen? ⟨tb,1,none⟩=false) (f2:w.frozen? ⟨tb,2,none⟩=false):(callFunc 125 #[.agg #[.pointer (some ⟨5,74,none⟩),.pointer (some ⟨tb,0,none⟩),.int .u64 409],.agg #[.pointer (some ⟨5,74,none⟩),.pointer (some ⟨b,0,none⟩),.int .u64 153]]).run Tryz.prog w=.ok (.value (.tuple #[])) (((w.setCell ⟨tb,0,none⟩ (.int .i64 x)).setCell ⟨tb,1,none⟩ (.string y)).setCell ⟨tb,2,none⟩ z):=by
 rw [Tryz.ext125];show Result.andThen (Sem.run _ _ _) _=_;rw [Tryz.set44 _ _ _ _ _ _ _ _ _ hz b0 b1 b2 t0 t1 t2 f0 f1 f2];rfl
structure Lk where
 line:Int
 what:ByteArray
abbrev Base:=Int ⊕ Unit
def Base.val:Base→Value
 | .inl n=>.iface 38 (.int .i64 n)
 | .inr _=>.nilIface
def val (B:Base):List Lk→Value
 | []=>B.val
 | l :: ls=>.iface 74 (.agg #[.int .i64 l.line,.string l.what,val B ls])
theorem val_one (B:Base) (ls:List Lk):(val B ls).oneCell'=true:=by
 cases ls with
 | nil=>rcases B with n | ⟨⟩ <;> rfl
 | cons l ls=>rfl
def Base.isNum:Base→Bool
 | .inl _=>true
 | _=>false
def Base.put (t:Addr) (w:World):Base→World
 | .inl n=>w.setCell t (.int .i64 n)
 | _=>w
theorem unwrap_ok (a:Int) (s:ByteArray) (z:Value) (w:World) :
  Calls Tryz.prog 222 #[.agg #[.int .i64 a,.string s,z]] w fun e w'=>e=.returned z∧w'=w.alloc (.cells #[.int .i64 a,.string s,z] 74):=by
 go_enter Tryz.func222,Tryz.ntmps222
 go_wp2
 go_ret
 exact ⟨rfl,rfl⟩
theorem lt_of_cell {w:World} {a:Addr} {v:Value} (h:w.cell? a=some v):a.block<w.heap.size:=by
 rcases Nat.lt_or_ge a.block w.heap.size with h1 | h1
 ·exact h1
 ·simp [World.cell?,Array.getElem?_eq_none h1] at h
theorem val_is (B:Base) (ls:List Lk):(ls=[]∧B=(.inr ()))∨∃ T u,val B ls=.iface T u:=by
 cases ls with
 | nil =>
  rcases B with n | ⟨⟩
  ·exact .inr ⟨_,_,rfl⟩
  ·exact .inl ⟨rfl,rfl⟩
 | cons l ls=>exact .inr ⟨_,_,rfl⟩
set_option maxHeartbeats 4000000 in
theorem as36_num (B:Base) (ls:List Lk) (t a:Addr) (old:Value) (w:World) (ha:w.cell? a=some (.pointer (some t))) (ht:w.cell? t=some old) (hf:w.frozen? t=false)
  (T:TypeId) (u:Value) (hv:val B ls=.iface T u) :
  Calls Tryz.prog 72 #[val B ls,.iface 72 (.pointer (some t)),.agg #[.pointer (some ⟨5,72,none⟩),.pointer (some a),.int .u64 150],.iface 163 (.agg #[.pointer (some ⟨5,38,none⟩)])] w fun e w'=>e=.returned (.bool B.isNum)∧∃ w1,Below w.heap.size w w1∧w'=B.put t w1:=by
 have mA:=Tryz.methodAssignableTo
 have mU:=Tryz.methodUnwrap
 have la:=lt_of_cell ha
 have lt:=lt_of_cell ht
 obtain ⟨w1,hw1⟩:∃ w1,w1=w.alloc (.cells #[.pointer (some ⟨5,72,none⟩),.pointer (some a),.int .u64 150] 106):=⟨_,rfl⟩
 have b1:Below w.heap.size w w1:=by rw [hw1];exact (Below.refl _ _).alloc (Nat.le_refl _) _
 have s1:w1.heap.size=w.heap.size+1:=by rw [hw1];simp
 have x0:w1.cell? ⟨w.heap.size,0,none⟩=some (.pointer (some ⟨5,72,none⟩)):=by rw [hw1];simp
 have x1:w1.cell? ⟨w.heap.size,1,none⟩=some (.pointer (some a)):=by rw [hw1];simp
 have x2:w1.cell? ⟨w.heap.size,2,none⟩=some (.int .u64 150):=by rw [hw1];simp
 have HV:Hd (val B ls=.iface T u):=⟨hv⟩
 clear hv
 generalize hq:val B ls=q
 have HQ:Hd (val B ls=q):=⟨hq⟩
 clear hq
 go_enter Tryz.func72,Tryz.ntmps72
 go_wp2
 rw [←hw1]
 have HW:Hd (w1=w.alloc (.cells #[.pointer (some ⟨5,72,none⟩),.pointer (some a),.int .u64 150] 106)):=⟨hw1⟩
 clear hw1
 go_loopg [0] ls.length (fun g q' wr=>∃ ls':List Lk,ls'.length≤g∧q'=val B ls'∧(∃ T u,val B ls'=.iface T u)∧Below w1.heap.size w1 wr)
 case atStart=>exact ⟨ls,Nat.le_refl _,HQ.out.symm,⟨T,u,HV.out⟩,Below.refl _ _⟩
 case round =>
  obtain ⟨ls',hl,rfl,hT,hb⟩:=hrel
  have c0:wr.cell? ⟨w.heap.size,0,none⟩=some (.pointer (some ⟨5,72,none⟩)):=(hb.cell (p:=⟨w.heap.size,0,none⟩) (by rw [s1];exact Nat.lt_succ_self _)).trans x0
  have c1:wr.cell? ⟨w.heap.size,1,none⟩=some (.pointer (some a)):=(hb.cell (p:=⟨w.heap.size,1,none⟩) (by rw [s1];exact Nat.lt_succ_self _)).trans x1
  have c2:wr.cell? ⟨w.heap.size,2,none⟩=some (.int .u64 150):=(hb.cell (p:=⟨w.heap.size,2,none⟩) (by rw [s1];exact Nat.lt_succ_self _)).trans x2
  have BB:Hd (Below w.heap.size w wr):=⟨b1.trans (hb.mono b1.size)⟩
  have HB:Hd (Below w1.heap.size w1 wr):=⟨hb⟩
  have sz:w.heap.size<wr.heap.size:=by have:=hb.size;omega
  clear hb x0 x1 x2 b1 HW HQ HV
  cases ls' with
  | nil =>
   rcases B with n | ⟨⟩
   ·
    show Code.wp _ _ _ _ _
    obtain ⟨w2,hw2⟩:∃ w2,w2=wr.alloc (.cells #[.int .i64 n] 38):=⟨_,rfl⟩
    have b2:Below wr.heap.size wr w2:=by rw [hw2];exact (Below.refl _ _).alloc (Nat.le_refl _) _
    have y0:wr.cell? a=some (.pointer (some t)):=(BB.out.cell la).trans ha
    have y1:w2.cell? ⟨wr.heap.size,0,none⟩=some (.int .i64 n):=by rw [hw2];simp
    have y2:w2.cell? t=some old:=(b2.cell (by omega)).trans ((BB.out.cell lt).trans ht)
    have y3:w2.frozen? t=false:=(b2.frozen (by omega)).trans ((BB.out.frozen lt).trans hf)
    have k1:=Tryz.c38_31 (.int .i64 n)
    have k2:=Tryz.c78_31_31
    have k3:=Tryz.c41_57 a t wr y0
    have k4:=Tryz.c33_31 n wr
    rw [←hw2] at k4
    have k5:=Tryz.c42_31 t ⟨wr.heap.size,0,none⟩ n old w2 y1 y2 y3
    have R:Hd (Below w.heap.size w w2):=⟨BB.out.trans (b2.mono BB.out.size)⟩
    clear ha ht hf y0 y1 y2 y3 b2 hw2
    simp only [val,Base.val]
    go_wp2
    go_ret
    exact ⟨rfl,w2,R.out,rfl⟩
   ·obtain ⟨T,u,h⟩:=hT;cases h
  | cons l ls' =>
   obtain ⟨L,S⟩:=l
   obtain ⟨z,hz⟩:∃ z,z=val B ls':=⟨_,rfl⟩
   have HZ:Hd (z=val B ls'):=⟨hz⟩
   have k1:=Tryz.c38_44 (.agg #[.int .i64 L,.string S,z])
   have k2:=Tryz.c78_44_31
   have k3:=Tryz.as44_85 (.agg #[.int .i64 L,.string S,z])
   have k4:=Tryz.as44_88 (.agg #[.int .i64 L,.string S,z])
   have R:Hd (Below w1.heap.size w1 (wr.alloc (.cells #[.int .i64 L,.string S,z] 74))):=⟨HB.out.alloc (by omega) _⟩
   have R':Hd (Below w.heap.size w (wr.alloc (.cells #[.int .i64 L,.string S,z] 74))):=⟨BB.out.alloc BB.out.size _⟩
   clear ha ht hf hT
   simp only [val]
   rw [←hz]
   clear hz
   rcases val_is B ls' with ⟨rfl,rfl⟩ | ⟨T',u',h'⟩
   ·obtain rfl:z=.nilIface:=HZ.out
    go_wp2_with (go_at_call 222;refine (unwrap_ok L S _ _).mono ?_;rintro e w' ⟨rfl,rfl⟩)
    go_ret
    exact ⟨rfl,_,R'.out,rfl⟩
   ·obtain rfl:z=.iface T' u':=HZ.out.trans h'
    have HH:Hd (val B ls'=.iface T' u'):=⟨h'⟩
    clear h' HZ
    go_wp2_with (go_at_call 222;refine (unwrap_ok L S _ _).mono ?_;rintro e w' ⟨rfl,rfl⟩)
    obtain ⟨g,rfl⟩:∃ g,gk=g+1:=⟨gk - 1,by simp at hl;omega⟩
    go_roundg g
    case rel=>exact ⟨ls',by simp at hl;omega,HH.out.symm,⟨T',u',HH.out⟩,R.out⟩
    case measure=>exact Nat.lt_succ_self _
theorem as_nil (t:Value) (w:World) :
  Calls Tryz.prog 33 #[.nilIface,t] w fun e w'=>e=.returned (.bool false)∧w'=w:=by
 go_enter Tryz.func33,Tryz.ntmps33
 go_wp2
 go_ret
 exact ⟨rfl,rfl⟩
set_option maxHeartbeats 4000000 in
theorem as_num (B:Base) (ls:List Lk) (t:Addr) (old:Value) (w:World) (he:ET w) (ht:w.cell? t=some old) (hf:w.frozen? t=false)
  (T:TypeId) (u:Value) (hv:val B ls=.iface T u) :
  Calls Tryz.prog 33 #[val B ls,.iface 72 (.pointer (some t))] w fun e w'=>e=.returned (.bool B.isNum)∧∃ w1,Below w.heap.size w w1∧w'=B.put t w1:=by
 have mK:=Tryz.methodKind
 have mE:=Tryz.methodElem
 have mI:=Tryz.methodImplements
 have lt:=lt_of_cell ht
 have k1:=Tryz.c33_57 t w
 have k2:=Tryz.c34_57
 have k3:=Tryz.c69_57
 have k4:=Tryz.c69_31
 have k5:=Tryz.c80_57
 have k6:=Tryz.c81_31
 obtain ⟨w2,hw2⟩:∃ w2,w2=(w.alloc (.cells #[.pointer (some t)] 72)).alloc (.cells #[.pointer (some ⟨5,72,none⟩),.pointer (some ⟨w.heap.size,0,none⟩),.int .u64 150] 106):=⟨_,rfl⟩
 have b2:Below w.heap.size w w2:=by rw [hw2];exact ((Below.refl _ _).alloc (Nat.le_refl _) _).alloc (by simp) _
 have k7:=Tryz.c35_57 ⟨w.heap.size,0,none⟩ t w2 (by rw [hw2];simp)
 have y0:w2.cell? ⟨w.heap.size,0,none⟩=some (.pointer (some t)):=by rw [hw2];simp
 have x0:w2.cell? ⟨w.heap.size+1,0,none⟩=some (.pointer (some ⟨5,72,none⟩)):=by rw [hw2];simp
 have x1:w2.cell? ⟨w.heap.size+1,1,none⟩=some (.pointer (some ⟨w.heap.size,0,none⟩)):=by rw [hw2];simp
 have x2:w2.cell? ⟨w.heap.size+1,2,none⟩=some (.int .u64 150):=by rw [hw2];simp
 have e2:w2.cell? ⟨0,0,none⟩=some (.iface 163 (.agg #[.pointer (some ⟨5,33,none⟩)])):=he.stays b2
 have C:=as36_num B ls t ⟨w.heap.size,0,none⟩ old w2 y0 ((b2.cell lt).trans ht) ((b2.frozen lt).trans hf) T u hv
 have BB:Hd (Below w.heap.size w w2):=⟨b2⟩
 clear he ht hf y0 b2
 rw [hv] at C ⊢
 clear hv
 clear x0 x1 x2
 subst hw2
 go_enter Tryz.func33,Tryz.ntmps33
 go_wp2_with (go_at_call 72;refine C.mono ?_;rintro e w' ⟨rfl,w3,hb3,rfl⟩)
 go_ret
 exact ⟨rfl,w3,BB.out.trans (hb3.mono BB.out.size),rfl⟩
end Go.Proofs.YthkdbphgiobcdaaGreatDoor
