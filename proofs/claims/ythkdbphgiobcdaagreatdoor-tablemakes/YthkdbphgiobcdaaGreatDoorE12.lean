/-
  errors.as and errors.As of the library at a pointer to a Fault, for every chain of Faults around a number or nothing.
  'answers' of the program: what the function that it is handed answers, at a function that does not panic.
  'Code', 'Is', 'At' and 'Of' of the program, for every chain of Faults around a number or nothing.
  'nearest', 'Line' and 'What' of the program, for every chain of Faults around a number or nothing.
-/
import Derived.Test.YthkdbphgiobcdaaGreatDoorE11
import Derived.Defers
import Derived.Recover
import Derived.Laws.Pointers
import Derived.Shelf.Abstract
namespace Go.Proofs.YthkdbphgiobcdaaGreatDoor
open Go.RowKit Go.Extern.Stop Go.Stop Go.Extern
def set3 (tb:Nat) (x:Int) (y:ByteArray) (z:Value) (w:World):World :=
 ((w.setCell ⟨tb,0,none⟩ (.int .i64 x)).setCell ⟨tb,1,none⟩ (.string y)).setCell ⟨tb,2,none⟩ z
structure Flt (w:World) (b:Nat) (x:Int) (y:ByteArray) (z:Value):Prop where
 c0:w.cell? ⟨b,0,none⟩=some (.int .i64 x)
 c1:w.cell? ⟨b,1,none⟩=some (.string y)
 c2:w.cell? ⟨b,2,none⟩=some z
 f0:w.frozen? ⟨b,0,none⟩=false
 f1:w.frozen? ⟨b,1,none⟩=false
 f2:w.frozen? ⟨b,2,none⟩=false
theorem Flt.lt {w:World} {b:Nat} {x:Int} {y:ByteArray} {z:Value} (h:Flt w b x y z):b<w.heap.size:=lt_of_cell h.c0
theorem Flt.stays {w w':World} {b B:Nat} {x:Int} {y:ByteArray} {z:Value} (h:Flt w b x y z) (g:Below B w w') (hB:b<B):Flt w' b x y z :=
 ⟨(g.cell (p:=⟨b,0,none⟩) hB).trans h.c0,(g.cell (p:=⟨b,1,none⟩) hB).trans h.c1,(g.cell (p:=⟨b,2,none⟩) hB).trans h.c2,
  (g.frozen (p:=⟨b,0,none⟩) hB).trans h.f0,(g.frozen (p:=⟨b,1,none⟩) hB).trans h.f1,(g.frozen (p:=⟨b,2,none⟩) hB).trans h.f2⟩
theorem Flt.set {w:World} {b:Nat} {x:Int} {y:ByteArray} {z:Value} (h:Flt w b x y z) (x':Int) (y':ByteArray) (z':Value):Flt (set3 b x' y' z' w) b x' y' z':=by
 have h0:(w.setCell ⟨b,0,none⟩ (.int .i64 x')).cell? ⟨b,0,none⟩=some (.int .i64 x'):=World.cell?_setCell_same _ _ _ h.c0
 have h1:((w.setCell ⟨b,0,none⟩ (.int .i64 x')).setCell ⟨b,1,none⟩ (.string y')).cell? ⟨b,1,none⟩=some (.string y') :=
  World.cell?_setCell_same _ _ _ ((World.cell?_setCell_other _ _ _ _ (by simp)).trans h.c1)
 refine ⟨?_,?_,?_,?_,?_,?_⟩
 ·exact (World.cell?_setCell_other _ _ _ _ (by simp)).trans ((World.cell?_setCell_other _ _ _ _ (by simp)).trans h0)
 ·exact (World.cell?_setCell_other _ _ _ _ (by simp)).trans h1
 ·exact World.cell?_setCell_same _ _ _ ((World.cell?_setCell_other _ _ _ _ (by simp)).trans ((World.cell?_setCell_other _ _ _ _ (by simp)).trans h.c2))
 ·simp [set3,h.f0]
 ·simp [set3,h.f1]
 ·simp [set3,h.f2]
theorem Below.set3 {B:Nat} {a w:World} (h:Below B a w) {b:Nat} (hb:B≤b) (x:Int) (y:ByteArray) (z:Value):Below B a (set3 b x y z w) :=
 ((h.setCell (p:=⟨b,0,none⟩) hb _).setCell (p:=⟨b,1,none⟩) hb _).setCell (p:=⟨b,2,none⟩) hb _
theorem set3_other {w:World} {b:Nat} {x:Int} {y:ByteArray} {z:Value} (k:Nat) (h:k≠b):(set3 b x y z w).heap[k]?=w.heap[k]?:=by
 unfold set3
 rw [Below.heap_setCell _ _ _ _ h,Below.heap_setCell _ _ _ _ h,Below.heap_setCell _ _ _ _ h]
theorem set3_size (w:World) (b:Nat) (x:Int) (y:ByteArray) (z:Value):(set3 b x y z w).heap.size=w.heap.size:=by simp [set3,World.setCell]
set_option maxHeartbeats 4000000 in
theorem as36_hit (L:Int) (S:ByteArray) (z:Value) (hz:z.oneCell'=true) (a:Addr) (tb:Nat) (x0:Int) (y0:ByteArray) (z0:Value) (w:World)
  (ha:w.cell? a=some (.pointer (some ⟨tb,0,none⟩))) (ht:Flt w tb x0 y0 z0) :
  Calls Tryz.prog 72 #[.iface 74 (.agg #[.int .i64 L,.string S,z]),.iface 115 (.pointer (some ⟨tb,0,none⟩)),.agg #[.pointer (some ⟨5,115,none⟩),.pointer (some a),.int .u64 150],.iface 163 (.agg #[.pointer (some ⟨5,74,none⟩)])] w fun e w'=>e=.returned (.bool true)∧∃ w1,Below w.heap.size w w1∧w'=set3 tb L S z w1:=by
 have mA:=Tryz.methodAssignableTo
 have la:=lt_of_cell ha
 have lt:=ht.lt
 obtain ⟨w1,hw1⟩:∃ w1,w1=w.alloc (.cells #[.pointer (some ⟨5,115,none⟩),.pointer (some a),.int .u64 150] 106):=⟨_,rfl⟩
 have b1:Below w.heap.size w w1:=by rw [hw1];exact (Below.refl _ _).alloc (Nat.le_refl _) _
 have s1:w1.heap.size=w.heap.size+1:=by rw [hw1];simp
 obtain ⟨w2,hw2⟩:∃ w2,w2=w1.alloc (.cells #[.int .i64 L,.string S,z] 74):=⟨_,rfl⟩
 have b2:Below w1.heap.size w1 w2:=by rw [hw2];exact (Below.refl _ _).alloc (Nat.le_refl _) _
 have f2:=(ht.stays b1 lt).stays b2 (by omega)
 have k1:=Tryz.c38_44 (.agg #[.int .i64 L,.string S,z])
 have k2:=Tryz.c78_44_44
 have k3:=Tryz.c41_77 a ⟨tb,0,none⟩ w1 ((b1.cell la).trans ha)
 have k4:=Tryz.c33_44 (.int .i64 L) (.string S) z w1
 have k5:=Tryz.c42_44 tb w1.heap.size L S z (.int .i64 x0) (.string y0) z0 w2 hz (by rw [hw2];simp) (by rw [hw2];simp) (by rw [hw2];simp) f2.c0 f2.c1 f2.c2 f2.f0 f2.f1 f2.f2
 have R:Hd (Below w.heap.size w w2):=⟨b1.trans (b2.mono b1.size)⟩
 rw [←hw2] at k4
 have HW:Hd (w1=w.alloc (.cells #[.pointer (some ⟨5,115,none⟩),.pointer (some a),.int .u64 150] 106)):=⟨hw1⟩
 have y0:w1.cell? ⟨w.heap.size,0,none⟩=some (.pointer (some ⟨5,115,none⟩)):=by rw [hw1];simp
 have y1:w1.cell? ⟨w.heap.size,1,none⟩=some (.pointer (some a)):=by rw [hw1];simp
 have y2:w1.cell? ⟨w.heap.size,2,none⟩=some (.int .u64 150):=by rw [hw1];simp
 clear ha ht hz b1 b2 f2 hw1 hw2 la lt s1
 go_enter Tryz.func72,Tryz.ntmps72
 go_wp2
 rw [←HW.out]
 refine wp_loop_rounds 1 ?_
 rw [rounds_succ]
 go_wp2
 go_ret
 exact ⟨rfl,w2,R.out,rfl⟩
set_option maxHeartbeats 4000000 in
theorem as36_miss (B:Base) (hB:B≠(.inr ())) (t a:Addr) (w:World) :
  Calls Tryz.prog 72 #[B.val,.iface 115 (.pointer (some t)),.agg #[.pointer (some ⟨5,115,none⟩),.pointer (some a),.int .u64 150],.iface 163 (.agg #[.pointer (some ⟨5,74,none⟩)])] w fun e w'=>e=.returned (.bool false)∧Below w.heap.size w w':=by
 have mA:=Tryz.methodAssignableTo
 have b1:Hd (Below w.heap.size w (w.alloc (.cells #[.pointer (some ⟨5,115,none⟩),.pointer (some a),.int .u64 150] 106))):=⟨(Below.refl _ _).alloc (Nat.le_refl _) _⟩
 rcases B with n | ⟨⟩
 ·
  have k1:=Tryz.c38_31 (.int .i64 n)
  have k2:=Tryz.c78_31_44
  have k3:=Tryz.as31_85 (.int .i64 n)
  have k4:=Tryz.as31_88 (.int .i64 n)
  have k5:=Tryz.as31_89 (.int .i64 n)
  simp only [Base.val]
  go_enter Tryz.func72,Tryz.ntmps72
  go_wp2
  refine wp_loop_rounds 1 ?_
  rw [rounds_succ]
  go_wp2
  go_ret
  exact ⟨rfl,b1.out⟩
 ·exact absurd rfl hB
set_option maxHeartbeats 4000000 in
theorem as_hit (L:Int) (S:ByteArray) (z:Value) (hz:z.oneCell'=true) (tb:Nat) (x0:Int) (y0:ByteArray) (z0:Value) (w:World) (he:ET w) (ht:Flt w tb x0 y0 z0) :
  Calls Tryz.prog 33 #[.iface 74 (.agg #[.int .i64 L,.string S,z]),.iface 115 (.pointer (some ⟨tb,0,none⟩))] w fun e w'=>e=.returned (.bool true)∧∃ w1,Below w.heap.size w w1∧w'=set3 tb L S z w1:=by
 have mK:=Tryz.methodKind
 have mE:=Tryz.methodElem
 have mI:=Tryz.methodImplements
 have lt:=ht.lt
 have k1:=Tryz.c33_77 ⟨tb,0,none⟩ w
 have k2:=Tryz.c34_77
 have k3:=Tryz.c69_77
 have k4:=Tryz.c69_44
 have k5:=Tryz.c80_77
 have k6:=Tryz.c81_44
 obtain ⟨w2,hw2⟩:∃ w2,w2=(w.alloc (.cells #[.pointer (some ⟨tb,0,none⟩)] 115)).alloc (.cells #[.pointer (some ⟨5,115,none⟩),.pointer (some ⟨w.heap.size,0,none⟩),.int .u64 150] 106):=⟨_,rfl⟩
 have b2:Below w.heap.size w w2:=by rw [hw2];exact ((Below.refl _ _).alloc (Nat.le_refl _) _).alloc (by simp) _
 have k7:=Tryz.c35_77 ⟨w.heap.size,0,none⟩ ⟨tb,0,none⟩ w2 (by rw [hw2];simp)
 have y1:w2.cell? ⟨w.heap.size,0,none⟩=some (.pointer (some ⟨tb,0,none⟩)):=by rw [hw2];simp
 have e2:w2.cell? ⟨0,0,none⟩=some (.iface 163 (.agg #[.pointer (some ⟨5,33,none⟩)])):=he.stays b2
 have C:=as36_hit L S z hz ⟨w.heap.size,0,none⟩ tb x0 y0 z0 w2 y1 (ht.stays b2 lt)
 have BB:Hd (Below w.heap.size w w2):=⟨b2⟩
 clear he ht y1 b2
 clear hz
 subst hw2
 go_enter Tryz.func33,Tryz.ntmps33
 go_wp2_with (go_at_call 72;refine C.mono ?_;rintro e w' ⟨rfl,w3,hb3,rfl⟩)
 go_ret
 exact ⟨rfl,w3,BB.out.trans (hb3.mono BB.out.size),rfl⟩
set_option maxHeartbeats 4000000 in
theorem as_miss (B:Base) (hB:B≠(.inr ())) (tb:Nat) (x0:Int) (y0:ByteArray) (z0:Value) (w:World) (he:ET w) (ht:Flt w tb x0 y0 z0) :
  Calls Tryz.prog 33 #[B.val,.iface 115 (.pointer (some ⟨tb,0,none⟩))] w fun e w'=>e=.returned (.bool false)∧Below w.heap.size w w':=by
 have mK:=Tryz.methodKind
 have mE:=Tryz.methodElem
 have mI:=Tryz.methodImplements
 have lt:=ht.lt
 have k1:=Tryz.c33_77 ⟨tb,0,none⟩ w
 have k2:=Tryz.c34_77
 have k3:=Tryz.c69_77
 have k4:=Tryz.c69_44
 have k5:=Tryz.c80_77
 have k6:=Tryz.c81_44
 obtain ⟨w2,hw2⟩:∃ w2,w2=(w.alloc (.cells #[.pointer (some ⟨tb,0,none⟩)] 115)).alloc (.cells #[.pointer (some ⟨5,115,none⟩),.pointer (some ⟨w.heap.size,0,none⟩),.int .u64 150] 106):=⟨_,rfl⟩
 have b2:Below w.heap.size w w2:=by rw [hw2];exact ((Below.refl _ _).alloc (Nat.le_refl _) _).alloc (by simp) _
 have k7:=Tryz.c35_77 ⟨w.heap.size,0,none⟩ ⟨tb,0,none⟩ w2 (by rw [hw2];simp)
 have y1:w2.cell? ⟨w.heap.size,0,none⟩=some (.pointer (some ⟨tb,0,none⟩)):=by rw [hw2];simp
 have e2:w2.cell? ⟨0,0,none⟩=some (.iface 163 (.agg #[.pointer (some ⟨5,33,none⟩)])):=he.stays b2
 have C:=as36_miss B hB ⟨tb,0,none⟩ ⟨w.heap.size,0,none⟩ w2
 have BB:Hd (Below w.heap.size w w2):=⟨b2⟩
 clear he ht y1 b2
 clear lt
 obtain ⟨T,u,hT⟩:∃ T u,B.val=.iface T u:=by
  rcases B with n | ⟨⟩
  ·exact ⟨_,_,rfl⟩
  ·exact absurd rfl hB
 rw [hT] at C ⊢
 clear hT hB
 subst hw2
 go_enter Tryz.func33,Tryz.ntmps33
 go_wp2_with (go_at_call 72;refine C.mono ?_;rintro e w' ⟨rfl,hb3⟩)
 go_ret
 exact ⟨rfl,BB.out.trans (hb3.mono BB.out.size)⟩
theorem catch_idle (p:Addr) (w:World) :
  CallsD Tryz.prog 68 #[.pointer (some p)] .returning w fun e u' w'=>e=.returned (.tuple #[])∧u'=.returning∧w'=w:=by
 refine callsD_of_wpS Tryz.func68 rfl fun c₀ cs hu=>?_
 apply wpS_seq
 apply wpS_region
 simp [wpOpsS,go_sem,recoverD,hu,Tryz.ntmps68,Exit.thenS]
 refine wpS_cond (t:=false) (by simp [Act.eval,Array.replicate]) ?_
 simp only [Bool.false_eq_true,if_false]
 refine wpS_of_wp (wp_skip ?_)
 cases c₀
 simp_all [bodyPostS,results,Tryz.results68]
theorem answers_ok (g:Nat) (eg:Enters Tryz.prog g) (p q:Value) (b:Bool) (R:World→Prop) (w:World)
  (H:Calls Tryz.prog g #[p,q] (w.alloc (.cells #[.bool false] 4)) fun e w'=>e=.returned (.bool b)∧R w')
  (hR:∀ w1,R w1→w1.cell? ⟨w.heap.size,0,none⟩=some (.bool false)∧w1.frozen? ⟨w.heap.size,0,none⟩=false) :
  Calls Tryz.prog 31 #[.func (.func g) #[] #[p,q]] w fun e w'=>e=.returned (.bool b)∧∃ w1,R w1∧w'=w1.setCell ⟨w.heap.size,0,none⟩ (.bool b):=by
 have hmf:∀ (fn:Fn) (first cap:Array Value) (w:World),(Instr.makeFunc fn first cap).run Tryz.prog w=.ok (.func fn first cap) w:=fun _ _ _ _=>rfl
 have eg':∀ args w,(callFunc g args).run Tryz.prog w=.ok (.enter g args) w:=eg
 clear eg
 go_enter_defers Tryz.func31,Tryz.ntmps31
 go_wp2_with (go_at_fn g;refine H.mono ?_;rintro e w1 ⟨rfl,hr⟩;obtain ⟨hc,hz⟩:=hR w1 hr)
 refine leaves_cons (f:=68) (args:=#[.pointer (some ⟨w.heap.size,0,none⟩)]) (by simp) (by simp [go_sem]) ?_
 refine (catch_idle ⟨w.heap.size,0,none⟩ _).mono ?_
 rintro e u' w'' ⟨rfl,rfl,rfl⟩
 simp [Leaves,settle,results,Tryz.results31,go_sem]
 exact ⟨.bool b,by rw [World.cell?_setCell_same _ _ _ hc],rfl,w1,hr,rfl⟩
theorem put_other (B:Base) (t:Addr) (w:World) (k:Nat) (h:k≠t.block):(B.put t w).heap[k]?=w.heap[k]?:=by
 rcases B with n | ⟨⟩
 ·exact Below.heap_setCell _ _ _ _ h
 ·rfl
theorem put_below {B:Base} {t:Addr} {w w1:World} {k:Nat} (h:Below k w w1) (ht:k≤t.block):Below k w (B.put t w1):=by
 rcases B with n | ⟨⟩
 ·exact h.setCell ht _
 ·exact h
theorem code1_ok (B:Base) (ls:List Lk) (pe t:Addr) (old:Value) (w:World) (he:ET w) (hp:w.cell? pe=some (val B ls)) (ht:w.cell? t=some old) (hf:w.frozen? t=false)
  (T:TypeId) (u:Value) (hv:val B ls=.iface T u) :
  Calls Tryz.prog 32 #[.pointer (some pe),.pointer (some t)] w fun e w'=>e=.returned (.bool B.isNum)∧∃ w1,Below w.heap.size w w1∧w'=B.put t w1:=by
 have C:=as_num B ls t old w he ht hf T u hv
 rw [hv] at hp C
 clear he ht hf hv
 go_enter Tryz.func32,Tryz.ntmps32
 go_wp2_with (go_at_call 33;refine C.mono ?_;rintro e w' ⟨rfl,w1,hb,rfl⟩)
 go_ret
 exact ⟨rfl,w1,hb,rfl⟩
def Base.code:Base→Int
 | .inl n=>n
 | _=>1
def codeOf (B:Base):List Lk→Int
 | []=>match B with
  | .inr _=>0
  | _=>B.code
 | _=>B.code
theorem code_nil (w:World):Calls Tryz.prog 12 #[.nilIface] w fun e w'=>e=.returned (.int .i64 0)∧Below w.heap.size w w':=by
 have b:Hd (Below w.heap.size w (w.alloc (.cells #[.nilIface] 33))):=⟨(Below.refl _ _).alloc (Nat.le_refl _) _⟩
 go_enter Tryz.func12,Tryz.ntmps12
 go_wp2
 go_ret
 exact ⟨rfl,b.out⟩
theorem ans_step {w wB w1:World} {n:Nat} {t:Addr} {B:Base} (hB:Below w.heap.size w wB) (h1:Below (wB.alloc (.cells #[.bool false] 4)).heap.size (wB.alloc (.cells #[.bool false] 4)) w1)
  (hn:n=w.heap.size) (ht:n≤t.block) (b:Bool):Below n w ((B.put t w1).setCell ⟨wB.heap.size,0,none⟩ (.bool b)):=by
 subst hn
 have h2:Below w.heap.size w (wB.alloc (.cells #[.bool false] 4)):=hB.alloc hB.size _
 exact (put_below (h2.trans (h1.mono (by have:=h2.size;omega))) ht).setCell (p:=⟨wB.heap.size,0,none⟩) hB.size _
theorem code_some (B:Base) (ls:List Lk) (w:World) (he:ET w) (T:TypeId) (u:Value) (hv:val B ls=.iface T u) :
  Calls Tryz.prog 12 #[val B ls] w fun e w'=>e=.returned (.int .i64 B.code)∧Below w.heap.size w w':=by
 have hmf:∀ (fn:Fn) (first cap:Array Value) (w:World),(Instr.makeFunc fn first cap).run Tryz.prog w=.ok (.func fn first cap) w:=fun _ _ _ _=>rfl
 obtain ⟨wB,hwB⟩:∃ wB,wB=(w.alloc (.cells #[val B ls] 33)).alloc (.cells #[.int .i64 0] 38):=⟨_,rfl⟩
 have bB:Below w.heap.size w wB:=by rw [hwB];exact ((Below.refl _ _).alloc (Nat.le_refl _) _).alloc (by simp) _
 have sB:wB.heap.size=w.heap.size+2:=by rw [hwB];simp
 have bY:Below wB.heap.size wB (wB.alloc (.cells #[.bool false] 4)):=(Below.refl _ _).alloc (Nat.le_refl _) _
 have c1:=code1_ok B ls ⟨w.heap.size,0,none⟩ ⟨w.heap.size+1,0,none⟩ (.int .i64 0) (wB.alloc (.cells #[.bool false] 4)) ((he.stays bB).stays bY)
  ((bY.cell (p:=⟨w.heap.size,0,none⟩) (by simp only;omega)).trans (by rw [hwB];simp)) ((bY.cell (p:=⟨w.heap.size+1,0,none⟩) (by simp only;omega)).trans (by rw [hwB];simp))
  ((bY.frozen (p:=⟨w.heap.size+1,0,none⟩) (by simp only;omega)).trans (by rw [hwB];simp)) T u hv
 have A:=answers_ok 32 (enters_of Tryz.func32 (by kernel_rfl) rfl) (.pointer (some ⟨w.heap.size,0,none⟩)) (.pointer (some ⟨w.heap.size+1,0,none⟩)) B.isNum
  (fun w'=>∃ w1,Below (wB.alloc (.cells #[.bool false] 4)).heap.size (wB.alloc (.cells #[.bool false] 4)) w1∧w'=B.put ⟨w.heap.size+1,0,none⟩ w1) wB c1 (by
   rintro w2 ⟨w1,h1,rfl⟩
   have e:(B.put ⟨w.heap.size+1,0,none⟩ w1).heap[wB.heap.size]?=(wB.alloc (.cells #[.bool false] 4)).heap[wB.heap.size]? :=
    (put_other _ _ _ _ (by simp only;omega)).trans (h1.block _ (by simp))
   exact ⟨(World.cell?_of_block (a:=⟨wB.heap.size,0,none⟩) e).trans (by simp),(World.frozen?_of_block (a:=⟨wB.heap.size,0,none⟩) e).trans (by simp)⟩)
 have A':Calls Tryz.prog 31 #[.func (.func 32) #[] #[.pointer (some ⟨w.heap.size,0,none⟩),.pointer (some ⟨w.heap.size+1,0,none⟩)]] wB fun e w'=>e=.returned (.bool B.isNum)∧Below w.heap.size w w'∧∀ n,B=(.inl n)→w'.cell? ⟨w.heap.size+1,0,none⟩=some (.int .i64 n):=by
  refine A.mono ?_
  rintro e w' ⟨rfl,w2,⟨w1,h1,rfl⟩,rfl⟩
  refine ⟨rfl,ans_step bB h1 rfl (by simp) _,?_⟩
  rintro n rfl
  have e0:w1.cell? ⟨w.heap.size+1,0,none⟩=some (.int .i64 0):=(h1.cell (p:=⟨w.heap.size+1,0,none⟩) (by simp [sB])).trans ((bY.cell (p:=⟨w.heap.size+1,0,none⟩) (by simp only;omega)).trans (by rw [hwB];simp))
  rw [World.cell?_setCell_other]
  ·exact World.cell?_setCell_same _ _ _ e0
  ·intro e;have:=(Addr.mk.inj e).1;omega
 clear A c1 bY sB bB he
 subst hwB
 rw [hv] at A' ⊢
 clear hv
 rcases B with n | ⟨⟩
 ·
  simp only [Base.isNum] at A'
  go_enter Tryz.func12,Tryz.ntmps12
  go_wp2_with (go_at_call 31;refine A'.mono ?_;rintro e w' ⟨rfl,hb,hn⟩;have hn':=hn n rfl;clear hn;have HB:Hd (Below w.heap.size w w'):=⟨hb⟩;clear hb)
  go_ret
  exact ⟨rfl,HB.out⟩
 ·
  simp only [Base.isNum] at A'
  go_enter Tryz.func12,Tryz.ntmps12
  go_wp2_with (go_at_call 31;refine A'.mono ?_;rintro e w' ⟨rfl,hb,hn⟩;clear hn;have HB:Hd (Below w.heap.size w w'):=⟨hb⟩;clear hb)
  go_ret
  exact ⟨rfl,HB.out⟩
theorem code_ok (B:Base) (ls:List Lk) (w:World) (he:ET w) :
  Calls Tryz.prog 12 #[val B ls] w fun e w'=>e=.returned (.int .i64 (codeOf B ls))∧Below w.heap.size w w':=by
 rcases val_is B ls with ⟨rfl,rfl⟩ | ⟨T,u,hv⟩
 ·exact code_nil w
 ·have h:=code_some B ls w he T u hv
  cases ls with
  | nil =>
   rcases B with n | ⟨⟩
   ·exact h
   ·cases hv
  | cons l ls=>exact h
theorem near1_hit (L:Int) (S:ByteArray) (z:Value) (hz:z.oneCell'=true) (pe:Addr) (tb:Nat) (x0:Int) (y0:ByteArray) (z0:Value) (w:World) (he:ET w)
  (hp:w.cell? pe=some (.iface 74 (.agg #[.int .i64 L,.string S,z]))) (ht:Flt w tb x0 y0 z0) :
  Calls Tryz.prog 73 #[.pointer (some pe),.pointer (some ⟨tb,0,none⟩)] w fun e w'=>e=.returned (.bool true)∧∃ w1,Below w.heap.size w w1∧w'=set3 tb L S z w1:=by
 have C:=as_hit L S z hz tb x0 y0 z0 w he ht
 clear he ht hz
 go_enter Tryz.func73,Tryz.ntmps73
 go_wp2_with (go_at_call 33;refine C.mono ?_;rintro e w' ⟨rfl,w1,hb,rfl⟩)
 go_ret
 exact ⟨rfl,w1,hb,rfl⟩
theorem near1_miss (B:Base) (pe:Addr) (tb:Nat) (x0:Int) (y0:ByteArray) (z0:Value) (w:World) (he:ET w) (hp:w.cell? pe=some B.val) (ht:Flt w tb x0 y0 z0) :
  Calls Tryz.prog 73 #[.pointer (some pe),.pointer (some ⟨tb,0,none⟩)] w fun e w'=>e=.returned (.bool false)∧Below w.heap.size w w':=by
 have C:Calls Tryz.prog 33 #[B.val,.iface 115 (.pointer (some ⟨tb,0,none⟩))] w fun e w'=>e=.returned (.bool false)∧Below w.heap.size w w':=by
  by_cases hB:B=(.inr ())
  ·subst hB
   refine (as_nil _ w).mono ?_
   rintro e w' ⟨rfl,rfl⟩
   exact ⟨rfl,Below.refl _ _⟩
  ·exact as_miss B hB tb x0 y0 z0 w he ht
 clear he ht
 generalize B.val=q at *
 go_enter Tryz.func73,Tryz.ntmps73
 go_wp2_with (go_at_call 33;refine C.mono ?_;rintro e w' ⟨rfl,hb⟩)
 go_ret
 exact ⟨rfl,hb⟩
def Says (g:Nat) (p:Int→ByteArray→Bool):Prop :=
 Enters Tryz.prog g∧∀ (x:Int) (y:ByteArray) (z:Value) (w:World),z.oneCell'=true→Calls Tryz.prog g #[.agg #[.int .i64 x,.string y,z]] w fun e w'=>e=.returned (.bool (p x y))∧Below w.heap.size w w'
def near (p:Int→ByteArray→Bool):List Lk→Lk
 | []=>⟨0,⟨#[]⟩⟩
 | l :: ls=>if p l.line l.what then l else near p ls
structure St (w wr:World) (q:Value) (x:Int) (y:ByteArray) (z:Value):Prop where
 bel:Below w.heap.size w wr
 sz:w.heap.size+2<wr.heap.size
 err:wr.cell? ⟨w.heap.size,0,none⟩=some q
 frz:wr.frozen? ⟨w.heap.size,0,none⟩=false
 ans:Flt wr (w.heap.size+1) 0 ⟨#[]⟩ .nilIface
 flt:Flt wr (w.heap.size+2) x y z
theorem St.grown {w wr w':World} {q:Value} {x:Int} {y:ByteArray} {z:Value} (h:St w wr q x y z) (b:Below wr.heap.size wr w'):St w w' q x y z:=by
 have:=h.sz
 exact ⟨h.bel.trans (b.mono h.bel.size),Nat.lt_of_lt_of_le h.sz b.size,(b.cell (p:=⟨w.heap.size,0,none⟩) (by simp only;omega)).trans h.err,(b.frozen (p:=⟨w.heap.size,0,none⟩) (by simp only;omega)).trans h.frz,
  h.ans.stays b (by omega),h.flt.stays b (by omega)⟩
theorem St.found {w wr:World} {q:Value} {x:Int} {y:ByteArray} {z:Value} (h:St w wr q x y z) (x':Int) (y':ByteArray) (z':Value):St w (set3 (w.heap.size+2) x' y' z' wr) q x' y' z':=by
 have e:∀ k,k≠w.heap.size+2→(set3 (w.heap.size+2) x' y' z' wr).heap[k]?=wr.heap[k]?:=fun k hk=>set3_other k hk
 have b:Below (w.heap.size+2) wr (set3 (w.heap.size+2) x' y' z' wr):=Below.set3 (Below.refl _ _) (Nat.le_refl _) _ _ _
 exact ⟨h.bel.trans (b.mono (by omega)),by rw [set3_size];exact h.sz,(b.cell (p:=⟨w.heap.size,0,none⟩) (by simp)).trans h.err,(b.frozen (p:=⟨w.heap.size,0,none⟩) (by simp)).trans h.frz,
  h.ans.stays b (by omega),h.flt.set _ _ _⟩
theorem St.own {w wr:World} {q:Value} {x:Int} {y:ByteArray} {z:Value} (h:St w wr q x y z) {k:Nat} (hk:w.heap.size+3≤k) (v:Value):St w (wr.setCell ⟨k,0,none⟩ v) q x y z:=by
 have b:Below (w.heap.size+3) wr (wr.setCell ⟨k,0,none⟩ v):=(Below.refl _ _).setCell (p:=⟨k,0,none⟩) hk v
 exact ⟨h.bel.trans (b.mono (by omega)),Nat.lt_of_lt_of_le h.sz b.size,(b.cell (p:=⟨w.heap.size,0,none⟩) (by simp only;omega)).trans h.err,(b.frozen (p:=⟨w.heap.size,0,none⟩) (by simp only;omega)).trans h.frz,
  h.ans.stays b (by omega),h.flt.stays b (by omega)⟩
theorem flt_other {w:World} {b:Nat} {x:Int} {y:ByteArray} {z:Value} (h:Flt w b x y z) {a:Addr} (ha:a.block≠b) (v:Value):Flt (w.setCell a v) b x y z :=
 have e:(w.setCell a v).heap[b]?=w.heap[b]?:=Below.heap_setCell _ _ _ _ (fun e=>ha e.symm)
 ⟨(World.cell?_of_block (a:=⟨b,0,none⟩) e).trans h.c0,(World.cell?_of_block (a:=⟨b,1,none⟩) e).trans h.c1,(World.cell?_of_block (a:=⟨b,2,none⟩) e).trans h.c2,
  (World.frozen?_of_block (a:=⟨b,0,none⟩) e).trans h.f0,(World.frozen?_of_block (a:=⟨b,1,none⟩) e).trans h.f1,(World.frozen?_of_block (a:=⟨b,2,none⟩) e).trans h.f2⟩
theorem St.next {w wr:World} {q:Value} {x:Int} {y:ByteArray} {z:Value} (h:St w wr q x y z) (q':Value):St w (wr.setCell ⟨w.heap.size,0,none⟩ q') q' x y z:=by
 exact ⟨h.bel.setCell (p:=⟨w.heap.size,0,none⟩) (Nat.le_refl _) _,by simpa [World.setCell] using h.sz,World.cell?_setCell_same _ _ _ h.err,(World.frozen?_setCell _ _ _ _).trans h.frz,
  flt_other h.ans (by simp) _,flt_other h.flt (by simp) _⟩
theorem ask_hit (L:Int) (S:ByteArray) (z:Value) (hz:z.oneCell'=true) (x0:Int) (y0:ByteArray) (z0:Value) (w wr:World) (he:ET w)
  (h:St w wr (.iface 74 (.agg #[.int .i64 L,.string S,z])) x0 y0 z0) :
  Calls Tryz.prog 31 #[.func (.func 73) #[] #[.pointer (some ⟨w.heap.size,0,none⟩),.pointer (some ⟨w.heap.size+2,0,none⟩)]] wr fun e w'=>e=.returned (.bool true)∧St w w' (.iface 74 (.agg #[.int .i64 L,.string S,z])) L S z:=by
 have bY:Below wr.heap.size wr (wr.alloc (.cells #[.bool false] 4)):=(Below.refl _ _).alloc (Nat.le_refl _) _
 have hY:=h.grown bY
 have sY:=h.sz
 have c1:=near1_hit L S z hz ⟨w.heap.size,0,none⟩ (w.heap.size+2) x0 y0 z0 (wr.alloc (.cells #[.bool false] 4)) (he.stays hY.bel) hY.err hY.flt
 have A:=answers_ok 73 (enters_of Tryz.func73 (by kernel_rfl) rfl) (.pointer (some ⟨w.heap.size,0,none⟩)) (.pointer (some ⟨w.heap.size+2,0,none⟩)) true
  (fun w'=>∃ w1,Below (wr.alloc (.cells #[.bool false] 4)).heap.size (wr.alloc (.cells #[.bool false] 4)) w1∧w'=set3 (w.heap.size+2) L S z w1) wr c1 (by
   rintro w2 ⟨w1,h1,rfl⟩
   have e:(set3 (w.heap.size+2) L S z w1).heap[wr.heap.size]?=(wr.alloc (.cells #[.bool false] 4)).heap[wr.heap.size]? :=
    (set3_other _ (by omega)).trans (h1.block _ (by simp))
   exact ⟨(World.cell?_of_block (a:=⟨wr.heap.size,0,none⟩) e).trans (by simp),(World.frozen?_of_block (a:=⟨wr.heap.size,0,none⟩) e).trans (by simp)⟩)
 refine A.mono ?_
 rintro e w' ⟨rfl,w2,⟨w1,h1,rfl⟩,rfl⟩
 exact ⟨rfl,((hY.grown h1).found L S z).own (by omega) _⟩
theorem ask_miss (B:Base) (x0:Int) (y0:ByteArray) (z0:Value) (w wr:World) (he:ET w) (h:St w wr B.val x0 y0 z0) :
  Calls Tryz.prog 31 #[.func (.func 73) #[] #[.pointer (some ⟨w.heap.size,0,none⟩),.pointer (some ⟨w.heap.size+2,0,none⟩)]] wr fun e w'=>e=.returned (.bool false)∧St w w' B.val x0 y0 z0:=by
 have bY:Below wr.heap.size wr (wr.alloc (.cells #[.bool false] 4)):=(Below.refl _ _).alloc (Nat.le_refl _) _
 have hY:=h.grown bY
 have sY:=h.sz
 have c1:=near1_miss B ⟨w.heap.size,0,none⟩ (w.heap.size+2) x0 y0 z0 (wr.alloc (.cells #[.bool false] 4)) (he.stays hY.bel) hY.err hY.flt
 have A:=answers_ok 73 (enters_of Tryz.func73 (by kernel_rfl) rfl) (.pointer (some ⟨w.heap.size,0,none⟩)) (.pointer (some ⟨w.heap.size+2,0,none⟩)) false
  (fun w'=>Below (wr.alloc (.cells #[.bool false] 4)).heap.size (wr.alloc (.cells #[.bool false] 4)) w') wr c1 (by
   intro w1 h1
   have e:=h1.block wr.heap.size (by simp)
   exact ⟨(World.cell?_of_block (a:=⟨wr.heap.size,0,none⟩) e).trans (by simp),(World.frozen?_of_block (a:=⟨wr.heap.size,0,none⟩) e).trans (by simp)⟩)
 refine A.mono ?_
 rintro e w' ⟨rfl,w1,h1,rfl⟩
 exact ⟨rfl,(hY.grown h1).own (by omega) _⟩
end Go.Proofs.YthkdbphgiobcdaaGreatDoor
