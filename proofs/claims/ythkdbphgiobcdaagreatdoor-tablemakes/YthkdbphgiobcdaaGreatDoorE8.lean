/-
  A region that draws its order,and reads a cell that it writes at its end: what is read before one named operation may be taken first.
  Operations that are taken first,their side conditions filled by themselves.
  What 'ruleWords' of 'print' answers.
  What 'rulesFormed' and 'schemaFormed' of 'print' answer.
-/
import Derived.Deep.RegionHeld
import Derived.Deep.RegionLaw
import Derived.Test.YthkdbphgiobcdaaGreatDoorE6
import Derived.Test.YthkdbphgiobcdaaGreatDoorE7
namespace Go.Proofs.YthkdbphgiobcdaaGreatDoor
open Go
section
variable {P:Program} {ops:Array Oper} {Q:Exit→Act→World→Prop} {md:Region.Mode} {T U:World→Prop} {j0:Nat}
def AnyG (P:Program) (md:Region.Mode) (ops:Array Oper) (Q:Exit→Act→World→Prop) (T U:World→Prop) (j0:Nat):Nat→Array Bool→Act→World→Prop
 | 0,l,a,w=>Region.ready md ops l=[]∧Q .normal a w
 | n+1,l,a,w=>(Region.ready md ops l=[]→Q .normal a w) ∧
  ∀ i∈Region.ready md ops l,wpOp P ops Q i (fun a' w'=>(T w'∧((l.setIfInBounds i true).getD j0 true=false→U w'))∧AnyG P md ops Q T U j0 n (l.setIfInBounds i true) a' w') a w
theorem AnyG.any:∀ (n:Nat) (l:Array Bool) (a:Act) (w:World),AnyG P md ops Q T U j0 n l a w→wpAny P md ops Q n l a w
 | 0,_,_,_,h=>h
 | n+1,_,_,_,h=>⟨h.1,fun i hi=>wpOp_mono (fun a' w' k=>AnyG.any n _ a' w' k.2) (h.2 i hi)⟩
theorem AnyG.start {id:Nat} {a:Act} {w:World} (hm:P.follows .mixedOrders=true)
  (h:AnyG P .any ops Q T U j0 ops.size (Array.replicate ops.size false) a w.drew):(Code.region id ops true).wp P Q a w :=
 wp_region_any hm (AnyG.any _ _ _ _ h)
theorem AnyG.first {i:Nat} {oi:Oper} {v:Value} {J:Array Bool→Prop} {V:World→Prop} (hi:ops[i]?=some oi) (hne:i≠j0)
  (hsel:∀ (j:Nat) (o:Oper) cs b,ops[j]?=some o→o.op≠.select cs b) (hQ:∀ c a w,Q (.panic c) (a.put oi.dst v) w→Q (.panic c) a w)
  (hJ:∀ l j,J l→l.getD i true=false→j∈Region.ready md ops l→j≠i→J (l.setIfInBounds j true))
  (hV:∀ l w,J l→T w→(l.getD j0 true=false→U w)→V w) :
  ∀ (n:Nat) (l:Array Bool) (a:Act) (w:World),
   (∀ j oj,ops[j]?=some oj→j≠i→l.getD j true=false→(∀ e∈oj.after,Region.binds md e=true→e.on≠i)→oi.apart ops oj=true) →
   i∈Region.ready md ops l→YieldsIf P ops V oi v a→J l→T w→(l.getD j0 true=false→U w) →
   AnyG P md ops Q T U j0 n (l.setIfInBounds i true) (a.put oi.dst v) w→AnyG P md ops Q T U j0 (n+1) l a w:=by
 intro n
 induction n with
 | zero =>
  intro l a w _ hr hy hj hT hU H
  refine ⟨fun h=>absurd hr (by rw [h];exact List.not_mem_nil),fun j hj'=>?_⟩
  by_cases c:j=i
  ·subst c
   exact hy.wpOp hi (hV l w hj hT hU) ⟨⟨hT,fun h=>hU (by rw [getD_set_ne true hne] at h;exact h)⟩,H⟩
  ·have h1:=ready_mono hj' c
   rw [H.1] at h1
   cases h1
 | succ n ih =>
  intro l a w hf hr hy hj hT hU H
  refine ⟨fun h=>absurd hr (by rw [h];exact List.not_mem_nil),fun j hj'=>?_⟩
  by_cases c:j=i
  ·subst c
   exact hy.wpOp hi (hV l w hj hT hU) ⟨⟨hT,fun h=>hU (by rw [getD_set_ne true hne] at h;exact h)⟩,H⟩
  ·have hun:l.getD i true=false:=(mem_ready.1 hr).1
   have hj2:=hJ l j hj hun hj' c
   obtain ⟨hjl,oj,hoj,hall⟩:=mem_ready.1 hj'
   have hno:∀ e∈oj.after,Region.binds md e=true→e.on≠i:=fun e he hb hon=>by
    have h1:=hall e he hb
    rw [hon] at h1
    rcases Nat.lt_or_ge i l.size with h' | h'
    ·simp [h'] at h1 hun;rw [hun] at h1;cases h1
    ·simp [Array.getElem?_eq_none h'] at h1
   have h2:=wpOp_putIf hoj (hf j oj hoj c hjl hno) (fun cs b=>hsel i oi cs b hi) (fun cs b=>hsel j oj cs b hoj) hQ hy (H.2 j (ready_mono hj' c))
   refine wpOp_mono (fun a' w' k=>?_) h2
   obtain ⟨k1,⟨k2,k3⟩,k4⟩:=k
   have hU':(l.setIfInBounds j true).getD j0 true=false→U w':=fun h=>k3 (by
    rw [Array.setIfInBounds_comm _ _ (Ne.symm c),getD_set_ne true hne];exact h)
   refine ⟨⟨k2,hU'⟩,ih (l.setIfInBounds j true) a' w' ?_ (ready_mono hr (Ne.symm c)) k1 hj2 k2 hU' (by rw [Array.setIfInBounds_comm _ _ c];exact k4)⟩
   intro q oq hq hqi hql hqn
   refine hf q oq hq hqi ?_ hqn
   by_cases e:j=q
   ·rw [←e];exact hjl
   ·rw [getD_set_ne true e] at hql;exact hql
theorem AnyG.take {i:Nat} {oi:Oper} {v:Value} {n:Nat} {l:Array Bool} {a:Act} {w:World} (hi:ops[i]?=some oi)
  (hs:Region.noSelect ops=true) (hf:Region.free md ops l i=true) (hr:(Region.ready md ops l).contains i=true) (hne:i≠j0)
  (hQ:∀ c a w,Q (.panic c) (a.put oi.dst v) w→Q (.panic c) a w) (hy:YieldsIf P ops T oi v a) (hT:T w∧(l.getD j0 true=false→U w))
  (h:AnyG P md ops Q T U j0 n (l.setIfInBounds i true) (a.put oi.dst v) w):AnyG P md ops Q T U j0 (n+1) l a w :=
 AnyG.first (J:=fun _=>True) (V:=T) hi hne (Region.noSelect_spec hs) hQ (fun _ _ _ _ _ _=>trivial) (fun _ _ _ h _=>h) n l a w (Region.free_spec hi hf) (by simpa using hr) hy trivial hT.1 hT.2 h
def waits (md:Region.Mode) (ops:Array Oper) (j i:Nat):Bool:=match ops[j]? with
 | some o=>o.after.any (fun e=>Region.binds md e && e.on == i)
 | none=>false
theorem AnyG.early {i:Nat} {oi:Oper} {v:Value} {n:Nat} {l:Array Bool} {a:Act} {w:World} (hi:ops[i]?=some oi)
  (hs:Region.noSelect ops=true) (hf:Region.free md ops l i=true) (hr:(Region.ready md ops l).contains i=true) (hne:i≠j0) (hw:waits md ops j0 i=true) (hl:l.getD j0 true=false)
  (hQ:∀ c a w,Q (.panic c) (a.put oi.dst v) w→Q (.panic c) a w) (hy:YieldsIf P ops (fun w=>T w∧U w) oi v a) (hT:T w∧(l.getD j0 true=false→U w))
  (h:AnyG P md ops Q T U j0 n (l.setIfInBounds i true) (a.put oi.dst v) w):AnyG P md ops Q T U j0 (n+1) l a w:=by
 refine AnyG.first (J:=fun l=>l.getD j0 true=false) (V:=fun w=>T w∧U w) hi hne (Region.noSelect_spec hs) hQ (fun l j hj hun hj' _=>?_) (fun l w hj hT hU=>⟨hT,hU hj⟩) n l a w (Region.free_spec hi hf) (by simpa using hr) hy hl hT.1 hT.2 h
 by_cases e:j=j0
 ·subst e
  obtain ⟨_,oj,hoj,hall⟩:=mem_ready.1 hj'
  unfold waits at hw
  rw [hoj] at hw
  obtain ⟨e,he,hb⟩:=Array.any_eq_true'.1 hw
  simp only [Bool.and_eq_true,beq_iff_eq] at hb
  have h1:=hall e he hb.1
  rw [hb.2] at h1
  rcases Nat.lt_or_ge i l.size with h' | h'
  ·simp [h'] at h1 hun;rw [hun] at h1;cases h1
  ·simp [Array.getElem?_eq_none h'] at h1
 ·rw [getD_set_ne true e];exact hj
theorem put_at {a:Act} {x:Option Tmp} {d:Tmp} (h:x=some d) (v:Value):a.put x v=⟨a.tmps.setIfInBounds d v,a.defers⟩:=by subst h;rfl
theorem AnyG.takeAt (i d:Nat) {oi:Oper} {v:Value} {n:Nat} {l:Array Bool} {a:Act} {w:World} (hi:ops[i]?=some oi) (hd:oi.dst=some d)
  (hs:Region.noSelect ops=true) (hf:Region.free md ops l i=true) (hr:(Region.ready md ops l).contains i=true) (hne:i≠j0)
  (hQ:∀ c a w,Q (.panic c) (a.put oi.dst v) w→Q (.panic c) a w) (hT:T w∧(l.getD j0 true=false→U w)) (hw:Region.wanted oi (yielded ops a.tmps)=true)
  (hy:∀ w,T w→(execOp a.eval oi).run P w=.ok (.value v) w)
  (h:AnyG P md ops Q T U j0 n (l.setIfInBounds i true) ⟨a.tmps.setIfInBounds d v,a.defers⟩ w):AnyG P md ops Q T U j0 (n+1) l a w :=
 AnyG.take hi hs hf hr hne hQ (.inl ⟨hw,hy⟩) hT (by rw [put_at hd];exact h)
theorem AnyG.earlyAt (i d:Nat) {oi:Oper} {v:Value} {n:Nat} {l:Array Bool} {a:Act} {w:World} (hi:ops[i]?=some oi) (hd:oi.dst=some d)
  (hs:Region.noSelect ops=true) (hf:Region.free md ops l i=true) (hr:(Region.ready md ops l).contains i=true) (hne:i≠j0) (hwt:waits md ops j0 i=true) (hl:l.getD j0 true=false)
  (hQ:∀ c a w,Q (.panic c) (a.put oi.dst v) w→Q (.panic c) a w) (hT:T w∧(l.getD j0 true=false→U w)) (hw:Region.wanted oi (yielded ops a.tmps)=true)
  (hy:∀ w,T w∧U w→(execOp a.eval oi).run P w=.ok (.value v) w)
  (h:AnyG P md ops Q T U j0 n (l.setIfInBounds i true) ⟨a.tmps.setIfInBounds d v,a.defers⟩ w):AnyG P md ops Q T U j0 (n+1) l a w :=
 AnyG.early hi hs hf hr hne hwt hl hQ (.inl ⟨hw,hy⟩) hT (by rw [put_at hd];exact h)
theorem AnyG.putAt {n:Nat} {l:Array Bool} {a:Act} {w:World} {x:Option Tmp} {v:Value} (d:Nat) (hd:x=some d)
  (h:AnyG P md ops Q T U j0 n l ⟨a.tmps.setIfInBounds d v,a.defers⟩ w):AnyG P md ops Q T U j0 n l (a.put x v) w:=by rw [put_at hd];exact h
def AllG (P:Program) (md:Region.Mode) (ops:Array Oper) (Q:Exit→Act→World→Prop) (T U:World→Prop) (j0 n:Nat) (l:Array Bool) (a:Act) (w:World) (rs:List Nat):Prop :=
 ∀ i∈rs,wpOp P ops Q i (fun a' w'=>(T w'∧((l.setIfInBounds i true).getD j0 true=false→U w'))∧AnyG P md ops Q T U j0 n (l.setIfInBounds i true) a' w') a w
theorem AllG.nil {n:Nat} {l:Array Bool} {a:Act} {w:World} : AllG P md ops Q T U j0 n l a w []:=fun _ h=>by cases h
theorem AllG.cons {n:Nat} {l:Array Bool} {a:Act} {w:World} {i:Nat} {o:Oper} {rs:List Nat} (ho:ops[i]?=some o)
  (h:∀ K':Act→World→Prop,Shut (∀ a w,(T w∧((l.setIfInBounds i true).getD j0 true=false→U w))→AnyG P md ops Q T U j0 n (l.setIfInBounds i true) a w→K' a w)→if Region.wanted o (yielded ops a.tmps)=true then Oper.wp P o a w K' Q else K' (a.put o.dst undef) w)
  (hs:AllG P md ops Q T U j0 n l a w rs):AllG P md ops Q T U j0 n l a w (i :: rs):=fun j hj=>by
 rcases List.mem_cons.1 hj with rfl | hj
 ·exact wpOp_step ho (fun K' hK=>h K' (fun a w h1 h2=>hK a w ⟨h1,h2⟩))
 ·exact hs j hj
theorem AnyG.ready {rs:List Nat} {n:Nat} {l:Array Bool} {a:Act} {w:World} (hr:Region.ready md ops l=rs) (hne:rs≠[])
  (h:AllG P md ops Q T U j0 n l a w rs):AnyG P md ops Q T U j0 (n+1) l a w:=⟨fun h0=>absurd (hr ▸ h0) hne,hr ▸ h⟩
theorem AnyG.done {l:Array Bool} {a:Act} {w:World} (hr:Region.ready md ops l=[]) (h:Q .normal a w):∀ n,AnyG P md ops Q T U j0 n l a w
 | 0=>⟨hr,h⟩
 | _+1=>⟨fun _=>h,by rw [hr];intro i hi;cases hi⟩
def Rok (md:Region.Mode) (ops:Array Oper) (l:Array Bool) (i j0:Nat):Bool:=Region.noSelect ops && (Region.free md ops l i && ((Region.ready md ops l).contains i && !(i == j0)))
theorem Rok.out {md:Region.Mode} {ops:Array Oper} {l:Array Bool} {i j0:Nat} (h:Rok md ops l i j0=true):Region.noSelect ops=true∧Region.free md ops l i=true∧(Region.ready md ops l).contains i=true∧i≠j0:=by
 unfold Rok at h
 rw [Bool.and_eq_true,Bool.and_eq_true,Bool.and_eq_true] at h
 exact ⟨h.1,h.2.1,h.2.2.1,fun e=>by have:=h.2.2.2;rw [e] at this;simp at this⟩
theorem AnyG.tk (i d:Nat) {oi:Oper} {v:Value} {n:Nat} {l:Array Bool} {a:Act} {w:World} (hi:ops[i]?=some oi) (hd:oi.dst=some d) (hb:Rok md ops l i j0=true)
  (hQ:∀ c a w,Q (.panic c) (a.put oi.dst v) w→Q (.panic c) a w) (hT:T w∧(l.getD j0 true=false→U w)) (hw:Region.wanted oi (yielded ops a.tmps)=true)
  (hy:∀ w,T w→(execOp a.eval oi).run P w=.ok (.value v) w)
  (h:AnyG P md ops Q T U j0 n (l.setIfInBounds i true) ⟨a.tmps.setIfInBounds d v,a.defers⟩ w):AnyG P md ops Q T U j0 (n+1) l a w :=
 AnyG.takeAt i d hi hd (Rok.out hb).1 (Rok.out hb).2.1 (Rok.out hb).2.2.1 (Rok.out hb).2.2.2 hQ hT hw hy h
theorem AnyG.ek (i d:Nat) {oi:Oper} {v:Value} {n:Nat} {l:Array Bool} {a:Act} {w:World} (hi:ops[i]?=some oi) (hd:oi.dst=some d) (hb:(Rok md ops l i j0 && (waits md ops j0 i && !(l.getD j0 true)))=true)
  (hQ:∀ c a w,Q (.panic c) (a.put oi.dst v) w→Q (.panic c) a w) (hT:T w∧(l.getD j0 true=false→U w)) (hw:Region.wanted oi (yielded ops a.tmps)=true)
  (hy:∀ w,T w∧U w→(execOp a.eval oi).run P w=.ok (.value v) w)
  (h:AnyG P md ops Q T U j0 n (l.setIfInBounds i true) ⟨a.tmps.setIfInBounds d v,a.defers⟩ w):AnyG P md ops Q T U j0 (n+1) l a w:=by
 rw [Bool.and_eq_true,Bool.and_eq_true] at hb
 have hr:=Rok.out hb.1
 exact AnyG.earlyAt i d hi hd hr.1 hr.2.1 hr.2.2.1 hr.2.2.2 hb.2.1 (by simpa using hb.2.2) hQ hT hw hy h
theorem AnyG.sk (i d:Nat) {oi:Oper} {n:Nat} {l:Array Bool} {a:Act} {w:World} (hi:ops[i]?=some oi) (hd:oi.dst=some d) (hb:Rok md ops l i j0=true)
  (hQ:∀ c a w,Q (.panic c) (a.put oi.dst undef) w→Q (.panic c) a w) (hT:T w∧(l.getD j0 true=false→U w)) (hw:Region.wanted oi (yielded ops a.tmps)=false)
  (h:AnyG P md ops Q T U j0 n (l.setIfInBounds i true) ⟨a.tmps.setIfInBounds d undef,a.defers⟩ w):AnyG P md ops Q T U j0 (n+1) l a w :=
 AnyG.take hi (Rok.out hb).1 (Rok.out hb).2.1 (Rok.out hb).2.2.1 (Rok.out hb).2.2.2 hQ (.inr ⟨hw,rfl⟩) hT (by rw [put_at hd];exact h)
theorem tkA {α:Type} {l:List α} {i:Nat} {a:α} : l.toArray.setIfInBounds i a=(l.set i a).toArray:=List.setIfInBounds_toArray ..
theorem tkB {α:Type} {a b:α} {l:List α} : (a :: l).set 0 b=b :: l:=rfl
theorem tkC {α:Type} {a b:α} {l:List α} {i:Nat} : (a :: l).set (i+1) b=a :: l.set i b:=rfl
end
section
variable {P:Program} {ops:Array Oper} {Q:Exit→Act→World→Prop} {md:Region.Mode} {T U:World→Prop} {j0:Nat} {oi:Oper} {v:Value} {n:Nat} {l:Array Bool} {a:Act} {w:World}
theorem AnyG.tq (i d:Nat) (hT:T w) (h:AnyG P md ops Q T (fun _=>True) j0 n (l.setIfInBounds i true) ⟨a.tmps.setIfInBounds d v,a.defers⟩ w)
  (hi:ops[i]?=some oi:=by rfl) (hd:oi.dst=some d:=by rfl) (hb:Rok md ops l i j0=true:=by kernel_rfl) (hQ:∀ c a w,Q (.panic c) (a.put oi.dst v) w→Q (.panic c) a w:=by exact fun _ _ _ h=>h)
  (hw:Region.wanted oi (yielded ops a.tmps)=true:=by rfl) (hy:∀ w,T w→(execOp a.eval oi).run P w=.ok (.value v) w:=by intro w hSw;go_simp;first | rfl | rw [if_neg (by omega)]):AnyG P md ops Q T (fun _=>True) j0 (n+1) l a w :=
 AnyG.tk i d hi hd hb hQ ⟨hT,fun _=>trivial⟩ hw hy h
theorem AnyG.sq (i d:Nat) (hT:T w) (h:AnyG P md ops Q T (fun _=>True) j0 n (l.setIfInBounds i true) ⟨a.tmps.setIfInBounds d undef,a.defers⟩ w)
  (hi:ops[i]?=some oi:=by rfl) (hd:oi.dst=some d:=by rfl) (hb:Rok md ops l i j0=true:=by kernel_rfl) (hQ:∀ c a w,Q (.panic c) (a.put oi.dst undef) w→Q (.panic c) a w:=by exact fun _ _ _ h=>h)
  (hw:Region.wanted oi (yielded ops a.tmps)=false:=by rfl):AnyG P md ops Q T (fun _=>True) j0 (n+1) l a w :=
 AnyG.sk i d hi hd hb hQ ⟨hT,fun _=>trivial⟩ hw h
theorem AnyG.tr (i d:Nat) (hT:T w∧(l.getD j0 true=false→U w)) (h:AnyG P md ops Q T U j0 n (l.setIfInBounds i true) ⟨a.tmps.setIfInBounds d v,a.defers⟩ w)
  (hi:ops[i]?=some oi:=by rfl) (hd:oi.dst=some d:=by rfl) (hb:Rok md ops l i j0=true:=by kernel_rfl) (hQ:∀ c a w,Q (.panic c) (a.put oi.dst v) w→Q (.panic c) a w:=by exact fun _ _ _ h=>h)
  (hw:Region.wanted oi (yielded ops a.tmps)=true:=by rfl) (hy:∀ w,T w→(execOp a.eval oi).run P w=.ok (.value v) w:=by intro w hSw;go_simp;first | rfl | rw [if_neg (by omega)]):AnyG P md ops Q T U j0 (n+1) l a w :=
 AnyG.tk i d hi hd hb hQ hT hw hy h
theorem AnyG.er (i d:Nat) (hT:T w∧(l.getD j0 true=false→U w)) (h:AnyG P md ops Q T U j0 n (l.setIfInBounds i true) ⟨a.tmps.setIfInBounds d v,a.defers⟩ w)
  (hi:ops[i]?=some oi:=by rfl) (hd:oi.dst=some d:=by rfl) (hb:(Rok md ops l i j0 && (waits md ops j0 i && !(l.getD j0 true)))=true:=by kernel_rfl) (hQ:∀ c a w,Q (.panic c) (a.put oi.dst v) w→Q (.panic c) a w:=by exact fun _ _ _ h=>h)
  (hw:Region.wanted oi (yielded ops a.tmps)=true:=by rfl) (hy:∀ w,T w∧U w→(execOp a.eval oi).run P w=.ok (.value v) w):AnyG P md ops Q T U j0 (n+1) l a w :=
 AnyG.ek i d hi hd hb hQ hT hw hy h
end
end Go.Proofs.YthkdbphgiobcdaaGreatDoor

namespace Go.Proofs.YthkdbphgiobcdaaGreatDoor
open Go.RowKit
theorem LsR.join {w:World} {v:Value} {L:List ByteArray} (h:LsR w v L):Calls Tryz.prog 150 #[v] w fun e w'=>e=.returned (.string (joinB L))∧Below w.heap.size w w':=by
 obtain ⟨a,c,rfl,hr,hc,hm,hs⟩:=h
 exact join_ok a c L w hr (fun k hk=>hs _ (gt_mem hk)) hc (by omega)
theorem five_row (w:World) (x0 x1 x2 x3 x4:ByteArray):RowL (w.alloc (.cells #[.string x0,.string x1,.string x2,.string x3,.string x4] 9)) (some ⟨w.heap.size,0,none⟩) [x0,x1,x2,x3,x4]:=fun _=>by
 have n:=Blk.new w 9 #[.string x0,.string x1,.string x2,.string x3,.string x4]
 refine ⟨w.heap.size,0,rfl,n.lt,fun k hk=>?_⟩
 rw [Nat.zero_add,n.cell k]
 match k,hk with
 | 0,_=>rfl
 | 1,_=>rfl
 | 2,_=>rfl
 | 3,_=>rfl
 | 4,_=>rfl
set_option maxRecDepth 20000 in
set_option maxHeartbeats 2000000 in
theorem ruleWords_ok (v0 v1 v2 v3 v4:Value) (r:Rl) (w:World) (h:RuR w v0 v1 v2 v3 v4 r) :
  Calls Tryz.prog 115 #[.agg #[v0,v1,v2,v3,v4]] w fun e w'=>∃ a,e=.returned (.slice a 5 5)∧RowL w' a (rlJ r)∧Below w.heap.size w w':=by
 have HJ:Hd (RuR w v0 v1 v2 v3 v4 r):=⟨h⟩
 obtain ⟨⟨a0,c0,rfl,-⟩,⟨a1,c1,rfl,-⟩,⟨a2,c2,rfl,-⟩,⟨a3,c3,rfl,-⟩,⟨a4,c4,rfl,-⟩⟩:=h
 have e5:rlJ r=[joinB r.users,joinB r.groups,joinB r.verbs,joinB r.resources,joinB r.spaces]:=rfl
 rw [e5]
 clear e5
 have J0:Hd (∀ W,Below w.heap.size w W→Calls Tryz.prog 150 #[.slice a0 r.users.length c0] W fun e w'=>e=.returned (.string (joinB r.users))∧Below W.heap.size W w'):=⟨fun W hW=>(HJ.out.1.carry hW).join⟩
 have J1:Hd (∀ W,Below w.heap.size w W→Calls Tryz.prog 150 #[.slice a1 r.groups.length c1] W fun e w'=>e=.returned (.string (joinB r.groups))∧Below W.heap.size W w'):=⟨fun W hW=>(HJ.out.2.1.carry hW).join⟩
 have J2:Hd (∀ W,Below w.heap.size w W→Calls Tryz.prog 150 #[.slice a2 r.verbs.length c2] W fun e w'=>e=.returned (.string (joinB r.verbs))∧Below W.heap.size W w'):=⟨fun W hW=>(HJ.out.2.2.1.carry hW).join⟩
 have J3:Hd (∀ W,Below w.heap.size w W→Calls Tryz.prog 150 #[.slice a3 r.resources.length c3] W fun e w'=>e=.returned (.string (joinB r.resources))∧Below W.heap.size W w'):=⟨fun W hW=>(HJ.out.2.2.2.1.carry hW).join⟩
 have J4:Hd (∀ W,Below w.heap.size w W→Calls Tryz.prog 150 #[.slice a4 r.spaces.length c4] W fun e w'=>e=.returned (.string (joinB r.spaces))∧Below W.heap.size W w'):=⟨fun W hW=>(HJ.out.2.2.2.2.carry hW).join⟩
 clear HJ
 generalize joinB r.users=x0 at *
 generalize joinB r.groups=x1 at *
 generalize joinB r.verbs=x2 at *
 generalize joinB r.resources=x3 at *
 generalize joinB r.spaces=x4 at *
 generalize r.users.length=n0 at *
 generalize r.groups.length=n1 at *
 generalize r.verbs.length=n2 at *
 generalize r.resources.length=n3 at *
 generalize r.spaces.length=n4 at *
 have AL:=alloc_below w (.cells #[.slice a0 n0 c0,.slice a1 n1 c1,.slice a2 n2 c2,.slice a3 n3 c3,.slice a4 n4 c4] 54)
 have NB:=Blk.new w 54 #[.slice a0 n0 c0,.slice a1 n1 c1,.slice a2 n2 c2,.slice a3 n3 c3,.slice a4 n4 c4]
 go_enter Tryz.func115,Tryz.ntmps115
 go_upto_region 1 with fail
 generalize w.alloc _=w1 at *
 have DR:Below w1.heap.size w1 w1.drew:=⟨rfl,rfl,rfl,Nat.le_refl _,fun _ _=>rfl⟩
 have B0:Below w.heap.size w w1.drew:=AL.trans (DR.mono AL.size)
 have A0:=NB.kept (Kept.of_below DR (fun _=>False)) id
 refine AnyG.start (T:=fun w'=>Blk w' w.heap.size 54 #[.slice a0 n0 c0,.slice a1 n1 c1,.slice a2 n2 c2,.slice a3 n3 c3,.slice a4 n4 c4]) (U:=fun _=>True) (j0:=100) (by kernel_rfl) ?_
 clear DR AL NB
 generalize w1.drew=w0 at *
 refine .tq 0 3 A0 ?_;simp only [tkA,tkB,tkC]
 refine .tq 1 4 A0 ?_ (hy:=fun w hSw=>by have s4:=hSw.cellv (v:=.slice a0 n0 c0) 0 rfl;go_simp;rfl);simp only [tkA,tkB,tkC]
 refine .tq 3 6 A0 ?_;simp only [tkA,tkB,tkC]
 refine .tq 4 7 A0 ?_ (hy:=fun w hSw=>by have s4:=hSw.cellv (v:=.slice a1 n1 c1) 1 rfl;go_simp;rfl);simp only [tkA,tkB,tkC]
 refine .tq 6 9 A0 ?_;simp only [tkA,tkB,tkC]
 refine .tq 7 10 A0 ?_ (hy:=fun w hSw=>by have s4:=hSw.cellv (v:=.slice a2 n2 c2) 2 rfl;go_simp;rfl);simp only [tkA,tkB,tkC]
 refine .tq 9 12 A0 ?_;simp only [tkA,tkB,tkC]
 refine .tq 10 13 A0 ?_ (hy:=fun w hSw=>by have s4:=hSw.cellv (v:=.slice a3 n3 c3) 3 rfl;go_simp;rfl);simp only [tkA,tkB,tkC]
 refine .tq 12 15 A0 ?_;simp only [tkA,tkB,tkC]
 refine .tq 13 16 A0 ?_ (hy:=fun w hSw=>by have s4:=hSw.cellv (v:=.slice a4 n4 c4) 4 rfl;go_simp;rfl);simp only [tkA,tkB,tkC]
 refine AnyG.ready (rs:=[2]) (by kernel_rfl) (by simp) ?_
 refine AllG.cons rfl (fun K hK=>?_) AllG.nil
 go_simp
 refine (J0.out w0 B0).mono ?_
 rintro e wk1 ⟨rfl,b1⟩
 have Ak1:=A0.kept (Kept.of_below b1 (fun _=>False)) id
 have Bk1:Below w.heap.size w wk1:=B0.trans (b1.mono B0.size)
 refine hK.out _ _ ⟨Ak1,fun _=>trivial⟩ ?_
 clear hK K b1 A0 B0
 refine AnyG.ready (rs:=[5]) (by kernel_rfl) (by simp) ?_
 refine AllG.cons rfl (fun K hK=>?_) AllG.nil
 go_simp
 refine (J1.out wk1 Bk1).mono ?_
 rintro e wk2 ⟨rfl,b2⟩
 have Ak2:=Ak1.kept (Kept.of_below b2 (fun _=>False)) id
 have Bk2:Below w.heap.size w wk2:=Bk1.trans (b2.mono Bk1.size)
 refine hK.out _ _ ⟨Ak2,fun _=>trivial⟩ ?_
 clear hK K b2 Ak1 Bk1
 refine AnyG.ready (rs:=[8]) (by kernel_rfl) (by simp) ?_
 refine AllG.cons rfl (fun K hK=>?_) AllG.nil
 go_simp
 refine (J2.out wk2 Bk2).mono ?_
 rintro e wk3 ⟨rfl,b3⟩
 have Ak3:=Ak2.kept (Kept.of_below b3 (fun _=>False)) id
 have Bk3:Below w.heap.size w wk3:=Bk2.trans (b3.mono Bk2.size)
 refine hK.out _ _ ⟨Ak3,fun _=>trivial⟩ ?_
 clear hK K b3 Ak2 Bk2
 refine AnyG.ready (rs:=[11]) (by kernel_rfl) (by simp) ?_
 refine AllG.cons rfl (fun K hK=>?_) AllG.nil
 go_simp
 refine (J3.out wk3 Bk3).mono ?_
 rintro e wk4 ⟨rfl,b4⟩
 have Ak4:=Ak3.kept (Kept.of_below b4 (fun _=>False)) id
 have Bk4:Below w.heap.size w wk4:=Bk3.trans (b4.mono Bk3.size)
 refine hK.out _ _ ⟨Ak4,fun _=>trivial⟩ ?_
 clear hK K b4 Ak3 Bk3
 refine AnyG.ready (rs:=[14]) (by kernel_rfl) (by simp) ?_
 refine AllG.cons rfl (fun K hK=>?_) AllG.nil
 go_simp
 refine (J4.out wk4 Bk4).mono ?_
 rintro e wk5 ⟨rfl,b5⟩
 have Ak5:=Ak4.kept (Kept.of_below b5 (fun _=>False)) id
 have Bk5:Below w.heap.size w wk5:=Bk4.trans (b5.mono Bk4.size)
 refine hK.out _ _ ⟨Ak5,fun _=>trivial⟩ ?_
 clear hK K b5 Ak4 Bk4
 refine AnyG.ready (rs:=[15]) (by kernel_rfl) (by simp) ?_
 refine AllG.cons rfl (fun K hK=>?_) AllG.nil
 go_simp
 have AL6:=alloc_below wk5 (.cells #[.string x0,.string x1,.string x2,.string x3,.string x4] 9)
 have Ak6:=Ak5.kept (Kept.of_below AL6 (fun _=>False)) id
 have Bk6:Below w.heap.size w (wk5.alloc (.cells #[.string x0,.string x1,.string x2,.string x3,.string x4] 9)):=Bk5.trans (AL6.mono Bk5.size)
 have RW:=five_row wk5 x0 x1 x2 x3 x4
 refine hK.out _ _ ⟨Ak6,fun _=>trivial⟩ ?_
 clear hK K AL6 Ak5 Bk5
 generalize wk5.alloc (.cells #[.string x0,.string x1,.string x2,.string x3,.string x4] 9)=wk6 at *
 generalize wk5.heap.size=gk6 at *
 refine .tq 16 2 Ak6 ?_;simp only [tkA,tkB,tkC]
 refine AnyG.done (by kernel_rfl) ?_ _
 go_wp2_with fail
 go_ret
 exact ⟨_,rfl,RW,Bk6⟩
theorem rlOk_no {r:Rl} (h:rlOk r=false):∃ j,j<5∧gt (rlJ r) j=mk []:=by
 unfold rlOk at h
 rw [List.all_eq_false] at h
 obtain ⟨x,hx,e⟩:=h
 obtain ⟨j,hj,rfl⟩:=List.getElem_of_mem hx
 refine ⟨j,hj,?_⟩
 rw [gt_eq hj]
 simpa using e
theorem rlOk_yes {r:Rl} (h:rlOk r=true):∀ j,j<5→gt (rlJ r) j≠mk []:=fun j hj e=>by
 unfold rlOk at h
 rw [List.all_eq_true] at h
 have hj':j<(rlJ r).length:=hj
 have:=h _ (gt_mem hj')
 rw [e] at this
 simp at this
set_option maxRecDepth 20000 in
theorem rules_ok (v:Value) (rs:List Rl) (w:World) (h:RlR w v rs) :
  Calls Tryz.prog 164 #[v] w fun e w'=>e=.returned (.bool (rlsOk rs))∧Below w.heap.size w w':=by
 obtain ⟨a,c,rfl,hl,hr⟩:=id h
 by_cases h8:8<rs.length
 ·have e:rlsOk rs=false:=by unfold rlsOk;rw [decide_eq_false (by omega)];rfl
  rw [e]
  clear e hr h
  generalize rs.length=n at *
  go_enter Tryz.func164,Tryz.ntmps164
  go_wp2_with fail
  go_ret
  exact ⟨rfl,Below.refl _ _⟩
 have HB:Hd (∀ k (h:k<rs.length),rlOk rs[k]=false→rlsOk rs=false):=⟨fun k h e=>by
  cases hL:rlsOk rs with
  | false=>rfl
  | true =>
   unfold rlsOk at hL
   simp only [Bool.and_eq_true,List.all_eq_true] at hL
   have:=hL.2 rs[k] (List.getElem_mem h)
   rw [e] at this
   cases this⟩
 have HG:Hd ((∀ k (h:k<rs.length),rlOk rs[k]=true)→rlsOk rs=true):=⟨fun h=>by
  unfold rlsOk
  rw [decide_eq_true (by omega),Bool.true_and,List.all_eq_true]
  intro r hr
  obtain ⟨k,hk,rfl⟩:=List.getElem_of_mem hr
  exact h k hk⟩
 have HR:Hd (RlR w (.slice a rs.length c) rs):=⟨h⟩
 generalize rlsOk rs=R at *
 obtain ⟨n,hnl⟩:∃ n,n=rs.length:=⟨_,rfl⟩
 have HN:Hd (n=rs.length):=⟨hnl⟩
 rw [←hnl]
 have n8:n≤8:=by omega
 clear hr h hl h8 hnl
 go_enter Tryz.func164,Tryz.ntmps164
 go_wp2_with fail
 go_loopw [4,10] (fun i4 i wr=>∃ k:Nat,k≤n∧i=.int .i64 k∧Hd ((∀ j (h:j<rs.length),j<k→rlOk rs[j]=true)∧Below w.heap.size w wr)) (fun _ i _=>n - (intOf i).toNat)
 case atStart=>exact ⟨0,Nat.zero_le _,rfl,⟨fun _ _ h=>absurd h (Nat.not_lt_zero _),Below.refl _ _⟩⟩
 case round =>
  obtain ⟨k,hk,rfl,hI⟩:=hrel
  by_cases hlt:k<n
  ·have hkL:k<rs.length:=by rw [←HN.out];exact hlt
   obtain ⟨a',c',e',-,hrow⟩:=HR.out.carry hI.out.2
   injection e' with e1 e2 e3
   subst e1 e3
   obtain ⟨b,off,rfl,hb,hcs⟩:=hrow (by omega)
   obtain ⟨v0,v1,v2,v3,v4,⟨x0,x1,x2,x3,x4⟩,hru⟩:=hcs k hkL
   have HBad:Hd (rlOk rs[k]=false→R=false):=⟨HB.out k hkL⟩
   have HStep:Hd (rlOk rs[k]=true→∀ j (h:j<rs.length),j<k+1→rlOk rs[j]=true):=⟨fun h1 j hj hjk=>by
    rcases Nat.lt_or_eq_of_le (Nat.le_of_lt_succ hjk) with h' | h'
    ·exact hI.out.1 j hj h'
    ·subst h';exact h1⟩
   obtain ⟨⟨q0,p0,e0,-⟩,⟨q1,p1,e1,-⟩,⟨q2,p2,e2,-⟩,⟨q3,p3,e3,-⟩,⟨q4,p4,e4,-⟩⟩:=id hru
   have AL:=alloc_below wr (.cells #[v0,v1,v2,v3,v4] 54)
   have RW:=ruleWords_ok v0 v1 v2 v3 v4 rs[k] _ (hru.carry AL)
   have B1:Hd (Below w.heap.size w (wr.alloc (.cells #[v0,v1,v2,v3,v4] 54))):=⟨hI.out.2.trans (AL.mono hI.out.2.size)⟩
   have NB:=Blk.new wr 54 #[v0,v1,v2,v3,v4]
   have HK:Hd (k<n):=⟨hlt⟩
   clear hcs hrow hru AL hI
   generalize rs[k]=r at *
   clear hkL
   generalize hn0:r.users.length=m0 at e0
   generalize hn1:r.groups.length=m1 at e1
   generalize hn2:r.verbs.length=m2 at e2
   generalize hn3:r.resources.length=m3 at e3
   generalize hn4:r.spaces.length=m4 at e4
   subst e0 e1 e2 e3 e4
   clear hn0 hn1 hn2 hn3 hn4
   have i1:(k:Int)<(n:Int):=by omega
   go_upto_region 6 with fail
   generalize wr.alloc _=w1 at *
   generalize wr.heap.size=g at *
   clear x0 x1 x2 x3 x4
   have d0:=NB.cellv 0 rfl
   have d1:=NB.cellv 1 rfl
   have d2:=NB.cellv 2 rfl
   have d3:=NB.cellv 3 rfl
   have d4:=NB.cellv 4 rfl
   simp at d0 d1 d2 d3 d4
   clear NB
   go_wp2_with fail
   go_at_call 115
   refine RW.mono ?_
   rintro e w2 ⟨a2,rfl,r2,b2⟩
   have B2:Hd (Below w.heap.size w w2):=⟨B1.out.trans (b2.mono B1.out.size)⟩
   clear RW b2 B1 d0 d1 d2 d3 d4
   cases hok:rlOk r with
   | false =>
    have CY:=contains_yes a2 5 5 (rlJ r) (mk []) w2 r2 (by show 5≤5;omega) (by omega) (rlOk_no hok)
    have hR:=HBad.out hok
    subst hR
    clear hok
    go_wp2_with (go_at_call 181;refine CY.mono ?_;rintro e w3 ⟨rfl,rfl⟩)
    go_ret
    exact ⟨rfl,B2.out⟩
   | true =>
    have CN:=contains_no a2 5 5 (rlJ r) (mk []) w2 r2 (by show 5≤5;omega) (by omega) (rlOk_yes hok)
    have F3:Hd ((∀ j (h:j<rs.length),j<k+1→rlOk rs[j]=true)∧Below w.heap.size w w2):=⟨HStep.out hok,B2.out⟩
    clear hok
    go_wp2_with (go_at_call 181;refine CN.mono ?_;rintro e w3 ⟨rfl,hw⟩;obtain rfl:=hw.symm)
    go_roundw
    case rel =>
     first
      | exact ⟨k+1,HK.out,by go_num,F3⟩
      | ((repeat apply Exists.intro);exact ⟨⟨k+1,HK.out,by go_num,F3⟩,rfl⟩)
    case measure=>have:=HK.out;simp [intOf];omega
  ·obtain rfl:k=n:=by omega
   have hR:=HG.out fun j h=>hI.out.1 j h (by rw [HN.out];exact h)
   subst hR
   go_wp2_with fail
   go_ret
   exact ⟨rfl,hI.out.2⟩
theorem byIs_word (n:Int):(byW n).toList.isEmpty=!byIs n:=by
 rw [ByteArray.toList_eq]
 unfold byW byIs
 by_cases h0:n=0
 ·rw [if_pos h0,h0];rfl
 rw [if_neg h0]
 by_cases h1:n=1
 ·rw [if_pos h1,h1];rfl
 rw [if_neg h1]
 by_cases h2:n=2
 ·rw [if_pos h2,h2];rfl
 rw [if_neg h2]
 simp [h0,h1,h2,mk]
set_option maxRecDepth 20000 in
theorem schema_ok (s:Sc) (v:Value) (w:World) (h:RlR w v s.rules) (h1:s.name.size≤9223372036854775807) (h2:s.level.size≤9223372036854775807) :
  Calls Tryz.prog 136 #[.agg #[.string s.name,.string s.level,.int .i64 s.rank,.int .i64 s.way,v]] w fun e w'=>e=.returned (.bool (scOk s))∧Below w.heap.size w w':=by
 have N1:=fun W=>name_ok s.name h1 W
 have N2:=fun W=>name_ok s.level h2 W
 have N3:=fun W=>within_ok s.rank 1 10000 W
 have N4:=fun W=>by_ok s.way W
 have hby:=byIs_word s.way
 have AL:=alloc_below w (.cells #[.string s.name,.string s.level,.int .i64 s.rank,.int .i64 s.way,v] 47)
 have NB:=Blk.new w 47 #[.string s.name,.string s.level,.int .i64 s.rank,.int .i64 s.way,v]
 have RU:=rules_ok v s.rules _ (h.carry AL)
 obtain ⟨a,c,rfl,-⟩:=h
 have e:scOk s=(isName s.name && (isName s.level && (inI s.rank 1 10000 && (byIs s.way && rlsOk s.rules)))):=rfl
 rw [e]
 clear e h1 h2
 generalize s.rules.length=n at *
 generalize isName s.name=p1 at *
 generalize isName s.level=p2 at *
 generalize inI s.rank 1 10000=p3 at *
 generalize byIs s.way=p4 at *
 generalize rlsOk s.rules=p5 at *
 generalize byW s.way=y at *
 go_enter Tryz.func136,Tryz.ntmps136
 go_upto_region 1 with fail
 generalize w.alloc _=w1 at *
 have d0:=NB.cellv 0 rfl
 have d1:=NB.cellv 1 rfl
 have d2:=NB.cellv 2 rfl
 have d3:=NB.cellv 3 rfl
 have d4:=NB.cellv 4 rfl
 simp at d0 d1 d2 d3 d4
 clear NB
 cases p1 with
 | false =>
  go_wp2_with (go_at_call 161;with_reducible refine (N1 _).mono ?_;rintro e w' ⟨rfl,rfl⟩)
  go_ret
  exact ⟨rfl,AL⟩
 | true =>
  go_wp2_with fail
  go_at_call 161
  refine (N1 _).mono ?_
  rintro e w2 ⟨rfl,hw⟩
  obtain rfl:=hw.symm
  cases p2 with
  | false =>
   go_wp2_with fail
   go_at_call 161
   refine (N2 _).mono ?_
   rintro e w2 ⟨rfl,hw⟩
   obtain rfl:=hw.symm
   go_wp2_with fail
   go_ret
   exact ⟨rfl,AL⟩
  | true =>
   go_wp2_with fail
   go_at_call 161
   refine (N2 _).mono ?_
   rintro e w2 ⟨rfl,hw⟩
   obtain rfl:=hw.symm
   cases p3 with
   | false =>
    go_wp2_with (go_at_call 82;refine (N3 _).mono ?_;rintro e w' ⟨rfl,hw⟩;obtain rfl:=hw.symm)
    go_ret
    exact ⟨rfl,AL⟩
   | true =>
    cases p4 with
    | false =>
     go_wp2_with (first | (go_at_call 82;refine (N3 _).mono ?_;rintro e w' ⟨rfl,hw⟩;obtain rfl:=hw.symm) | (go_at_call 114;refine (N4 _).mono ?_;rintro e w' ⟨rfl,hw⟩;obtain rfl:=hw.symm))
     go_ret
     exact ⟨rfl,AL⟩
    | true =>
     go_wp2_with (first | (go_at_call 82;refine (N3 _).mono ?_;rintro e w' ⟨rfl,hw⟩;obtain rfl:=hw.symm) | (go_at_call 114;refine (N4 _).mono ?_;rintro e w' ⟨rfl,hw⟩;obtain rfl:=hw.symm) | (go_at_call 164;refine RU.mono ?_;rintro e w' ⟨rfl,b2⟩))
     go_ret
     exact ⟨rfl,AL.trans (b2.mono AL.size)⟩
end Go.Proofs.YthkdbphgiobcdaaGreatDoor
