/-
  The mathematics of a stable sort in place: what a part of a row may become, exchanges, rotations, parts that are in order.
  A row of tickets in a block that may be written; two of its parts exchanged (slices.swapRangeCmpFunc); numbers compared.
  One taken out of a row in place, by the library (slices.Delete): what stands behind it moves up, the last place is cleared.
  Numbers compared, by the library and by the program; two parts of a row exchanged (slices.swapRangeCmpFunc).
  Two parts of a row exchanged, by the library (slices.swapRangeCmpFunc).
-/
import Derived.Test.YtlgibnmoogbdcaaR21
import Derived.Test.YtlgibnmoogbdcaaR5
namespace Go.Proofs.Ytlgibnmoogbdcaa
theorem gt_app_l {A B:List Tk} {k:Nat} (h:k<A.length):gt (A++B) k=gt A k:=by
 unfold gt
 rw [List.getD_eq_getElem?_getD,List.getD_eq_getElem?_getD,List.getElem?_append_left h]
theorem gt_app_r {A B:List Tk} {k:Nat} (h:A.length≤k):gt (A++B) k=gt B (k - A.length):=by
 unfold gt
 rw [List.getD_eq_getElem?_getD,List.getD_eq_getElem?_getD,List.getElem?_append_right h]
theorem gt_app_at (A B:List Tk) (k:Nat):gt (A++B) (A.length+k)=gt B k:=by rw [gt_app_r (Nat.le_add_right _ _),Nat.add_sub_cancel_left]
theorem gt_tk {L:List Tk} {n k:Nat} (h:k<n):gt (L.take n) k=gt L k:=by
 unfold gt
 rw [List.getD_eq_getElem?_getD,List.getD_eq_getElem?_getD,List.getElem?_take_of_lt h]
theorem gt_set (L:List Tk) (i:Nat) (t:Tk) (k:Nat) (h:i<L.length):gt (L.set i t) k=if i=k then t else gt L k:=by
 unfold gt
 rw [List.getD_eq_getElem?_getD,List.getD_eq_getElem?_getD,List.getElem?_set]
 by_cases e:i=k
 ·rw [if_pos e,if_pos e,if_pos h];rfl
 ·rw [if_neg e,if_neg e]
theorem gt_ext {L M:List Tk} (h:L.length=M.length) (e:∀ k,k<L.length→gt L k=gt M k):L=M:=by
 apply List.ext_getElem h
 intro k h1 h2
 have a:=gt_get h1
 have b:=gt_get h2
 rw [List.getElem?_eq_getElem h1] at a
 rw [List.getElem?_eq_getElem h2] at b
 injection a with a
 injection b with b
 rw [a,b,e k h1]
def of1 (v:Int) (L:List Tk):List Tk:=L.filter fun t=>t.id == v
theorem of1_app (v:Int) (A B:List Tk):of1 v (A++B)=of1 v A++of1 v B:=List.filter_append ..
theorem of1_none {v:Int} {L:List Tk} (h:∀ t∈L,t.id≠v):of1 v L=[]:=List.filter_eq_nil_iff.2 fun t ht=>by simpa using h t ht
theorem of1_mem {v:Int} {L:List Tk} {t:Tk} : t∈of1 v L ↔ t∈L∧t.id=v:=by unfold of1;rw [List.mem_filter];simp
structure Rl (a b:Nat) (L M:List Tk):Prop where
 len:M.length=L.length
 stb:∀ v,of1 v M=of1 v L
 out:∀ k,k<a∨b≤k→gt M k=gt L k
 ins:∀ k,a≤k→k<b→∃ j,a≤j∧j<b∧gt M k=gt L j
theorem Rl.refl (a b:Nat) (L:List Tk):Rl a b L L:=⟨rfl,fun _=>rfl,fun _ _=>rfl,fun k h1 h2=>⟨k,h1,h2,rfl⟩⟩
theorem Rl.trans {a b:Nat} {L M N:List Tk} (h:Rl a b L M) (k:Rl a b M N):Rl a b L N :=
 ⟨k.len.trans h.len,fun v=>(k.stb v).trans (h.stb v),fun i hi=>(k.out i hi).trans (h.out i hi),fun i h1 h2=>by
  obtain ⟨j,j1,j2,e⟩:=k.ins i h1 h2
  obtain ⟨q,q1,q2,e2⟩:=h.ins j j1 j2
  exact ⟨q,q1,q2,e.trans e2⟩⟩
theorem Rl.wide {a b a' b':Nat} {L M:List Tk} (h:Rl a b L M) (ha:a'≤a) (hb:b≤b'):Rl a' b' L M :=
 ⟨h.len,h.stb,fun k hk=>h.out k (by omega),fun k h1 h2=>by
  by_cases c:a≤k∧k<b
  ·obtain ⟨j,j1,j2,e⟩:=h.ins k c.1 c.2
   exact ⟨j,by omega,by omega,e⟩
  ·exact ⟨k,h1,h2,h.out k (by omega)⟩⟩
def Sd (a b:Nat) (L:List Tk):Prop:=∀ i j,a≤i→i≤j→j<b→(gt L i).id≤(gt L j).id
theorem Sd.one (a:Nat) (L:List Tk):Sd a (a+1) L:=fun i j h1 h2 h3=>by
 obtain rfl:i=j:=by omega
 exact Int.le_refl _
theorem Sd.none {a b:Nat} {L:List Tk} (h:b≤a+1):Sd a b L:=fun i j h1 h2 h3=>by
 obtain rfl:i=j:=by omega
 exact Int.le_refl _
theorem Sd.part {a b a' b':Nat} {L:List Tk} (h:Sd a b L) (ha:a≤a') (hb:b'≤b):Sd a' b' L:=fun i j h1 h2 h3=>h i j (by omega) h2 (by omega)
theorem Sd.congr {a b:Nat} {L M:List Tk} (h:Sd a b L) (e:∀ k,a≤k→k<b→gt M k=gt L k):Sd a b M:=fun i j h1 h2 h3=>by
 rw [e i h1 (by omega),e j (by omega) h3]
 exact h i j h1 h2 h3
theorem Rl.sd {a b x y:Nat} {L M:List Tk} (h:Rl a b L M) (s:Sd x y L) (e:y≤a∨b≤x):Sd x y M:=s.congr fun k h1 h2=>h.out k (by omega)
theorem Rl.all {a b:Nat} {L M:List Tk} (h:Rl a b L M) {P:Tk→Prop} (s:∀ k,a≤k→k<b→P (gt L k)):∀ k,a≤k→k<b→P (gt M k):=fun k h1 h2=>by
 obtain ⟨j,j1,j2,e⟩:=h.ins k h1 h2
 rw [e]
 exact s j j1 j2
theorem Sd.two {a m b:Nat} {L:List Tk} (h1:Sd a m L) (h2:Sd m b L) (h:∀ i j,a≤i→i<m→m≤j→j<b→(gt L i).id≤(gt L j).id):Sd a b L:=fun i j i1 ij j1=>by
 by_cases c:j<m
 ·exact h1 i j i1 ij c
 ·by_cases d:m≤i
  ·exact h2 i j d ij j1
  ·exact h i j i1 (by omega) (by omega) j1
def swT (L:List Tk) (i j:Nat):List Tk:=(L.set i (gt L j)).set j (gt L i)
theorem swT_len (L:List Tk) (i j:Nat):(swT L i j).length=L.length:=by unfold swT;rw [List.length_set,List.length_set]
theorem swT_at {L:List Tk} {i j:Nat} (hi:i<L.length) (hj:j<L.length) (k:Nat):gt (swT L i j) k=if j=k then gt L i else if i=k then gt L j else gt L k:=by
 unfold swT
 rw [gt_set _ _ _ _ (by rw [List.length_set];exact hj),gt_set _ _ _ _ hi]
theorem swT_comm {L:List Tk} {i j:Nat} (hi:i<L.length) (hj:j<L.length):swT L i j=swT L j i:=by
 refine gt_ext (by rw [swT_len,swT_len]) fun k _=>?_
 rw [swT_at hi hj,swT_at hj hi]
 by_cases c:j=k
 ·by_cases d:i=k
  ·rw [if_pos c,if_pos d,c,d]
  ·rw [if_pos c,if_neg d,if_pos c]
 ·by_cases d:i=k
  ·rw [if_neg c,if_pos d,if_pos d]
  ·rw [if_neg c,if_neg d,if_neg d,if_neg c]
theorem swT_list (A B C:List Tk) (x y:Tk):swT (A++x :: B++y :: C) A.length (A.length+1+B.length)=A++y :: B++x :: C:=by
 have hi:A.length<(A++x :: B++y :: C).length:=by simp only [List.length_append,List.length_cons];omega
 have hj:A.length+1+B.length<(A++x :: B++y :: C).length:=by simp only [List.length_append,List.length_cons];omega
 have ex:gt (A++x :: B++y :: C) A.length=x:=by
  rw [List.append_assoc,gt_app_r (Nat.le_refl _),Nat.sub_self]
  rfl
 have ey:gt (A++x :: B++y :: C) (A.length+1+B.length)=y:=by
  rw [gt_app_r (by simp;omega)]
  have:A.length+1+B.length - (A++x :: B).length=0:=by simp;omega
  rw [this]
  rfl
 refine gt_ext (by rw [swT_len];simp) fun k _=>?_
 rw [swT_at hi hj,ex,ey]
 by_cases c:A.length+1+B.length=k
 ·rw [if_pos c,gt_app_r (by simp;omega)]
  have:k - (A++y :: B).length=0:=by simp;omega
  rw [this]
  rfl
 ·rw [if_neg c]
  by_cases d:A.length=k
  ·rw [if_pos d,List.append_assoc,gt_app_r (by omega)]
   have:k - A.length=0:=by omega
   rw [this]
   rfl
  ·rw [if_neg d]
   by_cases e:k<A.length
   ·rw [List.append_assoc,List.append_assoc,gt_app_l e,gt_app_l e]
   ·by_cases f:k<A.length+1+B.length
    ·rw [gt_app_l (A:=A++x :: B) (by simp;omega),gt_app_l (A:=A++y :: B) (by simp;omega),gt_app_r (A:=A) (by omega),gt_app_r (A:=A) (by omega)]
     obtain ⟨q,hq⟩:∃ q,k - A.length=q+1:=⟨k - A.length - 1,by omega⟩
     rw [hq]
     rfl
    ·rw [gt_app_r (by simp;omega),gt_app_r (by simp;omega)]
     obtain ⟨q,hq⟩:∃ q,k - (A++x :: B).length=q+1:=⟨k - (A++x :: B).length - 1,by simp;omega⟩
     have hq2:k - (A++y :: B).length=q+1:=by rw [←hq];simp
     rw [hq,hq2]
     rfl
theorem swT_of1 (v:Int):∀ (L:List Tk) (k:Nat),k+1<L.length→(gt L k).id≠(gt L (k+1)).id→of1 v (swT L k (k+1))=of1 v L
 | [],k,h,_=>absurd h (by simp)
 | [_],k,h,_=>absurd h (by simp)
 | x :: y :: R,0,_,e=>by
  show of1 v (y :: x :: R)=of1 v (x :: y :: R)
  have e:x.id≠y.id:=e
  unfold of1
  by_cases c:x.id=v
  ·rw [List.filter_cons_of_neg (a:=y) (by simpa using fun d=>e (by rw [c,d])),List.filter_cons_of_pos (a:=x) (by simpa using c),List.filter_cons_of_pos (a:=x) (by simpa using c),List.filter_cons_of_neg (a:=y) (by simpa using fun d=>e (by rw [c,d]))]
  ·by_cases d:y.id=v
   ·rw [List.filter_cons_of_pos (a:=y) (by simpa using d),List.filter_cons_of_neg (a:=x) (by simpa using c),List.filter_cons_of_neg (a:=x) (by simpa using c),List.filter_cons_of_pos (a:=y) (by simpa using d)]
   ·rw [List.filter_cons_of_neg (a:=y) (by simpa using d),List.filter_cons_of_neg (a:=x) (by simpa using c),List.filter_cons_of_neg (a:=x) (by simpa using c),List.filter_cons_of_neg (a:=y) (by simpa using d)]
 | x :: y :: R,k+1,h,e=>by
  have ih:=swT_of1 v (y :: R) k (by simpa using h) e
  have e2:swT (x :: y :: R) (k+1) (k+1+1)=x :: swT (y :: R) k (k+1):=rfl
  rw [e2]
  unfold of1 at ih ⊢
  by_cases c:x.id=v
  ·rw [List.filter_cons_of_pos (by simpa using c),List.filter_cons_of_pos (by simpa using c),ih]
  ·rw [List.filter_cons_of_neg (by simpa using c),List.filter_cons_of_neg (by simpa using c),ih]
theorem Rl.swap {L:List Tk} {a b k:Nat} (hk:k+1<L.length) (ha:a≤k) (hb:k+1<b) (e:(gt L k).id≠(gt L (k+1)).id):Rl a b L (swT L k (k+1)):=by
 refine ⟨swT_len _ _ _,fun v=>swT_of1 v L k hk e,fun j hj=>?_,fun j h1 h2=>?_⟩
 ·rw [swT_at (by omega) hk,if_neg (by omega),if_neg (by omega)]
 ·rw [swT_at (by omega) hk]
  by_cases c:k+1=j
  ·exact ⟨k,by omega,by omega,by rw [if_pos c]⟩
  ·by_cases d:k=j
   ·exact ⟨k+1,by omega,by omega,by rw [if_neg c,if_pos d]⟩
   ·exact ⟨j,h1,h2,by rw [if_neg c,if_neg d]⟩
theorem Rl.rot {P U V S:List Tk} (h:∀ u∈U,∀ v∈V,u.id≠v.id):Rl P.length (P.length+U.length+V.length) (P++U++V++S) (P++V++U++S):=by
 refine ⟨by simp;omega,fun v=>?_,fun k hk=>?_,fun k h1 h2=>?_⟩
 ·simp only [of1_app,List.append_assoc]
  by_cases c:of1 v U=[]
  ·rw [c,List.nil_append,List.nil_append]
  ·have d:of1 v V=[]:=of1_none fun t ht e=>by
    obtain ⟨u,hu⟩:=List.exists_mem_of_ne_nil _ c
    obtain ⟨u1,u2⟩:=of1_mem.1 hu
    exact h u u1 t ht (by rw [u2,e])
   rw [d,List.nil_append,List.nil_append]
 ·rcases hk with c | c
  ·rw [List.append_assoc,List.append_assoc,List.append_assoc,List.append_assoc,gt_app_l c,gt_app_l c]
  ·rw [gt_app_r (by simp;omega),gt_app_r (by simp;omega)]
   congr 1
   simp
   omega
 ·by_cases c:k<P.length+V.length
  ·refine ⟨k+U.length,by omega,by omega,?_⟩
   rw [gt_app_l (by simp;omega),gt_app_l (by simp;omega),gt_app_r h1,gt_app_l (by simp;omega),gt_app_r (by simp;omega)]
   congr 1
   simp
   omega
  ·refine ⟨k - V.length,by omega,by omega,?_⟩
   rw [gt_app_l (by simp;omega),gt_app_r (by simp;omega),gt_app_l (by simp;omega),gt_app_l (by simp;omega),gt_app_r (by omega)]
   congr 1
   simp
   omega
theorem rot_at {P U V S:List Tk} {k:Nat} (h1:P.length≤k):(k<P.length+V.length→gt (P++V++U++S) k=gt (P++U++V++S) (k+U.length))∧(P.length+V.length≤k→k<P.length+V.length+U.length→gt (P++V++U++S) k=gt (P++U++V++S) (k - V.length)):=by
 refine ⟨fun c=>?_,fun c h2=>?_⟩
 ·rw [gt_app_l (by simp;omega),gt_app_l (by simp;omega),gt_app_r h1,gt_app_l (by simp;omega),gt_app_r (by simp;omega)]
  congr 1
  simp
  omega
 ·rw [gt_app_l (by simp;omega),gt_app_r (by simp;omega),gt_app_l (by simp;omega),gt_app_l (by simp;omega),gt_app_r (by omega)]
  congr 1
  simp
  omega
theorem cut4 {L:List Tk} {a m b:Nat} (h1:a≤m) (h2:m≤b) (h3:b≤L.length):∃ P U V S,L=P++U++V++S∧P.length=a∧U.length=m - a∧V.length=b - m:=by
 refine ⟨L.take a,(L.drop a).take (m - a),(L.drop m).take (b - m),L.drop b,?_,by rw [List.length_take];omega,by rw [List.length_take,List.length_drop];omega,by rw [List.length_take,List.length_drop];omega⟩
 have e1:=List.take_append_drop a L
 have e2:=List.take_append_drop (m - a) (L.drop a)
 have e3:=List.take_append_drop (b - m) (L.drop m)
 rw [List.drop_drop,show a+(m - a)=m from by omega] at e2
 rw [List.drop_drop,show m+(b - m)=b from by omega] at e3
 rw [←e3] at e2
 rw [←e2] at e1
 rw [List.append_assoc,List.append_assoc]
 exact e1.symm
theorem insT_of1 (v:Int) (t:Tk):∀ L,of1 v (insT t L)=of1 v (t :: L)
 | []=>rfl
 | u :: L=>by
  unfold insT
  by_cases c:t.id≤u.id
  ·rw [if_pos c]
  ·rw [if_neg c]
   have ih:=insT_of1 v t L
   have e:of1 v (t :: u :: L)=of1 v (u :: t :: L):=by
    have:=swT_of1 v (u :: t :: L) 0 (by simp) (show u.id≠t.id from by omega)
    exact this
   rw [e]
   unfold of1 at ih ⊢
   by_cases d:u.id=v
   ·rw [List.filter_cons_of_pos (a:=u) (by simpa using d),List.filter_cons_of_pos (a:=u) (by simpa using d),ih]
   ·rw [List.filter_cons_of_neg (a:=u) (by simpa using d),List.filter_cons_of_neg (a:=u) (by simpa using d),ih]
theorem srt_of1 (v:Int):∀ L,of1 v (srt L)=of1 v L
 | []=>rfl
 | t :: L=>by
  show of1 v (insT t (srt L))=_
  rw [insT_of1]
  have ih:=srt_of1 v L
  unfold of1 at ih ⊢
  by_cases d:t.id=v
  ·rw [List.filter_cons_of_pos (by simpa using d),List.filter_cons_of_pos (by simpa using d),ih]
  ·rw [List.filter_cons_of_neg (by simpa using d),List.filter_cons_of_neg (by simpa using d),ih]
def Up (L:List Tk):Prop:=L.Pairwise fun a b=>a.id≤b.id
theorem insT_up (t:Tk):∀ L,Up L→Up (insT t L)
 | [],_=>List.pairwise_singleton _ _
 | u :: L,h=>by
  unfold insT
  obtain ⟨h1,h2⟩:=List.pairwise_cons.1 h
  by_cases c:t.id≤u.id
  ·rw [if_pos c]
   refine List.pairwise_cons.2 ⟨fun x hx=>?_,h⟩
   rcases List.mem_cons.1 hx with rfl | hx
   ·exact c
   ·have:=h1 x hx;omega
  ·rw [if_neg c]
   refine List.pairwise_cons.2 ⟨fun x hx=>?_,insT_up t L h2⟩
   rcases List.mem_cons.1 ((insT_perm t L).mem_iff.1 hx) with rfl | hx
   ·omega
   ·exact h1 x hx
theorem srt_up:∀ L,Up (srt L)
 | []=>List.Pairwise.nil
 | t :: L=>insT_up t _ (srt_up L)
theorem Up.eq:∀ {L M:List Tk},Up L→Up M→(∀ v,of1 v L=of1 v M)→L=M
 | [],[],_,_,_=>rfl
 | [],u :: M,_,_,e=>by
  have:=e u.id
  unfold of1 at this
  rw [List.filter_cons_of_pos (by simp)] at this
  cases this
 | t :: L,[],_,_,e=>by
  have:=e t.id
  unfold of1 at this
  rw [List.filter_cons_of_pos (by simp)] at this
  cases this
 | t :: L,u :: M,hL,hM,e=>by
  obtain ⟨l1,l2⟩:=List.pairwise_cons.1 hL
  obtain ⟨m1,m2⟩:=List.pairwise_cons.1 hM
  have a:t∈of1 t.id (u :: M):=by rw [←e];exact of1_mem.2 ⟨List.mem_cons_self,rfl⟩
  have b:u∈of1 u.id (t :: L):=by rw [e];exact of1_mem.2 ⟨List.mem_cons_self,rfl⟩
  have c:t.id=u.id:=by
   have a1:=(of1_mem.1 a).1
   have b1:=(of1_mem.1 b).1
   have h1:u.id≤t.id:=by
    rcases List.mem_cons.1 a1 with q | q
    ·rw [q];exact Int.le_refl _
    ·exact m1 t q
   have h2:t.id≤u.id:=by
    rcases List.mem_cons.1 b1 with q | q
    ·rw [q];exact Int.le_refl _
    ·exact l1 u q
   omega
  have d:=e t.id
  unfold of1 at d
  rw [List.filter_cons_of_pos (by simp),List.filter_cons_of_pos (by simpa using c.symm)] at d
  injection d with d1 d2
  subst d1
  congr 1
  refine Up.eq l2 m2 fun v=>?_
  have f:=e v
  unfold of1 at f ⊢
  by_cases g:t.id=v
  ·rw [List.filter_cons_of_pos (by simpa using g),List.filter_cons_of_pos (by simpa using g)] at f
   injection f
  ·rw [List.filter_cons_of_neg (by simpa using g),List.filter_cons_of_neg (by simpa using g)] at f
   exact f
theorem sorted_is {L M:List Tk} (h:Rl 0 L.length L M) (s:Sd 0 L.length M):M=srt L:=by
 refine Up.eq ?_ (srt_up L) fun v=>(h.stb v).trans (srt_of1 v L).symm
 unfold Up
 rw [List.pairwise_iff_getElem]
 intro i j hi hj hij
 have a:=gt_get hi
 have b:=gt_get hj
 rw [List.getElem?_eq_getElem hi] at a
 rw [List.getElem?_eq_getElem hj] at b
 injection a with a
 injection b with b
 rw [a,b]
 exact s i j (Nat.zero_le _) (by omega) (by rw [←h.len];exact hj)
end Go.Proofs.Ytlgibnmoogbdcaa

namespace Go.Proofs.Ytlgibnmoogbdcaa
open Go.RowKit
def Rw (w:World) (g z:Nat) (L:List Tk):Prop:=∃ cur:Array Value,Blk w g 42 cur∧(cur.size=z*5∧L.length≤z)∧∀ (j:Nat) (u:Value),(tkCs L)[j]?=some u→cur[j]?=some u
theorem Rw.lt {w:World} {g z:Nat} {L:List Tk} (h:Rw w g z L):g<w.heap.size:=by
 obtain ⟨cur,hb,-⟩:=h
 exact hb.lt
theorem Rw.kept {S:Nat→Prop} {w w':World} {g z:Nat} {L:List Tk} (h:Rw w g z L) (k:Kept S w w') (hS:¬ S g):Rw w' g z L:=by
 obtain ⟨cur,hb,hs,hc⟩:=h
 exact ⟨cur,hb.kept k hS,hs,hc⟩
theorem Rw.below {w w':World} {g z:Nat} {L:List Tk} (h:Rw w g z L) (b:Below w.heap.size w w'):Rw w' g z L:=h.kept (Kept.of_below b (fun _=>False)) id
theorem Rw.frozen {w:World} {g z:Nat} {L:List Tk} (h:Rw w g z L) (i:Nat):w.frozen? ⟨g,i,none⟩=false:=by
 obtain ⟨cur,hb,-⟩:=h
 exact hb.frozen i
theorem Rw.at {w:World} {g z:Nat} {L:List Tk} (h:Rw w g z L) {k:Nat} (hk:k<L.length):w.cell? ⟨g,k*5,none⟩=some (.int .i64 (gt L k).id)∧w.cell? ⟨g,k*5+1,none⟩=some (.int .i64 (gt L k).wid)∧w.cell? ⟨g,k*5+2,none⟩=some (.int .i64 (gt L k).sts)∧w.cell? ⟨g,k*5+3,none⟩=some (.int .i64 (gt L k).sin)∧w.cell? ⟨g,k*5+4,none⟩=some (.int .i64 (gt L k).unt):=by
 obtain ⟨cur,hb,-,hc⟩:=h
 have r:∀ j u,j<5→(tkC (gt L k))[j]?=some u→w.cell? ⟨g,k*5+j,none⟩=some u:=fun j u hj hu=>by
  rw [hb.cell]
  exact hc _ _ ((tkCs_at L k hk j hj).trans hu)
 exact ⟨r 0 _ (by decide) rfl,r 1 _ (by decide) rfl,r 2 _ (by decide) rfl,r 3 _ (by decide) rfl,r 4 _ (by decide) rfl⟩
theorem Rw.put {w:World} {g z:Nat} {L:List Tk} (h:Rw w g z L) {k:Nat} (hk:k<L.length) (t:Tk) :
  Rw (((((w.setCell ⟨g,k*5,none⟩ (.int .i64 t.id)).setCell ⟨g,k*5+1,none⟩ (.int .i64 t.wid)).setCell ⟨g,k*5+2,none⟩ (.int .i64 t.sts)).setCell ⟨g,k*5+3,none⟩ (.int .i64 t.sin)).setCell ⟨g,k*5+4,none⟩ (.int .i64 t.unt)) g z (L.set k t)
  ∧ Kept (fun j=>j=g) w (((((w.setCell ⟨g,k*5,none⟩ (.int .i64 t.id)).setCell ⟨g,k*5+1,none⟩ (.int .i64 t.wid)).setCell ⟨g,k*5+2,none⟩ (.int .i64 t.sts)).setCell ⟨g,k*5+3,none⟩ (.int .i64 t.sin)).setCell ⟨g,k*5+4,none⟩ (.int .i64 t.unt)):=by
 obtain ⟨cur,hb,hs,hc⟩:=h
 refine ⟨⟨_,((((hb.set (k*5) (.int .i64 t.id)).set (k*5+1) (.int .i64 t.wid)).set (k*5+2) (.int .i64 t.sts)).set (k*5+3) (.int .i64 t.sin)).set (k*5+4) (.int .i64 t.unt),by rw [List.length_set];simpa using hs,fun (j:Nat) (u:Value) hj=>?_⟩,
  (((((Kept.refl (fun j=>j=g) w).setCell _ _ (.inl rfl)).setCell _ _ (.inl rfl)).setCell _ _ (.inl rfl)).setCell _ _ (.inl rfl)).setCell _ _ (.inl rfl)⟩
 have hlt:j<L.length*5:=by
  have:=tkCs_len (L.set k t)
  rw [List.length_set] at this
  rcases Nat.lt_or_ge j (tkCs (L.set k t)).length with c | c
  ·omega
  ·rw [List.getElem?_eq_none c] at hj;cases hj
 have hq:j / 5<L.length:=by omega
 have hr:j % 5<5:=Nat.mod_lt _ (by decide)
 have e:=tkCs_at (L.set k t) (j / 5) (by rw [List.length_set];exact hq) (j % 5) hr
 have ej:j / 5*5+j % 5=j:=by omega
 rw [ej,hj,gt_set _ _ _ _ hk] at e
 by_cases c:k=j / 5
 ·rw [if_pos c] at e
  have hk5:k*5+4<cur.size:=by omega
  have:j % 5=0∨j % 5=1∨j % 5=2∨j % 5=3∨j % 5=4:=by omega
  rcases this with d | d | d | d | d
  ·rw [show j=k*5 from by omega];rw [d] at e;simp [tkC] at e;rw [e];simp [Array.getElem?_setIfInBounds];omega
  ·rw [show j=k*5+1 from by omega];rw [d] at e;simp [tkC] at e;rw [e];simp [Array.getElem?_setIfInBounds];omega
  ·rw [show j=k*5+2 from by omega];rw [d] at e;simp [tkC] at e;rw [e];simp [Array.getElem?_setIfInBounds];omega
  ·rw [show j=k*5+3 from by omega];rw [d] at e;simp [tkC] at e;rw [e];simp [Array.getElem?_setIfInBounds];omega
  ·rw [show j=k*5+4 from by omega];rw [d] at e;simp [tkC] at e;rw [e];simp [Array.getElem?_setIfInBounds];omega
 ·rw [if_neg c] at e
  have e2:=tkCs_at L (j / 5) hq (j % 5) hr
  rw [ej] at e2
  have e3:=hc j u (by rw [e2,← e])
  rw [Array.getElem?_setIfInBounds_ne (by omega),Array.getElem?_setIfInBounds_ne (by omega),Array.getElem?_setIfInBounds_ne (by omega),Array.getElem?_setIfInBounds_ne (by omega),Array.getElem?_setIfInBounds_ne (by omega)]
  exact e3
theorem OwnT.rw {w:World} {B:Nat} {v:Value} {L:List Tk} (h:OwnT w B v L) (hn:0<L.length):∃ g c,v=.slice (some ⟨g,0,none⟩) L.length c∧(L.length≤c∧c≤maxLen)∧B≤g∧Rw w g c L:=by
 rcases id h.2 with ⟨-,e⟩ | ⟨g,cap,cur,rfl,hb,hg,hc,hm,hs,ht⟩
 ·omega
 ·refine ⟨g,cap,rfl,⟨hc,hm⟩,hb,⟨cur,hg,⟨hs,hc⟩,fun (j:Nat) (u:Value) hj=>?_⟩⟩
  have:=h.cells rfl j u hj
  rw [Go.WideShapes.add_plain,Nat.zero_add] at this
  have hB:Blk w g 42 cur:=hg
  rwa [hB.cell] at this
theorem Rw.own {w:World} {g z B:Nat} {L:List Tk} (h:Rw w g z L) (hB:B≤g) (hz:z≤maxLen):OwnT w B (.slice (some ⟨g,0,none⟩) L.length z) L:=by
 obtain ⟨cur,hb,⟨hs,hc⟩,h3⟩:=h
 refine ⟨by rw [tkCs_len],.inr ⟨g,z,cur,rfl,hB,hb,hc,hz,hs,?_⟩⟩
 apply List.ext_getElem?
 intro j
 rw [List.getElem?_take]
 by_cases c:j<L.length*5
 ·rw [if_pos c,Array.getElem?_toList]
  have hl:j<(tkCs L).length:=by rw [tkCs_len];exact c
  rw [List.getElem?_eq_getElem hl]
  exact h3 j _ (List.getElem?_eq_getElem hl)
 ·rw [if_neg c,List.getElem?_eq_none (by rw [tkCs_len];omega)]
theorem Rw.first {w:World} {g z:Nat} {L M:List Tk} (h:Rw w g z (L++M)):Rw w g z L:=by
 obtain ⟨cur,hb,⟨hs,hc⟩,h3⟩:=h
 refine ⟨cur,hb,⟨hs,by rw [List.length_append] at hc;omega⟩,fun j u hj=>h3 j u ?_⟩
 rw [tkCs_append,List.getElem?_append_left]
 ·exact hj
 ·rcases Nat.lt_or_ge j (tkCs L).length with c | c
  ·exact c
  ·rw [List.getElem?_eq_none c] at hj;cases hj
theorem Blk.sets {b t:Nat} : ∀ (vs:List Value) (o:Nat) {w:World} {cs:Array Value},Blk w b t cs→∃ cs':Array Value,Blk (w.setCells b o vs) b t cs'∧cs'.size=cs.size∧(∀ j,j<o∨o+vs.length≤j→cs'[j]?=cs[j]?)∧(∀ j,j<vs.length→o+j<cs.size→cs'[o+j]?=vs[j]?)∧Kept (fun k=>k=b) w (w.setCells b o vs)
 | [],o,w,cs,h=>⟨cs,h,rfl,fun _ _=>rfl,fun j hj=>absurd hj (Nat.not_lt_zero j),Kept.refl _ _⟩
 | v :: vs,o,w,cs,h=>by
  obtain ⟨c',h1,h2,h3,h4,h5⟩:=Blk.sets vs (o+1) (h.set o v)
  rw [Array.size_setIfInBounds] at h2 h4
  refine ⟨c',h1,h2,fun j hj=>?_,fun j hj hs=>?_,((Kept.refl (fun k=>k=b) w).setCell _ _ (.inl rfl)).trans h5⟩
  ·rw [List.length_cons] at hj
   rw [h3 j (by omega),Array.getElem?_setIfInBounds_ne (by omega)]
  ·cases j with
   | zero =>
    rw [Nat.add_zero,h3 o (.inl (Nat.lt_succ_self o)),Array.getElem?_setIfInBounds_self_of_lt (by omega)]
    rfl
   | succ j =>
    rw [show o+(j+1)=o+1+j from by omega,h4 j (by rw [List.length_cons] at hj;omega) (by omega)]
    rfl
theorem Rw.sets {w:World} {g z:Nat} {A B C D:List Tk} (h:Rw w g z (A++B++C)) (hD:D.length=B.length):Rw (w.setCells g (A.length*5) (tkCs D)) g z (A++D++C)∧Kept (fun k=>k=g) w (w.setCells g (A.length*5) (tkCs D)):=by
 obtain ⟨cur,hb,⟨hs,hz⟩,hc⟩:=h
 obtain ⟨c',h1,h2,h3,h4,h5⟩:=hb.sets (tkCs D) (A.length*5)
 have hz2:A.length+B.length+C.length≤z:=by rw [List.length_append,List.length_append] at hz;exact hz
 have hz3:(A.length+B.length+C.length)*5≤cur.size:=by rw [hs];exact Nat.mul_le_mul_right _ hz2
 refine ⟨⟨c',h1,⟨by rw [h2,hs],by simp only [List.length_append];omega⟩,fun j u hj=>?_⟩,h5⟩
 rw [tkCs_append,tkCs_append] at hj
 have lD:=tkCs_len D
 have lA:=tkCs_len A
 have lB:=tkCs_len B
 rw [lD] at h3 h4
 by_cases c1:j<A.length*5
 ·rw [h3 j (.inl c1)]
  refine hc j u ?_
  rw [tkCs_append,tkCs_append]
  rw [List.append_assoc,List.getElem?_append_left (by omega)] at hj ⊢
  exact hj
 ·by_cases c2:j<A.length*5+D.length*5
  ·obtain ⟨q,rfl⟩:∃ q,j=A.length*5+q:=⟨j - A.length*5,by omega⟩
   rw [h4 q (by omega) (by omega)]
   rw [List.append_assoc,List.getElem?_append_right (by omega),List.getElem?_append_left (by omega)] at hj
   rw [←hj]
   congr 1
   omega
  ·rw [h3 j (.inr (by omega))]
   refine hc j u ?_
   rw [tkCs_append,tkCs_append]
   rw [List.getElem?_append_right (by simp only [List.length_append];omega)] at hj ⊢
   rw [←hj]
   congr 1
   simp only [List.length_append]
   omega
theorem run_clear_tk (w:World) (ty:TypeId) (g z o n c:Nat) (L:List Tk) (h:Rw w g z L) (hn:o+n≤L.length) (h0:0<n) :
  (Builtin.clear_ #[34] ty #[.slice (some ⟨g,o*5,none⟩) n c]).run Try.prog w=.ok (.tuple #[]) (w.setCells g (o*5) (tkCs (List.replicate n tkZ))):=by
 have hv:(zeroValue 42).run Try.prog w=.ok (.agg #[.int .i64 0,.int .i64 0,.int .i64 0,.int .i64 0,.int .i64 0]) w:=by
  first | (go_simp;done) | (go_simp;rfl) | kernel_rfl
 have hzc:(Builtin.zeroCells (Value.cells (.agg #[.int .i64 0,.int .i64 0,.int .i64 0,.int .i64 0,.int .i64 0])) n).toList=tkCs (List.replicate n tkZ):=by
  apply List.ext_getElem?
  intro j
  by_cases c:j<n*5
  ·have e:=tkCs_at (List.replicate n tkZ) (j / 5) (by rw [List.length_replicate];omega) (j % 5) (Nat.mod_lt _ (by decide))
   rw [show j / 5*5+j % 5=j from by omega] at e
   rw [e]
   have:gt (List.replicate n tkZ) (j / 5)=tkZ:=by
    unfold gt
    rw [List.getD_eq_getElem?_getD,List.getElem?_replicate]
    split <;> rfl
   rw [this]
   have hm:j % 5=0∨j % 5=1∨j % 5=2∨j % 5=3∨j % 5=4:=by omega
   simp [Builtin.zeroCells,Value.cells,c]
   rcases hm with d | d | d | d | d <;> simp [d,tkC,tkZ]
  ·rw [List.getElem?_eq_none (by simp [Builtin.zeroCells,Value.cells];omega),List.getElem?_eq_none (by rw [tkCs_len,List.length_replicate];omega)]
 obtain ⟨cur,hb,⟨hs,hz⟩,hc⟩:=h
 have hst:=run_storeCells_cells (P:=Try.prog) g (o*5) (tkCs (List.replicate n tkZ)) 0 w (fun j hj=>by
  rw [tkCs_len,List.length_replicate] at hj
  rw [Nat.add_zero,hb.cell]
  rw [Array.getElem?_eq_getElem (by omega)]
  rfl) (fun j _=>hb.frozen _) tkCs_one
 rw [Nat.add_zero] at hst
 obtain ⟨m,rfl⟩:∃ m,n=m+1:=⟨n - 1,by omega⟩
 simp [Builtin.clear_,run_underlying Try.underlying34,hv,hzc,hst]
theorem Rw.sl {w:World} {g z:Nat} {L:List Tk} (h:Rw w g z L):SlR w (some ⟨g,0,none⟩) z L:=by
 obtain ⟨cur,hb,⟨hs,hz⟩,hc⟩:=h
 exact ⟨hz,(fun e=>by cases e),fun _=>⟨g,0,rfl,hb.lt,fun j u hj=>by rw [Nat.zero_add,hb.cell];exact hc j u hj⟩⟩
theorem Rw.room {w:World} {g z:Nat} {L:List Tk} (h:Rw w g z L) {q:Nat} (hq:q<z*5):(w.cell? ⟨g,q,none⟩).isSome=true∧w.frozen? ⟨g,q,none⟩=false:=by
 obtain ⟨cur,hb,⟨hs,hz⟩,hc⟩:=h
 exact ⟨by rw [hb.cell,Array.getElem?_eq_getElem (by omega)];rfl,hb.frozen q⟩
set_option maxRecDepth 20000 in
set_option maxHeartbeats 1000000 in
theorem delete_ok (g i n c:Nat) (L:List Tk) (w:World) (h:Rw w g c L) (hn:L.length=n) (hi:i<n) (hl:n≤2000) (hc:n≤c) (hcm:c≤maxLen) :
  Calls Try.prog 47 #[.slice (some ⟨g,0,none⟩) n c,.int .i64 i,.int .i64 ((i:Int)+1)] w fun e w'=>e=.returned (.slice (some ⟨g,0,none⟩) (n - 1) c)∧Rw w' g c (L.take i++L.drop (i+1))∧Kept (fun k=>k=g) w w':=by
 obtain ⟨i0,hi0,hz0,hz1,hz2⟩:=info_parts Try.info42
 obtain ⟨p,hp⟩:∃ p,n=p+1:=⟨n - 1,by omega⟩
 have lT:(L.take i).length=i:=by rw [List.length_take];omega
 have lD:(L.drop (i+1)).length=n - (i+1):=by rw [List.length_drop];omega
 obtain ⟨B,C,hBC,lB,lC⟩:∃ B C,L=L.take i++B++C∧B.length=(L.drop (i+1)).length∧C.length=1:=by
  refine ⟨(L.drop i).take (n - (i+1)),(L.drop i).drop (n - (i+1)),?_,?_,?_⟩
  ·rw [List.append_assoc,List.take_append_drop,List.take_append_drop]
  ·rw [lD,List.length_take,List.length_drop];omega
  ·rw [List.length_drop,List.length_drop];omega
 have h2:Rw w.drew g c (L.take i++B++C):=by rw [←hBC];exact h
 obtain ⟨S1,S2⟩:=h2.sets (D:=L.drop (i+1)) lB.symm
 rw [lT] at S1 S2
 obtain ⟨w1,hw1⟩:∃ w1,w1=w.drew.setCells g (i*5) (tkCs (L.drop (i+1))):=⟨_,rfl⟩
 rw [←hw1] at S1 S2
 have lM:(L.take i++L.drop (i+1)).length=p:=by rw [List.length_append,lT,lD];omega
 have hcl:∀ ty,(Builtin.clear_ #[34] ty #[.slice (some ⟨g,p*5,none⟩) 1 (c - p)]).run Try.prog w1=.ok (.tuple #[]) (w1.setCells g (p*5) (tkCs (List.replicate 1 tkZ))):=fun ty=>run_clear_tk w1 ty g c p 1 (c - p) _ S1 (by rw [List.length_append,lM,lC];omega) (by decide)
 have S3:Rw w1 g c ((L.take i++L.drop (i+1))++C ++ []):=by rw [List.append_nil];exact S1
 obtain ⟨S4,S5⟩:=S3.sets (D:=List.replicate 1 tkZ) (by rw [lC];rfl)
 rw [lM,List.append_nil] at S4
 rw [lM] at S5
 have HZ:Hd (Rw (w1.setCells g (p*5) (tkCs (List.replicate 1 tkZ))) g c (L.take i++L.drop (i+1))∧Kept (fun k=>k=g) w (w1.setCells g (p*5) (tkCs (List.replicate 1 tkZ)))):=⟨S4.first,((Kept.refl _ w).drew.trans S2).trans S5⟩
 have HW:Hd (w1=w.drew.setCells g (0+i*5) (tkCs (L.drop (i+1)))):=⟨by rw [Nat.zero_add];exact hw1⟩
 have HR:Hd (∀ W,Rw W g c L→SlR W (some (if c=i+1 then ⟨g,0,none⟩ else ⟨g,0+(i+1)*5,none⟩)) (c - (i+1)) (L.drop (i+1))∧∀ j,j<(tkCs (L.drop (i+1))).length→(W.cell? ⟨g,0+i*5+j,none⟩).isSome=true∧W.frozen? ⟨g,0+i*5+j,none⟩=false):=⟨fun W r=>⟨r.sl.drop (i+1) (by omega),fun j hj=>by
  rw [tkCs_len,lD] at hj
  rw [Nat.zero_add]
  exact r.room (by omega)⟩⟩
 have HL:Hd ((tkCs (L.drop (i+1))).length=(n - (i+1))*5):=⟨by rw [tkCs_len,lD]⟩
 have HT:Hd (Rw w.drew g c L):=⟨h⟩
 obtain ⟨x2,hx2⟩:∃ x2,x2=(if c=i+1 then (⟨g,0,none⟩:Addr) else ⟨g,0+(i+1)*5,none⟩):=⟨_,rfl⟩
 rw [←hx2] at HR
 have HX:Hd ((if c=i+1 then some (⟨g,0,none⟩:Addr) else some ⟨g,(i+1)*5,none⟩)=some x2):=⟨by rw [hx2,Nat.zero_add];split <;> rfl⟩
 have HP:Hd (i+(n - (i+1))=p∧n=p+1):=⟨by omega,hp⟩
 have hpc:¬ c=p:=by omega
 have hpn:n - p=1:=by omega
 have hpl:p<n:=by omega
 have hpi:n - 1=p:=by omega
 have hcw:(c:Int)≤9223372036854775807:=by unfold maxLen at hcm;omega
 clear hx2 h h2 hBC lB lC S1 S2 S3 S4 S5 hw1 lT lD lM hp
 have v1:IntKind.i64.wrap ((i:Int)+1)=(i:Int)+1:=by rw [IntKind.wrap_i64];omega
 have hne:((i:Int) == (i:Int)+1)=false:=by simp;omega
 go_enter Try.func47,Try.ntmps47
 go_upto_region 5 with fail
 clear hn
 refine AnyG.start (T:=fun W=>True) (U:=fun W=>W=w.drew) (j0:=6) (by kernel_rfl) ?_
 generalize w.drew=wd at *
 refine .tr 0 20 ⟨trivial,fun _=>rfl⟩ ?_;simp only [oqA,oqB,oqC]
 refine .tr 1 21 ⟨trivial,fun _=>rfl⟩ ?_;simp only [oqA,oqB,oqC]
 refine .tr (v:=.slice (some ⟨g,0,none⟩) i c) 2 22 ⟨trivial,fun _=>rfl⟩ ?_ (hy:=fun w hSw=>by go_simp;intro hlt;omega);simp only [oqA,oqB,oqC]
 refine .tr 3 23 ⟨trivial,fun _=>rfl⟩ ?_;simp only [oqA,oqB,oqC]
 refine .tr 4 24 ⟨trivial,fun _=>rfl⟩ ?_;simp only [oqA,oqB,oqC]
 refine .tr (v:=.slice (some x2) (n - (i+1)) (c - (i+1))) 5 25 ⟨trivial,fun _=>rfl⟩ ?_ (hy:=fun w hSw=>by go_simp;rw [if_pos (by omega),HX.out]);simp only [oqA,oqB,oqC]
 refine AnyG.ready (rs:=[6]) (by kernel_rfl) (by simp) ?_
 refine AllG.cons rfl (fun K hK=>?_) AllG.nil
 have HS:=HR.out _ HT.out
 refine step_append_room rfl (.tmp 22) (.tmp 25) 34 rfl 42 i0 5 Try.underlying34 hi0 hz1 g 0 i c rfl x2 (n - (i+1)) (c - (i+1)) (tkCs (L.drop (i+1))) rfl HL.out HS.1.2.2.cells tkCs_one (by omega) HS.2 ?_
 rw [←HW.out,HP.out.1]
 refine hK.out _ _ ⟨trivial,fun h=>by cases h⟩ ?_
 clear hK K HS
 refine AnyG.putAt 26 rfl ?_;simp only [oqA,oqB,oqC]
 refine .tr 7 0 ⟨trivial,fun h=>by cases h⟩ ?_;simp only [oqA,oqB]
 refine AnyG.done (by kernel_rfl) ?_ _
 go_wp2_with fail
 go_ret
 exact ⟨by rw [hpi];rfl,HZ.out⟩
def cmI (a b:Int):Int:=if a<b then -1 else if b<a then 1 else 0
theorem cmI_neg (a b:Int):cmI a b<0 ↔ a<b:=by
 unfold cmI
 by_cases c:a<b
 ·rw [if_pos c];exact ⟨fun _=>c,fun _=>by decide⟩
 ·rw [if_neg c]
  by_cases d:b<a
  ·rw [if_pos d];exact ⟨fun h=>absurd h (by decide),fun h=>absurd h c⟩
  ·rw [if_neg d];exact ⟨fun h=>absurd h (by decide),fun h=>absurd h c⟩
theorem nan_ok (a:Int) (w:World):Calls Try.prog 80 #[.int .i64 a] w fun e w'=>e=.returned (.bool false)∧w'=w:=by
 go_enter Try.func80,Try.ntmps80
 go_wp2
 go_ret
 exact ⟨by simp,rfl⟩
theorem compare_ok (a b:Int) (w:World):Calls Try.prog 56 #[.int .i64 a,.int .i64 b] w fun e w'=>e=.returned (.int .i64 (cmI a b))∧w'=w:=by
 unfold cmI
 by_cases c:a<b
 ·rw [if_pos c]
  go_enter Try.func56,Try.ntmps56
  go_wp2_with (go_at_call 80;refine (nan_ok _ _).mono ?_;rintro e w' ⟨rfl,rfl⟩)
  go_ret
  exact ⟨rfl,rfl⟩
 ·rw [if_neg c]
  by_cases d:b<a
  ·rw [if_pos d]
   go_enter Try.func56,Try.ntmps56
   go_wp2_with (go_at_call 80;refine (nan_ok _ _).mono ?_;rintro e w' ⟨rfl,rfl⟩)
   go_ret
   exact ⟨rfl,rfl⟩
  ·rw [if_neg d]
   go_enter Try.func56,Try.ntmps56
   go_wp2_with (go_at_call 80;refine (nan_ok _ _).mono ?_;rintro e w' ⟨rfl,rfl⟩)
   go_ret
   exact ⟨rfl,rfl⟩
theorem cmp_ok (x y:Tk) (w:World):Calls Try.prog 55 #[.agg #[.int .i64 x.id,.int .i64 x.wid,.int .i64 x.sts,.int .i64 x.sin,.int .i64 x.unt],.agg #[.int .i64 y.id,.int .i64 y.wid,.int .i64 y.sts,.int .i64 y.sin,.int .i64 y.unt]] w fun e w'=>e=.returned (.int .i64 (cmI x.id y.id))∧Below w.heap.size w w':=by
 obtain ⟨w2,hw2⟩:∃ w2,w2=(w.alloc (.cells #[.int .i64 x.id,.int .i64 x.wid,.int .i64 x.sts,.int .i64 x.sin,.int .i64 x.unt] 42)).alloc (.cells #[.int .i64 y.id,.int .i64 y.wid,.int .i64 y.sts,.int .i64 y.sin,.int .i64 y.unt] 42):=⟨_,rfl⟩
 have BX:=boxes w 42 42 #[.int .i64 x.id,.int .i64 x.wid,.int .i64 x.sts,.int .i64 x.sin,.int .i64 x.unt] #[.int .i64 y.id,.int .i64 y.wid,.int .i64 y.sts,.int .i64 y.sin,.int .i64 y.unt]
 rw [←hw2] at BX
 obtain ⟨B,N1,N2⟩:=BX
 have B:Hd (Below w.heap.size w w2):=⟨B⟩
 have c1:=N1.cellv (v:=.int .i64 x.id) 0 rfl
 have c2:=N2.cellv (v:=.int .i64 y.id) 0 rfl
 clear N1 N2
 go_enter Try.func55,Try.ntmps55
 go_upto_region 1 with fail
 rw [←hw2]
 clear hw2
 go_wp2_with (go_at_call 56;refine (compare_ok _ _ _).mono ?_;rintro e w' ⟨rfl,rfl⟩)
 go_ret;exact ⟨rfl,B.out⟩
def swR (P U M V S:List Tk) (k:Nat):List Tk:=(P++V.take k)++(U.drop k++M++U.take k)++V.drop k++S
theorem swR_zero (P U M V S:List Tk):swR P U M V S 0=P++U++M++V++S:=by simp [swR]
theorem swR_all {P U M V S:List Tk} (h:U.length=V.length):swR P U M V S U.length=P++V++M++U++S:=by
 unfold swR
 rw [List.take_of_length_le (l:=V) (by omega),List.drop_of_length_le (l:=U) (Nat.le_refl _),List.take_of_length_le (l:=U) (Nat.le_refl _),List.drop_of_length_le (l:=V) (by omega)]
 simp
theorem swR_step {P U M V S:List Tk} (h:U.length=V.length) {k:Nat} (hk:k<U.length):swT (swR P U M V S k) (P.length+k) (P.length+U.length+M.length+k)=swR P U M V S (k+1):=by
 have e1:U.drop k=gt U k :: U.drop (k+1):=by
  rw [List.drop_eq_getElem_cons hk]
  have:=gt_get hk
  rw [List.getElem?_eq_getElem hk] at this
  injection this with this
  rw [this]
 have e2:V.drop k=gt V k :: V.drop (k+1):=by
  have hk:k<V.length:=by omega
  rw [List.drop_eq_getElem_cons hk]
  have:=gt_get hk
  rw [List.getElem?_eq_getElem hk] at this
  injection this with this
  rw [this]
 have e3:V.take (k+1)=V.take k ++ [gt V k]:=by rw [List.take_add_one,gt_get (by omega)];rfl
 have e4:U.take (k+1)=U.take k ++ [gt U k]:=by rw [List.take_add_one,gt_get hk];rfl
 have key:=swT_list (P++V.take k) (U.drop (k+1)++M++U.take k) (V.drop (k+1)++S) (gt U k) (gt V k)
 have l1:(P++V.take k).length=P.length+k:=by rw [List.length_append,List.length_take];omega
 have l2:(P++V.take k).length+1+(U.drop (k+1)++M++U.take k).length=P.length+U.length+M.length+k:=by
  rw [l1]
  simp only [List.length_append,List.length_take,List.length_drop]
  omega
 rw [l2,l1] at key
 have a1:swR P U M V S k=P++V.take k++gt U k :: (U.drop (k+1)++M++U.take k)++gt V k :: (V.drop (k+1)++S):=by
  unfold swR
  rw [e1,e2]
  simp
 have a2:swR P U M V S (k+1)=P++V.take k++gt V k :: (U.drop (k+1)++M++U.take k)++gt U k :: (V.drop (k+1)++S):=by
  unfold swR
  rw [e3,e4]
  simp
 rw [a1,a2]
 exact key
theorem swR_len {P U M V S:List Tk} (h:U.length=V.length) (k:Nat) (hk:k≤U.length):(swR P U M V S k).length=P.length+U.length+M.length+V.length+S.length:=by
 unfold swR
 simp only [List.length_append,List.length_take,List.length_drop]
 omega
def C5 (w:World) (g i:Nat) (t:Tk):Prop:=w.cell? ⟨g,i*5,none⟩=some (.int .i64 t.id)∧w.cell? ⟨g,i*5+1,none⟩=some (.int .i64 t.wid)∧w.cell? ⟨g,i*5+2,none⟩=some (.int .i64 t.sts)∧w.cell? ⟨g,i*5+3,none⟩=some (.int .i64 t.sin)∧w.cell? ⟨g,i*5+4,none⟩=some (.int .i64 t.unt)
set_option maxRecDepth 20000 in
set_option maxHeartbeats 1000000 in
theorem swr_ok (g z a b m n:Nat) (c:Nat) (P U M V S:List Tk) (f:Value) (w:World) (h:Rw w g z (P++U++M++V++S)) (hUV:U.length=V.length) (hn:(P++U++M++V++S).length=n) (ha:P.length=a) (hb:P.length+U.length+M.length=b) (hm:U.length=m) (hl:n≤2000) :
  Calls Try.prog 105 #[.slice (some ⟨g,0,none⟩) n c,.int .i64 a,.int .i64 b,.int .i64 m,f] w fun e w'=>e=.returned (.tuple #[])∧Rw w' g z (P++V++M++U++S)∧Kept (fun j=>j=g) w w':=by
 have HE:Hd (Rw w g z (swR P U M V S 0)∧swR P U M V S m=P++V++M++U++S):=⟨by rw [swR_zero];exact h,by rw [←hm];exact swR_all hUV⟩
 have HS:Hd (∀ k,k<m→swT (swR P U M V S k) (a+k) (b+k)=swR P U M V S (k+1)):=⟨fun k hk=>by rw [←ha,← hb];exact swR_step hUV (by omega)⟩
 have HN:Hd (∀ k,k≤m→(swR P U M V S k).length=n):=⟨fun k hk=>by rw [swR_len hUV k (by omega),← hn];simp only [List.length_append]⟩
 have hbm:b+m≤n:=by rw [←hn];simp only [List.length_append];omega
 have ham:a+m≤b:=by omega
 have hE:=HE.out.2
 rw [←hE]
 clear hE h hUV hn ha hb hm
 generalize swR P U M V S=R at *
 go_enter Try.func105,Try.ntmps105
 go_wp2_with fail
 go_loopw [10] (fun i wr=>∃ k:Nat,k≤m∧i=.int .i64 k∧Hd (Rw wr g z (R k))∧Hd (Kept (fun j=>j=g) w wr)) (fun i _=>m - (intOf i).toNat)
 case atStart=>exact ⟨0,Nat.zero_le _,rfl,⟨HE.out.1⟩,⟨Kept.refl _ _⟩⟩
 case round =>
  obtain ⟨k,hk,rfl,hR,hK⟩:=hrel
  by_cases hlt:k<m
  ·have hlen:=HN.out k (by omega)
   have HT:=HS.out k hlt
   obtain ⟨L0,hL0⟩:∃ L0,L0=R k:=⟨_,rfl⟩
   rw [←hL0] at hR hlen HT
   have HT:Hd (swT L0 (a+k) (b+k)=R (k+1)):=⟨HT⟩
   clear hL0
   obtain ⟨x,hx⟩:∃ x,x=gt L0 (a+k):=⟨_,rfl⟩
   obtain ⟨y,hy⟩:∃ y,y=gt L0 (b+k):=⟨_,rfl⟩
   have HX:Hd (x=gt L0 (a+k)):=⟨hx⟩
   have HY:Hd (y=gt L0 (b+k)):=⟨hy⟩
   clear hx hy
   have i1:(a:Int)+(k:Int)<(n:Int):=by omega
   have i2:(b:Int)+(k:Int)<(n:Int):=by omega
   have e1:((a:Int)+(k:Int)).toNat=a+k:=by omega
   have e2:((b:Int)+(k:Int)).toNat=b+k:=by omega
   have p1:(0:Int)≤(a:Int)+(k:Int):=by omega
   have p2:(0:Int)≤(b:Int)+(k:Int):=by omega
   have V1:Hd (IntKind.i64.wrap ((a:Int)+(k:Int))=(a:Int)+(k:Int)):=⟨by rw [IntKind.wrap_i64];omega⟩
   have V2:Hd (IntKind.i64.wrap ((b:Int)+(k:Int))=(b:Int)+(k:Int)):=⟨by rw [IntKind.wrap_i64];omega⟩
   go_wp2_with fail
   have RD:Hd (Rw wr.drew g z L0):=⟨hR.out⟩
   have UU:C5 wr.drew g (a+k) x∧C5 wr.drew g (b+k) y:=⟨by rw [HX.out];exact RD.out.at (by omega),by rw [HY.out];exact RD.out.at (by omega)⟩
   have HXY:Hd (∀ W,Rw W g z ((L0.set ((a+k)) y).set ((b+k)) x)→Rw W g z (swT L0 ((a+k)) ((b+k)))):=⟨fun W h=>by rw [HX.out,HY.out] at h;exact h⟩
   clear HX HY
   have KD:Hd (Kept (fun q=>q=g) wr wr.drew):=⟨(Kept.refl _ _).drew⟩
   refine AnyG.start (T:=fun _=>True) (U:=fun W=>C5 W g (a+k) x∧C5 W g (b+k) y) (j0:=21) (by kernel_rfl) ?_
   generalize wr.drew=wd at *
   refine .tr 0 16 ⟨trivial,fun _=>UU⟩ ?_;simp only [oqA,oqB,oqC]
   refine .tr 1 17 ⟨trivial,fun _=>UU⟩ ?_;simp only [oqA,oqB,oqC]
   refine .tr 2 18 ⟨trivial,fun _=>UU⟩ ?_;simp only [oqA,oqB,oqC]
   refine .tr (v:=.int .i64 ((a:Int)+(k:Int))) 3 19 ⟨trivial,fun _=>UU⟩ ?_ (hy:=fun w hSw=>by have s:=V1.out;go_simp;try rfl);simp only [oqA,oqB,oqC]
   refine .tr 4 20 ⟨trivial,fun _=>UU⟩ ?_;simp only [oqA,oqB,oqC]
   refine .tr 5 21 ⟨trivial,fun _=>UU⟩ ?_;simp only [oqA,oqB,oqC]
   refine .tr 6 22 ⟨trivial,fun _=>UU⟩ ?_;simp only [oqA,oqB,oqC]
   refine .tr (v:=.int .i64 ((b:Int)+(k:Int))) 7 23 ⟨trivial,fun _=>UU⟩ ?_ (hy:=fun w hSw=>by have s:=V2.out;go_simp;try rfl);simp only [oqA,oqB,oqC]
   refine .tr 8 24 ⟨trivial,fun _=>UU⟩ ?_;simp only [oqA,oqB,oqC]
   refine .tr 9 25 ⟨trivial,fun _=>UU⟩ ?_;simp only [oqA,oqB,oqC]
   refine .tr 10 26 ⟨trivial,fun _=>UU⟩ ?_;simp only [oqA,oqB,oqC]
   refine .tr (v:=.int .i64 ((b:Int)+(k:Int))) 11 27 ⟨trivial,fun _=>UU⟩ ?_ (hy:=fun w hSw=>by have s:=V2.out;go_simp;try rfl);simp only [oqA,oqB,oqC]
   refine .tr 12 28 ⟨trivial,fun _=>UU⟩ ?_;simp only [oqA,oqB,oqC]
   refine .er 13 29 ⟨trivial,fun _=>UU⟩ ?_ (hy:=fun w hSw=>by obtain ⟨-,-,⟨c0,c1,c2,c3,c4⟩⟩:=hSw;go_simp;rfl);simp only [oqA,oqB,oqC]
   refine .tr 14 30 ⟨trivial,fun _=>UU⟩ ?_;simp only [oqA,oqB,oqC]
   refine .tr 15 31 ⟨trivial,fun _=>UU⟩ ?_;simp only [oqA,oqB,oqC]
   refine .tr 16 32 ⟨trivial,fun _=>UU⟩ ?_;simp only [oqA,oqB,oqC]
   refine .tr (v:=.int .i64 ((a:Int)+(k:Int))) 17 33 ⟨trivial,fun _=>UU⟩ ?_ (hy:=fun w hSw=>by have s:=V1.out;go_simp;try rfl);simp only [oqA,oqB,oqC]
   refine .tr 18 34 ⟨trivial,fun _=>UU⟩ ?_;simp only [oqA,oqB,oqC]
   refine .er 19 35 ⟨trivial,fun _=>UU⟩ ?_ (hy:=fun w hSw=>by obtain ⟨-,⟨c0,c1,c2,c3,c4⟩,-⟩:=hSw;go_simp;rfl);simp only [oqA,oqB,oqC]
   refine .tr 20 36 ⟨trivial,fun _=>UU⟩ ?_;simp only [oqA,oqB,oqC]
   refine AnyG.ready (rs:=[21]) (by kernel_rfl) (by simp) ?_
   refine AllG.cons rfl (fun K hK=>?_) AllG.nil
   obtain ⟨⟨a0,a1,a2,a3,a4⟩,-⟩:=UU
   have fz:=RD.out.frozen
   obtain ⟨P1,P2⟩:=RD.out.put (k:=(a+k)) (by omega) y
   go_simp
   refine hK.out _ _ ⟨trivial,fun h=>by cases h⟩ ?_
   clear hK K a0 a1 a2 a3 a4 fz
   generalize (((((wd.setCell ⟨g,(a+k)*5,none⟩ (.int .i64 y.id)).setCell ⟨g,(a+k)*5+1,none⟩ (.int .i64 y.wid)).setCell ⟨g,(a+k)*5+2,none⟩ (.int .i64 y.sts)).setCell ⟨g,(a+k)*5+3,none⟩ (.int .i64 y.sin)).setCell ⟨g,(a+k)*5+4,none⟩ (.int .i64 y.unt))=w6 at P1 P2 ⊢
   refine .tr 22 37 ⟨trivial,fun h=>by cases h⟩ ?_;simp only [oqA,oqB,oqC]
   refine AnyG.ready (rs:=[23]) (by kernel_rfl) (by simp) ?_
   refine AllG.cons rfl (fun K hK=>?_) AllG.nil
   obtain ⟨a0,a1,a2,a3,a4⟩:=P1.at (k:=(b+k)) (by rw [List.length_set];omega)
   have fz:=P1.frozen
   obtain ⟨P3,P4⟩:=P1.put (k:=(b+k)) (by rw [List.length_set];omega) x
   go_simp
   refine hK.out _ _ ⟨trivial,fun h=>by cases h⟩ ?_
   clear hK K a0 a1 a2 a3 a4 fz
   generalize (((((w6.setCell ⟨g,(b+k)*5,none⟩ (.int .i64 x.id)).setCell ⟨g,(b+k)*5+1,none⟩ (.int .i64 x.wid)).setCell ⟨g,(b+k)*5+2,none⟩ (.int .i64 x.sts)).setCell ⟨g,(b+k)*5+3,none⟩ (.int .i64 x.sin)).setCell ⟨g,(b+k)*5+4,none⟩ (.int .i64 x.unt))=w9 at P3 P4 ⊢
   refine AnyG.done (by kernel_rfl) ?_ _
   have HZ:Hd (Rw w9 g z (swT L0 (a+k) (b+k))∧Kept (fun q=>q=g) wr w9):=⟨HXY.out _ P3,KD.out.trans (P2.trans P4)⟩
   clear P1 P2 P3 P4 RD KD HXY
   rw [HT.out] at HZ
   clear hR HT
   go_wp2_with fail
   go_roundw
   case rel=>exact ⟨k+1,by omega,by go_num,⟨HZ.out.1⟩,⟨hK.out.trans HZ.out.2⟩⟩
   case measure=>simp [intOf];omega
  ·obtain rfl:k=m:=by omega
   go_wp2_with fail
   go_end0
   exact ⟨rfl,hR.out,hK.out⟩
end Go.Proofs.Ytlgibnmoogbdcaa
