/-
  The mathematics of who is late, and that nobody is lost or there twice.
  The mathematics of who comes to a level, and of a level that is turned.
  A level at work as it lies in memory: its box of 23 cells (its type is 36), and how it is read.
  The first one of an ID, the first one that is late, by the program (slices.IndexFunc).
-/
import Derived.Test.YtlgibnmoogbdcaaR20
import Derived.Test.YtlgibnmoogbdcaaR18
namespace Go.Proofs.Ytlgibnmoogbdcaa
def ltB (now:Int) (t:Tk):Bool:=decide (t.unt≤now)
def ltA (now:Int) (F:List Ln):List Tk:=(flt F).filter (ltB now)
def ltK (now:Int) (F:List Ln):List Ln:=F.map fun l=>⟨l.s,l.L.filter fun t=>!ltB now t⟩
def insT (t:Tk):List Tk→List Tk
 | []=>[t]
 | u :: L=>if t.id≤u.id then t :: u :: L else u :: insT t L
def srt:List Tk→List Tk
 | []=>[]
 | t :: L=>insT t (srt L)
theorem insT_perm (t:Tk):∀ L,(insT t L).Perm (t :: L)
 | []=>List.Perm.refl _
 | u :: L=>by
  unfold insT
  split
  ·exact List.Perm.refl _
  ·exact ((insT_perm t L).cons u).trans (List.Perm.swap t u L)
theorem srt_perm:∀ L,(srt L).Perm L
 | []=>List.Perm.refl _
 | t :: L=>(insT_perm t (srt L)).trans ((srt_perm L).cons t)
theorem insT_first {t:Tk} {L:List Tk} (h:∀ u∈L,t.id≤u.id):insT t L=t :: L:=by
 cases L with
 | nil=>rfl
 | cons u L=>exact if_pos (h u List.mem_cons_self)
theorem srt_pick {t:Tk} {B:List Tk} (hB:∀ u∈B,t.id≤u.id):∀ (A:List Tk),(∀ u∈A,t.id<u.id)→srt (A++t :: B)=t :: srt (A++B)
 | [],_=>insT_first (fun u hu=>hB u ((srt_perm B).mem_iff.1 hu))
 | a :: A,hA=>by
  show insT a (srt (A++t :: B))=t :: insT a (srt (A++B))
  rw [srt_pick hB A (fun u hu=>hA u (List.mem_cons_of_mem _ hu))]
  have:=hA a List.mem_cons_self
  exact if_neg (by omega)
theorem flt_late (now:Int):∀ F,flt (ltK now F)=(flt F).filter fun t=>!ltB now t
 | []=>rfl
 | l :: F=>by
  show flt (_ :: ltK now F)=_
  rw [flt_cons,flt_cons,List.filter_append,flt_late now F]
theorem late_perm (now:Int) (F:List Ln):(flt F).Perm (ltA now F++flt (ltK now F)):=by
 rw [flt_late]
 exact (List.filter_append_perm (ltB now) (flt F)).symm
theorem ltK_len (now:Int) (F:List Ln):(ltK now F).length=F.length:=List.length_map _
theorem gl_ltK (now:Int) (F:List Ln) (k:Nat):gl (ltK now F) k=⟨(gl F k).s,(gl F k).L.filter fun t=>!ltB now t⟩:=by
 rcases Nat.lt_or_ge k F.length with c | c
 ·have h1:=gl_get c
  have h2:(ltK now F)[k]?=some ⟨(gl F k).s,(gl F k).L.filter fun t=>!ltB now t⟩:=by
   unfold ltK
   rw [List.getElem?_map,h1]
   rfl
  have h3:=gl_get (F:=ltK now F) (k:=k) (by rw [ltK_len];exact c)
  rw [h2] at h3
  injection h3 with h3
  exact h3.symm
 ·rw [gl_out c,gl_out (by rw [ltK_len];exact c)]
  rfl
theorem ltK_none {now:Int} {F:List Ln} (h:ltA now F=[]):ltK now F=F:=by
 unfold ltA at h
 unfold ltK
 have key:∀ l∈F,(⟨l.s,l.L.filter fun t=>!ltB now t⟩:Ln)=l:=fun l hl=>by
  have:l.L.filter (fun t=>!ltB now t)=l.L:=by
   refine List.filter_eq_self.2 fun t ht=>?_
   have hm:t∈flt F:=List.mem_flatMap.2 ⟨l,hl,ht⟩
   have:=List.filter_eq_nil_iff.1 h t hm
   simpa using this
  rw [this]
 induction F with
 | nil=>rfl
 | cons l F ih =>
  rw [List.map_cons,key l List.mem_cons_self]
  congr 1
  refine ih ?_ (fun m hm=>key m (List.mem_cons_of_mem _ hm))
  rw [flt_cons,List.filter_append] at h
  exact (List.append_eq_nil_iff.1 h).2
theorem trN_congr {F G:List Ln} {o:Int} : ∀ n,(∀ k,k<n→((gl F k).L=[] ↔ (gl G k).L=[]))→trN F o n=trN G o n
 | 0,_=>rfl
 | n+1,h=>by
  unfold trN
  rw [trN_congr n (fun k hk=>h k (by omega))]
  by_cases c:o<(n+1:Int)∧(gl F n).L=[]
  ·rw [if_pos c,if_pos ⟨c.1,(h n (Nat.lt_succ_self n)).1 c.2⟩]
  ·rw [if_neg c,if_neg (fun d=>c ⟨d.1,(h n (Nat.lt_succ_self n)).2 d.2⟩)]
theorem trN_twice {F G:List Ln} {o:Int} (h:∀ k,(gl F k).L=[]→(gl G k).L=[]):∀ n,trN G o (trN F o n)=trN G o n
 | 0=>rfl
 | n+1=>by
  by_cases c:o<(n+1:Int)∧(gl F n).L=[]
  ·have e1:trN F o (n+1)=trN F o n:=if_pos c
   have e2:trN G o (n+1)=trN G o n:=if_pos ⟨c.1,h n c.2⟩
   rw [e1,e2,trN_twice h n]
  ·have e1:trN F o (n+1)=n+1:=if_neg c
   rw [e1]
theorem trm_ltK (now:Int) (F:List Ln) (o:Int):trm (ltK now (trm F o)) o=trm (ltK now F) o:=by
 have hm:=trN_le F o F.length
 have e0:ltK now (trm F o)=(ltK now F).take (trN F o F.length):=by
  unfold ltK trm
  rw [List.map_take]
 have hG:∀ k,(gl F k).L=[]→(gl (ltK now F) k).L=[]:=fun k hk=>by rw [gl_ltK];show List.filter _ _=_;rw [hk];rfl
 have e1:=trN_twice (o:=o) hG F.length
 unfold trm at *
 rw [e0]
 rw [List.length_take,ltK_len,Nat.min_eq_left hm]
 have e2:trN ((ltK now F).take (trN F o F.length)) o (trN F o F.length)=trN (ltK now F) o (trN F o F.length):=trN_congr _ (fun k hk=>by rw [gl_take hk])
 rw [e2,e1,List.take_take]
 congr 1
 have:=trN_le (ltK now F) o (trN F o F.length)
 rw [e1] at this
 omega
theorem trm_trm (F:List Ln) (o:Int):trm (trm F o) o=trm F o:=by
 have hm:=trN_le F o F.length
 have h1:(trm F o).length=trN F o F.length:=trm_len F o
 have h2:trN (trm F o) o (trN F o F.length)=trN F o F.length:=by
  rw [trN_congr (G:=F) _ (fun k hk=>by unfold trm;rw [gl_take hk])]
  exact trN_twice (fun _ h=>h) _
 show List.take _ (trm F o)=_
 rw [h1,h2]
 exact List.take_of_length_le (by omega)
def cutL (F:List Ln) (l a:Nat):List Ln:=F.set l ⟨(gl F l).s,(gl F l).L.take a++(gl F l).L.drop (a+1)⟩
theorem split_at {L:List Tk} {a:Nat} (h:a<L.length):L=L.take a++gt L a :: L.drop (a+1):=by
 have e:=List.take_append_drop a L
 have e2:L.drop a=gt L a :: L.drop (a+1):=by
  rw [List.drop_eq_getElem_cons h]
  have:=gt_get h
  rw [List.getElem?_eq_getElem h] at this
  injection this with this
  rw [this]
 rw [e2] at e
 exact e.symm
theorem flt_split {F:List Ln} {l:Nat} (h:l<F.length):flt F=flt (F.take l)++((gl F l).L++flt (F.drop (l+1))):=by
 have e:=List.take_append_drop l F
 have e2:F.drop l=gl F l :: F.drop (l+1):=by
  rw [List.drop_eq_getElem_cons h]
  have:=gl_get h
  rw [List.getElem?_eq_getElem h] at this
  injection this with this
  rw [this]
 have e3:=congrArg flt e
 rw [flt_app,e2,flt_cons] at e3
 exact e3.symm
theorem flt_cut {F:List Ln} {l a:Nat} (h:l<F.length) (ha:a<(gl F l).L.length) :
  flt F=(flt (F.take l)++(gl F l).L.take a)++gt (gl F l).L a :: ((gl F l).L.drop (a+1)++flt (F.drop (l+1))) ∧
  flt (cutL F l a)=(flt (F.take l)++(gl F l).L.take a)++((gl F l).L.drop (a+1)++flt (F.drop (l+1))):=by
 constructor
 ·conv=>lhs;rw [flt_split h,split_at ha]
  simp only [List.append_assoc,List.cons_append]
 ·have hl:l<(cutL F l a).length:=by unfold cutL;rw [List.length_set];exact h
  rw [flt_split hl]
  unfold cutL
  rw [gl_set_same h,List.take_set_of_le (Nat.le_refl l),List.drop_set_of_lt (Nat.lt_succ_self l)]
  simp only [List.append_assoc]
theorem ltK_cut {now:Int} {F:List Ln} {l a:Nat} (h:l<F.length) (ha:a<(gl F l).L.length) (ht:ltB now (gt (gl F l).L a)=true):ltK now (cutL F l a)=ltK now F:=by
 have e:(gl F l).L.filter (fun t=>!ltB now t)=((gl F l).L.take a++(gl F l).L.drop (a+1)).filter (fun t=>!ltB now t):=by
  conv=>lhs;rw [split_at ha]
  rw [List.filter_append,List.filter_append,List.filter_cons_of_neg (by rw [ht];decide)]
 unfold cutL ltK
 rw [List.map_set]
 show List.set _ l (⟨(gl F l).s,List.filter (fun t=>!ltB now t) ((gl F l).L.take a++(gl F l).L.drop (a+1))⟩:Ln)=_
 rw [←e]
 have hg:=gl_get h
 have:(F.map fun l=>(⟨l.s,l.L.filter fun t=>!ltB now t⟩:Ln))[l]?=some (⟨(gl F l).s,(gl F l).L.filter fun t=>!ltB now t⟩:Ln):=by
  rw [List.getElem?_map,hg]
  rfl
 have hl:l<(F.map fun l=>(⟨l.s,l.L.filter fun t=>!ltB now t⟩:Ln)).length:=by rw [List.length_map];exact h
 rw [List.getElem?_eq_getElem hl] at this
 injection this with this
 rw [←this]
 exact List.set_getElem_self hl
def IsL (now:Int) (F:List Ln) (P:List Tk) (ln at':Int):Prop :=
 (at'=-1∧P.filter (ltB now)=[]) ∨
 ∃ (l a:Nat) (B:List Tk),ln=l∧at'=a∧l<F.length∧a<(gl F l).L.length∧ltB now (gt (gl F l).L a)=true ∧
  P.filter (ltB now)=(flt (F.take l)++(gl F l).L.take a).filter (ltB now)++gt (gl F l).L a :: B ∧
  (∀ u∈(flt (F.take l)++(gl F l).L.take a).filter (ltB now),(gt (gl F l).L a).id<u.id)∧∀ u∈B,(gt (gl F l).L a).id≤u.id
theorem IsL.start (now:Int) (F:List Ln) (ln:Int):IsL now F [] ln (-1):=.inl ⟨rfl,rfl⟩
theorem IsL.more {now:Int} {F:List Ln} {k i:Nat} {ln at':Int} (h:IsL now F (flt (F.take k)++(gl F k).L.take i) ln at') (hk:k<F.length) (hi:i<(gl F k).L.length) :
  IsL now F (flt (F.take k)++(gl F k).L.take (i+1)) (if ltB now (gt (gl F k).L i)=true∧(at' < 0∨(gt (gl F k).L i).id<(gt (gl F ln.toNat).L at'.toNat).id) then (k:Int) else ln) (if ltB now (gt (gl F k).L i)=true∧(at' < 0∨(gt (gl F k).L i).id<(gt (gl F ln.toNat).L at'.toNat).id) then (i:Int) else at'):=by
 have e:(gl F k).L.take (i+1)=(gl F k).L.take i ++ [gt (gl F k).L i]:=by
  rw [List.take_add_one,gt_get hi]
  rfl
 have e2:(flt (F.take k)++(gl F k).L.take (i+1)).filter (ltB now)=(flt (F.take k)++(gl F k).L.take i).filter (ltB now) ++ [gt (gl F k).L i].filter (ltB now):=by
  rw [e,← List.append_assoc,List.filter_append]
 obtain ⟨u,hu⟩:∃ u,u=gt (gl F k).L i:=⟨_,rfl⟩
 rw [←hu] at e2 ⊢
 by_cases c:ltB now u=true
 ·have e3:[u].filter (ltB now)=[u]:=List.filter_cons_of_pos c
  rw [e3] at e2
  rcases h with ⟨rfl,h0⟩ | ⟨l,a,B,rfl,rfl,hl,ha,ht,h5,h6,h7⟩
  ·rw [if_pos ⟨c,.inl (by decide)⟩,if_pos ⟨c,.inl (by decide)⟩]
   refine .inr ⟨k,i,[],rfl,rfl,hk,hi,by rw [←hu];exact c,by rw [e2,hu],?_,fun v hv=>by cases hv⟩
   intro v hv
   rw [h0] at hv
   cases hv
  ·rw [Int.toNat_natCast,Int.toNat_natCast]
   by_cases d:u.id<(gt (gl F l).L a).id
   ·rw [if_pos ⟨c,.inr d⟩,if_pos ⟨c,.inr d⟩]
    refine .inr ⟨k,i,[],rfl,rfl,hk,hi,by rw [←hu];exact c,by rw [e2,hu],?_,fun v hv=>by cases hv⟩
    intro v hv
    rw [←hu]
    rw [h5] at hv
    rcases List.mem_append.1 hv with q | q
    ·have:=h6 v q;omega
    ·rcases List.mem_cons.1 q with rfl | q
     ·exact d
     ·have:=h7 v q;omega
   ·have nd:¬ (ltB now u=true∧((a:Int)<0∨u.id<(gt (gl F l).L a).id)):=fun q=>q.2.elim (fun q=>by omega) d
    rw [if_neg nd,if_neg nd]
    refine .inr ⟨l,a,B ++ [u],rfl,rfl,hl,ha,ht,by rw [e2,h5,List.append_assoc,List.cons_append],h6,fun v hv=>?_⟩
    rcases List.mem_append.1 hv with q | q
    ·exact h7 v q
    ·rw [List.mem_singleton.1 q];omega
 ·have nd:¬ (ltB now u=true∧(at' < 0∨u.id<(gt (gl F ln.toNat).L at'.toNat).id)):=fun q=>c q.1
  rw [if_neg nd,if_neg nd]
  have e3:[u].filter (ltB now)=[]:=List.filter_cons_of_neg c
  rw [e3,List.append_nil] at e2
  rcases h with ⟨h1,h0⟩ | ⟨l,a,B,h1,h2,hl,ha,ht,h5,h6,h7⟩
  ·exact .inl ⟨h1,by rw [e2];exact h0⟩
  ·exact .inr ⟨l,a,B,h1,h2,hl,ha,ht,by rw [e2];exact h5,h6,h7⟩
def LtI (now o:Int) (F0:List Ln) (W:List Tk) (F:List Ln):Prop :=
 W++srt (ltA now F)=srt (ltA now F0)∧trm (ltK now F) o=trm (ltK now F0) o∧((W=[]∧F=F0)∨(W≠[]∧trm F o=F))
theorem LtI.start (now o:Int) (F:List Ln):LtI now o F [] F:=⟨rfl,rfl,.inl ⟨rfl,rfl⟩⟩
theorem LtI.step {now o:Int} {F0 F:List Ln} {W:List Tk} (h:LtI now o F0 W F) {l a:Nat} (hi:IsL now F (flt F) (l:Int) (a:Int)):l<F.length∧a<(gl F l).L.length∧LtI now o F0 (W ++ [gt (gl F l).L a]) (trm (cutL F l a) o):=by
 rcases hi with ⟨h1,-⟩ | ⟨l',a',B,e1,e2,hl,ha,ht,h5,h6,h7⟩
 ·omega
 ·obtain rfl:l=l':=by omega
  obtain rfl:a=a':=by omega
  refine ⟨hl,ha,?_,?_,.inr ⟨by simp,trm_trm _ _⟩⟩
  ·obtain ⟨c1,c2⟩:=flt_cut hl ha
   have k1:ltA now F=(flt (F.take l)++(gl F l).L.take a).filter (ltB now)++gt (gl F l).L a :: B:=h5
   have k2:B=((gl F l).L.drop (a+1)++flt (F.drop (l+1))).filter (ltB now):=by
    have:=k1
    unfold ltA at this
    rw [c1,List.filter_append,List.filter_cons_of_pos ht] at this
    have:=List.append_cancel_left this
    injection this with _ this
    exact this.symm
   have k3:ltA now (trm (cutL F l a) o)=(flt (F.take l)++(gl F l).L.take a).filter (ltB now)++B:=by
    unfold ltA
    rw [flt_trm,c2,List.filter_append,← k2]
   rw [k3,List.append_assoc,List.singleton_append,← srt_pick h7 _ h6,← k1]
   exact h.1
  ·rw [trm_ltK,ltK_cut hl ha ht]
   exact h.2.1
theorem LtI.fin {now o:Int} {F0 F:List Ln} {W:List Tk} (h:LtI now o F0 W F) {ln:Int} (hi:IsL now F (flt F) ln (-1)):W=srt (ltA now F0)∧F=if ltA now F0=[] then F0 else trm (ltK now F0) o:=by
 have h0:ltA now F=[]:=by
  rcases hi with ⟨-,h0⟩ | ⟨l,a,B,-,e2,-⟩
  ·exact h0
  ·omega
 obtain ⟨h1,h2,h3⟩:=h
 rw [h0] at h1
 have h1:W=srt (ltA now F0):=by rw [←h1];exact (List.append_nil W).symm
 refine ⟨h1,?_⟩
 have hp:=(srt_perm (ltA now F0)).length_eq
 rcases h3 with ⟨w0,rfl⟩ | ⟨w0,e⟩
 ·rw [if_pos h0]
 ·rw [if_neg (fun c=>w0 (by rw [h1,c];rfl)),← h2,ltK_none h0,e]
theorem late_less {o:Int} {F:List Ln} {l a:Nat} (hl:l<F.length) (ha:a<(gl F l).L.length):(flt (trm (cutL F l a) o)).length+1=(flt F).length:=by
 obtain ⟨c1,c2⟩:=flt_cut hl ha
 have q1:=congrArg List.length c1
 have q2:=congrArg List.length c2
 rw [flt_trm]
 simp only [List.length_append,List.length_cons] at q1 q2
 omega
def ids (L:List Tk):List Int:=L.map (·.id)
structure Kp (s:St) (n:Nat) (m:Int):Prop where
 nd:(ids (allT s)).Nodup
 lt:∀ i∈ids (allT s),i<m
 len:(allT s).length=n
theorem Kp.next {s:St} {n:Nat} {m m':Int} (h:Kp s n m) (hm:m≤m'):Kp s n m':=⟨h.nd,fun i hi=>by have:=h.lt i hi;omega,h.len⟩
theorem Kp.come {s a:St} {n:Nat} {m:Int} (h:Kp s n m) (p:(ids (allT a)).Perm (ids (allT s) ++ [m])):Kp a (n+1) (m+1):=by
 have hnd:(ids (allT s) ++ [m]).Nodup:=by
  rw [List.nodup_append]
  refine ⟨h.nd,List.pairwise_singleton _ _,fun i hi j hj e=>?_⟩
  rw [List.mem_singleton.1 hj] at e
  have:=h.lt i hi
  omega
 refine ⟨(p.nodup_iff).2 hnd,fun i hi=>?_,?_⟩
 ·rcases List.mem_append.1 (p.mem_iff.1 hi) with c | c
  ·have:=h.lt i c;omega
  ·rw [List.mem_singleton.1 c];omega
 ·have:=p.length_eq
  unfold ids at this
  rw [List.length_append,List.length_map,List.length_map,List.length_singleton] at this
  rw [this,h.len]
theorem ids_app (L M:List Tk):ids (L++M)=ids L++ids M:=List.map_append
theorem ids_perm {L M:List Tk} (h:L.Perm M):(ids L).Perm (ids M):=h.map _
theorem done_ids {s:St} {id:Int} (h:fnd id s.run<s.run.length):(ids (allT s)).Perm ([(drT id s.run).id]++ids (allT { s with run:=drL id s.run })):=by
 show (ids (s.run++flt s.x.F)).Perm ([(drT id s.run).id]++ids (drL id s.run++flt s.x.F))
 rw [ids_app,ids_app,← List.append_assoc]
 exact List.Perm.append_right _ (ids_perm (drL_perm h)).symm
theorem drop_ids {s:St} {id:Int} (h:dpK s.x.F id<s.x.F.length):(ids (allT s)).Perm ([(dpT s.x id).id]++ids (allT { s with x:=dpX s.x id })):=by
 have e1:dpT s.x id=drT id (gl s.x.F (dpK s.x.F id)).L:=if_pos h
 have e2:flt (dpX s.x id).F=flt (s.x.F.set (dpK s.x.F id) ⟨(gl s.x.F (dpK s.x.F id)).s,drL id (gl s.x.F (dpK s.x.F id)).L⟩):=by
  have:dpX s.x id=⟨s.x.r,s.x.g,s.x.n,s.x.o,trm (s.x.F.set (dpK s.x.F id) ⟨(gl s.x.F (dpK s.x.F id)).s,drL id (gl s.x.F (dpK s.x.F id)).L⟩) s.x.o⟩:=if_pos h
  rw [this,flt_trm]
 show (ids (s.run++flt s.x.F)).Perm ([(dpT s.x id).id]++ids (s.run++flt (dpX s.x id).F))
 rw [ids_app,ids_app,e1,e2]
 have hq:=(ids_perm (flt_drop h)).symm
 have a:(ids s.run++ids (flt s.x.F)).Perm (ids s.run++([(drT id (gl s.x.F (dpK s.x.F id)).L).id]++ids (flt (s.x.F.set (dpK s.x.F id) ⟨(gl s.x.F (dpK s.x.F id)).s,drL id (gl s.x.F (dpK s.x.F id)).L⟩)))):=List.Perm.append_left _ hq
 refine a.trans ?_
 rw [←List.append_assoc,← List.append_assoc]
 exact List.Perm.append_right _ List.perm_append_comm
def ltX (now:Int) (s:St):St:={ s with x:=if ltA now s.x.F=[] then s.x else ⟨s.x.r,s.x.g,s.x.n,s.x.o,trm (ltK now s.x.F) s.x.o⟩ }
theorem late_ids (now:Int) (s:St):(ids (allT s)).Perm (ids (srt (ltA now s.x.F))++ids (allT (ltX now s))):=by
 have e:flt (ltX now s).x.F=flt (ltK now s.x.F):=by
  unfold ltX
  by_cases c:ltA now s.x.F=[]
  ·simp only [if_pos c]
   rw [ltK_none c]
  ·simp only [if_neg c]
   rw [flt_trm]
 show (ids (s.run++flt s.x.F)).Perm (_++ids (s.run++flt (ltX now s).x.F))
 rw [e,ids_app,ids_app]
 have p1:=ids_perm (late_perm now s.x.F)
 rw [ids_app] at p1
 have p2:=ids_perm (srt_perm (ltA now s.x.F))
 have a:(ids s.run++ids (flt s.x.F)).Perm (ids s.run++(ids (srt (ltA now s.x.F))++ids (flt (ltK now s.x.F)))):=List.Perm.append_left _ (p1.trans (List.Perm.append_right _ p2.symm))
 refine a.trans ?_
 rw [←List.append_assoc,← List.append_assoc]
 exact List.Perm.append_right _ List.perm_append_comm
theorem jnE_none {x:Fa} {c:Int} (h:jnE x c=0):¬ c<0∧¬ x.n≤((gl x.F c.toNat).L.length:Int):=by
 unfold jnE at h
 by_cases c1:c<0
 ·rw [if_pos c1] at h;exact absurd h (by decide)
 ·by_cases c2:x.n≤((gl x.F c.toNat).L.length:Int)
  ·rw [if_neg c1,if_pos c2] at h;exact absurd h (by decide)
  ·exact ⟨c1,c2⟩
theorem jnX_is {x:Fa} {c:Int} (h:jnE x c=0) (t:Tk):jnX x c t=⟨x.r,x.g,x.n,x.o,jnF x.F c.toNat x.r t⟩:=by
 obtain ⟨h1,h2⟩:=jnE_none h
 unfold jnX
 rw [if_neg h1,if_neg h2]
theorem vld_lt {F:List Ln} {o c:Int} (h:c=-1∨Vld F o c) (h0:¬ c<0):c.toNat<F.length:=by
 rcases h with e | e
 ·omega
 ·have:=e.2.2;omega
theorem seats_snoc (L:List Tk) (t:Tk):seatsTo (L ++ [t]) (L ++ [t]).length=seatsTo L L.length+clW t.wid:=by
 induction L with
 | nil =>
  show 0+clW (gt [t] 0).wid=0+clW t.wid
  rfl
 | cons u L ih =>
  show seatsTo (u :: (L ++ [t])) ((L ++ [t]).length+1)=seatsTo (u :: L) (L.length+1)+clW t.wid
  rw [seats_cons,seats_cons,ih]
  omega
theorem st_join {F:List Ln} {k:Nat} (hk:k<F.length) (r:Int) (t:Tk):stA (jnF F k r t)=stA F+clW t.wid:=by
 unfold stA jnF
 rw [List.length_set,st_set hk,if_pos hk]
 have:sW ⟨jnS (gl F k).s r (gl F k).L,(gl F k).L ++ [t]⟩=sW (gl F k)+clW t.wid:=by
  unfold sW
  exact seats_snoc _ _
 rw [this]
 omega
def wnA (s:St):Int:=rnA s.run+stA s.x.F
theorem arE_yes {s:St} {t:Tk} {c:Int} (h:arE s t c=0):s.q=false∧((s.lv.kind=3∧jnE s.x c=0)∨(s.lv.kind≠3∧ftB s t.wid=true∧¬ (s.lv.kind≠1∧0<wtA s.x.F))):=by
 unfold arE at h
 by_cases c1:s.q=true
 ·rw [if_pos c1] at h;exact absurd h (by decide)
 ·rw [if_neg c1] at h
  refine ⟨by simpa using c1,?_⟩
  by_cases k3:s.lv.kind=3
  ·rw [if_pos k3] at h
   exact .inl ⟨k3,h⟩
  ·rw [if_neg k3] at h
   by_cases c2:s.lv.kind≠1∧0<wtA s.x.F
   ·rw [if_pos c2] at h;exact absurd h (by decide)
   ·rw [if_neg c2] at h
    by_cases c3:ftB s t.wid=true
    ·exact .inr ⟨k3,c3,c2⟩
    ·rw [if_neg c3] at h;exact absurd h (by decide)
theorem arr_ids {s:St} {t:Tk} {c:Int} (h:arE s t c=0) (hc:c=-1∨Vld s.x.F s.x.o c):(ids (allT (arX s t c))).Perm (ids (allT s) ++ [t.id])∧wnA s<wnA (arX s t c):=by
 rcases (arE_yes h).2 with ⟨k3,hj⟩ | ⟨k3,hf,-⟩
 ·have e:arX s t c={ s with x:=jnX s.x c (seated t 0) }:=if_pos k3
  have hk:=vld_lt hc (jnE_none hj).1
  rw [e]
  constructor
  ·show (ids (s.run++flt (jnX s.x c (seated t 0)).F)).Perm (ids (s.run++flt s.x.F) ++ [t.id])
   rw [jnX_is hj,ids_app,ids_app,List.append_assoc]
   have p:=ids_perm (flt_join hk s.x.r (seated t 0))
   rw [ids_app] at p
   exact List.Perm.append_left _ p
  ·show rnA s.run+stA s.x.F<rnA s.run+stA (jnX s.x c (seated t 0)).F
   rw [jnX_is hj,st_join hk]
   have:=clW_lo (seated t 0).wid
   omega
 ·have e:arX s t c={ s with run:=s.run ++ [seated t (ftN s t.wid)] }:=if_neg k3
  rw [e]
  constructor
  ·show (ids ((s.run ++ [seated t (ftN s t.wid)])++flt s.x.F)).Perm (ids (s.run++flt s.x.F) ++ [t.id])
   rw [ids_app,ids_app,ids_app,List.append_assoc,List.append_assoc]
   exact List.Perm.append_left _ List.perm_append_comm
  ·show rnA s.run+stA s.x.F<rnA (s.run ++ [seated t (ftN s t.wid)])+stA s.x.F
   rw [rnA_app,rnA_one,rsW_seated hf]
   have:=(ft_yes hf).1
   omega
def tuC (l:Lv) (q:Bool):Bool:=(decide (l.kind=3) && !q) && decide (nwE l.queues l.guess l.length=0)
def tuF (s:St) (l:Lv) (q:Bool):Fa:=if tuC l q=true then shX s.x l.queues l.guess l.length else suX s.x
def tuS (s:St) (l:Lv) (q:Bool):St:={ s with lv:=l,q:=q,x:=tuF s l q }
theorem nwE_good {o g n:Int} (h:nwE o g n=0):Good o g n:=Classical.byContradiction fun c=>by
 unfold nwE at h
 rw [if_neg c] at h
 exact absurd h (by decide)
theorem flt_turn (s:St) (l:Lv) (q:Bool):flt (tuF s l q).F=flt s.x.F:=by
 unfold tuF
 by_cases c:tuC l q=true
 ·rw [if_pos c]
  unfold tuC at c
  rw [Bool.and_eq_true] at c
  have hg:=nwE_good (of_decide_eq_true c.2)
  unfold shX
  rw [if_pos hg]
  show flt (trm (shF s.x.F _) _)=_
  rw [flt_trm]
  unfold shF
  rw [flt_app,flt_none (F:=List.replicate _ lnZ) (fun m hm=>by rw [(List.mem_replicate.1 hm).2];rfl),List.append_nil]
 ·rw [if_neg c]
  exact flt_trm _ _
theorem turn_ids (s:St) (l:Lv) (q:Bool):ids (allT (tuS s l q))=ids (allT s):=by
 show ids (s.run++flt (tuF s l q).F)=ids (s.run++flt s.x.F)
 rw [flt_turn]
def opX (l:Lv):Fa:=if l.kind=3 then nwX l.queues l.guess l.length else xZ
def opS (l:Lv):St:=⟨l,false,0,0,0,0,0,0,opX l,[]⟩
theorem opS_none (l:Lv):allT (opS l)=[]:=by
 show []++flt (opX l).F=[]
 rw [List.nil_append]
 refine flt_none fun m hm=>?_
 unfold opX at hm
 split at hm
 ·unfold nwX at hm
  split at hm
  ·have hm:m∈nwF l.queues.toNat:=hm
   rw [(List.mem_replicate.1 hm).2]
   rfl
  ·cases hm
 ·cases hm
theorem Kp.start (l:Lv):Kp (opS l) 0 1000:=⟨by rw [opS_none];exact List.nodup_nil,fun i hi=>(by rw [opS_none] at hi;cases hi),by rw [opS_none];rfl⟩
end Go.Proofs.Ytlgibnmoogbdcaa

namespace Go.Proofs.Ytlgibnmoogbdcaa
open Go.RowKit
def stB (s:St) (v u:Value):Array Value:=#[.string s.lv.name,.int .i64 s.lv.kind,.int .i64 s.lv.shares,.int .i64 s.lv.lend,.int .i64 s.lv.borrow,.int .i64 s.lv.queues,.int .i64 s.lv.hand,.int .i64 s.lv.length,.int .i64 s.lv.wait,.int .i64 s.lv.guess,.bool s.q,.int .i64 s.lim,.int .i64 s.b0,.int .i64 s.b1,.int .i64 s.b2,.int .i64 s.d0,.int .i64 s.d1,.int .u64 s.x.r,.int .i64 s.x.g,.int .i64 s.x.n,.int .i64 s.x.o,v,u]
theorem Blk.state {w:World} {b:Nat} {s:St} {v u:Value} (h:Blk w b 36 (stB s v u)) :
  (w.cell? ⟨b,0,none⟩=some (.string s.lv.name)∧w.cell? ⟨b,1,none⟩=some (.int .i64 s.lv.kind)∧w.cell? ⟨b,2,none⟩=some (.int .i64 s.lv.shares)∧w.cell? ⟨b,3,none⟩=some (.int .i64 s.lv.lend)∧w.cell? ⟨b,4,none⟩=some (.int .i64 s.lv.borrow)∧w.cell? ⟨b,5,none⟩=some (.int .i64 s.lv.queues)∧w.cell? ⟨b,6,none⟩=some (.int .i64 s.lv.hand)∧w.cell? ⟨b,7,none⟩=some (.int .i64 s.lv.length)∧w.cell? ⟨b,8,none⟩=some (.int .i64 s.lv.wait)∧w.cell? ⟨b,9,none⟩=some (.int .i64 s.lv.guess)∧w.cell? ⟨b,10,none⟩=some (.bool s.q)∧w.cell? ⟨b,11,none⟩=some (.int .i64 s.lim)∧w.cell? ⟨b,12,none⟩=some (.int .i64 s.b0)∧w.cell? ⟨b,13,none⟩=some (.int .i64 s.b1)∧w.cell? ⟨b,14,none⟩=some (.int .i64 s.b2)∧w.cell? ⟨b,15,none⟩=some (.int .i64 s.d0)∧w.cell? ⟨b,16,none⟩=some (.int .i64 s.d1)∧w.cell? ⟨b,17,none⟩=some (.int .u64 s.x.r)∧w.cell? ⟨b,18,none⟩=some (.int .i64 s.x.g)∧w.cell? ⟨b,19,none⟩=some (.int .i64 s.x.n)∧w.cell? ⟨b,20,none⟩=some (.int .i64 s.x.o)∧w.cell? ⟨b,21,none⟩=some v∧w.cell? ⟨b,22,none⟩=some u)
  ∧ w.frozen? ⟨b,0,none⟩=false∧w.frozen? ⟨b,1,none⟩=false∧w.frozen? ⟨b,2,none⟩=false∧w.frozen? ⟨b,3,none⟩=false∧w.frozen? ⟨b,4,none⟩=false∧w.frozen? ⟨b,5,none⟩=false∧w.frozen? ⟨b,6,none⟩=false∧w.frozen? ⟨b,7,none⟩=false∧w.frozen? ⟨b,8,none⟩=false∧w.frozen? ⟨b,9,none⟩=false∧w.frozen? ⟨b,10,none⟩=false∧w.frozen? ⟨b,11,none⟩=false∧w.frozen? ⟨b,12,none⟩=false∧w.frozen? ⟨b,13,none⟩=false∧w.frozen? ⟨b,14,none⟩=false∧w.frozen? ⟨b,15,none⟩=false∧w.frozen? ⟨b,16,none⟩=false∧w.frozen? ⟨b,17,none⟩=false∧w.frozen? ⟨b,18,none⟩=false∧w.frozen? ⟨b,19,none⟩=false∧w.frozen? ⟨b,20,none⟩=false∧w.frozen? ⟨b,21,none⟩=false∧w.frozen? ⟨b,22,none⟩=false :=
 ⟨⟨h.cellv 0 rfl,h.cellv 1 rfl,h.cellv 2 rfl,h.cellv 3 rfl,h.cellv 4 rfl,h.cellv 5 rfl,h.cellv 6 rfl,h.cellv 7 rfl,h.cellv 8 rfl,h.cellv 9 rfl,h.cellv 10 rfl,h.cellv 11 rfl,h.cellv 12 rfl,h.cellv 13 rfl,h.cellv 14 rfl,h.cellv 15 rfl,h.cellv 16 rfl,h.cellv 17 rfl,h.cellv 18 rfl,h.cellv 19 rfl,h.cellv 20 rfl,h.cellv 21 rfl,h.cellv 22 rfl⟩,h.frozen 0,h.frozen 1,h.frozen 2,h.frozen 3,h.frozen 4,h.frozen 5,h.frozen 6,h.frozen 7,h.frozen 8,h.frozen 9,h.frozen 10,h.frozen 11,h.frozen 12,h.frozen 13,h.frozen 14,h.frozen 15,h.frozen 16,h.frozen 17,h.frozen 18,h.frozen 19,h.frozen 20,h.frozen 21,h.frozen 22⟩
abbrev zsT:Array Value:=#[.string { data:=#[] },.int .i64 0,.int .i64 0,.int .i64 0,.int .i64 0,.int .i64 0,.int .i64 0,.int .i64 0,.int .i64 0,.int .i64 0,.bool false,.int .i64 0,.int .i64 0,.int .i64 0,.int .i64 0,.int .i64 0,.int .i64 0,.int .u64 0,.int .i64 0,.int .i64 0,.int .i64 0,.slice none 0 0,.slice none 0 0]
def TkS (S:Nat→Prop) (w:World) (a:Option Addr) (c:Nat) (L:List Tk):Prop:=L.length≤c∧(a=none→c=0)∧∀ W,Kept S w W→TkR W a L
theorem TkS.read {S:Nat→Prop} {w W:World} {a:Option Addr} {c:Nat} {L:List Tk} (h:TkS S w a c L) (k:Kept S w W):SlR W a c L:=⟨h.1,h.2.1,h.2.2 W k⟩
theorem TkS.step {S T:Nat→Prop} {w w2:World} {a:Option Addr} {c:Nat} {L:List Tk} (h:TkS S w a c L) (k:Kept S w w2) (e:∀ j,j<w.heap.size→T j→S j):TkS T w2 a c L:=⟨h.1,h.2.1,fun W kk=>h.2.2 W (k.then kk e)⟩
theorem TkS.nil (S:Nat→Prop) (w:World):TkS S w none 0 []:=⟨Nat.le_refl _,fun _=>rfl,fun W _=>TkR.nil W none⟩
theorem SlR.ts {S:Nat→Prop} {w w2:World} {a:Option Addr} {c:Nat} {L:List Tk} (h:SlR w a c L) (b:Below w.heap.size w w2) (hS:∀ j,S j→w.heap.size≤j):TkS S w2 a c L:=⟨h.1,h.2.1,fun _ k=>h.2.2.carry (b.trans (k.below b.size hS))⟩
theorem OwnT.ts {S:Nat→Prop} {w:World} {B:Nat} {v:Value} {L:List Tk} (h:OwnT w B v L) (hS:∀ j,B≤j→¬ S j):∃ a c,v=.slice a L.length c∧TkS S w a c L:=by
 obtain ⟨a,c,e,r⟩:=h.read
 refine ⟨a,c,e,r.1,r.2.1,fun W k=>?_⟩
 obtain ⟨a',c',e',r'⟩:=(h.kept k hS).read
 rw [e] at e'
 injection e' with x1 x2 x3
 subst x1
 exact r'.2.2
def StV (S:Nat→Prop) (w:World) (s:St) (e:Value):Prop:=∃ a c ar cr,e=.agg (stB s (.slice a s.x.F.length c) (.slice ar s.run.length cr))∧StR S w a c s.x.F∧TkS S w ar cr s.run
def fxN (now:Int):List Tk→Nat
 | []=>0
 | t :: L=>if ltB now t=true then 0 else fxN now L+1
theorem fxN_yes {now:Int} {t:Tk} {L:List Tk} (h:ltB now t=true):fxN now (t :: L)=0:=if_pos h
theorem fxN_next {now:Int} {t:Tk} {L:List Tk} (h:ltB now t=false):fxN now (t :: L)=fxN now L+1:=if_neg (by rw [h];decide)
theorem fxN_at (now:Int):∀ (L:List Tk) (k:Nat),k<L.length→ltB now (gt L k)=true→(∀ j,j<k→ltB now (gt L j)=false)→fxN now L=k
 | [],k,h,_,_=>absurd h (Nat.not_lt_zero k)
 | t :: L,0,_,e,_=>fxN_yes e
 | t :: L,k+1,h,e,hn=>by
  rw [fxN_next (t:=t) (hn 0 (Nat.succ_pos k)),fxN_at now L k (by simpa using h) e (fun j hj=>hn (j+1) (by omega))]
theorem fxN_none (now:Int):∀ (L:List Tk),(∀ j,j<L.length→ltB now (gt L j)=false)→fxN now L=L.length
 | [],_=>rfl
 | t :: L,hn=>by
  rw [fxN_next (t:=t) (hn 0 (by simp)),fxN_none now L (fun j hj=>hn (j+1) (by simpa using hj))]
  rfl
theorem fxN_le (now:Int):∀ (L:List Tk),fxN now L≤L.length
 | []=>Nat.le_refl _
 | t :: L=>by
  cases e:ltB now t with
  | true=>rw [fxN_yes e];exact Nat.zero_le _
  | false=>rw [fxN_next e];have:=fxN_le now L;simp;omega
theorem fxN_is (now:Int):∀ (L:List Tk),fxN now L<L.length→ltB now (gt L (fxN now L))=true
 | [],h=>absurd h (Nat.not_lt_zero _)
 | t :: L,h=>by
  cases e:ltB now t with
  | true=>rw [fxN_yes e];exact e
  | false =>
   rw [fxN_next e] at h ⊢
   rw [gt_cons_succ]
   exact fxN_is now L (by simpa using h)
theorem fxN_not (now:Int):∀ (L:List Tk) (j:Nat),j<fxN now L→ltB now (gt L j)=false
 | [],j,h=>absurd h (Nat.not_lt_zero _)
 | t :: L,j,h=>by
  cases e:ltB now t with
  | true=>rw [fxN_yes e] at h;exact absurd h (Nat.not_lt_zero _)
  | false =>
   rw [fxN_next e] at h
   cases j with
   | zero=>exact e
   | succ j=>rw [gt_cons_succ];exact fxN_not now L j (by omega)
def fxI (now:Int) (L:List Tk):Int:=if fxN now L<L.length then (fxN now L:Int) else -1
theorem ofD_ok (t:Tk) (id:Int) (g:Nat) (w:World) (hg:Blk w g 3 #[.int .i64 id]) :
  Calls Try.prog 46 #[.agg #[.int .i64 t.id,.int .i64 t.wid,.int .i64 t.sts,.int .i64 t.sin,.int .i64 t.unt],.pointer (some ⟨g,0,none⟩)] w fun e w'=>e=.returned (.bool (t.id == id))∧Below w.heap.size w w':=by
 obtain ⟨w1,hw1⟩:∃ w1,w1=w.alloc (.cells #[.int .i64 t.id,.int .i64 t.wid,.int .i64 t.sts,.int .i64 t.sin,.int .i64 t.unt] 42):=⟨_,rfl⟩
 have B:Hd (Below w.heap.size w w1):=⟨by rw [hw1];exact alloc_below _ _⟩
 have N1:Blk w1 w.heap.size 42 (tkA t):=by rw [hw1];exact Blk.new _ _ _
 have G1:Blk w1 g 3 #[.int .i64 id]:=by rw [hw1];exact hg.alloc _
 obtain ⟨⟨c0,c1,c2,c3,c4⟩,-⟩:=N1.five
 have g0:=G1.cellv (v:=.int .i64 id) 0 rfl
 clear N1 G1 hg c1 c2 c3 c4
 go_enter Try.func46,Try.ntmps46
 go_upto_region 1 with fail
 rw [←hw1]
 clear hw1
 go_wp2
 go_ret;exact ⟨rfl,B.out⟩
set_option maxRecDepth 20000 in
set_option maxHeartbeats 1000000 in
theorem indexD_ok (a:Option Addr) (c:Nat) (L:List Tk) (id:Int) (g:Nat) (w:World) (h:TkR w a L) (hl:L.length≤2000) (hg:Blk w g 3 #[.int .i64 id]) :
  Calls Try.prog 45 #[.slice a L.length c,.func (.func 46) #[] #[.pointer (some ⟨g,0,none⟩)]] w fun e w'=>e=.returned (.int .i64 (ixI id L))∧Below w.heap.size w w':=by
 have eg:∀ args w,(callFunc 46 args).run Try.prog w=.ok (.enter 46 args) w:=enters_of Try.func46 (by kernel_rfl) rfl
 have H:Hd (∀ W,Below w.heap.size w W→TkR W a L∧Blk W g 3 #[.int .i64 id]):=⟨fun W b=>⟨h.carry b,hg.kept (Kept.of_below b (fun _=>False)) (fun h=>h)⟩⟩
 obtain ⟨n,hn⟩:∃ n,L.length=n:=⟨_,rfl⟩
 have HL:Hd (L.length=n):=⟨hn⟩
 have HX:Hd ((∀ k,k<n→(gt L k).id=id→(∀ j,j<k→(gt L j).id≠id)→ixI id L=(k:Int))∧((∀ j,j<n→(gt L j).id≠id)→ixI id L=-1)):=⟨fun k hk e hno=>by
   unfold ixI;rw [fnd_at id L k (by omega) e hno,if_pos (by omega)],fun hno=>by
   unfold ixI;rw [fnd_none id L (fun j hj=>hno j (by omega)),if_neg (by omega)]⟩
 rw [hn] at hl ⊢
 clear hn h hg
 go_enter Try.func45,Try.ntmps45
 go_wp2_with fail
 go_loopw [8] (fun i wr=>∃ k:Nat,k≤n∧i=.int .i64 k∧Hd (∀ j,j<k→(gt L j).id≠id)∧Below w.heap.size w wr) (fun i _=>n - (intOf i).toNat)
 case atStart=>exact ⟨0,Nat.zero_le _,rfl,⟨fun j h=>absurd h (Nat.not_lt_zero _)⟩,Below.refl _ _⟩
 case round =>
  obtain ⟨k,hk,rfl,hno,hb⟩:=hrel
  by_cases hlt:k<n
  ·obtain ⟨hR,hG⟩:=H.out wr hb
   obtain ⟨b,off,rfl,-,d0,d1,d2,d3,d4⟩:=hR.at (k:=k) (by rw [HL.out];exact hlt)
   have I:=ofD_ok (gt L k) id g wr hG
   have BB:Hd (Below w.heap.size w wr):=⟨hb⟩
   clear hR hG hb
   have HT:Hd ((gt L k).id=id→ixI id L=(k:Int)):=⟨fun e=>HX.out.1 k hlt e hno.out⟩
   have HF:Hd ((gt L k).id≠id→∀ j,j<k+1→(gt L j).id≠id):=⟨fun e j hj=>by
    rcases Nat.lt_or_eq_of_le (Nat.le_of_lt_succ hj) with h1 | h1
    ·exact hno.out j h1
    ·subst h1;exact e⟩
   clear hno
   by_cases e:(gt L k).id=id
   ·have A:Hd (ixI id L=(k:Int)):=⟨HT.out e⟩
    rw [show ((gt L k).id == id)=true from by simpa using e] at I
    clear HT HF
    generalize gt L k=z at *
    obtain ⟨z0,z1,z2,z3,z4⟩:=z
    simp only at d0 d1 d2 d3 d4 I
    clear e
    go_wp2_with (go_at_fn 46;refine I.mono ?_;rintro e w2 ⟨rfl,h2⟩)
    go_ret
    exact ⟨by rw [A.out];rfl,BB.out.trans (h2.mono BB.out.size)⟩
   ·have A:Hd (∀ j,j<k+1→(gt L j).id≠id):=⟨HF.out e⟩
    rw [show ((gt L k).id == id)=false from by simpa using e] at I
    clear HT HF
    generalize gt L k=z at *
    obtain ⟨z0,z1,z2,z3,z4⟩:=z
    simp only at d0 d1 d2 d3 d4 I
    clear e
    go_wp2_with (go_at_fn 46;refine I.mono ?_;rintro e w2 ⟨rfl,h2⟩)
    go_roundw
    case rel=>exact ⟨k+1,by omega,by go_num,A,BB.out.trans (h2.mono BB.out.size)⟩
    case measure=>simp [intOf];omega
  ·obtain rfl:k=n:=by omega
   have A:Hd (ixI id L=-1):=⟨HX.out.2 hno.out⟩
   clear hno
   go_wp2_with fail
   go_ret
   exact ⟨by rw [A.out];rfl,hb⟩
theorem ofL_ok (t:Tk) (now:Int) (g:Nat) (w:World) (hg:Blk w g 3 #[.int .i64 now]) :
  Calls Try.prog 52 #[.agg #[.int .i64 t.id,.int .i64 t.wid,.int .i64 t.sts,.int .i64 t.sin,.int .i64 t.unt],.pointer (some ⟨g,0,none⟩)] w fun e w'=>e=.returned (.bool (ltB now t))∧Below w.heap.size w w':=by
 obtain ⟨w1,hw1⟩:∃ w1,w1=w.alloc (.cells #[.int .i64 t.id,.int .i64 t.wid,.int .i64 t.sts,.int .i64 t.sin,.int .i64 t.unt] 42):=⟨_,rfl⟩
 have B:Hd (Below w.heap.size w w1):=⟨by rw [hw1];exact alloc_below _ _⟩
 have N1:Blk w1 w.heap.size 42 (tkA t):=by rw [hw1];exact Blk.new _ _ _
 have G1:Blk w1 g 3 #[.int .i64 now]:=by rw [hw1];exact hg.alloc _
 obtain ⟨⟨c0,c1,c2,c3,c4⟩,-⟩:=N1.five
 have g0:=G1.cellv (v:=.int .i64 now) 0 rfl
 clear N1 G1 hg c0 c1 c2 c3
 unfold ltB
 go_enter Try.func52,Try.ntmps52
 go_upto_region 1 with fail
 rw [←hw1]
 clear hw1
 go_wp2
 go_ret;exact ⟨rfl,B.out⟩
set_option maxRecDepth 20000 in
set_option maxHeartbeats 1000000 in
theorem indexL_ok (a:Option Addr) (c:Nat) (L:List Tk) (now:Int) (g:Nat) (w:World) (h:TkR w a L) (hl:L.length≤2000) (hg:Blk w g 3 #[.int .i64 now]) :
  Calls Try.prog 45 #[.slice a L.length c,.func (.func 52) #[] #[.pointer (some ⟨g,0,none⟩)]] w fun e w'=>e=.returned (.int .i64 (fxI now L))∧Below w.heap.size w w':=by
 have eg:∀ args w,(callFunc 52 args).run Try.prog w=.ok (.enter 52 args) w:=enters_of Try.func52 (by kernel_rfl) rfl
 have H:Hd (∀ W,Below w.heap.size w W→TkR W a L∧Blk W g 3 #[.int .i64 now]):=⟨fun W b=>⟨h.carry b,hg.kept (Kept.of_below b (fun _=>False)) (fun h=>h)⟩⟩
 obtain ⟨n,hn⟩:∃ n,L.length=n:=⟨_,rfl⟩
 have HL:Hd (L.length=n):=⟨hn⟩
 have HX:Hd ((∀ k,k<n→ltB now (gt L k)=true→(∀ j,j<k→ltB now (gt L j)=false)→fxI now L=(k:Int))∧((∀ j,j<n→ltB now (gt L j)=false)→fxI now L=-1)):=⟨fun k hk e hno=>by
   unfold fxI;rw [fxN_at now L k (by omega) e hno,if_pos (by omega)],fun hno=>by
   unfold fxI;rw [fxN_none now L (fun j hj=>hno j (by omega)),if_neg (by omega)]⟩
 rw [hn] at hl ⊢
 clear hn h hg
 go_enter Try.func45,Try.ntmps45
 go_wp2_with fail
 go_loopw [8] (fun i wr=>∃ k:Nat,k≤n∧i=.int .i64 k∧Hd (∀ j,j<k→ltB now (gt L j)=false)∧Below w.heap.size w wr) (fun i _=>n - (intOf i).toNat)
 case atStart=>exact ⟨0,Nat.zero_le _,rfl,⟨fun j h=>absurd h (Nat.not_lt_zero _)⟩,Below.refl _ _⟩
 case round =>
  obtain ⟨k,hk,rfl,hno,hb⟩:=hrel
  by_cases hlt:k<n
  ·obtain ⟨hR,hG⟩:=H.out wr hb
   obtain ⟨b,off,rfl,-,d0,d1,d2,d3,d4⟩:=hR.at (k:=k) (by rw [HL.out];exact hlt)
   have I:=ofL_ok (gt L k) now g wr hG
   have BB:Hd (Below w.heap.size w wr):=⟨hb⟩
   clear hR hG hb
   have HT:Hd (ltB now (gt L k)=true→fxI now L=(k:Int)):=⟨fun e=>HX.out.1 k hlt e hno.out⟩
   have HF:Hd (ltB now (gt L k)=false→∀ j,j<k+1→ltB now (gt L j)=false):=⟨fun e j hj=>by
    rcases Nat.lt_or_eq_of_le (Nat.le_of_lt_succ hj) with h1 | h1
    ·exact hno.out j h1
    ·subst h1;exact e⟩
   clear hno
   by_cases e:ltB now (gt L k)=true
   ·have A:Hd (fxI now L=(k:Int)):=⟨HT.out e⟩
    rw [e] at I
    clear HT HF
    generalize gt L k=z at *
    obtain ⟨z0,z1,z2,z3,z4⟩:=z
    simp only at d0 d1 d2 d3 d4 I
    clear e
    go_wp2_with (go_at_fn 52;refine I.mono ?_;rintro e w2 ⟨rfl,h2⟩)
    go_ret
    exact ⟨by rw [A.out];rfl,BB.out.trans (h2.mono BB.out.size)⟩
   ·have e:ltB now (gt L k)=false:=by simpa using e
    have A:Hd (∀ j,j<k+1→ltB now (gt L j)=false):=⟨HF.out e⟩
    rw [e] at I
    clear HT HF
    generalize gt L k=z at *
    obtain ⟨z0,z1,z2,z3,z4⟩:=z
    simp only at d0 d1 d2 d3 d4 I
    clear e
    go_wp2_with (go_at_fn 52;refine I.mono ?_;rintro e w2 ⟨rfl,h2⟩)
    go_roundw
    case rel=>exact ⟨k+1,by omega,by go_num,A,BB.out.trans (h2.mono BB.out.size)⟩
    case measure=>simp [intOf];omega
  ·obtain rfl:k=n:=by omega
   have A:Hd (fxI now L=-1):=⟨HX.out.2 hno.out⟩
   clear hno
   go_wp2_with fail
   go_ret
   exact ⟨by rw [A.out];rfl,hb⟩
end Go.Proofs.Ytlgibnmoogbdcaa
