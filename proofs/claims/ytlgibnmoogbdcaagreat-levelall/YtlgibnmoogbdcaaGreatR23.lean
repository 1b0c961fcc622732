/-
  The mathematics of one level at work: who fits, who comes, who goes, who is late; what never grows, and that nobody is lost.
  The mathematics of who is late, and that nobody is lost or there twice.
  The mathematics of who comes to a level, and of a level that is turned.
  A level at work as it lies in memory: its box of 23 cells (its type is 34), and how it is read.
-/
import Derived.Test.YtlgibnmoogbdcaaGreatR22
namespace Go.Proofs.YtlgibnmoogbdcaaGreat
structure Lv where
 name:ByteArray
 kind:Int
 shares:Int
 lend:Int
 borrow:Int
 queues:Int
 hand:Int
 length:Int
 wait:Int
 guess:Int
structure St where
 lv:Lv
 q:Bool
 lim:Int
 b0:Int
 b1:Int
 b2:Int
 d0:Int
 d1:Int
 x:Fa
 run:List Tk
def rsW (t:Tk):Int:=max 0 (min t.sts 16)
theorem rsW_lo (t:Tk):0≤rsW t:=by unfold rsW;omega
theorem rsW_hi (t:Tk):rsW t≤16:=by unfold rsW;omega
def rnT (L:List Tk):Nat→Int
 | 0=>0
 | k+1=>rnT L k+rsW (gt L k)
def rnA (L:List Tk):Int:=rnT L L.length
theorem rnT_rng (L:List Tk):∀ k:Nat,0≤rnT L k∧rnT L k≤16*(k:Int)
 | 0=>⟨Int.le_refl _,Int.le_refl _⟩
 | k+1=>by
  have h1:=rnT_rng L k
  have h2:=rsW_lo (gt L k)
  have h3:=rsW_hi (gt L k)
  simp only [rnT]
  omega
theorem rnT_cons (t:Tk) (L:List Tk):∀ k,rnT (t :: L) (k+1)=rsW t+rnT L k
 | 0=>by
  show 0+rsW (gt (t :: L) 0)=rsW t+0
  rw [gt_cons_zero]
  omega
 | k+1=>by
  show rnT (t :: L) (k+1)+rsW (gt (t :: L) (k+1))=rsW t+(rnT L k+rsW (gt L k))
  rw [rnT_cons t L k,gt_cons_succ]
  omega
theorem rnA_nil:rnA []=0:=rfl
theorem rnA_cons (t:Tk) (L:List Tk):rnA (t :: L)=rsW t+rnA L:=rnT_cons t L L.length
theorem rnA_app:∀ (L M:List Tk),rnA (L++M)=rnA L+rnA M
 | [],M=>by rw [List.nil_append,rnA_nil];omega
 | t :: L,M=>by rw [List.cons_append,rnA_cons,rnA_cons,rnA_app L M];omega
theorem rnA_one (t:Tk):rnA [t]=rsW t:=by rw [rnA_cons,rnA_nil];omega
theorem cut_at {id:Int} : ∀ (L:List Tk),fnd id L<L.length→L=L.take (fnd id L)++drT id L :: L.drop (fnd id L+1)
 | [],h=>absurd h (Nat.not_lt_zero _)
 | t :: L,h=>by
  unfold drT
  by_cases e:t.id=id
  ·rw [fnd_yes e]
   rfl
  ·rw [fnd_next e] at h ⊢
   have ih:=cut_at L (by simpa using h)
   unfold drT at ih
   show t :: L=t :: (L.take (fnd id L)++gt (t :: L) (fnd id L+1) :: L.drop (fnd id L+1))
   rw [gt_cons_succ,← ih]
theorem rnA_drop {id:Int} {L:List Tk} (h:fnd id L<L.length):rnA (drL id L)=rnA L - rsW (drT id L):=by
 have e:=cut_at L h
 have h2:=congrArg rnA e
 rw [rnA_app,rnA_cons] at h2
 unfold drL
 rw [rnA_app]
 omega
def ftB (s:St) (w:Int):Bool:=if s.lv.kind=1 then true else if s.lim<1 then false else if s.run=[] then true else decide (rnA s.run+clW w≤s.lim)
def ftN (s:St) (w:Int):Int:=if s.lv.kind=1 then clW w else if s.lim<1 then 0 else if s.run=[] then min (clW w) s.lim else if rnA s.run+clW w≤s.lim then clW w else 0
theorem ft_yes {s:St} {w:Int} (h:ftB s w=true):(1≤ftN s w∧ftN s w≤16)∧(s.lv.kind≠1→rnA s.run+ftN s w≤s.lim):=by
 have w1:=clW_lo w
 have w2:=clW_hi w
 unfold ftB at h
 unfold ftN
 by_cases c1:s.lv.kind=1
 ·rw [if_pos c1]
  exact ⟨⟨w1,w2⟩,fun e=>absurd c1 e⟩
 ·rw [if_neg c1] at h ⊢
  by_cases c2:s.lim<1
  ·rw [if_pos c2] at h;cases h
  ·rw [if_neg c2] at h ⊢
   by_cases c3:s.run=[]
   ·rw [if_pos c3,c3,rnA_nil]
    exact ⟨⟨by omega,by omega⟩,fun _=>by omega⟩
   ·rw [if_neg c3] at h ⊢
    have h:=of_decide_eq_true h
    rw [if_pos h]
    exact ⟨⟨w1,w2⟩,fun _=>h⟩
def seated (t:Tk) (n:Int):Tk:=⟨t.id,t.wid,n,t.sin,t.unt⟩
theorem rsW_seated {s:St} {w:Int} (h:ftB s w=true) (t:Tk):rsW (seated t (ftN s w))=ftN s w:=by
 have:=(ft_yes h).1
 unfold rsW seated
 show max 0 (min (ftN s w) 16)=_
 omega
def arE (s:St) (t:Tk) (c:Int):Int:=if s.q=true then 9 else if s.lv.kind=3 then jnE s.x c else if s.lv.kind≠1∧0<wtA s.x.F then 7 else if ftB s t.wid=true then 0 else 7
def arX (s:St) (t:Tk) (c:Int):St:=if s.lv.kind=3 then { s with x:=jnX s.x c (seated t 0) } else { s with run:=s.run ++ [seated t (ftN s t.wid)] }
def dsC (s:St):Bool:=decide (0≤nxt s.x.F s.x.g) && ftB s (tkT s.x).wid
def dsT (s:St):Tk:=seated (tkT s.x) (ftN s (tkT s.x).wid)
def dsX (s:St):St:={ s with x:=tkX s.x,run:=s.run ++ [dsT s] }
def dsR:Nat→St→List Tk→St × List Tk
 | 0,s,L=>(s,L)
 | n+1,s,L=>if dsC s=true then dsR n (dsX s) (L ++ [dsT s]) else (s,L)
def dsN (s:St):Nat:=(wtA s.x.F).toNat
def dsA (s:St):St × List Tk:=dsR (dsN s) s []
theorem dsC_wt {s:St} (h:dsC s=true):wtA (dsX s).x.F=wtA s.x.F - 1∧0<wtA s.x.F:=by
 unfold dsC at h
 rw [Bool.and_eq_true] at h
 have h1:=of_decide_eq_true h.1
 rcases nxt_is s.x.F s.x.g with ⟨e,-⟩ | ⟨p,-,hp,e,hne,-⟩
 ·omega
 ·obtain ⟨-,-,-,-,-,h6,-⟩:=tk_less e hp hne
  refine ⟨h6,?_⟩
  have:=wtT_lo (tkX s.x).F (tkX s.x).F.length
  unfold wtA at h6 ⊢
  omega
theorem dsN_step {s:St} (h:dsC s=true):dsN s=dsN (dsX s)+1:=by
 have:=dsC_wt h
 have h0:=wtT_lo (dsX s).x.F (dsX s).x.F.length
 unfold dsN
 unfold wtA at *
 omega
theorem dsA_step {s:St} (h:dsC s=true) (L:List Tk):dsR (dsN s) s L=dsR (dsN (dsX s)) (dsX s) (L ++ [dsT s]):=by
 rw [dsN_step h]
 exact if_pos h
theorem dsA_stop {s:St} (h:dsC s=false) (L:List Tk):dsR (dsN s) s L=(s,L):=by
 cases e:dsN s with
 | zero=>rfl
 | succ n =>
  unfold dsR
  rw [if_neg (by rw [h];decide)]
theorem dsR_ind {P:St→List Tk→Prop} (hP:∀ s L,P s L→dsC s=true→P (dsX s) (L ++ [dsT s])):∀ n s L,P s L→P (dsR n s L).1 (dsR n s L).2
 | 0,_,_,h=>h
 | n+1,s,L,h=>by
  unfold dsR
  by_cases c:dsC s=true
  ·rw [if_pos c]
   exact dsR_ind hP n _ _ (hP s L h c)
  ·rw [if_neg c]
   exact h
def Hld (s a:St):Prop:=rnA a.run≤a.lim∨rnA a.run≤rnA s.run
theorem Hld.same {s a:St} (h:a.run=s.run):Hld s a:=.inr (by rw [h];exact Int.le_refl _)
theorem Hld.arrive {s:St} {t:Tk} {c:Int} (h:arE s t c=0) (hk:s.lv.kind≠1):Hld s (arX s t c):=by
 unfold arX
 by_cases k3:s.lv.kind=3
 ·rw [if_pos k3];exact Hld.same rfl
 ·rw [if_neg k3]
  unfold arE at h
  by_cases c1:s.q=true
  ·rw [if_pos c1] at h;exact absurd h (by decide)
  ·rw [if_neg c1,if_neg k3] at h
   by_cases c2:s.lv.kind≠1∧0<wtA s.x.F
   ·rw [if_pos c2] at h;exact absurd h (by decide)
   ·rw [if_neg c2] at h
    by_cases c3:ftB s t.wid=true
    ·refine .inl ?_
     show rnA (s.run ++ [seated t (ftN s t.wid)])≤s.lim
     rw [rnA_app,rnA_one,rsW_seated c3]
     exact (ft_yes c3).2 hk
    ·rw [if_neg c3] at h;exact absurd h (by decide)
theorem Hld.dispatch {s:St} (hk:s.lv.kind≠1):Hld s (dsA s).1:=by
 have:=dsR_ind (P:=fun a _=>(a.lv.kind≠1∧a.lim=s.lim)∧(rnA a.run≤s.lim∨rnA a.run≤rnA s.run)) (fun a L h c=>by
  unfold dsC at c
  rw [Bool.and_eq_true] at c
  refine ⟨h.1,.inl ?_⟩
  show rnA (a.run ++ [dsT a])≤s.lim
  unfold dsT
  rw [rnA_app,rnA_one,rsW_seated c.2,← h.1.2]
  exact (ft_yes c.2).2 h.1.1) (dsN s) s [] ⟨⟨hk,rfl⟩,.inr (Int.le_refl _)⟩
 unfold Hld
 rw [show (dsA s).1.lim=s.lim from this.1.2]
 exact this.2
theorem Hld.done {s:St} {id:Int} (h:fnd id s.run<s.run.length):Hld s { s with run:=drL id s.run }:=by
 refine .inr ?_
 show rnA (drL id s.run)≤rnA s.run
 rw [rnA_drop h]
 have:=rsW_lo (drT id s.run)
 omega
def flt (F:List Ln):List Tk:=F.flatMap (·.L)
theorem flt_cons (l:Ln) (F:List Ln):flt (l :: F)=l.L++flt F:=by simp [flt]
theorem flt_app (F G:List Ln):flt (F++G)=flt F++flt G:=by simp [flt]
theorem flt_none {F:List Ln} (h:∀ l∈F,l.L=[]):flt F=[]:=by
 induction F with
 | nil=>rfl
 | cons l F ih=>rw [flt_cons,h l List.mem_cons_self,ih (fun m hm=>h m (List.mem_cons_of_mem _ hm))];rfl
theorem trN_none (F:List Ln) (o:Int):∀ n k,trN F o n≤k→k<n→(gl F k).L=[]
 | 0,_,_,h=>absurd h (Nat.not_lt_zero _)
 | n+1,k,h1,h2=>by
  unfold trN at h1
  split at h1
  ·rename_i c
   rcases Nat.lt_or_eq_of_le (Nat.le_of_lt_succ h2) with d | rfl
   ·exact trN_none F o n k h1 d
   ·exact c.2
  ·omega
theorem flt_trm (F:List Ln) (o:Int):flt (trm F o)=flt F:=by
 have e:=List.take_append_drop (trN F o F.length) F
 have h:flt (F.drop (trN F o F.length))=[]:=flt_none fun l hl=>by
  obtain ⟨j,hj,rfl⟩:=List.mem_iff_getElem.1 hl
  rw [List.length_drop] at hj
  rw [List.getElem_drop]
  have hk:trN F o F.length+j<F.length:=by omega
  have hg:=gl_get hk
  rw [List.getElem?_eq_getElem hk] at hg
  injection hg with hg
  rw [hg]
  exact trN_none F o F.length _ (by omega) hk
 have h2:=congrArg flt e
 rw [flt_app,h,List.append_nil] at h2
 exact h2
theorem flt_set:∀ (F:List Ln) (k:Nat) (l:Ln),k<F.length→(flt (F.set k l)++(gl F k).L).Perm (flt F++l.L)
 | [],k,_,h=>absurd h (Nat.not_lt_zero k)
 | m :: F,0,l,_=>by
  show (flt (l :: F)++m.L).Perm (flt (m :: F)++l.L)
  rw [flt_cons,flt_cons]
  have a:(l.L++flt F++m.L).Perm (m.L++(l.L++flt F)):=List.perm_append_comm
  have b:(m.L++flt F++l.L).Perm (m.L++(l.L++flt F)):=by
   rw [List.append_assoc]
   exact List.Perm.append_left _ List.perm_append_comm
  exact a.trans b.symm
 | m :: F,k+1,l,h=>by
  show (flt (m :: F.set k l)++(gl F k).L).Perm (flt (m :: F)++l.L)
  rw [flt_cons,flt_cons,List.append_assoc,List.append_assoc]
  exact List.Perm.append_left _ (flt_set F k l (by simpa using h))
theorem flt_join {F:List Ln} {k:Nat} (hk:k<F.length) (r:Int) (t:Tk):(flt (jnF F k r t)).Perm (flt F ++ [t]):=by
 have h:=flt_set F k ⟨jnS (gl F k).s r (gl F k).L,(gl F k).L ++ [t]⟩ hk
 have h2:(flt F++((gl F k).L ++ [t])).Perm (flt F ++ [t]++(gl F k).L):=by
  rw [List.append_assoc]
  exact List.Perm.append_left _ List.perm_append_comm
 exact (List.perm_append_right_iff _).1 (h.trans h2)
theorem drL_perm {id:Int} {L:List Tk} (h:fnd id L<L.length):(drT id L :: drL id L).Perm L:=by
 have e:=cut_at L h
 conv=>rhs;rw [e]
 exact List.perm_middle.symm
theorem flt_drop {F:List Ln} {id:Int} (hk:dpK F id<F.length):(drT id (gl F (dpK F id)).L :: flt (F.set (dpK F id) ⟨(gl F (dpK F id)).s,drL id (gl F (dpK F id)).L⟩)).Perm (flt F):=by
 have hb:=dpK_yes hk
 unfold drB at hb
 have hf:fnd id (gl F (dpK F id)).L<(gl F (dpK F id)).L.length:=of_decide_eq_true hb
 have h:=flt_set F (dpK F id) ⟨(gl F (dpK F id)).s,drL id (gl F (dpK F id)).L⟩ hk
 have a:(drT id (gl F (dpK F id)).L :: flt (F.set (dpK F id) ⟨(gl F (dpK F id)).s,drL id (gl F (dpK F id)).L⟩)++drL id (gl F (dpK F id)).L).Perm (flt (F.set (dpK F id) ⟨(gl F (dpK F id)).s,drL id (gl F (dpK F id)).L⟩)++(gl F (dpK F id)).L) :=
  List.perm_middle.symm.trans (List.Perm.append_left _ (drL_perm hf))
 exact (List.perm_append_right_iff _).1 (a.trans h)
theorem flt_len (F:List Ln):((flt F).length:Int)=wtA F:=by
 have key:∀ (G:List Ln),wtT G G.length=((flt G).length:Int):=by
  intro G
  induction G with
  | nil=>rfl
  | cons l G ih =>
   have sh:∀ k,wtT (l :: G) (k+1)=(l.L.length:Int)+wtT G k:=by
    intro k
    induction k with
    | zero=>show 0+((gl (l :: G) 0).L.length:Int)=_+0;rw [gl_cons_zero];omega
    | succ k ihk =>
     show wtT (l :: G) (k+1)+((gl (l :: G) (k+1)).L.length:Int)=_+(wtT G k+((gl G k).L.length:Int))
     rw [ihk,gl_cons_succ]
     omega
   rw [List.length_cons,sh,ih,flt_cons,List.length_append]
   omega
 exact (key F).symm
def allT (s:St):List Tk:=s.run++flt s.x.F
def ltB (now:Int) (t:Tk):Bool:=decide (t.unt≤now)
def ltA (now:Int) (F:List Ln):List Tk:=(flt F).filter (ltB now)
def ltK (now:Int) (F:List Ln):List Ln:=F.map fun l=>⟨l.s,l.L.filter fun t=>!ltB now t⟩
def insT (t:Tk):List Tk→List Tk
 | []=>[t]
 | u :: L=>if t.id≤u.id then t :: u :: L else u :: insT t L
def srt:List Tk→List Tk
 | []=>[]
 | t :: L=>insT t (srt L)
theorem insT_perm (t:Tk):∀ L,(insT t L).Perm (t :: L)
 | []=>List.Perm.refl _
 | u :: L=>by
  unfold insT
  split
  ·exact List.Perm.refl _
  ·exact ((insT_perm t L).cons u).trans (List.Perm.swap t u L)
theorem srt_perm:∀ L,(srt L).Perm L
 | []=>List.Perm.refl _
 | t :: L=>(insT_perm t (srt L)).trans ((srt_perm L).cons t)
theorem insT_first {t:Tk} {L:List Tk} (h:∀ u∈L,t.id≤u.id):insT t L=t :: L:=by
 cases L with
 | nil=>rfl
 | cons u L=>exact if_pos (h u List.mem_cons_self)
theorem srt_pick {t:Tk} {B:List Tk} (hB:∀ u∈B,t.id≤u.id):∀ (A:List Tk),(∀ u∈A,t.id<u.id)→srt (A++t :: B)=t :: srt (A++B)
 | [],_=>insT_first (fun u hu=>hB u ((srt_perm B).mem_iff.1 hu))
 | a :: A,hA=>by
  show insT a (srt (A++t :: B))=t :: insT a (srt (A++B))
  rw [srt_pick hB A (fun u hu=>hA u (List.mem_cons_of_mem _ hu))]
  have:=hA a List.mem_cons_self
  exact if_neg (by omega)
theorem flt_late (now:Int):∀ F,flt (ltK now F)=(flt F).filter fun t=>!ltB now t
 | []=>rfl
 | l :: F=>by
  show flt (_ :: ltK now F)=_
  rw [flt_cons,flt_cons,List.filter_append,flt_late now F]
theorem late_perm (now:Int) (F:List Ln):(flt F).Perm (ltA now F++flt (ltK now F)):=by
 rw [flt_late]
 exact (List.filter_append_perm (ltB now) (flt F)).symm
theorem ltK_len (now:Int) (F:List Ln):(ltK now F).length=F.length:=List.length_map _
theorem gl_ltK (now:Int) (F:List Ln) (k:Nat):gl (ltK now F) k=⟨(gl F k).s,(gl F k).L.filter fun t=>!ltB now t⟩:=by
 rcases Nat.lt_or_ge k F.length with c | c
 ·have h1:=gl_get c
  have h2:(ltK now F)[k]?=some ⟨(gl F k).s,(gl F k).L.filter fun t=>!ltB now t⟩:=by
   unfold ltK
   rw [List.getElem?_map,h1]
   rfl
  have h3:=gl_get (F:=ltK now F) (k:=k) (by rw [ltK_len];exact c)
  rw [h2] at h3
  injection h3 with h3
  exact h3.symm
 ·rw [gl_out c,gl_out (by rw [ltK_len];exact c)]
  rfl
theorem ltK_none {now:Int} {F:List Ln} (h:ltA now F=[]):ltK now F=F:=by
 unfold ltA at h
 unfold ltK
 have key:∀ l∈F,(⟨l.s,l.L.filter fun t=>!ltB now t⟩:Ln)=l:=fun l hl=>by
  have:l.L.filter (fun t=>!ltB now t)=l.L:=by
   refine List.filter_eq_self.2 fun t ht=>?_
   have hm:t∈flt F:=List.mem_flatMap.2 ⟨l,hl,ht⟩
   have:=List.filter_eq_nil_iff.1 h t hm
   simpa using this
  rw [this]
 induction F with
 | nil=>rfl
 | cons l F ih =>
  rw [List.map_cons,key l List.mem_cons_self]
  congr 1
  refine ih ?_ (fun m hm=>key m (List.mem_cons_of_mem _ hm))
  rw [flt_cons,List.filter_append] at h
  exact (List.append_eq_nil_iff.1 h).2
theorem trN_congr {F G:List Ln} {o:Int} : ∀ n,(∀ k,k<n→((gl F k).L=[] ↔ (gl G k).L=[]))→trN F o n=trN G o n
 | 0,_=>rfl
 | n+1,h=>by
  unfold trN
  rw [trN_congr n (fun k hk=>h k (by omega))]
  by_cases c:o<(n+1:Int)∧(gl F n).L=[]
  ·rw [if_pos c,if_pos ⟨c.1,(h n (Nat.lt_succ_self n)).1 c.2⟩]
  ·rw [if_neg c,if_neg (fun d=>c ⟨d.1,(h n (Nat.lt_succ_self n)).2 d.2⟩)]
theorem trN_twice {F G:List Ln} {o:Int} (h:∀ k,(gl F k).L=[]→(gl G k).L=[]):∀ n,trN G o (trN F o n)=trN G o n
 | 0=>rfl
 | n+1=>by
  by_cases c:o<(n+1:Int)∧(gl F n).L=[]
  ·have e1:trN F o (n+1)=trN F o n:=if_pos c
   have e2:trN G o (n+1)=trN G o n:=if_pos ⟨c.1,h n c.2⟩
   rw [e1,e2,trN_twice h n]
  ·have e1:trN F o (n+1)=n+1:=if_neg c
   rw [e1]
theorem trm_ltK (now:Int) (F:List Ln) (o:Int):trm (ltK now (trm F o)) o=trm (ltK now F) o:=by
 have hm:=trN_le F o F.length
 have e0:ltK now (trm F o)=(ltK now F).take (trN F o F.length):=by
  unfold ltK trm
  rw [List.map_take]
 have hG:∀ k,(gl F k).L=[]→(gl (ltK now F) k).L=[]:=fun k hk=>by rw [gl_ltK];show List.filter _ _=_;rw [hk];rfl
 have e1:=trN_twice (o:=o) hG F.length
 unfold trm at *
 rw [e0]
 rw [List.length_take,ltK_len,Nat.min_eq_left hm]
 have e2:trN ((ltK now F).take (trN F o F.length)) o (trN F o F.length)=trN (ltK now F) o (trN F o F.length):=trN_congr _ (fun k hk=>by rw [gl_take hk])
 rw [e2,e1,List.take_take]
 congr 1
 have:=trN_le (ltK now F) o (trN F o F.length)
 rw [e1] at this
 omega
theorem trm_trm (F:List Ln) (o:Int):trm (trm F o) o=trm F o:=by
 have hm:=trN_le F o F.length
 have h1:(trm F o).length=trN F o F.length:=trm_len F o
 have h2:trN (trm F o) o (trN F o F.length)=trN F o F.length:=by
  rw [trN_congr (G:=F) _ (fun k hk=>by unfold trm;rw [gl_take hk])]
  exact trN_twice (fun _ h=>h) _
 show List.take _ (trm F o)=_
 rw [h1,h2]
 exact List.take_of_length_le (by omega)
def cutL (F:List Ln) (l a:Nat):List Ln:=F.set l ⟨(gl F l).s,(gl F l).L.take a++(gl F l).L.drop (a+1)⟩
theorem split_at {L:List Tk} {a:Nat} (h:a<L.length):L=L.take a++gt L a :: L.drop (a+1):=by
 have e:=List.take_append_drop a L
 have e2:L.drop a=gt L a :: L.drop (a+1):=by
  rw [List.drop_eq_getElem_cons h]
  have:=gt_get h
  rw [List.getElem?_eq_getElem h] at this
  injection this with this
  rw [this]
 rw [e2] at e
 exact e.symm
theorem flt_split {F:List Ln} {l:Nat} (h:l<F.length):flt F=flt (F.take l)++((gl F l).L++flt (F.drop (l+1))):=by
 have e:=List.take_append_drop l F
 have e2:F.drop l=gl F l :: F.drop (l+1):=by
  rw [List.drop_eq_getElem_cons h]
  have:=gl_get h
  rw [List.getElem?_eq_getElem h] at this
  injection this with this
  rw [this]
 have e3:=congrArg flt e
 rw [flt_app,e2,flt_cons] at e3
 exact e3.symm
theorem flt_cut {F:List Ln} {l a:Nat} (h:l<F.length) (ha:a<(gl F l).L.length) :
  flt F=(flt (F.take l)++(gl F l).L.take a)++gt (gl F l).L a :: ((gl F l).L.drop (a+1)++flt (F.drop (l+1))) ∧
  flt (cutL F l a)=(flt (F.take l)++(gl F l).L.take a)++((gl F l).L.drop (a+1)++flt (F.drop (l+1))):=by
 constructor
 ·conv=>lhs;rw [flt_split h,split_at ha]
  simp only [List.append_assoc,List.cons_append]
 ·have hl:l<(cutL F l a).length:=by unfold cutL;rw [List.length_set];exact h
  rw [flt_split hl]
  unfold cutL
  rw [gl_set_same h,List.take_set_of_le (Nat.le_refl l),List.drop_set_of_lt (Nat.lt_succ_self l)]
  simp only [List.append_assoc]
theorem ltK_cut {now:Int} {F:List Ln} {l a:Nat} (h:l<F.length) (ha:a<(gl F l).L.length) (ht:ltB now (gt (gl F l).L a)=true):ltK now (cutL F l a)=ltK now F:=by
 have e:(gl F l).L.filter (fun t=>!ltB now t)=((gl F l).L.take a++(gl F l).L.drop (a+1)).filter (fun t=>!ltB now t):=by
  conv=>lhs;rw [split_at ha]
  rw [List.filter_append,List.filter_append,List.filter_cons_of_neg (by rw [ht];decide)]
 unfold cutL ltK
 rw [List.map_set]
 show List.set _ l (⟨(gl F l).s,List.filter (fun t=>!ltB now t) ((gl F l).L.take a++(gl F l).L.drop (a+1))⟩:Ln)=_
 rw [←e]
 have hg:=gl_get h
 have:(F.map fun l=>(⟨l.s,l.L.filter fun t=>!ltB now t⟩:Ln))[l]?=some (⟨(gl F l).s,(gl F l).L.filter fun t=>!ltB now t⟩:Ln):=by
  rw [List.getElem?_map,hg]
  rfl
 have hl:l<(F.map fun l=>(⟨l.s,l.L.filter fun t=>!ltB now t⟩:Ln)).length:=by rw [List.length_map];exact h
 rw [List.getElem?_eq_getElem hl] at this
 injection this with this
 rw [←this]
 exact List.set_getElem_self hl
def IsL (now:Int) (F:List Ln) (P:List Tk) (ln at':Int):Prop :=
 (at'=-1∧P.filter (ltB now)=[]) ∨
 ∃ (l a:Nat) (B:List Tk),ln=l∧at'=a∧l<F.length∧a<(gl F l).L.length∧ltB now (gt (gl F l).L a)=true ∧
  P.filter (ltB now)=(flt (F.take l)++(gl F l).L.take a).filter (ltB now)++gt (gl F l).L a :: B ∧
  (∀ u∈(flt (F.take l)++(gl F l).L.take a).filter (ltB now),(gt (gl F l).L a).id<u.id)∧∀ u∈B,(gt (gl F l).L a).id≤u.id
theorem IsL.start (now:Int) (F:List Ln) (ln:Int):IsL now F [] ln (-1):=.inl ⟨rfl,rfl⟩
theorem IsL.more {now:Int} {F:List Ln} {k i:Nat} {ln at':Int} (h:IsL now F (flt (F.take k)++(gl F k).L.take i) ln at') (hk:k<F.length) (hi:i<(gl F k).L.length) :
  IsL now F (flt (F.take k)++(gl F k).L.take (i+1)) (if ltB now (gt (gl F k).L i)=true∧(at' < 0∨(gt (gl F k).L i).id<(gt (gl F ln.toNat).L at'.toNat).id) then (k:Int) else ln) (if ltB now (gt (gl F k).L i)=true∧(at' < 0∨(gt (gl F k).L i).id<(gt (gl F ln.toNat).L at'.toNat).id) then (i:Int) else at'):=by
 have e:(gl F k).L.take (i+1)=(gl F k).L.take i ++ [gt (gl F k).L i]:=by
  rw [List.take_add_one,gt_get hi]
  rfl
 have e2:(flt (F.take k)++(gl F k).L.take (i+1)).filter (ltB now)=(flt (F.take k)++(gl F k).L.take i).filter (ltB now) ++ [gt (gl F k).L i].filter (ltB now):=by
  rw [e,← List.append_assoc,List.filter_append]
 obtain ⟨u,hu⟩:∃ u,u=gt (gl F k).L i:=⟨_,rfl⟩
 rw [←hu] at e2 ⊢
 by_cases c:ltB now u=true
 ·have e3:[u].filter (ltB now)=[u]:=List.filter_cons_of_pos c
  rw [e3] at e2
  rcases h with ⟨rfl,h0⟩ | ⟨l,a,B,rfl,rfl,hl,ha,ht,h5,h6,h7⟩
  ·rw [if_pos ⟨c,.inl (by decide)⟩,if_pos ⟨c,.inl (by decide)⟩]
   refine .inr ⟨k,i,[],rfl,rfl,hk,hi,by rw [←hu];exact c,by rw [e2,hu],?_,fun v hv=>by cases hv⟩
   intro v hv
   rw [h0] at hv
   cases hv
  ·rw [Int.toNat_natCast,Int.toNat_natCast]
   by_cases d:u.id<(gt (gl F l).L a).id
   ·rw [if_pos ⟨c,.inr d⟩,if_pos ⟨c,.inr d⟩]
    refine .inr ⟨k,i,[],rfl,rfl,hk,hi,by rw [←hu];exact c,by rw [e2,hu],?_,fun v hv=>by cases hv⟩
    intro v hv
    rw [←hu]
    rw [h5] at hv
    rcases List.mem_append.1 hv with q | q
    ·have:=h6 v q;omega
    ·rcases List.mem_cons.1 q with rfl | q
     ·exact d
     ·have:=h7 v q;omega
   ·have nd:¬ (ltB now u=true∧((a:Int)<0∨u.id<(gt (gl F l).L a).id)):=fun q=>q.2.elim (fun q=>by omega) d
    rw [if_neg nd,if_neg nd]
    refine .inr ⟨l,a,B ++ [u],rfl,rfl,hl,ha,ht,by rw [e2,h5,List.append_assoc,List.cons_append],h6,fun v hv=>?_⟩
    rcases List.mem_append.1 hv with q | q
    ·exact h7 v q
    ·rw [List.mem_singleton.1 q];omega
 ·have nd:¬ (ltB now u=true∧(at' < 0∨u.id<(gt (gl F ln.toNat).L at'.toNat).id)):=fun q=>c q.1
  rw [if_neg nd,if_neg nd]
  have e3:[u].filter (ltB now)=[]:=List.filter_cons_of_neg c
  rw [e3,List.append_nil] at e2
  rcases h with ⟨h1,h0⟩ | ⟨l,a,B,h1,h2,hl,ha,ht,h5,h6,h7⟩
  ·exact .inl ⟨h1,by rw [e2];exact h0⟩
  ·exact .inr ⟨l,a,B,h1,h2,hl,ha,ht,by rw [e2];exact h5,h6,h7⟩
def LtI (now o:Int) (F0:List Ln) (W:List Tk) (F:List Ln):Prop :=
 W++srt (ltA now F)=srt (ltA now F0)∧trm (ltK now F) o=trm (ltK now F0) o∧((W=[]∧F=F0)∨(W≠[]∧trm F o=F))
theorem LtI.start (now o:Int) (F:List Ln):LtI now o F [] F:=⟨rfl,rfl,.inl ⟨rfl,rfl⟩⟩
theorem LtI.step {now o:Int} {F0 F:List Ln} {W:List Tk} (h:LtI now o F0 W F) {l a:Nat} (hi:IsL now F (flt F) (l:Int) (a:Int)):l<F.length∧a<(gl F l).L.length∧LtI now o F0 (W ++ [gt (gl F l).L a]) (trm (cutL F l a) o):=by
 rcases hi with ⟨h1,-⟩ | ⟨l',a',B,e1,e2,hl,ha,ht,h5,h6,h7⟩
 ·omega
 ·obtain rfl:l=l':=by omega
  obtain rfl:a=a':=by omega
  refine ⟨hl,ha,?_,?_,.inr ⟨by simp,trm_trm _ _⟩⟩
  ·obtain ⟨c1,c2⟩:=flt_cut hl ha
   have k1:ltA now F=(flt (F.take l)++(gl F l).L.take a).filter (ltB now)++gt (gl F l).L a :: B:=h5
   have k2:B=((gl F l).L.drop (a+1)++flt (F.drop (l+1))).filter (ltB now):=by
    have:=k1
    unfold ltA at this
    rw [c1,List.filter_append,List.filter_cons_of_pos ht] at this
    have:=List.append_cancel_left this
    injection this with _ this
    exact this.symm
   have k3:ltA now (trm (cutL F l a) o)=(flt (F.take l)++(gl F l).L.take a).filter (ltB now)++B:=by
    unfold ltA
    rw [flt_trm,c2,List.filter_append,← k2]
   rw [k3,List.append_assoc,List.singleton_append,← srt_pick h7 _ h6,← k1]
   exact h.1
  ·rw [trm_ltK,ltK_cut hl ha ht]
   exact h.2.1
theorem LtI.fin {now o:Int} {F0 F:List Ln} {W:List Tk} (h:LtI now o F0 W F) {ln:Int} (hi:IsL now F (flt F) ln (-1)):W=srt (ltA now F0)∧F=if ltA now F0=[] then F0 else trm (ltK now F0) o:=by
 have h0:ltA now F=[]:=by
  rcases hi with ⟨-,h0⟩ | ⟨l,a,B,-,e2,-⟩
  ·exact h0
  ·omega
 obtain ⟨h1,h2,h3⟩:=h
 rw [h0] at h1
 have h1:W=srt (ltA now F0):=by rw [←h1];exact (List.append_nil W).symm
 refine ⟨h1,?_⟩
 have hp:=(srt_perm (ltA now F0)).length_eq
 rcases h3 with ⟨w0,rfl⟩ | ⟨w0,e⟩
 ·rw [if_pos h0]
 ·rw [if_neg (fun c=>w0 (by rw [h1,c];rfl)),← h2,ltK_none h0,e]
theorem late_less {o:Int} {F:List Ln} {l a:Nat} (hl:l<F.length) (ha:a<(gl F l).L.length):(flt (trm (cutL F l a) o)).length+1=(flt F).length:=by
 obtain ⟨c1,c2⟩:=flt_cut hl ha
 have q1:=congrArg List.length c1
 have q2:=congrArg List.length c2
 rw [flt_trm]
 simp only [List.length_append,List.length_cons] at q1 q2
 omega
def ids (L:List Tk):List Int:=L.map (·.id)
structure Kp (s:St) (n:Nat) (m:Int):Prop where
 nd:(ids (allT s)).Nodup
 lt:∀ i∈ids (allT s),i<m
 len:(allT s).length=n
theorem Kp.next {s:St} {n:Nat} {m m':Int} (h:Kp s n m) (hm:m≤m'):Kp s n m':=⟨h.nd,fun i hi=>by have:=h.lt i hi;omega,h.len⟩
theorem Kp.come {s a:St} {n:Nat} {m:Int} (h:Kp s n m) (p:(ids (allT a)).Perm (ids (allT s) ++ [m])):Kp a (n+1) (m+1):=by
 have hnd:(ids (allT s) ++ [m]).Nodup:=by
  rw [List.nodup_append]
  refine ⟨h.nd,List.pairwise_singleton _ _,fun i hi j hj e=>?_⟩
  rw [List.mem_singleton.1 hj] at e
  have:=h.lt i hi
  omega
 refine ⟨(p.nodup_iff).2 hnd,fun i hi=>?_,?_⟩
 ·rcases List.mem_append.1 (p.mem_iff.1 hi) with c | c
  ·have:=h.lt i c;omega
  ·rw [List.mem_singleton.1 c];omega
 ·have:=p.length_eq
  unfold ids at this
  rw [List.length_append,List.length_map,List.length_map,List.length_singleton] at this
  rw [this,h.len]
theorem ids_app (L M:List Tk):ids (L++M)=ids L++ids M:=List.map_append
theorem ids_perm {L M:List Tk} (h:L.Perm M):(ids L).Perm (ids M):=h.map _
theorem done_ids {s:St} {id:Int} (h:fnd id s.run<s.run.length):(ids (allT s)).Perm ([(drT id s.run).id]++ids (allT { s with run:=drL id s.run })):=by
 show (ids (s.run++flt s.x.F)).Perm ([(drT id s.run).id]++ids (drL id s.run++flt s.x.F))
 rw [ids_app,ids_app,← List.append_assoc]
 exact List.Perm.append_right _ (ids_perm (drL_perm h)).symm
theorem drop_ids {s:St} {id:Int} (h:dpK s.x.F id<s.x.F.length):(ids (allT s)).Perm ([(dpT s.x id).id]++ids (allT { s with x:=dpX s.x id })):=by
 have e1:dpT s.x id=drT id (gl s.x.F (dpK s.x.F id)).L:=if_pos h
 have e2:flt (dpX s.x id).F=flt (s.x.F.set (dpK s.x.F id) ⟨(gl s.x.F (dpK s.x.F id)).s,drL id (gl s.x.F (dpK s.x.F id)).L⟩):=by
  have:dpX s.x id=⟨s.x.r,s.x.g,s.x.n,s.x.o,trm (s.x.F.set (dpK s.x.F id) ⟨(gl s.x.F (dpK s.x.F id)).s,drL id (gl s.x.F (dpK s.x.F id)).L⟩) s.x.o⟩:=if_pos h
  rw [this,flt_trm]
 show (ids (s.run++flt s.x.F)).Perm ([(dpT s.x id).id]++ids (s.run++flt (dpX s.x id).F))
 rw [ids_app,ids_app,e1,e2]
 have hq:=(ids_perm (flt_drop h)).symm
 have a:(ids s.run++ids (flt s.x.F)).Perm (ids s.run++([(drT id (gl s.x.F (dpK s.x.F id)).L).id]++ids (flt (s.x.F.set (dpK s.x.F id) ⟨(gl s.x.F (dpK s.x.F id)).s,drL id (gl s.x.F (dpK s.x.F id)).L⟩)))):=List.Perm.append_left _ hq
 refine a.trans ?_
 rw [←List.append_assoc,← List.append_assoc]
 exact List.Perm.append_right _ List.perm_append_comm
def ltX (now:Int) (s:St):St:={ s with x:=if ltA now s.x.F=[] then s.x else ⟨s.x.r,s.x.g,s.x.n,s.x.o,trm (ltK now s.x.F) s.x.o⟩ }
theorem late_ids (now:Int) (s:St):(ids (allT s)).Perm (ids (srt (ltA now s.x.F))++ids (allT (ltX now s))):=by
 have e:flt (ltX now s).x.F=flt (ltK now s.x.F):=by
  unfold ltX
  by_cases c:ltA now s.x.F=[]
  ·simp only [if_pos c]
   rw [ltK_none c]
  ·simp only [if_neg c]
   rw [flt_trm]
 show (ids (s.run++flt s.x.F)).Perm (_++ids (s.run++flt (ltX now s).x.F))
 rw [e,ids_app,ids_app]
 have p1:=ids_perm (late_perm now s.x.F)
 rw [ids_app] at p1
 have p2:=ids_perm (srt_perm (ltA now s.x.F))
 have a:(ids s.run++ids (flt s.x.F)).Perm (ids s.run++(ids (srt (ltA now s.x.F))++ids (flt (ltK now s.x.F)))):=List.Perm.append_left _ (p1.trans (List.Perm.append_right _ p2.symm))
 refine a.trans ?_
 rw [←List.append_assoc,← List.append_assoc]
 exact List.Perm.append_right _ List.perm_append_comm
theorem jnE_none {x:Fa} {c:Int} (h:jnE x c=0):¬ c<0∧¬ x.n≤((gl x.F c.toNat).L.length:Int):=by
 unfold jnE at h
 by_cases c1:c<0
 ·rw [if_pos c1] at h;exact absurd h (by decide)
 ·by_cases c2:x.n≤((gl x.F c.toNat).L.length:Int)
  ·rw [if_neg c1,if_pos c2] at h;exact absurd h (by decide)
  ·exact ⟨c1,c2⟩
theorem jnX_is {x:Fa} {c:Int} (h:jnE x c=0) (t:Tk):jnX x c t=⟨x.r,x.g,x.n,x.o,jnF x.F c.toNat x.r t⟩:=by
 obtain ⟨h1,h2⟩:=jnE_none h
 unfold jnX
 rw [if_neg h1,if_neg h2]
theorem vld_lt {F:List Ln} {o c:Int} (h:c=-1∨Vld F o c) (h0:¬ c<0):c.toNat<F.length:=by
 rcases h with e | e
 ·omega
 ·have:=e.2.2;omega
theorem seats_snoc (L:List Tk) (t:Tk):seatsTo (L ++ [t]) (L ++ [t]).length=seatsTo L L.length+clW t.wid:=by
 induction L with
 | nil =>
  show 0+clW (gt [t] 0).wid=0+clW t.wid
  rfl
 | cons u L ih =>
  show seatsTo (u :: (L ++ [t])) ((L ++ [t]).length+1)=seatsTo (u :: L) (L.length+1)+clW t.wid
  rw [seats_cons,seats_cons,ih]
  omega
theorem st_join {F:List Ln} {k:Nat} (hk:k<F.length) (r:Int) (t:Tk):stA (jnF F k r t)=stA F+clW t.wid:=by
 unfold stA jnF
 rw [List.length_set,st_set hk,if_pos hk]
 have:sW ⟨jnS (gl F k).s r (gl F k).L,(gl F k).L ++ [t]⟩=sW (gl F k)+clW t.wid:=by
  unfold sW
  exact seats_snoc _ _
 rw [this]
 omega
def wnA (s:St):Int:=rnA s.run+stA s.x.F
theorem arE_yes {s:St} {t:Tk} {c:Int} (h:arE s t c=0):s.q=false∧((s.lv.kind=3∧jnE s.x c=0)∨(s.lv.kind≠3∧ftB s t.wid=true∧¬ (s.lv.kind≠1∧0<wtA s.x.F))):=by
 unfold arE at h
 by_cases c1:s.q=true
 ·rw [if_pos c1] at h;exact absurd h (by decide)
 ·rw [if_neg c1] at h
  refine ⟨by simpa using c1,?_⟩
  by_cases k3:s.lv.kind=3
  ·rw [if_pos k3] at h
   exact .inl ⟨k3,h⟩
  ·rw [if_neg k3] at h
   by_cases c2:s.lv.kind≠1∧0<wtA s.x.F
   ·rw [if_pos c2] at h;exact absurd h (by decide)
   ·rw [if_neg c2] at h
    by_cases c3:ftB s t.wid=true
    ·exact .inr ⟨k3,c3,c2⟩
    ·rw [if_neg c3] at h;exact absurd h (by decide)
theorem arr_ids {s:St} {t:Tk} {c:Int} (h:arE s t c=0) (hc:c=-1∨Vld s.x.F s.x.o c):(ids (allT (arX s t c))).Perm (ids (allT s) ++ [t.id])∧wnA s<wnA (arX s t c):=by
 rcases (arE_yes h).2 with ⟨k3,hj⟩ | ⟨k3,hf,-⟩
 ·have e:arX s t c={ s with x:=jnX s.x c (seated t 0) }:=if_pos k3
  have hk:=vld_lt hc (jnE_none hj).1
  rw [e]
  constructor
  ·show (ids (s.run++flt (jnX s.x c (seated t 0)).F)).Perm (ids (s.run++flt s.x.F) ++ [t.id])
   rw [jnX_is hj,ids_app,ids_app,List.append_assoc]
   have p:=ids_perm (flt_join hk s.x.r (seated t 0))
   rw [ids_app] at p
   exact List.Perm.append_left _ p
  ·show rnA s.run+stA s.x.F<rnA s.run+stA (jnX s.x c (seated t 0)).F
   rw [jnX_is hj,st_join hk]
   have:=clW_lo (seated t 0).wid
   omega
 ·have e:arX s t c={ s with run:=s.run ++ [seated t (ftN s t.wid)] }:=if_neg k3
  rw [e]
  constructor
  ·show (ids ((s.run ++ [seated t (ftN s t.wid)])++flt s.x.F)).Perm (ids (s.run++flt s.x.F) ++ [t.id])
   rw [ids_app,ids_app,ids_app,List.append_assoc,List.append_assoc]
   exact List.Perm.append_left _ List.perm_append_comm
  ·show rnA s.run+stA s.x.F<rnA (s.run ++ [seated t (ftN s t.wid)])+stA s.x.F
   rw [rnA_app,rnA_one,rsW_seated hf]
   have:=(ft_yes hf).1
   omega
def tuC (l:Lv) (q:Bool):Bool:=(decide (l.kind=3) && !q) && decide (nwE l.queues l.guess l.length=0)
def tuF (s:St) (l:Lv) (q:Bool):Fa:=if tuC l q=true then shX s.x l.queues l.guess l.length else suX s.x
def tuS (s:St) (l:Lv) (q:Bool):St:={ s with lv:=l,q:=q,x:=tuF s l q }
theorem nwE_good {o g n:Int} (h:nwE o g n=0):Good o g n:=Classical.byContradiction fun c=>by
 unfold nwE at h
 rw [if_neg c] at h
 exact absurd h (by decide)
theorem flt_turn (s:St) (l:Lv) (q:Bool):flt (tuF s l q).F=flt s.x.F:=by
 unfold tuF
 by_cases c:tuC l q=true
 ·rw [if_pos c]
  unfold tuC at c
  rw [Bool.and_eq_true] at c
  have hg:=nwE_good (of_decide_eq_true c.2)
  unfold shX
  rw [if_pos hg]
  show flt (trm (shF s.x.F _) _)=_
  rw [flt_trm]
  unfold shF
  rw [flt_app,flt_none (F:=List.replicate _ lnZ) (fun m hm=>by rw [(List.mem_replicate.1 hm).2];rfl),List.append_nil]
 ·rw [if_neg c]
  exact flt_trm _ _
theorem turn_ids (s:St) (l:Lv) (q:Bool):ids (allT (tuS s l q))=ids (allT s):=by
 show ids (s.run++flt (tuF s l q).F)=ids (s.run++flt s.x.F)
 rw [flt_turn]
def opX (l:Lv):Fa:=if l.kind=3 then nwX l.queues l.guess l.length else xZ
def opS (l:Lv):St:=⟨l,false,0,0,0,0,0,0,opX l,[]⟩
theorem opS_none (l:Lv):allT (opS l)=[]:=by
 show []++flt (opX l).F=[]
 rw [List.nil_append]
 refine flt_none fun m hm=>?_
 unfold opX at hm
 split at hm
 ·unfold nwX at hm
  split at hm
  ·have hm:m∈nwF l.queues.toNat:=hm
   rw [(List.mem_replicate.1 hm).2]
   rfl
  ·cases hm
 ·cases hm
theorem Kp.start (l:Lv):Kp (opS l) 0 1000:=⟨by rw [opS_none];exact List.nodup_nil,fun i hi=>(by rw [opS_none] at hi;cases hi),by rw [opS_none];rfl⟩
end Go.Proofs.YtlgibnmoogbdcaaGreat

namespace Go.Proofs.YtlgibnmoogbdcaaGreat
open Go.RowKit
def stB (s:St) (v u:Value):Array Value:=#[.string s.lv.name,.int .i64 s.lv.kind,.int .i64 s.lv.shares,.int .i64 s.lv.lend,.int .i64 s.lv.borrow,.int .i64 s.lv.queues,.int .i64 s.lv.hand,.int .i64 s.lv.length,.int .i64 s.lv.wait,.int .i64 s.lv.guess,.bool s.q,.int .i64 s.lim,.int .i64 s.b0,.int .i64 s.b1,.int .i64 s.b2,.int .i64 s.d0,.int .i64 s.d1,.int .u64 s.x.r,.int .i64 s.x.g,.int .i64 s.x.n,.int .i64 s.x.o,v,u]
theorem Blk.state {w:World} {b:Nat} {s:St} {v u:Value} (h:Blk w b 34 (stB s v u)) :
  (w.cell? ⟨b,0,none⟩=some (.string s.lv.name)∧w.cell? ⟨b,1,none⟩=some (.int .i64 s.lv.kind)∧w.cell? ⟨b,2,none⟩=some (.int .i64 s.lv.shares)∧w.cell? ⟨b,3,none⟩=some (.int .i64 s.lv.lend)∧w.cell? ⟨b,4,none⟩=some (.int .i64 s.lv.borrow)∧w.cell? ⟨b,5,none⟩=some (.int .i64 s.lv.queues)∧w.cell? ⟨b,6,none⟩=some (.int .i64 s.lv.hand)∧w.cell? ⟨b,7,none⟩=some (.int .i64 s.lv.length)∧w.cell? ⟨b,8,none⟩=some (.int .i64 s.lv.wait)∧w.cell? ⟨b,9,none⟩=some (.int .i64 s.lv.guess)∧w.cell? ⟨b,10,none⟩=some (.bool s.q)∧w.cell? ⟨b,11,none⟩=some (.int .i64 s.lim)∧w.cell? ⟨b,12,none⟩=some (.int .i64 s.b0)∧w.cell? ⟨b,13,none⟩=some (.int .i64 s.b1)∧w.cell? ⟨b,14,none⟩=some (.int .i64 s.b2)∧w.cell? ⟨b,15,none⟩=some (.int .i64 s.d0)∧w.cell? ⟨b,16,none⟩=some (.int .i64 s.d1)∧w.cell? ⟨b,17,none⟩=some (.int .u64 s.x.r)∧w.cell? ⟨b,18,none⟩=some (.int .i64 s.x.g)∧w.cell? ⟨b,19,none⟩=some (.int .i64 s.x.n)∧w.cell? ⟨b,20,none⟩=some (.int .i64 s.x.o)∧w.cell? ⟨b,21,none⟩=some v∧w.cell? ⟨b,22,none⟩=some u)
  ∧ w.frozen? ⟨b,0,none⟩=false∧w.frozen? ⟨b,1,none⟩=false∧w.frozen? ⟨b,2,none⟩=false∧w.frozen? ⟨b,3,none⟩=false∧w.frozen? ⟨b,4,none⟩=false∧w.frozen? ⟨b,5,none⟩=false∧w.frozen? ⟨b,6,none⟩=false∧w.frozen? ⟨b,7,none⟩=false∧w.frozen? ⟨b,8,none⟩=false∧w.frozen? ⟨b,9,none⟩=false∧w.frozen? ⟨b,10,none⟩=false∧w.frozen? ⟨b,11,none⟩=false∧w.frozen? ⟨b,12,none⟩=false∧w.frozen? ⟨b,13,none⟩=false∧w.frozen? ⟨b,14,none⟩=false∧w.frozen? ⟨b,15,none⟩=false∧w.frozen? ⟨b,16,none⟩=false∧w.frozen? ⟨b,17,none⟩=false∧w.frozen? ⟨b,18,none⟩=false∧w.frozen? ⟨b,19,none⟩=false∧w.frozen? ⟨b,20,none⟩=false∧w.frozen? ⟨b,21,none⟩=false∧w.frozen? ⟨b,22,none⟩=false :=
 ⟨⟨h.cellv 0 rfl,h.cellv 1 rfl,h.cellv 2 rfl,h.cellv 3 rfl,h.cellv 4 rfl,h.cellv 5 rfl,h.cellv 6 rfl,h.cellv 7 rfl,h.cellv 8 rfl,h.cellv 9 rfl,h.cellv 10 rfl,h.cellv 11 rfl,h.cellv 12 rfl,h.cellv 13 rfl,h.cellv 14 rfl,h.cellv 15 rfl,h.cellv 16 rfl,h.cellv 17 rfl,h.cellv 18 rfl,h.cellv 19 rfl,h.cellv 20 rfl,h.cellv 21 rfl,h.cellv 22 rfl⟩,h.frozen 0,h.frozen 1,h.frozen 2,h.frozen 3,h.frozen 4,h.frozen 5,h.frozen 6,h.frozen 7,h.frozen 8,h.frozen 9,h.frozen 10,h.frozen 11,h.frozen 12,h.frozen 13,h.frozen 14,h.frozen 15,h.frozen 16,h.frozen 17,h.frozen 18,h.frozen 19,h.frozen 20,h.frozen 21,h.frozen 22⟩
abbrev zsT:Array Value:=#[.string { data:=#[] },.int .i64 0,.int .i64 0,.int .i64 0,.int .i64 0,.int .i64 0,.int .i64 0,.int .i64 0,.int .i64 0,.int .i64 0,.bool false,.int .i64 0,.int .i64 0,.int .i64 0,.int .i64 0,.int .i64 0,.int .i64 0,.int .u64 0,.int .i64 0,.int .i64 0,.int .i64 0,.slice none 0 0,.slice none 0 0]
def TkS (S:Nat→Prop) (w:World) (a:Option Addr) (c:Nat) (L:List Tk):Prop:=L.length≤c∧(a=none→c=0)∧∀ W,Kept S w W→TkR W a L
theorem TkS.read {S:Nat→Prop} {w W:World} {a:Option Addr} {c:Nat} {L:List Tk} (h:TkS S w a c L) (k:Kept S w W):SlR W a c L:=⟨h.1,h.2.1,h.2.2 W k⟩
theorem TkS.step {S T:Nat→Prop} {w w2:World} {a:Option Addr} {c:Nat} {L:List Tk} (h:TkS S w a c L) (k:Kept S w w2) (e:∀ j,j<w.heap.size→T j→S j):TkS T w2 a c L:=⟨h.1,h.2.1,fun W kk=>h.2.2 W (k.then kk e)⟩
theorem TkS.nil (S:Nat→Prop) (w:World):TkS S w none 0 []:=⟨Nat.le_refl _,fun _=>rfl,fun W _=>TkR.nil W none⟩
theorem SlR.ts {S:Nat→Prop} {w w2:World} {a:Option Addr} {c:Nat} {L:List Tk} (h:SlR w a c L) (b:Below w.heap.size w w2) (hS:∀ j,S j→w.heap.size≤j):TkS S w2 a c L:=⟨h.1,h.2.1,fun _ k=>h.2.2.carry (b.trans (k.below b.size hS))⟩
theorem OwnT.ts {S:Nat→Prop} {w:World} {B:Nat} {v:Value} {L:List Tk} (h:OwnT w B v L) (hS:∀ j,B≤j→¬ S j):∃ a c,v=.slice a L.length c∧TkS S w a c L:=by
 obtain ⟨a,c,e,r⟩:=h.read
 refine ⟨a,c,e,r.1,r.2.1,fun W k=>?_⟩
 obtain ⟨a',c',e',r'⟩:=(h.kept k hS).read
 rw [e] at e'
 injection e' with x1 x2 x3
 subst x1
 exact r'.2.2
def StV (S:Nat→Prop) (w:World) (s:St) (e:Value):Prop:=∃ a c ar cr,e=.agg (stB s (.slice a s.x.F.length c) (.slice ar s.run.length cr))∧StR S w a c s.x.F∧TkS S w ar cr s.run
end Go.Proofs.YtlgibnmoogbdcaaGreat
