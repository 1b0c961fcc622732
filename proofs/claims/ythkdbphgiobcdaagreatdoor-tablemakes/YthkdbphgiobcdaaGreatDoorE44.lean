/-
  The reference's words,and what was built of them,as it is read.
  'Same' of the reference at lists of texts,whatever they are.
-/
import Derived.Test.YthkdbphgiobcdaaGreatDoorE40
import Derived.Test.YthkdbphgiobcdaaGreatDoorE41
import Derived.Test.YthkdbphgiobcdaaGreatDoorE43
import Derived.Test.YthkdbphgiobcdaaGreatDoorE14
import Derived.Test.YthkdbphgiobcdaaGreatDoorE17
namespace Go.Proofs.YthkdbphgiobcdaaGreatDoor
open Go.RowKit Go.Lib
theorem words_count (c:UInt8):∀ l:List UInt8,((cutL c l).filter neL).length≤l.length
 | []=>by simp [cutL,neL]
 | b :: l=>by
  have ih:=words_count c l
  unfold cutL
  split
  ·rw [List.filter_cons]
   simp [neL] at ih ⊢
   omega
  ·cases hc:cutL c l with
   | nil=>exact absurd hc (cutL_ne c l)
   | cons h t =>
    rw [hc,List.filter_cons] at ih
    rw [List.filter_cons]
    simp only [List.headD_cons,List.tail_cons,List.length_cons]
    split at ih <;> simp_all [neL] <;> omega
theorem words_len (s:ByteArray):(wordsB s).length≤s.size:=by
 unfold wordsB
 rw [List.length_map,← size_list]
 exact words_count 32 _
theorem words_mem {s x:ByteArray} (h:x∈wordsB s):0<x.size∧x.size≤s.size:=by
 unfold wordsB wordsL at h
 obtain ⟨l,hl,rfl⟩:=List.mem_map.1 h
 obtain ⟨h1,h2⟩:=List.mem_filter.1 hl
 have h3:=piece_le 32 _ l h1
 rw [size_list] at h3
 rw [←size_list,mk_list]
 refine ⟨?_,h3⟩
 cases l with
 | nil=>simp [neL] at h2
 | cons _ _=>simp
theorem words_sh (s:ByteArray) (hs:s.size≤65536) (k:Nat):(gt (wordsB s) k).size≤65536:=by
 rcases Nat.lt_or_ge k (wordsB s).length with h | h
 ·have:=(words_mem (gt_mem h)).2
  omega
 ·unfold gt
  rw [List.getD_eq_getElem?_getD,List.getElem?_eq_none h]
  exact Nat.zero_le _
theorem fit0:Fit cf0:=⟨by decide,by decide⟩
theorem addRule_len (r:Rl):∀ l:List Sc,(addRule r l).length=l.length
 | []=>rfl
 | [_]=>rfl
 | _ :: b :: l=>by
  have:=addRule_len r (b :: l)
  show (addRule r (b :: l)).length+1=_
  rw [this]
  rfl
theorem fit_line {C:Cf} {ws:List ByteArray} (h:Fit C) (hE:lineE C ws=0):Fit (lineC C ws):=by
 unfold lineE at hE
 unfold lineC
 split at hE
 ·rename_i hs;rw [if_pos hs];exact h
 ·rename_i hs
  rw [if_neg hs]
  unfold tellE at hE
  unfold tellC
  obtain ⟨h1,h2⟩:=h
  split at hE
  ·rename_i h;rw [if_pos h];exact ⟨h1,h2⟩
  ·rename_i h;rw [if_neg h]
   split at hE
   ·rename_i h;rw [if_pos h];exact ⟨h1,h2⟩
   ·rename_i h;rw [if_neg h]
    split at hE
    ·rename_i h;rw [if_pos h];exact ⟨h1,h2⟩
    ·rename_i h;rw [if_neg h]
     split at hE
     ·rename_i h;rw [if_pos h]
      have:=of_decide_eq_true ((ifE_eq_zero (by decide)).1 (mu_eq_zero.1 hE).2)
      refine ⟨?_,h2⟩
      show (C.levels ++ [_]).length≤16
      rw [List.length_append]
      show C.levels.length+1≤16
      omega
     ·rename_i h;rw [if_neg h]
      split at hE
      ·rename_i h;rw [if_pos h]
       have:=of_decide_eq_true ((ifE_eq_zero (by decide)).1 (mu_eq_zero.1 hE).2)
       refine ⟨h1,?_⟩
       show (C.schemas ++ [_]).length≤32
       rw [List.length_append]
       show C.schemas.length+1≤32
       omega
      ·rename_i h;rw [if_neg h]
       refine ⟨h1,?_⟩
       show (addRule _ C.schemas).length≤32
       rw [addRule_len]
       exact h2
theorem go_step0 {C:Cf} {L:List ByteArray} {k:Nat} (hk:k<L.length) (h:lineE C (wordsB (gt L k))=0) :
  goE C (L.drop k)=goE (lineC C (wordsB (gt L k))) (L.drop (k+1))∧goC C (L.drop k)=goC (lineC C (wordsB (gt L k))) (L.drop (k+1))∧goL C k (L.drop k)=goL (lineC C (wordsB (gt L k))) (k+1) (L.drop (k+1)):=by
 rw [gt_eq hk] at h ⊢
 rw [List.drop_eq_getElem_cons hk]
 refine ⟨?_,?_,?_⟩
 ·show (if _ then _ else _)=_;rw [if_pos h]
 ·show (if _ then _ else _)=_;rw [if_pos h]
 ·show (if _ then _ else _)=_;rw [if_pos h]
theorem go_step1 {C:Cf} {L:List ByteArray} {k:Nat} (hk:k<L.length) (h:lineE C (wordsB (gt L k))≠0) :
  goE C (L.drop k)=lineE C (wordsB (gt L k))∧goC C (L.drop k)=cf0∧goL C k (L.drop k)=k+1:=by
 rw [gt_eq hk] at h ⊢
 rw [List.drop_eq_getElem_cons hk]
 refine ⟨?_,?_,?_⟩
 ·show (if _ then _ else _)=_;rw [if_neg h]
 ·show (if _ then _ else _)=_;rw [if_neg h]
 ·show (if _ then _ else _)=_;rw [if_neg h]
theorem rls_at {B:Nat} {w:World} : ∀ (cs:List Value) (rs:List Rl),RlsV B w cs rs→∀ k (h:k<rs.length),∃ v0 v1 v2 v3 v4,(cs[k*5]?=some v0∧cs[k*5+1]?=some v1∧cs[k*5+2]?=some v2∧cs[k*5+3]?=some v3∧cs[k*5+4]?=some v4) ∧
  Lst B w v0 rs[k].users∧Lst B w v1 rs[k].groups∧Lst B w v2 rs[k].verbs∧Lst B w v3 rs[k].resources∧Lst B w v4 rs[k].spaces
 | _,[],_,k,h=>by simp at h
 | _,r :: rs,⟨c,cs',e,⟨v0,v1,v2,v3,v4,ec,h0,h1,h2,h3,h4⟩,ht⟩,0,_=>by
  subst e ec
  exact ⟨v0,v1,v2,v3,v4,⟨rfl,rfl,rfl,rfl,rfl⟩,h0,h1,h2,h3,h4⟩
 | _,r :: rs,⟨c,cs',e,⟨v0,v1,v2,v3,v4,ec,_⟩,ht⟩,k+1,h=>by
  subst e ec
  obtain ⟨u0,u1,u2,u3,u4,⟨e0,e1,e2,e3,e4⟩,r⟩:=rls_at cs' rs ht k (by simpa using h)
  refine ⟨u0,u1,u2,u3,u4,⟨?_,?_,?_,?_,?_⟩,r⟩
  ·rw [List.getElem?_append_right (by simp;omega),show (k+1)*5 - [v0,v1,v2,v3,v4].length=k*5 by simp;omega];exact e0
  ·rw [List.getElem?_append_right (by simp;omega),show (k+1)*5+1 - [v0,v1,v2,v3,v4].length=k*5+1 by simp;omega];exact e1
  ·rw [List.getElem?_append_right (by simp;omega),show (k+1)*5+2 - [v0,v1,v2,v3,v4].length=k*5+2 by simp;omega];exact e2
  ·rw [List.getElem?_append_right (by simp;omega),show (k+1)*5+3 - [v0,v1,v2,v3,v4].length=k*5+3 by simp;omega];exact e3
  ·rw [List.getElem?_append_right (by simp;omega),show (k+1)*5+4 - [v0,v1,v2,v3,v4].length=k*5+4 by simp;omega];exact e4
theorem rl_row {B:Nat} {w:World} {v:Value} {rs:List Rl} (h:RlOwn B w v rs):∃ a c,v=.slice a rs.length c∧rs.length≤maxLen∧(0<rs.length→∃ g,a=some ⟨g,0,none⟩∧g<w.heap.size∧∀ k (hk:k<rs.length),∃ v0 v1 v2 v3 v4,
  (w.cell? ⟨g,k*5,none⟩=some v0∧w.cell? ⟨g,k*5+1,none⟩=some v1∧w.cell? ⟨g,k*5+2,none⟩=some v2∧w.cell? ⟨g,k*5+3,none⟩=some v3∧w.cell? ⟨g,k*5+4,none⟩=some v4) ∧
  Lst B w v0 rs[k].users∧Lst B w v1 rs[k].groups∧Lst B w v2 rs[k].verbs∧Lst B w v3 rs[k].resources∧Lst B w v4 rs[k].spaces):=by
 obtain ⟨cs,ho,hr⟩:=h
 rcases id ho.2 with ⟨rfl,e⟩ | ⟨g,cap,cur,rfl,hb,hg,hc,hm,r⟩
 ·refine ⟨none,0,by rw [e],by unfold maxLen;omega,fun h=>by omega⟩
 ·refine ⟨some ⟨g,0,none⟩,cap,rfl,by omega,fun _=>⟨g,rfl,(ho.lt g rfl).2,fun k hk=>?_⟩⟩
  obtain ⟨v0,v1,v2,v3,v4,⟨e0,e1,e2,e3,e4⟩,r⟩:=rls_at cs rs hr k hk
  exact ⟨v0,v1,v2,v3,v4,⟨(ho.cellAt _ (by omega)).trans e0,(ho.cellAt _ (by omega)).trans e1,(ho.cellAt _ (by omega)).trans e2,(ho.cellAt _ (by omega)).trans e3,(ho.cellAt _ (by omega)).trans e4⟩,r⟩
theorem join_words {L:List ByteArray} (h:joinB L≠mk []):∀ x∈L,x.size≤64:=by
 unfold joinB at h
 by_cases h0:L=[]
 ·rw [h0];intro x hx;cases hx
 rw [if_neg h0] at h
 by_cases h1:L=[mk [42]]
 ·rw [h1];intro x hx;rw [List.mem_singleton.1 hx];decide
 rw [if_neg h1] at h
 cases hg:good L with
 | false=>rw [hg] at h;exact absurd rfl h
 | true=>exact fun x hx=>word_short (good_words (good_iff.1 hg) x hx)
theorem Lst.read {B:Nat} {w:World} {v:Value} {L:List ByteArray} (h:Lst B w v L) (hj:joinB L≠mk []):LsR w v L:=by
 obtain ⟨a,c,e,hr,hc,hl⟩:=h
 exact ⟨a,c,e,hr.row,hc,by omega,fun x hx=>by have:=join_words hj x hx;omega⟩
theorem RlOwn.read {B:Nat} {w:World} {v:Value} {rs:List Rl} (h:RlOwn B w v rs) (ho:∀ r∈rs,rlOk r=true):RlR w v rs:=by
 obtain ⟨a,c,e,hl,hr⟩:=rl_row h
 refine ⟨a,c,e,by unfold maxLen at hl;omega,fun hn=>?_⟩
 obtain ⟨g,rfl,hg,hc⟩:=hr hn
 refine ⟨g,0,rfl,hg,fun k hk=>?_⟩
 obtain ⟨v0,v1,v2,v3,v4,⟨h0,h1,h2,h3,h4⟩,l0,l1,l2,l3,l4⟩:=hc k hk
 obtain ⟨j0,j1,j2,j3,j4⟩:=rlOk_iff.1 (ho rs[k] (List.getElem_mem hk))
 simp only [Nat.zero_add]
 exact ⟨v0,v1,v2,v3,v4,⟨h0,h1,h2,h3,h4⟩,l0.read j0,l1.read j1,l2.read j2,l3.read j3,l4.read j4⟩
theorem CfV.read {B:Nat} {w:World} {v:Value} {C:Cf} (h:CfV B w v C) (hF:Formed C):CfR w v C:=by
 obtain ⟨vL,vS,V,rfl,hL,hS⟩:=h
 obtain ⟨aL,cL,eL⟩:=own_form hL
 obtain ⟨aS,cS,eS⟩:=own_form hS.own
 subst eL eS
 have n1:=hF.nl
 have n2:=hF.ns
 have capL:C.levels.length≤cL:=by
  rcases hL.2 with ⟨e,e2⟩ | ⟨g,cap,cur,e,_,_,hc,_⟩
  ·omega
  ·injection e with _ _ e3;omega
 have capS:C.schemas.length≤cS:=by
  rcases hS.own.2 with ⟨e,e2⟩ | ⟨g,cap,cur,e,_,_,hc,_⟩
  ·omega
  ·injection e with _ _ e3;omega
 refine ⟨⟨by omega,by omega⟩,⟨fun l hl=>by have:=name_short (lvOk_iff.1 (hF.lv l hl)).1;omega,fun s hs=>by
  have h1:=scOk_iff.1 (hF.sc s hs)
  have:=name_short h1.1
  have:=name_short h1.2.1
  omega⟩,aL,cL,aS,cS,V,rfl,capL,capS,fun hn=>?_,hS.len,fun hn=>?_,fun k h1 h2=>?_⟩
 ·obtain ⟨g,rfl,hg,hc⟩:=lv_rd hL hn
  exact ⟨g,0,rfl,hg,fun k hk j hj=>by rw [Nat.zero_add];exact hc k hk j hj⟩
 ·obtain ⟨g,rfl,hg,hc⟩:=sc_rd hS hn
  exact ⟨g,0,rfl,hg,fun k hk hk' j hj=>by rw [Nat.zero_add];exact hc k hk hk' j hj⟩
 ·exact (hS.rls k h1 h2).read (scOk_iff.1 (hF.sc _ (List.getElem_mem h1))).2.2.2.2.2
theorem lims_le {l:Lv} (g:LvG l):(lims l).size≤63:=by
 have:=dig_le l.shares g.i2
 have:=dig_le l.lend g.i3
 have:=bor_le l.borrow g.i4
 unfold lims
 simp only [cat_size,show sp.size=1 from rfl]
 omega
theorem lvl_le {l:Lv} (g:LvG l) (h:l.name.size≤1000):(lnLevel l).size≤9000:=by
 have:=lims_le g
 have:=dig_le l.queues g.i5
 have:=dig_le l.hand g.i6
 have:=dig_le l.length g.i7
 have:=dig_le l.wait g.i8
 have:=dig_le l.guess g.i9
 unfold lnLevel
 split
 ·simp only [cat_size,show pLevel.size=6 from rfl,show pExempt.size=7 from rfl];omega
 ·split
  ·simp only [cat_size,show pLevel.size=6 from rfl,show pReject.size=7 from rfl];omega
  ·split
   ·simp only [cat_size,show pLevel.size=6 from rfl,show pQueue.size=7 from rfl,show sp.size=1 from rfl];omega
   ·simp only [cat_size,show pLevel.size=6 from rfl];omega
theorem sch_le {s:Sc} (g:ScG s) (h:s.name.size≤1000∧s.level.size≤1000):(lnSchema s).size≤9000:=by
 have:=dig_le s.rank g.rk
 have:=by_le s.way
 unfold lnSchema
 simp only [cat_size,show pSchema.size=7 from rfl,show sp.size=1 from rfl]
 omega
theorem rul_le (r:Rl):(lnRule r).size≤9000:=by
 have:=lst_le r.users
 have:=lst_le r.groups
 have:=lst_le r.verbs
 have:=lst_le r.resources
 have:=lst_le r.spaces
 unfold lnRule
 simp only [cat_size,show pRule.size=5 from rfl,show sp.size=1 from rfl]
 omega
theorem lin_le {C:Cf} (g:Wfc C) (nm:Nms C):∀ x∈rLines C,x.size≤9000:=by
 intro x hx
 have:=dig_le C.total g.t
 have:=dig_le C.period g.p
 have:=dig_le C.perSeat g.s
 have:=dig_le C.most g.m
 unfold rLines rNum at hx
 rcases List.mem_append.1 hx with hx | hx
 ·rcases List.mem_append.1 hx with hx | hx
  ·split at hx
   ·cases hx
   ·rw [List.mem_singleton.1 hx];unfold lnTotal;simp only [cat_size,show pTotal.size=6 from rfl];omega
  ·rcases List.mem_append.1 hx with hx | hx
   ·split at hx
    ·cases hx
    ·rw [List.mem_singleton.1 hx];unfold lnPeriod;simp only [cat_size,show pPeriod.size=7 from rfl];omega
   ·split at hx
    ·cases hx
    ·rw [List.mem_singleton.1 hx];unfold lnSeats;simp only [cat_size,show pSeats.size=6 from rfl,show sp.size=1 from rfl];omega
 ·rcases List.mem_append.1 hx with hx | hx
  ·obtain ⟨l,hl,rfl⟩:=List.mem_map.1 hx
   exact lvl_le (g.lv l hl) (nm.lv l hl)
  ·obtain ⟨s,hs,hx⟩:=List.mem_flatMap.1 hx
   rcases List.mem_cons.1 hx with rfl | hx
   ·exact sch_le (g.sc s hs) (nm.sc s hs)
   ·obtain ⟨r,hr,rfl⟩:=List.mem_map.1 hx
    exact rul_le r
theorem Blk.six {w:World} {b:Nat} {v0 v1 v2 v3 v4 v5:Value} (h:Blk w b 25 #[v0,v1,v2,v3,v4,v5]) :
  (w.cell? ⟨b,0,none⟩=some v0∧w.cell? ⟨b,1,none⟩=some v1∧w.cell? ⟨b,2,none⟩=some v2∧w.cell? ⟨b,3,none⟩=some v3∧w.cell? ⟨b,4,none⟩=some v4∧w.cell? ⟨b,5,none⟩=some v5)
  ∧ w.frozen? ⟨b,0,none⟩=false∧w.frozen? ⟨b,1,none⟩=false∧w.frozen? ⟨b,2,none⟩=false∧w.frozen? ⟨b,3,none⟩=false∧w.frozen? ⟨b,4,none⟩=false∧w.frozen? ⟨b,5,none⟩=false :=
 ⟨⟨h.cellv 0 rfl,h.cellv 1 rfl,h.cellv 2 rfl,h.cellv 3 rfl,h.cellv 4 rfl,h.cellv 5 rfl⟩,h.frozen 0,h.frozen 1,h.frozen 2,h.frozen 3,h.frozen 4,h.frozen 5⟩
theorem own_rowY {B:Nat} {w:World} {v:Value} {L:List ByteArray} (h:OwnT B w v L):∃ a c,v=.slice a L.length c∧RowY B w a L∧L.length≤9223372036854775807:=by
 have hl:L.length≤9223372036854775807:=own_len h
 have h':w.ownsRow B 9 1 v L.length (L.map Value.string):=h
 rcases id h'.2 with ⟨rfl,e⟩ | ⟨g,cap,cur,rfl,_⟩
 ·have:L=[]:=List.length_eq_zero_iff.1 e
  subst this
  exact ⟨none,0,rfl,RowY.nil _ _ _,by simp⟩
 ·exact ⟨_,cap,rfl,row_ownedY h',hl⟩
end Go.Proofs.YthkdbphgiobcdaaGreatDoor

namespace Go.Proofs.YthkdbphgiobcdaaGreatDoor
open Go.RowKit
theorem gt_ext {L M:List ByteArray} (hl:L.length=M.length) (h:∀ j,j<L.length→gt L j=gt M j):L=M:=by
 apply List.ext_getElem hl
 intro k h1 h2
 have:=h k h1
 rw [gt_eq h1,gt_eq h2] at this
 exact this
theorem sameL_dec (a b:Option Addr) (c1 c2:Nat) (L M:List ByteArray) (w:World) (h1:RowL w a L) (h2:RowL w b M) (hn:L.length≤9223372036854775807) :
  Calls Tryz.prog 74 #[.slice a L.length c1,.slice b M.length c2] w fun e w'=>e=.returned (.bool (decide (L=M)))∧∃ m,w'=w.drewN m:=by
 by_cases hl:L.length=M.length
 ·obtain ⟨n,hL⟩:∃ n,L.length=n:=⟨_,rfl⟩
  have hM:M.length=n:=by rw [←hl];exact hL
  rw [hL] at hn
  have g1:0<n→∃ b off,a=some ⟨b,off,none⟩∧b<w.heap.size∧∀ k,k<n→w.cell? ⟨b,off+k,none⟩=some (.string (gt L k)):=by rw [←hL];exact h1
  have g2:0<n→∃ c off,b=some ⟨c,off,none⟩∧c<w.heap.size∧∀ k,k<n→w.cell? ⟨c,off+k,none⟩=some (.string (gt M k)):=by rw [←hM];exact h2
  have HE:Hd ((∀ j,j<n→gt L j=gt M j)→decide (L=M)=true):=⟨fun h=>decide_eq_true (gt_ext hl (by rw [hL];exact h))⟩
  have HNE:Hd (∀ j,gt L j≠gt M j→decide (L=M)=false):=⟨fun j h=>decide_eq_false (fun e=>h (by rw [e]))⟩
  rw [hL,hM]
  clear h1 h2 hL hM hl
  generalize decide (L=M)=bb at *
  go_enter Tryz.func74,Tryz.ntmps74
  go_wp2
  go_loopw [5] (fun i wr=>∃ k m:Nat,k≤n∧i=.int .i64 k∧wr=w.drewN m∧Hd (∀ j,j<k→gt L j=gt M j)) (fun i _=>n - (intOf i).toNat)
  case atStart=>exact ⟨0,0,Nat.zero_le _,rfl,rfl,⟨fun j h=>absurd h (Nat.not_lt_zero _)⟩⟩
  case round =>
   obtain ⟨k,m,hk,rfl,rfl,hq⟩:=hrel
   by_cases hlt:k<n
   ·obtain ⟨b1,o1,rfl,hb1,hc1⟩:=g1 (by omega)
    obtain ⟨b2,o2,rfl,hb2,hc2⟩:=g2 (by omega)
    have d1:=hc1 k hlt
    have d2:=hc2 k hlt
    have HK:Hd (k<n):=⟨hlt⟩
    by_cases hx:gt L k=gt M k
    ·have NX:Hd (∀ j,j<k+1→gt L j=gt M j):=⟨fun j hj=>by
      rcases Nat.lt_or_eq_of_le (Nat.le_of_lt_succ hj) with h | h
      ·exact hq.out j h
      ·subst h;exact hx⟩
     rw [←hx] at d2
     clear g1 g2 hc1 hc2 hx hq
     generalize gt L k=x at *
     go_wp2
     go_quiet (fail)
     go_wp2
     go_roundw
     case rel=>exact ⟨k+1,_,HK.out,by go_num,rfl,NX⟩
     case measure=>have:=HK.out;simp [intOf];omega
    ·have HF:Hd (bb=false):=⟨HNE.out k hx⟩
     have q:=str_isnt hx
     clear g1 g2 hc1 hc2 hx hq
     generalize gt L k=x at *
     generalize gt M k=y at *
     have q2:(!(x.toList == y.toList))=true:=by rw [q];rfl
     go_wp2
     go_quiet (fail)
     go_wp2
     go_ret
     exact ⟨by rw [HF.out];rfl,_,World.drewN_drewN ..⟩
   ·obtain rfl:k=n:=by omega
    have HTT:Hd (bb=true):=⟨HE.out hq.out⟩
    clear g1 g2
    go_wp2
    go_ret
    exact ⟨by rw [HTT.out];rfl,m,rfl⟩
 ·have HF:Hd (decide (L=M)=false):=⟨decide_eq_false (fun e=>hl (by rw [e]))⟩
  generalize decide (L=M)=bb at *
  generalize L.length=n at *
  generalize M.length=m at *
  clear h1 h2
  go_enter Tryz.func74,Tryz.ntmps74
  go_wp2
  go_ret
  exact ⟨by rw [HF.out];rfl,0,rfl⟩
theorem lsr_dec {w:World} {v v':Value} {L M:List ByteArray} (h:LsR w v L) (h':LsR w v' M) (m q:Nat) :
  Calls Tryz.prog 74 #[v,v'] ((w.drewN m).drewN q) fun e w'=>e=.returned (.bool (decide (L=M)))∧∃ k,w'=((w.drewN m).drewN q).drewN k:=by
 rw [World.drewN_drewN]
 obtain ⟨a,c,rfl,hr,-,hl,-⟩:=h
 obtain ⟨a',c',rfl,hr',-,-,-⟩:=h'
 exact sameL_dec a a' c c' L M (w.drewN (m+q)) (fun hn=>hr hn) (fun hn=>hr' hn) hl
theorem lsr_shape {w:World} {v:Value} {L:List ByteArray} (h:LsR w v L):∃ a c,v=.slice a L.length c:=by
 obtain ⟨a,c,e,-⟩:=h
 exact ⟨a,c,e⟩
end Go.Proofs.YthkdbphgiobcdaaGreatDoor
