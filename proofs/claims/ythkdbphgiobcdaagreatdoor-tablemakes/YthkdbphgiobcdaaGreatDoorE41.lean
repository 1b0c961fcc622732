/-
  What the reference cuts a text into.
  The lines that the reference writes of a configuration,and what they are read as: the mathematics of 'Formed' of the reference.
  What the reference joins a list to.
  What 'digits' and 'list' of the reference answer,and how long that is.
-/
import Derived.Test.YthkdbphgiobcdaaGreatDoorE30
import Derived.Test.YthkdbphgiobcdaaGreatDoorE4
import Derived.Test.YthkdbphgiobcdaaGreatDoorE31
import Derived.Test.YthkdbphgiobcdaaGreatDoorE3
import Derived.Test.YthkdbphgiobcdaaGreatDoorE8
namespace Go.Proofs.YthkdbphgiobcdaaGreatDoor
open Go.RowKit Go.Lib
set_option maxRecDepth 20000 in
theorem rcut_ok (s:ByteArray) (c:UInt8) (ci:Int) (hci:ci=(c.toNat:Int)) (w:World) (hs:s.size≤131072) :
  Calls Tryz.prog 157 #[.string s,.int .u8 ci] w fun e w'=>∃ a cap,e=.returned (.slice a (cutB c s).length cap)∧RowL w' a (cutB c s)∧(cutB c s).length≤cap∧Below w.heap.size w w':=by
 obtain ⟨i0,hi,hz0,hz1,hz2⟩:=info_parts info9
 go_enter Tryz.func157,Tryz.ntmps157
 go_wp2
 go_loopw [5,6,7] (fun s5 s6 i wr=>∃ (k fr:Nat) (P:List ByteArray),k≤s.size∧fr≤k∧i=.int .i64 k∧s6=.int .i64 fr∧Hd (Cut c s P fr k)∧P.length≤k∧Hd (OwnT w.heap.size wr s5 P)∧Below w.heap.size w wr) (fun _ _ i _=>s.size - (intOf i).toNat)
 case atStart=>exact ⟨0,0,[],Nat.zero_le _,Nat.le_refl _,rfl,rfl,⟨Cut.start c s⟩,Nat.le_refl _,⟨⟨rfl,.inl ⟨rfl,rfl⟩⟩⟩,Below.refl _ _⟩
 case round =>
  obtain ⟨k,fr,P,hk,hfr,rfl,rfl,hC,hP,hown,p3⟩:=hrel
  have hsz:=p3.size
  by_cases hlt:k<s.size
  ·by_cases hb:s[k]=c
   ·have hC':Hd (Cut c s (P ++ [s.extract fr k]) (k+1) (k+1)):=⟨hC.out.hit hlt hb⟩
    have e1:((s[k].toNat:Int) == ci)=true:=by rw [hb,hci];simp
    clear hC hb
    generalize hx:s.extract fr k=x at *
    clear hci
    go_wp2_with (at_builtin;refine wpList_append_own _ rfl _ _ 52 rfl w.heap.size 9 i0 (.string ByteArray.empty) 1 16 Tryz.underlying52 hi hz0 hz1 hz2 rfl (by decide) _ _ _ rfl (hown.out.alloc _) ⟨wr.heap.size,0,none⟩ 1 1 [.string x] rfl rfl (one_newT _ _) (one_cellT _) (by unfold maxLen;omega) (by omega) (by simp;omega) ?_;intro v' w2 hown' hgrow _)
    have P4:Hd (Below w.heap.size w w2):=⟨(p3.alloc p3.size _).grown hgrow (by simp;omega) (fun j hj=>(hown.out.lt j hj).1)⟩
    have O4:Hd (OwnT w.heap.size w2 v' (P ++ [x])):=⟨OwnT.put hown'⟩
    clear hown' hgrow hown p3
    go_roundw
    case rel=>exact ⟨k+1,k+1,P ++ [x],by omega,by omega,by go_num,by go_num,hC',by simp;omega,O4,P4.out⟩
    case measure=>simp [intOf];omega
   ·have hC':Hd (Cut c s P fr (k+1)):=⟨hC.out.miss hlt hb⟩
    have e1:((s[k].toNat:Int) == ci)=false:=by
     rw [hci]
     cases h:((s[k].toNat:Int) == (c.toNat:Int)) with
     | false=>rfl
     | true=>exact absurd (UInt8.toNat_inj.1 (by have:=eq_of_beq h;omega)) hb
    clear hC hb hci
    go_wp2
    go_roundw
    case rel=>exact ⟨k+1,fr,P,by omega,by omega,by go_num,rfl,hC',by omega,hown,p3⟩
    case measure=>simp [intOf];omega
  ·obtain rfl:k=s.size:=by omega
   have hF:Hd (P ++ [s.extract fr s.size]=cutB c s):=⟨hC.out.fin⟩
   clear hC hci
   generalize hx:s.extract fr s.size=x at *
   go_wp2_with (at_builtin;refine wpList_append_own _ rfl _ _ 52 rfl w.heap.size 9 i0 (.string ByteArray.empty) 1 16 Tryz.underlying52 hi hz0 hz1 hz2 rfl (by decide) _ _ _ rfl (hown.out.alloc _) ⟨wr.heap.size,0,none⟩ 1 1 [.string x] rfl rfl (one_newT _ _) (one_cellT _) (by unfold maxLen;omega) (by omega) (by simp;omega) ?_;intro v' w2 hown' hgrow _)
   have P4:Hd (Below w.heap.size w w2):=⟨(p3.alloc p3.size _).grown hgrow (by simp;omega) (fun j hj=>(hown.out.lt j hj).1)⟩
   have O4:OwnT w.heap.size w2 v' (P ++ [x]):=OwnT.put hown'
   rw [hF.out] at O4
   obtain ⟨a,cap,rfl,hrow,hcap⟩:=O4.shape2
   go_ret
   exact ⟨a,cap,rfl,hrow,hcap,P4.out⟩
def some_ (L:List ByteArray) (k:Nat):List ByteArray:=(L.take k).filter fun x=>!x.toList.isEmpty
theorem some_succ {L:List ByteArray} {k:Nat} (h:k<L.length):some_ L (k+1)=some_ L k++if (gt L k).toList.isEmpty then [] else [gt L k]:=by
 unfold some_
 rw [List.take_add_one,List.getElem?_eq_getElem h,Option.toList_some,List.filter_append,gt_eq h]
 cases hb:L[k].toList.isEmpty with
 | true=>rw [if_pos rfl,List.filter_cons,hb];rfl
 | false=>rw [if_neg (by decide),List.filter_cons,hb];rfl
theorem some_all (s:ByteArray):some_ (cutB 32 s) (cutB 32 s).length=wordsB s:=by
 unfold some_ wordsB wordsL cutB
 rw [List.take_of_length_le (Nat.le_refl _),List.filter_map]
 congr 1
 apply List.filter_congr
 intro x _
 show (!(mk x).toList.isEmpty)=neL x
 rw [ByteArray.toList_eq,mk_list]
 rfl
theorem some_len (L:List ByteArray) (k:Nat):(some_ L k).length≤k:=by
 unfold some_
 refine Nat.le_trans (List.length_filter_le _ _) ?_
 rw [List.length_take]
 omega
set_option maxRecDepth 20000 in
theorem rwords_ok (s:ByteArray) (w:World) (hs:s.size≤131072) :
  Calls Tryz.prog 120 #[.string s] w fun e w'=>∃ a c,e=.returned (.slice a (wordsB s).length c)∧RowL w' a (wordsB s)∧Below w.heap.size w w':=by
 obtain ⟨i0,hi,hz0,hz1,hz2⟩:=info_parts info9
 have S:=rcut_ok s 32 32 (by decide) w hs
 have hlen:=cutB_len 32 s
 have hc:=count_le s 32
 have HE:Hd (some_ (cutB 32 s) (cutB 32 s).length=wordsB s):=⟨some_all s⟩
 generalize wordsB s=R at *
 generalize cutB 32 s=L at *
 obtain ⟨m,hm⟩:∃ m,L.length=m:=⟨_,rfl⟩
 rw [hm] at S hlen
 have HM:Hd (L.length=m):=⟨hm⟩
 have hm2:m≤131073:=by omega
 clear hlen hm hc
 go_enter Tryz.func120,Tryz.ntmps120
 go_wp2_with fail
 go_at_call 157
 refine S.mono ?_
 rintro e w1 ⟨a,cap,rfl,hr,hcap,hb⟩
 clear S
 go_wp2
 go_loopw [4,5] (fun s4 i wr=>∃ (k:Nat),k≤m∧i=.int .i64 k∧Hd (OwnT w1.heap.size wr s4 (some_ L k))∧Below w1.heap.size w1 wr) (fun _ i _=>m - (intOf i).toNat)
 case atStart=>exact ⟨0,Nat.zero_le _,rfl,⟨⟨rfl,.inl ⟨rfl,rfl⟩⟩⟩,Below.refl _ _⟩
 case round =>
  obtain ⟨k,hk,rfl,hown,p3⟩:=hrel
  have hsz:=p3.size
  by_cases hlt:k<m
  ·have hlt':k<L.length:=by rw [HM.out];exact hlt
   obtain ⟨b,off,rfl,hbl,hcs⟩:=hr (by omega)
   have hcell:=(p3.cell (p:=⟨b,off+k,none⟩) hbl).trans (hcs k hlt')
   have hS:=some_succ hlt'
   have hSl:=some_len L k
   clear hcs
   cases he:(gt L k).toList.isEmpty with
   | true =>
    rw [if_pos he,List.append_nil] at hS
    have hown':Hd (OwnT w1.heap.size wr u4 (some_ L (k+1))):=⟨by rw [hS];exact hown.out⟩
    clear hS hown
    generalize gt L k=x at *
    go_wp2_with fail
    go_roundw
    case rel=>exact ⟨k+1,by omega,by go_num,hown',p3⟩
    case measure=>simp [intOf];omega
   | false =>
    rw [if_neg (by rw [he];decide)] at hS
    have HS:Hd (some_ L (k+1)=some_ L k ++ [gt L k]):=⟨hS⟩
    clear hS
    generalize gt L k=x at *
    go_wp2_with (at_builtin;refine wpList_append_own _ rfl _ _ 52 rfl w1.heap.size 9 i0 (.string ByteArray.empty) 1 16 Tryz.underlying52 hi hz0 hz1 hz2 rfl (by decide) _ _ _ rfl (hown.out.alloc _) ⟨wr.heap.size,0,none⟩ 1 1 [.string x] rfl rfl (one_newT _ _) (one_cellT _) (by unfold maxLen;omega) (by omega) (by simp;omega) ?_;intro v' w2 hown' hgrow _)
    have P4:Hd (Below w1.heap.size w1 w2):=⟨(p3.alloc p3.size _).grown hgrow (by simp;omega) (fun j hj=>(hown.out.lt j hj).1)⟩
    have O4:Hd (OwnT w1.heap.size w2 v' (some_ L (k+1))):=⟨by rw [HS.out];exact OwnT.put hown'⟩
    clear hown' hgrow hown p3 HS
    go_roundw
    case rel=>exact ⟨k+1,by omega,by go_num,O4,P4.out⟩
    case measure=>simp [intOf];omega
  ·obtain rfl:k=m:=by omega
   have o:=hown.out
   rw [←HM.out,HE.out] at o
   obtain ⟨a4,c4,rfl,hrow⟩:=o.shape
   have O:Hd (RowL wr a4 R):=⟨hrow⟩
   clear o hrow hown hr HE
   go_wp2
   go_ret
   exact ⟨a4,c4,rfl,O.out,hb.trans (p3.mono hb.size)⟩
end Go.Proofs.YthkdbphgiobcdaaGreatDoor

namespace Go.Proofs.YthkdbphgiobcdaaGreatDoor
open Go.Lib
structure LvG (l:Lv):Prop where
 nm:l.name.size≤9223372036854775807
 i1:l.kind≤9223372036854775807
 i2:l.shares≤9223372036854775807
 i3:l.lend≤9223372036854775807
 i4:l.borrow≤9223372036854775807
 i5:l.queues≤9223372036854775807
 i6:l.hand≤9223372036854775807
 i7:l.length≤9223372036854775807
 i8:l.wait≤9223372036854775807
 i9:l.guess≤9223372036854775807
structure ScG (s:Sc):Prop where
 nm:s.name.size≤9223372036854775807
 lv:s.level.size≤9223372036854775807
 rk:s.rank≤9223372036854775807
 wy:s.way≤9223372036854775807
structure Wfc (C:Cf):Prop where
 t:C.total≤9223372036854775807
 p:C.period≤9223372036854775807
 s:C.perSeat≤9223372036854775807
 m:C.most≤9223372036854775807
 lv:∀ l∈C.levels,LvG l
 sc:∀ s∈C.schemas,ScG s
def tQ:ByteArray:=⟨#[63]⟩
def sp:ByteArray:=⟨#[32]⟩
def digR (n:Int):ByteArray:=if n<0 then tQ else digB n
def lstR (L:List ByteArray):ByteArray:=if joinB L=mk [] then tQ else joinB L
def borR (n:Int):ByteArray:=if n=-1 then tAll else digR n
def byR (n:Int):ByteArray:=if n=0 then tNone else if n=1 then tUser else if n=2 then tSpace else tQ
def pTotal:ByteArray:=⟨#[116,111,116,97,108,32]⟩
def pPeriod:ByteArray:=⟨#[112,101,114,105,111,100,32]⟩
def pSeats:ByteArray:=⟨#[115,101,97,116,115,32]⟩
def pLevel:ByteArray:=⟨#[108,101,118,101,108,32]⟩
def pSchema:ByteArray:=⟨#[115,99,104,101,109,97,32]⟩
def pRule:ByteArray:=⟨#[114,117,108,101,32]⟩
def pExempt:ByteArray:=⟨#[32,101,120,101,109,112,116]⟩
def pReject:ByteArray:=⟨#[32,114,101,106,101,99,116]⟩
def pQueue:ByteArray:=⟨#[32,113,117,101,117,101,32]⟩
def lnTotal (n:Int):ByteArray:=pTotal++digR n
def lnPeriod (n:Int):ByteArray:=pPeriod++digR n
def lnSeats (p m:Int):ByteArray:=((pSeats++digR p)++sp)++digR m
def lims (l:Lv):ByteArray:=((((sp++digR l.shares)++sp)++digR l.lend)++sp)++borR l.borrow
def lnLevel (l:Lv):ByteArray :=
 if l.kind=1 then (pLevel++l.name)++pExempt
 else if l.kind=2 then (pLevel++l.name)++(lims l++pReject)
 else if l.kind=3 then (pLevel++l.name)++((((((((((lims l++pQueue)++digR l.queues)++sp)++digR l.hand)++sp)++digR l.length)++sp)++digR l.wait)++sp)++digR l.guess)
 else pLevel++l.name
def lnSchema (s:Sc):ByteArray:=((((((pSchema++s.name)++sp)++s.level)++sp)++digR s.rank)++sp)++byR s.way
def lnRule (r:Rl):ByteArray:=((((((((pRule++lstR r.users)++sp)++lstR r.groups)++sp)++lstR r.verbs)++sp)++lstR r.resources)++sp)++lstR r.spaces
def rScL (s:Sc):List ByteArray:=lnSchema s :: s.rules.map lnRule
def rNum (C:Cf):List ByteArray :=
 (if C.total=0 then [] else [lnTotal C.total])++((if C.period=0 then [] else [lnPeriod C.period])++(if C.perSeat=0∧C.most=0 then [] else [lnSeats C.perSeat C.most]))
def rLines (C:Cf):List ByteArray:=rNum C++(C.levels.map lnLevel++C.schemas.flatMap rScL)
theorem lineL_one (x:ByteArray):lineL [x]=x.data.toList:=by unfold lineL;rw [List.map_cons,List.map_nil,join_one]
theorem lineL_cons (x y:ByteArray) (r:List ByteArray):lineL (x :: y :: r)=x.data.toList++(32 :: lineL (y :: r)):=by
 unfold lineL
 rw [List.map_cons,List.map_cons,join_cons,tail_cons,join_cons]
theorem digR_pos {n:Int} (h:0≤n):digR n=digB n:=if_neg (by omega)
theorem lit_t:pTotal.data.toList=tTotal.data.toList ++ [32]∧pPeriod.data.toList=tPeriod.data.toList ++ [32]∧pSeats.data.toList=tSeats.data.toList ++ [32]∧pLevel.data.toList=tLevel.data.toList ++ [32]∧pSchema.data.toList=tSchema.data.toList ++ [32]∧pRule.data.toList=tRule.data.toList ++ [32]∧pExempt.data.toList=32 :: tExempt.data.toList∧pReject.data.toList=32 :: tReject.data.toList∧pQueue.data.toList=32 :: (tQueue.data.toList ++ [32])∧sp.data.toList=[32]:=⟨rfl,rfl,rfl,rfl,rfl,rfl,rfl,rfl,rfl,rfl⟩
theorem f_level {l:Lv} (h:lvOk l=true):lnLevel l=mk (lineL (lvWs l)):=by
 obtain ⟨l1,l2,l3,l4,l5,l6,l7,l8,l9,l10⟩:=lit_t
 apply list_inj
 rw [mk_list]
 unfold lnLevel lvWs
 obtain ⟨-,h1 | h1 | h1⟩:=lvOk_iff.1 h
 ·rw [if_pos h1.1,if_pos h1.1]
  simp only [lineL_cons,lineL_one,cat_list,l4,l7,List.append_assoc,List.cons_append,List.nil_append]
 ·obtain ⟨k,s,-⟩:=h1
  obtain ⟨s1,s2,s3⟩:=sharesOk_iff.1 s
  have eb:borR l.borrow=borW l.borrow:=by
   unfold borR borW
   rcases s3 with e | e
   ·rw [if_pos e,if_pos e]
   ·rw [if_neg (by omega),if_neg (by omega),digR_pos e.1]
  rw [if_neg (by omega),if_pos k,if_neg (by omega),if_pos k]
  unfold lims
  rw [digR_pos s1.1,digR_pos s2.1,eb]
  simp only [lineL_cons,lineL_one,cat_list,l4,l8,l10,List.append_assoc,List.cons_append,List.nil_append]
 ·obtain ⟨k,s,q⟩:=h1
  obtain ⟨s1,s2,s3⟩:=sharesOk_iff.1 s
  obtain ⟨q1,q2,q3,q4,q5⟩:=lanesOk_iff.1 q
  have eb:borR l.borrow=borW l.borrow:=by
   unfold borR borW
   rcases s3 with e | e
   ·rw [if_pos e,if_pos e]
   ·rw [if_neg (by omega),if_neg (by omega),digR_pos e.1]
  rw [if_neg (by omega),if_neg (by omega),if_pos k,if_neg (by omega),if_neg (by omega),if_pos k]
  unfold lims
  rw [digR_pos s1.1,digR_pos s2.1,eb,digR_pos (by omega:0≤l.queues),digR_pos (by omega:0≤l.hand),digR_pos (by omega:0≤l.length),digR_pos (by omega:0≤l.wait),digR_pos (by omega:0≤l.guess)]
  simp only [lineL_cons,lineL_one,cat_list,l4,l9,l10,List.append_assoc,List.cons_append,List.nil_append]
theorem f_rule {r:Rl} (h:rlOk r=true):lnRule r=mk (lineL (rlWs r)):=by
 obtain ⟨l1,l2,l3,l4,l5,l6,l7,l8,l9,l10⟩:=lit_t
 obtain ⟨j0,j1,j2,j3,j4⟩:=rlOk_iff.1 h
 apply list_inj
 rw [mk_list]
 unfold lnRule rlWs rlJ lstR
 rw [if_neg j0,if_neg j1,if_neg j2,if_neg j3,if_neg j4]
 simp only [lineL_cons,lineL_one,cat_list,l6,l10,List.append_assoc,List.cons_append,List.nil_append]
theorem f_schema {s:Sc} (h:scOk s=true):lnSchema s=mk (lineL (scWs s)):=by
 obtain ⟨l1,l2,l3,l4,l5,l6,l7,l8,l9,l10⟩:=lit_t
 obtain ⟨-,-,k,y,-⟩:=scOk_iff.1 h
 apply list_inj
 rw [mk_list]
 unfold lnSchema scWs
 have ey:byR s.way=byW s.way:=by
  unfold byR byW
  rcases y with y | y | y <;> rw [y] <;> rfl
 rw [digR_pos (by omega),ey]
 simp only [lineL_cons,lineL_one,cat_list,l5,l10,List.append_assoc,List.cons_append,List.nil_append]
theorem f_num {C:Cf} (h:Formed C):rNum C=(numWs C).map fun ws=>mk (lineL ws):=by
 obtain ⟨l1,l2,l3,l4,l5,l6,l7,l8,l9,l10⟩:=lit_t
 have e1:lnTotal C.total=mk (lineL [tTotal,digB C.total]):=by
  apply list_inj
  rw [mk_list]
  unfold lnTotal
  rw [digR_pos h.t.1]
  simp only [lineL_cons,lineL_one,cat_list,l1,List.append_assoc,List.cons_append,List.nil_append]
 have e2:lnPeriod C.period=mk (lineL [tPeriod,digB C.period]):=by
  apply list_inj
  rw [mk_list]
  unfold lnPeriod
  rw [digR_pos h.p.1]
  simp only [lineL_cons,lineL_one,cat_list,l2,List.append_assoc,List.cons_append,List.nil_append]
 have e3:lnSeats C.perSeat C.most=mk (lineL [tSeats,digB C.perSeat,digB C.most]):=by
  apply list_inj
  rw [mk_list]
  unfold lnSeats
  have:=h.s
  rw [digR_pos (by omega),digR_pos (by omega)]
  simp only [lineL_cons,lineL_one,cat_list,l3,l10,List.append_assoc,List.cons_append,List.nil_append]
 have e4:(if C.perSeat=0∧C.most=0 then ([]:List ByteArray) else [lnSeats C.perSeat C.most])=if C.perSeat=0 then [] else [lnSeats C.perSeat C.most]:=by
  have:=h.s
  by_cases p:C.perSeat=0
  ·rw [if_pos p,if_pos ⟨p,by omega⟩]
  ·rw [if_neg p,if_neg (fun q=>p q.1)]
 unfold rNum numWs
 rw [e4,e1,e2,e3]
 by_cases a:C.total=0 <;> by_cases b:C.period=0 <;> by_cases c:C.perSeat=0 <;> simp [a,b,c]
theorem f_all {C:Cf} (h:Formed C):rLines C=(cfWs C).map fun ws=>mk (lineL ws):=by
 unfold rLines cfWs
 rw [List.map_append,List.map_append,f_num h]
 congr 2
 ·rw [List.map_map]
  apply List.map_congr_left
  intro l hl
  exact f_level (h.lv l hl)
 ·rw [List.map_flatMap]
  apply congrArg List.flatten
  apply List.map_congr_left
  intro s hs
  have h1:=h.sc s hs
  unfold rScL scLs
  rw [List.map_cons,f_schema h1,List.map_map]
  congr 1
  apply List.map_congr_left
  intro r hr
  exact f_rule ((scOk_iff.1 h1).2.2.2.2.2 r hr)
structure Head (x:ByteArray):Prop where
 ex:∃ t r,wordsB x=t :: r∧(t.data.toList.head? == some 35)=false
theorem head_of {p t r:ByteArray} (hp:p.data.toList=t.data.toList ++ [32]) (ht:(32:UInt8) ∉ t.data.toList) (hn:t.data.toList≠[]) (h5:(t.data.toList.head? == some 35)=false):Head (p++r):=by
 refine ⟨t,(wordsL r.data.toList).map mk,?_,h5⟩
 unfold wordsB
 rw [cat_list,hp,List.append_assoc,List.singleton_append,wordsL_at _ _ ht hn,List.map_cons,mk_of]
theorem cat_assoc (a b c:ByteArray):(a++b)++c=a++(b++c):=list_inj (by simp only [cat_list,List.append_assoc])
theorem head_level (l:Lv):Head (lnLevel l):=by
 have H:∀ r,Head (pLevel++r):=fun r=>head_of (t:=tLevel) rfl (by decide) (by decide) (by decide)
 unfold lnLevel
 split
 ·rw [cat_assoc];exact H _
 ·split
  ·rw [cat_assoc];exact H _
  ·split
   ·rw [cat_assoc];exact H _
   ·exact H _
theorem head_schema (s:Sc):Head (lnSchema s):=by
 unfold lnSchema
 simp only [cat_assoc]
 exact head_of (t:=tSchema) rfl (by decide) (by decide) (by decide)
theorem head_rule (r:Rl):Head (lnRule r):=by
 unfold lnRule
 simp only [cat_assoc]
 exact head_of (t:=tRule) rfl (by decide) (by decide) (by decide)
theorem head_all (C:Cf):∀ x∈rLines C,Head x:=by
 intro x hx
 unfold rLines rNum at hx
 rcases List.mem_append.1 hx with hx | hx
 ·rcases List.mem_append.1 hx with hx | hx
  ·split at hx
   ·cases hx
   ·rw [List.mem_singleton.1 hx];exact head_of (t:=tTotal) rfl (by decide) (by decide) (by decide)
  ·rcases List.mem_append.1 hx with hx | hx
   ·split at hx
    ·cases hx
    ·rw [List.mem_singleton.1 hx];exact head_of (t:=tPeriod) rfl (by decide) (by decide) (by decide)
   ·split at hx
    ·cases hx
    ·rw [List.mem_singleton.1 hx]
     unfold lnSeats
     simp only [cat_assoc]
     exact head_of (t:=tSeats) rfl (by decide) (by decide) (by decide)
 ·rcases List.mem_append.1 hx with hx | hx
  ·obtain ⟨l,-,rfl⟩:=List.mem_map.1 hx;exact head_level l
  ·obtain ⟨s,-,hx⟩:=List.mem_flatMap.1 hx
   unfold rScL at hx
   rcases List.mem_cons.1 hx with rfl | hx
   ·exact head_schema s
   ·obtain ⟨r,-,rfl⟩:=List.mem_map.1 hx;exact head_rule r
theorem ref_formed (C:Cf):(goE cf0 (rLines C)=0∧goC cf0 (rLines C)=C) ↔ formed C=true:=by
 constructor
 ·rintro ⟨h1,h2⟩
  have:=(go_formed (rLines C) cf0 formed0 h1).1
  rw [h2] at this
  exact formed_iff.2 this
 ·intro h
  have hF:=formed_iff.1 h
  have:=go_run (C:=cf0) (clean_cf hF)
  rw [←f_all hF] at this
  have hl:=leads_cf hF
  rw [this.1,this.2]
  exact hl
end Go.Proofs.YthkdbphgiobcdaaGreatDoor

namespace Go.Proofs.YthkdbphgiobcdaaGreatDoor
open Go.RowKit Go.Lib
theorem goodS_sizes {L:List ByteArray} (h:goodS L=true):L.length≤8∧∀ k,k<L.length→(gt L k).size≤64:=by
 have h':L=[mk [42]]∨Good L:=Classical.byContradiction fun hn=>by rw [goodS_no hn] at h;cases h
 clear h
 rcases h' with h | h
 ·subst h
  refine ⟨by decide,fun k hk=>?_⟩
  obtain rfl:k=0:=by simp at hk;omega
  decide
 ·exact ⟨h.1,fun k hk=>word_short (h.2 k hk).1⟩
theorem join_cases (L:List ByteArray):(goodS L=false→joinB L=mk [])∧(L=[]→joinB L=mk [45])∧(L≠[]→goodS L=true→joinB L=mk (join (L.map (·.data.toList)) [44])):=by
 refine ⟨fun h=>?_,fun h=>?_,fun h0 h=>?_⟩
 ·have h0:L≠[]:=fun e=>by
   rw [goodS_yes (.inr (by rw [e];exact ⟨by decide,fun i hi=>absurd hi (Nat.not_lt_zero _)⟩))] at h
   cases h
  have h1:L≠[mk [42]]:=fun e=>by rw [goodS_yes (.inl e)] at h;cases h
  have h2:good L=false:=by
   cases hg:good L with
   | false=>rfl
   | true=>rw [goodS_yes (.inr (good_iff.1 hg))] at h;cases h
  unfold joinB
  rw [if_neg h0,if_neg h1,h2]
  rfl
 ·unfold joinB;rw [if_pos h]
 ·unfold joinB
  rw [if_neg h0]
  by_cases h1:L=[mk [42]]
  ·rw [if_pos h1,h1];rfl
  ·rw [if_neg h1]
   have h2:good L=true:=by
    cases hg:good L with
    | true=>rfl
    | false =>
     rw [goodS_no fun g=>by
      rcases g with g | g
      ·exact h1 g
      ·rw [good_yes g] at hg;cases hg] at h
     cases h
   rw [if_pos h2]
def joinTo (L:List ByteArray) (k:Nat):List UInt8:=join ((L.take k).map (·.data.toList)) [44]
theorem joinTo_one {L:List ByteArray} (h:0<L.length):joinTo L 1=(gt L 0).data.toList:=by
 cases L with
 | nil=>simp at h
 | cons x r =>
  show join [x.data.toList] [44]=_
  rw [join_one]
  rfl
theorem joinTo_succ {L:List ByteArray} {k:Nat} (h0:1≤k) (h:k<L.length):joinTo L (k+1)=joinTo L k++(44 :: (gt L k).data.toList):=by
 cases L with
 | nil=>simp at h
 | cons x r =>
  obtain ⟨j,rfl⟩:∃ j,k=j+1:=⟨k - 1,by omega⟩
  have hj:j<r.length:=by simp at h;omega
  have hg:(r.map (·.data.toList))[j]?=some (gt (x :: r) (j+1)).data.toList:=by
   rw [List.getElem?_map,List.getElem?_eq_getElem hj,gt_eq h]
   rfl
  unfold joinTo
  rw [List.take_succ_cons,List.take_succ_cons,List.map_cons,List.map_cons,join_cons,join_cons,List.map_take,List.map_take,joinTail_take_succ [44] _ j _ hg]
  simp [List.append_assoc]
theorem joinTo_all (L:List ByteArray):joinTo L L.length=join (L.map (·.data.toList)) [44]:=by unfold joinTo;rw [List.take_of_length_le (Nat.le_refl _)]
set_option maxRecDepth 20000 in
theorem rjoin_ok (a:Option Addr) (c:Nat) (L:List ByteArray) (w:World) (hr:RowL w a L) (hS:Short L) (hn:L.length≤9223372036854775807) :
  Calls Tryz.prog 159 #[.slice a L.length c] w fun e w'=>e=.returned (.string (joinB L))∧Below w.heap.size w w':=by
 obtain ⟨j1,j2,j3⟩:=join_cases L
 have G:=rgood_ok a c L w hr hS hn
 by_cases h0:L=[]
 ·rw [j2 h0]
  have hg:goodS L=true:=goodS_yes (.inr (by rw [h0];exact ⟨by decide,fun i hi=>absurd hi (Nat.not_lt_zero _)⟩))
  rw [hg] at G
  have hz:L.length=0:=by rw [h0];rfl
  rw [hz] at G ⊢
  clear j1 j2 j3 hr hS h0 hg hz
  go_enter Tryz.func159,Tryz.ntmps159
  go_wp2_with (go_at_call 177;refine G.mono ?_;rintro e w1 ⟨rfl,hb1⟩)
  go_ret
  exact ⟨rfl,hb1⟩
 have hpos:0<L.length:=by cases L with | nil=>exact absurd rfl h0 | cons _ _=>simp
 cases hg:goodS L with
 | false =>
  rw [j1 hg]
  rw [hg] at G
  clear j1 j2 j3 hr hS hg
  generalize L.length=m at *
  go_enter Tryz.func159,Tryz.ntmps159
  go_wp2_with (go_at_call 177;refine G.mono ?_;rintro e w1 ⟨rfl,hb1⟩)
  go_ret
  exact ⟨rfl,hb1⟩
 | true =>
  rw [hg] at G
  have HR:Hd (joinB L=mk (joinTo L L.length)):=⟨by rw [joinTo_all];exact j3 h0 hg⟩
  obtain ⟨h8,h64⟩:=goodS_sizes hg
  have HW:Hd (∀ k,k<L.length→(gt L k).size≤64):=⟨h64⟩
  have hone:Hd (joinTo L 1=(gt L 0).data.toList):=⟨joinTo_one hpos⟩
  clear j1 j2 j3 hS hg h0 h64
  obtain ⟨n,hL⟩:∃ n,L.length=n:=⟨_,rfl⟩
  have HM:Hd (L.length=n):=⟨hL⟩
  obtain ⟨b,off,rfl,hb,hcs⟩:=hr hpos
  rw [hL] at G hn hpos h8 ⊢
  clear hL hr
  have hcell0:=hcs 0 (by rw [HM.out];exact hpos)
  rw [Nat.add_zero] at hcell0
  go_enter Tryz.func159,Tryz.ntmps159
  go_wp2_with fail
  go_at_call 177
  refine G.mono ?_
  rintro e w1 ⟨rfl,hb1⟩
  have hcell1:=(hb1.cell (p:=⟨b,off,none⟩) hb).trans hcell0
  clear G hcell0
  have HCS:Hd (∀ k,k<L.length→w.cell? ⟨b,off+k,none⟩=some (.string (gt L k))):=⟨hcs⟩
  clear hcs
  go_wp2_with fail
  go_loop [3,4] (fun s3 i=>∃ (k:Nat) (S:ByteArray),1≤k∧k≤n∧i=.int .i64 k∧s3=.string S∧Hd (S=mk (joinTo L k))∧S.size≤65*k) (fun _ i=>n - (intOf i).toNat)
  case atStart=>exact ⟨1,gt L 0,Nat.le_refl _,by omega,rfl,rfl,⟨by rw [hone.out,mk_of]⟩,by have:=HW.out 0 (by rw [HM.out];exact hpos);omega⟩
  case round =>
   obtain ⟨k,S,hk1,hk,rfl,rfl,hSk,hsz⟩:=hrel
   by_cases hlt:k<n
   ·have hlt':k<L.length:=by rw [HM.out];exact hlt
    have hcell:=(hb1.cell (p:=⟨b,off+k,none⟩) hb).trans (HCS.out k hlt')
    have hS':Hd (S++(⟨#[44]⟩++gt L k)=mk (joinTo L (k+1))):=⟨list_inj (by rw [cat_list,cat_list,mk_list,joinTo_succ hk1 hlt',hSk.out,mk_list];rfl)⟩
    have hx64:=HW.out k hlt'
    clear hSk HCS hcell1 hone
    obtain ⟨x,hx⟩:∃ x,gt L k=x:=⟨_,rfl⟩
    rw [hx] at hcell hS' hx64
    have c1:(⟨#[44]⟩++x:ByteArray).size≤65:=by rw [cat_size];have:(⟨#[44]⟩:ByteArray).size=1:=rfl;omega
    have c2:(S++(⟨#[44]⟩++x)).size≤65*(k+1):=by rw [cat_size];omega
    have HZ:Hd ((S++(⟨#[44]⟩++x)).size≤65*(k+1)):=⟨c2⟩
    clear hx
    go_wp2_with fail
    go_round
    case rel=>exact ⟨k+1,S++(⟨#[44]⟩++x),by omega,by omega,by go_num,rfl,hS',HZ.out⟩
    case measure=>simp [intOf];omega
   ·obtain rfl:k=n:=by omega
    have hE:Hd (joinB L=S):=⟨by rw [HR.out,HM.out,hSk.out]⟩
    clear hSk HCS hcell1 hone HR
    go_wp2_with fail
    go_ret
    exact ⟨by rw [hE.out];rfl,hb1⟩
theorem rdig_ok (n:Int) (w:World) (h:n≤9223372036854775807):Calls Tryz.prog 121 #[.int .i64 n] w fun e w'=>e=.returned (.string (digR n))∧Below w.heap.size w w':=by
 by_cases hn:n<0
 ·have e:digR n=tQ:=if_pos hn
  have q:decide (n<0)=true:=decide_eq_true hn
  rw [e]
  clear e hn
  unfold tQ
  go_enter Tryz.func121,Tryz.ntmps121
  go_wp2_with fail
  go_ret
  exact ⟨rfl,Below.refl _ _⟩
 ·have e:digR n=digB n:=if_neg hn
  have q:decide (n<0)=false:=decide_eq_false hn
  have D:=rdigits_ok n w h
  rw [e]
  clear e hn
  generalize digB n=x at *
  go_enter Tryz.func121,Tryz.ntmps121
  go_wp2_with (go_at_call 158;refine D.mono ?_;rintro e w' ⟨rfl,hb⟩)
  go_ret
  exact ⟨rfl,hb⟩
theorem rlst_ok (v:Value) (L:List ByteArray) (w:World) (h:LsR w v L):Calls Tryz.prog 122 #[v] w fun e w'=>e=.returned (.string (lstR L))∧Below w.heap.size w w':=by
 obtain ⟨a,c,rfl,hr,hc,hn,hs⟩:=h
 have D:=rjoin_ok a c L w hr (fun k hk=>hs _ (gt_mem hk)) hn
 clear hr hc hs hn
 generalize L.length=m at *
 have hj:(joinB L).toList.isEmpty=decide (joinB L=mk []):=by
  have:=name_eq (joinB L) (mk [])
  rw [←this,ByteArray.toList_eq (mk [])]
  cases (joinB L).toList <;> rfl
 by_cases he:joinB L=mk []
 ·have e:lstR L=tQ:=if_pos he
  rw [decide_eq_true he] at hj
  rw [e]
  clear e he
  unfold tQ
  generalize joinB L=x at *
  go_enter Tryz.func122,Tryz.ntmps122
  go_wp2_with (go_at_call 159;refine D.mono ?_;rintro e w' ⟨rfl,hb⟩)
  go_ret
  exact ⟨rfl,hb⟩
 ·have e:lstR L=joinB L:=if_neg he
  rw [decide_eq_false he] at hj
  rw [e]
  clear e he
  generalize joinB L=x at *
  go_enter Tryz.func122,Tryz.ntmps122
  go_wp2_with (go_at_call 159;refine D.mono ?_;rintro e w' ⟨rfl,hb⟩)
  go_ret
  exact ⟨rfl,hb⟩
theorem dig_le (n:Int) (h:n≤9223372036854775807):(digR n).size≤20:=by
 unfold digR
 split
 ·decide
 ·rw [digB_size]
  have:=dec19 (N:=(max n 0).toNat) (by omega)
  omega
theorem bor_le (n:Int) (h:n≤9223372036854775807):(borR n).size≤20:=by
 unfold borR
 split
 ·decide
 ·exact dig_le n h
theorem by_le (n:Int):(byR n).size≤20:=by
 unfold byR
 split
 ·decide
 ·split
  ·decide
  ·split <;> decide
theorem lst_le (L:List ByteArray):(lstR L).size≤600:=by
 unfold lstR
 split
 ·decide
 ·rename_i hne
  by_cases h0:L=[]
  ·subst h0;decide
  by_cases h1:L=[mk [42]]
  ·subst h1
   have:joinB [mk [42]]=mk [42]:=by unfold joinB;rw [if_neg (by simp),if_pos rfl]
   rw [this];decide
  have hg:good L=true:=by
   cases hg:good L with
   | true=>rfl
   | false =>
    refine absurd ?_ hne
    unfold joinB
    rw [if_neg h0,if_neg h1,hg]
    rfl
  have hG:=good_iff.1 hg
  have e:joinB L=mk (join (L.map (·.data.toList)) [44]):=by unfold joinB;rw [if_neg h0,if_neg h1,if_pos hg]
  rw [e,mk_size]
  have hw:=good_words hG
  obtain ⟨x,r,rfl⟩:∃ x r,L=x :: r:=by
   cases L with
   | nil=>exact absurd rfl h0
   | cons x r=>exact ⟨x,r,rfl⟩
  rw [List.map_cons,join_cons,List.length_append]
  have t1:=tail_len 44 (r.map (·.data.toList)) (fun y hy=>by
   obtain ⟨z,hz,rfl⟩:=List.mem_map.1 hy
   rw [size_list]
   exact word_short (hw z (List.mem_cons_of_mem _ hz)))
  have t2:=word_short (hw x (List.mem_cons_self ..))
  have t3:(x :: r).length≤8:=hG.1
  rw [List.length_map] at t1
  rw [size_list]
  simp at t3
  omega
end Go.Proofs.YthkdbphgiobcdaaGreatDoor
