/-
  What 'Number' of the program answers.
  What a configuration's lines tell: the mathematics of 'conf.Parse'.
  That strings.Split's and strings.FieldsFunc's pieces are these.
  The bodies of strings.Join's and strconv.Itoa's functions,as they lie in this program,are those over which the library's theorems on them are stated.
  The texts' type in this program;pieces of a text.
  Lists of texts in memory of their own;texts put together.
  Numbers and their digits.
-/
import Derived.Test.YthkdbphgiobcdaaGreatDoorE0
import Derived.Lib.FieldsP
import Derived.Lib.SplitLaws
import Derived.Lib.Split
import Derived.Test.YthkdbphgiobcdaaGreatDoorRows
import Derived.Shelf.Strings.OnBuilder
import Derived.Ground.NamesProg
import Derived.Laws.AppendOwnNone
import Derived.Deep.AppendLies
import Derived.Deep.SlicePairs
import Derived.Lib.Join
import Derived.Lib.ItoaNum
namespace Go.Proofs.YthkdbphgiobcdaaGreatDoor
open Go.RowKit
def valL (l:List UInt8):Nat:=l.foldl (fun n b=>n*10+(b.toNat - 48)) 0
def valTo (s:ByteArray) (k:Nat):Nat:=valL (s.data.toList.take k)
theorem valTo_zero (s:ByteArray):valTo s 0=0:=by unfold valTo;rw [List.take_zero];rfl
theorem valTo_succ (s:ByteArray) (k:Nat) (h:k<s.size):valTo s (k+1)=valTo s k*10+(s[k].toNat - 48):=by
 unfold valTo valL
 rw [List.take_add_one,byte_at s k h,Option.toList_some,List.foldl_append]
 rfl
theorem valTo_all (s:ByteArray):valTo s s.size=valL s.data.toList:=by
 unfold valTo
 rw [List.take_of_length_le (by rw [Array.length_toList];exact Nat.le_refl _)]
theorem valTo_lt (s:ByteArray) (hd:allB isDigit s=true):∀ k,k≤s.size→valTo s k<10 ^ k
 | 0,_=>by rw [valTo_zero];decide
 | k+1,h=>by
  have ih:=valTo_lt s hd k (by omega)
  have:=(allB_iff _ _).1 hd k (by omega)
  unfold isDigit at this
  have hb:s[k].toNat - 48≤9:=by simp at this;omega
  rw [valTo_succ s k (by omega),Nat.pow_succ]
  omega
def isNum (s:ByteArray):Bool:=!(decide (9<s.size) || (!(allB isDigit s && !decide (s.size=0)) || (if h:1<s.size then (s[0].toNat:Int) == 48 else false)))
def numIn (s:ByteArray) (least most:Int):Bool:=isNum s && (decide (least≤(valL s.data.toList:Int)) && decide ((valL s.data.toList:Int)≤most))
def numOf (s:ByteArray) (least most:Int):Int:=if numIn s least most then (valL s.data.toList:Int) else 0
theorem isNum_parts {s:ByteArray} (h:isNum s=true):s.size≤9∧allB isDigit s=true∧1≤s.size∧∀ h1:1<s.size,((s[0].toNat:Int) == 48)=false:=by
 unfold isNum at h
 simp only [Bool.not_eq_true',Bool.or_eq_false_iff,decide_eq_false_iff_not,Bool.not_eq_false',Bool.and_eq_true] at h
 obtain ⟨h1,⟨h2,h3⟩,h4⟩:=h
 refine ⟨by omega,h2,by omega,fun hh=>?_⟩
 rw [dif_pos hh] at h4
 exact h4
end Go.Proofs.YthkdbphgiobcdaaGreatDoor

namespace Go.Proofs.YthkdbphgiobcdaaGreatDoor
def listOk (s:ByteArray):Bool:=if s=mk [45] then true else if s=mk [42] then true else good (cutB 44 s)
def listOf (s:ByteArray):List ByteArray:=if s=mk [45] then [] else if s=mk [42] then [mk [42]] else if good (cutB 44 s) then cutB 44 s else []
structure Lv where
 name:ByteArray
 kind:Int
 shares:Int
 lend:Int
 borrow:Int
 queues:Int
 hand:Int
 length:Int
 wait:Int
 guess:Int
structure Rl where
 users:List ByteArray
 groups:List ByteArray
 verbs:List ByteArray
 resources:List ByteArray
 spaces:List ByteArray
structure Sc where
 name:ByteArray
 level:ByteArray
 rank:Int
 way:Int
 rules:List Rl
structure Cf where
 total:Int
 period:Int
 perSeat:Int
 most:Int
 levels:List Lv
 schemas:List Sc
def cf0:Cf:=⟨0,0,0,0,[],[]⟩
def mu (e x:Int):Int:=if e=0 then x else e
def ifE (b:Bool) (x:Int):Int:=if b then 0 else x
theorem mu_zero (x:Int):mu 0 x=x:=if_pos rfl
theorem mu_keep {e x:Int} (h:e≠0):mu e x=e:=if_neg h
theorem ifE_no (x:Int):ifE false x=x:=rfl
theorem mu_eq_zero {e x:Int} : mu e x=0 ↔ e=0∧x=0:=by unfold mu;split <;> simp_all
theorem ifE_eq_zero {b:Bool} {x:Int} (h:x≠0):ifE b x=0 ↔ b=true:=by cases b <;> simp_all [ifE]
def tTotal:ByteArray:=⟨#[116,111,116,97,108]⟩
def tPeriod:ByteArray:=⟨#[112,101,114,105,111,100]⟩
def tSeats:ByteArray:=⟨#[115,101,97,116,115]⟩
def tLevel:ByteArray:=⟨#[108,101,118,101,108]⟩
def tSchema:ByteArray:=⟨#[115,99,104,101,109,97]⟩
def tRule:ByteArray:=⟨#[114,117,108,101]⟩
def tExempt:ByteArray:=⟨#[101,120,101,109,112,116]⟩
def tReject:ByteArray:=⟨#[114,101,106,101,99,116]⟩
def tQueue:ByteArray:=⟨#[113,117,101,117,101]⟩
def tAll:ByteArray:=⟨#[97,108,108]⟩
def tNone:ByteArray:=⟨#[110,111,110,101]⟩
def tUser:ByteArray:=⟨#[117,115,101,114]⟩
def tSpace:ByteArray:=⟨#[115,112,97,99,101]⟩
def totalE (C:Cf) (ws:List ByteArray):Int:=mu (mu (ifE ((ws.length:Int) == 1) 2) (ifE (numIn (gt ws 0) 1 4096) 8)) (ifE (C.total == 0) 5)
def periodE (C:Cf) (ws:List ByteArray):Int:=mu (mu (ifE ((ws.length:Int) == 1) 2) (ifE (numIn (gt ws 0) 1 1000) 8)) (ifE (C.period == 0) 5)
def seatsE (C:Cf) (ws:List ByteArray):Int:=mu (mu (mu (ifE ((ws.length:Int) == 2) 2) (ifE (numIn (gt ws 0) 1 1048576) 8)) (ifE (numIn (gt ws 1) 1 16) 8)) (ifE (C.perSeat == 0) 5)
def kindW (ws:List ByteArray):Int :=
 if ws.length=2∧gt ws 1=tExempt then 1 else if ws.length=5∧gt ws 4=tReject then 2 else if ws.length=10∧gt ws 4=tQueue then 3 else 0
def borrowOk (s:ByteArray):Bool:=if s=tAll then true else numIn s 0 1000
def borrowOf (s:ByteArray):Int:=if s=tAll then -1 else numOf s 0 1000
def numsE (ws:List ByteArray) (e:Int):Int:=mu (mu (mu e (ifE (numIn (gt ws 1) 0 10000) 8)) (ifE (numIn (gt ws 2) 0 100) 8)) (ifE (borrowOk (gt ws 3)) 8)
def queueE (ws:List ByteArray) (e:Int):Int :=
 mu (mu (mu (mu (mu e (ifE (numIn (gt ws 5) 1 64) 8)) (ifE (numIn (gt ws 6) 1 8) 8)) (ifE (numIn (gt ws 7) 1 64) 8)) (ifE (numIn (gt ws 8) 1 1000) 8)) (ifE (numIn (gt ws 9) 1 1000) 8)
def levelOf (ws:List ByteArray):Lv :=
 if kindW ws=1 then ⟨gt ws 0,1,0,0,0,0,0,0,0,0⟩
 else if kindW ws=2 then ⟨gt ws 0,2,numOf (gt ws 1) 0 10000,numOf (gt ws 2) 0 100,borrowOf (gt ws 3),0,0,0,0,0⟩
 else ⟨gt ws 0,3,numOf (gt ws 1) 0 10000,numOf (gt ws 2) 0 100,borrowOf (gt ws 3),numOf (gt ws 5) 1 64,numOf (gt ws 6) 1 8,numOf (gt ws 7) 1 64,numOf (gt ws 8) 1 1000,numOf (gt ws 9) 1 1000⟩
def levelW (ws:List ByteArray):Int :=
 if kindW ws=0 then 2 else if kindW ws=1 then ifE (isName (gt ws 0)) 4
 else if kindW ws=2 then numsE ws (ifE (isName (gt ws 0)) 4) else queueE ws (numsE ws (ifE (isName (gt ws 0)) 4))
def hasLv (C:Cf) (s:ByteArray):Bool:=C.levels.any fun l=>decide (l.name=s)
def hasSc (C:Cf) (s:ByteArray):Bool:=C.schemas.any fun l=>decide (l.name=s)
def levelE (C:Cf) (ws:List ByteArray):Int:=mu (mu (levelW ws) (ifE (!hasLv C (gt ws 0)) 5)) (ifE (decide ((C.levels.length:Int)<16)) 3)
def byOk (s:ByteArray):Bool:=decide (s=tNone) || (decide (s=tUser) || decide (s=tSpace))
def byOf (s:ByteArray):Int:=if s=tUser then 1 else if s=tSpace then 2 else 0
def schemaW (ws:List ByteArray):Int :=
 mu (mu (mu (mu (ifE ((ws.length:Int) == 4) 2) (ifE (isName (gt ws 0)) 4)) (ifE (isName (gt ws 1)) 4)) (ifE (numIn (gt ws 2) 1 10000) 8)) (ifE (byOk (gt ws 3)) 2)
def schemaE (C:Cf) (ws:List ByteArray):Int:=mu (mu (schemaW ws) (ifE (!hasSc C (gt ws 0)) 5)) (ifE (decide ((C.schemas.length:Int)<32)) 3)
def schemaOf (ws:List ByteArray):Sc:=⟨gt ws 0,gt ws 1,numOf (gt ws 2) 1 10000,byOf (gt ws 3),[]⟩
def ruleW (C:Cf) (ws:List ByteArray):Int :=
 mu (mu (mu (mu (mu (ifE (((ws.length:Int) == 5) && decide (0<(C.schemas.length:Int))) 2) (ifE (listOk (gt ws 0)) 2)) (ifE (listOk (gt ws 1)) 2)) (ifE (listOk (gt ws 2)) 2)) (ifE (listOk (gt ws 3)) 2)) (ifE (listOk (gt ws 4)) 2)
def ruleOf (ws:List ByteArray):Rl:=⟨listOf (gt ws 0),listOf (gt ws 1),listOf (gt ws 2),listOf (gt ws 3),listOf (gt ws 4)⟩
def lastRules (C:Cf):List Rl:=match C.schemas.getLast? with
 | some s=>s.rules
 | none=>[]
def withRule (r:Rl) (s:Sc):Sc:=⟨s.name,s.level,s.rank,s.way,s.rules ++ [r]⟩
def addRule (r:Rl):List Sc→List Sc
 | []=>[]
 | [s]=>[withRule r s]
 | s :: t :: l=>s :: addRule r (t :: l)
def ruleE (C:Cf) (ws:List ByteArray):Int:=mu (ruleW C ws) (ifE (decide (((lastRules C).length:Int)<8)) 3)
def tellE (C:Cf) (s:ByteArray) (ws:List ByteArray):Int :=
 if s=tTotal then totalE C ws else if s=tPeriod then periodE C ws else if s=tSeats then seatsE C ws else if s=tLevel then levelE C ws
 else if s=tSchema then schemaE C ws else if s=tRule then ruleE C ws else 2
def tellC (C:Cf) (s:ByteArray) (ws:List ByteArray):Cf :=
 if s=tTotal then ⟨numOf (gt ws 0) 1 4096,C.period,C.perSeat,C.most,C.levels,C.schemas⟩
 else if s=tPeriod then ⟨C.total,numOf (gt ws 0) 1 1000,C.perSeat,C.most,C.levels,C.schemas⟩
 else if s=tSeats then ⟨C.total,C.period,numOf (gt ws 0) 1 1048576,numOf (gt ws 1) 1 16,C.levels,C.schemas⟩
 else if s=tLevel then ⟨C.total,C.period,C.perSeat,C.most,C.levels ++ [levelOf ws],C.schemas⟩
 else if s=tSchema then ⟨C.total,C.period,C.perSeat,C.most,C.levels,C.schemas ++ [schemaOf ws]⟩
 else ⟨C.total,C.period,C.perSeat,C.most,C.levels,addRule (ruleOf ws) C.schemas⟩
def silent (ws:List ByteArray):Bool:=match ws with
 | []=>true
 | s :: _=>s.data.toList.head? == some 35
def lineE (C:Cf) (ws:List ByteArray):Int:=if silent ws then 0 else tellE C (gt ws 0) ws.tail
def lineC (C:Cf) (ws:List ByteArray):Cf:=if silent ws then C else tellC C (gt ws 0) ws.tail
def goE (C:Cf):List ByteArray→Int
 | []=>0
 | l :: r=>if lineE C (wordsB l)=0 then goE (lineC C (wordsB l)) r else lineE C (wordsB l)
def goL (C:Cf) (i:Nat):List ByteArray→Nat
 | []=>0
 | l :: r=>if lineE C (wordsB l)=0 then goL (lineC C (wordsB l)) (i+1) r else i+1
def goC (C:Cf):List ByteArray→Cf
 | []=>C
 | l :: r=>if lineE C (wordsB l)=0 then goC (lineC C (wordsB l)) r else cf0
theorem gt_tail (L:List ByteArray) (k:Nat):gt L.tail k=gt L (k+1):=by
 unfold gt;cases L <;> simp
end Go.Proofs.YthkdbphgiobcdaaGreatDoor

namespace Go.Proofs.YthkdbphgiobcdaaGreatDoor
open Go.Lib
theorem ext_list (s:ByteArray) (a b:Nat):s.extract a b=mk ((s.data.toList.drop a).take (b - a)):=by
 apply list_inj
 rw [mk_list,extract_data]
/-! ### the pieces that are not empty -/
end Go.Proofs.YthkdbphgiobcdaaGreatDoor

namespace Go.Proofs.YthkdbphgiobcdaaGreatDoor
open Go.Shelf
def Tryz.laysJoin_ren:Go.Shelf.Ren:=⟨fun | 156=>59 | 165=>116 | 166=>117 | 169=>118 | 240=>151 | 241=>152 | 276=>172 | 277=>173 | n=>n,fun | 31=>52 | 9=>9 | 3=>3 | 4=>4 | 0=>0 | 20=>20 | 72=>152 | 76=>154 | 70=>149 | 37=>150 | 75=>33 | 127=>188 | 164=>103 | 5=>5 | 80=>156 | n=>n,fun | n=>n⟩
theorem Tryz.laysJoin:Go.Proofs.Lays.n156 Tryz.prog Tryz.laysJoin_ren:={
 mixed:=by kernel_rfl
 f156:=Tryz.func59.trans (congrArg some (by kernel_rfl))
 f165:=Tryz.func116.trans (congrArg some (by kernel_rfl))
 f166:=Tryz.func117.trans (congrArg some (by kernel_rfl))
 f169:=Tryz.func118.trans (congrArg some (by kernel_rfl))
 f240:=Tryz.func151.trans (congrArg some (by kernel_rfl))
 f241:=Tryz.func152.trans (congrArg some (by kernel_rfl))
 f276:=Tryz.func172.trans (congrArg some (by kernel_rfl))
 f277:=Tryz.func173.trans (congrArg some (by kernel_rfl))
 t0:=Tryz.underlying0
 a0:=Tryz.isAgg0
 z0:=Tryz.sizeOf0
 v0:=Tryz.zeroValue0
 t3:=Tryz.underlying3
 a3:=Tryz.isAgg3
 z3:=Tryz.sizeOf3
 v3:=Tryz.zeroValue3
 t4:=Tryz.underlying4
 a4:=Tryz.isAgg4
 z4:=Tryz.sizeOf4
 v4:=Tryz.zeroValue4
 t9:=Tryz.underlying9
 a9:=Tryz.isAgg9
 z9:=Tryz.sizeOf9
 v9:=Tryz.zeroValue9
 t20:=Tryz.underlying20
 a20:=Tryz.isAgg20
 z20:=Tryz.sizeOf20
 v20:=Tryz.zeroValue20
 t31:=Tryz.underlying52
 a31:=Tryz.isAgg52
 z31:=Tryz.sizeOf52
 v31:=Tryz.zeroValue52
 t37:=Tryz.underlying150
 a37:=Tryz.isAgg150
 z37:=Tryz.sizeOf150
 v37:=Tryz.zeroValue150
 t70:=Tryz.underlying149
 a70:=Tryz.isAgg149
 z70:=Tryz.sizeOf149
 v70:=Tryz.zeroValue149
 t72:=Tryz.underlying152
 a72:=Tryz.isAgg152
 z72:=Tryz.sizeOf152
 v72:=Tryz.zeroValue152
 t75:=Tryz.underlying33
 a75:=Tryz.isAgg33
 z75:=Tryz.sizeOf33
 v75:=Tryz.zeroValue33
 t76:=Tryz.underlying154
 a76:=Tryz.isAgg154
 z76:=Tryz.sizeOf154
 v76:=Tryz.zeroValue154
 t127:=Tryz.underlying188
 a127:=Tryz.isAgg188
 z127:=Tryz.sizeOf188
 v127:=Tryz.zeroValue188
 t164:=Tryz.underlying103
 a164:=Tryz.isAgg103
 z164:=Tryz.sizeOf103
 v164:=Tryz.zeroValue103 }
end Go.Proofs.YthkdbphgiobcdaaGreatDoor

namespace Go.Proofs.YthkdbphgiobcdaaGreatDoor
open Go.RowKit Go.Lib Go.Shelf
theorem info9:(Tryz.prog.info? 9).map (fun i=>(i.zero,i.size,i.bytes))=some (some (.string ByteArray.empty),1,16):=by kernel_rfl
theorem piece_le (c:UInt8):∀ (l:List UInt8),∀ x∈cutL c l,x.length≤l.length
 | [],x,h=>by
  have:x=[]:=by simpa [cutL] using h
  subst this;simp
 | b :: l,x,h=>by
  have ih:=piece_le c l
  unfold cutL at h
  split at h
  ·rcases List.mem_cons.1 h with rfl | h
   ·simp
   ·have:=ih x h;simp;omega
  ·rcases List.mem_cons.1 h with rfl | h
   ·have hne:=cutL_ne c l
    cases hc:cutL c l with
    | nil=>exact absurd hc hne
    | cons y t =>
     have:=ih y (by rw [hc];exact List.mem_cons_self ..)
     simp;omega
   ·have:=ih x (List.mem_of_mem_tail h);simp;omega
theorem add_at (g j:Nat):(⟨g,0,none⟩:Addr).add j=⟨g,j,none⟩:=by unfold Addr.add;split <;> simp_all
theorem one_newT (w:World) (x:ByteArray):∀ j u,([.string x]:List Value)[j]?=some u→(w.alloc (.cells #[.string x] 9)).cell? ((⟨w.heap.size,0,none⟩:Addr).add j)=some u:=by
 intro j u hj
 match j,hj with
 | 0,hj=>simp at hj;subst hj;simp [Addr.add]
theorem one_cellT (x:ByteArray):∀ u∈([.string x]:List Value),u.oneCell'=true:=by
 intro u hu;simp at hu;subst hu;rfl
def OwnT (B:Nat) (w:World) (v:Value) (L:List ByteArray):Prop:=w.ownsRow B 9 1 v L.length (L.map Value.string)
theorem OwnT.shape {B:Nat} {w:World} {v:Value} {L:List ByteArray} (h:OwnT B w v L):∃ a c,v=.slice a L.length c∧RowL w a L:=by
 rcases h.2 with ⟨rfl,h0⟩ | ⟨g,cap,cur,rfl,hb,hg,rest⟩
 ·have:L=[]:=by cases L with | nil=>rfl | cons _ _=>simp at h0
  subst this
  exact ⟨none,0,rfl,fun h=>absurd h (Nat.lt_irrefl 0)⟩
 ·refine ⟨some ⟨g,0,none⟩,cap,rfl,fun hn=>⟨g,0,rfl,(h.lt g rfl).2,fun k hk=>?_⟩⟩
  rw [Nat.zero_add,h.cellAt k (by omega),List.getElem?_map,List.getElem?_eq_getElem hk,gt_eq hk]
  rfl
theorem cat_list (a b:ByteArray):(a++b).data.toList=a.data.toList++b.data.toList:=by simp
theorem cat_size (a b:ByteArray):(a++b).size=a.size+b.size:=by simp
theorem OwnT.put {B:Nat} {w:World} {v:Value} {W:List ByteArray} {x:ByteArray} (h:w.ownsRow B 9 1 v (W.length+1) (W.map Value.string ++ [.string x])):OwnT B w v (W ++ [x]):=by
 unfold OwnT
 rw [List.length_append,List.map_append]
 exact h
theorem mk_size (l:List UInt8):(mk l).size=l.length:=by rw [←size_list,mk_list]
theorem short_cut (c:UInt8) (s:ByteArray) (hs:s.size≤9223372036854775807):Short (cutB c s):=fun k hk=>by
 have:=gt_mem hk
 obtain ⟨x,hx,e⟩:=List.mem_map.1 this
 rw [←e,mk_size]
 have:=piece_le c _ x hx
 rw [size_list] at this
 omega
theorem isWord_eq (s:ByteArray):isWord s=(decide (s.size≤64) && (allB isWordB s && (!decide (s.size=0) && !(s.data.toList == [45])))):=by
 unfold isWord
 rw [ByteArray.toList_eq]
theorem word_comma {s:ByteArray} (h:isWord s=true):(44:UInt8) ∉ s.data.toList:=by
 rw [isWord_eq] at h
 simp only [Bool.and_eq_true] at h
 intro hm
 have h2:=h.2.1
 unfold allB at h2
 have:=List.all_eq_true.1 h2 44 hm
 revert this
 decide
theorem word_short {s:ByteArray} (h:isWord s=true):s.size≤64:=by
 rw [isWord_eq] at h
 simp only [Bool.and_eq_true,decide_eq_true_eq] at h
 exact h.1
theorem good_words {L:List ByteArray} (h:Good L):∀ x∈L,isWord x=true:=fun x hx=>by
 obtain ⟨k,hk,rfl⟩:=List.getElem_of_mem hx
 have:=(h.2 k hk).1
 rwa [gt_eq hk] at this
theorem star_no:isWord (mk [42])=false:=by rw [isWord_eq];decide
theorem dash_no:isWord (mk [45])=false:=by rw [isWord_eq];decide
theorem cutL_cons (c x:UInt8) (l:List UInt8):cutL c (x :: l)=if x=c then [] :: cutL c l else (x :: (cutL c l).headD []) :: (cutL c l).tail:=rfl
theorem tail_cons (c:UInt8) (y:List UInt8) (r:List (List UInt8)):joinTail [c] (y :: r)=c :: (y++joinTail [c] r):=by simp [joinTail]
theorem join_cut (c:UInt8):∀ l:List UInt8,join (cutL c l) [c]=l
 | []=>rfl
 | b :: l=>by
  have ih:=join_cut c l
  have hne:=cutL_ne c l
  rw [cutL_cons]
  cases hc:cutL c l with
  | nil=>exact absurd hc hne
  | cons h t =>
   rw [hc,join_cons] at ih
   by_cases e:b=c
   ·rw [if_pos e,join_cons,tail_cons,ih,e]
    rfl
   ·rw [if_neg e,join_cons]
    show b :: (h++joinTail [c] t)=_
    rw [ih]
end Go.Proofs.YthkdbphgiobcdaaGreatDoor

namespace Go.Proofs.YthkdbphgiobcdaaGreatDoor
open Go.RowKit Go.Lib
theorem valL_snoc (l:List UInt8) (b:UInt8):valL (l ++ [b])=valL l*10+(b.toNat - 48):=by
 unfold valL
 rw [List.foldl_append]
 rfl
theorem dec_small {n:Nat} (h:n<10):decDigits n=[UInt8.ofNat (48+n)]:=by rw [decDigits,dif_pos h]
theorem dec_big {n:Nat} (h:¬ n<10):decDigits n=decDigits (n / 10) ++ [UInt8.ofNat (48+n % 10)]:=by rw [decDigits,dif_neg h]
theorem byte_of {n:Nat} (h:n<10):(UInt8.ofNat (48+n)).toNat=48+n:=by simp;omega
def IsD (l:List UInt8):Prop:=∀ b∈l,48≤b.toNat∧b.toNat≤57
theorem dec_ind {motive:Nat→Prop} (h1:∀ n,n<10→motive n) (h2:∀ n,¬ n<10→motive (n / 10)→motive n):∀ n,motive n:=by
 intro n
 induction n using Nat.strongRecOn with
 | ind n ih =>
  by_cases h:n<10
  ·exact h1 n h
  ·exact h2 n h (ih (n / 10) (by omega))
theorem dec_digits:∀ n,IsD (decDigits n):=by
 apply dec_ind
 ·intro n h b hb
  rw [dec_small h] at hb
  have:b=UInt8.ofNat (48+n):=by simpa using hb
  subst this
  rw [byte_of h]
  omega
 ·intro n h ih b hb
  rw [dec_big h] at hb
  rcases List.mem_append.1 hb with hb | hb
  ·exact ih b hb
  ·have:b=UInt8.ofNat (48+n % 10):=by simpa using hb
   subst this
   rw [byte_of (Nat.mod_lt _ (by decide))]
   omega
theorem dec_val:∀ n,valL (decDigits n)=n:=by
 apply dec_ind
 ·intro n h
  rw [dec_small h]
  show 0*10+((UInt8.ofNat (48+n)).toNat - 48)=n
  rw [byte_of h]
  omega
 ·intro n h ih
  rw [dec_big h,valL_snoc,ih,byte_of (Nat.mod_lt _ (by decide))]
  omega
theorem dec_pos:∀ n,1≤(decDigits n).length:=by
 intro n
 by_cases h:n<10
 ·rw [dec_small h];exact Nat.le_refl 1
 ·rw [dec_big h,List.length_append];simp
theorem dec_len:∀ n k,1≤k→n<10 ^ k→(decDigits n).length≤k:=by
 apply dec_ind (motive:=fun n=>∀ k,1≤k→n<10 ^ k→(decDigits n).length≤k)
 ·intro n h k hk _
  rw [dec_small h]
  simpa using hk
 ·intro n h ih k hk hn
  rw [dec_big h,List.length_append]
  have h2:2≤k:=by
   rcases (by omega:k=1∨2≤k) with rfl | h2
   ·omega
   ·exact h2
  obtain ⟨j,rfl⟩:∃ j,k=j+1:=⟨k - 1,by omega⟩
  have:=ih j (by omega) (by rw [Nat.pow_succ] at hn;omega)
  simp
  omega
theorem dec_head:∀ n,1≤n→(decDigits n).head?≠some 48:=by
 apply dec_ind (motive:=fun n=>1≤n→(decDigits n).head?≠some 48)
 ·intro n h h1
  rw [dec_small h]
  intro e
  have e2:UInt8.ofNat (48+n)=48:=by simpa using e
  have:=congrArg UInt8.toNat e2
  rw [byte_of h] at this
  have h48:(48:UInt8).toNat=48:=rfl
  omega
 ·intro n h ih _
  rw [dec_big h]
  have:=ih (by omega)
  cases hc:decDigits (n / 10) with
  | nil=>have:=dec_pos (n / 10);rw [hc] at this;simp at this
  | cons x t=>rw [hc] at this;exact this
theorem snoc_ind {motive:List UInt8→Prop} (h1:motive []) (h2:∀ l b,motive l→motive (l ++ [b])):∀ l,motive l:=by
 intro l
 have:∀ l:List UInt8,motive l.reverse:=by
  intro l
  induction l with
  | nil=>exact h1
  | cons b l ih=>rw [List.reverse_cons];exact h2 _ b ih
 have h:=this l.reverse
 rwa [List.reverse_reverse] at h
theorem val_pos:∀ l:List UInt8,IsD l→l≠[]→l.head?≠some 48→1≤valL l:=by
 apply snoc_ind (motive:=fun l=>IsD l→l≠[]→l.head?≠some 48→1≤valL l)
 ·intro _ h;exact absurd rfl h
 ·intro l b ih hd _ hh
  rw [valL_snoc]
  have hb:=hd b (by simp)
  cases l with
  | nil =>
   have hne:b.toNat≠48:=fun e=>hh (by rw [List.nil_append,List.head?_cons];congr 1;exact UInt8.toNat_inj.1 e)
   omega
  | cons x t =>
   have:=ih (fun y hy=>hd y (List.mem_append_left _ hy)) (by simp) (by simpa using hh)
   omega
theorem dec_of:∀ l:List UInt8,IsD l→l≠[]→(1<l.length→l.head?≠some 48)→decDigits (valL l)=l:=by
 apply snoc_ind (motive:=fun l=>IsD l→l≠[]→(1<l.length→l.head?≠some 48)→decDigits (valL l)=l)
 ·intro _ h;exact absurd rfl h
 ·intro l b ih hd _ hh
  have hb:=hd b (by simp)
  rw [valL_snoc]
  have hbb:UInt8.ofNat (48+(b.toNat - 48))=b:=by
   rw [show 48+(b.toNat - 48)=b.toNat by omega,UInt8.ofNat_toNat]
  cases hl:l with
  | nil =>
   show decDigits (0*10+(b.toNat - 48))=[b]
   rw [dec_small (by omega),Nat.zero_mul,Nat.zero_add,hbb]
  | cons x t =>
   have hd':IsD l:=fun y hy=>hd y (List.mem_append_left _ hy)
   have hne:l≠[]:=by rw [hl];simp
   have hh':l.head?≠some 48:=by
    have:=hh (by rw [hl];simp)
    rw [hl] at this ⊢
    simpa using this
   have hp:=val_pos l hd' hne hh'
   have hih:=ih hd' hne (fun _=>hh')
   rw [←hl,dec_big (by omega),show (valL l*10+(b.toNat - 48)) / 10=valL l by omega,show (valL l*10+(b.toNat - 48)) % 10=b.toNat - 48 by omega,hih,hbb]
/-! ### sixteen -/
def digB (n:Int):ByteArray:=mk (decDigits (max n 0).toNat)
theorem isNum_list (l:List UInt8) (hd:IsD l) (h9:l.length≤9) (h1:l≠[]) (hh:1<l.length→l.head?≠some 48):isNum (mk l)=true:=by
 have hsz:(mk l).size=l.length:=by rw [←size_list,mk_list]
 have hpos:1≤l.length:=by cases l with | nil=>exact absurd rfl h1 | cons _ _=>simp
 have hA:allB isDigit (mk l)=true:=by
  unfold allB
  rw [mk_list,List.all_eq_true]
  intro b hb
  have:=hd b hb
  unfold isDigit
  simp
  omega
 have e1:decide (9<(mk l).size)=false:=by rw [hsz];simp;omega
 have e2:decide ((mk l).size=0)=false:=by rw [hsz];simp;exact h1
 unfold isNum
 rw [e1,hA,e2]
 by_cases h:1<(mk l).size
 ·rw [dif_pos h]
  have hne:((mk l)[0]'(by omega))≠48:=fun e=>hh (by rw [←hsz];exact h) (by
   have:=byte_at (mk l) 0 (by omega)
   rw [mk_list,e] at this
   rw [←this,List.head?_eq_getElem?])
  have:(((mk l)[0].toNat:Int) == 48)=false:=by
   cases hb:(((mk l)[0].toNat:Int) == 48) with
   | false=>rfl
   | true=>exact absurd (UInt8.toNat_inj.1 (by have:=eq_of_beq hb;have h48:(48:UInt8).toNat=48:=rfl;omega)) hne
  exact (congrArg (fun b=>!(false || (!(true && !false) || b))) this).trans rfl
 ·rw [dif_neg h]
  rfl
theorem isNum_digits (n:Nat) (h:n≤999999999):isNum (mk (decDigits n))=true:=by
 refine isNum_list _ (dec_digits n) (dec_len n 9 (by decide) (by omega)) (fun e=>by have:=dec_pos n;rw [e] at this;simp at this) (fun hl=>?_)
 refine dec_head n ?_
 rcases Nat.eq_zero_or_pos n with rfl | hp
 ·rw [dec_small (by decide)] at hl;simp at hl
 ·exact hp
theorem num_digits (n:Nat) (h:n≤999999999) (least most:Int):numIn (digB n) least most=(decide (least≤(n:Int)) && decide ((n:Int)≤most))∧numOf (digB n) least most=if (decide (least≤(n:Int)) && decide ((n:Int)≤most)) then (n:Int) else 0:=by
 have e:digB n=mk (decDigits n):=by unfold digB;congr 2;omega
 rw [e]
 unfold numOf numIn
 rw [isNum_digits n h,mk_list,dec_val,Bool.true_and]
 exact ⟨rfl,rfl⟩
theorem digB_size (n:Int):(digB n).size=(decDigits (max n 0).toNat).length:=by rw [←size_list];unfold digB;rw [mk_list]
theorem num_iff (s:ByteArray) (h9:s.size≤9) (hd:allB isDigit s=true):isNum s=true ↔ digB (valL s.data.toList:Nat)=s:=by
 have hD:IsD s.data.toList:=fun b hb=>by
  unfold allB at hd
  have:=List.all_eq_true.1 hd b hb
  unfold isDigit at this
  simp at this
  omega
 have e:digB (valL s.data.toList:Nat)=mk (decDigits (valL s.data.toList)):=by unfold digB;congr 2;omega
 rw [e]
 constructor
 ·intro h
  obtain ⟨_,_,h1,h0⟩:=isNum_parts h
  have hne:s.data.toList≠[]:=fun h=>by rw [←size_list,h] at h1;simp at h1
  rw [dec_of s.data.toList hD hne (fun hl hh=>by
   rw [size_list] at hl
   have:=h0 hl
   have e2:=byte_at s 0 (by omega)
   rw [List.head?_eq_getElem?] at hh
   rw [hh] at e2
   rw [←Option.some.inj e2] at this
   exact absurd this (by decide)),mk_of]
 ·intro h
  have hv:valL s.data.toList≤999999999:=by
   have:=valTo_lt s hd s.size (Nat.le_refl _)
   rw [valTo_all] at this
   have h2:10 ^ s.size≤10 ^ 9:=Nat.pow_le_pow_right (by decide) h9
   omega
  have:=isNum_digits _ hv
  rwa [h] at this
end Go.Proofs.YthkdbphgiobcdaaGreatDoor
