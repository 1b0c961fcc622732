/-
  What is filled: how great it is.
  'awake';what is let pass,told for the statement.
  Rows that are written over,element by element;a configuration whose levels and schemas stand in another order.
  Rows of levels and schemas that are written over,empty ones too;two neighbours exchanged.
  The bodies of strconv.Itoa,strings.Compare,cmp.Compare and slices.SortFunc (of levels,of schemas) and of what they call,as they lie in this program,are those over which the theorems of the library on them are stated.
  Lists in order: a list that is put in order by a strict order,in which its elements are told apart,is one list.
-/
import Derived.Test.YthkdbphgiobcdaaGreatDoorE21
import Derived.Test.YthkdbphgiobcdaaGreatDoorE14
import Derived.Test.YthkdbphgiobcdaaGreatDoorRows
import Derived.Shelf.SlGeneric
import Derived.Shelf.SlSortCmp.WholeK
import Derived.Shelf.Small.Strs
import Derived.Shelf.Small.Wraps
import Derived.Shelf.Strconv.Itoa3
import Derived.Shelf.LaysM
import Derived.Ground.SlsfProg
import Derived.Ground.NamesProg
import Derived.Lib.Bytealg
namespace Go.Proofs.YthkdbphgiobcdaaGreatDoor
open Go.RowKit
theorem anyL_append (L M:List Lv) (x:ByteArray):anyL (L++M) x=(anyL L x || anyL M x):=by unfold anyL;rw [List.any_append]
theorem anyS_append (L M:List Sc) (x:ByteArray):anyS (L++M) x=(anyS L x || anyS M x):=by unfold anyS;rw [List.any_append]
theorem lvX_e:anyL [lvX] tExempt=true:=by unfold anyL lvX;simp
theorem lvY_c:anyL [lvY] tCatch=true:=by unfold anyL lvY;simp
theorem scX_e:anyS [scX] tExempt=true:=by unfold anyS scX;simp
theorem scY_c:anyS [scY] tCatch=true:=by unfold anyS scY;simp
theorem lvXY:anyL [lvX,lvY] tExempt=true∧anyL [lvX,lvY] tCatch=true:=by unfold anyL lvX lvY;simp
theorem scXY:anyS [scX,scY] tExempt=true∧anyS [scX,scY] tCatch=true:=by unfold anyS scX scY;simp
theorem fillL_has (L:List Lv):anyL (fillL L) tExempt=true∧anyL (fillL L) tCatch=true:=by
 unfold fillL putX
 cases h1:anyL L tExempt <;> cases h2:anyL L tCatch <;> simp [anyL_append,h1,h2,lvX_e,lvY_c,lvXY]
theorem fillS_has (L:List Sc):anyS (fillS L) tExempt=true∧anyS (fillS L) tCatch=true:=by
 unfold fillS putX
 cases h1:anyS L tExempt <;> cases h2:anyS L tCatch <;> simp [anyS_append,h1,h2,scX_e,scY_c,scXY]
theorem fillL_ext (L:List Lv):∃ T,fillL L=L++T∧T.length≤2∧∀ l∈T,l=lvX∨l=lvY:=by
 unfold fillL putX
 cases anyL L tExempt <;> cases anyL L tCatch
 ·exact ⟨[lvX,lvY],by simp,by simp,by simp⟩
 ·exact ⟨[lvX],by simp,by simp,by simp⟩
 ·exact ⟨[lvY],by simp,by simp,by simp⟩
 ·exact ⟨[],by simp,by simp,by simp⟩
theorem fillS_ext (L:List Sc):∃ T,fillS L=L++T∧T.length≤2∧∀ l∈T,l=scX∨l=scY:=by
 unfold fillS putX
 cases anyS L tExempt <;> cases anyS L tCatch
 ·exact ⟨[scX,scY],by simp,by simp,by simp⟩
 ·exact ⟨[scX],by simp,by simp,by simp⟩
 ·exact ⟨[scY],by simp,by simp,by simp⟩
 ·exact ⟨[],by simp,by simp,by simp⟩
theorem rlX_f:RlF rlX:=by
 refine ⟨⟨?_,?_⟩,⟨?_,?_⟩,⟨?_,?_⟩,⟨?_,?_⟩,?_,?_⟩ <;> simp [rlX] <;> decide
theorem rlY_f:RlF rlY:=by
 refine ⟨⟨?_,?_⟩,⟨?_,?_⟩,⟨?_,?_⟩,⟨?_,?_⟩,?_,?_⟩ <;> simp [rlY] <;> decide
theorem fillC_fits {n:Nat} {C:Cf} (h:Fits C) (hb:Bnd n C) (hn:n≤1000):Fits (fillC C):=by
 obtain ⟨T,e1,t1,m1⟩:=fillL_ext C.levels
 obtain ⟨U,e2,t2,m2⟩:=fillS_ext C.schemas
 have a1:=hb.lv
 have a2:=hb.sc
 refine ⟨⟨?_,?_⟩,⟨?_,?_⟩,?_⟩
 ·show (fillL C.levels).length≤_;rw [e1,List.length_append];omega
 ·show (fillS C.schemas).length≤_;rw [e2,List.length_append];omega
 ·show ∀ l∈fillL C.levels,_
  rw [e1]
  intro l hl
  rcases List.mem_append.1 hl with hl | hl
  ·exact h.nm.1 l hl
  ·rcases m1 l hl with rfl | rfl <;> decide
 ·show ∀ l∈fillS C.schemas,_
  rw [e2]
  intro l hl
  rcases List.mem_append.1 hl with hl | hl
  ·exact h.nm.2 l hl
  ·rcases m2 l hl with rfl | rfl <;> decide
 ·show ∀ l∈fillS C.schemas,_
  rw [e2]
  intro l hl
  rcases List.mem_append.1 hl with hl | hl
  ·exact h.rl l hl
  ·rcases m2 l hl with rfl | rfl
   ·exact ⟨by decide,fun r hr=>by rw [List.mem_singleton.1 hr];exact rlX_f⟩
   ·exact ⟨by decide,fun r hr=>by rw [List.mem_singleton.1 hr];exact rlY_f⟩
theorem fillC_bnd {n:Nat} {C:Cf} (hb:Bnd n C):Bnd (n+2) (fillC C):=by
 obtain ⟨T,e1,t1,m1⟩:=fillL_ext C.levels
 obtain ⟨U,e2,t2,m2⟩:=fillS_ext C.schemas
 have a1:=hb.lv
 have a2:=hb.sc
 refine ⟨?_,?_,?_⟩
 ·show (fillL C.levels).length≤_;rw [e1,List.length_append];omega
 ·show (fillS C.schemas).length≤_;rw [e2,List.length_append];omega
 ·show ∀ l∈fillS C.schemas,_
  rw [e2]
  intro l hl
  rcases List.mem_append.1 hl with hl | hl
  ·obtain ⟨h1,h2⟩:=hb.rl l hl
   exact ⟨by omega,fun r hr=>by obtain ⟨c0,c1,c2,c3,c4⟩:=h2 r hr;exact ⟨by omega,by omega,by omega,by omega,by omega⟩⟩
  ·rcases m2 l hl with rfl | rfl
   ·refine ⟨by show 1≤_;omega,fun r hr=>?_⟩
    rw [List.mem_singleton.1 hr]
    exact ⟨by show 0≤_;omega,by show 1≤_;omega,by show 1≤_;omega,by show 1≤_;omega,by show 1≤_;omega⟩
   ·refine ⟨by show 1≤_;omega,fun r hr=>?_⟩
    rw [List.mem_singleton.1 hr]
    exact ⟨by show 1≤_;omega,by show 0≤_;omega,by show 1≤_;omega,by show 1≤_;omega,by show 1≤_;omega⟩
theorem Bnd.mono {m n:Nat} {C:Cf} (h:Bnd m C) (k:m≤n):Bnd n C :=
 ⟨Nat.le_trans h.lv k,Nat.le_trans h.sc k,fun s hs=>by
  obtain ⟨h1,h2⟩:=h.rl s hs
  exact ⟨Nat.le_trans h1 k,fun r hr=>by obtain ⟨c0,c1,c2,c3,c4⟩:=h2 r hr;exact ⟨by omega,by omega,by omega,by omega,by omega⟩⟩⟩
theorem cf0_r (w:World):CfR w (.agg #[.int .i64 0,.int .i64 0,.int .i64 0,.int .i64 0,.slice none 0 0,.slice none 0 0]) cf0 :=
 ⟨⟨by decide,by decide⟩,⟨(fun _ h=>nomatch h),(fun _ h=>nomatch h)⟩,none,0,none,0,[],rfl,Nat.le_refl _,Nat.le_refl _,fun h=>absurd h (by decide),rfl,fun h=>absurd h (by decide),fun k h=>absurd h (Nat.not_lt_zero _)⟩
theorem what_one (S:ByteArray):(near (fun _ y=>!y.toList.isEmpty) [⟨0,S⟩]).what=S:=by
 unfold near near
 cases h:S.toList.isEmpty with
 | false=>simp
 | true =>
  have e:S=⟨#[]⟩:=by
   rw [ByteArray.toList_eq] at h
   apply list_inj
   simpa using h
  subst e
  simp
theorem code_val (n:Int) (S:ByteArray) (w:World) (he:ET w):Calls Tryz.prog 12 #[val (.inl n) [⟨0,S⟩]] w fun e w'=>e=.returned (.int .i64 n)∧Below w.heap.size w w':=code_ok (.inl n) [⟨0,S⟩] w he
theorem what_val (n:Int) (S:ByteArray) (w:World) (he:ET w):Calls Tryz.prog 13 #[val (.inl n) [⟨0,S⟩]] w fun e w'=>e=.returned (.string S)∧Below w.heap.size w w':=by
 have:=what_ok (.inl n) [⟨0,S⟩] w he
 rw [what_one] at this
 exact this
def cnt (L:List Lv) (x:ByteArray) (k:Nat):Nat:=(L.take k).countP fun l=>decide (l.name=x)
theorem count_one:∀ {L:List Lv} {x:ByteArray},L.Pairwise (fun a b=>a.name≠b.name)→anyL L x=true→L.countP (fun l=>decide (l.name=x))=1
 | [],_,_,h=>by simp [anyL] at h
 | l :: r,x,hp,h=>by
  obtain ⟨h1,h2⟩:=List.pairwise_cons.1 hp
  by_cases e:l.name=x
  ·rw [List.countP_cons_of_pos (by simpa using e)]
   have:r.countP (fun l=>decide (l.name=x))=0:=List.countP_eq_zero.2 fun y hy=>by
    have:=h1 y hy
    rw [e] at this
    simpa using fun q=>this q.symm
   omega
  ·rw [List.countP_cons_of_neg (by simpa using e)]
   refine count_one h2 ?_
   unfold anyL at h ⊢
   rw [List.any_cons,decide_eq_false e,Bool.false_or] at h
   exact h
theorem Passes.one {C:Cf} (h:Passes C) {s:Sc} (hs:s∈C.schemas):cnt C.levels s.level C.levels.length=1:=by
 unfold cnt
 rw [List.take_length]
 refine count_one h.f.pl ?_
 have:=h.s s hs
 unfold scErr at this
 cases ha:anyL C.levels s.level with
 | true=>rfl
 | false=>rw [ha] at this;simp at this
theorem Passes.shares {C:Cf} (h:Passes C) {l:Lv} (hl:l∈C.levels):0≤l.shares∧l.shares≤10000:=by
 obtain ⟨-,h1 | h1 | h1⟩:=lvOk_iff.1 (h.f.lv l hl)
 ·have:=(noShares_iff.1 h1.2.1).1;omega
 ·exact (sharesOk_iff.1 h1.2.1).1
 ·exact (sharesOk_iff.1 h1.2.1).1
theorem any_at {L:List Lv} {x:ByteArray} (h:anyL L x=true):∃ j,∃ h:j<L.length,L[j].name=x:=by
 unfold anyL at h
 obtain ⟨l,hl,e⟩:=List.any_eq_true.1 h
 obtain ⟨j,hj,rfl⟩:=List.getElem_of_mem hl
 exact ⟨j,hj,by simpa using e⟩
theorem Passes.fit {C:Cf} (h:Passes C) {l:Lv} (hl:l∈C.levels):lvFit l=true:=by
 have:=h.l l hl
 unfold lvErr at this
 cases hf:lvFit l with
 | true=>rfl
 | false =>
  rw [hf] at this
  split at this
  ·rename_i q;exact absurd this q.2
  ·simp at this
theorem Passes.ex {C:Cf} (h:Passes C):∃ j,∃ h:j<C.levels.length,C.levels[j].kind=1:=by
 obtain ⟨j,hj,e⟩:=any_at h.p.1
 refine ⟨j,hj,?_⟩
 have:=h.fit (List.getElem_mem hj)
 unfold lvFit at this
 rw [if_pos e] at this
 simpa using this
def Wr (w:World) (g t z n i:Nat) (F:Nat→List Value):Prop:=∃ cur,Blk w g t cur∧n*z≤cur.size∧∀ k,k<i→∀ j,j<z→cur[k*z+j]?=(F k)[j]?
theorem Wr.kept {w w':World} {g t z n i:Nat} {F:Nat→List Value} {S:Nat→Prop} (h:Wr w g t z n i F) (k:Kept S w w') (hS:¬ S g):Wr w' g t z n i F:=by
 obtain ⟨cur,h1,h2,h3⟩:=h
 exact ⟨cur,h1.kept k hS,h2,h3⟩
theorem Wr.lt {w:World} {g t z n i:Nat} {F:Nat→List Value} (h:Wr w g t z n i F):g<w.heap.size:=by
 obtain ⟨cur,h1,-⟩:=h
 exact h1.lt
theorem Wr.room {w:World} {g t z n i q:Nat} {F:Nat→List Value} (h:Wr w g t z n i F) (hq:q<n*z):(∃ y,w.cell? ⟨g,q,none⟩=some y)∧w.frozen? ⟨g,q,none⟩=false:=by
 obtain ⟨cur,hb,hk,-⟩:=h
 exact ⟨⟨cur[q],by rw [hb.cell q];exact Array.getElem?_eq_getElem (by omega)⟩,hb.frozen q⟩
theorem set_get {cur:Array Value} {i j:Nat} {v:Value} (h:i<cur.size):(cur.setIfInBounds i v)[j]?=if i=j then some v else cur[j]?:=by
 rw [Array.getElem?_setIfInBounds]
 by_cases e:i=j
 ·subst e;simp [h]
 ·simp [e]
theorem CfW.off {B:Nat} {S:Nat→Prop} {w w':World} {v:Value} {C:Cf} (h:CfW B w v C) (k:Kept S w w') (o9:Off 9 S w) (o40:Off 43 S w) (o46:Off 47 S w) (o51:Off 54 S w):CfW B w' v C:=by
 obtain ⟨vL,vS,V,e,h1,h2⟩:=h.ex
 exact ⟨vL,vS,V,e,h1.off k o40,h2.off k o9 o51 o46⟩
theorem errV_two (p:Int × ByteArray):∃ q:Value,q=errV p∧((q=.nilIface∧p.1=0)∨∃ a b,q=.iface 74 (.agg #[.int .i64 0,.string a,.iface 38 (.int .i64 b)])∧p.1≠0):=by
 refine ⟨_,rfl,?_⟩
 by_cases h:p.1=0
 ·exact .inl ⟨if_pos h,h⟩
 ·exact .inr ⟨p.2,p.1,(if_neg h).trans rfl,h⟩
def lvF (L:List Lv) (k:Nat):List Value:=(L[k]?.map lvC).getD []
theorem lvF_at {L:List Lv} {k:Nat} (h:k<L.length):lvF L k=lvC L[k]:=by unfold lvF;rw [List.getElem?_eq_getElem h];rfl
def scF (S:List Sc) (V:List Value) (k:Nat):List Value:=match S[k]?,V[k]? with
 | some s,some v=>scC s v
 | _,_=>[]
theorem scF_at {S:List Sc} {V:List Value} {k:Nat} (h:k<S.length) (h':k<V.length):scF S V k=scC S[k] V[k]:=by
 unfold scF;rw [List.getElem?_eq_getElem h,List.getElem?_eq_getElem h']
theorem Wr.lvr {w:World} {g n:Nat} {L:List Lv} (h:Wr w g 43 10 n n (lvF L)) (hn:n=L.length):LvR w (some ⟨g,0,none⟩) L:=fun _=>by
 obtain ⟨cur,hb,-,hc⟩:=h
 refine ⟨g,0,rfl,hb.lt,fun k hk j hj=>?_⟩
 rw [Nat.zero_add,hb.cell,hc k (by omega) j hj,lvF_at hk]
theorem Wr.scr {w:World} {g n:Nat} {S:List Sc} {V:List Value} (h:Wr w g 47 5 n n (scF S V)) (hn:n=S.length):ScR w (some ⟨g,0,none⟩) S V:=fun _=>by
 obtain ⟨cur,hb,-,hc⟩:=h
 refine ⟨g,0,rfl,hb.lt,fun k hk hk' j hj=>?_⟩
 rw [Nat.zero_add,hb.cell,hc k (by omega) j hj,scF_at hk hk']
theorem Wr.off {w:World} {g t t' z n i:Nat} {F:Nat→List Value} (h:Wr w g t z n i F) (e:t≠t'):Off t' (fun k=>k=g) w:=by
 obtain ⟨cur,hb,-,-⟩:=h
 exact off_blk hb e
section
variable {w w2 wr W:World} {gd:Nat} {d6:Array Value} {aL aS:Option Addr} {p k k' r i i':Nat} {FL FL' FS:Nat→List Value}
end
theorem Wr.at10 {w:World} {g t n i:Nat} {F F':Nat→List Value} (h:Wr w g t 10 n n F) (hi:i<n) (v0 v1 v2 v3 v4 v5 v6 v7 v8 v9:Value) (hF:F' i=[v0,v1,v2,v3,v4,v5,v6,v7,v8,v9]) (hF':∀ k,k≠i→F' k=F k) :
  Wr ((((((((((w.setCell ⟨g,i*10,none⟩ v0).setCell ⟨g,i*10+1,none⟩ v1).setCell ⟨g,i*10+2,none⟩ v2).setCell ⟨g,i*10+3,none⟩ v3).setCell ⟨g,i*10+4,none⟩ v4).setCell ⟨g,i*10+5,none⟩ v5).setCell ⟨g,i*10+6,none⟩ v6).setCell ⟨g,i*10+7,none⟩ v7).setCell ⟨g,i*10+8,none⟩ v8).setCell ⟨g,i*10+9,none⟩ v9) g t 10 n n F'
  ∧ Kept (fun k=>k=g) w ((((((((((w.setCell ⟨g,i*10,none⟩ v0).setCell ⟨g,i*10+1,none⟩ v1).setCell ⟨g,i*10+2,none⟩ v2).setCell ⟨g,i*10+3,none⟩ v3).setCell ⟨g,i*10+4,none⟩ v4).setCell ⟨g,i*10+5,none⟩ v5).setCell ⟨g,i*10+6,none⟩ v6).setCell ⟨g,i*10+7,none⟩ v7).setCell ⟨g,i*10+8,none⟩ v8).setCell ⟨g,i*10+9,none⟩ v9):=by
 obtain ⟨cur,hb,hs,hc⟩:=h
 refine ⟨⟨_,(((((((((hb.set (i*10) v0).set (i*10+1) v1).set (i*10+2) v2).set (i*10+3) v3).set (i*10+4) v4).set (i*10+5) v5).set (i*10+6) v6).set (i*10+7) v7).set (i*10+8) v8).set (i*10+9) v9,by simpa using hs,fun k hk j hj=>?_⟩,
  ((((((((((Kept.refl (fun k=>k=g) w).setCell _ _ (.inl rfl)).setCell _ _ (.inl rfl)).setCell _ _ (.inl rfl)).setCell _ _ (.inl rfl)).setCell _ _ (.inl rfl)).setCell _ _ (.inl rfl)).setCell _ _ (.inl rfl)).setCell _ _ (.inl rfl)).setCell _ _ (.inl rfl)).setCell _ _ (.inl rfl)⟩
 have hlt:i*10+9<cur.size:=by omega
 by_cases h':k=i
 ·subst h'
  rw [hF]
  repeat rw [set_get (by first | omega | (simp only [Array.size_setIfInBounds];omega))]
  match j,hj with
  | 0,_=>simp
  | 1,_=>simp
  | 2,_=>simp
  | 3,_=>simp
  | 4,_=>simp
  | 5,_=>simp
  | 6,_=>simp
  | 7,_=>simp
  | 8,_=>simp
  | 9,_=>simp
 ·rw [hF' k h',← hc k hk j hj]
  repeat rw [set_get (by first | omega | (simp only [Array.size_setIfInBounds];omega))]
  repeat rw [if_neg (by omega)]
end Go.Proofs.YthkdbphgiobcdaaGreatDoor

namespace Go.Proofs.YthkdbphgiobcdaaGreatDoor
open Go.Shelf
def Tryz.laysItoa_ren:Go.Shelf.Ren:=⟨fun | 171=>149 | 243=>170 | 246=>183 | 283=>190 | 284=>191 | 285=>192 | 286=>193 | 129=>100 | 317=>196 | 318=>197 | 319=>198 | 320=>199 | 337=>201 | 338=>202 | n=>n,fun | 3=>3 | 9=>9 | 2=>2 | 4=>4 | 171=>215 | 0=>0 | 53=>29 | 37=>150 | 5=>5 | 173=>217 | 212=>221 | 51=>137 | 20=>20 | 213=>222 | 46=>44 | 232=>223 | 233=>224 | n=>n,fun | 17=>2 | 18=>3 | 19=>4 | n=>n⟩
theorem Tryz.laysItoa:Go.Proofs.LaysM.n171 Tryz.prog Tryz.laysItoa_ren:={
 mixed:=by kernel_rfl
 f129:=Tryz.func100.trans (congrArg some (by kernel_rfl))
 f171:=Tryz.func149.trans (congrArg some (by kernel_rfl))
 f243:=Tryz.func170.trans (congrArg some (by kernel_rfl))
 f246:=Tryz.func183.trans (congrArg some (by kernel_rfl))
 f283:=Tryz.func190.trans (congrArg some (by kernel_rfl))
 f284:=Tryz.func191.trans (congrArg some (by kernel_rfl))
 f285:=Tryz.func192.trans (congrArg some (by kernel_rfl))
 f286:=Tryz.func193.trans (congrArg some (by kernel_rfl))
 f317:=Tryz.func196.trans (congrArg some (by kernel_rfl))
 f318:=Tryz.func197.trans (congrArg some (by kernel_rfl))
 f319:=Tryz.func198.trans (congrArg some (by kernel_rfl))
 f320:=Tryz.func199.trans (congrArg some (by kernel_rfl))
 f337:=Tryz.func201.trans (congrArg some (by kernel_rfl))
 f338:=Tryz.func202.trans (congrArg some (by kernel_rfl))
 t0:=Tryz.underlying0
 a0:=Tryz.isAgg0
 z0:=Tryz.sizeOf0
 v0:=Tryz.zeroValue0
 t2:=Tryz.underlying2
 a2:=Tryz.isAgg2
 z2:=Tryz.sizeOf2
 v2:=Tryz.zeroValue2
 t3:=Tryz.underlying3
 a3:=Tryz.isAgg3
 z3:=Tryz.sizeOf3
 v3:=Tryz.zeroValue3
 t4:=Tryz.underlying4
 a4:=Tryz.isAgg4
 z4:=Tryz.sizeOf4
 v4:=Tryz.zeroValue4
 t5:=Tryz.underlying5
 a5:=Tryz.isAgg5
 z5:=Tryz.sizeOf5
 v5:=Tryz.zeroValue5
 t9:=Tryz.underlying9
 a9:=Tryz.isAgg9
 z9:=Tryz.sizeOf9
 v9:=Tryz.zeroValue9
 t20:=Tryz.underlying20
 a20:=Tryz.isAgg20
 z20:=Tryz.sizeOf20
 v20:=Tryz.zeroValue20
 t37:=Tryz.underlying150
 a37:=Tryz.isAgg150
 z37:=Tryz.sizeOf150
 v37:=Tryz.zeroValue150
 t46:=Tryz.underlying44
 a46:=Tryz.isAgg44
 z46:=Tryz.sizeOf44
 v46:=Tryz.zeroValue44
 t51:=Tryz.underlying137
 a51:=Tryz.isAgg137
 z51:=Tryz.sizeOf137
 v51:=Tryz.zeroValue137
 t53:=Tryz.underlying29
 a53:=Tryz.isAgg29
 z53:=Tryz.sizeOf29
 v53:=Tryz.zeroValue29
 t171:=Tryz.underlying215
 a171:=Tryz.isAgg215
 z171:=Tryz.sizeOf215
 v171:=Tryz.zeroValue215
 t173:=Tryz.underlying217
 a173:=Tryz.isAgg217
 z173:=Tryz.sizeOf217
 v173:=Tryz.zeroValue217
 t212:=Tryz.underlying221
 a212:=Tryz.isAgg221
 z212:=Tryz.sizeOf221
 v212:=Tryz.zeroValue221
 t213:=Tryz.underlying222
 a213:=Tryz.isAgg222
 z213:=Tryz.sizeOf222
 t232:=Tryz.underlying223
 a232:=Tryz.isAgg223
 z232:=Tryz.sizeOf223
 v232:=Tryz.zeroValue223
 t233:=Tryz.underlying224
 a233:=Tryz.isAgg224
 z233:=Tryz.sizeOf224
 v233:=Tryz.zeroValue224
 g17:=by kernel_rfl
 g18:=by kernel_rfl
 g19:=by kernel_rfl
 i0:=by kernel_rfl
 i2:=by kernel_rfl
 i3:=by kernel_rfl
 i4:=by kernel_rfl
 i5:=by kernel_rfl
 i9:=by kernel_rfl
 i20:=by kernel_rfl
 i37:=by kernel_rfl
 i46:=by kernel_rfl
 i51:=by kernel_rfl
 i53:=by kernel_rfl
 i171:=by kernel_rfl
 i173:=by kernel_rfl
 i212:=by kernel_rfl
 i232:=by kernel_rfl
 i233:=by kernel_rfl
 m17:=by kernel_rfl
 m18:=by kernel_rfl
 m19:=by kernel_rfl }
def Tryz.laysCompare_ren:Go.Shelf.Ren:=⟨fun | 106=>51 | 213=>101 | 265=>145 | n=>n,fun | 9=>9 | 3=>3 | n=>n,fun | n=>n⟩
theorem Tryz.laysCompare:Go.Proofs.Lays.n106 Tryz.prog Tryz.laysCompare_ren:={
 mixed:=by kernel_rfl
 f106:=Tryz.func51.trans (congrArg some (by kernel_rfl))
 f213:=Tryz.func101.trans (congrArg some (by kernel_rfl))
 f265:=Tryz.func145.trans (congrArg some (by kernel_rfl))
 t3:=Tryz.underlying3
 a3:=Tryz.isAgg3
 z3:=Tryz.sizeOf3
 v3:=Tryz.zeroValue3
 t9:=Tryz.underlying9
 a9:=Tryz.isAgg9
 z9:=Tryz.sizeOf9
 v9:=Tryz.zeroValue9 }
def Tryz.laysCmpInt_ren:Go.Shelf.Ren:=⟨fun | 122=>54 | 215=>110 | n=>n,fun | 3=>3 | 4=>4 | n=>n,fun | n=>n⟩
theorem Tryz.laysCmpInt:Go.Proofs.Lays.n122 Tryz.prog Tryz.laysCmpInt_ren:={
 mixed:=by kernel_rfl
 f122:=Tryz.func54.trans (congrArg some (by kernel_rfl))
 f215:=Tryz.func110.trans (congrArg some (by kernel_rfl))
 t3:=Tryz.underlying3
 a3:=Tryz.isAgg3
 z3:=Tryz.sizeOf3
 v3:=Tryz.zeroValue3
 t4:=Tryz.underlying4
 a4:=Tryz.isAgg4
 z4:=Tryz.sizeOf4
 v4:=Tryz.zeroValue4 }
def Tryz.sortLv_ren:Go.Shelf.Ren:=⟨fun | 6=>20 | 15=>50 | 14=>49 | 28=>99 | 29=>100 | 20=>91 | 21=>92 | 22=>93 | 23=>94 | 24=>95 | 25=>96 | 26=>97 | 27=>98 | 46=>140 | 47=>141 | 48=>142 | 49=>143 | 50=>144 | 57=>168 | n=>n,fun | 22=>22 | 24=>43 | 25=>59 | 3=>3 | 39=>44 | 0=>0 | 53=>137 | 55=>29 | 4=>4 | 46=>130 | 45=>129 | 50=>134 | 5=>5 | 9=>9 | 66=>180 | 70=>184 | 76=>198 | 77=>199 | n=>n,fun | n=>n⟩
theorem Tryz.sortLv:Go.Proofs.SlLaysF0.n6 Tryz.prog Tryz.sortLv_ren:={
 mixed:=by kernel_rfl
 f6:=⟨Tryz.f20.name,by decide,Tryz.func20.trans (congrArg some (by kernel_rfl))⟩
 f14:=⟨Tryz.f49.name,by decide,Tryz.func49.trans (congrArg some (by kernel_rfl))⟩
 f15:=Tryz.func50.trans (congrArg some (by kernel_rfl))
 f20:=⟨Tryz.f91.name,by decide,Tryz.func91.trans (congrArg some (by kernel_rfl))⟩
 f21:=⟨Tryz.f92.name,by decide,Tryz.func92.trans (congrArg some (by kernel_rfl))⟩
 f22:=⟨Tryz.f93.name,by decide,Tryz.func93.trans (congrArg some (by kernel_rfl))⟩
 f23:=⟨Tryz.f94.name,by decide,Tryz.func94.trans (congrArg some (by kernel_rfl))⟩
 f24:=⟨Tryz.f95.name,by decide,Tryz.func95.trans (congrArg some (by kernel_rfl))⟩
 f25:=⟨Tryz.f96.name,by decide,Tryz.func96.trans (congrArg some (by kernel_rfl))⟩
 f26:=⟨Tryz.f97.name,by decide,Tryz.func97.trans (congrArg some (by kernel_rfl))⟩
 f27:=⟨Tryz.f98.name,by decide,Tryz.func98.trans (congrArg some (by kernel_rfl))⟩
 f28:=Tryz.func99.trans (congrArg some (by kernel_rfl))
 f29:=Tryz.func100.trans (congrArg some (by kernel_rfl))
 f46:=⟨Tryz.f140.name,by decide,Tryz.func140.trans (congrArg some (by kernel_rfl))⟩
 f47:=Tryz.func141.trans (congrArg some (by kernel_rfl))
 f48:=Tryz.func142.trans (congrArg some (by kernel_rfl))
 f49:=⟨Tryz.f143.name,by decide,Tryz.func143.trans (congrArg some (by kernel_rfl))⟩
 f50:=⟨Tryz.f144.name,by decide,Tryz.func144.trans (congrArg some (by kernel_rfl))⟩
 f57:=⟨Tryz.f168.name,by decide,Tryz.func168.trans (congrArg some (by kernel_rfl))⟩
 t0:=Tryz.underlying0
 a0:=Tryz.isAgg0
 z0:=Tryz.sizeOf0
 v0:=Tryz.zeroValue0
 t3:=Tryz.underlying3
 a3:=Tryz.isAgg3
 z3:=Tryz.sizeOf3
 v3:=Tryz.zeroValue3
 t4:=Tryz.underlying4
 a4:=Tryz.isAgg4
 z4:=Tryz.sizeOf4
 v4:=Tryz.zeroValue4
 t5:=Tryz.underlying5
 a5:=Tryz.isAgg5
 z5:=Tryz.sizeOf5
 v5:=Tryz.zeroValue5
 t9:=Tryz.underlying9
 a9:=Tryz.isAgg9
 z9:=Tryz.sizeOf9
 v9:=Tryz.zeroValue9
 t22:=Tryz.underlying22
 a22:=Tryz.isAgg22
 z22:=Tryz.sizeOf22
 v22:=Tryz.zeroValue22
 t25:=Tryz.underlying59
 a25:=Tryz.isAgg59
 z25:=Tryz.sizeOf59
 v25:=Tryz.zeroValue59
 t39:=Tryz.underlying44
 a39:=Tryz.isAgg44
 z39:=Tryz.sizeOf44
 v39:=Tryz.zeroValue44
 t45:=Tryz.underlying129
 a45:=Tryz.isAgg129
 z45:=Tryz.sizeOf129
 v45:=Tryz.zeroValue129
 t46:=Tryz.underlying130
 a46:=Tryz.isAgg130
 z46:=Tryz.sizeOf130
 v46:=Tryz.zeroValue130
 t50:=Tryz.underlying134
 a50:=Tryz.isAgg134
 z50:=Tryz.sizeOf134
 v50:=Tryz.zeroValue134
 t53:=Tryz.underlying137
 a53:=Tryz.isAgg137
 z53:=Tryz.sizeOf137
 v53:=Tryz.zeroValue137
 t55:=Tryz.underlying29
 a55:=Tryz.isAgg29
 z55:=Tryz.sizeOf29
 v55:=Tryz.zeroValue29
 t66:=Tryz.underlying180
 a66:=Tryz.isAgg180
 z66:=Tryz.sizeOf180
 v66:=Tryz.zeroValue180
 t70:=Tryz.underlying184
 a70:=Tryz.isAgg184
 z70:=Tryz.sizeOf184
 v70:=Tryz.zeroValue184
 t76:=Tryz.underlying198
 a76:=Tryz.isAgg198
 z76:=Tryz.sizeOf198
 v76:=Tryz.zeroValue198
 t77:=Tryz.underlying199
 a77:=Tryz.isAgg199
 z77:=Tryz.sizeOf199
 v77:=Tryz.zeroValue199 }
def Tryz.sortSc_ren:Go.Shelf.Ren:=⟨fun | 6=>22 | 15=>50 | 14=>52 | 28=>99 | 29=>100 | 20=>102 | 21=>103 | 22=>104 | 23=>105 | 24=>106 | 25=>107 | 26=>108 | 27=>109 | 46=>146 | 47=>141 | 48=>142 | 49=>147 | 50=>148 | 57=>169 | n=>n,fun | 22=>23 | 24=>47 | 25=>61 | 3=>3 | 39=>44 | 0=>0 | 53=>137 | 55=>29 | 4=>4 | 46=>130 | 45=>129 | 50=>134 | 5=>5 | 9=>9 | 66=>180 | 70=>184 | 76=>198 | 77=>199 | n=>n,fun | n=>n⟩
theorem Tryz.sortSc:Go.Proofs.SlLaysF0.n6 Tryz.prog Tryz.sortSc_ren:={
 mixed:=by kernel_rfl
 f6:=⟨Tryz.f22.name,by decide,Tryz.func22.trans (congrArg some (by kernel_rfl))⟩
 f14:=⟨Tryz.f52.name,by decide,Tryz.func52.trans (congrArg some (by kernel_rfl))⟩
 f15:=Tryz.func50.trans (congrArg some (by kernel_rfl))
 f20:=⟨Tryz.f102.name,by decide,Tryz.func102.trans (congrArg some (by kernel_rfl))⟩
 f21:=⟨Tryz.f103.name,by decide,Tryz.func103.trans (congrArg some (by kernel_rfl))⟩
 f22:=⟨Tryz.f104.name,by decide,Tryz.func104.trans (congrArg some (by kernel_rfl))⟩
 f23:=⟨Tryz.f105.name,by decide,Tryz.func105.trans (congrArg some (by kernel_rfl))⟩
 f24:=⟨Tryz.f106.name,by decide,Tryz.func106.trans (congrArg some (by kernel_rfl))⟩
 f25:=⟨Tryz.f107.name,by decide,Tryz.func107.trans (congrArg some (by kernel_rfl))⟩
 f26:=⟨Tryz.f108.name,by decide,Tryz.func108.trans (congrArg some (by kernel_rfl))⟩
 f27:=⟨Tryz.f109.name,by decide,Tryz.func109.trans (congrArg some (by kernel_rfl))⟩
 f28:=Tryz.func99.trans (congrArg some (by kernel_rfl))
 f29:=Tryz.func100.trans (congrArg some (by kernel_rfl))
 f46:=⟨Tryz.f146.name,by decide,Tryz.func146.trans (congrArg some (by kernel_rfl))⟩
 f47:=Tryz.func141.trans (congrArg some (by kernel_rfl))
 f48:=Tryz.func142.trans (congrArg some (by kernel_rfl))
 f49:=⟨Tryz.f147.name,by decide,Tryz.func147.trans (congrArg some (by kernel_rfl))⟩
 f50:=⟨Tryz.f148.name,by decide,Tryz.func148.trans (congrArg some (by kernel_rfl))⟩
 f57:=⟨Tryz.f169.name,by decide,Tryz.func169.trans (congrArg some (by kernel_rfl))⟩
 t0:=Tryz.underlying0
 a0:=Tryz.isAgg0
 z0:=Tryz.sizeOf0
 v0:=Tryz.zeroValue0
 t3:=Tryz.underlying3
 a3:=Tryz.isAgg3
 z3:=Tryz.sizeOf3
 v3:=Tryz.zeroValue3
 t4:=Tryz.underlying4
 a4:=Tryz.isAgg4
 z4:=Tryz.sizeOf4
 v4:=Tryz.zeroValue4
 t5:=Tryz.underlying5
 a5:=Tryz.isAgg5
 z5:=Tryz.sizeOf5
 v5:=Tryz.zeroValue5
 t9:=Tryz.underlying9
 a9:=Tryz.isAgg9
 z9:=Tryz.sizeOf9
 v9:=Tryz.zeroValue9
 t22:=Tryz.underlying23
 a22:=Tryz.isAgg23
 z22:=Tryz.sizeOf23
 v22:=Tryz.zeroValue23
 t25:=Tryz.underlying61
 a25:=Tryz.isAgg61
 z25:=Tryz.sizeOf61
 v25:=Tryz.zeroValue61
 t39:=Tryz.underlying44
 a39:=Tryz.isAgg44
 z39:=Tryz.sizeOf44
 v39:=Tryz.zeroValue44
 t45:=Tryz.underlying129
 a45:=Tryz.isAgg129
 z45:=Tryz.sizeOf129
 v45:=Tryz.zeroValue129
 t46:=Tryz.underlying130
 a46:=Tryz.isAgg130
 z46:=Tryz.sizeOf130
 v46:=Tryz.zeroValue130
 t50:=Tryz.underlying134
 a50:=Tryz.isAgg134
 z50:=Tryz.sizeOf134
 v50:=Tryz.zeroValue134
 t53:=Tryz.underlying137
 a53:=Tryz.isAgg137
 z53:=Tryz.sizeOf137
 v53:=Tryz.zeroValue137
 t55:=Tryz.underlying29
 a55:=Tryz.isAgg29
 z55:=Tryz.sizeOf29
 v55:=Tryz.zeroValue29
 t66:=Tryz.underlying180
 a66:=Tryz.isAgg180
 z66:=Tryz.sizeOf180
 v66:=Tryz.zeroValue180
 t70:=Tryz.underlying184
 a70:=Tryz.isAgg184
 z70:=Tryz.sizeOf184
 v70:=Tryz.zeroValue184
 t76:=Tryz.underlying198
 a76:=Tryz.isAgg198
 z76:=Tryz.sizeOf198
 v76:=Tryz.zeroValue198
 t77:=Tryz.underlying199
 a77:=Tryz.isAgg199
 z77:=Tryz.sizeOf199
 v77:=Tryz.zeroValue199 }
end Go.Proofs.YthkdbphgiobcdaaGreatDoor

namespace Go.Proofs.YthkdbphgiobcdaaGreatDoor
def insB {α:Type} (lt:α→α→Bool) (x:α):List α→List α
 | []=>[x]
 | y :: r=>if lt y x then y :: insB lt x r else x :: y :: r
def srtB {α:Type} (lt:α→α→Bool):List α→List α
 | []=>[]
 | x :: r=>insB lt x (srtB lt r)
section
variable {α:Type} {lt:α→α→Bool}
theorem insB_perm (x:α):∀ L:List α,(insB lt x L).Perm (x :: L)
 | []=>List.Perm.refl _
 | y :: r=>by
  unfold insB
  split
  ·exact ((insB_perm x r).cons y).trans (List.Perm.swap x y r)
  ·exact List.Perm.refl _
theorem srtB_perm:∀ L:List α,(srtB lt L).Perm L
 | []=>List.Perm.refl _
 | x :: r=>(insB_perm x (srtB lt r)).trans ((srtB_perm r).cons x)
structure Strict (lt:α→α→Bool):Prop where
 no:∀ a,lt a a=false
 tr:∀ a b c,lt a b=true→lt b c=true→lt a c=true
theorem Strict.asym (h:Strict lt) {a b:α} (h1:lt a b=true):lt b a=false:=by
 cases e:lt b a with
 | false=>rfl
 | true=>have:=h.tr a b a h1 e;rw [h.no] at this;cases this
def Apt (lt:α→α→Bool) (L:List α):Prop:=L.Pairwise fun a b=>lt a b=true∨lt b a=true
theorem Apt.perm {L M:List α} (h:Apt lt L) (p:M.Perm L):Apt lt M:=(p.pairwise_iff (fun e=>Or.symm e)).2 h
theorem insB_sorted (hs:Strict lt) (x:α):∀ L:List α,L.Pairwise (fun a b=>lt a b=true)→(∀ y∈L,lt x y=true∨lt y x=true)→(insB lt x L).Pairwise (fun a b=>lt a b=true)
 | [],_,_=>List.pairwise_singleton ..
 | y :: r,h,ha=>by
  obtain ⟨h1,h2⟩:=List.pairwise_cons.1 h
  unfold insB
  split
  ·rename_i c
   refine List.pairwise_cons.2 ⟨fun z hz=>?_,insB_sorted hs x r h2 (fun z hz=>ha z (List.mem_cons_of_mem _ hz))⟩
   rcases List.mem_cons.1 ((insB_perm x r).mem_iff.1 hz) with rfl | hz
   ·exact c
   ·exact h1 z hz
  ·rename_i c
   have hx:lt x y=true:=(ha y (List.mem_cons_self ..)).resolve_right c
   refine List.pairwise_cons.2 ⟨fun z hz=>?_,h⟩
   rcases List.mem_cons.1 hz with rfl | hz
   ·exact hx
   ·exact hs.tr _ _ _ hx (h1 z hz)
theorem srtB_sorted (hs:Strict lt):∀ L:List α,Apt lt L→(srtB lt L).Pairwise (fun a b=>lt a b=true)
 | [],_=>List.Pairwise.nil
 | x :: r,h=>by
  obtain ⟨h1,h2⟩:=List.pairwise_cons.1 h
  exact insB_sorted hs x _ (srtB_sorted hs r h2) (fun y hy=>h1 y ((srtB_perm r).mem_iff.1 hy))
theorem sorted_one (hs:Strict lt):∀ {A B:List α},A.Pairwise (fun a b=>lt a b=true)→B.Pairwise (fun a b=>lt a b=true)→A.Perm B→A=B
 | [],B,_,_,p=>(List.nil_perm.1 p).symm
 | a :: A,[],_,_,p=>List.perm_nil.1 p
 | a :: A,b :: B,hA,hB,p=>by
  obtain ⟨a1,a2⟩:=List.pairwise_cons.1 hA
  obtain ⟨b1,b2⟩:=List.pairwise_cons.1 hB
  have e:a=b:=by
   rcases List.mem_cons.1 (p.mem_iff.1 (List.mem_cons_self ..)) with h | h
   ·exact h
   ·rcases List.mem_cons.1 (p.mem_iff.2 (List.mem_cons_self ..)) with h' | h'
    ·exact h'.symm
    ·have:=hs.asym (b1 a h);rw [a1 b h'] at this;cases this
  subst e
  rw [sorted_one hs a2 b2 (p.cons_inv)]
theorem srtB_one (hs:Strict lt) {L M:List α} (h:Apt lt L) (p:M.Perm L) (hm:M.Pairwise fun a b=>lt b a=false):M=srtB lt L:=by
 have h1:M.Pairwise (fun a b=>lt a b=true):=by
  have:=hm.and (h.perm p)
  exact this.imp (fun ⟨e,k⟩=>k.resolve_right (by rw [e];decide))
 exact sorted_one hs h1 (srtB_sorted hs L h) (p.trans (srtB_perm L).symm)
end
/-! Texts, byte by byte. -/
theorem less_eq:∀ (x y:List UInt8),Op.bytesLess x y=decide (x<y)
 | [],[]=>by simp [Op.bytesLess]
 | _ :: _,[]=>by simp [Op.bytesLess]
 | [],_ :: _=>by simp [Op.bytesLess]
 | a :: x,b :: y=>by
  rw [Op.bytesLess,less_eq x y]
  simp only [List.cons_lt_cons_iff]
  by_cases h1:a<b <;> by_cases h2:a=b <;> by_cases h3:x<y <;> simp [h1,h2,h3]
def txLt (x y:ByteArray):Bool:=Op.bytesLess x.data.toList y.data.toList
theorem txLt_iff (x y:ByteArray):txLt x y=true ↔ x.data.toList<y.data.toList:=by unfold txLt;rw [less_eq,decide_eq_true_iff]
theorem txLt_of (x y:ByteArray):Op.bytesLess x.toList y.toList=txLt x y:=by unfold txLt;rw [ByteArray.toList_eq,ByteArray.toList_eq]
theorem data_inj {x y:ByteArray} (h:x.data.toList=y.data.toList):x=y:=by
 cases x;cases y;simp_all
theorem txLt_strict:Strict txLt:=⟨fun a=>by
  cases e:txLt a a with
  | false=>rfl
  | true=>exact absurd ((txLt_iff _ _).1 e) (List.lt_irrefl _),
 fun a b c h1 h2=>(txLt_iff _ _).2 (List.lt_trans ((txLt_iff _ _).1 h1) ((txLt_iff _ _).1 h2))⟩
theorem txLt_apart {x y:ByteArray} (h:x≠y):txLt x y=true∨txLt y x=true:=by
 by_cases h1:x.data.toList<y.data.toList
 ·exact .inl ((txLt_iff _ _).2 h1)
 ·by_cases h2:y.data.toList<x.data.toList
  ·exact .inr ((txLt_iff _ _).2 h2)
  ·exact absurd (data_inj (List.le_antisymm (List.not_lt.1 h2) (List.not_lt.1 h1))) h
theorem cmpB_lt:∀ x y:List UInt8,decide (Lib.compareBytes x y<0)=Op.bytesLess x y
 | [],[]=>rfl
 | [],_ :: _=>rfl
 | _ :: _,[]=>rfl
 | a :: x,b :: y=>by
  have ih:=cmpB_lt x y
  unfold Lib.compareBytes Op.bytesLess
  by_cases h1:a<b
  ·rw [if_pos h1];simp [h1]
  ·rw [if_neg h1]
   by_cases h2:b<a
   ·rw [if_pos h2]
    have h3:(a == b)=false:=by
     rw [beq_eq_false_iff_ne]
     rintro rfl
     exact h1 h2
    rw [h3]
    simp [h1]
   ·rw [if_neg h2,ih]
    have h3:(a == b)=true:=by
     rw [beq_iff_eq]
     exact UInt8.le_antisymm (UInt8.not_lt.1 h2) (UInt8.not_lt.1 h1)
    rw [h3]
    simp [h1]
end Go.Proofs.YthkdbphgiobcdaaGreatDoor
