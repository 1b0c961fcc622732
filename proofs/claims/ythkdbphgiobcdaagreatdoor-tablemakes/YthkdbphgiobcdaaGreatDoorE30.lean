/-
  The reference of layers 8 and 10 (RbA).
  The reference of layers 8 and 10 (RefB).
  The reference of layers 8 and 10 (RefD).
  The reference of layers 8 and 10 (RefA).
-/
import Derived.Test.YthkdbphgiobcdaaGreatDoorE1
import Derived.Test.YthkdbphgiobcdaaGreatDoorE5
import Derived.Test.YthkdbphgiobcdaaGreatDoorE15
import Derived.Test.YthkdbphgiobcdaaGreatDoorE8
import Derived.Test.YthkdbphgiobcdaaGreatDoorE4
import Derived.Test.YthkdbphgiobcdaaGreatDoorE17
import Derived.Deep.AppendLies
import Derived.Deep.RegionLaw
import Derived.Laws.AppendOwnNone
import Derived.Deep.SlicePairs
namespace Go.Proofs.YthkdbphgiobcdaaGreatDoor
open Go.RowKit Go.Lib
theorem scCs_appendR:∀ (A:List Sc) (V:List Value) (s:Sc) (v:Value),V.length=A.length→scCs (A ++ [s]) (V ++ [v])=scCs A V++scC s v
 | [],[],s,v,_=>by simp [scCs]
 | a :: A,u :: V,s,v,h=>by simp [scCs,scCs_appendR A V s v (by simpa using h)]
 | [],_ :: _,_,_,h=>by simp at h
 | _ :: _,[],_,_,h=>by simp at h
theorem rowLv {B:Nat} {w:World} {v:Value} {L:List Lv} (h:LvOwn B w v L):(v=.slice none 0 0∧L=[])∨∃ g cap,v=.slice (some ⟨g,0,none⟩) L.length cap∧g<w.heap.size∧L.length≤cap∧∀ k (h:k<L.length),∀ j,j<10→w.cell? ⟨g,k*10+j,none⟩=(lvC L[k])[j]?:=by
 rcases id h.2 with ⟨rfl,e⟩ | ⟨g,cap,cur,rfl,hb,hg,hc,hm,r⟩
 ·exact .inl ⟨rfl,List.length_eq_zero_iff.1 e⟩
 ·refine .inr ⟨g,cap,rfl,(h.lt g rfl).2,hc,fun k hk j hj=>?_⟩
  have h':w.ownsRow B 43 10 (.slice (some ⟨g,0,none⟩) L.length cap) L.length (lvCs L):=h
  rw [h'.cellAt _ (by omega),lvCs_at L k j hk hj]
theorem rowSc {B:Nat} {w:World} {v:Value} {L:List Sc} {V:List Value} (h:ScOwn B w v L V):(v=.slice none 0 0∧L=[])∨∃ g cap,v=.slice (some ⟨g,0,none⟩) L.length cap∧g<w.heap.size∧L.length≤cap∧∀ k (h:k<L.length) (h':k<V.length),∀ j,j<5→w.cell? ⟨g,k*5+j,none⟩=(scC L[k] V[k])[j]?:=by
 rcases id h.own.2 with ⟨rfl,e⟩ | ⟨g,cap,cur,rfl,hb,hg,hc,hm,r⟩
 ·exact .inl ⟨rfl,List.length_eq_zero_iff.1 e⟩
 ·refine .inr ⟨g,cap,rfl,(h.own.lt g rfl).2,hc,fun k hk hk' j hj=>?_⟩
  rw [h.own.cellAt _ (by omega),scCs_at L V k j hk hk' hj]
theorem info39:(Tryz.prog.info? 43).map (fun i=>(i.zero,i.size,i.bytes))=some (some (.agg #[.string ⟨#[]⟩,.int .i64 0,.int .i64 0,.int .i64 0,.int .i64 0,.int .i64 0,.int .i64 0,.int .i64 0,.int .i64 0,.int .i64 0]),10,88):=by kernel_rfl
theorem own_form {B e size n:Nat} {w:World} {v:Value} {xs:List Value} (h:w.ownsRow B e size v n xs):∃ a c,v=.slice a n c:=by
 rcases h.2 with ⟨rfl,rfl⟩ | ⟨g,cap,cur,rfl,_⟩
 ·exact ⟨none,0,rfl⟩
 ·exact ⟨_,_,rfl⟩
def OffR (t:Nat) (S:Nat→Prop) (w:World):Prop:=∀ (b:Nat) (cur:Array Value) (f:Nat × Nat),w.heap[b]?=some (.cells cur t f)→¬ S b
theorem off_blkR {w:World} {R t u:Nat} {cs:Array Value} (h:Blk w R t cs) (e:t≠u):OffR u (fun k=>k=R) w:=fun _ _ _ hb he=>h.ne' hb e he.symm
section
variable {B:Nat} {S:Nat→Prop} {w w':World} {v:Value}
theorem Blk.off {b t:Nat} {cs:Array Value} (h:Blk w b t cs) (k:Kept S w w') (o:OffR t S w):Blk w' b t cs:=h.kept k (o b _ _ h)
end
section
variable {B:Nat} {S:Nat→Prop} {w w':World} {v:Value}
theorem owns_offR {e size n:Nat} {xs:List Value} (h:w.ownsRow B e size v n xs) (k:Kept S w w') (o:OffR e S w):w'.ownsRow B e size v n xs :=
 owns_kept h k (fun g hg=>by obtain ⟨cur,hb⟩:=owns_type h hg;exact o g _ _ hb)
end
section
variable {B:Nat} {S:Nat→Prop} {w w':World} {v:Value}
theorem RlOwn.off {rs:List Rl} (h:RlOwn B w v rs) (k:Kept S w w') (o9:OffR 9 S w) (o73:OffR 54 S w):RlOwn B w' v rs:=by
 obtain ⟨cs,ho,hr⟩:=h
 exact ⟨cs,owns_offR ho k o73,RlsV.kept k o9 cs rs hr⟩
end
section
variable {B:Nat} {S:Nat→Prop} {w w':World} {v:Value}
theorem ScOwn.off {ss:List Sc} {V:List Value} (h:ScOwn B w v ss V) (k:Kept S w w') (o9:OffR 9 S w) (o42:OffR 47 S w) (o73:OffR 54 S w):ScOwn B w' v ss V :=
 ⟨h.len,owns_offR h.own k o42,fun i hi hi'=>(h.rls i hi hi').off k o9 o73⟩
end
section
variable {B:Nat} {S:Nat→Prop} {w w':World} {v:Value}
theorem LvOwn.off {L:List Lv} (h:LvOwn B w v L) (k:Kept S w w') (o:OffR 43 S w):LvOwn B w' v L:=owns_offR h k o
end
def CfV (B:Nat) (w:World) (v:Value) (C:Cf):Prop :=
 ∃ vL vS V,v=.agg #[.int .i64 C.total,.int .i64 C.period,.int .i64 C.perSeat,.int .i64 C.most,vL,vS]∧LvOwn B w vL C.levels∧ScOwn B w vS C.schemas V
theorem info42:(Tryz.prog.info? 47).map (fun i=>(i.zero,i.size,i.bytes))=some (some (.agg #[.string ⟨#[]⟩,.string ⟨#[]⟩,.int .i64 0,.int .i64 0,.slice none 0 0]),5,72):=by kernel_rfl
theorem Lst.mono {B B':Nat} {w:World} {v:Value} {L:List ByteArray} (h:Lst B w v L) (k:B'≤B):Lst B' w v L:=by
 obtain ⟨a,c,e,hr,hc⟩:=h
 exact ⟨a,c,e,hr.mono k,hc⟩
theorem RlV.mono {B B':Nat} {w:World} {cs:List Value} {r:Rl} (h:RlV B w cs r) (k:B'≤B):RlV B' w cs r:=by
 obtain ⟨v0,v1,v2,v3,v4,e,h0,h1,h2,h3,h4⟩:=h
 exact ⟨v0,v1,v2,v3,v4,e,h0.mono k,h1.mono k,h2.mono k,h3.mono k,h4.mono k⟩
theorem RlsV.mono {B B':Nat} {w:World} (k:B'≤B):∀ (cs:List Value) (rs:List Rl),RlsV B w cs rs→RlsV B' w cs rs
 | _,[],h=>h
 | _,_ :: rs,⟨c,cs',e,hr,ht⟩=>⟨c,cs',e,hr.mono k,RlsV.mono k cs' rs ht⟩
theorem ScOwn.mono {B B':Nat} {w:World} {v:Value} {ss:List Sc} {V:List Value} (h:ScOwn B w v ss V) (k:B'≤B):ScOwn B' w v ss V :=
 ⟨h.len,owns_mono h.own k,fun i hi hi'=>by obtain ⟨cs,ho,hr⟩:=h.rls i hi hi';exact ⟨cs,owns_mono ho k,RlsV.mono k cs _ hr⟩⟩
def LvRd (w:World) (a:Option Addr) (L:List Lv):Prop:=0<L.length→∃ g,a=some ⟨g,0,none⟩∧g<w.heap.size∧∀ k (h:k<L.length),∀ j,j<10→w.cell? ⟨g,k*10+j,none⟩=(lvC L[k])[j]?
def ScRd (w:World) (a:Option Addr) (L:List Sc) (V:List Value):Prop:=0<L.length→∃ g,a=some ⟨g,0,none⟩∧g<w.heap.size∧∀ k (h:k<L.length) (h':k<V.length),∀ j,j<5→w.cell? ⟨g,k*5+j,none⟩=(scC L[k] V[k])[j]?
theorem lv_rd {B:Nat} {w:World} {a:Option Addr} {c:Nat} {L:List Lv} (h:LvOwn B w (.slice a L.length c) L):LvRd w a L:=fun hn=>by
 rcases rowLv h with ⟨_,rfl⟩ | ⟨g,cap,e,hg,hc,hcs⟩
 ·simp at hn
 ·injection e with e
  exact ⟨g,e,hg,hcs⟩
theorem sc_rd {B:Nat} {w:World} {a:Option Addr} {c:Nat} {L:List Sc} {V:List Value} (h:ScOwn B w (.slice a L.length c) L V):ScRd w a L V:=fun hn=>by
 rcases rowSc h with ⟨_,rfl⟩ | ⟨g,cap,e,hg,hc,hcs⟩
 ·simp at hn
 ·injection e with e
  exact ⟨g,e,hg,hcs⟩
theorem own_len {B e size n:Nat} {w:World} {v:Value} {xs:List Value} (h:w.ownsRow B e size v n xs):n≤9223372036854775807:=by
 rcases h.2 with ⟨_,rfl⟩ | ⟨g,cap,cur,_,_,_,h1,h2,_⟩
 ·omega
 ·unfold maxLen at h2;omega
theorem LvRd.grown {w w':World} {a:Option Addr} {L:List Lv} (h:LvRd w a L) (b:Below w.heap.size w w'):LvRd w' a L:=fun hn=>by
 obtain ⟨g,e,hg,hc⟩:=h hn
 exact ⟨g,e,Nat.lt_of_lt_of_le hg b.size,fun k hk j hj=>(b.cell (p:=⟨g,k*10+j,none⟩) hg).trans (hc k hk j hj)⟩
theorem count_le (s:ByteArray) (c:UInt8):s.data.toList.count c≤s.size:=by
 rw [←size_list];exact List.count_le_length
theorem gt_dropLast {L:List ByteArray} {k:Nat} (h:k<L.dropLast.length):gt L.dropLast k=gt L k:=by
 rw [List.length_dropLast] at h
 rw [gt_eq (by rw [List.length_dropLast];exact h),gt_eq (by omega),List.getElem_dropLast]
theorem RowL.dropLast {w:World} {a:Option Addr} {L:List ByteArray} (h:RowL w a L):RowL w a L.dropLast:=by
 intro hn
 have hn':0<L.length:=by rw [List.length_dropLast] at hn;omega
 obtain ⟨b,off,e,hb,hc⟩:=h hn'
 refine ⟨b,off,e,hb,fun k hk=>?_⟩
 rw [gt_dropLast hk]
 rw [List.length_dropLast] at hk
 exact hc k (by omega)
theorem row_ownedY {w:World} {B c A:Nat} {L:List ByteArray} (h:w.ownsRow B 9 1 (.slice (some ⟨A,0,none⟩) L.length c) L.length (L.map Value.string)):RowY B w (some ⟨A,0,none⟩) L:=by
 intro hn
 rcases id h.2 with ⟨e,_⟩ | ⟨g,cap,cur,e,hb,hg,_,_,_,ht⟩
 ·cases e
 ·cases e
  refine ⟨A,0,cur,(0,0),rfl,hb,hg,fun k hk=>?_⟩
  have h1:=h.cellAt k (by omega)
  rw [List.getElem?_map,List.getElem?_eq_getElem hk] at h1
  have h2:w.cell? ⟨A,k,none⟩=cur[k]?:=by simp [World.cell?,hg]
  rw [Nat.zero_add,← h2,h1,gt_eq hk]
  rfl
theorem RowY.dropLast {B:Nat} {w:World} {a:Option Addr} {L:List ByteArray} (h:RowY B w a L):RowY B w a L.dropLast:=by
 intro hn
 obtain ⟨b,off,cur,f,e,hB,hb,hc⟩:=h (by rw [List.length_dropLast] at hn;omega)
 refine ⟨b,off,cur,f,e,hB,hb,fun k hk=>?_⟩
 rw [gt_dropLast hk]
 rw [List.length_dropLast] at hk
 exact hc k (by omega)
theorem list_len (s:ByteArray):(listOf s).length≤8:=by
 unfold listOf
 split
 ·simp
 ·split
  ·simp
  ·split
   ·rename_i h;exact (good_iff.1 h).1
   ·simp
theorem step_copy {P:Program} {ops:Array Oper} {o:Oper} {a:Act} {w:World} {K:Act→World→Prop} {Q:Exit→Act→World→Prop} {E:Prop} (hgd:o.guard=none) (s x:Operand) (t:TypeId)
  (ho:o.op=.call { callee:=.builtin .append,args:=#[s,x],argTypes:=#[t,t] })
  (base:Nat) (e:TypeId) (i:TypeInfo) (z:Value) (size bytes:Nat) (ht:P.underlying t=some (.slice e)) (hi:P.info? e=some i) (hz:i.zero=some z)
  (hsize:i.size=size) (hby:i.bytes=bytes) (hzs:z.cells.size=size) (hsz:0<size)
  (q:Nat) (hs:a.eval s=.slice (some ⟨q,0,none⟩) 0 0) (hq:Blk w q e #[]) (hbq:base≤q)
  (B':Nat) (ax:Option Addr) (n c:Nat) (hx:a.eval x=.slice ax n c) (xs:List Value) (hown:w.ownsRow B' e size (.slice ax n c) n xs) (h1:∀ u∈xs,u.oneCell'=true)
  (h63:n≤maxLen) (hbytes:n*bytes≤140737488355328)
  (h:∀ g cap w',w'.ownsRow base e size (.slice (some ⟨g,0,none⟩) n cap) n xs→w.grownBy w' (some q)→g<w'.heap.size→K (a.put o.dst (.slice (some ⟨g,0,none⟩) n cap)) w') :
  if Region.wanted o (yielded ops a.tmps)=true then Oper.wp P o a w K Q else E:=by
 have own0:w.ownsRow base e size (.slice (some ⟨q,0,none⟩) 0 0) 0 []:=⟨by simp,.inr ⟨q,0,#[],rfl,hbq,hq,Nat.le_refl _,Nat.zero_le _,by simp,by simp⟩⟩
 have gr:w.grownBy w (some q):=by constructor <;> intros <;> first | rfl | exact Nat.le_refl _
 rcases hown.2 with ⟨e1,e2⟩ | ⟨g0,cap0,cur,e1,hB0,hb0,hc0,hm0,hsz0,htk⟩
 ·injection e1 with e1 e3 e4
  subst e1 e2 e4
  have hw:Region.wanted o (yielded ops a.tmps)=true:=by simp [Region.wanted,hgd]
  rw [if_pos hw]
  have hrun:=run_append_owned_none (P:=P) (w:=w) base t o.type e i size ht hi _ 0 [] own0
  unfold Oper.wp
  simp [execOp,ho,resolve,invoke,builtin,hs,hx,hrun,Result.andThen]
  have hxs:xs=[]:=List.eq_nil_of_length_eq_zero (by rw [hown.1];simp)
  subst hxs
  exact h q 0 w own0 gr hq.lt
 ·injection e1 with e1 e3 e4
  subst e1
  have news:∀ j u,xs[j]?=some u→w.cell? ((⟨g0,0,none⟩:Addr).add j)=some u:=fun j u hu=>by
   refine World.news_of_block hb0 j u ?_
   rw [←htk] at hu
   rw [List.getElem?_take] at hu
   split at hu
   ·exact hu
   ·cases hu
  rcases Nat.eq_zero_or_pos n with hn | hn
  ·subst hn
   have hxs:xs=[]:=List.eq_nil_of_length_eq_zero (by rw [hown.1];simp)
   subst hxs
   refine step_append_room hgd s x t ho e i size ht hi hsize q 0 0 0 hs ⟨g0,0,none⟩ 0 c [] hx (by simp) (fun j u hu=>by simp at hu) (fun u hu=>by simp at hu) (Nat.le_refl _) (fun j hj=>absurd hj (Nat.not_lt_zero _)) ?_
   exact h q 0 w own0 gr hq.lt
  ·refine step_append_lies w hgd s x t ho base e i z size bytes ht hi hz hsize hby hzs hsz _ 0 [] hs own0 ⟨g0,0,none⟩ n c xs hx hown.1 news h1 hn (by omega) (by rw [Nat.zero_add];exact hbytes) (Nat.le_trans hbq (Nat.le_of_lt hq.lt)) _ rfl ?_
   intro g cap w' ho' hg' _ hl
   simp only [Nat.zero_add,List.nil_append] at ho' ⊢
   exact h g cap w' ho' hg' hl
theorem addRule_last (r:Rl):∀ (i:List Sc) (s:Sc),addRule r (i ++ [s])=i ++ [withRule r s]
 | [],s=>rfl
 | [a],s=>rfl
 | a :: b :: i,s=>by
  have:=addRule_last r (b :: i) s
  show a :: addRule r (b :: i ++ [s])=_
  rw [this]
  rfl
theorem rls_append {B:Nat} {w:World} {c:List Value} {r:Rl} (hr:RlV B w c r):∀ (cs:List Value) (rs:List Rl),RlsV B w cs rs→RlsV B w (cs++c) (rs ++ [r])
 | _,[],h=>by
  cases h
  exact ⟨c,[],by simp,hr,rfl⟩
 | _,_ :: rs,⟨c',cs',e,h1,h2⟩=>⟨c',cs' ++ c,by rw [e,List.append_assoc],h1,rls_append hr cs' rs h2⟩
def Fit (C:Cf):Prop:=C.levels.length≤16∧C.schemas.length≤32
theorem conv_one (w:World) (b:UInt8) (z:Int) (hz:z=(b.toNat:Int)):(convert 150 9 (.slice (some ⟨w.heap.size,0,none⟩) 1 1)).run Tryz.prog (w.alloc (.cells #[.int .u8 z] 5))=.ok (.string (mk [b])) (w.alloc (.cells #[.int .u8 z] 5)):=by
 have h:=run_convert_bytes_back (P:=Tryz.prog) (w.alloc (.cells #[.int .u8 z] 5)) 150 9 5 ⟨w.heap.size,0,none⟩ 1 [b] Tryz.underlying150 Tryz.underlying5 Tryz.underlying9 (fun j hj=>by
  obtain rfl:j=0:=by simp at hj;omega
  rw [add_at]
  simp [hz])
 exact h
theorem mk_size1 (b:UInt8):(mk [b]).size=1:=by rw [←size_list,mk_list];rfl
theorem dec19 {N:Nat} (h:N≤9223372036854775807):(decDigits N).length≤19:=dec_len N 19 (by decide) (by omega)
set_option maxRecDepth 20000 in
theorem rdigits_ok (n:Int) (w:World) (h1:n≤9223372036854775807) :
  Calls Tryz.prog 158 #[.int .i64 n] w fun e w'=>e=.returned (.string (digB n))∧Below w.heap.size w w':=by
 obtain ⟨N,hN⟩:∃ N:Nat,(N:Int)=max n 0:=⟨(max n 0).toNat,by omega⟩
 have e:digB n=mk (decDigits N):=by unfold digB;congr 2;omega
 rw [e]
 have hN1:N≤9223372036854775807:=by omega
 have HL:=dec19 hN1
 clear e
 by_cases hneg:n<0
 ·have hN0:N=0:=by omega
  clear hN
  subst hN0
  go_enter Tryz.func158,Tryz.ntmps158
  go_wp2_with fail
  go_loopw [0,3] (fun x s3 wr=>∃ (k:Nat) (S:ByteArray),x=.int .i64 k∧s3=.string S∧k≤9223372036854775807∧Hd (decDigits 0=decDigits k++S.data.toList)∧Below w.heap.size w wr) (fun x _ _=>(intOf x).toNat)
  case atStart=>exact ⟨0,⟨#[]⟩,rfl,rfl,hN1,⟨by show _=_ ++ [];rw [List.append_nil]⟩,Below.refl _ _⟩
  case round =>
   obtain ⟨k,S,rfl,rfl,hk,hS,p3⟩:=hrel
   have hsz:S.size≤19:=by
    have:=congrArg List.length hS.out
    rw [List.length_append,size_list] at this
    omega
   by_cases h9:9<k
   ·have e1:(k:Int).tmod 10=((k % 10:Nat):Int):=(Int.ofNat_tmod _ _).symm
    have e2:(k:Int).tdiv 10=((k / 10:Nat):Int):=(Int.ofNat_tdiv _ _).symm
    have ht:k % 10<10:=Nat.mod_lt _ (by decide)
    have CV:=conv_one wr (UInt8.ofNat (48+k % 10)) (48+((k % 10:Nat):Int)) (by rw [byte_of ht];omega)
    have hS':Hd (decDigits 0=decDigits (k / 10)++(mk [UInt8.ofNat (48+k % 10)]++S).data.toList):=⟨by rw [hS.out,dec_big (by omega),cat_list,mk_list,List.append_assoc]⟩
    have hlt:k / 10<k:=by omega
    have P4:Hd (Below w.heap.size w (wr.alloc (.cells #[.int .u8 (48+((k % 10:Nat):Int))] 5))):=⟨p3.alloc p3.size _⟩
    have hx1:(mk [UInt8.ofNat (48+k % 10)]).size=1:=mk_size1 _
    clear hS p3
    generalize mk [UInt8.ofNat (48+k % 10)]=x at *
    generalize k % 10=t at *
    generalize k / 10=u at *
    go_wp2_with fail
    go_roundw
    case rel=>exact ⟨u,x++S,rfl,rfl,by omega,hS',P4.out⟩
    case measure=>simp [intOf];omega
   ·have CV:=conv_one wr (UInt8.ofNat (48+k)) (48+(k:Int)) (by rw [byte_of (by omega)];omega)
    have hS':Hd (mk (decDigits 0)=mk [UInt8.ofNat (48+k)]++S):=⟨list_inj (by rw [mk_list,hS.out,dec_small (by omega),cat_list,mk_list])⟩
    have P4:Hd (Below w.heap.size w (wr.alloc (.cells #[.int .u8 (48+(k:Int))] 5))):=⟨p3.alloc p3.size _⟩
    have hx1:(mk [UInt8.ofNat (48+k)]).size=1:=mk_size1 _
    clear hS p3
    generalize mk [UInt8.ofNat (48+k)]=x at *
    go_wp2_with fail
    go_ret
    exact ⟨by rw [hS'.out];rfl,P4.out⟩
 ·obtain rfl:n=(N:Int):=by omega
  clear hN
  go_enter Tryz.func158,Tryz.ntmps158
  go_wp2_with fail
  go_loopw [0,3] (fun x s3 wr=>∃ (k:Nat) (S:ByteArray),x=.int .i64 k∧s3=.string S∧k≤9223372036854775807∧Hd (decDigits N=decDigits k++S.data.toList)∧Below w.heap.size w wr) (fun x _ _=>(intOf x).toNat)
  case atStart=>exact ⟨N,⟨#[]⟩,rfl,rfl,hN1,⟨by show _=_ ++ [];rw [List.append_nil]⟩,Below.refl _ _⟩
  case round =>
   obtain ⟨k,S,rfl,rfl,hk,hS,p3⟩:=hrel
   have hsz:S.size≤19:=by
    have:=congrArg List.length hS.out
    rw [List.length_append,size_list] at this
    omega
   by_cases h9:9<k
   ·have e1:(k:Int).tmod 10=((k % 10:Nat):Int):=(Int.ofNat_tmod _ _).symm
    have e2:(k:Int).tdiv 10=((k / 10:Nat):Int):=(Int.ofNat_tdiv _ _).symm
    have ht:k % 10<10:=Nat.mod_lt _ (by decide)
    have CV:=conv_one wr (UInt8.ofNat (48+k % 10)) (48+((k % 10:Nat):Int)) (by rw [byte_of ht];omega)
    have hS':Hd (decDigits N=decDigits (k / 10)++(mk [UInt8.ofNat (48+k % 10)]++S).data.toList):=⟨by rw [hS.out,dec_big (by omega),cat_list,mk_list,List.append_assoc]⟩
    have hlt:k / 10<k:=by omega
    have P4:Hd (Below w.heap.size w (wr.alloc (.cells #[.int .u8 (48+((k % 10:Nat):Int))] 5))):=⟨p3.alloc p3.size _⟩
    have hx1:(mk [UInt8.ofNat (48+k % 10)]).size=1:=mk_size1 _
    clear hS p3
    generalize mk [UInt8.ofNat (48+k % 10)]=x at *
    generalize k % 10=t at *
    generalize k / 10=u at *
    go_wp2_with fail
    go_roundw
    case rel=>exact ⟨u,x++S,rfl,rfl,by omega,hS',P4.out⟩
    case measure=>simp [intOf];omega
   ·have CV:=conv_one wr (UInt8.ofNat (48+k)) (48+(k:Int)) (by rw [byte_of (by omega)];omega)
    have hS':Hd (mk (decDigits N)=mk [UInt8.ofNat (48+k)]++S):=⟨list_inj (by rw [mk_list,hS.out,dec_small (by omega),cat_list,mk_list])⟩
    have P4:Hd (Below w.heap.size w (wr.alloc (.cells #[.int .u8 (48+(k:Int))] 5))):=⟨p3.alloc p3.size _⟩
    have hx1:(mk [UInt8.ofNat (48+k)]).size=1:=mk_size1 _
    clear hS p3
    generalize mk [UInt8.ofNat (48+k)]=x at *
    go_wp2_with fail
    go_ret
    exact ⟨by rw [hS'.out];rfl,P4.out⟩
theorem valTo_lt2 (s:ByteArray):∀ k,k≤s.size→(∀ j (h:j<s.size),j<k→48≤s[j].toNat∧s[j].toNat≤57)→valTo s k<10 ^ k
 | 0,_,_=>by rw [valTo_zero];decide
 | k+1,h,hd=>by
  have ih:=valTo_lt2 s k (by omega) (fun j hj hk=>hd j hj (by omega))
  have hb:=hd k (by omega) (by omega)
  rw [valTo_succ s k (by omega),Nat.pow_succ]
  omega
theorem num_bad {s:ByteArray} (k:Nat) (hk:k<s.size) (h:¬ (48≤s[k].toNat∧s[k].toNat≤57)) (least most:Int):numIn s least most=false∧numOf s least most=0:=by
 have hd:isDigit (s[k].toNat:Int)=false:=by unfold isDigit;simp;omega
 have hA:=allB_no k hk hd
 have hN:isNum s=false:=by
  cases h2:isNum s with
  | false=>rfl
  | true=>have:=(isNum_parts h2).2.1;rw [hA] at this;cases this
 have e:numIn s least most=false:=by unfold numIn;rw [hN];rfl
 exact ⟨e,by unfold numOf;rw [e];rfl⟩
theorem num_long {s:ByteArray} (h:9<s.size) (least most:Int):numIn s least most=false∧numOf s least most=0:=by
 have hN:isNum s=false:=by
  cases h2:isNum s with
  | false=>rfl
  | true=>have:=(isNum_parts h2).1;omega
 have e:numIn s least most=false:=by unfold numIn;rw [hN];rfl
 exact ⟨e,by unfold numOf;rw [e];rfl⟩
set_option maxRecDepth 20000 in
theorem rnumber_ok (s:ByteArray) (least most:Int) (hs:s.size≤9223372036854775807) (w:World) :
  Calls Tryz.prog 174 #[.string s,.int .i64 least,.int .i64 most] w fun e w'=>e=.returned (.tuple #[.int .i64 (numOf s least most),.bool (numIn s least most)])∧Below w.heap.size w w':=by
 have HB:Hd (∀ k (hk:k<s.size),¬ (48≤s[k].toNat∧s[k].toNat≤57)→numIn s least most=false∧numOf s least most=0):=⟨fun k hk h=>num_bad k hk h least most⟩
 have HLg:Hd (9<s.size→numIn s least most=false∧numOf s least most=0):=⟨fun h=>num_long h least most⟩
 have HI:Hd (∀ v:Nat,s.size≤9→v=valTo s s.size→(∀ j (h:j<s.size),48≤s[j].toNat∧s[j].toNat≤57) →
   (digB (v:Int)≠s→numIn s least most=false∧numOf s least most=0) ∧
   (digB (v:Int)=s→numIn s least most=(decide (least≤(v:Int)) && decide ((v:Int)≤most))∧numOf s least most=if (decide (least≤(v:Int)) && decide ((v:Int)≤most)) then (v:Int) else 0)):=⟨fun v h9 hv hd=>by
  have hA:allB isDigit s=true:=(allB_iff _ _).2 fun j hj=>by have:=hd j hj;unfold isDigit;simp;omega
  rw [valTo_all] at hv
  subst hv
  have:=num_iff s h9 hA
  constructor
  ·intro hne
   have hN:isNum s=false:=by
    cases h2:isNum s with
    | false=>rfl
    | true=>exact absurd (this.1 h2) hne
   have e:numIn s least most=false:=by unfold numIn;rw [hN];rfl
   exact ⟨e,by unfold numOf;rw [e];rfl⟩
  ·intro he
   unfold numOf numIn
   rw [this.2 he,Bool.true_and]
   exact ⟨rfl,rfl⟩⟩
 have HV:Hd (∀ k,k≤s.size→k≤10→(∀ j (h:j<s.size),j<k→48≤s[j].toNat∧s[j].toNat≤57)→valTo s k<10 ^ 10):=⟨fun k h1 h2 h3=>Nat.lt_of_lt_of_le (valTo_lt2 s k h1 h3) (Nat.pow_le_pow_right (by decide) h2)⟩
 go_enter Tryz.func174,Tryz.ntmps174
 go_wp2_with fail
 go_loop [8,9] (fun x i=>∃ k v:Nat,k≤s.size∧k≤10∧i=.int .i64 k∧x=.int .i64 v∧Hd (v=valTo s k∧∀ j (h:j<s.size),j<k→48≤s[j].toNat∧s[j].toNat≤57)) (fun _ i=>10 - (intOf i).toNat)
 case atStart=>exact ⟨0,0,Nat.zero_le _,Nat.zero_le _,rfl,rfl,⟨(valTo_zero s).symm,fun j _ h=>absurd h (Nat.not_lt_zero _)⟩⟩
 case round =>
  obtain ⟨k,v,hk,hk10,rfl,rfl,hv⟩:=hrel
  have hvl:v<10 ^ 10:=by rw [hv.out.1];exact HV.out k hk hk10 hv.out.2
  by_cases hlt:k<s.size
  ·by_cases hlt10:k<10
   ·by_cases hlo:(s[k].toNat:Int)<48
    ·have R:Hd (_∧_):=⟨HB.out k hlt (by omega)⟩
     clear HB HLg HI HV hv
     go_wp2_with fail
     go_ret2
     exact ⟨by rw [R.out.1,R.out.2];rfl,Below.refl _ _⟩
    ·by_cases hhi:57<(s[k].toNat:Int)
     ·have R:Hd (_∧_):=⟨HB.out k hlt (by omega)⟩
      clear HB HLg HI HV hv
      go_wp2_with fail
      go_ret2
      exact ⟨by rw [R.out.1,R.out.2];rfl,Below.refl _ _⟩
     ·have hv':Hd (v*10+(s[k].toNat - 48)=valTo s (k+1)∧∀ j (h:j<s.size),j<k+1→48≤s[j].toNat∧s[j].toNat≤57):=⟨by rw [valTo_succ s k hlt,← hv.out.1],fun j h hj=>by
       by_cases e:j=k
       ·subst e;omega
       ·exact hv.out.2 j h (by omega)⟩
      have hbyte:s[k].toNat<256:=s[k].toNat_lt
      clear HB HLg HI HV hv
      go_wp2_with fail
      go_round
      case rel=>exact ⟨k+1,v*10+(s[k].toNat - 48),by omega,by omega,by go_num,by congr 1;omega,hv'⟩
      case measure=>simp [intOf];omega
   ·obtain rfl:k=10:=by omega
    have R:Hd (_∧_):=⟨HLg.out (by omega)⟩
    clear HB HLg HI HV hv
    go_wp2_with fail
    go_ret2
    exact ⟨by rw [R.out.1,R.out.2];rfl,Below.refl _ _⟩
  ·obtain rfl:k=s.size:=by omega
   by_cases h9:9<s.size
   ·have R:Hd (_∧_):=⟨HLg.out h9⟩
    clear HB HLg HI HV hv
    go_wp2_with fail
    go_ret2
    exact ⟨by rw [R.out.1,R.out.2];rfl,Below.refl _ _⟩
   ·obtain ⟨i1,i2⟩:=HI.out v (by omega) hv.out.1 (fun j hj=>hv.out.2 j hj hj)
    have D:=fun w=>rdigits_ok (v:Int) w (by omega)
    by_cases he:digB (v:Int)=s
    ·have R:Hd (_∧_):=⟨i2 he⟩
     rw [he] at D
     clear HB HLg HI HV hv i1 i2 he
     by_cases c1:(v:Int)<least
     ·have c2:decide (least≤(v:Int))=false:=by simp;omega
      go_wp2_with (go_at_call 158;refine (D _).mono ?_;rintro e w1 ⟨rfl,hb1⟩)
      go_ret2
      exact ⟨by rw [R.out.1,R.out.2,c2];rfl,hb1⟩
     ·have c2:decide (least≤(v:Int))=true:=by simp;omega
      by_cases c3:most<(v:Int)
      ·have c4:decide ((v:Int)≤most)=false:=by simp;omega
       go_wp2_with (go_at_call 158;refine (D _).mono ?_;rintro e w1 ⟨rfl,hb1⟩)
       go_ret2
       exact ⟨by rw [R.out.1,R.out.2,c2,c4];rfl,hb1⟩
      ·have c4:decide ((v:Int)≤most)=true:=by simp;omega
       go_wp2_with (go_at_call 158;refine (D _).mono ?_;rintro e w1 ⟨rfl,hb1⟩)
       go_ret2
       exact ⟨by rw [R.out.1,R.out.2,c2,c4];rfl,hb1⟩
    ·have R:Hd (_∧_):=⟨i1 he⟩
     have ne:=str_ne he
     clear HB HLg HI HV hv i1 i2 he
     generalize digB (v:Int)=y at *
     go_wp2_with (go_at_call 158;refine (D _).mono ?_;rintro e w1 ⟨rfl,hb1⟩)
     go_ret2
     exact ⟨by rw [R.out.1,R.out.2];rfl,hb1⟩
structure Cut (c:UInt8) (s:ByteArray) (P:List ByteArray) (fr i:Nat):Prop where
 all:cutB c s=P++(cutL c (s.data.toList.drop fr)).map mk
 le:fr≤i
 none:∀ j,fr≤j→j<i→s.data.toList[j]?≠some c
theorem no_byte {c:UInt8} {l:List UInt8} {a b:Nat} (h:∀ j,a≤j→j<b→l[j]?≠some c):c ∉ (l.drop a).take (b - a):=fun hm=>by
 obtain ⟨k,hk,e⟩:=List.getElem_of_mem hm
 rw [List.length_take,List.length_drop] at hk
 rw [List.getElem_take,List.getElem_drop] at e
 exact h (a+k) (by omega) (by omega) (by rw [List.getElem?_eq_getElem (by omega),e])
theorem Cut.start (c:UInt8) (s:ByteArray):Cut c s [] 0 0:=⟨rfl,Nat.le_refl _,fun _ _ h=>absurd h (Nat.not_lt_zero _)⟩
theorem Cut.miss {c:UInt8} {s:ByteArray} {P:List ByteArray} {fr i:Nat} (h:Cut c s P fr i) (hi:i<s.size) (hne:s[i]≠c):Cut c s P fr (i+1) :=
 ⟨h.all,by have:=h.le;omega,fun j h1 h2=>by
  by_cases e:j=i
  ·subst e;rw [byte_at s j hi];intro e2;exact hne (Option.some.inj e2)
  ·exact h.none j h1 (by omega)⟩
theorem Cut.hit {c:UInt8} {s:ByteArray} {P:List ByteArray} {fr i:Nat} (h:Cut c s P fr i) (hi:i<s.size) (he:s[i]=c):Cut c s (P ++ [s.extract fr i]) (i+1) (i+1):=by
 refine ⟨?_,Nat.le_refl _,fun j h1 h2=>by omega⟩
 have hle:=h.le
 have hl:i<s.data.toList.length:=by rw [size_list];exact hi
 have hd:s.data.toList.drop i=c :: s.data.toList.drop (i+1):=by
  rw [List.drop_eq_getElem_cons hl]
  congr 1
 have e:s.data.toList.drop fr=(s.data.toList.drop fr).take (i - fr)++c :: s.data.toList.drop (i+1):=by
  rw [←hd]
  conv=>lhs;rw [←List.take_append_drop (i - fr) (s.data.toList.drop fr),List.drop_drop]
  rw [show fr+(i - fr)=i by omega]
 have e2:cutL c (s.data.toList.drop fr)=(s.data.toList.drop fr).take (i - fr) :: cutL c (s.data.toList.drop (i+1)):=by
  conv=>lhs;rw [e]
  exact cutL_at c _ _ (no_byte h.none)
 rw [h.all,e2,List.map_cons,ext_list,List.append_assoc]
 rfl
theorem Cut.fin {c:UInt8} {s:ByteArray} {P:List ByteArray} {fr:Nat} (h:Cut c s P fr s.size):P ++ [s.extract fr s.size]=cutB c s:=by
 have nb:=no_byte h.none
 have e:(s.data.toList.drop fr).take (s.size - fr)=s.data.toList.drop fr:=List.take_of_length_le (by rw [List.length_drop,size_list];exact Nat.le_refl _)
 rw [e] at nb
 rw [h.all,cutL_plain c _ nb,ext_list,e]
 rfl
theorem OwnT.shape2 {B:Nat} {w:World} {v:Value} {L:List ByteArray} (h:OwnT B w v L):∃ a c,v=.slice a L.length c∧RowL w a L∧L.length≤c:=by
 obtain ⟨a,c,e,hr⟩:=h.shape
 refine ⟨a,c,e,hr,?_⟩
 rcases h.2 with ⟨e2,h0⟩ | ⟨g,cap,cur,e2,hb,hg,hle,rest⟩
 ·omega
 ·rw [e] at e2
  injection e2 with _ _ e3
  omega
end Go.Proofs.YthkdbphgiobcdaaGreatDoor
