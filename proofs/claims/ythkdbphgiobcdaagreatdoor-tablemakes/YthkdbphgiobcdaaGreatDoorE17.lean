/-
  Configurations that came in: how they lie in memory.
  'Small' of the reference answers,and a yes says that no list is long.
  'Same' of the reference at two configurations that are only read,where both are the same.
  A configuration in memory of its own: lists,rules,schemas,levels;what stays when a block of another type is written;how it is read.
-/
import Derived.Test.YthkdbphgiobcdaaGreatDoorE6
import Derived.WalkKit
import Derived.SliceStrings
import Derived.Deep.SlicePairs
import Derived.OpenShut
import Derived.ShutString
import Derived.ChangeMaps5
import Derived.Test.YthkdbphgiobcdaaGreatDoorE15
import Derived.BigQuiet
import Derived.Deep.RegionHeld
import Derived.Test.YthkdbphgiobcdaaGreatDoorE16
import Derived.Test.YthkdbphgiobcdaaGreatDoorE9
namespace Go.Proofs.YthkdbphgiobcdaaGreatDoor
open Go.RowKit
theorem cl3:Tryz.prog.cellsOf 3=1:=by kernel_rfl
theorem cl9:Tryz.prog.cellsOf 9=1:=by kernel_rfl
theorem cl22:Tryz.prog.cellsOf 22=1:=by kernel_rfl
theorem cl23:Tryz.prog.cellsOf 23=1:=by kernel_rfl
theorem cl25:Tryz.prog.cellsOf 25=6:=by kernel_rfl
theorem cl38:Tryz.prog.cellsOf 43=10:=by kernel_rfl
theorem cl39:Tryz.prog.cellsOf 45=1:=by kernel_rfl
theorem cl41:Tryz.prog.cellsOf 47=5:=by kernel_rfl
theorem cl42:Tryz.prog.cellsOf 52=1:=by kernel_rfl
theorem cl44:Tryz.prog.cellsOf 54=5:=by kernel_rfl
theorem len_succ {α:Type} {n:Nat} : ∀ {l:List α},l.length=n+1→∃ a t,l=a :: t∧t.length=n
 | a :: t,h=>⟨a,t,rfl,by simpa using h⟩
theorem len5 {α:Type} {l:List α} (h:l.length=5):∃ a b c d e,l=[a,b,c,d,e]:=by
 obtain ⟨a,t1,rfl,h1⟩:=len_succ h
 obtain ⟨b,t2,rfl,h2⟩:=len_succ h1
 obtain ⟨c,t3,rfl,h3⟩:=len_succ h2
 obtain ⟨d,t4,rfl,h4⟩:=len_succ h3
 obtain ⟨e,t5,rfl,h5⟩:=len_succ h4
 obtain rfl:=List.length_eq_zero_iff.1 h5
 exact ⟨a,b,c,d,e,rfl⟩
theorem len6 {α:Type} {l:List α} (h:l.length=6):∃ a b c d e f,l=[a,b,c,d,e,f]:=by
 obtain ⟨a,t1,rfl,h1⟩:=len_succ h
 obtain ⟨b,c,d,e,f,rfl⟩:=len5 h1
 exact ⟨a,b,c,d,e,f,rfl⟩
theorem len10 {α:Type} {l:List α} (h:l.length=10):∃ a b c d e f g i j k,l=[a,b,c,d,e,f,g,i,j,k]:=by
 obtain ⟨a,t1,rfl,h1⟩:=len_succ h
 obtain ⟨b,t2,rfl,h2⟩:=len_succ h1
 obtain ⟨c,t3,rfl,h3⟩:=len_succ h2
 obtain ⟨d,t4,rfl,h4⟩:=len_succ h3
 obtain ⟨e,f,g,i,j,k,rfl⟩:=len6 h4
 exact ⟨a,b,c,d,e,f,g,i,j,k,rfl⟩
theorem open_list {H:Type} {enc:TypeId × Value→H} {W:World} {base:Nat} {sp:Nat→Bool} {held:Bool} {fuel:Nat} {x:DataW H × List MemPlace} {v:Value} (h:DataW.trod enc Tryz.prog W base sp held fuel 52 [v]=some x):∃ L,LsR W v L:=by
 rcases Go.ChangeShapes.open_strings Tryz.underlying52 Tryz.underlying9 cl9 h with ⟨hcs,_⟩ | ⟨a,l,c,ss,hcs,_,hl,hm,hlen,_,hcell,hsz⟩
 ·obtain rfl:v=.slice none 0 0:=by simpa using hcs
  exact ⟨[],none,0,rfl,fun h=>absurd h (Nat.lt_irrefl 0),Nat.le_refl _,Nat.zero_le _,fun _ h=>by cases h⟩
 ·obtain rfl:v=.slice (some a) l c:=by simpa using hcs
  have hle:l≤ss.length:=by rw [hlen];split <;> omega
  have hlt:(ss.take l).length=l:=by rw [List.length_take];omega
  have hg:∀ k,k<l→gt (ss.take l) k=ss.getD k ByteArray.empty:=fun k hk=>by
   rw [gt_eq (by omega),List.getElem_take,List.getD,List.getElem?_eq_getElem (by omega)]
   rfl
  have hm9:c≤9223372036854775807:=by unfold maxLen at hm;omega
  refine ⟨ss.take l,some a,c,by rw [hlt],fun hn=>?_,by omega,by omega,fun y hy=>?_⟩
  ·rw [hlt] at hn
   obtain ⟨b,off,spot⟩:=a
   have hspot:spot=none:=by simpa [Addr.add] using World.cell?_spot (hcell 0 (by omega))
   subst hspot
   refine ⟨b,off,rfl,?_,fun k hk=>?_⟩
   ·have:=hcell 0 (by omega)
    rw [Go.WideShapes.add_plain] at this
    exact World.block_lt_of_cell? _ _ this
   ·rw [hlt] at hk
    have q0:=hcell k (by omega)
    rw [Go.WideShapes.add_plain] at q0
    rw [q0,hg k hk]
  ·have:=hsz y (List.mem_of_mem_take hy)
   unfold maxLen at this
   omega
theorem open_rule {H:Type} {enc:TypeId × Value→H} {W:World} {base:Nat} {sp:Nat→Bool} {held:Bool} {fuel:Nat} {x:DataW H × List MemPlace} {cs:List Value} (h:DataW.trod enc Tryz.prog W base sp held fuel 54 cs=some x):∃ r v0 v1 v2 v3 v4,cs=[v0,v1,v2,v3,v4]∧RuR W v0 v1 v2 v3 v4 r:=by
 obtain ⟨xs,k,hk,hxy,hcl,hxl,hf⟩:=DataW.trod_struct Tryz.underlying54 h
 rw [cl44] at hcl
 obtain ⟨v0,v1,v2,v3,v4,rfl⟩:=len5 hcl
 obtain ⟨y0,y1,y2,y3,y4,rfl⟩:=len5 (show xs.length=5 from hxl)
 ·skip
  have g0:=hf 0 _ rfl
  have g1:=hf 1 _ rfl
  have g2:=hf 2 _ rfl
  have g3:=hf 3 _ rfl
  have g4:=hf 4 _ rfl
  simp [cl42] at g0 g1 g2 g3 g4
  obtain ⟨L0,l0⟩:=open_list g0
  obtain ⟨L1,l1⟩:=open_list g1
  obtain ⟨L2,l2⟩:=open_list g2
  obtain ⟨L3,l3⟩:=open_list g3
  obtain ⟨L4,l4⟩:=open_list g4
  exact ⟨⟨L0,L1,L2,L3,L4⟩,v0,v1,v2,v3,v4,rfl,l0,l1,l2,l3,l4⟩
theorem open_rules {H:Type} {enc:TypeId × Value→H} {W:World} {base:Nat} {sp:Nat→Bool} {held:Bool} {fuel:Nat} {x:DataW H × List MemPlace} {v:Value} (h:DataW.trod enc Tryz.prog W base sp held fuel 45 [v]=some x):∃ rs,RlR W v rs:=by
 rcases Go.Deep.open_slice Tryz.underlying45 h with ⟨hcs,_⟩ | ⟨a,l,c,m,n,D,Pl,hcs,_,hl,hm,hmm,_,hc⟩
 ·obtain rfl:v=.slice none 0 0:=by simpa using hcs
  exact ⟨[],none,0,rfl,Nat.zero_le _,fun h=>absurd h (Nat.lt_irrefl 0)⟩
 ·obtain rfl:v=.slice (some a) l c:=by simpa using hcs
  have hlm:l≤m:=by rw [hmm];split <;> omega
  have hm9:c≤9223372036854775807:=by unfold maxLen at hm;omega
  have each:∀ k,k<l→∃ r:Rl,∃ v0 v1 v2 v3 v4,(∀ j,j<5→W.cell? (a.add (k*5+j))=[v0,v1,v2,v3,v4][j]?)∧RuR W v0 v1 v2 v3 v4 r:=by
   intro k hk
   obtain ⟨cs',h1,h2⟩:=hc k (by omega)
   rw [cl44] at h1
   obtain ⟨_,hlen,hcell⟩:=World.cells?_some h1
   obtain ⟨r,v0,v1,v2,v3,v4,rfl,hr⟩:=open_rule h2
   exact ⟨r,v0,v1,v2,v3,v4,fun j hj=>by have:=hcell j hj;rw [Go.Deep.add_add] at this;exact this,hr⟩
  have:Inhabited Rl:=⟨⟨[],[],[],[],[]⟩⟩
  obtain ⟨q,hq⟩:=Go.Deep.choose_lt each
  have hlen:((List.range l).map q).length=l:=by simp
  refine ⟨(List.range l).map q,some a,c,by rw [hlen],by rw [hlen];omega,fun hn=>?_⟩
  rw [hlen] at hn
  obtain ⟨b,off,spot⟩:=a
  obtain ⟨u0,u1,u2,u3,u4,hu,_⟩:=hq 0 hn
  have hu0:W.cell? (Addr.add ⟨b,off,spot⟩ (0*5+0))=some u0:=hu 0 (by decide)
  have hspot:spot=none:=by simpa [Addr.add] using World.cell?_spot hu0
  subst hspot
  rw [Go.WideShapes.add_plain] at hu0
  refine ⟨b,off,rfl,World.block_lt_of_cell? _ _ hu0,fun k hk=>?_⟩
  obtain ⟨v0,v1,v2,v3,v4,hcl,hr⟩:=hq k (by rw [hlen] at hk;exact hk)
  have e:((List.range l).map q)[k]=q k:=by simp
  have hcl':∀ j,j<5→W.cell? ⟨b,off+k*5+j,none⟩=[v0,v1,v2,v3,v4][j]?:=fun j hj=>by have:=hcl j hj;rw [Go.WideShapes.add_plain,← Nat.add_assoc] at this;exact this
  rw [e]
  exact ⟨v0,v1,v2,v3,v4,⟨hcl' 0 (by decide),hcl' 1 (by decide),hcl' 2 (by decide),hcl' 3 (by decide),hcl' 4 (by decide)⟩,hr⟩
def ScN (s:Sc):Prop:=s.rules.length≤40∧∀ r∈s.rules,RlN 40 r
def fv (r:Rl):Nat→List ByteArray
 | 0=>r.users
 | 1=>r.groups
 | 2=>r.verbs
 | 3=>r.resources
 | _=>r.spaces
theorem fv_all {r:Rl} (h:∀ t,t<5→(fv r t).length≤40):RlN 40 r:=⟨h 0 (by decide),h 1 (by decide),h 2 (by decide),h 3 (by decide),h 4 (by decide)⟩
theorem bnd_of {C:Cf} (h1:C.levels.length≤40) (h2:C.schemas.length≤80) (h3:∀ t (h:t<C.schemas.length),ScN C.schemas[t]):Bnd 80 C :=
 ⟨by omega,h2,fun s hs=>by
  obtain ⟨k,hk,rfl⟩:=List.getElem_of_mem hs
  obtain ⟨a,b⟩:=h3 k hk
  exact ⟨by omega,fun r hr=>by obtain ⟨c0,c1,c2,c3,c4⟩:=b r hr;exact ⟨by omega,by omega,by omega,by omega,by omega⟩⟩⟩
theorem next_of {α:Type} {P:α→Prop} {L:List α} {k:Nat} (h:∀ t (h:t<L.length),t<k→P L[t]) (hk:k<L.length) (hp:P L[k]):∀ t (h:t<L.length),t<k+1→P L[t]:=fun t ht hlt=>by
 rcases Nat.lt_or_eq_of_le (Nat.le_of_lt_succ hlt) with h1 | h1
 ·exact h t ht h1
 ·subst h1;exact hp
structure Sml (w wr:World) (A:Nat) (x0 x1 x2 x3:Int) (aL:Option Addr) (cL:Nat) (aS:Option Addr) (cS:Nat) (L:List Lv) (S:List Sc) (V:List Value):Prop where
 bel:Below w.heap.size w wr
 blk:Blk wr A 25 #[.int .i64 x0,.int .i64 x1,.int .i64 x2,.int .i64 x3,.slice aL L.length cL,.slice aS S.length cS]
 lv:LvR wr aL L
 sc:ScR wr aS S V
 rl:∀ k (h:k<S.length) (h':k<V.length),RlR wr V[k] S[k].rules
theorem Sml.grown {w wr w':World} {A:Nat} {x0 x1 x2 x3:Int} {aL:Option Addr} {cL:Nat} {aS:Option Addr} {cS:Nat} {L:List Lv} {S:List Sc} {V:List Value}
  (h:Sml w wr A x0 x1 x2 x3 aL cL aS cS L S V) (b:Below wr.heap.size wr w'):Sml w w' A x0 x1 x2 x3 aL cL aS cS L S V :=
 ⟨h.bel.trans (b.mono h.bel.size),h.blk.kept (Kept.of_below b (fun _=>False)) id,h.lv.carry b,h.sc.carry b,fun k h1 h2=>(h.rl k h1 h2).carry b⟩
def Fiv (w:World) (g:Nat) (r:Rl):Prop:=g<w.heap.size∧∀ p,p<5→∃ v,w.cell? ⟨g,p,none⟩=some v∧LsR w v (fv r p)
theorem Fiv.grown {w w':World} {g:Nat} {r:Rl} (h:Fiv w g r) (b:Below w.heap.size w w'):Fiv w' g r :=
 ⟨Nat.lt_of_lt_of_le h.1 b.size,fun p hp=>by
  obtain ⟨v,hc,hl⟩:=h.2 p hp
  exact ⟨v,(b.cell (p:=⟨g,p,none⟩) h.1).trans hc,hl.carry b⟩⟩
theorem Fiv.new {w:World} {v0 v1 v2 v3 v4:Value} {r:Rl} (h:RuR w v0 v1 v2 v3 v4 r):Fiv (w.alloc (.cells #[v0,v1,v2,v3,v4] 52)) w.heap.size r:=by
 have AL:=alloc_below w (.cells #[v0,v1,v2,v3,v4] 52)
 have NB:=Blk.new w 52 #[v0,v1,v2,v3,v4]
 obtain ⟨l0,l1,l2,l3,l4⟩:=h
 refine ⟨NB.lt,fun p hp=>?_⟩
 match p,hp with
 | 0,_=>exact ⟨v0,NB.cellv 0 rfl,l0.carry AL⟩
 | 1,_=>exact ⟨v1,NB.cellv 1 rfl,l1.carry AL⟩
 | 2,_=>exact ⟨v2,NB.cellv 2 rfl,l2.carry AL⟩
 | 3,_=>exact ⟨v3,NB.cellv 3 rfl,l3.carry AL⟩
 | 4,_=>exact ⟨v4,NB.cellv 4 rfl,l4.carry AL⟩
structure Smr (w wr:World) (A:Nat) (x0 x1 x2 x3:Int) (aL:Option Addr) (cL:Nat) (aS:Option Addr) (cS:Nat) (L:List Lv) (S:List Sc) (V:List Value) (g:Nat) (y0 y1:ByteArray) (y2 y3:Int) (vr:Value) (rs:List Rl):Prop where
 sm:Sml w wr A x0 x1 x2 x3 aL cL aS cS L S V
 bl:Blk wr g 47 #[.string y0,.string y1,.int .i64 y2,.int .i64 y3,vr]
 ru:RlR wr vr rs
theorem Smr.grown {w wr w':World} {A:Nat} {x0 x1 x2 x3:Int} {aL:Option Addr} {cL:Nat} {aS:Option Addr} {cS:Nat} {L:List Lv} {S:List Sc} {V:List Value} {g:Nat} {y0 y1:ByteArray} {y2 y3:Int} {vr:Value} {rs:List Rl}
  (h:Smr w wr A x0 x1 x2 x3 aL cL aS cS L S V g y0 y1 y2 y3 vr rs) (b:Below wr.heap.size wr w'):Smr w w' A x0 x1 x2 x3 aL cL aS cS L S V g y0 y1 y2 y3 vr rs :=
 ⟨h.sm.grown b,h.bl.kept (Kept.of_below b (fun _=>False)) id,h.ru.carry b⟩
theorem below_drew (w:World) (n:Nat):Below w.heap.size w (w.drewN n):=⟨rfl,rfl,rfl,Nat.le_refl _,fun _ _=>rfl⟩
theorem sameR_q (a b:Option Addr) (c1 c2:Nat) (L:List ByteArray) (w:World) (h1:RowL w a L) (h2:RowL w b L) (hn:L.length≤9223372036854775807) :
  Calls Tryz.prog 74 #[.slice a L.length c1,.slice b L.length c2] w fun e w'=>e=.returned (.bool true)∧∃ m,w'=w.drewN m:=by
 obtain ⟨n,hL⟩:∃ n,L.length=n:=⟨_,rfl⟩
 rw [hL] at hn ⊢
 have g1:0<n→∃ b off,a=some ⟨b,off,none⟩∧b<w.heap.size∧∀ k,k<n→w.cell? ⟨b,off+k,none⟩=some (.string (gt L k)):=by rw [←hL];exact h1
 have g2:0<n→∃ c off,b=some ⟨c,off,none⟩∧c<w.heap.size∧∀ k,k<n→w.cell? ⟨c,off+k,none⟩=some (.string (gt L k)):=by rw [←hL];exact h2
 clear h1 h2 hL
 go_enter Tryz.func74,Tryz.ntmps74
 go_wp2
 go_loopw [5] (fun i wr=>∃ k m:Nat,k≤n∧i=.int .i64 k∧wr=w.drewN m) (fun i _=>n - (intOf i).toNat)
 case atStart=>exact ⟨0,0,Nat.zero_le _,rfl,rfl⟩
 case round =>
  obtain ⟨k,m,hk,rfl,rfl⟩:=hrel
  by_cases hlt:k<n
  ·obtain ⟨b1,o1,rfl,hb1,hc1⟩:=g1 (by omega)
   obtain ⟨b2,o2,rfl,hb2,hc2⟩:=g2 (by omega)
   have d1:=hc1 k hlt
   have d2:=hc2 k hlt
   have HK:Hd (k<n):=⟨hlt⟩
   clear g1 g2 hc1 hc2
   generalize gt L k=x at *
   go_wp2
   go_quiet (fail)
   go_wp2
   go_roundw
   case rel=>exact ⟨k+1,_,HK.out,by go_num,rfl⟩
   case measure=>have:=HK.out;simp [intOf];omega
  ·obtain rfl:k=n:=by omega
   clear g1 g2
   go_wp2
   go_ret
   exact ⟨rfl,m,rfl⟩
theorem lsr_q {w:World} {v v':Value} {L:List ByteArray} (h:LsR w v L) (h':LsR w v' L) (m:Nat) :
  Calls Tryz.prog 74 #[v,v'] (w.drewN m) fun e w'=>e=.returned (.bool true)∧∃ k,w'=(w.drewN m).drewN k:=by
 obtain ⟨a,c,rfl,hr,-,hl,-⟩:=h
 obtain ⟨a',c',rfl,hr',-,-,-⟩:=h'
 exact sameR_q a a' c c' L (w.drewN m) (fun hn=>hr hn) (fun hn=>hr' hn) hl
theorem lsr_q2 {w:World} {v v':Value} {L:List ByteArray} (h:LsR w v L) (h':LsR w v' L) (m q:Nat) :
  Calls Tryz.prog 74 #[v,v'] ((w.drewN m).drewN q) fun e w'=>e=.returned (.bool true)∧∃ k,w'=((w.drewN m).drewN q).drewN k:=by
 rw [World.drewN_drewN]
 exact lsr_q h h' _
set_option maxRecDepth 20000 in
set_option maxHeartbeats 4000000 in
theorem samerR {w:World} {v v':Value} {rs:List Rl} (h:RlR w v rs) (h':RlR w v' rs) :
  Calls Tryz.prog 36 #[v,v'] w fun e w'=>e=.returned (.bool true)∧∃ m,w'=w.drewN m:=by
 obtain ⟨a,c,rfl,hm,R⟩:=h
 obtain ⟨a',c',rfl,-,R'⟩:=h'
 obtain ⟨n,hn⟩:∃ n,n=rs.length:=⟨_,rfl⟩
 rw [←hn] at hm ⊢
 have hn9:n≤9223372036854775807:=hm
 have HN:Hd (n=rs.length):=⟨hn⟩
 have HR:Hd _:=⟨R⟩
 have HR':Hd _:=⟨R'⟩
 clear R R' hn hm
 go_enter Tryz.func36,Tryz.ntmps36
 go_wp2_with fail
 go_loopw [5] (fun i wr=>∃ k m:Nat,k≤n∧i=.int .i64 k∧wr=w.drewN m) (fun i _=>n - (intOf i).toNat)
 case atStart=>exact ⟨0,0,Nat.zero_le _,rfl,rfl⟩
 case round =>
  obtain ⟨k,m,hk,rfl,rfl⟩:=hrel
  by_cases hlt:k<n
  ·have hkr:k<rs.length:=by rw [←HN.out];exact hlt
   obtain ⟨g,o1,rfl,hg,C⟩:=HR.out (by omega)
   obtain ⟨g',o2,rfl,hg',C'⟩:=HR'.out (by omega)
   obtain ⟨v0,v1,v2,v3,v4,⟨x0,x1,x2,x3,x4⟩,l0,l1,l2,l3,l4⟩:=C k hkr
   obtain ⟨u0,u1,u2,u3,u4,⟨y0,y1,y2,y3,y4⟩,m0,m1,m2,m3,m4⟩:=C' k hkr
   obtain ⟨W,hW⟩:∃ W,W=w.drewN m:=⟨_,rfl⟩
   replace x0:W.cell? ⟨g,o1+k*5,none⟩=some v0:=by rw [hW];exact x0
   replace x1:W.cell? ⟨g,o1+k*5+1,none⟩=some v1:=by rw [hW];exact x1
   replace x2:W.cell? ⟨g,o1+k*5+2,none⟩=some v2:=by rw [hW];exact x2
   replace x3:W.cell? ⟨g,o1+k*5+3,none⟩=some v3:=by rw [hW];exact x3
   replace x4:W.cell? ⟨g,o1+k*5+4,none⟩=some v4:=by rw [hW];exact x4
   replace y0:W.cell? ⟨g',o2+k*5,none⟩=some u0:=by rw [hW];exact y0
   replace y1:W.cell? ⟨g',o2+k*5+1,none⟩=some u1:=by rw [hW];exact y1
   replace y2:W.cell? ⟨g',o2+k*5+2,none⟩=some u2:=by rw [hW];exact y2
   replace y3:W.cell? ⟨g',o2+k*5+3,none⟩=some u3:=by rw [hW];exact y3
   replace y4:W.cell? ⟨g',o2+k*5+4,none⟩=some u4:=by rw [hW];exact y4
   have S0:∀ q,Calls Tryz.prog 74 #[v0,u0] (W.drewN q) fun e w'=>e=.returned (.bool true)∧∃ k,w'=(W.drewN q).drewN k:=by rw [hW];exact lsr_q2 l0 m0 m
   have S1:∀ q,Calls Tryz.prog 74 #[v1,u1] (W.drewN q) fun e w'=>e=.returned (.bool true)∧∃ k,w'=(W.drewN q).drewN k:=by rw [hW];exact lsr_q2 l1 m1 m
   have S2:∀ q,Calls Tryz.prog 74 #[v2,u2] (W.drewN q) fun e w'=>e=.returned (.bool true)∧∃ k,w'=(W.drewN q).drewN k:=by rw [hW];exact lsr_q2 l2 m2 m
   have S3:∀ q,Calls Tryz.prog 74 #[v3,u3] (W.drewN q) fun e w'=>e=.returned (.bool true)∧∃ k,w'=(W.drewN q).drewN k:=by rw [hW];exact lsr_q2 l3 m3 m
   have S4:∀ q,Calls Tryz.prog 74 #[v4,u4] (W.drewN q) fun e w'=>e=.returned (.bool true)∧∃ k,w'=(W.drewN q).drewN k:=by rw [hW];exact lsr_q2 l4 m4 m
   have HK:Hd (k<n):=⟨hlt⟩
   have HT:Hd _:=⟨And.intro S0 (And.intro S1 (And.intro S2 (And.intro S3 S4)))⟩
   have HW:Hd (W=w.drewN m):=⟨hW⟩
   rw [←hW]
   clear C C' l0 l1 l2 l3 l4 m0 m1 m2 m3 m4 hkr HR HR' S0 S1 S2 S3 S4 hW
   go_wp2_with fail
   go_quiet (first
    | (go_at_call 74;with_reducible exact Calls.quiet_of (HT.out.1 _))
    | (go_at_call 74;with_reducible exact Calls.quiet_of (HT.out.2.1 _))
    | (go_at_call 74;with_reducible exact Calls.quiet_of (HT.out.2.2.1 _))
    | (go_at_call 74;with_reducible exact Calls.quiet_of (HT.out.2.2.2.1 _))
    | (go_at_call 74;with_reducible exact Calls.quiet_of (HT.out.2.2.2.2 _)))
   go_wp2
   go_roundw
   case rel=>exact ⟨k+1,_,HK.out,by go_num,by rw [HW.out,World.drewN_drewN]⟩
   case measure=>have:=HK.out;simp [intOf];omega
  ·obtain rfl:k=n:=by omega
   clear HR HR'
   go_wp2
   go_ret
   exact ⟨rfl,m,rfl⟩
structure TwoR (w wr:World) (A1 A2:Nat) (x0 x1 x2 x3:Int) (a1 a2 s1 s2:Option Addr) (c1 c2 d1 d2:Nat) (L:List Lv) (S:List Sc) (V1 V2:List Value):Prop where
 bel:Below w.heap.size w wr
 b1:Blk wr A1 25 #[.int .i64 x0,.int .i64 x1,.int .i64 x2,.int .i64 x3,.slice a1 L.length c1,.slice s1 S.length d1]
 b2:Blk wr A2 25 #[.int .i64 x0,.int .i64 x1,.int .i64 x2,.int .i64 x3,.slice a2 L.length c2,.slice s2 S.length d2]
 l1:LvR wr a1 L
 l2:LvR wr a2 L
 o1:ScR wr s1 S V1
 o2:ScR wr s2 S V2
 r1:∀ k (h:k<S.length) (h':k<V1.length),RlR wr V1[k] S[k].rules
 r2:∀ k (h:k<S.length) (h':k<V2.length),RlR wr V2[k] S[k].rules
theorem TwoR.grown {w wr w':World} {A1 A2:Nat} {x0 x1 x2 x3:Int} {a1 a2 s1 s2:Option Addr} {c1 c2 d1 d2:Nat} {L:List Lv} {S:List Sc} {V1 V2:List Value} (h:TwoR w wr A1 A2 x0 x1 x2 x3 a1 a2 s1 s2 c1 c2 d1 d2 L S V1 V2) (b:Below wr.heap.size wr w'):TwoR w w' A1 A2 x0 x1 x2 x3 a1 a2 s1 s2 c1 c2 d1 d2 L S V1 V2:=by
 have k:Kept (fun _=>False) wr w':=Kept.of_below b _
 exact ⟨h.bel.trans (b.mono h.bel.size),h.b1.kept k id,h.b2.kept k id,h.l1.carry b,h.l2.carry b,h.o1.carry b,h.o2.carry b,fun k h1 h2=>(h.r1 k h1 h2).carry b,fun k h1 h2=>(h.r2 k h1 h2).carry b⟩
set_option maxRecDepth 20000 in
set_option maxHeartbeats 8000000 in
theorem same_cfr {w:World} {v v':Value} {C:Cf} (h:CfR w v C) (h':CfR w v' C) :
  Calls Tryz.prog 14 #[v,v'] w fun e w'=>e=.returned (.bool true)∧Below w.heap.size w w':=by
 obtain ⟨nl,ns⟩:=h.sz
 obtain ⟨a1,c1,s1,d1,V1,rfl,-,-,hL,hV1,hS,hR⟩:=h.ex
 obtain ⟨a2,c2,s2,d2,V2,rfl,-,-,hL',hV2,hS',hR'⟩:=h'.ex
 clear h h'
 obtain ⟨x0,x1,x2,x3,L,S⟩:=C
 simp only at hL hL' hS hS' hR hR' hV1 hV2 nl ns ⊢
 have HV:Hd (V1.length=S.length∧V2.length=S.length):=⟨hV1,hV2⟩
 obtain ⟨w0,hw0⟩:∃ w0,w0=(w.alloc (.cells #[.int .i64 x0,.int .i64 x1,.int .i64 x2,.int .i64 x3,.slice a1 L.length c1,.slice s1 S.length d1] 25)).alloc (.cells #[.int .i64 x0,.int .i64 x1,.int .i64 x2,.int .i64 x3,.slice a2 L.length c2,.slice s2 S.length d2] 25):=⟨_,rfl⟩
 have T0:TwoR w w0 w.heap.size (w.heap.size+1) x0 x1 x2 x3 a1 a2 s1 s2 c1 c2 d1 d2 L S V1 V2:=by
  have b0:Below w.heap.size w w0:=by rw [hw0];exact ((Below.refl _ _).alloc (Nat.le_refl _) _).alloc (by simp) _
  refine ⟨b0,?_,?_,hL.carry b0,hL'.carry b0,hS.carry b0,hS'.carry b0,fun k h1 h2=>(hR k h1 h2).carry b0,fun k h1 h2=>(hR' k h1 h2).carry b0⟩
  ·rw [hw0];exact (Blk.new w 25 _).kept (Kept.of_below ((Below.refl _ _).alloc (Nat.le_refl _) _) (fun _=>False)) id
  ·have:=Blk.new (w.alloc (.cells #[.int .i64 x0,.int .i64 x1,.int .i64 x2,.int .i64 x3,.slice a1 L.length c1,.slice s1 S.length d1] 25)) 25 #[.int .i64 x0,.int .i64 x1,.int .i64 x2,.int .i64 x3,.slice a2 L.length c2,.slice s2 S.length d2]
   rw [hw0];simpa using this
 have HT:Hd _:=⟨T0⟩
 obtain ⟨n,hn⟩:∃ n,n=L.length:=⟨_,rfl⟩
 obtain ⟨m,hm⟩:∃ m,m=S.length:=⟨_,rfl⟩
 rw [←hn] at nl
 rw [←hm] at ns
 have HN:Hd (n=L.length∧m=S.length):=⟨hn,hm⟩
 rw [←hn,← hm]
 rw [←hn,← hm] at hw0
 clear T0 hL hL' hS hS' hR hR' hV1 hV2 hn hm
 go_enter Tryz.func14,Tryz.ntmps14
 go_wp2_with fail
 rw [←hw0]
 clear hw0
 generalize w.heap.size+1=A2 at *
 obtain ⟨A1,hA1⟩:∃ A1,A1=w.heap.size:=⟨_,rfl⟩
 have HT':Hd (TwoR w w0 A1 A2 x0 x1 x2 x3 a1 a2 s1 s2 c1 c2 d1 d2 L S V1 V2):=⟨by rw [hA1];exact HT.out⟩
 rw [←hA1]
 clear HT hA1
 go_loopw [5] (fun i wr=>∃ k:Nat,k≤n∧i=.int .i64 k∧Hd (TwoR w wr A1 A2 x0 x1 x2 x3 a1 a2 s1 s2 c1 c2 d1 d2 L S V1 V2)) (fun i _=>n - (intOf i).toNat)
 case atStart=>exact ⟨0,Nat.zero_le _,rfl,HT'⟩
 case round =>
  obtain ⟨k,hk,rfl,hT⟩:=hrel
  clear HT'
  have e1:wr.cell? ⟨A1,4,none⟩=some (.slice a1 n c1):=by rw [HN.out.1];exact hT.out.b1.cellv 4 rfl
  have e2:wr.cell? ⟨A2,4,none⟩=some (.slice a2 n c2):=by rw [HN.out.1];exact hT.out.b2.cellv 4 rfl
  by_cases hlt:k<n
  ·have hkL:k<L.length:=by rw [←HN.out.1];exact hlt
   obtain ⟨g1,f1,rfl,hg1,C1⟩:=hT.out.l1 (by omega)
   obtain ⟨g2,f2,rfl,hg2,C2⟩:=hT.out.l2 (by omega)
   have x0':wr.cell? ⟨g1,f1+k*10,none⟩=some (.string L[k].name):=C1 k hkL 0 (by decide)
   have x1':wr.cell? ⟨g1,f1+k*10+1,none⟩=some (.int .i64 L[k].kind):=C1 k hkL 1 (by decide)
   have x2':wr.cell? ⟨g1,f1+k*10+2,none⟩=some (.int .i64 L[k].shares):=C1 k hkL 2 (by decide)
   have x3':wr.cell? ⟨g1,f1+k*10+3,none⟩=some (.int .i64 L[k].lend):=C1 k hkL 3 (by decide)
   have x4':wr.cell? ⟨g1,f1+k*10+4,none⟩=some (.int .i64 L[k].borrow):=C1 k hkL 4 (by decide)
   have x5':wr.cell? ⟨g1,f1+k*10+5,none⟩=some (.int .i64 L[k].queues):=C1 k hkL 5 (by decide)
   have x6':wr.cell? ⟨g1,f1+k*10+6,none⟩=some (.int .i64 L[k].hand):=C1 k hkL 6 (by decide)
   have x7':wr.cell? ⟨g1,f1+k*10+7,none⟩=some (.int .i64 L[k].length):=C1 k hkL 7 (by decide)
   have x8':wr.cell? ⟨g1,f1+k*10+8,none⟩=some (.int .i64 L[k].wait):=C1 k hkL 8 (by decide)
   have x9':wr.cell? ⟨g1,f1+k*10+9,none⟩=some (.int .i64 L[k].guess):=C1 k hkL 9 (by decide)
   have y0':wr.cell? ⟨g2,f2+k*10,none⟩=some (.string L[k].name):=C2 k hkL 0 (by decide)
   have y1':wr.cell? ⟨g2,f2+k*10+1,none⟩=some (.int .i64 L[k].kind):=C2 k hkL 1 (by decide)
   have y2':wr.cell? ⟨g2,f2+k*10+2,none⟩=some (.int .i64 L[k].shares):=C2 k hkL 2 (by decide)
   have y3':wr.cell? ⟨g2,f2+k*10+3,none⟩=some (.int .i64 L[k].lend):=C2 k hkL 3 (by decide)
   have y4':wr.cell? ⟨g2,f2+k*10+4,none⟩=some (.int .i64 L[k].borrow):=C2 k hkL 4 (by decide)
   have y5':wr.cell? ⟨g2,f2+k*10+5,none⟩=some (.int .i64 L[k].queues):=C2 k hkL 5 (by decide)
   have y6':wr.cell? ⟨g2,f2+k*10+6,none⟩=some (.int .i64 L[k].hand):=C2 k hkL 6 (by decide)
   have y7':wr.cell? ⟨g2,f2+k*10+7,none⟩=some (.int .i64 L[k].length):=C2 k hkL 7 (by decide)
   have y8':wr.cell? ⟨g2,f2+k*10+8,none⟩=some (.int .i64 L[k].wait):=C2 k hkL 8 (by decide)
   have y9':wr.cell? ⟨g2,f2+k*10+9,none⟩=some (.int .i64 L[k].guess):=C2 k hkL 9 (by decide)
   have HK:Hd (k<n):=⟨hlt⟩
   clear C1 C2
   generalize L[k]=l at *
   clear hkL
   obtain ⟨q0,q1,q2,q3,q4,q5,q6,q7,q8,q9⟩:=l
   go_wp2_with fail
   go_big_quiet (fail)
   go_wp2
   go_roundw
   case rel=>exact ⟨k+1,HK.out,by go_num,⟨hT.out.grown (below_drew _ _)⟩⟩
   case measure=>have:=HK.out;simp [intOf];omega
  ·obtain rfl:k=n:=by omega
   go_wp2_with fail
   go_loopw [6] (fun i wr=>∃ j:Nat,j≤m∧i=.int .i64 j∧Hd (TwoR w wr A1 A2 x0 x1 x2 x3 a1 a2 s1 s2 c1 c2 d1 d2 L S V1 V2)) (fun i _=>m - (intOf i).toNat)
   case atStart=>exact ⟨0,Nat.zero_le _,rfl,hT⟩
   case round =>
    obtain ⟨j,hj,rfl,hU⟩:=hrel
    clear hT e1 e2
    have f1:wr.cell? ⟨A1,5,none⟩=some (.slice s1 m d1):=by rw [HN.out.2];exact hU.out.b1.cellv 5 rfl
    have f2:wr.cell? ⟨A2,5,none⟩=some (.slice s2 m d2):=by rw [HN.out.2];exact hU.out.b2.cellv 5 rfl
    by_cases hlt:j<m
    ·have hjS:j<S.length:=by rw [←HN.out.2];exact hlt
     have hj1:j<V1.length:=by rw [HV.out.1];exact hjS
     have hj2:j<V2.length:=by rw [HV.out.2];exact hjS
     obtain ⟨g1,p1,rfl,hg1,C1⟩:=hU.out.o1 (by omega)
     obtain ⟨g2,p2,rfl,hg2,C2⟩:=hU.out.o2 (by omega)
     have R1:=hU.out.r1 j hjS hj1
     have R2:=hU.out.r2 j hjS hj2
     obtain ⟨ar,cr,er⟩:∃ a c,V1[j]=.slice a S[j].rules.length c:=by obtain ⟨a,c,e,_⟩:=R1;exact ⟨a,c,e⟩
     obtain ⟨ar',cr',er'⟩:∃ a c,V2[j]=.slice a S[j].rules.length c:=by obtain ⟨a,c,e,_⟩:=R2;exact ⟨a,c,e⟩
     rw [er] at R1
     rw [er'] at R2
     have x0':wr.cell? ⟨g1,p1+j*5,none⟩=some (.string S[j].name):=C1 j hjS hj1 0 (by decide)
     have x1':wr.cell? ⟨g1,p1+j*5+1,none⟩=some (.string S[j].level):=C1 j hjS hj1 1 (by decide)
     have x2':wr.cell? ⟨g1,p1+j*5+2,none⟩=some (.int .i64 S[j].rank):=C1 j hjS hj1 2 (by decide)
     have x3':wr.cell? ⟨g1,p1+j*5+3,none⟩=some (.int .i64 S[j].way):=C1 j hjS hj1 3 (by decide)
     have x4':wr.cell? ⟨g1,p1+j*5+4,none⟩=some (.slice ar S[j].rules.length cr):=(C1 j hjS hj1 4 (by decide)).trans (congrArg some er)
     have y0':wr.cell? ⟨g2,p2+j*5,none⟩=some (.string S[j].name):=C2 j hjS hj2 0 (by decide)
     have y1':wr.cell? ⟨g2,p2+j*5+1,none⟩=some (.string S[j].level):=C2 j hjS hj2 1 (by decide)
     have y2':wr.cell? ⟨g2,p2+j*5+2,none⟩=some (.int .i64 S[j].rank):=C2 j hjS hj2 2 (by decide)
     have y3':wr.cell? ⟨g2,p2+j*5+3,none⟩=some (.int .i64 S[j].way):=C2 j hjS hj2 3 (by decide)
     have y4':wr.cell? ⟨g2,p2+j*5+4,none⟩=some (.slice ar' S[j].rules.length cr'):=(C2 j hjS hj2 4 (by decide)).trans (congrArg some er')
     have SR:Hd (∀ W,Below wr.heap.size wr W→Calls Tryz.prog 36 #[.slice ar S[j].rules.length cr,.slice ar' S[j].rules.length cr'] W fun e w'=>e=.returned (.bool true)∧∃ q,w'=W.drewN q):=⟨fun W b=>by
      exact samerR (R1.carry b) (R2.carry b)⟩
     have hA1:=hU.out.b1.lt
     have hA2:=hU.out.b2.lt
     have HJ:Hd (j<m):=⟨hlt⟩
     have HU:Hd (∀ W,Below wr.heap.size wr W→TwoR w W A1 A2 x0 x1 x2 x3 a1 a2 (some ⟨g1,p1,none⟩) (some ⟨g2,p2,none⟩) c1 c2 d1 d2 L S V1 V2):=⟨fun W b=>hU.out.grown b⟩
     clear C1 C2 R1 R2 er er' hU
     generalize S[j]=s at *
     clear hjS hj1 hj2
     obtain ⟨q0,q1,q2,q3,q4⟩:=s
     simp only at SR x0' x1' x2' x3' x4' y0' y1' y2' y3' y4'
     generalize q4.length=nq4 at *
     have BX1:Hd (Below wr.heap.size wr ((wr.alloc (.cells #[.string q0,.string q1,.int .i64 q2,.int .i64 q3,.slice ar nq4 cr] 47)).alloc (.cells #[.string q0,.string q1,.int .i64 q2,.int .i64 q3,.slice ar' nq4 cr'] 47)).drew):=⟨(((Below.refl _ _).alloc (Nat.le_refl _) _).alloc (by simp) _).drew⟩
     have BX2:Hd (Below wr.heap.size wr ((wr.alloc (.cells #[.string q0,.string q1,.int .i64 q2,.int .i64 q3,.slice ar' nq4 cr'] 47)).alloc (.cells #[.string q0,.string q1,.int .i64 q2,.int .i64 q3,.slice ar nq4 cr] 47)).drew):=⟨(((Below.refl _ _).alloc (Nat.le_refl _) _).alloc (by simp) _).drew⟩
     have BY1:Hd (∀ q,Below wr.heap.size wr (World.drewN _ q)):=⟨fun q=>BX1.out.trans ⟨rfl,rfl,rfl,Nat.le_refl _,fun _ _=>rfl⟩⟩
     have BY2:Hd (∀ q,Below wr.heap.size wr (World.drewN _ q)):=⟨fun q=>BX2.out.trans ⟨rfl,rfl,rfl,Nat.le_refl _,fun _ _=>rfl⟩⟩
     go_wp2_with fail
     go_region_held (fun w'=>(w'.cell? ⟨A1,5,none⟩=some (.slice (some ⟨g1,p1,none⟩) m d1)∧w'.cell? ⟨A2,5,none⟩=some (.slice (some ⟨g2,p2,none⟩) m d2))∧(w'.cell? ⟨g1,p1+j*5,none⟩=some (.string q0)∧w'.cell? ⟨g1,p1+j*5+1,none⟩=some (.string q1)∧w'.cell? ⟨g1,p1+j*5+2,none⟩=some (.int .i64 q2)∧w'.cell? ⟨g1,p1+j*5+3,none⟩=some (.int .i64 q3)∧w'.cell? ⟨g1,p1+j*5+4,none⟩=some (.slice ar nq4 cr))∧(w'.cell? ⟨g2,p2+j*5,none⟩=some (.string q0)∧w'.cell? ⟨g2,p2+j*5+1,none⟩=some (.string q1)∧w'.cell? ⟨g2,p2+j*5+2,none⟩=some (.int .i64 q2)∧w'.cell? ⟨g2,p2+j*5+3,none⟩=some (.int .i64 q3)∧w'.cell? ⟨g2,p2+j*5+4,none⟩=some (.slice ar' nq4 cr'))) (go_keep) (fail)
     all_goals
      go_wp2_with (go_at_call 36;refine (SR.out _ (by first | exact BX1.out | exact BX2.out)).mono ?_;rintro e w5 ⟨rfl,q,rfl⟩)
      go_roundw
      case rel=>exact ⟨j+1,HJ.out,by go_num,⟨by first | exact HU.out _ (BY1.out _) | exact HU.out _ (BY2.out _)⟩⟩
      case measure=>have:=HJ.out;simp [intOf];omega
    ·obtain rfl:j=m:=by omega
     have R:Hd (Below w.heap.size w wr):=⟨hU.out.bel⟩
     clear hU
     go_wp2_with fail
     go_ret
     exact ⟨rfl,R.out⟩
theorem q5C_set:∀ (L:List Q5) (i:Nat) (q:Q5),i<L.length →
  (((((q5C L).set (i*5) q.v0).set (i*5+1) q.v1).set (i*5+2) q.v2).set (i*5+3) q.v3).set (i*5+4) q.v4=q5C (L.set i q)
 | [],i,q,h=>by simp at h
 | x :: L,0,q,_=>by simp [q5C,q5L]
 | x :: L,i+1,q,h=>by
  have:=q5C_set L i q (by simpa using h)
  simp only [q5C,q5L,List.set_cons_succ]
  rw [←this]
  rw [show (i+1)*5=(i*5)+1+1+1+1+1 by omega]
  simp [List.set_cons_succ]
theorem scCs_set:∀ (L:List Sc) (V:List Value) (i:Nat) (u:Value),i<L.length→i<V.length→(scCs L V).set (i*5+4) u=scCs L (V.set i u)
 | [],_,i,u,h,_=>by simp at h
 | _ :: _,[],i,u,_,h=>by simp at h
 | x :: L,v :: V,0,u,_,_=>by simp [scCs,scC]
 | x :: L,v :: V,i+1,u,h,h'=>by
  have:=scCs_set L V i u (by simpa using h) (by simpa using h')
  simp only [scCs,scC,List.set_cons_succ]
  rw [←this,show (i+1)*5+4=(i*5+4)+1+1+1+1+1 by omega]
  simp [List.set_cons_succ]
section
variable {B:Nat} {S:Nat→Prop} {w w':World} {v:Value}
theorem owns_set {e size n g c:Nat} {xs:List Value} (h:w.ownsRow B e size (.slice (some ⟨g,0,none⟩) n c) n xs) (i:Nat) (u:Value):(w.setCell ⟨g,i,none⟩ u).ownsRow B e size (.slice (some ⟨g,0,none⟩) n c) n (xs.set i u):=by
 obtain ⟨hl,h⟩:=h
 refine ⟨by simpa using hl,?_⟩
 rcases h with ⟨e,_⟩ | ⟨g',cap,cur,e',hb,hg,hn,hc,hs,ht⟩
 ·cases e
 ·injection e' with e1 e2 e3
  injection e1 with e1
  injection e1 with e1
  subst e1 e3
  refine .inr ⟨g,c,cur.setIfInBounds i u,rfl,hb,Blk.set hg i u,hn,hc,by simpa using hs,?_⟩
  rw [←ht]
  simp [List.take_set]
end
section
variable {B B':Nat} {S:Nat→Prop} {w w':World} {v:Value}
end
section
variable {B:Nat} {w:World} {v:Value}
end
end Go.Proofs.YthkdbphgiobcdaaGreatDoor
