/-
  Levels and scripts that came in: how they lie in memory.
  Whatever happens, the seats that run are within the limit or no more than they were: the walk.
  Two levels side by side, in boxes that are written anew.
-/
import Derived.Test.YtlgibnmoogbdcaaR34
import Derived.Test.YtlgibnmoogbdcaaR45
import Derived.OpenShut
import Derived.Test.YtlgibnmoogbdcaaR44
import Derived.BigQuiet
import Derived.Test.YtlgibnmoogbdcaaR41
namespace Go.Proofs.Ytlgibnmoogbdcaa
open Go.ChangeShapes Go.WideShapes Go.ChangeAt Go.RowKit
structure Oq where
 o:Od
 ha:Option Addr
 hn:Nat
 hc:Nat
 hf:Nat→Int
def opL (x:Oq):List Value:=(opA x.o x.ha x.hn x.hc).toList
def OqOk (w:World) (x:Oq):Prop:=HnR w x.ha x.hn x.hf∧x.hn≤9223372036854775807∧x.hn≤x.hc∧(x.ha=none→x.hc=0)
def OqR (w:World) (a:Option Addr) (n:Nat) (H:Nat→Oq):Prop:=0<n→∃ b off,a=some ⟨b,off,none⟩∧b<w.heap.size∧∀ k,k<n→(∀ j,j<19→w.cell? ⟨b,off+(k*19+j),none⟩=(opL (H k))[j]?)∧OqOk w (H k)
theorem OqOk.carry {w w':World} {x:Oq} (h:OqOk w x) (b:Below w.heap.size w w'):OqOk w' x:=⟨h.1.carry b,h.2⟩
theorem OqR.carry {w w':World} {a:Option Addr} {n:Nat} {H:Nat→Oq} (h:OqR w a n H) (b:Below w.heap.size w w'):OqR w' a n H:=fun hn=>by
 obtain ⟨q,off,rfl,hg,hc⟩:=h hn
 exact ⟨q,off,rfl,Nat.lt_of_lt_of_le hg b.size,fun k hk=>⟨fun j hj=>(b.cell (p:=⟨q,off+(k*19+j),none⟩) hg).trans ((hc k hk).1 j hj),(hc k hk).2.carry b⟩⟩
theorem cl4:Try.prog.cellsOf 4=1:=by kernel_rfl
theorem cl9:Try.prog.cellsOf 9=1:=by kernel_rfl
theorem clv:Try.prog.cellsOf 23=10:=by kernel_rfl
theorem clo:Try.prog.cellsOf 45=19:=by kernel_rfl
theorem len_succ {α:Type} {n:Nat} : ∀ {l:List α},l.length=n+1→∃ a t,l=a :: t∧t.length=n
 | a :: t,h=>⟨a,t,rfl,by simpa using h⟩
theorem len6 {α:Type} {l:List α} (h:l.length=6):∃ x0 x1 x2 x3 x4 x5,l=[x0,x1,x2,x3,x4,x5]:=by
 obtain ⟨x0,t0,rfl,h0⟩:=len_succ h
 obtain ⟨x1,t1,rfl,h1⟩:=len_succ h0
 obtain ⟨x2,t2,rfl,h2⟩:=len_succ h1
 obtain ⟨x3,t3,rfl,h3⟩:=len_succ h2
 obtain ⟨x4,t4,rfl,h4⟩:=len_succ h3
 obtain ⟨x5,t5,rfl,h5⟩:=len_succ h4
 obtain rfl:=List.length_eq_zero_iff.1 h5
 exact ⟨x0,x1,x2,x3,x4,x5,rfl⟩
theorem len10 {α:Type} {l:List α} (h:l.length=10):∃ x0 x1 x2 x3 x4 x5 x6 x7 x8 x9,l=[x0,x1,x2,x3,x4,x5,x6,x7,x8,x9]:=by
 obtain ⟨x0,t0,rfl,h0⟩:=len_succ h
 obtain ⟨x1,t1,rfl,h1⟩:=len_succ h0
 obtain ⟨x2,t2,rfl,h2⟩:=len_succ h1
 obtain ⟨x3,t3,rfl,h3⟩:=len_succ h2
 obtain ⟨x4,t4,rfl,h4⟩:=len_succ h3
 obtain ⟨x5,t5,rfl,h5⟩:=len_succ h4
 obtain ⟨x6,t6,rfl,h6⟩:=len_succ h5
 obtain ⟨x7,t7,rfl,h7⟩:=len_succ h6
 obtain ⟨x8,t8,rfl,h8⟩:=len_succ h7
 obtain ⟨x9,t9,rfl,h9⟩:=len_succ h8
 obtain rfl:=List.length_eq_zero_iff.1 h9
 exact ⟨x0,x1,x2,x3,x4,x5,x6,x7,x8,x9,rfl⟩
theorem len19 {α:Type} {l:List α} (h:l.length=19):∃ x0 x1 x2 x3 x4 x5 x6 x7 x8 x9 x10 x11 x12 x13 x14 x15 x16 x17 x18,l=[x0,x1,x2,x3,x4,x5,x6,x7,x8,x9,x10,x11,x12,x13,x14,x15,x16,x17,x18]:=by
 obtain ⟨x0,t0,rfl,h0⟩:=len_succ h
 obtain ⟨x1,t1,rfl,h1⟩:=len_succ h0
 obtain ⟨x2,t2,rfl,h2⟩:=len_succ h1
 obtain ⟨x3,t3,rfl,h3⟩:=len_succ h2
 obtain ⟨x4,t4,rfl,h4⟩:=len_succ h3
 obtain ⟨x5,t5,rfl,h5⟩:=len_succ h4
 obtain ⟨x6,t6,rfl,h6⟩:=len_succ h5
 obtain ⟨x7,t7,rfl,h7⟩:=len_succ h6
 obtain ⟨x8,t8,rfl,h8⟩:=len_succ h7
 obtain ⟨x9,t9,rfl,h9⟩:=len_succ h8
 obtain ⟨x10,t10,rfl,h10⟩:=len_succ h9
 obtain ⟨x11,t11,rfl,h11⟩:=len_succ h10
 obtain ⟨x12,t12,rfl,h12⟩:=len_succ h11
 obtain ⟨x13,t13,rfl,h13⟩:=len_succ h12
 obtain ⟨x14,t14,rfl,h14⟩:=len_succ h13
 obtain ⟨x15,t15,rfl,h15⟩:=len_succ h14
 obtain ⟨x16,t16,rfl,h16⟩:=len_succ h15
 obtain ⟨x17,t17,rfl,h17⟩:=len_succ h16
 obtain ⟨x18,t18,rfl,h18⟩:=len_succ h17
 obtain rfl:=List.length_eq_zero_iff.1 h18
 exact ⟨x0,x1,x2,x3,x4,x5,x6,x7,x8,x9,x10,x11,x12,x13,x14,x15,x16,x17,x18,rfl⟩
section
variable {H:Type} {enc:TypeId × Value→H} {W:World} {base:Nat} {sp:Nat→Bool} {held:Bool} {fuel:Nat} {x:DataW H × List MemPlace}
theorem open_level {cs:List Value} (h:DataW.trod enc Try.prog W base sp held fuel 23 cs=some x):∃ l:Lv,cs=(lvA l).toList:=by
 obtain ⟨xs,k,hk,hxy,hcl,hxl,hf⟩:=DataW.trod_struct Try.underlying23 h
 rw [clv] at hcl
 obtain ⟨v0,v1,v2,v3,v4,v5,v6,v7,v8,v9,rfl⟩:=len10 hcl
 obtain ⟨y0,y1,y2,y3,y4,y5,y6,y7,y8,y9,rfl⟩:=len10 (show xs.length=10 from hxl)
 have g0:=hf 0 _ rfl
 have g1:=hf 1 _ rfl
 have g2:=hf 2 _ rfl
 have g3:=hf 3 _ rfl
 have g4:=hf 4 _ rfl
 have g5:=hf 5 _ rfl
 have g6:=hf 6 _ rfl
 have g7:=hf 7 _ rfl
 have g8:=hf 8 _ rfl
 have g9:=hf 9 _ rfl
 simp [cl3,cl9] at g0 g1 g2 g3 g4 g5 g6 g7 g8 g9
 obtain ⟨s0,h0,_,_⟩:=DataW.trod_string Try.underlying9 g0
 obtain ⟨n1,h1,_,_⟩:=DataW.trod_int Try.underlying3 g1
 obtain ⟨n2,h2,_,_⟩:=DataW.trod_int Try.underlying3 g2
 obtain ⟨n3,h3,_,_⟩:=DataW.trod_int Try.underlying3 g3
 obtain ⟨n4,h4,_,_⟩:=DataW.trod_int Try.underlying3 g4
 obtain ⟨n5,h5,_,_⟩:=DataW.trod_int Try.underlying3 g5
 obtain ⟨n6,h6,_,_⟩:=DataW.trod_int Try.underlying3 g6
 obtain ⟨n7,h7,_,_⟩:=DataW.trod_int Try.underlying3 g7
 obtain ⟨n8,h8,_,_⟩:=DataW.trod_int Try.underlying3 g8
 obtain ⟨n9,h9,_,_⟩:=DataW.trod_int Try.underlying3 g9
 simp at h0 h1 h2 h3 h4 h5 h6 h7 h8 h9
 subst h0 h1 h2 h3 h4 h5 h6 h7 h8 h9
 exact ⟨⟨s0,n1,n2,n3,n4,n5,n6,n7,n8,n9⟩,rfl⟩
theorem open_levelA {cs:Array Value} (h:DataW.trod enc Try.prog W base sp held fuel 23 cs.toList=some x):∃ l:Lv,cs=lvA l:=by
 obtain ⟨l,e⟩:=open_level h
 exact ⟨l,Array.toList_inj.1 e⟩
theorem open_op1 {cs:List Value} (h:DataW.trod enc Try.prog W base sp held fuel 45 cs=some x):∃ o:Oq,cs=opL o∧OqOk W o:=by
 obtain ⟨xs,k,hk,hxy,hcl,hxl,hf⟩:=DataW.trod_struct Try.underlying45 h
 rw [clo] at hcl
 obtain ⟨v0,v1,v2,v3,v4,v5,v6,v7,v8,v9,v10,v11,v12,v13,v14,v15,v16,v17,v18,rfl⟩:=len19 hcl
 obtain ⟨y0,y1,y2,y3,y4,y5,rfl⟩:=len6 (show xs.length=6 from hxl)
 have g0:=hf 0 _ rfl
 have g1:=hf 1 _ rfl
 have g2:=hf 2 _ rfl
 have g3:=hf 3 _ rfl
 have g4:=hf 4 _ rfl
 have g5:=hf 5 _ rfl
 simp [cl3,cl26,cl28,clv,cl4] at g0 g1 g2 g3 g4 g5
 obtain ⟨n0,h0,_,_⟩:=DataW.trod_int Try.underlying3 g0
 obtain ⟨t,h1⟩:=open_tk1 g1
 obtain ⟨Hn,a,n,c,h2,hr⟩:=open_hand g2
 obtain ⟨n3,h3,_,_⟩:=DataW.trod_int Try.underlying3 g3
 obtain ⟨l,h4⟩:=open_level g4
 obtain ⟨b5,h5,_⟩:=DataW.trod_bool Try.underlying4 g5
 simp [tkC,lvA] at h0 h1 h2 h3 h4 h5
 obtain ⟨rfl,rfl,rfl,rfl,rfl⟩:=h1
 obtain ⟨rfl,rfl,rfl,rfl,rfl,rfl,rfl,rfl,rfl,rfl⟩:=h4
 subst h0 h2 h3 h5
 exact ⟨⟨⟨n0,t,n3,l,b5⟩,a,n,c,Hn⟩,rfl,hr⟩
theorem open_ops {v:Value} (h:DataW.trod enc Try.prog W base sp held fuel 24 [v]=some x) :
  ∃ o a n c,v=.slice a n c∧OqR W a n o∧n≤9223372036854775807:=by
 rcases Go.Deep.open_slice Try.underlying24 h with ⟨hcs,_⟩ | ⟨a,l,c,m,n,D,Pl,hcs,_,hl,hm,hmm,hx,hc⟩
 ·obtain rfl:v=.slice none 0 0:=by simpa using hcs
  exact ⟨fun _=>⟨⟨0,tkZ,0,⟨⟨#[]⟩,0,0,0,0,0,0,0,0,0⟩,false⟩,none,0,0,fun _=>0⟩,none,0,0,rfl,(fun h=>absurd h (Nat.lt_irrefl 0)),by decide⟩
 ·obtain rfl:v=.slice (some a) l c:=by simpa using hcs
  have hlm:l≤m:=by rw [hmm];split <;> omega
  have each:∀ k,k<l→∃ r:Oq,(∀ j,j<19→W.cell? (a.add (k*19+j))=(opL r)[j]?)∧OqOk W r:=by
   intro k hk
   obtain ⟨cs',h1,h2⟩:=hc k (by omega)
   rw [clo] at h1
   obtain ⟨_,hlen,hcell⟩:=World.cells?_some h1
   obtain ⟨r,rfl,hw⟩:=open_op1 h2
   exact ⟨r,fun j hj=>by have:=hcell j hj;rw [Go.Deep.add_add] at this;exact this,hw⟩
  have:Inhabited Oq:=⟨⟨⟨0,tkZ,0,⟨⟨#[]⟩,0,0,0,0,0,0,0,0,0⟩,false⟩,none,0,0,fun _=>0⟩⟩
  obtain ⟨q,hq⟩:=Go.Deep.choose_lt each
  refine ⟨q,some a,l,c,rfl,fun hn=>?_,by unfold maxLen at hm;omega⟩
  obtain ⟨b,off,spot⟩:=a
  have hu0:W.cell? (Addr.add ⟨b,off,spot⟩ (0*19+0))=some (.int .i64 (q 0).o.d):=(hq 0 hn).1 0 (by decide)
  have hspot:spot=none:=by simpa [Addr.add] using World.cell?_spot hu0
  subst hspot
  rw [Go.WideShapes.add_plain] at hu0
  refine ⟨b,off,rfl,World.block_lt_of_cell? _ _ hu0,fun k hk=>⟨fun j hj=>?_,(hq k hk).2⟩⟩
  have y:=(hq k hk).1 j hj
  rw [Go.WideShapes.add_plain] at y
  exact y
end
end Go.Proofs.Ytlgibnmoogbdcaa

namespace Go.Proofs.Ytlgibnmoogbdcaa
open Go.RowKit
def stK (s:St) (x:Oq):St × List Tk:=stX s x.o (chF s.x.F s.x.o x.hf (min x.hn 20))
theorem OqR.row {w:World} {a:Option Addr} {n:Nat} {H:Nat→Oq} (h:OqR w a n H) {k:Nat} (hk:k<n):∃ b off,a=some ⟨b,off,none⟩∧(∀ W,Below w.heap.size w W→W.rangeAt b (off+k*19) (opA (H k).o (H k).ha (H k).hn (H k).hc).toList)∧OqOk w (H k):=by
 obtain ⟨b,off,rfl,hb,hc⟩:=h (by omega)
 obtain ⟨h1,h2⟩:=hc k hk
 refine ⟨b,off,rfl,fun W B j v hv=>?_,h2⟩
 have hj:j<19:=(List.getElem?_eq_some_iff.1 hv).1
 have e:=(B.cell (p:=⟨b,off+(k*19+j),none⟩) hb).trans (h1 j hj)
 rw [←Nat.add_assoc] at e
 exact e.trans hv
theorem exec_loadOp {oi:Oper} {a:Act} {w:World} (x:Operand) (ho:oi.op=.load 45 x) (b o:Nat) (hx:a.eval x=.pointer (some ⟨b,o,none⟩)) (q:Od) (ah:Option Addr) (nh ch:Nat) (hc:w.rangeAt b o (opA q ah nh ch).toList) :
  (execOp a.eval oi).run Try.prog w=.ok (.value (.agg (opA q ah nh ch))) w:=by
 unfold execOp
 simp only [ho,hx,Instr.loadAt,Instr.sureAddr,Sem.run_bind,Sem.run_pure,Result.andThen_ok,run_loadVar_mid w b o 45 _ _ hc Try.underlying45 rfl (by kernel_rfl)]
theorem wpl_loadSt_w {ops:Array Oper} {rest:List Oper} {o:Oper} {a:Act} {w:World} {Q:Exit→Act→World→Prop} (hw:Region.wanted o (yielded ops a.tmps)=true) (x:Operand) (ho:o.op=.load 36 x) (g:Nat) (hx:a.eval x=.pointer (some ⟨g,0,none⟩)) (cs:Array Value) (hb:Blk w g 36 cs) (hz:cs.size=23)
  (h:wpList Try.prog ops Q rest (a.put o.dst (.agg cs)) w):wpList Try.prog ops Q (o :: rest) a w :=
 wpList_step fun K hK=>by
  rw [if_pos hw]
  exact wp_loadSt x ho g hx cs hb hz (hK _ _ h)
structure Vw where
 a:Option Addr
 c:Nat
 b:Option Addr
 d:Nat
def vwA (s:St) (x:Vw):Array Value:=stB s (.slice x.a s.x.F.length x.c) (.slice x.b s.run.length x.d)
def VwR (T:Nat→Prop) (W:World) (s:St) (x:Vw):Prop:=StR T W x.a x.c s.x.F∧TkS T W x.b x.d s.run
theorem VwR.step {T T':Nat→Prop} {W W':World} {s:St} {x:Vw} (h:VwR T W s x) (k:Kept T W W') (e:∀ j,j<W.heap.size→T' j→T j):VwR T' W' s x:=⟨h.1.stp k e,h.2.step k e⟩
def BX (T:Nat→Prop) (W:World) (q:Nat) (s:St):Prop:=∃ x,Blk W q 36 (vwA s x)∧VwR T W s x
theorem BX.step {T T':Nat→Prop} {W W':World} {q:Nat} {s:St} (h:BX T W q s) (k:Kept T W W') (e:∀ j,j<W.heap.size→T' j→T j) (hq:Kept (fun j=>j≠q) W W'):BX T' W' q s:=by
 obtain ⟨x,h1,h2⟩:=h
 exact ⟨x,h1.kept hq (fun e=>e rfl),h2.step k e⟩
theorem BX.carry {T T':Nat→Prop} {W W':World} {q:Nat} {s:St} (h:BX T W q s) (b:Below W.heap.size W W') (e:∀ j,j<W.heap.size→T' j→T j):BX T' W' q s:=h.step (Kept.of_below b _) e (Kept.of_below b _)
theorem BX.lt {T:Nat→Prop} {W:World} {q:Nat} {s:St} (h:BX T W q s):q<W.heap.size:=by
 obtain ⟨x,h1,-⟩:=h
 exact h1.lt
def T2 (M:Nat→Prop) (q r:Option Nat) (j:Nat):Prop:=M j∨q=some j∨r=some j
structure P3 (w0:World) (M:Nat→Prop) (s t:St) (K:List Tk) (q r:Option Nat) (v u:Option Vw) (y:Option (Option Addr × Nat)) (W:World):Prop where
 bel:Below w0.heap.size w0 W
 mv:∀ j,M j→j<w0.heap.size
 bq:∀ j,q=some j→Blk W j 36 (stB sZ (.slice none 0 0) (.slice none 0 0))∧w0.heap.size≤j
 br:∀ j,r=some j→Blk W j 36 (stB sZ (.slice none 0 0) (.slice none 0 0))∧w0.heap.size≤j
 ne:∀ j,q=some j→r≠some j
 va:∀ x,v=some x→VwR (T2 M q r) W s x
 ua:∀ x,u=some x→VwR (T2 M q r) W t x
 ya:∀ x,y=some x→TkS (T2 M q r) W x.1 x.2 K
section
variable {w0 W W':World} {M:Nat→Prop} {s t:St} {K:List Tk} {q r:Option Nat} {v u:Option Vw} {y:Option (Option Addr × Nat)}
theorem P3.start (b:Below w0.heap.size w0 W) (hM:∀ j,M j→j<w0.heap.size) (hv:∀ x,v=some x→VwR M w0 s x):P3 w0 M s t K none none v none none W :=
 ⟨b,hM,(fun _ e=>by cases e),(fun _ e=>by cases e),(fun _ e=>by cases e),fun x e=>(hv x e).step (Kept.of_below b _) (fun j _ e=>e.elim id (fun e=>e.elim (fun e=>by cases e) (fun e=>by cases e))),(fun _ e=>by cases e),(fun _ e=>by cases e)⟩
theorem P3.lt (h:P3 w0 M s t K q r v u y W):∀ j,T2 M q r j→j<W.heap.size:=fun j e=>by
 rcases e with e | e | e
 ·exact Nat.lt_of_lt_of_le (h.mv j e) h.bel.size
 ·exact (h.bq j e).1.lt
 ·exact (h.br j e).1.lt
theorem P3.carry (h:P3 w0 M s t K q r v u y W) (b:Below W.heap.size W W'):P3 w0 M s t K q r v u y W':=by
 have k:=Kept.of_below b (fun _=>False)
 have k2:=Kept.of_below b (T2 M q r)
 exact ⟨h.bel.trans (b.mono h.bel.size),h.mv,fun j e=>⟨(h.bq j e).1.kept k id,(h.bq j e).2⟩,fun j e=>⟨(h.br j e).1.kept k id,(h.br j e).2⟩,h.ne,fun x e=>(h.va x e).step k2 (fun _ _ e=>e),fun x e=>(h.ua x e).step k2 (fun _ _ e=>e),fun x e=>(h.ya x e).step k2 (fun _ _ e=>e)⟩
theorem P3.one (h:P3 w0 M s t K q r none u y W) (b:Below W.heap.size W W') {x:Vw} (hx:VwR (T2 M q r) W' s x):P3 w0 M s t K q r (some x) u y W' :=
 { h.carry b with va:=fun x' e=>by cases e;exact hx }
theorem P3.two (h:P3 w0 M s t K q r v none y W) (b:Below W.heap.size W W') {x:Vw} (hx:VwR (T2 M q r) W' t x):P3 w0 M s t K q r v (some x) y W' :=
 { h.carry b with ua:=fun x' e=>by cases e;exact hx }
theorem P3.oney (h:P3 w0 M s t K q r none u none W) (b:Below W.heap.size W W') {x:Vw} (hx:VwR (T2 M q r) W' s x) {a:Option Addr} {c:Nat} (hy:TkS (T2 M q r) W' a c K):P3 w0 M s t K q r (some x) u (some (a,c)) W' :=
 { h.carry b with va:=fun x' e=>by cases e;exact hx,ya:=fun x' e=>by cases e;exact hy }
theorem P3.al1 (h:P3 w0 M s t K none r v u y W):P3 w0 M s t K (some W.heap.size) r v u y (W.alloc (.cells #[.string { data:=#[] },.int .i64 0,.int .i64 0,.int .i64 0,.int .i64 0,.int .i64 0,.int .i64 0,.int .i64 0,.int .i64 0,.int .i64 0,.bool false,.int .i64 0,.int .i64 0,.int .i64 0,.int .i64 0,.int .i64 0,.int .i64 0,.int .u64 0,.int .i64 0,.int .i64 0,.int .i64 0,.slice none 0 0,.slice none 0 0] 36)):=by
 have b:Below W.heap.size W (W.alloc (.cells #[.string { data:=#[] },.int .i64 0,.int .i64 0,.int .i64 0,.int .i64 0,.int .i64 0,.int .i64 0,.int .i64 0,.int .i64 0,.int .i64 0,.bool false,.int .i64 0,.int .i64 0,.int .i64 0,.int .i64 0,.int .i64 0,.int .i64 0,.int .u64 0,.int .i64 0,.int .i64 0,.int .i64 0,.slice none 0 0,.slice none 0 0] 36)):=alloc_below _ _
 have c:=h.carry b
 have z:=h.bel.size
 have k0:Kept (T2 M none r) (W.alloc (.cells #[.string { data:=#[] },.int .i64 0,.int .i64 0,.int .i64 0,.int .i64 0,.int .i64 0,.int .i64 0,.int .i64 0,.int .i64 0,.int .i64 0,.bool false,.int .i64 0,.int .i64 0,.int .i64 0,.int .i64 0,.int .i64 0,.int .i64 0,.int .u64 0,.int .i64 0,.int .i64 0,.int .i64 0,.slice none 0 0,.slice none 0 0] 36)) (W.alloc (.cells #[.string { data:=#[] },.int .i64 0,.int .i64 0,.int .i64 0,.int .i64 0,.int .i64 0,.int .i64 0,.int .i64 0,.int .i64 0,.int .i64 0,.bool false,.int .i64 0,.int .i64 0,.int .i64 0,.int .i64 0,.int .i64 0,.int .i64 0,.int .u64 0,.int .i64 0,.int .i64 0,.int .i64 0,.slice none 0 0,.slice none 0 0] 36)):=Kept.refl _ _
 have e:∀ j,j<W.heap.size→T2 M (some W.heap.size) r j→T2 M none r j:=fun j hj e=>by
  rcases e with e | e | e
  ·exact .inl e
  ·injection e with e;omega
  ·exact .inr (.inr e)
 refine ⟨c.bel,h.mv,fun j e=>?_,c.br,fun j e e2=>?_,fun x ex=>(h.va x ex).step (Kept.of_below b _) e,fun x ex=>(h.ua x ex).step (Kept.of_below b _) e,fun x ex=>(h.ya x ex).step (Kept.of_below b _) e⟩
 ·cases e
  exact ⟨Blk.new _ _ _,z⟩
 ·cases e
  have:=(h.br _ e2).1.lt
  omega
theorem P3.al2 (h:P3 w0 M s t K q none v u y W):P3 w0 M s t K q (some W.heap.size) v u y (W.alloc (.cells #[.string { data:=#[] },.int .i64 0,.int .i64 0,.int .i64 0,.int .i64 0,.int .i64 0,.int .i64 0,.int .i64 0,.int .i64 0,.int .i64 0,.bool false,.int .i64 0,.int .i64 0,.int .i64 0,.int .i64 0,.int .i64 0,.int .i64 0,.int .u64 0,.int .i64 0,.int .i64 0,.int .i64 0,.slice none 0 0,.slice none 0 0] 36)):=by
 have b:Below W.heap.size W (W.alloc (.cells #[.string { data:=#[] },.int .i64 0,.int .i64 0,.int .i64 0,.int .i64 0,.int .i64 0,.int .i64 0,.int .i64 0,.int .i64 0,.int .i64 0,.bool false,.int .i64 0,.int .i64 0,.int .i64 0,.int .i64 0,.int .i64 0,.int .i64 0,.int .u64 0,.int .i64 0,.int .i64 0,.int .i64 0,.slice none 0 0,.slice none 0 0] 36)):=alloc_below _ _
 have c:=h.carry b
 have z:=h.bel.size
 have e:∀ j,j<W.heap.size→T2 M q (some W.heap.size) j→T2 M q none j:=fun j hj e=>by
  rcases e with e | e | e
  ·exact .inl e
  ·exact .inr (.inl e)
  ·injection e with e;omega
 refine ⟨c.bel,h.mv,c.bq,fun j e=>?_,fun j e e2=>?_,fun x ex=>(h.va x ex).step (Kept.of_below b _) e,fun x ex=>(h.ua x ex).step (Kept.of_below b _) e,fun x ex=>(h.ya x ex).step (Kept.of_below b _) e⟩
 ·cases e
  exact ⟨Blk.new _ _ _,z⟩
 ·cases e2
  have:=(h.bq _ e).1.lt
  omega
theorem P3.put2 {a b:Nat} {x z:Vw} (h:P3 w0 M s t K (some a) (some b) (some x) (some z) y W) {W1:World} (n1:Blk W1 a 36 (vwA s x)) (k1:Kept (fun j=>j=a) W W1) :
  Below w0.heap.size w0 W1∧Blk W1 b 36 (stB sZ (.slice none 0 0) (.slice none 0 0))∧∀ W2,Blk W2 b 36 (vwA t z)→Kept (fun j=>j=b) W1 W2 →
   Below w0.heap.size w0 W2∧(w0.heap.size≤a∧w0.heap.size≤b∧a≠b)∧BX (T2 M (some a) (some b)) W2 a s∧BX (T2 M (some a) (some b)) W2 b t:=by
 have hne:b≠a:=fun e=>h.ne a rfl (by rw [e])
 have ha:=h.bq a rfl
 have hb:=h.br b rfl
 refine ⟨h.bel.trans (k1.below h.bel.size (fun j e=>by have:=ha.2;omega)),hb.1.kept k1 hne,fun W2 n2 k2=>?_⟩
 have kk:Kept (T2 M (some a) (some b)) W W2:=(k1.mono (fun j _ e=>.inr (.inl (by rw [e])))).trans (k2.mono (fun j _ e=>.inr (.inr (by rw [e]))))
 have kz:Kept (fun j=>w0.heap.size≤j) W W2:=(k1.mono (fun j _ e=>by have:=ha.2;omega)).trans (k2.mono (fun j _ e=>by have:=hb.2;omega))
 exact ⟨h.bel.trans (kz.below h.bel.size (fun j e=>e)),⟨ha.2,hb.2,Ne.symm hne⟩,⟨x,n1.kept k2 (Ne.symm hne),(h.va x rfl).step kk (fun _ _ e=>e)⟩,⟨z,n2,(h.ua z rfl).step kk (fun _ _ e=>e)⟩⟩
theorem P3.put1 {a c:Nat} {b:Option Addr} {x:Vw} (h:P3 w0 M s t K (some a) none (some x) none (some (b,c)) W) {W1:World} (n1:Blk W1 a 36 (vwA s x)) (k1:Kept (fun j=>j=a) W W1) :
  Below w0.heap.size w0 W1∧w0.heap.size≤a∧BX (T2 M (some a) none) W1 a s∧TkS (T2 M (some a) none) W1 b c K:=by
 have ha:=h.bq a rfl
 have kk:Kept (T2 M (some a) none) W W1:=k1.mono (fun j _ e=>.inr (.inl (by rw [e])))
 have kz:Kept (fun j=>w0.heap.size≤j) W W1:=k1.mono (fun j _ e=>by have:=ha.2;omega)
 exact ⟨h.bel.trans (kz.below h.bel.size (fun j e=>e)),ha.2,⟨x,n1,(h.va x rfl).step kk (fun _ _ e=>e)⟩,(h.ya (b,c) rfl).step kk (fun _ _ e=>e)⟩
end
theorem StV.vw {T:Nat→Prop} {W:World} {s:St} {e:Value} (h:StV T W s e):∃ x,e=.agg (vwA s x)∧VwR T W s x:=by
 obtain ⟨a,c,ar,cr,e,h1,h2⟩:=h
 exact ⟨⟨a,c,ar,cr⟩,e,h1,h2⟩
theorem vw_one (s:St) (x:Vw):(vwA s x).all (·.oneCell')=true:=st_one _ _ _ _ _ _ _
def C2 (w0:World) (M:Nat→Prop) (s t:St) (p1 p2:Value) (W:World):Prop:=∃ q r,p1=.pointer (some ⟨q,0,none⟩)∧p2=.pointer (some ⟨r,0,none⟩)∧Below w0.heap.size w0 W∧(w0.heap.size≤q∧w0.heap.size≤r∧q≠r)∧BX (T2 M (some q) (some r)) W q s∧BX (T2 M (some q) (some r)) W r t
def C1 (w0:World) (M:Nat→Prop) (s:St) (K:List Tk) (p1 p2:Value) (W:World):Prop:=∃ q a c,p1=.pointer (some ⟨q,0,none⟩)∧p2=.slice a K.length c∧Below w0.heap.size w0 W∧w0.heap.size≤q∧BX (T2 M (some q) none) W q s∧TkS (T2 M (some q) none) W a c K
theorem ds_num (s:St):(dsA s).2.length≤(dsA s).1.run.length:=dsR_ind (P:=fun a L=>L.length≤a.run.length) (fun a L h _=>by show (L ++ [dsT a]).length≤(a.run ++ [dsT a]).length;simp only [List.length_append,List.length_singleton];omega) _ _ _ (Nat.zero_le _)
theorem stX_num {k:Nat} {s:St} (h:IvL k s) (hk:k≤900) (o:Od) (c:Int):(stX s o c).2.length≤1000:=by
 unfold stX
 split
 ·split <;> exact Nat.zero_le _
 ·split
  ·have:=ds_num s
   have:=h.dispatch.run
   omega
  ·split
   ·split
    ·exact (by decide:1≤1000)
    ·exact Nat.zero_le _
   ·split
    ·split
     ·exact (by decide:1≤1000)
     ·exact Nat.zero_le _
    ·split
     ·have h1:(srt (ltA o.n s.x.F)).length=(ltA o.n s.x.F).length:=(srt_perm _).length_eq
      have h2:(ltA o.n s.x.F).length≤(flt s.x.F).length:=List.length_filter_le _ _
      have:=h.wait
      show (srt (ltA o.n s.x.F)).length≤1000
      omega
     ·split <;> exact Nat.zero_le _
structure PlI (w:World) (g h k:Nat) (s:St) (W:World):Prop where
 bel:Below w.heap.size w W
 lg:w.heap.size≤g∧w.heap.size≤h∧g≠h
 bg:BX (fun j=>j=g∨j=h) W g s
 bh:BX (fun j=>j=g∨j=h) W h s
 iv:IvL k s
end Go.Proofs.Ytlgibnmoogbdcaa
