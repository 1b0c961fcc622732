/-
  Lanes that are copied, and that are joined, by the program and by the reference.
  A lane without one who waits, by the program.
-/
import Derived.Test.YtlgibnmoogbdcaaGreatR3
import Derived.Test.YtlgibnmoogbdcaaGreatR4
namespace Go.Proofs.YtlgibnmoogbdcaaGreat
open Go.RowKit
def LnV (w:World) (s:Int) (L:List Tk) (v:Value):Prop:=∃ a c,v=.agg #[.int .u64 s,.slice a L.length c]∧SlR w a c L
theorem LnV.carry {w w':World} {s:Int} {L:List Tk} {v:Value} (h:LnV w s L v) (b:Below w.heap.size w w'):LnV w' s L v:=by
 obtain ⟨a,c,e,k⟩:=h
 exact ⟨a,c,e,k.carry b⟩
theorem OwnT.read {w:World} {B:Nat} {v:Value} {L:List Tk} (h:OwnT w B v L):∃ a c,v=.slice a L.length c∧SlR w a c L:=tk_owned h
def LnO (w:World) (B:Nat) (s:Int) (L:List Tk) (v:Value):Prop:=∃ a c,v=.agg #[.int .u64 s,.slice a L.length c]∧SlR w a c L∧OwnT w B (.slice a L.length c) L
theorem OwnT.lnO {w:World} {B B':Nat} {s:Int} {a:Option Addr} {n c:Nat} {L:List Tk} (h:OwnT w B' (.slice a n c) L) (hn:n=L.length) (hB:B≤B'):LnO w B s L (.agg #[.int .u64 s,.slice a n c]):=by
 subst hn
 obtain ⟨a6,c6,e6,r6⟩:=h.read
 obtain ⟨rfl,-,rfl⟩:a=a6∧True∧c=c6:=by injection e6 with x1 x2 x3;exact ⟨x1,trivial,x3⟩
 exact ⟨a,c,rfl,r6,h.low hB⟩
theorem LnO.read {w:World} {B:Nat} {s:Int} {L:List Tk} {v:Value} (h:LnO w B s L v):LnV w s L v:=by
 obtain ⟨a,c,e,k,-⟩:=h
 exact ⟨a,c,e,k⟩
def LnW (w:World) (B:Nat) (s:Int) (L:List Tk) (v:Value) (b:Bool):Prop:=LnV w s L v∧(b=true→LnO w B s L v)
theorem OwnT.lnW {w:World} {B B':Nat} {s:Int} {a:Option Addr} {n c:Nat} {L:List Tk} {b:Bool} (h:OwnT w B' (.slice a n c) L) (hn:n=L.length) (hB:B≤B'):LnW w B s L (.agg #[.int .u64 s,.slice a n c]) b :=
 ⟨(h.lnO hn (Nat.le_refl _)).read,fun _=>h.lnO hn hB⟩
theorem OwnT.kept {S:Nat→Prop} {w w':World} {B:Nat} {v:Value} {L:List Tk} (h:OwnT w B v L) (k:Kept S w w') (hS:∀ j,B≤j→¬ S j):OwnT w' B v L:=by
 refine ⟨h.1,h.2.imp id ?_⟩
 rintro ⟨g,cap,cur,e,hb,hg,r⟩
 refine ⟨g,cap,cur,e,hb,?_,r⟩
 have hlt:g<w.heap.size:=by
  rcases Nat.lt_or_ge g w.heap.size with h1 | h1
  ·exact h1
  ·rw [Array.getElem?_eq_none h1] at hg;cases hg
 rw [k.block g hlt (hS g hb)]
 exact hg
theorem resLn9 (tmps:Array Value) (w:World) (g:Nat) {s:Int} {a:Option Addr} {n c:Nat} (ht:tmps[2]?.getD undef=.pointer (some ⟨g,0,none⟩)) (h:Blk w g 62 (lnA s (.slice a n c))) :
  (results Tryz.f64 tmps).run Tryz.prog w=.ok (.agg #[.int .u64 s,.slice a n c]) w:=by
 obtain ⟨⟨c0,c1⟩,-⟩:=h.lane
 simp [results,Tryz.results64,go_sem,ht,c0,c1]
theorem resLn25 (tmps:Array Value) (w:World) (g:Nat) {s:Int} {a:Option Addr} {n c:Nat} (ht:tmps[2]?.getD undef=.pointer (some ⟨g,0,none⟩)) (h:Blk w g 62 (lnA s (.slice a n c))) :
  (results Tryz.f90 tmps).run Tryz.prog w=.ok (.agg #[.int .u64 s,.slice a n c]) w:=by
 obtain ⟨⟨c0,c1⟩,-⟩:=h.lane
 simp [results,Tryz.results90,go_sem,ht,c0,c1]
theorem resLn17 (tmps:Array Value) (w:World) (g:Nat) {s:Int} {a:Option Addr} {n c:Nat} (ht:tmps[6]?.getD undef=.pointer (some ⟨g,0,none⟩)) (h:Blk w g 62 (lnA s (.slice a n c))) :
  (results Tryz.f88 tmps).run Tryz.prog w=.ok (.agg #[.int .u64 s,.slice a n c]) w:=by
 obtain ⟨⟨c0,c1⟩,-⟩:=h.lane
 simp [results,Tryz.results88,go_sem,ht,c0,c1]
theorem resLn18 (tmps:Array Value) (w:World) (g:Nat) {s:Int} {a:Option Addr} {n c:Nat} (ht:tmps[6]?.getD undef=.pointer (some ⟨g,0,none⟩)) (h:Blk w g 62 (lnA s (.slice a n c))) :
  (results Tryz.f69 tmps).run Tryz.prog w=.ok (.agg #[.int .u64 s,.slice a n c]) w:=by
 obtain ⟨⟨c0,c1⟩,-⟩:=h.lane
 simp [results,Tryz.results69,go_sem,ht,c0,c1]
set_option maxRecDepth 20000 in
set_option maxHeartbeats 1000000 in
theorem copy_ok (s:Int) (a:Option Addr) (c:Nat) (L:List Tk) (w:World) (h:SlR w a c L) (hl:L.length≤2000) :
  Calls Tryz.prog 64 #[.agg #[.int .u64 s,.slice a L.length c]] w fun e w'=>(∃ v,e=.returned (.agg #[.int .u64 s,v])∧OwnT w' w.heap.size v L)∧Below w.heap.size w w':=by
 obtain ⟨w2,hw2⟩:∃ w2,w2=(w.alloc (.cells #[.int .u64 s,.slice a L.length c] 62)).alloc (.cells #[.int .u64 0,.slice none 0 0] 62):=⟨_,rfl⟩
 have BX:=boxes w 62 62 #[.int .u64 s,.slice a L.length c] #[.int .u64 0,.slice none 0 0]
 rw [←hw2] at BX
 obtain ⟨B,N1,N2⟩:=BX
 have B':Hd (Below w.heap.size w w2.drew):=⟨B.drew⟩
 have M1:Blk w2.drew w.heap.size 62 (lnA s (.slice a L.length c)):=N1
 have M2:Blk w2.drew (w.heap.size+1) 62 (lnA 0 (.slice none 0 0)):=N2
 have HS:Hd (SlR w2.drew a c L):=⟨h.carry B'.out⟩
 have HZ:Hd (w.heap.size+2≤w2.drew.heap.size):=⟨by have:=N2.lt;show _≤w2.heap.size;omega⟩
 clear N1 N2 B h
 obtain ⟨n,hn⟩:∃ n,L.length=n:=⟨_,rfl⟩
 have HL:Hd (L.length=n):=⟨hn⟩
 rw [hn] at hl hw2 M1 ⊢
 clear hn
 go_enter Tryz.func64,Tryz.ntmps64
 go_upto_region 1 with fail
 rw [←hw2]
 clear hw2
 obtain ⟨A,hA⟩:∃ A,A=w.heap.size:=⟨_,rfl⟩
 have HA:Hd (A=w.heap.size):=⟨hA⟩
 rw [←hA] at M1 M2 B' HZ ⊢
 clear hA
 refine AnyG.start (T:=fun W=>Blk W A 62 (lnA s (.slice a n c))) (U:=fun _=>True) (j0:=100) (by kernel_rfl) ?_
 generalize w2.drew=w3 at *
 have X0:Hd (∀ W,Blk W A 62 (lnA s (.slice a n c))→W.cell? ⟨A,0,none⟩=some (.int .u64 s)):=⟨fun W q=>q.cellv 0 rfl⟩
 have X1:Hd (∀ W,Blk W A 62 (lnA s (.slice a n c))→W.cell? ⟨A,1,none⟩=some (.slice a n c)):=⟨fun W q=>q.cellv 1 rfl⟩
 refine .tq 0 3 M1 ?_;simp only [oqA,oqB,oqC]
 refine .tq 1 4 M1 ?_ (hy:=fun w hSw=>by have s:=X0.out w hSw;go_simp;rfl);simp only [oqA,oqB,oqC]
 refine .tq 3 6 M1 ?_;simp only [oqA,oqB,oqC]
 refine .tq 4 7 M1 ?_ (hy:=fun w hSw=>by have s:=X1.out w hSw;go_simp;rfl);simp only [oqA,oqB,oqC]
 refine AnyG.ready (rs:=[2]) (by kernel_rfl) (by simp) ?_
 refine AllG.cons rfl (fun K hK=>?_) AllG.nil
 go_simp
 have T2:Blk (w3.alloc (.cells #[] 36)) A 62 (lnA s (.slice a n c)):=M1.alloc _
 have M2':Blk (w3.alloc (.cells #[] 36)) (A+1) 62 (lnA 0 (.slice none 0 0)):=M2.alloc _
 have S2:=HS.out.carry (alloc_below w3 (.cells #[] 36))
 have O2:=OwnT.lit w3 w3.heap.size (Nat.le_refl _)
 have B2:Below w3.heap.size w3 (w3.alloc (.cells #[] 36)):=alloc_below _ _
 have hz2:w3.heap.size≤(w3.alloc (.cells #[] 36)).heap.size:=B2.size
 refine hK.out _ _ ⟨T2,fun _=>trivial⟩ ?_
 clear hK K
 generalize w3.alloc (.cells #[] 36)=w4 at *
 refine AnyG.ready (rs:=[5]) (by kernel_rfl) (by simp) ?_
 refine AllG.cons rfl (fun K hK=>?_) AllG.nil
 refine step_tks rfl _ _ rfl w3.heap.size _ [] L rfl O2 a n c HL.out rfl S2 (by have:=HL.out;simp;omega) hz2 ?_
 intro v5 w5 o5 g5
 have b5:=O2.below B2 hz2 g5
 have T3:Blk w5 A 62 (lnA s (.slice a n c)):=M1.kept (Kept.of_below b5 (fun _=>False)) id
 have M3:Blk w5 (A+1) 62 (lnA 0 (.slice none 0 0)):=M2.kept (Kept.of_below b5 (fun _=>False)) id
 refine hK.out _ _ ⟨T3,fun _=>trivial⟩ ?_
 clear hK K T2 M2' S2 O2 B2 hz2 g5
 obtain ⟨a5,c5,rfl,-⟩:=o5.read
 refine AnyG.ready (rs:=[6]) (by kernel_rfl) (by simp) ?_
 refine AllG.cons rfl (fun K hK=>?_) AllG.nil
 go_simp
 refine hK.out _ _ ⟨T3,fun _=>trivial⟩ ?_
 clear hK K
 obtain ⟨⟨r0,r1⟩,f0,f1⟩:=M3.lane
 obtain ⟨q1,q2⟩:=lane_set M3 s (.slice a5 L.length c5)
 refine AnyG.ready (rs:=[7]) (by kernel_rfl) (by simp) ?_
 refine AllG.cons rfl (fun K hK=>?_) AllG.nil
 go_simp
 refine hK.out _ _ ⟨T3.kept q2 (by omega),fun _=>trivial⟩ ?_
 clear hK K
 refine AnyG.done (by kernel_rfl) ?_ _
 go_wp2_with fail
 refine bodyPost_ret (resLn9 _ _ _ rfl q1) rfl ?_
 refine ⟨⟨_,rfl,?_⟩,?_⟩
 ·rw [←HA.out]
  exact (o5.kept q2 (fun j hj e=>by have:=HZ.out;omega)).low (by have:=HZ.out;omega)
 ·rw [←HA.out]
  exact (B'.out.trans (b5.mono (by have:=HZ.out;omega))).trans (q2.below (by have:=HZ.out;have:=b5.size;omega) (fun k e=>by omega))
set_option maxRecDepth 20000 in
set_option maxHeartbeats 1000000 in
theorem copied_ok (s:Int) (a:Option Addr) (c:Nat) (L:List Tk) (w:World) (h:SlR w a c L) (hl:L.length≤2000) :
  Calls Tryz.prog 90 #[.agg #[.int .u64 s,.slice a L.length c]] w fun e w'=>(∃ v,e=.returned (.agg #[.int .u64 s,v])∧OwnT w' w.heap.size v L)∧Below w.heap.size w w':=by
 obtain ⟨w2,hw2⟩:∃ w2,w2=(w.alloc (.cells #[.int .u64 s,.slice a L.length c] 62)).alloc (.cells #[.int .u64 0,.slice none 0 0] 62):=⟨_,rfl⟩
 have BX:=boxes w 62 62 #[.int .u64 s,.slice a L.length c] #[.int .u64 0,.slice none 0 0]
 rw [←hw2] at BX
 obtain ⟨B,N1,N2⟩:=BX
 have B':Hd (Below w.heap.size w w2.drew):=⟨B.drew⟩
 have M1:Blk w2.drew w.heap.size 62 (lnA s (.slice a L.length c)):=N1
 have M2:Blk w2.drew (w.heap.size+1) 62 (lnA 0 (.slice none 0 0)):=N2
 have HS:Hd (SlR w2.drew a c L):=⟨h.carry B'.out⟩
 have HZ:Hd (w.heap.size+2≤w2.drew.heap.size):=⟨by have:=N2.lt;show _≤w2.heap.size;omega⟩
 clear N1 N2 B h
 obtain ⟨n,hn⟩:∃ n,L.length=n:=⟨_,rfl⟩
 have HL:Hd (L.length=n):=⟨hn⟩
 rw [hn] at hl hw2 M1 ⊢
 clear hn
 go_enter Tryz.func90,Tryz.ntmps90
 go_upto_region 1 with fail
 rw [←hw2]
 clear hw2
 obtain ⟨A,hA⟩:∃ A,A=w.heap.size:=⟨_,rfl⟩
 have HA:Hd (A=w.heap.size):=⟨hA⟩
 rw [←hA] at M1 M2 B' HZ ⊢
 clear hA
 refine AnyG.start (T:=fun W=>Blk W A 62 (lnA s (.slice a n c))) (U:=fun _=>True) (j0:=100) (by kernel_rfl) ?_
 generalize w2.drew=w3 at *
 have X0:Hd (∀ W,Blk W A 62 (lnA s (.slice a n c))→W.cell? ⟨A,0,none⟩=some (.int .u64 s)):=⟨fun W q=>q.cellv 0 rfl⟩
 have X1:Hd (∀ W,Blk W A 62 (lnA s (.slice a n c))→W.cell? ⟨A,1,none⟩=some (.slice a n c)):=⟨fun W q=>q.cellv 1 rfl⟩
 refine .tq 0 3 M1 ?_;simp only [oqA,oqB,oqC]
 refine .tq 1 4 M1 ?_ (hy:=fun w hSw=>by have s:=X0.out w hSw;go_simp;rfl);simp only [oqA,oqB,oqC]
 refine .tq 2 5 M1 ?_;simp only [oqA,oqB,oqC]
 refine .tq 3 6 M1 ?_ (hy:=fun w hSw=>by have s:=X1.out w hSw;go_simp;rfl);simp only [oqA,oqB,oqC]
 have CL:=clone_ok a c L w3 HS.out (by have:=HL.out;omega)
 rw [HL.out] at CL
 refine AnyG.ready (rs:=[4]) (by kernel_rfl) (by simp) ?_
 refine AllG.cons rfl (fun K hK=>?_) AllG.nil
 go_simp
 refine CL.mono ?_
 rintro e w5 ⟨v5,rfl,o5,b5⟩
 have T3:Blk w5 A 62 (lnA s (.slice a n c)):=M1.kept (Kept.of_below b5 (fun _=>False)) id
 have M3:Blk w5 (A+1) 62 (lnA 0 (.slice none 0 0)):=M2.kept (Kept.of_below b5 (fun _=>False)) id
 refine hK.out _ _ ⟨T3,fun _=>trivial⟩ ?_
 clear hK K CL
 obtain ⟨a5,c5,rfl,-⟩:=o5.read
 refine AnyG.ready (rs:=[5]) (by kernel_rfl) (by simp) ?_
 refine AllG.cons rfl (fun K hK=>?_) AllG.nil
 go_simp
 refine hK.out _ _ ⟨T3,fun _=>trivial⟩ ?_
 clear hK K
 obtain ⟨⟨r0,r1⟩,f0,f1⟩:=M3.lane
 obtain ⟨q1,q2⟩:=lane_set M3 s (.slice a5 L.length c5)
 refine AnyG.ready (rs:=[6]) (by kernel_rfl) (by simp) ?_
 refine AllG.cons rfl (fun K hK=>?_) AllG.nil
 go_simp
 refine hK.out _ _ ⟨T3.kept q2 (by omega),fun _=>trivial⟩ ?_
 clear hK K
 refine AnyG.done (by kernel_rfl) ?_ _
 go_wp2_with fail
 refine bodyPost_ret (resLn25 _ _ _ rfl q1) rfl ?_
 refine ⟨⟨_,rfl,?_⟩,?_⟩
 ·rw [←HA.out]
  exact (o5.kept q2 (fun j hj e=>by have:=HZ.out;omega)).low (by have:=HZ.out;omega)
 ·rw [←HA.out]
  exact (B'.out.trans (b5.mono (by have:=HZ.out;omega))).trans (q2.below (by have:=HZ.out;have:=b5.size;omega) (fun k e=>by omega))
def jnS (s r:Int) (L:List Tk):Int:=if L=[] then max s r else s
theorem jnS_nil (s r:Int):jnS s r []=max s r:=rfl
theorem jnS_some {s r:Int} {L:List Tk} (h:L≠[]):jnS s r L=s:=if_neg h
theorem jnS_word {s r:Int} {L:List Tk} (hs:Word s) (hr:Word r):Word (jnS s r L):=by
 unfold jnS
 obtain ⟨h1,h2⟩:=hs
 obtain ⟨h3,h4⟩:=hr
 split
 ·exact ⟨by omega,by omega⟩
 ·exact ⟨h1,h2⟩
theorem len_pos {L:List Tk} (h:L≠[]):0<L.length:=by cases L with
 | nil=>exact absurd rfl h
 | cons _ _=>simp
theorem one_list {w:World} {g:Nat} {t:Tk} (h:Blk w g 36 (tkA t)):SlR w (some ⟨g,0,none⟩) 1 [t]:=by
 refine ⟨Nat.le_refl _,(fun e=>by cases e),fun _=>⟨g,0,rfl,h.lt,fun j u hj=>?_⟩⟩
 rw [Nat.zero_add,h.cell j]
 rw [tkCs_single] at hj
 simpa [tkA,tkC] using hj
set_option maxRecDepth 20000 in
set_option maxHeartbeats 1000000 in
theorem join_ok (s r:Int) (a:Option Addr) (c:Nat) (L:List Tk) (t:Tk) (w:World) (h:SlR w a c L) (hl:L.length≤1999) :
  Calls Tryz.prog 88 #[.agg #[.int .u64 s,.slice a L.length c],.int .u64 r,.agg #[.int .i64 t.id,.int .i64 t.wid,.int .i64 t.sts,.int .i64 t.sin,.int .i64 t.unt]] w fun e w'=>(∃ v,e=.returned v∧LnO w' w.heap.size (jnS s r L) (L ++ [t]) v)∧Below w.heap.size w w':=by
 obtain ⟨w2,hw2⟩:∃ w2,w2=((w.alloc (.cells #[.int .u64 s,.slice a L.length c] 62)).alloc (.cells #[.int .i64 t.id,.int .i64 t.wid,.int .i64 t.sts,.int .i64 t.sin,.int .i64 t.unt] 36)).alloc (.cells #[.int .u64 0,.slice none 0 0] 62):=⟨_,rfl⟩
 have BX:=boxes3 w 62 36 62 #[.int .u64 s,.slice a L.length c] #[.int .i64 t.id,.int .i64 t.wid,.int .i64 t.sts,.int .i64 t.sin,.int .i64 t.unt] #[.int .u64 0,.slice none 0 0]
 rw [←hw2] at BX
 obtain ⟨B,N1,N2,N3⟩:=BX
 obtain ⟨⟨c0,c1⟩,-⟩:=Blk.lane N1
 obtain ⟨⟨d0,d1,d2,d3,d4⟩,-⟩:=Blk.five (t:=t) N2
 obtain ⟨B4,K1,K2⟩:=boxes w2 36 32 #[.int .i64 t.id,.int .i64 t.wid,.int .i64 t.sts,.int .i64 t.sin,.int .i64 t.unt] #[.slice a L.length c,.slice (some ⟨w2.heap.size,0,none⟩) 1 1]
 have CC:=concat_ok a (some ⟨w2.heap.size,0,none⟩) c 1 (w2.heap.size+1) L [t] _ ((h.carry B).carry B4) (one_list (t:=t) K1) K2 (by omega) (by simp)
 obtain ⟨w4,hw4⟩:∃ w4,w4=(w2.alloc (.cells #[.int .i64 t.id,.int .i64 t.wid,.int .i64 t.sts,.int .i64 t.sin,.int .i64 t.unt] 36)).alloc (.cells #[.slice a L.length c,.slice (some ⟨w2.heap.size,0,none⟩) 1 1] 32):=⟨_,rfl⟩
 rw [←hw4] at B4 CC
 have H:Hd (Below w.heap.size w w2∧Below w2.heap.size w2 w4∧Blk w2 (w.heap.size+1+1) 62 (lnA 0 (.slice none 0 0))):=⟨B,B4,N3⟩
 have GF:Hd (∀ w5 v5,OwnT w5 w4.heap.size v5 (L ++ [t])→Below w4.heap.size w4 w5→∃ a5 c5,v5=.slice a5 (L.length+1) c5∧Blk w5 (w.heap.size+1+1) 62 (lnA 0 (.slice none 0 0))∧∀ z,Blk ((w5.setCell ⟨w.heap.size+1+1,0,none⟩ (.int .u64 z)).setCell ⟨w.heap.size+1+1,1,none⟩ (.slice a5 (L.length+1) c5)) (w.heap.size+1+1) 62 (lnA z (.slice a5 (L.length+1) c5))∧LnO ((w5.setCell ⟨w.heap.size+1+1,0,none⟩ (.int .u64 z)).setCell ⟨w.heap.size+1+1,1,none⟩ (.slice a5 (L.length+1) c5)) w.heap.size z (L ++ [t]) (.agg #[.int .u64 z,.slice a5 (L.length+1) c5])∧Below w.heap.size w ((w5.setCell ⟨w.heap.size+1+1,0,none⟩ (.int .u64 z)).setCell ⟨w.heap.size+1+1,1,none⟩ (.slice a5 (L.length+1) c5))):=⟨fun w5 v5 o5 b5=>by
  have b25:Below w2.heap.size w2 w5:=H.out.2.1.trans (b5.mono H.out.2.1.size)
  have M3:Blk w5 (w.heap.size+1+1) 62 (lnA 0 (.slice none 0 0)):=H.out.2.2.kept (Kept.of_below b25 (fun _=>False)) id
  have hz:=H.out.2.2.lt
  obtain ⟨a5,c5,e5,-⟩:=o5.read
  rw [List.length_append] at e5
  have e5:v5=.slice a5 (L.length+1) c5:=e5
  refine ⟨a5,c5,e5,M3,fun z=>?_⟩
  obtain ⟨q1,q2⟩:=lane_set M3 z (.slice a5 (L.length+1) c5)
  refine ⟨q1,?_,(H.out.1.trans (b25.mono H.out.1.size)).trans (q2.below (Nat.le_trans H.out.1.size b25.size) (fun k e=>by omega))⟩
  have o6:=o5.kept q2 (fun j hj e=>by have:=H.out.2.1.size;omega)
  rw [e5] at o6
  exact o6.lnO (by rw [List.length_append];rfl) (Nat.le_trans H.out.1.size H.out.2.1.size)⟩
 have HN:Hd (L=[]→L.length=0):=⟨fun e=>by rw [e];rfl⟩
 have HP:Hd (L≠[]→0<L.length):=⟨len_pos⟩
 clear N1 N2 N3 B B4 K1 K2 h
 by_cases hn:L=[]
 ·have h0:=HN.out hn
  have HJ:Hd (jnS s r L=max s r):=⟨by rw [hn];rfl⟩
  rw [h0] at hw2 c1 hw4
  have hg:=h0
  obtain ⟨t0,t1,t2,t3,t4⟩:=t
  simp only at *
  obtain ⟨n,hn'⟩:∃ n,n=L.length:=⟨_,rfl⟩
  rw [←hn'] at GF h0 ⊢
  clear HN HP hl hn hg
  subst h0
  clear hn'
  go_enter Tryz.func88,Tryz.ntmps88
  go_upto_region 1 with fail
  rw [←hw2]
  clear hw2
  go_upto_region 4 with fail
  go_wp2_with fail
  rw [←hw4]
  clear hw4 c0 c1 d0 d1 d2 d3 d4
  go_at_call 98
  refine CC.mono ?_
  rintro e w5 ⟨v5,rfl,o5,b5⟩
  obtain ⟨a5,c5,rfl,M3,Z⟩:=GF.out w5 v5 o5 b5
  obtain ⟨q1,q2,q3⟩:=Z (max s r)
  obtain ⟨⟨r0,r1⟩,f0,f1⟩:=M3.lane
  have Q:Hd (_∧_∧_):=⟨q1,q2,q3⟩
  clear CC GF o5 b5 M3 Z q1 q2 q3
  go_wp2_with fail
  refine bodyPost_ret (resLn17 _ _ _ rfl Q.out.1) rfl ?_
  exact ⟨⟨_,rfl,by rw [HJ.out];exact Q.out.2.1⟩,Q.out.2.2⟩
 ·have h0:=HP.out hn
  have HJ:Hd (jnS s r L=s):=⟨jnS_some hn⟩
  obtain ⟨t0,t1,t2,t3,t4⟩:=t
  simp only at *
  obtain ⟨n,hn'⟩:∃ n,n=L.length:=⟨_,rfl⟩
  rw [←hn'] at GF h0 hw2 c1 hw4 hl ⊢
  clear HN HP hn hn'
  go_enter Tryz.func88,Tryz.ntmps88
  go_upto_region 1 with fail
  rw [←hw2]
  clear hw2
  go_upto_region 4 with fail
  go_wp2_with fail
  rw [←hw4]
  clear hw4 c0 c1 d0 d1 d2 d3 d4
  go_at_call 98
  refine CC.mono ?_
  rintro e w5 ⟨v5,rfl,o5,b5⟩
  obtain ⟨a5,c5,rfl,M3,Z⟩:=GF.out w5 v5 o5 b5
  obtain ⟨q1,q2,q3⟩:=Z s
  obtain ⟨⟨r0,r1⟩,f0,f1⟩:=M3.lane
  have Q:Hd (_∧_∧_):=⟨q1,q2,q3⟩
  clear CC GF o5 b5 M3 Z q1 q2 q3
  go_wp2_with fail
  refine bodyPost_ret (resLn17 _ _ _ rfl Q.out.1) rfl ?_
  exact ⟨⟨_,rfl,by rw [HJ.out];exact Q.out.2.1⟩,Q.out.2.2⟩
theorem SlR.take {w:World} {a:Option Addr} {c:Nat} {L:List Tk} (h:SlR w a c L) (i:Nat):SlR w a c (L.take i):=by
 refine ⟨Nat.le_trans (by simp;omega) h.1,h.2.1,TkR.take (M:=L.drop i) ?_⟩
 rw [List.take_append_drop]
 exact h.2.2
theorem SlR.drop {w:World} {b off c:Nat} {L:List Tk} (h:SlR w (some ⟨b,off,none⟩) c L) (i:Nat) (hi:i≤L.length):SlR w (some (if c=i then ⟨b,off,none⟩ else ⟨b,off+i*5,none⟩)) (c - i) (L.drop i):=by
 refine ⟨by have:=h.1;simp;omega,(fun e=>by cases e),?_⟩
 by_cases e:c=i
 ·have:L.drop i=[]:=List.drop_eq_nil_of_le (by have:=h.1;omega)
  rw [this]
  exact TkR.nil _ _
 ·rw [if_neg e]
  have k:TkR w (some ⟨b,off,none⟩) (L.take i++L.drop i):=by rw [List.take_append_drop];exact h.2.2
  have:=k.drop
  rw [List.length_take,Nat.min_eq_left hi] at this
  exact this
theorem resLn26 (tmps:Array Value) (w:World) (g q:Nat) {s:Int} {a:Option Addr} {n c:Nat} {t:Tk} (ht:tmps[4]?.getD undef=.pointer (some ⟨g,0,none⟩)) (hu:tmps[5]?.getD undef=.pointer (some ⟨q,0,none⟩)) (h:Blk w g 62 (lnA s (.slice a n c))) (k:Blk w q 36 (tkA t)) :
  (results Tryz.f91 tmps).run Tryz.prog w=.ok (.tuple #[.agg #[.int .u64 s,.slice a n c],.agg #[.int .i64 t.id,.int .i64 t.wid,.int .i64 t.sts,.int .i64 t.sin,.int .i64 t.unt]]) w:=by
 obtain ⟨⟨c0,c1⟩,-⟩:=h.lane
 obtain ⟨⟨d0,d1,d2,d3,d4⟩,-⟩:=k.five
 simp [results,Tryz.results91,go_sem,ht,hu,c0,c1,d0,d1,d2,d3,d4]
set_option maxRecDepth 20000 in
set_option maxHeartbeats 2000000 in
theorem without_ok (s:Int) (a:Option Addr) (c i:Nat) (L:List Tk) (w:World) (h:SlR w a c L) (hl:L.length≤2000) (hi:i<L.length) :
  Calls Tryz.prog 91 #[.agg #[.int .u64 s,.slice a L.length c],.int .i64 i] w fun e w'=>(∃ v,e=.returned (.tuple #[.agg #[.int .u64 s,v],.agg #[.int .i64 (gt L i).id,.int .i64 (gt L i).wid,.int .i64 (gt L i).sts,.int .i64 (gt L i).sin,.int .i64 (gt L i).unt]])∧OwnT w' w.heap.size v (L.take i++L.drop (i+1)))∧Below w.heap.size w w':=by
 obtain ⟨w2,hw2⟩:∃ w2,w2=((w.alloc (.cells #[.int .u64 s,.slice a L.length c] 62)).alloc (.cells #[.int .u64 0,.slice none 0 0] 62)).alloc (.cells #[.int .i64 0,.int .i64 0,.int .i64 0,.int .i64 0,.int .i64 0] 36):=⟨_,rfl⟩
 have BX:=boxes3 w 62 62 36 #[.int .u64 s,.slice a L.length c] #[.int .u64 0,.slice none 0 0] #[.int .i64 0,.int .i64 0,.int .i64 0,.int .i64 0,.int .i64 0]
 rw [←hw2] at BX
 obtain ⟨B,N1,N2,N3⟩:=BX
 have B':Hd (Below w.heap.size w w2.drew):=⟨B.drew⟩
 have M1:Blk w2.drew w.heap.size 62 (lnA s (.slice a L.length c)):=N1
 have M2:Blk w2.drew (w.heap.size+1) 62 (lnA 0 (.slice none 0 0)):=N2
 have M3:Blk w2.drew (w.heap.size+1+1) 36 (tkA tkZ):=N3
 have HS:Hd (SlR w2.drew a c L):=⟨h.carry B'.out⟩
 have HZ:Hd (w.heap.size+1+1<w2.drew.heap.size):=⟨N3.lt⟩
 have hc:=h.1
 obtain ⟨b,off,rfl,hb,d0,d1,d2,d3,d4⟩:=h.2.2.at hi
 have HB:Hd (b<w.heap.size):=⟨hb⟩
 have e0:=(B'.out.cell (p:=⟨b,off+i*5,none⟩) hb).trans d0
 have e1:=(B'.out.cell (p:=⟨b,off+i*5+1,none⟩) hb).trans d1
 have e2:=(B'.out.cell (p:=⟨b,off+i*5+2,none⟩) hb).trans d2
 have e3:=(B'.out.cell (p:=⟨b,off+i*5+3,none⟩) hb).trans d3
 have e4:=(B'.out.cell (p:=⟨b,off+i*5+4,none⟩) hb).trans d4
 clear N1 N2 N3 B h d0 d1 d2 d3 d4 hb
 have LT:Hd (SlR w2.drew (some ⟨b,off,none⟩) c (L.take i)∧SlR w2.drew (some (if c=i+1 then ⟨b,off,none⟩ else ⟨b,off+(i+1)*5,none⟩)) (c - (i+1)) (L.drop (i+1))∧(L.take i).length=i∧(L.drop (i+1)).length=L.length - (i+1)):=⟨HS.out.take i,HS.out.drop (i+1) hi,by simp;omega,by simp⟩
 obtain ⟨n,hn⟩:∃ n,L.length=n:=⟨_,rfl⟩
 rw [hn] at hl hw2 M1 hc hi LT ⊢
 clear hn HS
 obtain ⟨x2,hx2⟩:∃ x2,x2=(if c=i+1 then (⟨b,off,none⟩:Addr) else ⟨b,off+(i+1)*5,none⟩):=⟨_,rfl⟩
 rw [←hx2] at LT
 have HX:Hd ((if c=i+1 then some (⟨b,off,none⟩:Addr) else some ⟨b,off+(i+1)*5,none⟩)=some x2):=⟨by rw [hx2];split <;> rfl⟩
 clear hx2
 generalize gt L i=t at *
 obtain ⟨t0,t1,t2,t3,t4⟩:=t
 simp only at *
 go_enter Tryz.func91,Tryz.ntmps91
 go_upto_region 1 with fail
 rw [←hw2]
 clear hw2
 obtain ⟨A,hA⟩:∃ A,A=w.heap.size:=⟨_,rfl⟩
 have HA:Hd (A=w.heap.size):=⟨hA⟩
 rw [←hA] at M1 M2 M3 B' HZ HB ⊢
 clear hA
 refine AnyG.start (T:=fun W=>Kept (fun k=>A+1≤k) w2.drew W) (U:=fun _=>True) (j0:=100) (by kernel_rfl) ?_
 generalize w2.drew=w3 at *
 have R:Kept (fun k=>A+1≤k) w3 w3:=Kept.refl _ _
 have X0:Hd (∀ W,Kept (fun k=>A+1≤k) w3 W→W.cell? ⟨A,0,none⟩=some (.int .u64 s)):=⟨fun W q=>(M1.kept q (by omega)).cellv 0 rfl⟩
 have X1:Hd (∀ W,Kept (fun k=>A+1≤k) w3 W→W.cell? ⟨A,1,none⟩=some (.slice (some ⟨b,off,none⟩) n c)):=⟨fun W q=>(M1.kept q (by omega)).cellv 1 rfl⟩
 have XB:∀ (W:World) (j:Nat),Kept (fun k=>A+1≤k) w3 W→W.cell? ⟨b,j,none⟩=w3.cell? ⟨b,j,none⟩:=fun W j q=>World.cell?_of_block (q.block b (by have:=HB.out;have:=HZ.out;omega) (by have:=HB.out;omega))
 have X2:Hd (∀ W,Kept (fun k=>A+1≤k) w3 W→W.cell? ⟨b,off+i*5,none⟩=some (.int .i64 t0)∧W.cell? ⟨b,off+i*5+1,none⟩=some (.int .i64 t1)∧W.cell? ⟨b,off+i*5+2,none⟩=some (.int .i64 t2)∧W.cell? ⟨b,off+i*5+3,none⟩=some (.int .i64 t3)∧W.cell? ⟨b,off+i*5+4,none⟩=some (.int .i64 t4)):=⟨fun W q=>⟨(XB W _ q).trans e0,(XB W _ q).trans e1,(XB W _ q).trans e2,(XB W _ q).trans e3,(XB W _ q).trans e4⟩⟩
 clear e0 e1 e2 e3 e4 XB
 have hw:IntKind.i64.wrap ((i:Int)+1)=(i:Int)+1:=by rw [IntKind.wrap_i64];omega
 refine .tq 0 6 R ?_;simp only [oqA,oqB,oqC]
 refine .tq 1 7 R ?_ (hy:=fun w hSw=>by have s:=X0.out w hSw;go_simp;rfl);simp only [oqA,oqB,oqC]
 refine .tq 2 8 R ?_;simp only [oqA,oqB,oqC]
 refine .tq 3 9 R ?_ (hy:=fun w hSw=>by have s:=X1.out w hSw;go_simp;rfl);simp only [oqA,oqB,oqC]
 refine .tq 4 10 R ?_;simp only [oqA,oqB,oqC]
 refine .tq (v:=.slice (some ⟨b,off,none⟩) i c) 5 11 R ?_ (hy:=fun w hSw=>by go_simp;intro hlt;omega);simp only [oqA,oqB,oqC]
 refine .tq 6 12 R ?_;simp only [oqA,oqB,oqC]
 refine .tq 7 13 R ?_ (hy:=fun w hSw=>by have s:=X1.out w hSw;go_simp;rfl);simp only [oqA,oqB,oqC]
 refine .tq 8 14 R ?_;simp only [oqA,oqB,oqC]
 refine .tq (v:=.int .i64 ((i:Int)+1)) 9 15 R ?_ (hy:=fun w hSw=>by go_simp;try rfl);simp only [oqA,oqB,oqC]
 refine .tq (v:=.slice (some x2) (n - (i+1)) (c - (i+1))) 10 16 R ?_ (hy:=fun w hSw=>by go_simp;rw [if_pos (by omega),HX.out]);simp only [oqA,oqB,oqC]
 refine .tq 14 20 R ?_;simp only [oqA,oqB,oqC]
 refine .tq 15 21 R ?_ (hy:=fun w hSw=>by have s:=X1.out w hSw;go_simp;rfl);simp only [oqA,oqB,oqC]
 refine .tq 16 22 R ?_;simp only [oqA,oqB,oqC]
 refine .tq 17 23 R ?_;simp only [oqA,oqB,oqC]
 refine .tq 18 24 R ?_ (hy:=fun w hSw=>by have s:=X2.out w hSw;go_simp;rfl);simp only [oqA,oqB,oqC]
 have B4:Below w3.heap.size w3 (w3.alloc (.cells #[.slice (some ⟨b,off,none⟩) i c,.slice (some x2) (n - (i+1)) (c - (i+1))] 32)):=alloc_below _ _
 have G4:Blk (w3.alloc (.cells #[.slice (some ⟨b,off,none⟩) i c,.slice (some x2) (n - (i+1)) (c - (i+1))] 32)) w3.heap.size 32 #[.slice (some ⟨b,off,none⟩) i c,.slice (some x2) (n - (i+1)) (c - (i+1))]:=Blk.new _ _ _
 have CC:=concat_ok (some ⟨b,off,none⟩) (some x2) c (c - (i+1)) w3.heap.size (L.take i) (L.drop (i+1)) (w3.alloc (.cells #[.slice (some ⟨b,off,none⟩) i c,.slice (some x2) (n - (i+1)) (c - (i+1))] 32)) (LT.out.1.carry B4) (LT.out.2.1.carry B4) (by unfold LL2;rw [LT.out.2.2.1,LT.out.2.2.2];exact G4) (by have:=LT.out.2.2.1;omega) (by have:=LT.out.2.2.2;omega)
 refine AnyG.ready (rs:=[11]) (by kernel_rfl) (by simp) ?_
 refine AllG.cons rfl (fun K hK=>?_) AllG.nil
 go_simp
 refine hK.out _ _ ⟨Kept.of_below B4 _,fun _=>trivial⟩ ?_
 clear hK K G4
 generalize w3.alloc (.cells #[.slice (some ⟨b,off,none⟩) i c,.slice (some x2) (n - (i+1)) (c - (i+1))] 32)=w4 at *
 refine AnyG.ready (rs:=[12]) (by kernel_rfl) (by simp) ?_
 refine AllG.cons rfl (fun K hK=>?_) AllG.nil
 go_simp
 refine CC.mono ?_
 rintro e w5 ⟨v5,rfl,o5,b5⟩
 have b35:Below w3.heap.size w3 w5:=B4.trans (b5.mono B4.size)
 have T5:Kept (fun k=>A+1≤k) w3 w5:=Kept.of_below b35 _
 have P2:Blk w5 (A+1) 62 (lnA 0 (.slice none 0 0)):=M2.kept (Kept.of_below b35 (fun _=>False)) id
 have P3:Blk w5 (A+1+1) 36 (tkA tkZ):=M3.kept (Kept.of_below b35 (fun _=>False)) id
 refine hK.out _ _ ⟨T5,fun _=>trivial⟩ ?_
 clear hK K CC
 obtain ⟨m5,hm5⟩:∃ m5,m5=(L.take i++L.drop (i+1)).length:=⟨_,rfl⟩
 obtain ⟨a5,c5,e5,-⟩:=o5.read
 rw [←hm5] at e5
 subst e5
 clear hm5
 refine AnyG.ready (rs:=[13]) (by kernel_rfl) (by simp) ?_
 refine AllG.cons rfl (fun K hK=>?_) AllG.nil
 go_simp
 refine hK.out _ _ ⟨T5,fun _=>trivial⟩ ?_
 clear hK K
 obtain ⟨⟨r0,r1⟩,f0,f1⟩:=P2.lane
 obtain ⟨q1,q2⟩:=lane_set P2 s (.slice a5 m5 c5)
 refine AnyG.ready (rs:=[19]) (by kernel_rfl) (by simp) ?_
 refine AllG.cons rfl (fun K hK=>?_) AllG.nil
 go_simp
 have T6:Kept (fun k=>A+1≤k) w3 ((w5.setCell ⟨A+1,0,none⟩ (.int .u64 s)).setCell ⟨A+1,1,none⟩ (.slice a5 m5 c5)):=T5.trans (q2.mono (fun k _ e=>by omega))
 refine hK.out _ _ ⟨T6,fun _=>trivial⟩ ?_
 clear hK K r0 r1 f0 f1
 have P3':=P3.kept q2 (by omega)
 obtain ⟨⟨y0,y1,y2,y3,y4⟩,z0,z1,z2,z3,z4⟩:=P3'.five
 obtain ⟨u1,u2⟩:=five_set P3' ⟨t0,t1,t2,t3,t4⟩
 simp only at u1 u2
 have q1':=q1.kept u2 (by omega)
 have o5':=(o5.kept q2 (fun j hj e=>by have:=HZ.out;have:=B4.size;omega)).kept u2 (fun j hj e=>by have:=HZ.out;have:=B4.size;omega)
 refine AnyG.ready (rs:=[20]) (by kernel_rfl) (by simp) ?_
 refine AllG.cons rfl (fun K hK=>?_) AllG.nil
 go_simp
 refine hK.out _ _ ⟨T6.trans (u2.mono (fun k _ e=>by omega)),fun _=>trivial⟩ ?_
 clear hK K y0 y1 y2 y3 y4 z0 z1 z2 z3 z4
 refine AnyG.done (by kernel_rfl) ?_ _
 go_wp2_with fail
 refine bodyPost_ret (resLn26 _ _ _ _ rfl rfl q1' u1) rfl ?_
 refine ⟨⟨_,rfl,?_⟩,?_⟩
 ·rw [←HA.out]
  exact o5'.low (by have:=HZ.out;have:=B4.size;omega)
 rw [←HA.out]
 have b1:=B'.out.trans (b35.mono (by have:=HZ.out;omega))
 exact b1.trans ((q2.below (B:=A) (by have:=HZ.out;have:=b35.size;omega) (fun k e=>by omega)).trans (u2.below (by have:=q2.size;have:=HZ.out;have:=b35.size;omega) (fun k e=>by omega)))
end Go.Proofs.YtlgibnmoogbdcaaGreat
