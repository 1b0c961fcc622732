/-
  Who is taken, by the program.
  Lanes in a row, read and of the call's own; what comes in as such lanes.
  The mathematics of lanes that take turns: who is chosen, who is next, what is trimmed.
-/
import Derived.Test.YtlgibnmoogbdcaaGreatR5
import Derived.Test.YtlgibnmoogbdcaaGreatR7
import Derived.Test.YtlgibnmoogbdcaaGreatR2
namespace Go.Proofs.YtlgibnmoogbdcaaGreat
open Go.RowKit
theorem resTk10 (tmps:Array Value) (w:World) (g q:Nat) {s:Int} {a:Option Addr} {n c:Nat} {t:Tk} (b:Bool) (ht:tmps[4]?.getD undef=.pointer (some ⟨g,0,none⟩)) (hu:tmps[5]?.getD undef=.pointer (some ⟨q,0,none⟩)) (hb:tmps[6]?.getD undef=.bool b) (h:Blk w g 62 (lnA s (.slice a n c))) (k:Blk w q 36 (tkA t)) :
  (results Tryz.f75 tmps).run Tryz.prog w=.ok (.tuple #[.agg #[.int .u64 s,.slice a n c],.agg #[.int .i64 t.id,.int .i64 t.wid,.int .i64 t.sts,.int .i64 t.sin,.int .i64 t.unt],.bool b]) w:=by
 obtain ⟨⟨c0,c1⟩,-⟩:=h.lane
 obtain ⟨⟨d0,d1,d2,d3,d4⟩,-⟩:=k.five
 simp [results,Tryz.results75,go_sem,ht,hu,hb,c0,c1,d0,d1,d2,d3,d4]
theorem resTk11 (tmps:Array Value) (w:World) (g q:Nat) {s:Int} {a:Option Addr} {n c:Nat} {t:Tk} (b:Bool) (ht:tmps[4]?.getD undef=.pointer (some ⟨g,0,none⟩)) (hu:tmps[5]?.getD undef=.pointer (some ⟨q,0,none⟩)) (hb:tmps[6]?.getD undef=.bool b) (h:Blk w g 62 (lnA s (.slice a n c))) (k:Blk w q 36 (tkA t)) :
  (results Tryz.f79 tmps).run Tryz.prog w=.ok (.tuple #[.agg #[.int .u64 s,.slice a n c],.agg #[.int .i64 t.id,.int .i64 t.wid,.int .i64 t.sts,.int .i64 t.sin,.int .i64 t.unt],.bool b]) w:=by
 obtain ⟨⟨c0,c1⟩,-⟩:=h.lane
 obtain ⟨⟨d0,d1,d2,d3,d4⟩,-⟩:=k.five
 simp [results,Tryz.results79,go_sem,ht,hu,hb,c0,c1,d0,d1,d2,d3,d4]
theorem resTk12 (tmps:Array Value) (w:World) (g q:Nat) {s:Int} {a:Option Addr} {n c:Nat} {t:Tk} (b:Bool) (ht:tmps[4]?.getD undef=.pointer (some ⟨g,0,none⟩)) (hu:tmps[5]?.getD undef=.pointer (some ⟨q,0,none⟩)) (hb:tmps[6]?.getD undef=.bool b) (h:Blk w g 62 (lnA s (.slice a n c))) (k:Blk w q 36 (tkA t)) :
  (results Tryz.f81 tmps).run Tryz.prog w=.ok (.tuple #[.agg #[.int .u64 s,.slice a n c],.agg #[.int .i64 t.id,.int .i64 t.wid,.int .i64 t.sts,.int .i64 t.sin,.int .i64 t.unt],.bool b]) w:=by
 obtain ⟨⟨c0,c1⟩,-⟩:=h.lane
 obtain ⟨⟨d0,d1,d2,d3,d4⟩,-⟩:=k.five
 simp [results,Tryz.results81,go_sem,ht,hu,hb,c0,c1,d0,d1,d2,d3,d4]
theorem resTk13 (tmps:Array Value) (w:World) (g q:Nat) {s:Int} {a:Option Addr} {n c:Nat} {t:Tk} (b:Bool) (ht:tmps[4]?.getD undef=.pointer (some ⟨g,0,none⟩)) (hu:tmps[5]?.getD undef=.pointer (some ⟨q,0,none⟩)) (hb:tmps[6]?.getD undef=.bool b) (h:Blk w g 62 (lnA s (.slice a n c))) (k:Blk w q 36 (tkA t)) :
  (results Tryz.f82 tmps).run Tryz.prog w=.ok (.tuple #[.agg #[.int .u64 s,.slice a n c],.agg #[.int .i64 t.id,.int .i64 t.wid,.int .i64 t.sts,.int .i64 t.sin,.int .i64 t.unt],.bool b]) w:=by
 obtain ⟨⟨c0,c1⟩,-⟩:=h.lane
 obtain ⟨⟨d0,d1,d2,d3,d4⟩,-⟩:=k.five
 simp [results,Tryz.results82,go_sem,ht,hu,hb,c0,c1,d0,d1,d2,d3,d4]
theorem two_put {w:World} {g q:Nat} {z:Int} {u:Value} {t0:Tk} (h:Blk w g 62 (lnA z u)) (k:Blk w q 36 (tkA t0)) (s':Int) (v':Value) (t':Tk) :
  Blk ((((((((w.setCell ⟨g,0,none⟩ (.int .u64 s')).setCell ⟨g,1,none⟩ v')).setCell ⟨q,0,none⟩ (.int .i64 t'.id)).setCell ⟨q,1,none⟩ (.int .i64 t'.wid)).setCell ⟨q,2,none⟩ (.int .i64 t'.sts)).setCell ⟨q,3,none⟩ (.int .i64 t'.sin)).setCell ⟨q,4,none⟩ (.int .i64 t'.unt)) g 62 (lnA s' v')
  ∧ Blk ((((((((w.setCell ⟨g,0,none⟩ (.int .u64 s')).setCell ⟨g,1,none⟩ v')).setCell ⟨q,0,none⟩ (.int .i64 t'.id)).setCell ⟨q,1,none⟩ (.int .i64 t'.wid)).setCell ⟨q,2,none⟩ (.int .i64 t'.sts)).setCell ⟨q,3,none⟩ (.int .i64 t'.sin)).setCell ⟨q,4,none⟩ (.int .i64 t'.unt)) q 36 (tkA t')
  ∧ Kept (fun k=>k=g∨k=q) w ((((((((w.setCell ⟨g,0,none⟩ (.int .u64 s')).setCell ⟨g,1,none⟩ v')).setCell ⟨q,0,none⟩ (.int .i64 t'.id)).setCell ⟨q,1,none⟩ (.int .i64 t'.wid)).setCell ⟨q,2,none⟩ (.int .i64 t'.sts)).setCell ⟨q,3,none⟩ (.int .i64 t'.sin)).setCell ⟨q,4,none⟩ (.int .i64 t'.unt)):=by
 have hne:g≠q:=h.ne k (by decide)
 obtain ⟨q1,q2⟩:=lane_set h s' v'
 obtain ⟨u1,u2⟩:=five_set (k.kept q2 (Ne.symm hne)) t'
 exact ⟨q1.kept u2 hne,u1,(q2.mono (fun k _ e=>.inl e)).trans (u2.mono (fun k _ e=>.inr e))⟩
def tkS (s:Int) (L:List Tk) (g:Int):Int:=if L=[] then s else finI s L g
theorem tkS_nil (s g:Int):tkS s [] g=s:=rfl
theorem tkS_some {s g:Int} {L:List Tk} (h:L≠[]):tkS s L g=finI s L g:=if_neg h
theorem tkS_word {s g:Int} {L:List Tk} (h:Word s):Word (tkS s L g):=by
 unfold tkS
 split
 ·exact h
 ·exact finI_word h
theorem SlR.keep {S:Nat→Prop} {w w':World} {a:Option Addr} {c:Nat} {L:List Tk} (h:SlR w a c L) (k:Kept S w w') (hS:∀ b off,a=some ⟨b,off,none⟩→L≠[]→¬ S b):SlR w' a c L:=by
 refine ⟨h.1,h.2.1,fun hn=>?_⟩
 exact h.2.2.keep k (fun b off e=>hS b off e hn) hn
structure LastT (w W:World) (Z A g4 g3:Nat) (s:Int) (v:Value) (t:Tk) (D:List Tk):Prop where
 ln:Blk W g4 62 (lnA s v)
 tk:Blk W (g4+1) 36 (tkA t)
 own:OwnT W g3 v D
 r1:Blk W (A+1) 62 (lnA 0 (.slice none 0 0))
 r2:Blk W (A+1+1) 36 (tkA tkZ)
 bel:Below Z w W
 zl:Z≤A
 lo:A+1+1<g3
 mid:g3≤g4
theorem LastT.drew {w W:World} {Z A g4 g3:Nat} {s:Int} {v:Value} {t:Tk} {D:List Tk} (h:LastT w W Z A g4 g3 s v t D):LastT w W.drew Z A g4 g3 s v t D :=
 ⟨h.ln,h.tk,h.own,h.r1,h.r2,h.bel.drew,h.zl,h.lo,h.mid⟩
theorem OwnT.other {w w':World} {B g:Nat} {v:Value} {L:List Tk} (h:OwnT w B v L) {cs:Array Value} (k:Blk w g 62 cs) (q:Kept (fun j=>j=g) w w'):OwnT w' B v L:=by
 refine ⟨h.1,h.2.imp id ?_⟩
 rintro ⟨b,cap,cur,e,hb,hg,r⟩
 refine ⟨b,cap,cur,e,hb,?_,r⟩
 have hlt:b<w.heap.size:=by
  rcases Nat.lt_or_ge b w.heap.size with h1 | h1
  ·exact h1
  ·rw [Array.getElem?_eq_none h1] at hg;cases hg
 rw [q.block b hlt (fun e=>k.ne' hg (by decide) e.symm)]
 exact hg
theorem LastT.put {w W:World} {Z A g4 g3:Nat} {s:Int} {v:Value} {t:Tk} {D:List Tk} (h:LastT w W Z A g4 g3 s v t D) (f:Int):LastT w (W.setCell ⟨g4,0,none⟩ (.int .u64 f)) Z A g4 g3 f v t D:=by
 have q:Kept (fun j=>j=g4) W (W.setCell ⟨g4,0,none⟩ (.int .u64 f)):=(Kept.refl _ _).setCell _ _ (.inl rfl)
 have hlo:=h.lo
 have hmid:=h.mid
 have hzl:=h.zl
 refine ⟨?_,h.tk.kept q (by omega),h.own.other h.ln q,h.r1.kept q (by omega),h.r2.kept q (by omega),h.bel.trans (q.below (by have:=h.r1.lt;omega) (fun k e=>by omega)),hzl,hlo,hmid⟩
 have:=h.ln.set 0 (.int .u64 f)
 simpa [lnA] using this
set_option maxRecDepth 20000 in
set_option maxHeartbeats 2000000 in
theorem take_ok (s:Int) (a:Option Addr) (c:Nat) (L:List Tk) (g:Int) (w:World) (hs:Word s) (h:SlR w a c L) (hl:L.length≤2000) :
  Calls Tryz.prog 75 #[.agg #[.int .u64 s,.slice a L.length c],.int .i64 g] w fun e w'=>(∃ v,e=.returned (.tuple #[v,.agg #[.int .i64 (gt L 0).id,.int .i64 (gt L 0).wid,.int .i64 (gt L 0).sts,.int .i64 (gt L 0).sin,.int .i64 (gt L 0).unt],.bool (hasI L)])∧LnW w' w.heap.size (tkS s L g) L.tail v (hasI L))∧Below w.heap.size w w':=by
 obtain ⟨w2,hw2⟩:∃ w2,w2=((w.alloc (.cells #[.int .u64 s,.slice a L.length c] 62)).alloc (.cells #[.int .u64 0,.slice none 0 0] 62)).alloc (.cells #[.int .i64 0,.int .i64 0,.int .i64 0,.int .i64 0,.int .i64 0] 36):=⟨_,rfl⟩
 have BX:=boxes3 w 62 62 36 #[.int .u64 s,.slice a L.length c] #[.int .u64 0,.slice none 0 0] #[.int .i64 0,.int .i64 0,.int .i64 0,.int .i64 0,.int .i64 0]
 rw [←hw2] at BX
 obtain ⟨B,N1,N2,N3⟩:=BX
 have F:=finish_ok s a c L g w2 hs (h.carry B).2.2 hl
 obtain ⟨⟨c0,c1⟩,-⟩:=Blk.lane N1
 have H:Hd (∀ W,Below w2.heap.size w2 W→Blk W w.heap.size 62 (lnA s (.slice a L.length c))∧Blk W (w.heap.size+1) 62 (lnA 0 (.slice none 0 0))∧Blk W (w.heap.size+1+1) 36 (tkA tkZ)∧SlR W a c L∧Below w.heap.size w W):=⟨fun W b=>⟨N1.kept (Kept.of_below b (fun _=>False)) id,N2.kept (Kept.of_below b (fun _=>False)) id,N3.kept (Kept.of_below b (fun _=>False)) id,(h.carry B).carry b,B.trans (b.mono B.size)⟩⟩
 have HZ:Hd (w.heap.size+1+1<w2.heap.size):=⟨N3.lt⟩
 clear N1 N2 N3 B h hs
 by_cases hn:L=[]
 ·subst hn
  simp only [List.length_nil,finI_nil,hasI_nil] at *
  rw [tkS_nil]
  go_enter Tryz.func75,Tryz.ntmps75
  go_upto_region 1 with fail
  rw [←hw2]
  clear hw2
  go_upto_region 2 with (go_at_call 89;refine F.mono ?_;rintro e w3 ⟨rfl,b3⟩)
  obtain ⟨x1,x2,x3,x4,x5⟩:=H.out w3 b3
  have CP:=copied_ok s a c [] w3 x4 (by simp)
  simp only [List.length_nil] at CP
  clear c0 c1 F x2 x3 x4 x5
  obtain ⟨⟨c0,c1⟩,-⟩:=x1.lane
  have HB:Hd (Below w2.heap.size w2 w3):=⟨b3⟩
  clear b3 x1
  go_wp2_with fail
  go_at_call 90
  refine CP.mono ?_
  rintro e w4 ⟨⟨v,rfl,o4⟩,b4⟩
  have b24:=HB.out.trans (b4.mono HB.out.size)
  obtain ⟨-,x2,x3,-,x5⟩:=H.out w4 b24
  obtain ⟨a4,c4,rfl,-⟩:=o4.read
  simp only [List.length_nil] at o4 ⊢
  obtain ⟨q1,q2,q3⟩:=two_put x2 x3 s (.slice a4 0 c4) tkZ
  obtain ⟨⟨r0,r1⟩,f0,f1⟩:=x2.lane
  obtain ⟨⟨d0,d1,d2,d3,d4⟩,e0,e1,e2,e3,e4⟩:=x3.five
  have o5:=o4.kept q3 (fun j hj e=>by have:=HZ.out;have:=HB.out.size;omega)
  have Q:Hd (_∧_∧_∧_):=⟨q1,q2,o5,x5.trans (q3.below x5.size (fun k e=>by omega))⟩
  clear c0 c1 CP x2 x3 x5 q1 q2 q3 o4 o5 b4 b24 H
  simp only [tkZ] at Q d0 d1 d2 d3 d4
  go_wp2_with fail
  refine bodyPost_ret (resTk10 (t:=tkZ) _ _ _ _ false rfl rfl rfl Q.out.1 Q.out.2.1) rfl ?_
  refine ⟨⟨_,rfl,?_⟩,Q.out.2.2.2⟩
  exact Q.out.2.2.1.lnW rfl (by have:=HZ.out;have:=HB.out.size;omega)
 ·rw [hasI_some hn,tkS_some hn]
  rw [hasI_some hn] at F
  have hp:=len_pos hn
  have WO:Hd (∀ W,SlR W a c L→Calls Tryz.prog 91 #[.agg #[.int .u64 s,.slice a L.length c],.int .i64 0] W fun e w'=>(∃ v,e=.returned (.tuple #[.agg #[.int .u64 s,v],.agg #[.int .i64 (gt L 0).id,.int .i64 (gt L 0).wid,.int .i64 (gt L 0).sts,.int .i64 (gt L 0).sin,.int .i64 (gt L 0).unt]])∧OwnT w' W.heap.size v L.tail)∧Below W.heap.size W w'):=⟨fun W q=>by
   have:=without_ok s a c 0 L W q hl hp
   rw [List.take_zero,List.nil_append,Nat.zero_add,List.drop_one] at this
   exact this⟩
  generalize finI s L g=f at *
  generalize gt L 0=t at *
  obtain ⟨t0,t1,t2,t3,t4⟩:=t
  simp only at *
  generalize L.tail=D at *
  clear hn
  obtain ⟨n,hn⟩:∃ n,n=L.length:=⟨_,rfl⟩
  rw [←hn] at hw2 hl F H WO hp c1 ⊢
  clear hn
  go_enter Tryz.func75,Tryz.ntmps75
  go_upto_region 1 with fail
  rw [←hw2]
  clear hw2
  go_upto_region 2 with (go_at_call 89;refine F.mono ?_;rintro e w3 ⟨rfl,b3⟩)
  obtain ⟨x1,x2,x3,x4,x5⟩:=H.out w3 b3
  have CP:=WO.out w3 x4
  clear c0 c1 F x2 x3 x4 x5 WO
  obtain ⟨⟨c0,c1⟩,-⟩:=x1.lane
  have HB:Hd (Below w2.heap.size w2 w3):=⟨b3⟩
  clear b3 x1
  go_wp2_with fail
  go_at_call 91
  refine CP.mono ?_
  rintro e w4 ⟨⟨v,rfl,o4⟩,b4⟩
  have b24:=HB.out.trans (b4.mono HB.out.size)
  obtain ⟨a4,c4,e4,-⟩:=o4.read
  obtain ⟨m,hm⟩:∃ m,m=D.length:=⟨_,rfl⟩
  rw [←hm] at e4
  subst e4
  have HM:Hd (m=D.length):=⟨hm⟩
  clear hm
  obtain ⟨BY,Y1,Y2⟩:=boxes w4 62 36 #[.int .u64 s,.slice a4 m c4] #[.int .i64 t0,.int .i64 t1,.int .i64 t2,.int .i64 t3,.int .i64 t4]
  obtain ⟨w5,hw5⟩:∃ w5,w5=(w4.alloc (.cells #[.int .u64 s,.slice a4 m c4] 62)).alloc (.cells #[.int .i64 t0,.int .i64 t1,.int .i64 t2,.int .i64 t3,.int .i64 t4] 36):=⟨_,rfl⟩
  rw [←hw5] at BY Y1 Y2
  have o5:OwnT w5 w3.heap.size (.slice a4 m c4) D:=by rw [hw5];exact World.ownsRow.alloc (World.ownsRow.alloc o4 _) _
  have b25:=b24.trans (BY.mono b24.size)
  obtain ⟨-,x2,x3,-,x5⟩:=H.out w5 b25
  have HH:Hd (LastT w w5 w.heap.size w.heap.size w4.heap.size w3.heap.size s (.slice a4 m c4) ⟨t0,t1,t2,t3,t4⟩ D):=⟨⟨Y1,Y2,o5,x2,x3,x5,Nat.le_refl _,by have:=HZ.out;have:=HB.out.size;omega,b4.size⟩⟩
  obtain ⟨⟨m0,m1⟩,n0,n1⟩:=Blk.lane Y1
  clear c0 c1 CP b4 b24 BY Y1 Y2 o4 o5 b25 HB x2 x3 x5 H HZ
  go_upto_region 5 with fail
  rw [←hw5]
  clear hw5
  have H6:=HH.out.put f
  clear HH
  go_upto_region 6 with fail
  generalize w5.setCell ⟨w4.heap.size,0,none⟩ (.int .u64 f)=w6 at *
  clear m0 m1 n0 n1
  generalize w4.heap.size=g4 at *
  generalize w3.heap.size=g3 at *
  obtain ⟨A,hA⟩:∃ A,A=w.heap.size:=⟨_,rfl⟩
  have HA:Hd (A=w.heap.size):=⟨hA⟩
  rw [←hA] at H6 ⊢
  clear hA
  have H7:LastT w w6.drew A A g4 g3 f (.slice a4 m c4) ⟨t0,t1,t2,t3,t4⟩ D:=H6.drew
  clear H6
  refine AnyG.start (T:=fun W=>Kept (fun k=>k=A+1∨k=A+1+1) w6.drew W) (U:=fun _=>True) (j0:=100) (by kernel_rfl) ?_
  generalize w6.drew=w7 at *
  have R:Kept (fun k=>k=A+1∨k=A+1+1) w7 w7:=Kept.refl _ _
  have X0:Hd (∀ W,Kept (fun k=>k=A+1∨k=A+1+1) w7 W→W.cell? ⟨g4,0,none⟩=some (.int .u64 f)∧W.cell? ⟨g4,1,none⟩=some (.slice a4 m c4)):=⟨fun W q=>(H7.ln.kept q (by have:=H7.lo;have:=H7.mid;omega)).lane.1⟩
  have X1:Hd (∀ W,Kept (fun k=>k=A+1∨k=A+1+1) w7 W→W.cell? ⟨g4+1,0,none⟩=some (.int .i64 t0)∧W.cell? ⟨g4+1,1,none⟩=some (.int .i64 t1)∧W.cell? ⟨g4+1,2,none⟩=some (.int .i64 t2)∧W.cell? ⟨g4+1,3,none⟩=some (.int .i64 t3)∧W.cell? ⟨g4+1,4,none⟩=some (.int .i64 t4)):=⟨fun W q=>(H7.tk.kept q (by have:=H7.lo;have:=H7.mid;omega)).five.1⟩
  obtain ⟨q1,q2,q3⟩:=two_put H7.r1 H7.r2 f (.slice a4 m c4) ⟨t0,t1,t2,t3,t4⟩
  obtain ⟨q1',q3'⟩:=lane_set H7.r1 f (.slice a4 m c4)
  have P3:=H7.r2.kept q3' (by omega)
  obtain ⟨⟨r0,r1⟩,f0,f1⟩:=H7.r1.lane
  obtain ⟨⟨d0,d1,d2,d3,d4⟩,e0,e1,e2,e3,e4⟩:=P3.five
  simp only at q1 q2 q3
  refine .tq 0 29 R ?_ (hy:=fun w hSw=>by have s:=X0.out w hSw;go_simp;rfl);simp only [oqA,oqB,oqC]
  refine .tq 1 30 R ?_ (hy:=fun w hSw=>by have s:=X1.out w hSw;go_simp;rfl);simp only [oqA,oqB,oqC]
  refine AnyG.ready (rs:=[2]) (by kernel_rfl) (by simp) ?_
  refine AllG.cons rfl (fun K hK=>?_) AllG.nil
  go_simp
  refine hK.out _ _ ⟨q3'.mono (fun k _ e=>.inl e),fun _=>trivial⟩ ?_
  clear hK K
  refine AnyG.ready (rs:=[3]) (by kernel_rfl) (by simp) ?_
  refine AllG.cons rfl (fun K hK=>?_) AllG.nil
  go_simp
  refine hK.out _ _ ⟨q3,fun _=>trivial⟩ ?_
  clear hK K
  refine AnyG.ready (rs:=[4]) (by kernel_rfl) (by simp) ?_
  refine AllG.cons rfl (fun K hK=>?_) AllG.nil
  go_simp
  refine hK.out _ _ ⟨q3,fun _=>trivial⟩ ?_
  clear hK K
  refine AnyG.done (by kernel_rfl) ?_ _
  have HLO:Hd (A≤g3):=⟨by have:=H7.lo;omega⟩
  have o8:=H7.own.kept q3 (fun j hj e=>by have:=H7.lo;omega)
  have b8:=H7.bel.trans (q3.below (B:=A) (by have:=H7.r1.lt;omega) (fun k e=>by omega))
  have HR:Hd (_∧_∧_∧_):=⟨q1,q2,o8.lnW (b:=true) (s:=f) (B:=A) HM.out (by have:=HLO.out;omega),b8⟩
  clear q1 q2 q3 q1' q3' P3 r0 r1 f0 f1 d0 d1 d2 d3 d4 e0 e1 e2 e3 e4 o8 b8 H7 R X0 X1
  go_wp2_with fail
  refine bodyPost_ret (resTk10 (t:=⟨t0,t1,t2,t3,t4⟩) _ _ _ _ true rfl rfl rfl HR.out.1 HR.out.2.1) rfl ?_
  exact ⟨⟨_,rfl,by rw [←HA.out];exact HR.out.2.2.1⟩,by rw [←HA.out];exact HR.out.2.2.2⟩
structure Ln where
 s:Int
 L:List Tk
def lnZ:Ln:=⟨0,[]⟩
def gl (F:List Ln) (k:Nat):Ln:=F.getD k lnZ
theorem gl_cons_zero (l:Ln) (F:List Ln):gl (l :: F) 0=l:=rfl
theorem gl_cons_succ (l:Ln) (F:List Ln) (k:Nat):gl (l :: F) (k+1)=gl F k:=rfl
theorem gl_get {F:List Ln} {k:Nat} (h:k<F.length):F[k]?=some (gl F k):=by
 unfold gl;rw [List.getD_eq_getElem?_getD,List.getElem?_eq_getElem h];rfl
theorem gl_mem {F:List Ln} {k:Nat} (h:k<F.length):gl F k∈F:=List.mem_of_getElem? (gl_get h)
theorem gl_out {F:List Ln} {k:Nat} (h:F.length≤k):gl F k=lnZ:=by
 unfold gl;rw [List.getD_eq_getElem?_getD,List.getElem?_eq_none h];rfl
structure Few (F:List Ln):Prop where
 len:F.length≤200
 each:∀ l∈F,Word l.s∧l.L.length≤1000
theorem Few.at {F:List Ln} (h:Few F) (k:Nat):Word (gl F k).s∧(gl F k).L.length≤1000:=by
 rcases Nat.lt_or_ge k F.length with c | c
 ·exact h.each _ (gl_mem c)
 ·rw [gl_out c];exact ⟨⟨by decide,by decide⟩,by decide⟩
theorem Few.set {F:List Ln} (h:Few F) {k:Nat} {l:Ln} (hl:Word l.s∧l.L.length≤1000):Few (F.set k l) :=
 ⟨by rw [List.length_set];exact h.len,fun x hx=>by
  rcases List.mem_or_eq_of_mem_set hx with c | c
  ·exact h.each x c
  ·rw [c];exact hl⟩
theorem Few.take {F:List Ln} (h:Few F) (k:Nat):Few (F.take k) :=
 ⟨by rw [List.length_take];have:=h.len;omega,fun x hx=>h.each x (List.mem_of_mem_take hx)⟩
theorem gl_set_same {F:List Ln} {k:Nat} {l:Ln} (h:k<F.length):gl (F.set k l) k=l:=by
 unfold gl;rw [List.getD_eq_getElem?_getD,List.getElem?_set_self h];rfl
theorem gl_set_ne {F:List Ln} {k j:Nat} {l:Ln} (h:k≠j):gl (F.set k l) j=gl F j:=by
 unfold gl;rw [List.getD_eq_getElem?_getD,List.getElem?_set_ne h,List.getD_eq_getElem?_getD]
theorem gl_take {F:List Ln} {n k:Nat} (h:k<n):gl (F.take n) k=gl F k:=by
 unfold gl;rw [List.getD_eq_getElem?_getD,List.getElem?_take_of_lt h,List.getD_eq_getElem?_getD]
abbrev Lz:=Ln × Value
def zC (z:Lz):List Value:=[.int .u64 z.1.s,z.2]
def zCs (Z:List Lz):List Value:=Z.flatMap zC
theorem zCs_cons (z:Lz) (Z:List Lz):zCs (z :: Z)=zC z++zCs Z:=by simp [zCs]
theorem zCs_append (Y Z:List Lz):zCs (Y++Z)=zCs Y++zCs Z:=by simp [zCs]
theorem zCs_len (Z:List Lz):(zCs Z).length=Z.length*2:=by
 induction Z with
 | nil=>rfl
 | cons z Z ih=>rw [zCs_cons,List.length_append,ih];simp [zC];omega
theorem zCs_at:∀ (Z:List Lz) (k:Nat) (z:Lz),Z[k]?=some z→∀ j,j<2→(zCs Z)[k*2+j]?=(zC z)[j]?
 | [],k,z,h,_,_=>by simp at h
 | y :: Z,0,z,h,j,hj=>by
  simp at h
  subst h
  rw [zCs_cons,List.getElem?_append_left (by simp [zC];omega)]
  simp
 | y :: Z,k+1,z,h,j,hj=>by
  rw [zCs_cons,List.getElem?_append_right (by simp [zC];omega)]
  rw [←zCs_at Z k z (by simpa using h) j hj]
  congr 1
  simp [zC];omega
theorem zCs_take:∀ (Z:List Lz) (n:Nat),(zCs Z).take (n*2)=zCs (Z.take n)
 | [],n=>by simp [zCs]
 | z :: Z,0=>by simp [zCs]
 | z :: Z,n+1=>by
  rw [zCs_cons,List.take_succ_cons,zCs_cons,← zCs_take Z n,List.take_append]
  have e1:(zC z).take ((n+1)*2)=zC z:=List.take_of_length_le (by simp [zC];omega)
  have e2:(n+1)*2 - (zC z).length=n*2:=by simp [zC];omega
  rw [e1,e2]
theorem zCs_set:∀ (Z:List Lz) (k:Nat) (x:Int) (v:Value) (l:Ln),l.s=x→k<Z.length→((zCs Z).set (k*2) (.int .u64 x)).set (k*2+1) v=zCs (Z.set k (l,v))
 | [],k,_,_,_,_,h=>absurd h (by simp)
 | z :: Z,0,x,v,l,hx,h=>by subst hx;simp [zCs_cons,zC]
 | z :: Z,k+1,x,v,l,hx,h=>by
  rw [List.set_cons_succ,zCs_cons,zCs_cons,← zCs_set Z k x v l hx (by simpa using h)]
  rw [show (k+1)*2=(zC z).length+k*2 from by simp [zC];omega,show (zC z).length+k*2+1=(zC z).length+(k*2+1) from by omega]
  rw [List.set_append_right _ _ (by omega),List.set_append_right _ _ (by omega)]
  simp
theorem zCs_one {Z:List Lz} (h:∀ z∈Z,∃ a n c,z.2=.slice a n c):∀ u∈zCs Z,u.oneCell'=true:=by
 intro u hu
 unfold zCs at hu
 obtain ⟨z,hz,hu⟩:=List.mem_flatMap.1 hu
 obtain ⟨a,n,c,e⟩:=h z hz
 simp [zC] at hu
 rcases hu with rfl | rfl
 ·rfl
 ·rw [e];rfl
def RowR (w:World) (a:Option Addr) (cs:List Value):Prop:=cs≠[]→∃ b off,a=some ⟨b,off,none⟩∧b<w.heap.size∧∀ j u,cs[j]?=some u→w.cell? ⟨b,off+j,none⟩=some u
theorem RowR.carry {w w':World} {a:Option Addr} {cs:List Value} (h:RowR w a cs) (b:Below w.heap.size w w'):RowR w' a cs:=fun hn=>by
 obtain ⟨g,off,rfl,hg,hc⟩:=h hn
 exact ⟨g,off,rfl,Nat.lt_of_lt_of_le hg b.size,fun j u hj=>(b.cell (p:=⟨g,off+j,none⟩) hg).trans (hc j u hj)⟩
theorem RowR.cells {w:World} {x:Addr} {cs:List Value} (h:RowR w (some x) cs):∀ j u,cs[j]?=some u→w.cell? (x.add j)=some u:=fun j u hj=>by
 obtain ⟨b,off,e,-,hc⟩:=h (by intro e;rw [e] at hj;simp at hj)
 cases e
 rw [Go.WideShapes.add_plain]
 exact hc j u hj
def LzR (w:World) (z:Lz):Prop:=∃ a c,z.2=.slice a z.1.L.length c∧SlR w a c z.1.L
theorem LzR.carry {w w':World} {z:Lz} (h:LzR w z) (b:Below w.heap.size w w'):LzR w' z:=by
 obtain ⟨a,c,e,k⟩:=h
 exact ⟨a,c,e,k.carry b⟩
def LsR (w:World) (a:Option Addr) (c:Nat) (F:List Ln):Prop:=F.length≤c∧(a=none→c=0)∧∃ Z:List Lz,Z.map Prod.fst=F∧RowR w a (zCs Z)∧∀ z∈Z,LzR w z
theorem LsR.carry {w w':World} {a:Option Addr} {c:Nat} {F:List Ln} (h:LsR w a c F) (b:Below w.heap.size w w'):LsR w' a c F:=by
 obtain ⟨h1,h2,Z,h3,h4,h5⟩:=h
 exact ⟨h1,h2,Z,h3,h4.carry b,fun z hz=>(h5 z hz).carry b⟩
theorem LsR.nil (w:World):LsR w none 0 []:=⟨Nat.le_refl _,fun _=>rfl,[],rfl,fun h=>absurd rfl h,fun _ h=>by cases h⟩
theorem map_fst_get {Z:List Lz} {F:List Ln} (h:Z.map Prod.fst=F) {k:Nat} (hk:k<F.length):∃ v,Z[k]?=some (gl F k,v):=by
 have hl:Z.length=F.length:=by rw [←h,List.length_map]
 refine ⟨(Z[k]'(by omega)).2,?_⟩
 rw [List.getElem?_eq_getElem (by omega)]
 have:gl F k=(Z[k]'(by omega)).1:=by
  have e:=gl_get hk
  subst h
  rw [List.getElem?_map,List.getElem?_eq_getElem (by omega)] at e
  simpa using e.symm
 rw [this]
theorem LsR.at {w:World} {a:Option Addr} {c:Nat} {F:List Ln} (h:LsR w a c F) {k:Nat} (hk:k<F.length):∃ b off a' c',a=some ⟨b,off,none⟩∧b<w.heap.size∧w.cell? ⟨b,off+k*2,none⟩=some (.int .u64 (gl F k).s)∧w.cell? ⟨b,off+k*2+1,none⟩=some (.slice a' (gl F k).L.length c')∧SlR w a' c' (gl F k).L:=by
 obtain ⟨-,-,Z,h3,h4,h5⟩:=h
 obtain ⟨v,hv⟩:=map_fst_get h3 hk
 have hn:zCs Z≠[]:=by
  intro e
  have:=zCs_at Z k _ hv 0 (by decide)
  rw [e] at this
  simp [zC] at this
 obtain ⟨b,off,rfl,hb,hc⟩:=h4 hn
 obtain ⟨a',c',e,r⟩:=h5 _ (List.mem_of_getElem? hv)
 simp only at e r
 subst e
 exact ⟨b,off,a',c',rfl,hb,hc (k*2+0) _ (zCs_at Z k _ hv 0 (by decide)),hc (k*2+1) _ (zCs_at Z k _ hv 1 (by decide)),r⟩
theorem LsR.take {w:World} {a:Option Addr} {c:Nat} {F:List Ln} (h:LsR w a c F) (n:Nat):LsR w a c (F.take n):=by
 obtain ⟨h1,h2,Z,h3,h4,h5⟩:=h
 refine ⟨Nat.le_trans (by rw [List.length_take];omega) h1,h2,Z.take n,by rw [List.map_take,h3],fun hn=>?_,fun z hz=>h5 z (List.mem_of_mem_take hz)⟩
 rw [←zCs_take] at hn ⊢
 obtain ⟨b,off,e,hb,hc⟩:=h4 (by intro e;rw [e] at hn;simp at hn)
 refine ⟨b,off,e,hb,fun j u hj=>hc j u ?_⟩
 rw [List.getElem?_take] at hj
 split at hj
 ·exact hj
 ·cases hj
def OwL (w:World) (B:Nat) (v:Value) (F:List Ln):Prop:=∃ Z:List Lz,Z.map Prod.fst=F∧w.ownsRow B 62 2 v F.length (zCs Z)∧∀ z∈Z,OwnT w B z.2 z.1.L
theorem OwnT.lz {w:World} {B:Nat} {z:Lz} (h:OwnT w B z.2 z.1.L):LzR w z:=h.read
theorem OwL.read {w:World} {B:Nat} {v:Value} {F:List Ln} (h:OwL w B v F):∃ a c,v=.slice a F.length c∧LsR w a c F:=by
 obtain ⟨Z,hZ,ho,hz⟩:=h
 rcases id ho.2 with ⟨rfl,e⟩ | ⟨g,cap,cur,rfl,hb,hg,hc,r⟩
 ·have:F=[]:=List.eq_nil_of_length_eq_zero e
  subst this
  exact ⟨_,0,rfl,LsR.nil w⟩
 ·refine ⟨some ⟨g,0,none⟩,cap,rfl,hc,(fun e=>by cases e),Z,hZ,fun _=>⟨g,0,rfl,(ho.lt g rfl).2,fun j u hj=>?_⟩,fun z h=>(hz z h).lz⟩
  have:=ho.cells rfl j u hj
  rw [Go.WideShapes.add_plain] at this
  exact this
theorem ownsRow_kept {S:Nat→Prop} {w w':World} {B t m n:Nat} {v:Value} {cs:List Value} (h:w.ownsRow B t m v n cs) (k:Kept S w w') (hS:∀ j,v.ownBlock=some j→¬ S j):w'.ownsRow B t m v n cs:=by
 refine ⟨h.1,h.2.imp id ?_⟩
 rintro ⟨g,cap,cur,e,hb,hg,r⟩
 refine ⟨g,cap,cur,e,hb,?_,r⟩
 have hlt:g<w.heap.size:=by
  rcases Nat.lt_or_ge g w.heap.size with h1 | h1
  ·exact h1
  ·rw [Array.getElem?_eq_none h1] at hg;cases hg
 rw [k.block g hlt (hS g (by rw [e];rfl))]
 exact hg
theorem OwL.kept {S:Nat→Prop} {w w':World} {B:Nat} {v:Value} {F:List Ln} (h:OwL w B v F) (k:Kept S w w') (hS:∀ j,B≤j→¬ S j):OwL w' B v F:=by
 obtain ⟨Z,hZ,ho,hz⟩:=h
 exact ⟨Z,hZ,ownsRow_kept ho k (fun j e=>hS j (ho.lt j e).1),fun z h=>(hz z h).kept k hS⟩
theorem OwL.low {w:World} {B B':Nat} {v:Value} {F:List Ln} (h:OwL w B v F) (hB:B'≤B):OwL w B' v F:=by
 obtain ⟨Z,hZ,ho,hz⟩:=h
 exact ⟨Z,hZ,⟨ho.1,ho.2.imp id (fun ⟨g,cap,cur,e,hb,r⟩=>⟨g,cap,cur,e,Nat.le_trans hB hb,r⟩)⟩,fun z h=>(hz z h).low hB⟩
theorem OwnT.turn {w w':World} {B g:Nat} {v:Value} {L:List Tk} (h:OwnT w B v L) {cur:Array Value} (hg:w.heap[g]?=some (.cells cur 62 (0,0))) (k:Kept (fun j=>j=g) w w'):OwnT w' B v L :=
 h.other (cs:=cur) hg k
def faA (r g n o:Int) (v:Value):Array Value:=#[.int .u64 r,.int .i64 g,.int .i64 n,.int .i64 o,v]
theorem Blk.fair {w:World} {b:Nat} {r g n o:Int} {v:Value} (h:Blk w b 31 (faA r g n o v)) :
  (w.cell? ⟨b,0,none⟩=some (.int .u64 r)∧w.cell? ⟨b,1,none⟩=some (.int .i64 g)∧w.cell? ⟨b,2,none⟩=some (.int .i64 n)∧w.cell? ⟨b,3,none⟩=some (.int .i64 o)∧w.cell? ⟨b,4,none⟩=some v)
  ∧ w.frozen? ⟨b,0,none⟩=false∧w.frozen? ⟨b,1,none⟩=false∧w.frozen? ⟨b,2,none⟩=false∧w.frozen? ⟨b,3,none⟩=false∧w.frozen? ⟨b,4,none⟩=false :=
 ⟨⟨h.cellv 0 rfl,h.cellv 1 rfl,h.cellv 2 rfl,h.cellv 3 rfl,h.cellv 4 rfl⟩,h.frozen 0,h.frozen 1,h.frozen 2,h.frozen 3,h.frozen 4⟩
theorem fair_set {w:World} {b:Nat} {r g n o:Int} {v:Value} (h:Blk w b 31 (faA r g n o v)) (r' g' n' o':Int) (v':Value) :
  Blk (((((w.setCell ⟨b,0,none⟩ (.int .u64 r')).setCell ⟨b,1,none⟩ (.int .i64 g')).setCell ⟨b,2,none⟩ (.int .i64 n')).setCell ⟨b,3,none⟩ (.int .i64 o')).setCell ⟨b,4,none⟩ v') b 31 (faA r' g' n' o' v')
  ∧ Kept (fun k=>k=b) w (((((w.setCell ⟨b,0,none⟩ (.int .u64 r')).setCell ⟨b,1,none⟩ (.int .i64 g')).setCell ⟨b,2,none⟩ (.int .i64 n')).setCell ⟨b,3,none⟩ (.int .i64 o')).setCell ⟨b,4,none⟩ v'):=by
 refine ⟨?_,(((((Kept.refl (fun k=>k=b) w).setCell _ _ (.inl rfl)).setCell _ _ (.inl rfl)).setCell _ _ (.inl rfl)).setCell _ _ (.inl rfl)).setCell _ _ (.inl rfl)⟩
 have:=((((h.set 0 (.int .u64 r')).set 1 (.int .i64 g')).set 2 (.int .i64 n')).set 3 (.int .i64 o')).set 4 v'
 simpa [faA] using this
theorem fair_lanes {w:World} {b:Nat} {r g n o:Int} {v:Value} (h:Blk w b 31 (faA r g n o v)) (v':Value) :
  Blk (w.setCell ⟨b,4,none⟩ v') b 31 (faA r g n o v')∧Kept (fun k=>k=b) w (w.setCell ⟨b,4,none⟩ v'):=by
 refine ⟨?_,(Kept.refl (fun k=>k=b) w).setCell _ _ (.inl rfl)⟩
 have:=h.set 4 v'
 simpa [faA] using this
theorem fair_r {w:World} {b:Nat} {r g n o:Int} {v:Value} (h:Blk w b 31 (faA r g n o v)) (r':Int) :
  Blk (w.setCell ⟨b,0,none⟩ (.int .u64 r')) b 31 (faA r' g n o v)∧Kept (fun k=>k=b) w (w.setCell ⟨b,0,none⟩ (.int .u64 r')):=by
 refine ⟨?_,(Kept.refl (fun k=>k=b) w).setCell _ _ (.inl rfl)⟩
 have:=h.set 0 (.int .u64 r')
 simpa [faA] using this
def FaV (w:World) (r g n o:Int) (F:List Ln) (v:Value):Prop:=∃ a c,v=.agg #[.int .u64 r,.int .i64 g,.int .i64 n,.int .i64 o,.slice a F.length c]∧LsR w a c F
theorem FaV.carry {w w':World} {r g n o:Int} {F:List Ln} {v:Value} (h:FaV w r g n o F v) (b:Below w.heap.size w w'):FaV w' r g n o F v:=by
 obtain ⟨a,c,e,k⟩:=h
 exact ⟨a,c,e,k.carry b⟩
def FaO (w:World) (B:Nat) (r g n o:Int) (F:List Ln) (v:Value):Prop:=∃ u,v=.agg #[.int .u64 r,.int .i64 g,.int .i64 n,.int .i64 o,u]∧OwL w B u F
theorem FaO.read {w:World} {B:Nat} {r g n o:Int} {F:List Ln} {v:Value} (h:FaO w B r g n o F v):FaV w r g n o F v:=by
 obtain ⟨u,rfl,k⟩:=h
 obtain ⟨a,c,rfl,k'⟩:=k.read
 exact ⟨a,c,rfl,k'⟩
end Go.Proofs.YtlgibnmoogbdcaaGreat

namespace Go.Proofs.YtlgibnmoogbdcaaGreat
def sW (l:Ln):Int:=seatsTo l.L l.L.length
theorem sW_lo (l:Ln):0≤sW l:=seatsTo_lo _ _
theorem sW_hi {l:Ln} (h:l.L.length≤1000):sW l≤16000:=by
 have:=seatsTo_hi l.L l.L.length
 unfold sW;omega
def fN (g:Int) (l:Ln):Int:=finI l.s l.L g
theorem fN_word {g:Int} {l:Ln} (h:Word l.s):Word (fN g l):=finI_word h
abbrev Vld (F:List Ln) (o i:Int):Prop:=0≤i∧i<o∧i<F.length
def gi (H:Nat→Int) (k:Nat):Int:=H k
def chF (F:List Ln) (o:Int) (H:Nat→Int):Nat→Int
 | 0=>-1
 | k+1=>if Vld F o (H k)∧(chF F o H k<0∨sW (gl F (H k).toNat)<sW (gl F (chF F o H k).toNat)) then H k else chF F o H k
def IsC (F:List Ln) (o:Int) (H:Nat→Int) (lo hi:Nat) (r:Int):Prop :=
 (r=-1∧∀ q,lo≤q→q<hi→¬ Vld F o (H q)) ∨
 ∃ p,lo≤p∧p<hi∧r=H p∧Vld F o (H p)∧∀ q,lo≤q→q<hi→Vld F o (H q)→sW (gl F (H p).toNat)≤sW (gl F (H q).toNat)∧(q<p→sW (gl F (H p).toNat)<sW (gl F (H q).toNat))
theorem IsC.uniq {F:List Ln} {o:Int} {H:Nat→Int} {lo hi:Nat} {r r':Int} (h:IsC F o H lo hi r) (h':IsC F o H lo hi r'):r=r':=by
 rcases h with ⟨rfl,h⟩ | ⟨p,p1,p2,rfl,p3,p4⟩
 ·rcases h' with ⟨rfl,-⟩ | ⟨q,q1,q2,-,q3,-⟩
  ·rfl
  ·exact absurd q3 (h q q1 q2)
 ·rcases h' with ⟨rfl,h'⟩ | ⟨q,q1,q2,rfl,q3,q4⟩
  ·exact absurd p3 (h' p p1 p2)
  ·rcases Nat.lt_trichotomy p q with c | c | c
   ·have x:=(q4 p p1 p2 p3).2 c
    have y:=(p4 q q1 q2 q3).1
    omega
   ·rw [c]
   ·have x:=(p4 q q1 q2 q3).2 c
    have y:=(q4 p p1 p2 p3).1
    omega
theorem IsC.rng {F:List Ln} {o:Int} {H:Nat→Int} {lo hi:Nat} {r:Int} (h:IsC F o H lo hi r):r=-1∨Vld F o r:=by
 rcases h with ⟨rfl,-⟩ | ⟨p,-,-,rfl,p3,-⟩
 ·exact .inl rfl
 ·exact .inr p3
theorem chF_is (F:List Ln) (o:Int) (H:Nat→Int):∀ k,IsC F o H 0 k (chF F o H k)
 | 0=>.inl ⟨rfl,fun _ _ h=>absurd h (Nat.not_lt_zero _)⟩
 | k+1=>by
  have ih:=chF_is F o H k
  unfold chF
  generalize chF F o H k=c at *
  split
  ·rename_i h
   refine .inr ⟨k,Nat.zero_le _,Nat.lt_succ_self k,rfl,h.1,fun q _ hq hv=>?_⟩
   rcases Nat.lt_or_eq_of_le (Nat.le_of_lt_succ hq) with hlt | rfl
   ·rcases ih with ⟨rfl,h0⟩ | ⟨p,p1,p2,rfl,p3,p4⟩
    ·exact absurd hv (h0 q (Nat.zero_le _) hlt)
    ·have x:=(p4 q (Nat.zero_le _) hlt hv).1
     have y:=h.2
     have z:=p3.1
     have:sW (gl F (H k).toNat)<sW (gl F (H p).toNat):=by
      rcases y with y | y
      ·omega
      ·exact y
     exact ⟨by omega,fun _=>by omega⟩
   ·exact ⟨Int.le_refl _,fun e=>absurd e (Nat.lt_irrefl _)⟩
  ·rename_i h
   rcases ih with ⟨rfl,h0⟩ | ⟨p,p1,p2,rfl,p3,p4⟩
   ·refine .inl ⟨rfl,fun q _ hq hv=>?_⟩
    rcases Nat.lt_or_eq_of_le (Nat.le_of_lt_succ hq) with hlt | rfl
    ·exact h0 q (Nat.zero_le _) hlt hv
    ·exact h ⟨hv,.inl (by decide)⟩
   ·refine .inr ⟨p,Nat.zero_le _,by omega,rfl,p3,fun q _ hq hv=>?_⟩
    rcases Nat.lt_or_eq_of_le (Nat.le_of_lt_succ hq) with hlt | rfl
    ·exact p4 q (Nat.zero_le _) hlt hv
    ·have x:¬ sW (gl F (H q).toNat)<sW (gl F (H p).toNat):=fun e=>h ⟨hv,.inr e⟩
     exact ⟨by omega,fun e=>by omega⟩
theorem IsC.back {F:List Ln} {o:Int} {H:Nat→Int} {k hi:Nat} {r:Int} (h:IsC F o H (k+1) hi r) (hk:k<hi) :
  IsC F o H k hi (if Vld F o (H k)∧(r<0∨sW (gl F (H k).toNat)≤sW (gl F r.toNat)) then H k else r):=by
 split
 ·rename_i c
  refine .inr ⟨k,Nat.le_refl _,hk,rfl,c.1,fun q hq1 hq2 hv=>?_⟩
  rcases Nat.lt_or_eq_of_le hq1 with hlt | rfl
  ·rcases h with ⟨rfl,h0⟩ | ⟨p,p1,p2,rfl,p3,p4⟩
   ·exact absurd hv (h0 q hlt hq2)
   ·have x:=(p4 q hlt hq2 hv).1
    have z:=p3.1
    rcases c.2 with y | y
    ·omega
    ·exact ⟨by omega,fun e=>by omega⟩
  ·exact ⟨Int.le_refl _,fun e=>absurd e (Nat.lt_irrefl _)⟩
 ·rename_i c
  rcases h with ⟨rfl,h0⟩ | ⟨p,p1,p2,rfl,p3,p4⟩
  ·refine .inl ⟨rfl,fun q hq1 hq2 hv=>?_⟩
   rcases Nat.lt_or_eq_of_le hq1 with hlt | rfl
   ·exact h0 q hlt hq2 hv
   ·exact c ⟨hv,.inl (by decide)⟩
  ·refine .inr ⟨p,by omega,p2,rfl,p3,fun q hq1 hq2 hv=>?_⟩
   rcases Nat.lt_or_eq_of_le hq1 with hlt | rfl
   ·exact p4 q hlt hq2 hv
   ·have x:¬ sW (gl F (H k).toNat)≤sW (gl F (H p).toNat):=fun e=>c ⟨hv,.inr e⟩
    exact ⟨by omega,fun e=>by omega⟩
def nxF (F:List Ln) (g:Int):Nat→Int
 | 0=>-1
 | k+1=>if (gl F k).L≠[]∧(nxF F g k<0∨fN g (gl F k)<fN g (gl F (nxF F g k).toNat)) then k else nxF F g k
def IsN (F:List Ln) (g:Int) (lo hi:Nat) (r:Int):Prop :=
 (r=-1∧∀ q,lo≤q→q<hi→(gl F q).L=[]) ∨
 ∃ p:Nat,lo≤p∧p<hi∧r=p∧(gl F p).L≠[]∧∀ q,lo≤q→q<hi→(gl F q).L≠[]→fN g (gl F p)≤fN g (gl F q)∧(q<p→fN g (gl F p)<fN g (gl F q))
theorem IsN.uniq {F:List Ln} {g:Int} {lo hi:Nat} {r r':Int} (h:IsN F g lo hi r) (h':IsN F g lo hi r'):r=r':=by
 rcases h with ⟨rfl,h⟩ | ⟨p,p1,p2,rfl,p3,p4⟩
 ·rcases h' with ⟨rfl,-⟩ | ⟨q,q1,q2,-,q3,-⟩
  ·rfl
  ·exact absurd (h q q1 q2) q3
 ·rcases h' with ⟨rfl,h'⟩ | ⟨q,q1,q2,rfl,q3,q4⟩
  ·exact absurd (h' p p1 p2) p3
  ·rcases Nat.lt_trichotomy p q with c | c | c
   ·have x:=(q4 p p1 p2 p3).2 c
    have y:=(p4 q q1 q2 q3).1
    omega
   ·rw [c]
   ·have x:=(p4 q q1 q2 q3).2 c
    have y:=(q4 p p1 p2 p3).1
    omega
theorem IsN.rng {F:List Ln} {g:Int} {lo hi:Nat} {r:Int} (h:IsN F g lo hi r):r=-1∨∃ p:Nat,r=p∧lo≤p∧p<hi∧(gl F p).L≠[]:=by
 rcases h with ⟨rfl,-⟩ | ⟨p,p1,p2,rfl,p3,-⟩
 ·exact .inl rfl
 ·exact .inr ⟨p,rfl,p1,p2,p3⟩
theorem nxF_is (F:List Ln) (g:Int):∀ k,IsN F g 0 k (nxF F g k)
 | 0=>.inl ⟨rfl,fun _ _ h=>absurd h (Nat.not_lt_zero _)⟩
 | k+1=>by
  have ih:=nxF_is F g k
  unfold nxF
  generalize nxF F g k=c at *
  split
  ·rename_i h
   refine .inr ⟨k,Nat.zero_le _,Nat.lt_succ_self k,rfl,h.1,fun q _ hq hv=>?_⟩
   rcases Nat.lt_or_eq_of_le (Nat.le_of_lt_succ hq) with hlt | rfl
   ·rcases ih with ⟨rfl,h0⟩ | ⟨p,p1,p2,rfl,p3,p4⟩
    ·exact absurd (h0 q (Nat.zero_le _) hlt) hv
    ·have x:=(p4 q (Nat.zero_le _) hlt hv).1
     rw [Int.toNat_natCast] at h
     rcases h.2 with y | y
     ·omega
     ·exact ⟨by omega,fun _=>by omega⟩
   ·exact ⟨Int.le_refl _,fun e=>absurd e (Nat.lt_irrefl _)⟩
  ·rename_i h
   rcases ih with ⟨rfl,h0⟩ | ⟨p,p1,p2,rfl,p3,p4⟩
   ·refine .inl ⟨rfl,fun q _ hq=>?_⟩
    rcases Nat.lt_or_eq_of_le (Nat.le_of_lt_succ hq) with hlt | rfl
    ·exact h0 q (Nat.zero_le _) hlt
    ·exact Classical.byContradiction fun hv=>h ⟨hv,.inl (by decide)⟩
   ·refine .inr ⟨p,Nat.zero_le _,by omega,rfl,p3,fun q _ hq hv=>?_⟩
    rw [Int.toNat_natCast] at h
    rcases Nat.lt_or_eq_of_le (Nat.le_of_lt_succ hq) with hlt | rfl
    ·exact p4 q (Nat.zero_le _) hlt hv
    ·have x:¬ fN g (gl F q)<fN g (gl F p):=fun e=>h ⟨hv,.inr e⟩
     exact ⟨by omega,fun e=>by omega⟩
theorem IsN.back {F:List Ln} {g:Int} {k hi:Nat} {r:Int} (h:IsN F g (k+1) hi r) (hk:k<hi) :
  IsN F g k hi (if (gl F k).L≠[]∧¬ (0≤r∧fN g (gl F r.toNat)<fN g (gl F k)) then k else r):=by
 split
 ·rename_i c
  refine .inr ⟨k,Nat.le_refl _,hk,rfl,c.1,fun q hq1 hq2 hv=>?_⟩
  rcases Nat.lt_or_eq_of_le hq1 with hlt | rfl
  ·rcases h with ⟨rfl,h0⟩ | ⟨p,p1,p2,rfl,p3,p4⟩
   ·exact absurd (h0 q hlt hq2) hv
   ·have x:=(p4 q hlt hq2 hv).1
    rw [Int.toNat_natCast] at c
    have y:¬ fN g (gl F p)<fN g (gl F k):=fun e=>c.2 ⟨by omega,e⟩
    exact ⟨by omega,fun e=>by omega⟩
  ·exact ⟨Int.le_refl _,fun e=>absurd e (Nat.lt_irrefl _)⟩
 ·rename_i c
  rcases h with ⟨rfl,h0⟩ | ⟨p,p1,p2,rfl,p3,p4⟩
  ·refine .inl ⟨rfl,fun q hq1 hq2=>?_⟩
   rcases Nat.lt_or_eq_of_le hq1 with hlt | rfl
   ·exact h0 q hlt hq2
   ·exact Classical.byContradiction fun hv=>c ⟨hv,fun e=>absurd e.1 (by decide)⟩
  ·refine .inr ⟨p,by omega,p2,rfl,p3,fun q hq1 hq2 hv=>?_⟩
   rcases Nat.lt_or_eq_of_le hq1 with hlt | rfl
   ·exact p4 q hlt hq2 hv
   ·rw [Int.toNat_natCast] at c
    have x:fN g (gl F p)<fN g (gl F k):=Classical.byContradiction fun e=>c ⟨hv,fun h=>e h.2⟩
    exact ⟨by omega,fun _=>x⟩
def nxt (F:List Ln) (g:Int):Int:=nxF F g F.length
theorem nxt_is (F:List Ln) (g:Int):IsN F g 0 F.length (nxt F g):=nxF_is F g _
def trN (F:List Ln) (o:Int):Nat→Nat
 | 0=>0
 | n+1=>if o<(n+1:Int)∧(gl F n).L=[] then trN F o n else n+1
theorem trN_le (F:List Ln) (o:Int):∀ n,trN F o n≤n
 | 0=>Nat.le_refl 0
 | n+1=>by
  have:=trN_le F o n
  unfold trN
  split <;> omega
def trm (F:List Ln) (o:Int):List Ln:=F.take (trN F o F.length)
theorem trm_len (F:List Ln) (o:Int):(trm F o).length=trN F o F.length:=by
 unfold trm;rw [List.length_take];have:=trN_le F o F.length;omega
theorem Few.trm {F:List Ln} (h:Few F) (o:Int):Few (trm F o):=h.take _
def wtT (F:List Ln):Nat→Int
 | 0=>0
 | k+1=>wtT F k+(gl F k).L.length
def stT (F:List Ln):Nat→Int
 | 0=>0
 | k+1=>stT F k+sW (gl F k)
theorem wtT_lo (F:List Ln):∀ k,0≤wtT F k
 | 0=>Int.le_refl 0
 | k+1=>by have:=wtT_lo F k;simp only [wtT];omega
theorem wtT_hi {F:List Ln} (h:Few F):∀ k,wtT F k≤1000*(k:Int)
 | 0=>Int.le_refl 0
 | k+1=>by have:=wtT_hi h k;have:=(h.at k).2;simp only [wtT];omega
theorem stT_lo (F:List Ln):∀ k,0≤stT F k
 | 0=>Int.le_refl 0
 | k+1=>by have:=stT_lo F k;have:=sW_lo (gl F k);simp only [stT];omega
theorem stT_hi {F:List Ln} (h:Few F):∀ k,stT F k≤16000*(k:Int)
 | 0=>Int.le_refl 0
 | k+1=>by have:=stT_hi h k;have:=sW_hi (h.at k).2;simp only [stT];omega
abbrev Good (o g n:Int):Prop:=(1≤o∧o≤64)∧(1≤g∧g≤1000)∧(1≤n∧n≤64)
def jnF (F:List Ln) (k:Nat) (r:Int) (t:Tk):List Ln:=F.set k ⟨jnS (gl F k).s r (gl F k).L,(gl F k).L ++ [t]⟩
def tkF (F:List Ln) (k:Nat) (g:Int):List Ln:=F.set k ⟨tkS (gl F k).s (gl F k).L g,(gl F k).L.tail⟩
end Go.Proofs.YtlgibnmoogbdcaaGreat
