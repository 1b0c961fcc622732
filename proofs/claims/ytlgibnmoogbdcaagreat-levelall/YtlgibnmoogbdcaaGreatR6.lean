/-
  A lane that is joined, by the reference.
-/
import Derived.Test.YtlgibnmoogbdcaaGreatR5
namespace Go.Proofs.YtlgibnmoogbdcaaGreat
open Go.RowKit
theorem OwnT.off {w:World} {B g:Nat} {v:Value} {L:List Tk} (h:OwnT w B v L) {cs:Array Value} (k:Blk w g 62 cs):v.ownBlock≠some g:=by
 rcases id h.2 with ⟨rfl,-⟩ | ⟨q,cap,cur,rfl,hb,hg,r⟩
 ·intro e;cases e
 ·intro e
  injection e with e
  have e:q=g:=e
  subst e
  exact k.ne' hg (by decide) rfl
theorem tail18 {w w2 wx:World} {A g n c5:Nat} {z:Int} {a5:Option Addr} {L:List Tk} {t:Tk} (hB:Below A w wx) (hA:A+3≤w2.heap.size) (hx:w2.heap.size≤wx.heap.size) (hg:w2.heap.size≤g) (hL:L.length=n)
  (G:Blk wx g 62 (lnA z (.slice a5 n c5))) (O:OwnT wx w2.heap.size (.slice a5 n c5) L) (R:Blk wx (A+1+1) 62 (lnA 0 (.slice none 0 0)))
  {v9:Value} {w9:World} (o9:OwnT w9 w2.heap.size v9 (L ++ [t])) (g9:(wx.alloc (.cells #[.int .i64 t.id,.int .i64 t.wid,.int .i64 t.sts,.int .i64 t.sin,.int .i64 t.unt] 36)).grownBy w9 (Value.ownBlock (.slice a5 n c5))) :
  ∃ a9 c9,v9=.slice a9 (n+1) c9∧(Blk w9 g 62 (lnA z (.slice a5 n c5))∧Blk (w9.setCell ⟨g,1,none⟩ (.slice a9 (n+1) c9)) g 62 (lnA z (.slice a9 (n+1) c9))∧Blk (w9.setCell ⟨g,1,none⟩ (.slice a9 (n+1) c9)) (A+1+1) 62 (lnA 0 (.slice none 0 0)))
  ∧ Blk (((w9.setCell ⟨g,1,none⟩ (.slice a9 (n+1) c9)).setCell ⟨A+1+1,0,none⟩ (.int .u64 z)).setCell ⟨A+1+1,1,none⟩ (.slice a9 (n+1) c9)) (A+1+1) 62 (lnA z (.slice a9 (n+1) c9))
  ∧ LnO (((w9.setCell ⟨g,1,none⟩ (.slice a9 (n+1) c9)).setCell ⟨A+1+1,0,none⟩ (.int .u64 z)).setCell ⟨A+1+1,1,none⟩ (.slice a9 (n+1) c9)) A z (L ++ [t]) (.agg #[.int .u64 z,.slice a9 (n+1) c9])
  ∧ Below A w (((w9.setCell ⟨g,1,none⟩ (.slice a9 (n+1) c9)).setCell ⟨A+1+1,0,none⟩ (.int .u64 z)).setCell ⟨A+1+1,1,none⟩ (.slice a9 (n+1) c9)):=by
 obtain ⟨a9,c9,e9,-⟩:=o9.read
 rw [List.length_append,hL] at e9
 have e9:v9=.slice a9 (n+1) c9:=e9
 subst e9
 have K:Kept (fun k=>Value.ownBlock (.slice a5 n c5)=some k) (wx.alloc (.cells #[.int .i64 t.id,.int .i64 t.wid,.int .i64 t.sts,.int .i64 t.sin,.int .i64 t.unt] 36)) w9:=Kept.of_grown g9 (fun k e=>e)
 have G9:Blk w9 g 62 (lnA z (.slice a5 n c5)):=(G.alloc _).kept K (O.off G)
 have R9:Blk w9 (A+1+1) 62 (lnA 0 (.slice none 0 0)):=(R.alloc _).kept K (O.off R)
 have B8:Below A w (wx.alloc (.cells #[.int .i64 t.id,.int .i64 t.wid,.int .i64 t.sts,.int .i64 t.sin,.int .i64 t.unt] 36)):=hB.alloc (by omega) _
 have B9:Below A w w9:=B8.grown g9 (by simp;omega) (fun q e=>by have:=(O.lt q e).1;omega)
 have q0:=G9.set 1 (.slice a9 (n+1) c9)
 have q0:Blk (w9.setCell ⟨g,1,none⟩ (.slice a9 (n+1) c9)) g 62 (lnA z (.slice a9 (n+1) c9)):=by simpa [lnA] using q0
 have k0:Kept (fun k=>k=g) w9 (w9.setCell ⟨g,1,none⟩ (.slice a9 (n+1) c9)):=(Kept.refl _ _).setCell _ _ (.inl rfl)
 have R10:=R9.kept k0 (by omega)
 obtain ⟨q1,q2⟩:=lane_set R10 z (.slice a9 (n+1) c9)
 have Kf:Kept (fun k=>k=g∨k=A+1+1) w9 (((w9.setCell ⟨g,1,none⟩ (.slice a9 (n+1) c9)).setCell ⟨A+1+1,0,none⟩ (.int .u64 z)).setCell ⟨A+1+1,1,none⟩ (.slice a9 (n+1) c9)):=(k0.mono (fun k _ e=>.inl e)).trans (q2.mono (fun k _ e=>.inr e))
 have o10:OwnT (((w9.setCell ⟨g,1,none⟩ (.slice a9 (n+1) c9)).setCell ⟨A+1+1,0,none⟩ (.int .u64 z)).setCell ⟨A+1+1,1,none⟩ (.slice a9 (n+1) c9)) w2.heap.size (.slice a9 (n+1) c9) (L ++ [t]):=by
  refine ⟨o9.1,o9.2.imp id ?_⟩
  rintro ⟨q,cap,cur,e,hb,hq,r⟩
  refine ⟨q,cap,cur,e,hb,?_,r⟩
  have hlt:q<w9.heap.size:=by
   rcases Nat.lt_or_ge q w9.heap.size with h1 | h1
   ·exact h1
   ·rw [Array.getElem?_eq_none h1] at hq;cases hq
  rw [Kf.block q hlt (by
   rintro (rfl | rfl)
   ·exact G9.ne' hq (by decide) rfl
   ·omega)]
  exact hq
 refine ⟨a9,c9,rfl,⟨G9,q0,R10⟩,q1,?_,B9.trans (Kf.below (by have:=K.size;simp at this;omega) (fun k e=>by omega))⟩
 exact o10.lnO (by rw [List.length_append,hL];rfl) (by omega)
set_option maxRecDepth 20000 in
set_option maxHeartbeats 2000000 in
theorem rjoin_ok (s r:Int) (a:Option Addr) (c:Nat) (L:List Tk) (t:Tk) (w:World) (h:SlR w a c L) (hl:L.length≤1999) :
  Calls Tryz.prog 69 #[.agg #[.int .u64 s,.slice a L.length c],.int .u64 r,.agg #[.int .i64 t.id,.int .i64 t.wid,.int .i64 t.sts,.int .i64 t.sin,.int .i64 t.unt]] w fun e w'=>(∃ v,e=.returned v∧LnO w' w.heap.size (jnS s r L) (L ++ [t]) v)∧Below w.heap.size w w':=by
 obtain ⟨w2,hw2⟩:∃ w2,w2=((w.alloc (.cells #[.int .u64 s,.slice a L.length c] 62)).alloc (.cells #[.int .i64 t.id,.int .i64 t.wid,.int .i64 t.sts,.int .i64 t.sin,.int .i64 t.unt] 36)).alloc (.cells #[.int .u64 0,.slice none 0 0] 62):=⟨_,rfl⟩
 have BX:=boxes3 w 62 36 62 #[.int .u64 s,.slice a L.length c] #[.int .i64 t.id,.int .i64 t.wid,.int .i64 t.sts,.int .i64 t.sin,.int .i64 t.unt] #[.int .u64 0,.slice none 0 0]
 rw [←hw2] at BX
 obtain ⟨B,N1,N2,N3⟩:=BX
 obtain ⟨⟨c0,c1⟩,-⟩:=Blk.lane N1
 have CC:=copy_ok s a c L w2 (h.carry B) (by omega)
 have H:Hd (Below w.heap.size w w2∧Blk w2 (w.heap.size+1) 36 (tkA t)∧Blk w2 (w.heap.size+1+1) 62 (lnA 0 (.slice none 0 0))):=⟨B,N2,N3⟩
 have HC:Hd (L=[] ↔ L.length=0):=⟨⟨fun e=>by rw [e];rfl,List.eq_nil_of_length_eq_zero⟩⟩
 have HJ:Hd ((L.length=0→s<r→jnS s r L=r)∧(L.length=0→¬ s<r→jnS s r L=s)∧(L.length≠0→jnS s r L=s)):=⟨⟨fun e h=>by rw [HC.out.2 e,jnS_nil];omega,fun e h=>by rw [HC.out.2 e,jnS_nil];omega,fun e=>jnS_some (fun h=>e (HC.out.1 h))⟩⟩
 clear N1 N2 N3 B h HC
 obtain ⟨n,hn⟩:∃ n,L.length=n:=⟨_,rfl⟩
 have HL:Hd (L.length=n):=⟨hn⟩
 rw [hn] at hl hw2 c1 CC HJ ⊢
 clear hn
 obtain ⟨t0,t1,t2,t3,t4⟩:=t
 simp only at *
 by_cases hn0:n=0
 ·by_cases hsr:s<r
  ·subst hn0
   have HZ:Hd (jnS s r L=r):=⟨HJ.out.1 rfl hsr⟩
   clear HJ
   go_enter Tryz.func69,Tryz.ntmps69
   go_upto_region 1 with fail
   rw [←hw2]
   clear hw2
   go_wp2_with fail
   go_at_call 64
   refine CC.mono ?_
   rintro e w5 ⟨⟨v5,rfl,o5⟩,b5⟩
   obtain ⟨a5,c5,e5,-⟩:=o5.read
   rw [HL.out] at e5
   subst e5
   obtain ⟨w6,hw6⟩:∃ w6,w6=w5.alloc (.cells #[.int .u64 s,.slice a5 0 c5] 62):=⟨_,rfl⟩
   have G6:Blk w6 w5.heap.size 62 (lnA s (.slice a5 0 c5)):=by rw [hw6];exact Blk.new _ _ _
   have b6:Below w2.heap.size w2 w6:=by rw [hw6];exact b5.alloc b5.size _
   have o6:OwnT w6 w2.heap.size (.slice a5 0 c5) L:=by rw [hw6];exact World.ownsRow.alloc o5 _
   have k6:=Kept.of_below b6 (fun _=>False)
   have T6:Hd (Blk w6 (w.heap.size+1) 36 (tkA ⟨t0,t1,t2,t3,t4⟩)∧Blk w6 (w.heap.size+1+1) 62 (lnA 0 (.slice none 0 0))∧Below w.heap.size w w6∧OwnT w6 w2.heap.size (.slice a5 0 c5) L∧Blk w6 w5.heap.size 62 (lnA s (.slice a5 0 c5))∧w2.heap.size≤w6.heap.size∧w2.heap.size≤w5.heap.size∧w.heap.size+3≤w2.heap.size):=⟨H.out.2.1.kept k6 id,H.out.2.2.kept k6 id,H.out.1.trans (b6.mono H.out.1.size),o6,G6,b6.size,b5.size,by have:=H.out.2.2.lt;omega⟩
   obtain ⟨⟨r0,r1⟩,f0,f1⟩:=G6.lane
   have HG:Hd (∃ g,g=w5.heap.size):=⟨⟨_,rfl⟩⟩
   clear CC o5 b5 o6 k6 G6 b6 c0 c1 H
   go_upto_region 2 with fail
   rw [←hw6]
   clear hw6
   generalize w5.heap.size=g at *
   obtain ⟨w7,hw7⟩:∃ w7,w7=w6.setCell ⟨g,0,none⟩ (.int .u64 r):=⟨_,rfl⟩
   have G7:Blk w7 g 62 (lnA r (.slice a5 0 c5)):=by
    rw [hw7];have:=T6.out.2.2.2.2.1.set 0 (.int .u64 r);simpa [lnA] using this
   have k7:Kept (fun k=>k=g) w6 w7:=by rw [hw7];exact (Kept.refl _ _).setCell _ _ (.inl rfl)
   have T7:Hd (Blk w7 (w.heap.size+1) 36 (tkA ⟨t0,t1,t2,t3,t4⟩)∧Blk w7 (w.heap.size+1+1) 62 (lnA 0 (.slice none 0 0))∧Below w.heap.size w w7∧OwnT w7 w2.heap.size (.slice a5 0 c5) L∧Blk w7 g 62 (lnA r (.slice a5 0 c5))∧w2.heap.size≤w7.heap.size):=by
    obtain ⟨x1,x2,x3,x4,x5,x6,x7,x8⟩:=T6.out
    refine ⟨x1.kept k7 (by omega),x2.kept k7 (by omega),x3.trans (k7.below x3.size (fun k e=>by omega)),?_,G7,Nat.le_trans x6 k7.size⟩
    refine ⟨x4.1,x4.2.imp id ?_⟩
    rintro ⟨q,cap,cur,e,hb,hq,rr⟩
    refine ⟨q,cap,cur,e,hb,?_,rr⟩
    have hlt:q<w6.heap.size:=by
     rcases Nat.lt_or_ge q w6.heap.size with h1 | h1
     ·exact h1
     ·rw [Array.getElem?_eq_none h1] at hq;cases hq
    rw [k7.block q hlt (by rintro rfl;exact x5.ne' hq (by decide) rfl)]
    exact hq
   have SZ:Hd (w2.heap.size≤g∧w.heap.size+3≤w2.heap.size):=⟨T6.out.2.2.2.2.2.2.1,T6.out.2.2.2.2.2.2.2⟩
   clear G7 k7 T6
   go_upto_region 4 with fail
   rw [←hw7]
   clear hw7 r0 r1 f0 f1
   obtain ⟨⟨r0,r1⟩,f0,f1⟩:=T7.out.2.2.2.2.1.lane
   obtain ⟨⟨d0,d1,d2,d3,d4⟩,-⟩:=T7.out.1.five
   simp only at d0 d1 d2 d3 d4
   have hz7:=T7.out.2.2.2.2.2
   have OA:Hd (OwnT (w7.alloc (.cells #[.int .i64 t0,.int .i64 t1,.int .i64 t2,.int .i64 t3,.int .i64 t4] 36)) w2.heap.size (.slice a5 0 c5) L):=⟨World.ownsRow.alloc T7.out.2.2.2.1 _⟩
   have SA:Hd (SlR (w7.alloc (.cells #[.int .i64 t0,.int .i64 t1,.int .i64 t2,.int .i64 t3,.int .i64 t4] 36)) (some ⟨w7.heap.size,0,none⟩) 1 [(⟨t0,t1,t2,t3,t4⟩:Tk)]):=⟨one_list (Blk.new w7 36 #[.int .i64 t0,.int .i64 t1,.int .i64 t2,.int .i64 t3,.int .i64 t4])⟩
   go_wp2_with (at_builtin;refine wpl_tks rfl _ _ rfl w2.heap.size _ L [(⟨t0,t1,t2,t3,t4⟩:Tk)] rfl OA.out (some ⟨w7.heap.size,0,none⟩) 1 1 rfl rfl SA.out (by have:=HL.out;simp;omega) (by simp;omega) ?_;intro v9 w9 o9 g9;obtain ⟨a9,c9,e9,⟨x1,x2,x3⟩,y1,y2,y3⟩:=tail18 (t:=⟨t0,t1,t2,t3,t4⟩) T7.out.2.2.1 SZ.out.2 T7.out.2.2.2.2.2 SZ.out.1 HL.out T7.out.2.2.2.2.1 T7.out.2.2.2.1 T7.out.2.1 o9 g9;subst e9;have Y:Hd (_∧_∧_):=⟨y1,y2,y3⟩;clear y1 y2 y3 o9 g9 r0 r1 f0 f1 d0 d1 d2 d3 d4;obtain ⟨⟨r0,r1⟩,f0,f1⟩:=x1.lane;obtain ⟨⟨s0,s1⟩,u0,u1⟩:=x2.lane;obtain ⟨⟨p0,p1⟩,o0,o1⟩:=x3.lane;clear x1 x2 x3)
   refine bodyPost_ret (resLn18 _ _ _ rfl Y.out.1) rfl ?_
   exact ⟨⟨_,rfl,by rw [HZ.out];exact Y.out.2.1⟩,Y.out.2.2⟩
  ·subst hn0
   have HZ:Hd (jnS s r L=s):=⟨HJ.out.2.1 rfl hsr⟩
   clear HJ
   go_enter Tryz.func69,Tryz.ntmps69
   go_upto_region 1 with fail
   rw [←hw2]
   clear hw2
   go_wp2_with fail
   go_at_call 64
   refine CC.mono ?_
   rintro e w5 ⟨⟨v5,rfl,o5⟩,b5⟩
   obtain ⟨a5,c5,e5,-⟩:=o5.read
   rw [HL.out] at e5
   subst e5
   obtain ⟨w6,hw6⟩:∃ w6,w6=w5.alloc (.cells #[.int .u64 s,.slice a5 0 c5] 62):=⟨_,rfl⟩
   have G6:Blk w6 w5.heap.size 62 (lnA s (.slice a5 0 c5)):=by rw [hw6];exact Blk.new _ _ _
   have b6:Below w2.heap.size w2 w6:=by rw [hw6];exact b5.alloc b5.size _
   have o6:OwnT w6 w2.heap.size (.slice a5 0 c5) L:=by rw [hw6];exact World.ownsRow.alloc o5 _
   have k6:=Kept.of_below b6 (fun _=>False)
   have T6:Hd (Blk w6 (w.heap.size+1) 36 (tkA ⟨t0,t1,t2,t3,t4⟩)∧Blk w6 (w.heap.size+1+1) 62 (lnA 0 (.slice none 0 0))∧Below w.heap.size w w6∧OwnT w6 w2.heap.size (.slice a5 0 c5) L∧Blk w6 w5.heap.size 62 (lnA s (.slice a5 0 c5))∧w2.heap.size≤w6.heap.size∧w2.heap.size≤w5.heap.size∧w.heap.size+3≤w2.heap.size):=⟨H.out.2.1.kept k6 id,H.out.2.2.kept k6 id,H.out.1.trans (b6.mono H.out.1.size),o6,G6,b6.size,b5.size,by have:=H.out.2.2.lt;omega⟩
   obtain ⟨⟨r0,r1⟩,f0,f1⟩:=G6.lane
   have HG:Hd (∃ g,g=w5.heap.size):=⟨⟨_,rfl⟩⟩
   clear CC o5 b5 o6 k6 G6 b6 c0 c1 H
   go_upto_region 2 with fail
   rw [←hw6]
   clear hw6
   generalize w5.heap.size=g at *
   obtain ⟨w7,hw7⟩:∃ w7,w7=w6:=⟨_,rfl⟩
   have G7:Blk w7 g 62 (lnA s (.slice a5 0 c5)):=by
    rw [hw7];exact T6.out.2.2.2.2.1
   have k7:Kept (fun k=>k=g) w6 w7:=by rw [hw7];exact Kept.refl _ _
   have T7:Hd (Blk w7 (w.heap.size+1) 36 (tkA ⟨t0,t1,t2,t3,t4⟩)∧Blk w7 (w.heap.size+1+1) 62 (lnA 0 (.slice none 0 0))∧Below w.heap.size w w7∧OwnT w7 w2.heap.size (.slice a5 0 c5) L∧Blk w7 g 62 (lnA s (.slice a5 0 c5))∧w2.heap.size≤w7.heap.size):=by
    obtain ⟨x1,x2,x3,x4,x5,x6,x7,x8⟩:=T6.out
    refine ⟨x1.kept k7 (by omega),x2.kept k7 (by omega),x3.trans (k7.below x3.size (fun k e=>by omega)),?_,G7,Nat.le_trans x6 k7.size⟩
    refine ⟨x4.1,x4.2.imp id ?_⟩
    rintro ⟨q,cap,cur,e,hb,hq,rr⟩
    refine ⟨q,cap,cur,e,hb,?_,rr⟩
    have hlt:q<w6.heap.size:=by
     rcases Nat.lt_or_ge q w6.heap.size with h1 | h1
     ·exact h1
     ·rw [Array.getElem?_eq_none h1] at hq;cases hq
    rw [k7.block q hlt (by rintro rfl;exact x5.ne' hq (by decide) rfl)]
    exact hq
   have SZ:Hd (w2.heap.size≤g∧w.heap.size+3≤w2.heap.size):=⟨T6.out.2.2.2.2.2.2.1,T6.out.2.2.2.2.2.2.2⟩
   clear G7 k7 T6
   go_upto_region 4 with fail
   rw [←hw7]
   clear hw7 r0 r1 f0 f1
   obtain ⟨⟨r0,r1⟩,f0,f1⟩:=T7.out.2.2.2.2.1.lane
   obtain ⟨⟨d0,d1,d2,d3,d4⟩,-⟩:=T7.out.1.five
   simp only at d0 d1 d2 d3 d4
   have hz7:=T7.out.2.2.2.2.2
   have OA:Hd (OwnT (w7.alloc (.cells #[.int .i64 t0,.int .i64 t1,.int .i64 t2,.int .i64 t3,.int .i64 t4] 36)) w2.heap.size (.slice a5 0 c5) L):=⟨World.ownsRow.alloc T7.out.2.2.2.1 _⟩
   have SA:Hd (SlR (w7.alloc (.cells #[.int .i64 t0,.int .i64 t1,.int .i64 t2,.int .i64 t3,.int .i64 t4] 36)) (some ⟨w7.heap.size,0,none⟩) 1 [(⟨t0,t1,t2,t3,t4⟩:Tk)]):=⟨one_list (Blk.new w7 36 #[.int .i64 t0,.int .i64 t1,.int .i64 t2,.int .i64 t3,.int .i64 t4])⟩
   go_wp2_with (at_builtin;refine wpl_tks rfl _ _ rfl w2.heap.size _ L [(⟨t0,t1,t2,t3,t4⟩:Tk)] rfl OA.out (some ⟨w7.heap.size,0,none⟩) 1 1 rfl rfl SA.out (by have:=HL.out;simp;omega) (by simp;omega) ?_;intro v9 w9 o9 g9;obtain ⟨a9,c9,e9,⟨x1,x2,x3⟩,y1,y2,y3⟩:=tail18 (t:=⟨t0,t1,t2,t3,t4⟩) T7.out.2.2.1 SZ.out.2 T7.out.2.2.2.2.2 SZ.out.1 HL.out T7.out.2.2.2.2.1 T7.out.2.2.2.1 T7.out.2.1 o9 g9;subst e9;have Y:Hd (_∧_∧_):=⟨y1,y2,y3⟩;clear y1 y2 y3 o9 g9 r0 r1 f0 f1 d0 d1 d2 d3 d4;obtain ⟨⟨r0,r1⟩,f0,f1⟩:=x1.lane;obtain ⟨⟨s0,s1⟩,u0,u1⟩:=x2.lane;obtain ⟨⟨p0,p1⟩,o0,o1⟩:=x3.lane;clear x1 x2 x3)
   refine bodyPost_ret (resLn18 _ _ _ rfl Y.out.1) rfl ?_
   exact ⟨⟨_,rfl,by rw [HZ.out];exact Y.out.2.1⟩,Y.out.2.2⟩
 ·have HZ:Hd (jnS s r L=s):=⟨HJ.out.2.2 hn0⟩
  clear HJ
  go_enter Tryz.func69,Tryz.ntmps69
  go_upto_region 1 with fail
  rw [←hw2]
  clear hw2
  go_wp2_with fail
  go_at_call 64
  refine CC.mono ?_
  rintro e w5 ⟨⟨v5,rfl,o5⟩,b5⟩
  obtain ⟨a5,c5,e5,-⟩:=o5.read
  rw [HL.out] at e5
  subst e5
  obtain ⟨w6,hw6⟩:∃ w6,w6=w5.alloc (.cells #[.int .u64 s,.slice a5 n c5] 62):=⟨_,rfl⟩
  have G6:Blk w6 w5.heap.size 62 (lnA s (.slice a5 n c5)):=by rw [hw6];exact Blk.new _ _ _
  have b6:Below w2.heap.size w2 w6:=by rw [hw6];exact b5.alloc b5.size _
  have o6:OwnT w6 w2.heap.size (.slice a5 n c5) L:=by rw [hw6];exact World.ownsRow.alloc o5 _
  have k6:=Kept.of_below b6 (fun _=>False)
  have T6:Hd (Blk w6 (w.heap.size+1) 36 (tkA ⟨t0,t1,t2,t3,t4⟩)∧Blk w6 (w.heap.size+1+1) 62 (lnA 0 (.slice none 0 0))∧Below w.heap.size w w6∧OwnT w6 w2.heap.size (.slice a5 n c5) L∧Blk w6 w5.heap.size 62 (lnA s (.slice a5 n c5))∧w2.heap.size≤w6.heap.size∧w2.heap.size≤w5.heap.size∧w.heap.size+3≤w2.heap.size):=⟨H.out.2.1.kept k6 id,H.out.2.2.kept k6 id,H.out.1.trans (b6.mono H.out.1.size),o6,G6,b6.size,b5.size,by have:=H.out.2.2.lt;omega⟩
  obtain ⟨⟨r0,r1⟩,f0,f1⟩:=G6.lane
  have HG:Hd (∃ g,g=w5.heap.size):=⟨⟨_,rfl⟩⟩
  clear CC o5 b5 o6 k6 G6 b6 c0 c1 H
  go_upto_region 2 with fail
  rw [←hw6]
  clear hw6
  generalize w5.heap.size=g at *
  obtain ⟨w7,hw7⟩:∃ w7,w7=w6:=⟨_,rfl⟩
  have G7:Blk w7 g 62 (lnA s (.slice a5 n c5)):=by
   rw [hw7];exact T6.out.2.2.2.2.1
  have k7:Kept (fun k=>k=g) w6 w7:=by rw [hw7];exact Kept.refl _ _
  have T7:Hd (Blk w7 (w.heap.size+1) 36 (tkA ⟨t0,t1,t2,t3,t4⟩)∧Blk w7 (w.heap.size+1+1) 62 (lnA 0 (.slice none 0 0))∧Below w.heap.size w w7∧OwnT w7 w2.heap.size (.slice a5 n c5) L∧Blk w7 g 62 (lnA s (.slice a5 n c5))∧w2.heap.size≤w7.heap.size):=by
   obtain ⟨x1,x2,x3,x4,x5,x6,x7,x8⟩:=T6.out
   refine ⟨x1.kept k7 (by omega),x2.kept k7 (by omega),x3.trans (k7.below x3.size (fun k e=>by omega)),?_,G7,Nat.le_trans x6 k7.size⟩
   refine ⟨x4.1,x4.2.imp id ?_⟩
   rintro ⟨q,cap,cur,e,hb,hq,rr⟩
   refine ⟨q,cap,cur,e,hb,?_,rr⟩
   have hlt:q<w6.heap.size:=by
    rcases Nat.lt_or_ge q w6.heap.size with h1 | h1
    ·exact h1
    ·rw [Array.getElem?_eq_none h1] at hq;cases hq
   rw [k7.block q hlt (by rintro rfl;exact x5.ne' hq (by decide) rfl)]
   exact hq
  have SZ:Hd (w2.heap.size≤g∧w.heap.size+3≤w2.heap.size):=⟨T6.out.2.2.2.2.2.2.1,T6.out.2.2.2.2.2.2.2⟩
  clear G7 k7 T6
  go_upto_region 4 with fail
  rw [←hw7]
  clear hw7 r0 r1 f0 f1
  obtain ⟨⟨r0,r1⟩,f0,f1⟩:=T7.out.2.2.2.2.1.lane
  obtain ⟨⟨d0,d1,d2,d3,d4⟩,-⟩:=T7.out.1.five
  simp only at d0 d1 d2 d3 d4
  have hz7:=T7.out.2.2.2.2.2
  have OA:Hd (OwnT (w7.alloc (.cells #[.int .i64 t0,.int .i64 t1,.int .i64 t2,.int .i64 t3,.int .i64 t4] 36)) w2.heap.size (.slice a5 n c5) L):=⟨World.ownsRow.alloc T7.out.2.2.2.1 _⟩
  have SA:Hd (SlR (w7.alloc (.cells #[.int .i64 t0,.int .i64 t1,.int .i64 t2,.int .i64 t3,.int .i64 t4] 36)) (some ⟨w7.heap.size,0,none⟩) 1 [(⟨t0,t1,t2,t3,t4⟩:Tk)]):=⟨one_list (Blk.new w7 36 #[.int .i64 t0,.int .i64 t1,.int .i64 t2,.int .i64 t3,.int .i64 t4])⟩
  go_wp2_with (at_builtin;refine wpl_tks rfl _ _ rfl w2.heap.size _ L [(⟨t0,t1,t2,t3,t4⟩:Tk)] rfl OA.out (some ⟨w7.heap.size,0,none⟩) 1 1 rfl rfl SA.out (by have:=HL.out;simp;omega) (by simp;omega) ?_;intro v9 w9 o9 g9;obtain ⟨a9,c9,e9,⟨x1,x2,x3⟩,y1,y2,y3⟩:=tail18 (t:=⟨t0,t1,t2,t3,t4⟩) T7.out.2.2.1 SZ.out.2 T7.out.2.2.2.2.2 SZ.out.1 HL.out T7.out.2.2.2.2.1 T7.out.2.2.2.1 T7.out.2.1 o9 g9;subst e9;have Y:Hd (_∧_∧_):=⟨y1,y2,y3⟩;clear y1 y2 y3 o9 g9 r0 r1 f0 f1 d0 d1 d2 d3 d4;obtain ⟨⟨r0,r1⟩,f0,f1⟩:=x1.lane;obtain ⟨⟨s0,s1⟩,u0,u1⟩:=x2.lane;obtain ⟨⟨p0,p1⟩,o0,o1⟩:=x3.lane;clear x1 x2 x3)
  refine bodyPost_ret (resLn18 _ _ _ rfl Y.out.1) rfl ?_
  exact ⟨⟨_,rfl,by rw [HZ.out];exact Y.out.2.1⟩,Y.out.2.2⟩
end Go.Proofs.YtlgibnmoogbdcaaGreat
