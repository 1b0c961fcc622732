/-
  The first one of an ID: slices.IndexFunc, by the program.
  Who is dropped, by the program.
  Who is dropped, by the reference.
-/
import Derived.Test.YtlgibnmoogbdcaaGreatR5
import Derived.Shelf.Abstract
import Derived.Test.YtlgibnmoogbdcaaGreatR8
namespace Go.Proofs.YtlgibnmoogbdcaaGreat
open Go.RowKit
def fnd (id:Int):List Tk→Nat
 | []=>0
 | t :: L=>if t.id=id then 0 else fnd id L+1
theorem fnd_yes {id:Int} {t:Tk} {L:List Tk} (h:t.id=id):fnd id (t :: L)=0:=if_pos h
theorem fnd_next {id:Int} {t:Tk} {L:List Tk} (h:t.id≠id):fnd id (t :: L)=fnd id L+1:=if_neg h
theorem fnd_at (id:Int):∀ (L:List Tk) (k:Nat),k<L.length→(gt L k).id=id→(∀ j,j<k→(gt L j).id≠id)→fnd id L=k
 | [],k,h,_,_=>absurd h (Nat.not_lt_zero k)
 | t :: L,0,_,e,_=>fnd_yes e
 | t :: L,k+1,h,e,hn=>by
  rw [fnd_next (t:=t) (hn 0 (Nat.succ_pos k)),fnd_at id L k (by simpa using h) e (fun j hj=>hn (j+1) (by omega))]
theorem fnd_none (id:Int):∀ (L:List Tk),(∀ j,j<L.length→(gt L j).id≠id)→fnd id L=L.length
 | [],_=>rfl
 | t :: L,hn=>by
  rw [fnd_next (t:=t) (hn 0 (by simp)),fnd_none id L (fun j hj=>hn (j+1) (by simpa using hj))]
  rfl
def ixI (id:Int) (L:List Tk):Int:=if fnd id L<L.length then (fnd id L:Int) else -1
theorem ofI_ok (t:Tk) (id:Int) (g:Nat) (w:World) (hg:Blk w g 3 #[.int .i64 id]) :
  Calls Tryz.prog 94 #[.agg #[.int .i64 t.id,.int .i64 t.wid,.int .i64 t.sts,.int .i64 t.sin,.int .i64 t.unt],.pointer (some ⟨g,0,none⟩)] w fun e w'=>e=.returned (.bool (t.id == id))∧Below w.heap.size w w':=by
 obtain ⟨w1,hw1⟩:∃ w1,w1=w.alloc (.cells #[.int .i64 t.id,.int .i64 t.wid,.int .i64 t.sts,.int .i64 t.sin,.int .i64 t.unt] 36):=⟨_,rfl⟩
 have B:Hd (Below w.heap.size w w1):=⟨by rw [hw1];exact alloc_below _ _⟩
 have N1:Blk w1 w.heap.size 36 (tkA t):=by rw [hw1];exact Blk.new _ _ _
 have G1:Blk w1 g 3 #[.int .i64 id]:=by rw [hw1];exact hg.alloc _
 obtain ⟨⟨c0,c1,c2,c3,c4⟩,-⟩:=N1.five
 have g0:=G1.cellv (v:=.int .i64 id) 0 rfl
 clear N1 G1 hg c1 c2 c3 c4
 go_enter Tryz.func94,Tryz.ntmps94
 go_upto_region 1 with fail
 rw [←hw1]
 clear hw1
 go_wp2
 go_ret;exact ⟨rfl,B.out⟩
set_option maxRecDepth 20000 in
set_option maxHeartbeats 1000000 in
theorem index_ok (a:Option Addr) (c:Nat) (L:List Tk) (id:Int) (g:Nat) (w:World) (h:TkR w a L) (hl:L.length≤2000) (hg:Blk w g 3 #[.int .i64 id]) :
  Calls Tryz.prog 44 #[.slice a L.length c,.func (.func 94) #[] #[.pointer (some ⟨g,0,none⟩)]] w fun e w'=>e=.returned (.int .i64 (ixI id L))∧Below w.heap.size w w':=by
 have eg:∀ args w,(callFunc 94 args).run Tryz.prog w=.ok (.enter 94 args) w:=enters_of Tryz.func94 (by kernel_rfl) rfl
 have H:Hd (∀ W,Below w.heap.size w W→TkR W a L∧Blk W g 3 #[.int .i64 id]):=⟨fun W b=>⟨h.carry b,hg.kept (Kept.of_below b (fun _=>False)) (fun h=>h)⟩⟩
 obtain ⟨n,hn⟩:∃ n,L.length=n:=⟨_,rfl⟩
 have HL:Hd (L.length=n):=⟨hn⟩
 have HX:Hd ((∀ k,k<n→(gt L k).id=id→(∀ j,j<k→(gt L j).id≠id)→ixI id L=(k:Int))∧((∀ j,j<n→(gt L j).id≠id)→ixI id L=-1)):=⟨fun k hk e hno=>by
   unfold ixI;rw [fnd_at id L k (by omega) e hno,if_pos (by omega)],fun hno=>by
   unfold ixI;rw [fnd_none id L (fun j hj=>hno j (by omega)),if_neg (by omega)]⟩
 rw [hn] at hl ⊢
 clear hn h hg
 go_enter Tryz.func44,Tryz.ntmps44
 go_wp2_with fail
 go_loopw [8] (fun i wr=>∃ k:Nat,k≤n∧i=.int .i64 k∧Hd (∀ j,j<k→(gt L j).id≠id)∧Below w.heap.size w wr) (fun i _=>n - (intOf i).toNat)
 case atStart=>exact ⟨0,Nat.zero_le _,rfl,⟨fun j h=>absurd h (Nat.not_lt_zero _)⟩,Below.refl _ _⟩
 case round =>
  obtain ⟨k,hk,rfl,hno,hb⟩:=hrel
  by_cases hlt:k<n
  ·obtain ⟨hR,hG⟩:=H.out wr hb
   obtain ⟨b,off,rfl,-,d0,d1,d2,d3,d4⟩:=hR.at (k:=k) (by rw [HL.out];exact hlt)
   have I:=ofI_ok (gt L k) id g wr hG
   have BB:Hd (Below w.heap.size w wr):=⟨hb⟩
   clear hR hG hb
   have HT:Hd ((gt L k).id=id→ixI id L=(k:Int)):=⟨fun e=>HX.out.1 k hlt e hno.out⟩
   have HF:Hd ((gt L k).id≠id→∀ j,j<k+1→(gt L j).id≠id):=⟨fun e j hj=>by
    rcases Nat.lt_or_eq_of_le (Nat.le_of_lt_succ hj) with h1 | h1
    ·exact hno.out j h1
    ·subst h1;exact e⟩
   clear hno
   by_cases e:(gt L k).id=id
   ·have A:Hd (ixI id L=(k:Int)):=⟨HT.out e⟩
    rw [show ((gt L k).id == id)=true from by simpa using e] at I
    clear HT HF
    generalize gt L k=z at *
    obtain ⟨z0,z1,z2,z3,z4⟩:=z
    simp only at d0 d1 d2 d3 d4 I
    clear e
    go_wp2_with (go_at_fn 94;refine I.mono ?_;rintro e w2 ⟨rfl,h2⟩)
    go_ret
    exact ⟨by rw [A.out];rfl,BB.out.trans (h2.mono BB.out.size)⟩
   ·have A:Hd (∀ j,j<k+1→(gt L j).id≠id):=⟨HF.out e⟩
    rw [show ((gt L k).id == id)=false from by simpa using e] at I
    clear HT HF
    generalize gt L k=z at *
    obtain ⟨z0,z1,z2,z3,z4⟩:=z
    simp only at d0 d1 d2 d3 d4 I
    clear e
    go_wp2_with (go_at_fn 94;refine I.mono ?_;rintro e w2 ⟨rfl,h2⟩)
    go_roundw
    case rel=>exact ⟨k+1,by omega,by go_num,A,BB.out.trans (h2.mono BB.out.size)⟩
    case measure=>simp [intOf];omega
  ·obtain rfl:k=n:=by omega
   have A:Hd (ixI id L=-1):=⟨HX.out.2 hno.out⟩
   clear hno
   go_wp2_with fail
   go_ret
   exact ⟨by rw [A.out];rfl,hb⟩
theorem gt_out:∀ (L:List Tk) (k:Nat),L.length≤k→gt L k=tkZ
 | [],_,_=>rfl
 | _ :: L,0,h=>absurd h (by simp)
 | t :: L,k+1,h=>by rw [gt_cons_succ];exact gt_out L k (by simpa using h)
def drL (id:Int) (L:List Tk):List Tk:=L.take (fnd id L)++L.drop (fnd id L+1)
def drT (id:Int) (L:List Tk):Tk:=gt L (fnd id L)
def drB (id:Int) (L:List Tk):Bool:=decide (fnd id L<L.length)
theorem drL_no {id:Int} {L:List Tk} (h:¬ fnd id L<L.length):drL id L=L:=by
 unfold drL
 rw [List.take_of_length_le (by omega),List.drop_eq_nil_of_le (by omega),List.append_nil]
theorem drT_no {id:Int} {L:List Tk} (h:¬ fnd id L<L.length):drT id L=tkZ:=gt_out L _ (by omega)
theorem drB_no {id:Int} {L:List Tk} (h:¬ fnd id L<L.length):drB id L=false:=decide_eq_false h
theorem drB_yes {id:Int} {L:List Tk} (h:fnd id L<L.length):drB id L=true:=decide_eq_true h
theorem drL_len (id:Int) (L:List Tk):(drL id L).length≤L.length:=by unfold drL;simp;omega
theorem boxes4 (w:World) (t1 t2 t3 t4:Nat) (x y z u:Array Value):Below w.heap.size w ((((w.alloc (.cells x t1)).alloc (.cells y t2)).alloc (.cells z t3)).alloc (.cells u t4))∧Blk ((((w.alloc (.cells x t1)).alloc (.cells y t2)).alloc (.cells z t3)).alloc (.cells u t4)) w.heap.size t1 x∧Blk ((((w.alloc (.cells x t1)).alloc (.cells y t2)).alloc (.cells z t3)).alloc (.cells u t4)) (w.heap.size+1) t2 y∧Blk ((((w.alloc (.cells x t1)).alloc (.cells y t2)).alloc (.cells z t3)).alloc (.cells u t4)) (w.heap.size+1+1) t3 z∧Blk ((((w.alloc (.cells x t1)).alloc (.cells y t2)).alloc (.cells z t3)).alloc (.cells u t4)) (w.heap.size+1+1+1) t4 u:=by
 obtain ⟨B,N1,N2,N3⟩:=boxes3 w t1 t2 t3 x y z
 refine ⟨B.alloc B.size _,N1.alloc _,N2.alloc _,N3.alloc _,?_⟩
 have:=Blk.new (((w.alloc (.cells x t1)).alloc (.cells y t2)).alloc (.cells z t3)) t4 u
 rw [show (((w.alloc (.cells x t1)).alloc (.cells y t2)).alloc (.cells z t3)).heap.size=w.heap.size+1+1+1 from by simp] at this
 exact this
set_option maxRecDepth 20000 in
set_option maxHeartbeats 2000000 in
theorem drop_ok (s:Int) (a:Option Addr) (c:Nat) (L:List Tk) (id:Int) (w:World) (h:SlR w a c L) (hl:L.length≤2000) :
  Calls Tryz.prog 81 #[.agg #[.int .u64 s,.slice a L.length c],.int .i64 id] w fun e w'=>(∃ v,e=.returned (.tuple #[v,.agg #[.int .i64 (drT id L).id,.int .i64 (drT id L).wid,.int .i64 (drT id L).sts,.int .i64 (drT id L).sin,.int .i64 (drT id L).unt],.bool (drB id L)])∧LnW w' w.heap.size s (drL id L) v (drB id L))∧Below w.heap.size w w':=by
 obtain ⟨w2,hw2⟩:∃ w2,w2=(((w.alloc (.cells #[.int .u64 s,.slice a L.length c] 62)).alloc (.cells #[.int .i64 id] 3)).alloc (.cells #[.int .u64 0,.slice none 0 0] 62)).alloc (.cells #[.int .i64 0,.int .i64 0,.int .i64 0,.int .i64 0,.int .i64 0] 36):=⟨_,rfl⟩
 have BX:=boxes4 w 62 3 62 36 #[.int .u64 s,.slice a L.length c] #[.int .i64 id] #[.int .u64 0,.slice none 0 0] #[.int .i64 0,.int .i64 0,.int .i64 0,.int .i64 0,.int .i64 0]
 rw [←hw2] at BX
 obtain ⟨B,N1,N0,N2,N3⟩:=BX
 have F:=index_ok a c L id (w.heap.size+1) w2 (h.carry B).2.2 hl N0
 obtain ⟨⟨c0,c1⟩,-⟩:=Blk.lane N1
 have H:Hd (∀ W,Below w2.heap.size w2 W→Blk W w.heap.size 62 (lnA s (.slice a L.length c))∧Blk W (w.heap.size+1+1) 62 (lnA 0 (.slice none 0 0))∧Blk W (w.heap.size+1+1+1) 36 (tkA tkZ)∧SlR W a c L∧Below w.heap.size w W):=⟨fun W b=>⟨N1.kept (Kept.of_below b (fun _=>False)) (fun h=>h),N2.kept (Kept.of_below b (fun _=>False)) (fun h=>h),N3.kept (Kept.of_below b (fun _=>False)) (fun h=>h),(h.carry B).carry b,B.trans (b.mono B.size)⟩⟩
 have HZ:Hd (w.heap.size+1+1+1<w2.heap.size):=⟨N3.lt⟩
 clear N0 N1 N2 N3 B h
 by_cases hn:fnd id L<L.length
 ·have hx:ixI id L=(fnd id L:Int):=by unfold ixI;rw [if_pos hn]
  rw [hx] at F
  rw [drB_yes hn]
  have hi:(fnd id L:Int)<0→False:=by omega
  have WO:Hd (∀ W,SlR W a c L→Calls Tryz.prog 91 #[.agg #[.int .u64 s,.slice a L.length c],.int .i64 (fnd id L:Int)] W fun e w'=>(∃ v,e=.returned (.tuple #[.agg #[.int .u64 s,v],.agg #[.int .i64 (drT id L).id,.int .i64 (drT id L).wid,.int .i64 (drT id L).sts,.int .i64 (drT id L).sin,.int .i64 (drT id L).unt]])∧OwnT w' W.heap.size v (drL id L))∧Below W.heap.size W w'):=⟨fun W q=>without_ok s a c (fnd id L) L W q hl hn⟩
  clear hx hi
  generalize drL id L=D at *
  generalize drT id L=t at *
  obtain ⟨t0,t1,t2,t3,t4⟩:=t
  simp only at *
  generalize fnd id L=k at *
  obtain ⟨n,hn'⟩:∃ n,n=L.length:=⟨_,rfl⟩
  rw [←hn'] at hw2 hl F H WO hn c1 ⊢
  clear hn'
  go_enter Tryz.func81,Tryz.ntmps81
  go_upto_region 1 with fail
  rw [←hw2]
  clear hw2
  go_upto_region 2 with (go_at_call 44;refine F.mono ?_;rintro e w3 ⟨rfl,b3⟩)
  obtain ⟨x1,x2,x3,x4,x5⟩:=H.out w3 b3
  have CP:=WO.out w3 x4
  clear c0 c1 F x2 x3 x4 x5 WO
  obtain ⟨⟨c0,c1⟩,-⟩:=x1.lane
  have HB:Hd (Below w2.heap.size w2 w3):=⟨b3⟩
  clear b3 x1
  go_wp2_with fail
  go_at_call 91
  refine CP.mono ?_
  rintro e w4 ⟨⟨v,rfl,o4⟩,b4⟩
  have b24:=HB.out.trans (b4.mono HB.out.size)
  obtain ⟨a4,c4,e4,-⟩:=o4.read
  obtain ⟨m,hm⟩:∃ m,m=D.length:=⟨_,rfl⟩
  rw [←hm] at e4
  subst e4
  have HM:Hd (m=D.length):=⟨hm⟩
  clear hm
  obtain ⟨BY,Y1,Y2⟩:=boxes w4 62 36 #[.int .u64 s,.slice a4 m c4] #[.int .i64 t0,.int .i64 t1,.int .i64 t2,.int .i64 t3,.int .i64 t4]
  obtain ⟨w5,hw5⟩:∃ w5,w5=(w4.alloc (.cells #[.int .u64 s,.slice a4 m c4] 62)).alloc (.cells #[.int .i64 t0,.int .i64 t1,.int .i64 t2,.int .i64 t3,.int .i64 t4] 36):=⟨_,rfl⟩
  rw [←hw5] at BY Y1 Y2
  have o5:OwnT w5 w3.heap.size (.slice a4 m c4) D:=by rw [hw5];exact World.ownsRow.alloc (World.ownsRow.alloc o4 _) _
  have b25:=b24.trans (BY.mono b24.size)
  obtain ⟨-,x2,x3,-,x5⟩:=H.out w5 b25
  have H6:LastT w w5 w.heap.size (w.heap.size+1) w4.heap.size w3.heap.size s (.slice a4 m c4) ⟨t0,t1,t2,t3,t4⟩ D:=⟨Y1,Y2,o5,x2,x3,x5,Nat.le_succ _,by have:=HZ.out;have:=HB.out.size;omega,b4.size⟩
  clear c0 c1 CP b4 b24 BY Y1 Y2 o4 o5 b25 HB x2 x3 x5 H HZ
  go_upto_region 5 with fail
  rw [←hw5]
  clear hw5
  obtain ⟨w6,hw6⟩:∃ w6,w6=w5:=⟨_,rfl⟩
  rw [←hw6] at H6 ⊢
  clear hw6
  generalize w4.heap.size=g4 at *
  generalize w3.heap.size=g3 at *
  obtain ⟨A0,hA⟩:∃ A0,A0=w.heap.size:=⟨_,rfl⟩
  have HA:Hd (A0=w.heap.size):=⟨hA⟩
  rw [←hA] at H6 ⊢
  clear hA
  have H7:LastT w w6.drew A0 (A0+1) g4 g3 s (.slice a4 m c4) ⟨t0,t1,t2,t3,t4⟩ D:=H6.drew
  clear H6
  refine AnyG.start (T:=fun W=>Kept (fun k=>k=A0+1+1∨k=A0+1+1+1) w6.drew W) (U:=fun _=>True) (j0:=100) (by kernel_rfl) ?_
  generalize w6.drew=w7 at *
  have R:Kept (fun k=>k=A0+1+1∨k=A0+1+1+1) w7 w7:=Kept.refl _ _
  have X0:Hd (∀ W,Kept (fun k=>k=A0+1+1∨k=A0+1+1+1) w7 W→W.cell? ⟨g4,0,none⟩=some (.int .u64 s)∧W.cell? ⟨g4,1,none⟩=some (.slice a4 m c4)):=⟨fun W q=>(H7.ln.kept q (by have:=H7.lo;have:=H7.mid;omega)).lane.1⟩
  have X1:Hd (∀ W,Kept (fun k=>k=A0+1+1∨k=A0+1+1+1) w7 W→W.cell? ⟨g4+1,0,none⟩=some (.int .i64 t0)∧W.cell? ⟨g4+1,1,none⟩=some (.int .i64 t1)∧W.cell? ⟨g4+1,2,none⟩=some (.int .i64 t2)∧W.cell? ⟨g4+1,3,none⟩=some (.int .i64 t3)∧W.cell? ⟨g4+1,4,none⟩=some (.int .i64 t4)):=⟨fun W q=>(H7.tk.kept q (by have:=H7.lo;have:=H7.mid;omega)).five.1⟩
  obtain ⟨q1,q2,q3⟩:=two_put H7.r1 H7.r2 s (.slice a4 m c4) ⟨t0,t1,t2,t3,t4⟩
  obtain ⟨q1',q3'⟩:=lane_set H7.r1 s (.slice a4 m c4)
  have P3:=H7.r2.kept q3' (by omega)
  obtain ⟨⟨r0,r1⟩,f0,f1⟩:=H7.r1.lane
  obtain ⟨⟨d0,d1,d2,d3,d4⟩,e0,e1,e2,e3,e4⟩:=P3.five
  simp only at q1 q2 q3
  refine .tq 0 25 R ?_ (hy:=fun w hSw=>by have s:=X0.out w hSw;go_simp;rfl);simp only [oqA,oqB,oqC]
  refine .tq 1 26 R ?_ (hy:=fun w hSw=>by have s:=X1.out w hSw;go_simp;rfl);simp only [oqA,oqB,oqC]
  refine AnyG.ready (rs:=[2]) (by kernel_rfl) (by simp) ?_
  refine AllG.cons rfl (fun K hK=>?_) AllG.nil
  go_simp
  refine hK.out _ _ ⟨q3'.mono (fun k _ e=>.inl e),fun _=>trivial⟩ ?_
  clear hK K
  refine AnyG.ready (rs:=[3]) (by kernel_rfl) (by simp) ?_
  refine AllG.cons rfl (fun K hK=>?_) AllG.nil
  go_simp
  refine hK.out _ _ ⟨q3,fun _=>trivial⟩ ?_
  clear hK K
  refine AnyG.ready (rs:=[4]) (by kernel_rfl) (by simp) ?_
  refine AllG.cons rfl (fun K hK=>?_) AllG.nil
  go_simp
  refine hK.out _ _ ⟨q3,fun _=>trivial⟩ ?_
  clear hK K
  refine AnyG.done (by kernel_rfl) ?_ _
  have HLO:Hd (A0≤g3):=⟨by have:=H7.lo;omega⟩
  have o8:=H7.own.kept q3 (fun j hj e=>by have:=H7.lo;omega)
  have b8:=H7.bel.trans (q3.below (B:=A0) (by have:=H7.r1.lt;omega) (fun k e=>by omega))
  have HR:Hd (_∧_∧_∧_):=⟨q1,q2,o8.lnW (b:=true) (s:=s) (B:=A0) HM.out (by have:=HLO.out;omega),b8⟩
  clear q1 q2 q3 q1' q3' P3 r0 r1 f0 f1 d0 d1 d2 d3 d4 e0 e1 e2 e3 e4 o8 b8 H7 R X0 X1
  go_wp2_with fail
  refine bodyPost_ret (resTk12 (t:=⟨t0,t1,t2,t3,t4⟩) _ _ _ _ true rfl rfl rfl HR.out.1 HR.out.2.1) rfl ?_
  exact ⟨⟨_,rfl,by rw [←HA.out];exact HR.out.2.2.1⟩,by rw [←HA.out];exact HR.out.2.2.2⟩
 ·have hx:ixI id L=-1:=by unfold ixI;rw [if_neg hn]
  rw [hx] at F
  rw [drB_no hn,drT_no hn,drL_no hn]
  simp only [tkZ]
  have CPH:Hd (∀ W,SlR W a c L→Calls Tryz.prog 90 #[.agg #[.int .u64 s,.slice a L.length c]] W fun e w'=>(∃ v,e=.returned (.agg #[.int .u64 s,v])∧OwnT w' W.heap.size v L)∧Below W.heap.size W w'):=⟨fun W q=>copied_ok s a c L W q hl⟩
  clear hx hn
  obtain ⟨n,hn'⟩:∃ n,n=L.length:=⟨_,rfl⟩
  have HN:Hd (n=L.length):=⟨hn'⟩
  rw [←hn'] at hw2 hl F H c1 CPH ⊢
  clear hn'
  go_enter Tryz.func81,Tryz.ntmps81
  go_upto_region 1 with fail
  rw [←hw2]
  clear hw2
  go_upto_region 2 with (go_at_call 44;refine F.mono ?_;rintro e w3 ⟨rfl,b3⟩)
  obtain ⟨x1,x2,x3,x4,x5⟩:=H.out w3 b3
  have CP:=CPH.out w3 x4
  clear c0 c1 F x2 x3 x4 x5 CPH
  obtain ⟨⟨c0,c1⟩,-⟩:=x1.lane
  have HB:Hd (Below w2.heap.size w2 w3):=⟨b3⟩
  clear b3 x1
  go_wp2_with fail
  go_at_call 90
  refine CP.mono ?_
  rintro e w4 ⟨⟨v,rfl,o4⟩,b4⟩
  have b24:=HB.out.trans (b4.mono HB.out.size)
  obtain ⟨-,x2,x3,-,x5⟩:=H.out w4 b24
  obtain ⟨a4,c4,e4,-⟩:=o4.read
  rw [←HN.out] at e4
  subst e4
  obtain ⟨q1,q2,q3⟩:=two_put x2 x3 s (.slice a4 n c4) tkZ
  obtain ⟨⟨r0,r1⟩,f0,f1⟩:=x2.lane
  obtain ⟨⟨d0,d1,d2,d3,d4⟩,e0,e1,e2,e3,e4⟩:=x3.five
  have o5:=o4.kept q3 (fun j hj e=>by have:=HZ.out;have:=HB.out.size;omega)
  have Q:Hd (_∧_∧_∧_):=⟨q1,q2,o5,x5.trans (q3.below x5.size (fun k e=>by omega))⟩
  clear c0 c1 CP x2 x3 x5 q1 q2 q3 o4 o5 b4 b24 H
  simp only [tkZ] at Q d0 d1 d2 d3 d4
  go_wp2_with fail
  refine bodyPost_ret (resTk12 (t:=tkZ) _ _ _ _ false rfl rfl rfl Q.out.1 Q.out.2.1) rfl ?_
  refine ⟨⟨_,rfl,?_⟩,Q.out.2.2.2⟩
  exact Q.out.2.2.1.lnW HN.out (by have:=HZ.out;have:=HB.out.size;omega)
structure DrW (w W:World) (A g B b off c n:Nat) (s:Int) (v:Value) (X L:List Tk):Prop where
 ln:Blk W g 62 (lnA s v)
 own:OwnT W B v X
 ar:Blk W A 62 (lnA s (.slice (some ⟨b,off,none⟩) n c))
 r1:Blk W (A+1) 62 (lnA 0 (.slice none 0 0))
 r2:Blk W (A+1+1) 36 (tkA tkZ)
 bel:Below A w W
 sl:SlR W (some ⟨b,off,none⟩) c L
 hb:b<A
 lo:A+1+1<g
 mid:g<B
 hi:B≤W.heap.size
section
variable {w W:World} {A g B b off c n:Nat} {s:Int} {v:Value} {X L:List Tk}
theorem DrW.drew (h:DrW w W A g B b off c n s v X L):DrW w W.drew A g B b off c n s v X L :=
 ⟨h.ln,h.own,h.ar,h.r1,h.r2,h.bel.drew,h.sl.carry (Below.refl _ _).drew,h.hb,h.lo,h.mid,h.hi⟩
theorem DrW.next (h:DrW w W A g B b off c n s v X L) {W':World} {v':Value} {X':List Tk} (o:OwnT W' B v' X') (q:W.grownBy W' v.ownBlock) :
  Blk W' g 62 (lnA s v)∧DrW w (W'.setCell ⟨g,1,none⟩ v') A g B b off c n s v' X' L:=by
 have K:Kept (fun k=>v.ownBlock=some k) W W':=Kept.of_grown q (fun k e=>e)
 have lo:=h.lo
 have mid:=h.mid
 have hb:=h.hb
 have off':∀ k,v.ownBlock=some k→B≤k:=fun k e=>(h.own.lt k e).1
 have L1:=h.ln.kept K (fun e=>by have:=off' _ e;omega)
 have k1:Kept (fun k=>k=g) W' (W'.setCell ⟨g,1,none⟩ v'):=(Kept.refl _ _).setCell _ _ (.inl rfl)
 refine ⟨L1,?_,o.other L1 k1,(h.ar.kept K (fun e=>by have:=off' _ e;omega)).kept k1 (by omega),(h.r1.kept K (fun e=>by have:=off' _ e;omega)).kept k1 (by omega),(h.r2.kept K (fun e=>by have:=off' _ e;omega)).kept k1 (by omega),?_,?_,hb,lo,mid,?_⟩
 ·have:=L1.set 1 v'
  simpa [lnA] using this
 ·exact (h.bel.grown q (by have:=h.hi;omega) (fun k e=>by have:=off' _ e;omega)).trans (k1.below (by have:=h.hi;have:=q.size;omega) (fun k e=>by omega))
 ·exact (h.sl.keep K (fun b' o' e _ e2=>by have:=off' _ e2;cases e;omega)).keep k1 (fun b' o' e _ e2=>by cases e;omega)
 ·have:=h.hi;have:=q.size;simp;omega
end
set_option maxRecDepth 20000 in
set_option maxHeartbeats 2000000 in
theorem rdrop_ok (s:Int) (a:Option Addr) (c:Nat) (L:List Tk) (id:Int) (w:World) (h:SlR w a c L) (hl:L.length≤2000) :
  Calls Tryz.prog 82 #[.agg #[.int .u64 s,.slice a L.length c],.int .i64 id] w fun e w'=>(∃ v,e=.returned (.tuple #[v,.agg #[.int .i64 (drT id L).id,.int .i64 (drT id L).wid,.int .i64 (drT id L).sts,.int .i64 (drT id L).sin,.int .i64 (drT id L).unt],.bool (drB id L)])∧LnW w' w.heap.size s (drL id L) v (drB id L))∧Below w.heap.size w w':=by
 obtain ⟨w2,hw2⟩:∃ w2,w2=((w.alloc (.cells #[.int .u64 s,.slice a L.length c] 62)).alloc (.cells #[.int .u64 0,.slice none 0 0] 62)).alloc (.cells #[.int .i64 0,.int .i64 0,.int .i64 0,.int .i64 0,.int .i64 0] 36):=⟨_,rfl⟩
 have BX:=boxes3 w 62 62 36 #[.int .u64 s,.slice a L.length c] #[.int .u64 0,.slice none 0 0] #[.int .i64 0,.int .i64 0,.int .i64 0,.int .i64 0,.int .i64 0]
 rw [←hw2] at BX
 obtain ⟨B,N1,N2,N3⟩:=BX
 obtain ⟨⟨c0,c1⟩,-⟩:=Blk.lane N1
 have H:Hd (Blk w2 w.heap.size 62 (lnA s (.slice a L.length c))∧Blk w2 (w.heap.size+1) 62 (lnA 0 (.slice none 0 0))∧Blk w2 (w.heap.size+1+1) 36 (tkA tkZ)∧SlR w2 a c L∧Below w.heap.size w w2∧SlR w a c L):=⟨N1,N2,N3,h.carry B,B,h⟩
 obtain ⟨n,hn⟩:∃ n,L.length=n:=⟨_,rfl⟩
 have HL:Hd (L.length=n):=⟨hn⟩
 have HX:Hd ((∀ k,k<n→(gt L k).id=id→(∀ j,j<k→(gt L j).id≠id)→fnd id L=k)∧((∀ j,j<n→(gt L j).id≠id)→¬ fnd id L<L.length)):=⟨fun k hk e hno=>fnd_at id L k (by omega) e hno,fun hno=>by rw [fnd_none id L (fun j hj=>hno j (by omega))];omega⟩
 rw [hn] at hl c1 hw2 H ⊢
 clear hn h N1 N2 N3 B
 go_enter Tryz.func82,Tryz.ntmps82
 go_upto_region 1 with fail
 rw [←hw2]
 clear hw2
 go_wp2_with fail
 go_loopw [7] (fun i wr=>∃ k:Nat,k≤n∧i=.int .i64 k∧Hd (∀ j,j<k→(gt L j).id≠id)∧wr=w2) (fun i _=>n - (intOf i).toNat)
 case atStart=>exact ⟨0,Nat.zero_le _,rfl,⟨fun j h=>absurd h (Nat.not_lt_zero _)⟩,rfl⟩
 case round =>
  obtain ⟨k,hk,rfl,hno,rfl⟩:=hrel
  by_cases hlt:k<n
  ·obtain ⟨b,off,ea,-,d0,-,-,-,-⟩:=H.out.2.2.2.1.2.2.at (k:=k) (by rw [HL.out];exact hlt)
   by_cases e:(gt L k).id=id
   ·have hf:=HX.out.1 k hlt e hno.out
    have KT:Hd (drT id L=gt L k∧drB id L=true∧drL id L=L.take k++L.drop (k+1)):=⟨by unfold drT;rw [hf],drB_yes (by rw [hf,HL.out];exact hlt),by unfold drL;rw [hf]⟩
    subst ea
    obtain ⟨b',off',ea,hb,-⟩:=H.out.2.2.2.2.2.2.2.at (k:=k) (by rw [HL.out];exact hlt)
    cases ea
    obtain ⟨w3,hw3⟩:∃ w3,w3=wr.alloc (.cells #[.int .u64 s,.slice none 0 0] 62):=⟨_,rfl⟩
    have D3:DrW w w3 w.heap.size wr.heap.size (wr.heap.size+1) b off c n s (.slice none 0 0) [] L:=by
     obtain ⟨z1,z2,z3,z4,z5,-⟩:=H.out
     rw [hw3]
     refine ⟨Blk.new _ _ _,World.ownsRow_nil _ _ _ _,z1.alloc _,z2.alloc _,z3.alloc _,z5.alloc z5.size _,z4.carry (alloc_below _ _),hb,z3.lt,Nat.lt_succ_self _,by simp⟩
    have D3':=D3.drew
    have hid:(gt L k).id=id:=e
    have TA:Hd (SlR w3.drew (some ⟨b,off,none⟩) c (L.take k)):=⟨D3'.sl.take k⟩
    have TL:Hd ((L.take k).length=k∧(L.drop (k+1)).length=n - (k+1)):=⟨by have:=HL.out;simp;omega,by have:=HL.out;simp;omega⟩
    have hc:=D3.sl.1
    rw [HL.out] at hc
    rw [e] at d0
    have HD3:Hd (DrW w w3.drew w.heap.size wr.heap.size (wr.heap.size+1) b off c n s (.slice none 0 0) [] L):=⟨D3'⟩
    clear D3 D3' H HX hno e hb hf
    go_upto_region 6 with fail
    rw [←hw3]
    clear hw3 c0 c1 d0
    refine region_tail 6 (by kernel_rfl) ?_
    simp only [List.take_succ_cons,List.take_zero,List.drop_succ_cons,List.drop_zero]
    generalize w3.drew=w4 at *
    obtain ⟨A,hA⟩:∃ A,A=w.heap.size:=⟨_,rfl⟩
    have HA:Hd (A=w.heap.size):=⟨hA⟩
    rw [←hA] at HD3 ⊢
    clear hA
    generalize wr.heap.size=g at *
    obtain ⟨⟨m0,m1⟩,n0,n1⟩:=HD3.out.ln.lane
    obtain ⟨⟨c0,c1⟩,-⟩:=HD3.out.ar.lane
    have hkc:k≤c:=by omega
    repeat still_step
    refine wpStill_nil ?_
    go_wp2_with (at_builtin;refine wpl_tks rfl _ _ rfl (g+1) _ [] (L.take k) rfl HD3.out.own (some ⟨b,off,none⟩) k c TL.out.1 rfl TA.out (by have:=TL.out.1;simp;omega) HD3.out.hi ?_;intro v5 w5 o5 g5;obtain ⟨a5,c5,e5,-⟩:=o5.read;rw [List.nil_append,TL.out.1] at e5;subst e5;obtain ⟨L5,D5⟩:=HD3.out.next o5 g5;have H5:Hd _:=⟨D5⟩;clear m0 m1 n0 n1 c0 c1;obtain ⟨⟨m0,m1⟩,n0,n1⟩:=L5.lane;clear L5 g5 o5 D5)
    have D6:=H5.out.drew
    rw [List.nil_append] at D6
    have H6:Hd _:=⟨D6⟩
    clear H5 D6 HD3 TA m0 m1 n0 n1
    go_upto_region 7 with fail
    generalize w5.setCell ⟨g,1,none⟩ (.slice a5 k c5)=w6 at *
    have TB:Hd (SlR w6.drew (some (if c=k+1 then ⟨b,off,none⟩ else ⟨b,off+(k+1)*5,none⟩)) (c - (k+1)) (L.drop (k+1))):=⟨H6.out.sl.drop (k+1) (by rw [HL.out];exact hlt)⟩
    obtain ⟨x2,hx2⟩:∃ x2,x2=(if c=k+1 then (⟨b,off,none⟩:Addr) else ⟨b,off+(k+1)*5,none⟩):=⟨_,rfl⟩
    rw [←hx2] at TB
    have hx3:(if c=k+1 then some (⟨b,off,none⟩:Addr) else some ⟨b,off+(k+1)*5,none⟩)=some x2:=by rw [hx2];split <;> rfl
    clear hx2
    have hwr:IntKind.i64.wrap ((k:Int)+1)=(k:Int)+1:=by rw [IntKind.wrap_i64];omega
    have hk1:(k:Int)+1≤(n:Int):=by omega
    have hk0:(0:Int)≤(k:Int)+1:=by omega
    refine region_tail 7 (by kernel_rfl) ?_
    simp only [List.take_succ_cons,List.take_zero,List.drop_succ_cons,List.drop_zero]
    generalize w6.drew=w7 at *
    obtain ⟨⟨m0,m1⟩,n0,n1⟩:=H6.out.ln.lane
    obtain ⟨⟨c0,c1⟩,-⟩:=H6.out.ar.lane
    repeat still_step
    refine wpStill_nil ?_
    go_wp2_with (at_builtin;refine wpl_tks rfl _ _ rfl (g+1) _ (L.take k) (L.drop (k+1)) rfl H6.out.own (some x2) (n - (k+1)) (c - (k+1)) TL.out.2 rfl TB.out (by have:=TL.out.1;have:=TL.out.2;omega) H6.out.hi ?_;intro v8 w8 o8 g8;obtain ⟨m8,hm8⟩:∃ m8,m8=(L.take k++L.drop (k+1)).length:=⟨_,rfl⟩;obtain ⟨a8,c8,e8,-⟩:=o8.read;rw [←hm8] at e8;subst e8;have HM:Hd (m8=(L.take k++L.drop (k+1)).length):=⟨hm8⟩;clear hm8;obtain ⟨L8,D8⟩:=H6.out.next o8 g8;have H8:Hd _:=⟨D8⟩;clear m0 m1 n0 n1 c0 c1;obtain ⟨⟨m0,m1⟩,n0,n1⟩:=L8.lane;clear L8 g8 o8 D8)
    have D9:=H8.out.drew
    clear H8 H6 TB m0 m1 n0 n1 hx3 hwr hk1 hk0 hkc
    obtain ⟨b',off',ea,-,e0,e1,e2,e3,e4⟩:=D9.sl.2.2.at (k:=k) (by rw [HL.out];exact hlt)
    cases ea
    have TE:Hd (drT id L=gt L k):=⟨KT.out.1⟩
    generalize gt L k=t at *
    obtain ⟨t0,t1,t2,t3,t4⟩:=t
    simp only at e0 e1 e2 e3 e4
    clear hid
    go_upto_region 8 with fail
    generalize w8.setCell ⟨g,1,none⟩ (.slice a8 m8 c8)=w9 at *
    refine AnyG.start (T:=fun W=>Kept (fun k=>k=A+1∨k=A+1+1) w9.drew W) (U:=fun _=>True) (j0:=100) (by kernel_rfl) ?_
    generalize w9.drew=w7 at *
    have R:Kept (fun k=>k=A+1∨k=A+1+1) w7 w7:=Kept.refl _ _
    have X0:Hd (∀ W,Kept (fun k=>k=A+1∨k=A+1+1) w7 W→W.cell? ⟨g,0,none⟩=some (.int .u64 s)∧W.cell? ⟨g,1,none⟩=some (.slice a8 m8 c8)):=⟨fun W q=>(D9.ln.kept q (by have:=D9.lo;omega)).lane.1⟩
    have X1:Hd (∀ W,Kept (fun k=>k=A+1∨k=A+1+1) w7 W→W.cell? ⟨A,1,none⟩=some (.slice (some ⟨b,off,none⟩) n c)):=⟨fun W q=>(D9.ar.kept q (by omega)).lane.1.2⟩
    have hbl:b<w7.heap.size:=by have:=D9.hb;have:=D9.r1.lt;omega
    have XB:∀ (W:World) (j:Nat),Kept (fun k=>k=A+1∨k=A+1+1) w7 W→W.cell? ⟨b,j,none⟩=w7.cell? ⟨b,j,none⟩:=fun W j q=>World.cell?_of_block (q.block b hbl (by have:=D9.hb;omega))
    have X2:Hd (∀ W,Kept (fun k=>k=A+1∨k=A+1+1) w7 W→W.cell? ⟨b,off+k*5,none⟩=some (.int .i64 t0)∧W.cell? ⟨b,off+k*5+1,none⟩=some (.int .i64 t1)∧W.cell? ⟨b,off+k*5+2,none⟩=some (.int .i64 t2)∧W.cell? ⟨b,off+k*5+3,none⟩=some (.int .i64 t3)∧W.cell? ⟨b,off+k*5+4,none⟩=some (.int .i64 t4)):=⟨fun W q=>⟨(XB W _ q).trans e0,(XB W _ q).trans e1,(XB W _ q).trans e2,(XB W _ q).trans e3,(XB W _ q).trans e4⟩⟩
    clear e0 e1 e2 e3 e4 XB hbl
    obtain ⟨q1,q2,q3⟩:=two_put D9.r1 D9.r2 s (.slice a8 m8 c8) ⟨t0,t1,t2,t3,t4⟩
    obtain ⟨q1',q3'⟩:=lane_set D9.r1 s (.slice a8 m8 c8)
    have P3':=D9.r2.kept q3' (by omega)
    obtain ⟨⟨r0,r1⟩,f0,f1⟩:=D9.r1.lane
    obtain ⟨⟨d0,d1,d2,d3,d4⟩,e0,e1,e2,e3,e4⟩:=P3'.five
    simp only at q1 q2 q3
    refine .tq 0 44 R ?_ (hy:=fun w hSw=>by have s:=X0.out w hSw;go_simp;rfl);simp only [oqA,oqB,oqC]
    refine .tq 1 45 R ?_;simp only [oqA,oqB,oqC]
    refine .tq 2 46 R ?_ (hy:=fun w hSw=>by have s:=X1.out w hSw;go_simp;rfl);simp only [oqA,oqB,oqC]
    refine .tq 3 47 R ?_;simp only [oqA,oqB,oqC]
    refine .tq 4 48 R ?_;simp only [oqA,oqB,oqC]
    refine .tq 5 49 R ?_ (hy:=fun w hSw=>by have s:=X2.out w hSw;go_simp;rfl);simp only [oqA,oqB,oqC]
    refine AnyG.ready (rs:=[6]) (by kernel_rfl) (by simp) ?_
    refine AllG.cons rfl (fun K hK=>?_) AllG.nil
    go_simp
    refine hK.out _ _ ⟨q3'.mono (fun k _ e=>.inl e),fun _=>trivial⟩ ?_
    clear hK K
    refine AnyG.ready (rs:=[7]) (by kernel_rfl) (by simp) ?_
    refine AllG.cons rfl (fun K hK=>?_) AllG.nil
    go_simp
    refine hK.out _ _ ⟨q3,fun _=>trivial⟩ ?_
    clear hK K
    refine AnyG.ready (rs:=[8]) (by kernel_rfl) (by simp) ?_
    refine AllG.cons rfl (fun K hK=>?_) AllG.nil
    go_simp
    refine hK.out _ _ ⟨q3,fun _=>trivial⟩ ?_
    clear hK K
    refine AnyG.done (by kernel_rfl) ?_ _
    have HLO:Hd (A≤g):=⟨by have:=D9.lo;have:=D9.mid;omega⟩
    have o8:=D9.own.kept q3 (fun j hj e=>by have:=D9.lo;have:=D9.mid;omega)
    have b8:=D9.bel.trans (q3.below (B:=A) (by have:=D9.r1.lt;omega) (fun k e=>by omega))
    have HR:Hd (_∧_∧_∧_):=⟨q1,q2,o8.lnW (b:=true) (s:=s) (B:=A) HM.out (by have:=HLO.out;omega),b8⟩
    clear q1 q2 q3 q1' q3' P3' r0 r1 f0 f1 d0 d1 d2 d3 d4 e0 e1 e2 e3 e4 o8 b8 R X0 X1 X2 D9
    go_wp2_with fail
    refine bodyPost_ret (resTk13 (t:=⟨t0,t1,t2,t3,t4⟩) _ _ _ _ true rfl rfl rfl HR.out.1 HR.out.2.1) rfl ?_
    refine ⟨⟨.agg #[.int .u64 s,.slice a8 m8 c8],?_,?_⟩,by rw [←HA.out];exact HR.out.2.2.2⟩
    ·rw [TE.out,KT.out.2.1]
    ·rw [KT.out.2.2,KT.out.2.1,← HA.out]
     exact HR.out.2.2.1
   ·have A1:Hd (∀ j,j<k+1→(gt L j).id≠id):=⟨fun j hj=>by
     rcases Nat.lt_or_eq_of_le (Nat.le_of_lt_succ hj) with h1 | h1
     ·exact hno.out j h1
     ·subst h1;exact e⟩
    have e':((gt L k).id == id)=false:=by simpa using e
    subst ea
    clear hno e
    generalize (gt L k).id=z at *
    go_wp2_with fail
    go_roundw
    case rel=>exact ⟨k+1,by omega,by go_num,A1,by trivial⟩
    case measure=>simp [intOf];omega
  ·obtain rfl:k=n:=by omega
   have hf:=HX.out.2 hno.out
   have KT:Hd (drT id L=tkZ∧drB id L=false∧drL id L=L):=⟨drT_no hf,drB_no hf,drL_no hf⟩
   obtain ⟨x1,x2,x3,x4,x5,x6⟩:=H.out
   obtain ⟨q1,q2,q3⟩:=two_put x2 x3 s (.slice a k c) tkZ
   obtain ⟨⟨r0,r1⟩,f0,f1⟩:=x2.lane
   obtain ⟨⟨d0,d1,d2,d3,d4⟩,e0,e1,e2,e3,e4⟩:=x3.five
   have s5:=x4.keep q3 (fun b off e hne hS=>by
    obtain ⟨b',o',e',hb',-⟩:=x6.2.2 hne
    rw [e] at e';cases e';omega)
   have Q:Hd (_∧_∧_∧_):=⟨q1,q2,s5,x5.trans (q3.below x5.size (fun k e=>by omega))⟩
   clear x1 x2 x3 x4 x5 x6 q1 q2 q3 s5 H HX hno hf
   simp only [tkZ] at Q d0 d1 d2 d3 d4
   go_wp2_with fail
   refine bodyPost_ret (resTk13 (t:=tkZ) _ _ _ _ false rfl rfl rfl Q.out.1 Q.out.2.1) rfl ?_
   refine ⟨⟨.agg #[.int .u64 s,.slice a k c],?_,?_⟩,Q.out.2.2.2⟩
   ·rw [KT.out.1,KT.out.2.1]
   ·rw [KT.out.2.2,KT.out.2.1]
    exact ⟨⟨a,c,by rw [HL.out],Q.out.2.2.1⟩,fun e=>by cases e⟩
end Go.Proofs.YtlgibnmoogbdcaaGreat
