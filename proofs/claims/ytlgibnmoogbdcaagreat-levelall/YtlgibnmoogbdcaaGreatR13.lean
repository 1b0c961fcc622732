/-
  Somebody joins a lane of a hand, by the program and by the reference.
  Somebody joins a lane of a hand, by the program and by the reference.
  Lanes that are trimmed by the program.
  Lanes that are trimmed by the reference.
-/
import Derived.Test.YtlgibnmoogbdcaaGreatR12
import Derived.Test.YtlgibnmoogbdcaaGreatR6
import Derived.Test.YtlgibnmoogbdcaaGreatR11
namespace Go.Proofs.YtlgibnmoogbdcaaGreat
open Go.RowKit
set_option maxRecDepth 20000 in
set_option maxHeartbeats 2000000 in
theorem rfjoin_yes (r g nn o:Int) (a:Option Addr) (c:Nat) (F:List Ln) (ah:Option Addr) (nh ch:Nat) (H0:Nat→Int) (t:Tk) (w:World) (h:LsR w a c F) (hf:Few F) (hh:HnR w ah nh H0) (hnh:nh≤1000) (k:Nat) (hk:k<F.length) (hc:chF F o H0 nh=k) (hfull:((gl F k).L.length:Int)<nn) :
  Calls Tryz.prog 36 #[.agg #[.int .u64 r,.int .i64 g,.int .i64 nn,.int .i64 o,.slice a F.length c],.slice ah nh ch,.agg #[.int .i64 t.id,.int .i64 t.wid,.int .i64 t.sts,.int .i64 t.sin,.int .i64 t.unt]] w fun e w'=>(∃ v,e=.returned (.tuple #[v,.int .i64 k,.int .i64 0])∧FaS (fun j=>j<w.heap.size) w' r g nn o (jnF F k r t) v)∧Below w.heap.size w w':=by
 obtain ⟨w2,hw2⟩:∃ w2,w2=((w.alloc (.cells #[.int .u64 r,.int .i64 g,.int .i64 nn,.int .i64 o,.slice a F.length c] 31)).alloc (.cells #[.int .i64 t.id,.int .i64 t.wid,.int .i64 t.sts,.int .i64 t.sin,.int .i64 t.unt] 36)).alloc (.cells #[.int .u64 0,.int .i64 0,.int .i64 0,.int .i64 0,.slice none 0 0] 31):=⟨_,rfl⟩
 have BX:=boxes3 w 31 36 31 #[.int .u64 r,.int .i64 g,.int .i64 nn,.int .i64 o,.slice a F.length c] #[.int .i64 t.id,.int .i64 t.wid,.int .i64 t.sts,.int .i64 t.sin,.int .i64 t.unt] #[.int .u64 0,.int .i64 0,.int .i64 0,.int .i64 0,.slice none 0 0]
 rw [←hw2] at BX
 obtain ⟨B,N1,N2,N3⟩:=BX
 have HF:Hd (Few F):=⟨hf⟩
 have HW:Hd (LsR w a c F):=⟨h⟩
 have hlen:=hf.len
 have CHO:=rchoose_ok r g nn o a c F ah nh ch H0 w2 (h.carry B) hf (hh.carry B) hnh
 rw [hc] at CHO
 obtain ⟨n,hn⟩:∃ n,F.length=n:=⟨_,rfl⟩
 have HL:Hd (F.length=n):=⟨hn⟩
 have HN:Hd (LsR w2 a c F∧Below w.heap.size w w2∧Blk w2 w.heap.size 31 (faA r g nn o (.slice a n c))∧Blk w2 (w.heap.size+1) 36 (tkA t)∧Blk w2 (w.heap.size+1+1) 31 (faA 0 0 0 0 (.slice none 0 0))):=⟨h.carry B,B,by rw [←hn];exact N1,N2,N3⟩
 have hs:=N3.lt
 obtain ⟨⟨x0,x1,x2,x3,x4⟩,-⟩:=Blk.fair N1
 rw [hn] at hlen hw2 x4 CHO ⊢
 clear hn B N1 N2 N3 h hf hh hnh
 obtain ⟨tt,htt⟩:∃ tt,tt=t:=⟨_,rfl⟩
 have HTT:Hd (tt=t):=⟨htt⟩
 rw [←htt] at hw2 HN ⊢
 clear htt
 obtain ⟨t0,t1,t2,t3,t4⟩:=tt
 simp only [tkA] at hw2 HN ⊢
 go_enter Tryz.func36,Tryz.ntmps36
 go_upto_region 1 with fail
 rw [←hw2]
 clear hw2
 obtain ⟨A,hA⟩:∃ A,A=w.heap.size:=⟨_,rfl⟩
 have HA:Hd (A=w.heap.size):=⟨hA⟩
 rw [←hA] at HN hs x0 x1 x2 x3 x4 ⊢
 clear hA
 go_wp2_with fail
 go_at_call 68
 refine CHO.mono ?_
 rintro e w3 ⟨rfl,b3⟩
 clear CHO x0 x1 x2 x3 x4
 have hs3:=b3.size
 have H3:Hd (LsR w3 a c F∧Below A w w3∧Blk w3 A 31 (faA r g nn o (.slice a n c))∧Blk w3 (A+1) 36 #[.int .i64 t0,.int .i64 t1,.int .i64 t2,.int .i64 t3,.int .i64 t4]∧Blk w3 (A+1+1) 31 (faA 0 0 0 0 (.slice none 0 0))) :=
  ⟨HN.out.1.carry b3,HN.out.2.1.trans (b3.mono (show A≤w2.heap.size by omega)),HN.out.2.2.1.kept (Kept.of_below b3 (fun _=>False)) id,HN.out.2.2.2.1.kept (Kept.of_below b3 (fun _=>False)) id,HN.out.2.2.2.2.kept (Kept.of_below b3 (fun _=>False)) id⟩
 clear HN b3
 have hk0:(0:Int)≤(k:Int):=by omega
 have hkn:k<n:=by have:=HL.out;omega
 obtain ⟨b1,o1,a1,c1,rfl,hb1,d0,d1,s1⟩:=H3.out.1.at (k:=k) hk
 have hbA:b1<A:=by
  obtain ⟨b',o',a',c',e',hb',-⟩:=HW.out.at hk
  injection e' with e'
  injection e' with e1 e2
  rw [HA.out,e1]
  exact hb'
 have B4:Below w3.heap.size w3 w3.drew:=(Below.refl _ _).drew
 have K4:Kept (fun _=>False) w3 w3.drew:=Kept.of_below B4 _
 have e0:=(World.cell?_of_block (K4.block b1 hb1 id)).trans d0
 have e1:=(World.cell?_of_block (K4.block b1 hb1 id)).trans d1
 have H4:Hd (LsR w3.drew (some ⟨b1,o1,none⟩) c F∧Below A w w3.drew∧Blk w3.drew A 31 (faA r g nn o (.slice (some ⟨b1,o1,none⟩) n c))∧Blk w3.drew (A+1) 36 #[.int .i64 t0,.int .i64 t1,.int .i64 t2,.int .i64 t3,.int .i64 t4]∧Blk w3.drew (A+1+1) 31 (faA 0 0 0 0 (.slice none 0 0))∧SlR w3.drew a1 c1 (gl F k).L∧b1<w3.drew.heap.size) :=
  ⟨H3.out.1.carry B4,H3.out.2.1.drew,H3.out.2.2.1.kept K4 id,H3.out.2.2.2.1.kept K4 id,H3.out.2.2.2.2.kept K4 id,s1.carry B4,Nat.lt_of_lt_of_le hb1 B4.size⟩
 have hs4:w3.heap.size≤w3.drew.heap.size:=B4.size
 obtain ⟨⟨x0,x1,x2,x3,x4⟩,-⟩:=H4.out.2.2.1.fair
 have HK:=HF.out.at k
 clear H3 B4 K4 d0 d1 s1 hb1
 go_upto_region 4 with fail
 refine region_tail 9 (by kernel_rfl) ?_
 simp only [List.take_succ_cons,List.take_zero,List.drop_succ_cons,List.drop_zero]
 generalize w3.drew=w4 at *
 obtain ⟨m,hm⟩:∃ m,m=(gl F k).L.length:=⟨_,rfl⟩
 have HM:Hd (m=(gl F k).L.length):=⟨hm⟩
 rw [←hm] at hfull HK e1
 obtain ⟨z,hz⟩:∃ z,z=(gl F k).s:=⟨_,rfl⟩
 have HZ:Hd (z=(gl F k).s):=⟨hz⟩
 rw [←hz] at e0 HK
 clear hm hz
 repeat still_step
 refine wpStill_nil ?_
 have H4K:Hd (∀ Y,Below w4.heap.size w4 Y→LsR Y (some ⟨b1,o1,none⟩) c F∧Blk Y A 31 (faA r g nn o (.slice (some ⟨b1,o1,none⟩) n c))∧Blk Y (A+1) 36 (tkA ⟨t0,t1,t2,t3,t4⟩)∧Blk Y (A+1+1) 31 (faA 0 0 0 0 (.slice none 0 0))∧SlR Y a1 c1 (gl F k).L∧Below A w Y∧Y.cell? ⟨b1,o1+k*2,none⟩=some (.int .u64 z)∧Y.cell? ⟨b1,o1+k*2+1,none⟩=some (.slice a1 m c1)):=⟨fun Y B4=>by
  have K4:Kept (fun _=>False) w4 Y:=Kept.of_below B4 _
  exact ⟨H4.out.1.carry B4,H4.out.2.2.1.kept K4 id,H4.out.2.2.2.1.kept K4 id,H4.out.2.2.2.2.1.kept K4 id,H4.out.2.2.2.2.2.1.carry B4,H4.out.2.1.trans (B4.mono (by omega)),(World.cell?_of_block (K4.block b1 H4.out.2.2.2.2.2.2 id)).trans e0,(World.cell?_of_block (K4.block b1 H4.out.2.2.2.2.2.2 id)).trans e1⟩⟩
 clear x0 x1 x2 x3 x4 e0 e1 H4
 obtain ⟨⟨x0,x1,x2,x3,x4⟩,-⟩:=(H4K.out w4 (Below.refl _ _)).2.1.fair
 have CP:=rcopy_ok r g nn o (some ⟨b1,o1,none⟩) c F w4 (H4K.out w4 (Below.refl _ _)).1 HF.out
 rw [HL.out] at CP
 go_wp2_with fail
 go_at_call 32
 refine CP.mono ?_
 rintro e w5 ⟨⟨v5,rfl,u5,rfl,o5⟩,b5⟩
 clear CP x0 x1 x2 x3 x4
 obtain ⟨q,c5,e5,hq0,hq⟩:=o5.blk (by rw [HL.out];omega)
 rw [HL.out] at e5
 subst e5
 obtain ⟨w6,hw6⟩:∃ w6,w6=w5.alloc (.cells #[.int .u64 r,.int .i64 g,.int .i64 nn,.int .i64 o,.slice (some ⟨q,0,none⟩) n c5] 31):=⟨_,rfl⟩
 have B6:Below w5.heap.size w5 w6:=by rw [hw6];exact alloc_below _ _
 have N6:Blk w6 w5.heap.size 31 (faA r g nn o (.slice (some ⟨q,0,none⟩) n c5)):=by rw [hw6];exact Blk.new _ _ _
 have b46:Below w4.heap.size w4 w6:=b5.trans (B6.mono b5.size)
 have b47:Below w4.heap.size w4 w6.drew:=b46.drew
 obtain ⟨hls,hna,hnt,hnr,hsl,hbw,he0,he1⟩:=H4K.out w6.drew b47
 have H7:Hd (Blk w6.drew A 31 (faA r g nn o (.slice (some ⟨b1,o1,none⟩) n c))∧Blk w6.drew (A+1) 36 (tkA ⟨t0,t1,t2,t3,t4⟩)∧Blk w6.drew (A+1+1) 31 (faA 0 0 0 0 (.slice none 0 0))∧Blk w6.drew w5.heap.size 31 (faA r g nn o (.slice (some ⟨q,0,none⟩) n c5))∧OwL w6.drew w4.heap.size (.slice (some ⟨q,0,none⟩) n c5) F∧Below A w w6.drew∧q<w6.drew.heap.size) :=
  ⟨hna,hnt,hnr,N6.kept (Kept.of_below ((Below.refl w6.heap.size w6).drew) (fun _=>False)) id,(o5.kept (Kept.of_below B6 (fun _=>False)) (fun _ _ h=>h)).kept (Kept.of_below ((Below.refl w6.heap.size w6).drew) (fun _=>False)) (fun _ _ h=>h),hbw,by have:=B6.size;show q<w6.heap.size;omega⟩
 have hs5:w4.heap.size≤w5.heap.size:=b5.size
 have HY:Hd (∀ Y,Kept (fun j=>j=q) w6.drew Y→(Y.cell? ⟨A,0,none⟩=some (.int .u64 r)∧Y.cell? ⟨A,1,none⟩=some (.int .i64 g)∧Y.cell? ⟨A,2,none⟩=some (.int .i64 nn)∧Y.cell? ⟨A,3,none⟩=some (.int .i64 o)∧Y.cell? ⟨A,4,none⟩=some (.slice (some ⟨b1,o1,none⟩) n c))∧(Y.cell? ⟨A+1,0,none⟩=some (.int .i64 t0)∧Y.cell? ⟨A+1,1,none⟩=some (.int .i64 t1)∧Y.cell? ⟨A+1,2,none⟩=some (.int .i64 t2)∧Y.cell? ⟨A+1,3,none⟩=some (.int .i64 t3)∧Y.cell? ⟨A+1,4,none⟩=some (.int .i64 t4))∧(Y.cell? ⟨b1,o1+k*2,none⟩=some (.int .u64 z)∧Y.cell? ⟨b1,o1+k*2+1,none⟩=some (.slice a1 m c1))∧Y.cell? ⟨w5.heap.size,4,none⟩=some (.slice (some ⟨q,0,none⟩) n c5)):=⟨fun Y K4=>by
  have NT:Blk Y (A+1) 36 (tkA ⟨t0,t1,t2,t3,t4⟩):=H7.out.2.1.kept K4 (by omega)
  have hb1w:b1<w6.drew.heap.size:=by have:=H7.out.1.lt;omega
  exact ⟨(H7.out.1.kept K4 (by omega)).fair.1,NT.five.1,⟨(World.cell?_of_block (K4.block b1 hb1w (by omega))).trans he0,(World.cell?_of_block (K4.block b1 hb1w (by omega))).trans he1⟩,(H7.out.2.2.2.1.kept K4 (by omega)).fair.1.2.2.2.2⟩⟩
 have JN:=rjoin_ok z r a1 c1 (gl F k).L ⟨t0,t1,t2,t3,t4⟩ w6.drew hsl (by have:=HM.out;omega)
 rw [←HM.out] at JN
 clear o5 b5 B6 N6 b46 b47 hls hna hnt hnr hsl hbw he0 he1 H4K
 go_upto_region 7 with fail
 rw [←hw6]
 clear hw6
 refine AnyG.start (T:=fun Y=>Kept (fun j=>j=q) w6.drew Y) (U:=fun _=>True) (j0:=100) (by kernel_rfl) ?_
 generalize w6.drew=w7 at *
 generalize w5.heap.size=y at *
 have R:Kept (fun j=>j=q) w7 w7:=Kept.refl _ _
 refine .tq 0 30 R ?_;simp only [oqA,oqB,oqC]
 refine .tq 1 31 R ?_ (hy:=fun w hSw=>by have s:=(HY.out w hSw).2.2.2;go_simp;rfl);simp only [oqA,oqB,oqC]
 refine .tq 2 32 R ?_;simp only [oqA,oqB,oqC]
 refine .tq 3 33 R ?_;simp only [oqA,oqB,oqC]
 refine .tq 4 34 R ?_ (hy:=fun w hSw=>by have s:=(HY.out w hSw).1;go_simp;rfl);simp only [oqA,oqB,oqC]
 refine .tq 5 35 R ?_;simp only [oqA,oqB,oqC]
 refine .tq 6 36 R ?_;simp only [oqA,oqB,oqC]
 refine .tq 7 37 R ?_ (hy:=fun w hSw=>by have s:=(HY.out w hSw).2.2.1;go_simp;rfl);simp only [oqA,oqB,oqC]
 refine .tq 8 38 R ?_;simp only [oqA,oqB,oqC]
 refine .tq 9 39 R ?_ (hy:=fun w hSw=>by have s:=(HY.out w hSw).1;go_simp;rfl);simp only [oqA,oqB,oqC]
 refine .tq 10 40 R ?_ (hy:=fun w hSw=>by have s:=(HY.out w hSw).2.1;go_simp;rfl);simp only [oqA,oqB,oqC]
 refine AnyG.ready (rs:=[11]) (by kernel_rfl) (by simp) ?_
 refine AllG.cons rfl (fun K hK=>?_) AllG.nil
 go_simp
 refine JN.mono ?_
 rintro e w8 ⟨⟨v8,rfl,a8,c8,rfl,-,o8⟩,b8⟩
 obtain ⟨L6,hL6⟩:∃ L6,L6=(gl F k).L ++ [(⟨t0,t1,t2,t3,t4⟩:Tk)]:=⟨_,rfl⟩
 have HL6:Hd (L6=(gl F k).L ++ [(⟨t0,t1,t2,t3,t4⟩:Tk)]):=⟨hL6⟩
 rw [←hL6] at o8 ⊢
 clear hL6
 obtain ⟨zj,hzj⟩:∃ zj,zj=jnS z r (gl F k).L:=⟨_,rfl⟩
 have HZJ:Hd (zj=jnS z r (gl F k).L):=⟨hzj⟩
 rw [←hzj]
 clear hzj
 have O8:=H7.out.2.2.2.2.1.kept (Kept.of_below b8 (fun _=>False)) (fun _ _ h=>h)
 have hs7:w4.heap.size≤w7.heap.size:=by have:=H7.out.2.2.2.1.lt;omega
 obtain ⟨q',cap,xx,yy,e9,-,-,⟨p0,p1,pf0,pf1⟩,O9,k9⟩:=O8.put (k:=k) (by rw [HL.out];exact hkn) ⟨zj,L6⟩ (o8.low hs7)
 rw [HL.out] at e9
 obtain ⟨rfl,rfl⟩:q=q'∧c5=cap:=by injection e9 with x1 x2 x3;injection x1 with x1;injection x1 with x1;exact ⟨x1,x3⟩
 simp only at O9 k9
 generalize L6.length=m6 at *
 refine hK.out _ _ ⟨Kept.of_below b8 _,fun _=>trivial⟩ ?_
 clear hK K JN e9
 have R8:Kept (fun j=>j=q) w7 w8:=Kept.of_below b8 _
 refine .tq 12 42 R8 ?_;simp only [oqA,oqB,oqC]
 refine AnyG.ready (rs:=[13]) (by kernel_rfl) (by simp) ?_
 refine AllG.cons rfl (fun K hK=>?_) AllG.nil
 go_simp
 have R9:=R8.trans k9
 refine hK.out _ _ ⟨R9,fun _=>trivial⟩ ?_
 clear hK K
 refine AnyG.done (by kernel_rfl) ?_ _
 have NY:=H7.out.2.2.2.1.kept R9 (by omega)
 have NR:=H7.out.2.2.1.kept R9 (by omega)
 have BW:Below A w _:=H7.out.2.2.2.2.2.1.trans (R9.below (B:=A) (by have:=H7.out.2.2.1.lt;omega) (fun j e=>by omega))
 obtain ⟨⟨x0,x1,x2,x3,x4⟩,-⟩:=NY.fair
 obtain ⟨q2,k2⟩:=fair_set NR r g nn o (.slice (some ⟨q,0,none⟩) n c5)
 obtain ⟨⟨y0,y1,y2,y3,y4⟩,yf0,yf1,yf2,yf3,yf4⟩:=NR.fair
 have HJ:Hd (F.set k ⟨zj,L6⟩=jnF F k r t):=⟨by rw [HZJ.out,HL6.out,HZ.out,HTT.out];rfl⟩
 have HE:Hd (_∧_∧_):=⟨q2,O9.kept k2 (fun j hj e=>by omega),BW.trans (k2.below (B:=A) (by have:=NR.lt;omega) (fun j e=>by omega))⟩
 clear R R8 R9 NY NR BW q2 k2 O8 O9 k9 o8 b8 p0 p1 pf0 pf1 HY H7
 go_wp2_with fail
 refine bodyPost_ret (resFj20 _ _ _ (.int .i64 k) (.int .i64 0) rfl rfl rfl HE.out.1) rfl ?_
 obtain ⟨a9,c9,e9,r9⟩:=HE.out.2.1.st (S:=fun j=>j<w.heap.size) (fun j hj e=>by have:j<w.heap.size:=e;have:=HA.out;omega)
 rw [List.length_set,HL.out] at e9
 obtain ⟨rfl,rfl⟩:some ⟨q,0,none⟩=a9∧c5=c9:=by injection e9 with x1 x2 x3;exact ⟨x1,x3⟩
 rw [HJ.out,← HTT.out] at r9
 exact ⟨⟨_,rfl,_,_,by unfold jnF;rw [List.length_set,HL.out],r9⟩,by rw [←HA.out];exact HE.out.2.2⟩
set_option maxRecDepth 20000 in
set_option maxHeartbeats 2000000 in
theorem fjoin_yes (r g nn o:Int) (a:Option Addr) (c:Nat) (F:List Ln) (ah:Option Addr) (nh ch:Nat) (H0:Nat→Int) (t:Tk) (w:World) (h:LsR w a c F) (hf:Few F) (hh:HnR w ah nh H0) (hnh:nh≤1000) (k:Nat) (hk:k<F.length) (hc:chF F o H0 nh=k) (hfull:((gl F k).L.length:Int)<nn) :
  Calls Tryz.prog 65 #[.agg #[.int .u64 r,.int .i64 g,.int .i64 nn,.int .i64 o,.slice a F.length c],.slice ah nh ch,.agg #[.int .i64 t.id,.int .i64 t.wid,.int .i64 t.sts,.int .i64 t.sin,.int .i64 t.unt]] w fun e w'=>(∃ v,e=.returned (.tuple #[v,.int .i64 k,.int .i64 0])∧FaS (fun j=>j<w.heap.size) w' r g nn o (jnF F k r t) v)∧Below w.heap.size w w':=by
 obtain ⟨w2,hw2⟩:∃ w2,w2=((w.alloc (.cells #[.int .u64 r,.int .i64 g,.int .i64 nn,.int .i64 o,.slice a F.length c] 31)).alloc (.cells #[.int .i64 t.id,.int .i64 t.wid,.int .i64 t.sts,.int .i64 t.sin,.int .i64 t.unt] 36)).alloc (.cells #[.int .u64 0,.int .i64 0,.int .i64 0,.int .i64 0,.slice none 0 0] 31):=⟨_,rfl⟩
 have BX:=boxes3 w 31 36 31 #[.int .u64 r,.int .i64 g,.int .i64 nn,.int .i64 o,.slice a F.length c] #[.int .i64 t.id,.int .i64 t.wid,.int .i64 t.sts,.int .i64 t.sin,.int .i64 t.unt] #[.int .u64 0,.int .i64 0,.int .i64 0,.int .i64 0,.slice none 0 0]
 rw [←hw2] at BX
 obtain ⟨B,N1,N2,N3⟩:=BX
 have HF:Hd (Few F):=⟨hf⟩
 have HW:Hd (LsR w a c F):=⟨h⟩
 have hlen:=hf.len
 have CHO:=choose_ok r g nn o a c F ah nh ch H0 w2 (h.carry B) hf (hh.carry B) hnh
 rw [hc] at CHO
 obtain ⟨n,hn⟩:∃ n,F.length=n:=⟨_,rfl⟩
 have HL:Hd (F.length=n):=⟨hn⟩
 have HN:Hd (LsR w2 a c F∧Below w.heap.size w w2∧Blk w2 w.heap.size 31 (faA r g nn o (.slice a n c))∧Blk w2 (w.heap.size+1) 36 (tkA t)∧Blk w2 (w.heap.size+1+1) 31 (faA 0 0 0 0 (.slice none 0 0))):=⟨h.carry B,B,by rw [←hn];exact N1,N2,N3⟩
 have hs:=N3.lt
 obtain ⟨⟨x0,x1,x2,x3,x4⟩,-⟩:=Blk.fair N1
 rw [hn] at hlen hw2 x4 CHO ⊢
 clear hn B N1 N2 N3 h hf hh hnh
 obtain ⟨tt,htt⟩:∃ tt,tt=t:=⟨_,rfl⟩
 have HTT:Hd (tt=t):=⟨htt⟩
 rw [←htt] at hw2 HN ⊢
 clear htt
 obtain ⟨t0,t1,t2,t3,t4⟩:=tt
 simp only [tkA] at hw2 HN ⊢
 go_enter Tryz.func65,Tryz.ntmps65
 go_upto_region 1 with fail
 rw [←hw2]
 clear hw2
 obtain ⟨A,hA⟩:∃ A,A=w.heap.size:=⟨_,rfl⟩
 have HA:Hd (A=w.heap.size):=⟨hA⟩
 rw [←hA] at HN hs x0 x1 x2 x3 x4 ⊢
 clear hA
 go_wp2_with fail
 go_at_call 87
 refine CHO.mono ?_
 rintro e w3 ⟨rfl,b3⟩
 clear CHO x0 x1 x2 x3 x4
 have hs3:=b3.size
 have H3:Hd (LsR w3 a c F∧Below A w w3∧Blk w3 A 31 (faA r g nn o (.slice a n c))∧Blk w3 (A+1) 36 #[.int .i64 t0,.int .i64 t1,.int .i64 t2,.int .i64 t3,.int .i64 t4]∧Blk w3 (A+1+1) 31 (faA 0 0 0 0 (.slice none 0 0))) :=
  ⟨HN.out.1.carry b3,HN.out.2.1.trans (b3.mono (show A≤w2.heap.size by omega)),HN.out.2.2.1.kept (Kept.of_below b3 (fun _=>False)) id,HN.out.2.2.2.1.kept (Kept.of_below b3 (fun _=>False)) id,HN.out.2.2.2.2.kept (Kept.of_below b3 (fun _=>False)) id⟩
 clear HN b3
 have hk0:(0:Int)≤(k:Int):=by omega
 have hkn:k<n:=by have:=HL.out;omega
 obtain ⟨b1,o1,a1,c1,rfl,hb1,d0,d1,s1⟩:=H3.out.1.at (k:=k) hk
 have hbA:b1<A:=by
  obtain ⟨b',o',a',c',e',hb',-⟩:=HW.out.at hk
  injection e' with e'
  injection e' with e1 e2
  rw [HA.out,e1]
  exact hb'
 have B4:Below w3.heap.size w3 w3.drew:=(Below.refl _ _).drew
 have K4:Kept (fun _=>False) w3 w3.drew:=Kept.of_below B4 _
 have e0:=(World.cell?_of_block (K4.block b1 hb1 id)).trans d0
 have e1:=(World.cell?_of_block (K4.block b1 hb1 id)).trans d1
 have H4:Hd (LsR w3.drew (some ⟨b1,o1,none⟩) c F∧Below A w w3.drew∧Blk w3.drew A 31 (faA r g nn o (.slice (some ⟨b1,o1,none⟩) n c))∧Blk w3.drew (A+1) 36 #[.int .i64 t0,.int .i64 t1,.int .i64 t2,.int .i64 t3,.int .i64 t4]∧Blk w3.drew (A+1+1) 31 (faA 0 0 0 0 (.slice none 0 0))∧SlR w3.drew a1 c1 (gl F k).L∧b1<w3.drew.heap.size) :=
  ⟨H3.out.1.carry B4,H3.out.2.1.drew,H3.out.2.2.1.kept K4 id,H3.out.2.2.2.1.kept K4 id,H3.out.2.2.2.2.kept K4 id,s1.carry B4,Nat.lt_of_lt_of_le hb1 B4.size⟩
 have hs4:w3.heap.size≤w3.drew.heap.size:=B4.size
 obtain ⟨⟨x0,x1,x2,x3,x4⟩,-⟩:=H4.out.2.2.1.fair
 have HK:=HF.out.at k
 clear H3 B4 K4 d0 d1 s1 hb1
 go_upto_region 4 with fail
 refine region_tail 9 (by kernel_rfl) ?_
 simp only [List.take_succ_cons,List.take_zero,List.drop_succ_cons,List.drop_zero]
 generalize w3.drew=w4 at *
 obtain ⟨m,hm⟩:∃ m,m=(gl F k).L.length:=⟨_,rfl⟩
 have HM:Hd (m=(gl F k).L.length):=⟨hm⟩
 rw [←hm] at hfull HK e1
 obtain ⟨z,hz⟩:∃ z,z=(gl F k).s:=⟨_,rfl⟩
 have HZ:Hd (z=(gl F k).s):=⟨hz⟩
 rw [←hz] at e0 HK
 clear hm hz
 repeat still_step
 refine wpStill_nil ?_
 have HY:Hd (∀ Y,Kept (fun j=>j=A+1+1) w4.drew Y→(Y.cell? ⟨A,0,none⟩=some (.int .u64 r)∧Y.cell? ⟨A,1,none⟩=some (.int .i64 g)∧Y.cell? ⟨A,2,none⟩=some (.int .i64 nn)∧Y.cell? ⟨A,3,none⟩=some (.int .i64 o)∧Y.cell? ⟨A,4,none⟩=some (.slice (some ⟨b1,o1,none⟩) n c))∧(Y.cell? ⟨A+1,0,none⟩=some (.int .i64 t0)∧Y.cell? ⟨A+1,1,none⟩=some (.int .i64 t1)∧Y.cell? ⟨A+1,2,none⟩=some (.int .i64 t2)∧Y.cell? ⟨A+1,3,none⟩=some (.int .i64 t3)∧Y.cell? ⟨A+1,4,none⟩=some (.int .i64 t4))∧Y.cell? ⟨b1,o1+k*2,none⟩=some (.int .u64 z)∧Y.cell? ⟨b1,o1+k*2+1,none⟩=some (.slice a1 m c1)):=⟨fun Y q=>by
  have K4:Kept (fun j=>j=A+1+1) w4 Y:=(Kept.refl _ w4).drew.trans q
  have NT:Blk Y (A+1) 36 (tkA ⟨t0,t1,t2,t3,t4⟩):=H4.out.2.2.2.1.kept K4 (by omega)
  exact ⟨(H4.out.2.2.1.kept K4 (by omega)).fair.1,NT.five.1,(World.cell?_of_block (K4.block b1 H4.out.2.2.2.2.2.2 (by omega))).trans e0,(World.cell?_of_block (K4.block b1 H4.out.2.2.2.2.2.2 (by omega))).trans e1⟩⟩
 have HG:Hd (∀ Y,Below w4.drew.heap.size w4.drew Y→LsR Y (some ⟨b1,o1,none⟩) c F∧Below A w Y∧Blk Y (A+1+1) 31 (faA 0 0 0 0 (.slice none 0 0))∧SlR Y a1 c1 (gl F k).L∧w3.heap.size≤Y.heap.size):=⟨fun Y q=>by
  have B4:Below w4.heap.size w4 Y:=(Below.refl _ _).drew.trans q
  exact ⟨H4.out.1.carry B4,H4.out.2.1.trans (B4.mono (by omega)),H4.out.2.2.2.2.1.kept (Kept.of_below B4 (fun _=>False)) id,H4.out.2.2.2.2.2.1.carry B4,Nat.le_trans hs4 B4.size⟩⟩
 clear x0 x1 x2 x3 x4 e0 e1 H4
 go_upto_region 6 with fail
 refine AnyG.start (T:=fun Y=>Kept (fun j=>j=A+1+1) w4.drew Y) (U:=fun _=>True) (j0:=100) (by kernel_rfl) ?_
 generalize w4.drew=w5 at *
 have R:Kept (fun j=>j=A+1+1) w5 w5:=Kept.refl _ _
 have R0:Below w5.heap.size w5 w5:=Below.refl _ _
 refine .tq 0 27 R ?_ (hy:=fun w hSw=>by have s:=(HY.out w hSw).1;go_simp;rfl);simp only [oqA,oqB,oqC]
 refine .tq 1 28 R ?_;simp only [oqA,oqB,oqC]
 refine .tq 2 29 R ?_;simp only [oqA,oqB,oqC]
 refine .tq 3 30 R ?_ (hy:=fun w hSw=>by have s:=(HY.out w hSw).1;go_simp;rfl);simp only [oqA,oqB,oqC]
 refine .tq 4 31 R ?_;simp only [oqA,oqB,oqC]
 refine .tq 5 32 R ?_;simp only [oqA,oqB,oqC]
 refine .tq 6 33 R ?_ (hy:=fun w hSw=>by have s:=(HY.out w hSw).2.2;go_simp;rfl);simp only [oqA,oqB,oqC]
 refine .tq 7 34 R ?_;simp only [oqA,oqB,oqC]
 refine .tq 8 35 R ?_ (hy:=fun w hSw=>by have s:=(HY.out w hSw).1;go_simp;rfl);simp only [oqA,oqB,oqC]
 refine .tq 9 36 R ?_ (hy:=fun w hSw=>by have s:=(HY.out w hSw).2.1;go_simp;rfl);simp only [oqA,oqB,oqC]
 refine .tq 12 39 R ?_;simp only [oqA,oqB,oqC]
 have JN:=join_ok z r a1 c1 (gl F k).L ⟨t0,t1,t2,t3,t4⟩ w5 (HG.out w5 R0).2.2.2.1 (by have:=HM.out;omega)
 rw [←HM.out] at JN
 refine AnyG.ready (rs:=[10]) (by kernel_rfl) (by simp) ?_
 refine AllG.cons rfl (fun K hK=>?_) AllG.nil
 go_simp
 refine JN.mono ?_
 rintro e w6 ⟨⟨v6,rfl,a6,c6,rfl,-,o6⟩,b6⟩
 obtain ⟨L6,hL6⟩:∃ L6,L6=(gl F k).L ++ [(⟨t0,t1,t2,t3,t4⟩:Tk)]:=⟨_,rfl⟩
 have HL6:Hd (L6=(gl F k).L ++ [(⟨t0,t1,t2,t3,t4⟩:Tk)]):=⟨hL6⟩
 rw [←hL6] at o6 ⊢
 clear hL6
 obtain ⟨zj,hzj⟩:∃ zj,zj=jnS z r (gl F k).L:=⟨_,rfl⟩
 have HZJ:Hd (zj=jnS z r (gl F k).L):=⟨hzj⟩
 rw [←hzj]
 clear hzj
 have WT:=with_ok r g nn o (some ⟨b1,o1,none⟩) c k F zj a6 c6 L6 w5.heap.size w6 (HG.out w6 b6).1 HF.out (by rw [HL.out];exact hkn) o6 b6.size
 rw [HL.out] at WT
 generalize L6.length=m6 at *
 refine hK.out _ _ ⟨Kept.of_below b6 _,fun _=>trivial⟩ ?_
 clear hK K JN
 refine AnyG.ready (rs:=[11]) (by kernel_rfl) (by simp) ?_
 refine AllG.cons rfl (fun K hK=>?_) AllG.nil
 go_simp
 refine WT.mono ?_
 rintro e w7 ⟨⟨v7,rfl,u7,rfl,o7⟩,b7⟩
 have b57:Below w5.heap.size w5 w7:=b6.trans (b7.mono b6.size)
 refine hK.out _ _ ⟨Kept.of_below b57 _,fun _=>trivial⟩ ?_
 clear hK K WT o6 b6 b7
 obtain ⟨a7,c7,e7,-⟩:=o7.read
 rw [List.length_set,HL.out] at e7
 subst e7
 obtain ⟨-,BW,NR,-,hs7⟩:=HG.out w7 b57
 have hs5:w3.heap.size≤w5.heap.size:=(HG.out w5 R0).2.2.2.2
 obtain ⟨q2,k2⟩:=fair_set NR r g nn o (.slice a7 n c7)
 obtain ⟨⟨y0,y1,y2,y3,y4⟩,yf0,yf1,yf2,yf3,yf4⟩:=NR.fair
 have b59:=k2.below (B:=A) (by have:=NR.lt;omega) (fun j e=>by omega)
 have HJ:Hd (F.set k ⟨zj,L6⟩=jnF F k r t):=⟨by rw [HZJ.out,HL6.out,HZ.out,HTT.out];rfl⟩
 have HE:Hd (_∧_∧_):=⟨q2,o7.kept k2 (fun j hj e=>by omega),BW.trans b59⟩
 refine AnyG.ready (rs:=[13]) (by kernel_rfl) (by simp) ?_
 refine AllG.cons rfl (fun K hK=>?_) AllG.nil
 go_simp
 refine hK.out _ _ ⟨(Kept.of_below b57 _).trans k2,fun _=>trivial⟩ ?_
 clear hK K
 have R9:=(Kept.of_below b57 (fun j=>j=A+1+1)).trans k2
 refine .tq 14 7 R9 ?_;simp only [oqA,oqB,oqC]
 refine .tq 15 8 R9 ?_;simp only [oqA,oqB,oqC]
 refine AnyG.done (by kernel_rfl) ?_ _
 clear R R0 R9 b57 BW NR b59 q2 k2 o7 HY HG
 go_wp2_with fail
 refine bodyPost_ret (resFj19 _ _ _ (.int .i64 k) (.int .i64 0) rfl rfl rfl HE.out.1) rfl ?_
 obtain ⟨a9,c9,e9,r9⟩:=HE.out.2.1.st (S:=fun j=>j<w.heap.size) (fun j hj e=>by have:j<w.heap.size:=e;have:=HA.out;omega)
 rw [List.length_set,HL.out] at e9
 obtain ⟨rfl,rfl⟩:a7=a9∧c7=c9:=by injection e9 with x1 x2 x3;exact ⟨x1,x3⟩
 rw [HJ.out,← HTT.out] at r9
 exact ⟨⟨_,rfl,_,_,by unfold jnF;rw [List.length_set,HL.out],r9⟩,by rw [←HA.out];exact HE.out.2.2⟩
theorem resFa41 (tmps:Array Value) (w:World) (b:Nat) {r g n o:Int} {a:Option Addr} {l c:Nat} (ht:tmps[2]?.getD undef=.pointer (some ⟨b,0,none⟩)) (h:Blk w b 31 (faA r g n o (.slice a l c))) :
  (results Tryz.f77 tmps).run Tryz.prog w=.ok (.agg #[.int .u64 r,.int .i64 g,.int .i64 n,.int .i64 o,.slice a l c]) w:=by
 obtain ⟨⟨c0,c1,c2,c3,c4⟩,-⟩:=h.fair
 simp [results,Tryz.results77,go_sem,ht,c0,c1,c2,c3,c4]
theorem trN_no {F:List Ln} {o:Int} {k:Nat} (h:¬ (o<(k+1:Int)∧(gl F k).L=[])):trN F o (k+1)=k+1:=by
 unfold trN;rw [if_neg h]
theorem trN_yes {F:List Ln} {o:Int} {k:Nat} (h:o<(k+1:Int)∧(gl F k).L=[]):trN F o (k+1)=trN F o k:=by
 show (if o<(k+1:Int)∧(gl F k).L=[] then trN F o k else k+1)=_
 rw [if_pos h]
set_option maxRecDepth 20000 in
set_option maxHeartbeats 1000000 in
theorem trimmed_ok (S:Nat→Prop) (r g nn o:Int) (a:Option Addr) (c:Nat) (F:List Ln) (w:World) (hst:StR S w a c F) (hf:Few F) :
  Calls Tryz.prog 77 #[.agg #[.int .u64 r,.int .i64 g,.int .i64 nn,.int .i64 o,.slice a F.length c]] w fun e w'=>(∃ v,e=.returned v∧FaS S w' r g nn o (trm F o) v)∧Below w.heap.size w w':=by
 have h:=hst.read (Kept.refl _ _)
 have HW:Hd (StR S w a c F):=⟨hst⟩
 clear hst
 obtain ⟨w2,hw2⟩:∃ w2,w2=(w.alloc (.cells #[.int .u64 r,.int .i64 g,.int .i64 nn,.int .i64 o,.slice a F.length c] 31)).alloc (.cells #[.int .u64 0,.int .i64 0,.int .i64 0,.int .i64 0,.slice none 0 0] 31):=⟨_,rfl⟩
 have BX:=boxes w 31 31 #[.int .u64 r,.int .i64 g,.int .i64 nn,.int .i64 o,.slice a F.length c] #[.int .u64 0,.int .i64 0,.int .i64 0,.int .i64 0,.slice none 0 0]
 rw [←hw2] at BX
 obtain ⟨B,N1,N2⟩:=BX
 have HF:Hd (Few F):=⟨hf⟩
 have hl:=hf.len
 obtain ⟨⟨x0,x1,x2,x3,x4⟩,-⟩:=Blk.fair N1
 obtain ⟨n,hn⟩:∃ n,F.length=n:=⟨_,rfl⟩
 have HL:Hd (F.length=n):=⟨hn⟩
 have HN:Hd (LsR w2 a c F∧Below w.heap.size w w2∧Blk w2 w.heap.size 31 (faA r g nn o (.slice a n c))∧Blk w2 (w.heap.size+1) 31 (faA 0 0 0 0 (.slice none 0 0))):=⟨h.carry B,B,by rw [←hn];exact N1,N2⟩
 rw [hn] at hl hw2 x4 ⊢
 clear hn N1 N2 B h hf
 go_enter Tryz.func77,Tryz.ntmps77
 go_upto_region 1 with fail
 rw [←hw2]
 clear hw2
 have hc0:n≤c:=by have:=HN.out.1.1;have:=HL.out;omega
 have hc1:=HN.out.1.2.1
 obtain ⟨A,hA⟩:∃ A,A=w.heap.size:=⟨_,rfl⟩
 have HA:Hd (A=w.heap.size):=⟨hA⟩
 rw [←hA] at HN x0 x1 x2 x3 x4 ⊢
 clear hA
 have h2A:A+2≤w2.heap.size:=by have:=HN.out.2.2.2.lt;omega
 go_wp2
 go_loopw [3] (fun i wr=>∃ k:Nat,k≤n∧i=.int .i64 k∧Hd (trN F o n=trN F o k)∧wr=w2) (fun i _=>(intOf i).toNat)
 case atStart=>exact ⟨n,Nat.le_refl _,rfl,⟨rfl⟩,rfl⟩
 case round =>
  obtain ⟨k,hk,rfl,HT,rfl⟩:=hrel
  have LN:Hd (∀ W,Below w.heap.size w W→trN F o k=k→FaS S W r g nn o (trm F o) (.agg #[.int .u64 r,.int .i64 g,.int .i64 nn,.int .i64 o,.slice a k c])):=⟨fun W q e=>by
   have e1:(trm F o).length=k:=by rw [trm_len,HL.out,HT.out,e]
   exact ⟨a,c,by rw [e1],(HW.out.next (Kept.of_below q _)).take _⟩⟩
  cases a with
  | none =>
   obtain rfl:c=0:=hc1 rfl
   obtain rfl:n=0:=by omega
   obtain rfl:k=0:=by omega
   clear hc1 hc0
   obtain ⟨SS,hb2,NA,NR⟩:=HN.out
   obtain ⟨q1,k1⟩:=fair_lanes NA (.slice none 0 0)
   have NR':=NR.kept k1 (by omega)
   obtain ⟨q2,k2⟩:=fair_set NR' r g nn o (.slice none 0 0)
   obtain ⟨⟨y0,y1,y2,y3,y4⟩,yf0,yf1,yf2,yf3,yf4⟩:=NR'.fair
   obtain ⟨⟨z0,z1,z2,z3,z4⟩,-⟩:=q1.fair
   obtain ⟨-,xf0,xf1,xf2,xf3,xf4⟩:=NA.fair
   have KK:=(k1.below (B:=A) (by omega) (fun j e=>by omega)).trans (k2.below (B:=A) (by have:=k1.size;omega) (fun j e=>by omega))
   have HE:Hd (_∧_):=⟨q2,hb2.trans KK⟩
   clear SS hb2 NA NR q1 k1 NR' q2 k2 KK HN
   go_wp2_with fail
   refine bodyPost_ret (resFa41 _ _ _ rfl HE.out.1) rfl ?_
   exact ⟨⟨_,rfl,LN.out _ (by rw [←HA.out];exact HE.out.2) rfl⟩,by rw [←HA.out];exact HE.out.2⟩
  | some x =>
   clear hc1
   obtain ⟨SS,hb2,NA,NR⟩:=HN.out
   obtain ⟨q1,k1⟩:=fair_lanes NA (.slice (some x) k c)
   have NR':=NR.kept k1 (by omega)
   obtain ⟨q2,k2⟩:=fair_set NR' r g nn o (.slice (some x) k c)
   obtain ⟨⟨y0,y1,y2,y3,y4⟩,yf0,yf1,yf2,yf3,yf4⟩:=NR'.fair
   obtain ⟨⟨z0,z1,z2,z3,z4⟩,-⟩:=q1.fair
   obtain ⟨-,xf0,xf1,xf2,xf3,xf4⟩:=NA.fair
   have KK:=(k1.below (B:=A) (by omega) (fun j e=>by omega)).trans (k2.below (B:=A) (by have:=k1.size;omega) (fun j e=>by omega))
   have HE:Hd (_∧_):=⟨q2,hb2.trans KK⟩
   by_cases e0:k=0
   ·subst e0
    clear SS hb2 NA NR q1 k1 NR' q2 k2 KK HN
    go_wp2_with fail
    refine bodyPost_ret (resFa41 _ _ _ rfl HE.out.1) rfl ?_
    exact ⟨⟨_,rfl,LN.out _ (by rw [←HA.out];exact HE.out.2) rfl⟩,by rw [←HA.out];exact HE.out.2⟩
   ·obtain ⟨j,rfl⟩:∃ j,k=j+1:=⟨k - 1,by omega⟩
    obtain ⟨b1,o1,a1,c1,e1,hb1,d0,d1,s1⟩:=SS.at (k:=j) (by rw [HL.out];omega)
    have TN:Hd (¬ (o<(j+1:Int)∧(gl F j).L=[])→trN F o (j+1)=j+1):=⟨trN_no⟩
    have TY:Hd (o<(j+1:Int)→(gl F j).L.length=0→trN F o n=trN F o j):=⟨fun h1 h2=>HT.out.trans (trN_yes ⟨h1,List.eq_nil_of_length_eq_zero h2⟩)⟩
    have TE:Hd ((gl F j).L=[]→(gl F j).L.length=0):=⟨fun e=>by rw [e];rfl⟩
    have PN:IntKind.i64.wrap ((j:Int)+1 - 1)=j:=by rw [show (j:Int)+1 - 1=j by omega,IntKind.wrap_i64] <;> omega
    injection e1 with e1
    subst e1
    have hm:=(HF.out.at j).2
    clear SS hb2 NA NR q1 k1 NR' q2 k2 KK
    by_cases e1:o<(j:Int)+1
    ·by_cases e2:(gl F j).L.length=0
     ·rw [e2] at d1
      have HX:Hd (trN F o n=trN F o j):=⟨TY.out e1 e2⟩
      clear TN TY TE e2 LN HE y0 y1 y2 y3 y4 yf0 yf1 yf2 yf3 yf4 z0 z1 z2 z3 z4 xf0 xf1 xf2 xf3 xf4
      go_wp2
      go_roundw
      case rel=>exact ⟨j,by omega,by go_num,HX,by trivial⟩
      case measure=>simp [intOf]
     ·have HX:Hd (trN F o (j+1)=j+1):=⟨TN.out (fun h=>e2 (TE.out h.2))⟩
      clear TN TY TE
      generalize (gl F j).L.length=m at *
      go_wp2_with fail
      refine bodyPost_ret (resFa41 _ _ _ rfl HE.out.1) rfl ?_
      exact ⟨⟨_,rfl,LN.out _ (by rw [←HA.out];exact HE.out.2) HX.out⟩,by rw [←HA.out];exact HE.out.2⟩
    ·have HX:Hd (trN F o (j+1)=j+1):=⟨TN.out (fun h=>e1 h.1)⟩
     clear TN TY TE
     go_wp2_with fail
     refine bodyPost_ret (resFa41 _ _ _ rfl HE.out.1) rfl ?_
     exact ⟨⟨_,rfl,LN.out _ (by rw [←HA.out];exact HE.out.2) HX.out⟩,by rw [←HA.out];exact HE.out.2⟩
theorem resFa42 (tmps:Array Value) (w:World) (b:Nat) {r g n o:Int} {a:Option Addr} {l c:Nat} (ht:tmps[2]?.getD undef=.pointer (some ⟨b,0,none⟩)) (h:Blk w b 31 (faA r g n o (.slice a l c))) :
  (results Tryz.f80 tmps).run Tryz.prog w=.ok (.agg #[.int .u64 r,.int .i64 g,.int .i64 n,.int .i64 o,.slice a l c]) w:=by
 obtain ⟨⟨c0,c1,c2,c3,c4⟩,-⟩:=h.fair
 simp [results,Tryz.results80,go_sem,ht,c0,c1,c2,c3,c4]
set_option maxRecDepth 20000 in
set_option maxHeartbeats 1000000 in
theorem rtrim_ok (S:Nat→Prop) (r g nn o:Int) (a:Option Addr) (c:Nat) (F:List Ln) (w:World) (hst:StR S w a c F) (hS:∀ j,S j→j<w.heap.size) (hf:Few F) :
  Calls Tryz.prog 80 #[.agg #[.int .u64 r,.int .i64 g,.int .i64 nn,.int .i64 o,.slice a F.length c]] w fun e w'=>(∃ v,e=.returned v∧FaS S w' r g nn o (trm F o) v)∧Below w.heap.size w w':=by
 have h:=hst.read (Kept.refl _ _)
 have HW:Hd (StR S w a c F∧∀ j,S j→j<w.heap.size):=⟨hst,hS⟩
 clear hst hS
 obtain ⟨w2,hw2⟩:∃ w2,w2=(w.alloc (.cells #[.int .u64 r,.int .i64 g,.int .i64 nn,.int .i64 o,.slice a F.length c] 31)).alloc (.cells #[.int .u64 0,.int .i64 0,.int .i64 0,.int .i64 0,.slice none 0 0] 31):=⟨_,rfl⟩
 have BX:=boxes w 31 31 #[.int .u64 r,.int .i64 g,.int .i64 nn,.int .i64 o,.slice a F.length c] #[.int .u64 0,.int .i64 0,.int .i64 0,.int .i64 0,.slice none 0 0]
 rw [←hw2] at BX
 obtain ⟨B,N1,N2⟩:=BX
 have HF:Hd (Few F):=⟨hf⟩
 have hl:=hf.len
 obtain ⟨⟨x0,x1,x2,x3,x4⟩,-⟩:=Blk.fair N1
 obtain ⟨n,hn⟩:∃ n,F.length=n:=⟨_,rfl⟩
 have HL:Hd (F.length=n):=⟨hn⟩
 have HN:Hd (LsR w2 a c F∧Below w.heap.size w w2∧Blk w2 w.heap.size 31 (faA r g nn o (.slice a n c))∧Blk w2 (w.heap.size+1) 31 (faA 0 0 0 0 (.slice none 0 0))):=⟨h.carry B,B,by rw [←hn];exact N1,N2⟩
 rw [hn] at hl hw2 ⊢
 clear hn N1 N2 B h hf x0 x1 x2 x3 x4
 go_enter Tryz.func80,Tryz.ntmps80
 go_upto_region 1 with fail
 rw [←hw2]
 clear hw2
 obtain ⟨A,hA⟩:∃ A,A=w.heap.size:=⟨_,rfl⟩
 have HA:Hd (A=w.heap.size):=⟨hA⟩
 rw [←hA] at HN ⊢
 clear hA
 have h2A:A+2≤w2.heap.size:=by have:=HN.out.2.2.2.lt;omega
 go_loopw [] (fun wr=>∃ (k:Nat) (a':Option Addr) (c':Nat),k≤n∧Blk wr A 31 (faA r g nn o (.slice a' k c'))∧StR (fun j=>j=A∨j=A+1∨S j) wr a' c' (F.take k)∧Hd (trN F o n=trN F o k)∧Kept (fun j=>j=A) w2 wr) (fun wr=>match wr.cell? ⟨A,4,none⟩ with | some (.slice _ k _)=>k | _=>0)
 case atStart=>exact ⟨n,a,c,Nat.le_refl _,HN.out.2.2.1,by rw [List.take_of_length_le (by have:=HL.out;omega)];exact HW.out.1.high (by rw [←HA.out];exact HN.out.2.1) (fun j hj e=>by have:=HA.out;rcases e with e | e | e <;> first | exact e | omega),⟨rfl⟩,Kept.refl _ _⟩
 case round =>
  obtain ⟨k,a',c',hk,NA,SS,HT,K⟩:=hrel
  have NR:Blk wr (A+1) 31 (faA 0 0 0 0 (.slice none 0 0)):=HN.out.2.2.2.kept K (by omega)
  obtain ⟨q2,k2⟩:=fair_set NR r g nn o (.slice a' k c')
  obtain ⟨⟨y0,y1,y2,y3,y4⟩,yf0,yf1,yf2,yf3,yf4⟩:=NR.fair
  obtain ⟨⟨x0,x1,x2,x3,x4⟩,xf0,xf1,xf2,xf3,xf4⟩:=NA.fair
  have BW:Below A w wr:=HN.out.2.1.trans (K.below (B:=A) (by omega) (fun j e=>by omega))
  have LN:trN F o k=k→trm F o=F.take k∧(F.take k).length=k:=fun e=>by
   have e1:(trm F o).length=k:=by rw [trm_len,HL.out,HT.out,e]
   have e2:trm F o=F.take k:=by unfold trm;rw [HL.out,HT.out,e]
   exact ⟨e2,by rw [←e2,e1]⟩
  have S2:=(SS.next (k2.mono (fun j _ e=>.inr (.inl e)))).low (T:=S) (fun j _ e=>.inr (.inr e))
  have HE:Hd (trN F o k=k→Blk _ _ _ _∧FaS S _ r g nn o (trm F o) (.agg #[.int .u64 r,.int .i64 g,.int .i64 nn,.int .i64 o,.slice a' k c'])∧Below A w _):=⟨fun e=>⟨q2,⟨a',c',by rw [(LN e).1,(LN e).2],by rw [(LN e).1];exact S2⟩,BW.trans (k2.below (B:=A) (by have:=NR.lt;omega) (fun j e=>by omega))⟩⟩
  clear q2 k2 LN S2
  by_cases e0:k=0
  ·subst e0
   clear SS NA NR BW K HT
   go_wp2_with fail
   refine bodyPost_ret (resFa42 _ _ _ rfl (HE.out rfl).1) rfl ?_
   exact ⟨⟨_,rfl,(HE.out rfl).2.1⟩,by rw [←HA.out];exact (HE.out rfl).2.2⟩
  ·obtain ⟨j,rfl⟩:∃ j,k=j+1:=⟨k - 1,by omega⟩
   have htl:(F.take (j+1)).length=j+1:=by rw [List.length_take];have:=HL.out;omega
   have hglt:gl (F.take (j+1)) j=gl F j:=gl_take (Nat.lt_succ_self j)
   obtain ⟨b1,o1,a1,c1,e1,hb1,d0,d1,s1⟩:=(SS.read (Kept.refl _ _)).at (k:=j) (by rw [htl];omega)
   rw [hglt] at d0 d1 s1
   have TN:Hd (¬ (o<(j+1:Int)∧(gl F j).L=[])→trN F o (j+1)=j+1):=⟨trN_no⟩
   have TY:Hd (o<(j+1:Int)→(gl F j).L.length=0→trN F o n=trN F o j):=⟨fun h1 h2=>HT.out.trans (trN_yes ⟨h1,List.eq_nil_of_length_eq_zero h2⟩)⟩
   have TE:Hd ((gl F j).L=[]→(gl F j).L.length=0):=⟨fun e=>by rw [e];rfl⟩
   have PN:IntKind.i64.wrap ((j:Int)+1 - 1)=j:=by rw [show (j:Int)+1 - 1=j by omega,IntKind.wrap_i64] <;> omega
   subst e1
   have hm:=(HF.out.at j).2
   have hjc:j+1≤c':=by have:=SS.1;omega
   by_cases e1:o<(j:Int)+1
   ·by_cases e2:(gl F j).L.length=0
    ·rw [e2] at d1
     have HX:Hd (trN F o n=trN F o j):=⟨TY.out e1 e2⟩
     obtain ⟨M,hM1,hM2,hM3,hM4,hM5⟩:=SS.row (k:=j) (by rw [htl];omega)
     rw [List.take_take,Nat.min_eq_left (Nat.le_succ j)] at hM1 hM5
     have hwz:=NR.lt
     obtain ⟨w6,hw6⟩:∃ w6,w6=wr.alloc (.cells #[] 62):=⟨_,rfl⟩
     have B6:Below wr.heap.size wr w6:=by rw [hw6];exact alloc_below _ _
     have O6:w6.ownsRow wr.heap.size 62 2 (.slice (some ⟨wr.heap.size,0,none⟩) 0 0) 0 []:=by rw [hw6];exact World.ownsRow_made wr #[] 0 (Nat.le_refl _) (Nat.zero_le _) rfl
     have R6:Hd (w6.ownsRow wr.heap.size 62 2 (.slice (some ⟨wr.heap.size,0,none⟩) 0 0) 0 []∧RowR w6 (some ⟨b1,o1,none⟩) (zCs M)∧(∀ z∈M,∃ a n c,z.2=.slice a n c)∧Below wr.heap.size wr w6∧wr.heap.size≤w6.heap.size):=⟨O6,hM3.carry B6,fun z hz=>by obtain ⟨a,c,e,-⟩:=hM4 z hz;exact ⟨a,_,c,e⟩,B6,B6.size⟩
     have HM:Hd (M.length=j∧Blk wr A 31 (faA r g nn o (.slice (some ⟨b1,o1,none⟩) (j+1) c'))∧Kept (fun j=>j=A) w2 wr∧A+1<wr.heap.size∧∀ (W:World) (v:Value),W.ownsRow wr.heap.size 62 2 v (0+j) (zCs ([]++M))→Kept (fun j=>j=A∨j=A+1∨S j) wr W→∃ a' c',v=.slice a' j c'∧StR (fun j=>j=A∨j=A+1∨S j) W a' c' (F.take j)):=⟨hM2,NA,K,hwz,fun W v h1 h2=>hM5 W _ v h1 h2 (fun j hj e=>by rcases e with e | e | e <;> first | omega | (have:=HW.out.2 j e;have:=HA.out;omega))⟩
     obtain ⟨⟨-,-,-,-,u4⟩,-⟩:=(NA.kept (Kept.of_below B6 (fun _=>False)) id).fair
     clear TN TY TE e2 HE y0 y1 y2 y3 y4 yf0 yf1 yf2 yf3 yf4 hM1 hM2 hM3 hM4 hM5 B6 O6 SS NA NR K BW HT
     subst hw6
     go_wp2_with (at_builtin;refine wpl_lzs rfl _ _ rfl wr.heap.size _ [] M rfl R6.out.1 (some ⟨b1,o1,none⟩) j c' HM.out.1 rfl (by omega) (fun e=>by cases e) R6.out.2.1 R6.out.2.2.1 (by have:=HM.out.1;simp;omega) R6.out.2.2.2.2 ?_;intro v7 w7 o7 g7;have b7:Below wr.heap.size wr w7:=R6.out.2.2.2.1.grown g7 R6.out.2.2.2.2 (fun q e=>by injection e with e;have e:wr.heap.size=q:=e;omega);have NA7:=HM.out.2.1.kept (Kept.of_below b7 (fun _=>False)) id;have o7k:∀ W,Kept (fun j=>j=A) w7 W→w7.ownsRow wr.heap.size 62 2 v7 (0+j) (zCs ([]++M))→W.ownsRow wr.heap.size 62 2 v7 (0+j) (zCs ([]++M)):=fun W k h=>ownsRow_kept h k (fun q e=>by have:=(h.lt q e).1;have:=HM.out.2.2.2.1;omega);obtain ⟨a9,c9,rfl,-⟩:=HM.out.2.2.2.2 w7 v7 o7 (Kept.of_below b7 _);obtain ⟨q1,k1⟩:=fair_lanes NA7 (.slice a9 j c9);obtain ⟨a8,c8,e8,st⟩:=HM.out.2.2.2.2 _ _ (o7k _ k1 o7) ((Kept.of_below b7 _).trans (k1.mono (fun j _ e=>.inl e)));obtain ⟨rfl,-,rfl⟩:a9=a8∧True∧c9=c8:=(by injection e8 with x1 x2 x3;exact ⟨x1,trivial,x3⟩);obtain ⟨⟨z0,z1,z2,z3,z4⟩,zf0,zf1,zf2,zf3,zf4⟩:=NA7.fair;have R8:Hd (_∧_∧_):=⟨q1,st,HM.out.2.2.1.trans ((Kept.of_below b7 _).trans k1)⟩;have W8:=q1.cellv (v:=.slice a9 j c9) 4 rfl;clear b7 NA7 o7k q1 k1 e8 st o7 g7 HM R6)
     go_roundw
     case rel=>exact ⟨j,a9,c9,by omega,R8.out.1,R8.out.2.1,HX,R8.out.2.2⟩
     case measure=>rw [W8,x4];simp
    ·have HX:Hd (trN F o (j+1)=j+1):=⟨TN.out (fun h=>e2 (TE.out h.2))⟩
     clear TN TY TE SS NA NR BW K HT
     generalize (gl F j).L.length=m at *
     go_wp2_with fail
     refine bodyPost_ret (resFa42 _ _ _ rfl (HE.out HX.out).1) rfl ?_
     exact ⟨⟨_,rfl,(HE.out HX.out).2.1⟩,by rw [←HA.out];exact (HE.out HX.out).2.2⟩
   ·have HX:Hd (trN F o (j+1)=j+1):=⟨TN.out (fun h=>e1 h.1)⟩
    clear TN TY TE SS NA NR BW K HT
    go_wp2_with fail
    refine bodyPost_ret (resFa42 _ _ _ rfl (HE.out HX.out).1) rfl ?_
    exact ⟨⟨_,rfl,(HE.out HX.out).2.1⟩,by rw [←HA.out];exact (HE.out HX.out).2.2⟩
end Go.Proofs.YtlgibnmoogbdcaaGreat
