/-
  Somebody is dropped, by the reference, somebody has the number.
  What each call answers, whichever way it goes, told by one function.
  What each call answers, told whatever becomes of blocks that were there ahead of it.
  The mathematics of emptying: how many wait, and their seats, behind a take and a trim.
-/
import Derived.Test.YtlgibnmoogbdcaaGreatR21
import Derived.Test.YtlgibnmoogbdcaaGreatR12
import Derived.Test.YtlgibnmoogbdcaaGreatR13
import Derived.Test.YtlgibnmoogbdcaaGreatR14
import Derived.Test.YtlgibnmoogbdcaaGreatR18
import Derived.Test.YtlgibnmoogbdcaaGreatR19
import Derived.Test.YtlgibnmoogbdcaaGreatR15
namespace Go.Proofs.YtlgibnmoogbdcaaGreat
open Go.RowKit
set_option maxRecDepth 20000 in
set_option maxHeartbeats 2000000 in
theorem rfdrop_yes (r g nn o:Int) (a:Option Addr) (c:Nat) (F:List Ln) (id:Int) (w:World) (h:LsR w a c F) (hf:Few F) (k:Nat) (hk:k<F.length) (hno:∀ j,j<k→drB id (gl F j).L=false) (hyes:drB id (gl F k).L=true) :
  Calls Tryz.prog 49 #[.agg #[.int .u64 r,.int .i64 g,.int .i64 nn,.int .i64 o,.slice a F.length c],.int .i64 id] w fun e w'=>(∃ v,e=.returned (.tuple #[v,.agg #[.int .i64 (drT id (gl F k).L).id,.int .i64 (drT id (gl F k).L).wid,.int .i64 (drT id (gl F k).L).sts,.int .i64 (drT id (gl F k).L).sin,.int .i64 (drT id (gl F k).L).unt],.bool true])∧FaS (fun j=>j<w.heap.size) w' r g nn o (trm (F.set k ⟨(gl F k).s,drL id (gl F k).L⟩) o) v)∧Below w.heap.size w w':=by
 obtain ⟨uu,huu⟩:∃ uu,uu=drT id (gl F k).L:=⟨_,rfl⟩
 have HUU:Hd (uu=drT id (gl F k).L):=⟨huu⟩
 rw [←huu]
 clear huu
 obtain ⟨u0,u1,u2,u3,u4⟩:=uu
 simp only
 obtain ⟨w2,hw2⟩:∃ w2,w2=((w.alloc (.cells #[.int .u64 r,.int .i64 g,.int .i64 nn,.int .i64 o,.slice a F.length c] 31)).alloc (.cells #[.int .u64 0,.int .i64 0,.int .i64 0,.int .i64 0,.slice none 0 0] 31)).alloc (.cells #[.int .i64 0,.int .i64 0,.int .i64 0,.int .i64 0,.int .i64 0] 36):=⟨_,rfl⟩
 have BX:=boxes3 w 31 31 36 #[.int .u64 r,.int .i64 g,.int .i64 nn,.int .i64 o,.slice a F.length c] #[.int .u64 0,.int .i64 0,.int .i64 0,.int .i64 0,.slice none 0 0] #[.int .i64 0,.int .i64 0,.int .i64 0,.int .i64 0,.int .i64 0]
 rw [←hw2] at BX
 obtain ⟨B,N1,N2,N3⟩:=BX
 have HF:Hd (Few F):=⟨hf⟩
 have HW:Hd (LsR w a c F):=⟨h⟩
 have hlen:=hf.len
 obtain ⟨n,hn⟩:∃ n,F.length=n:=⟨_,rfl⟩
 have HL:Hd (F.length=n):=⟨hn⟩
 have HN:Hd (LsR w2 a c F∧Below w.heap.size w w2∧Blk w2 w.heap.size 31 (faA r g nn o (.slice a n c))∧Blk w2 (w.heap.size+1) 31 (faA 0 0 0 0 (.slice none 0 0))∧Blk w2 (w.heap.size+1+1) 36 (tkA tkZ)):=⟨h.carry B,B,by rw [←hn];exact N1,N2,N3⟩
 have hs:=N3.lt
 obtain ⟨⟨x0,x1,x2,x3,x4⟩,-⟩:=Blk.fair N1
 rw [hn] at hlen hw2 x4 ⊢
 have HNO:Hd (∀ j,j<k→drB id (gl F j).L=false):=⟨hno⟩
 have HYES:Hd (drB id (gl F k).L=true):=⟨hyes⟩
 have hkn:k<n:=by omega
 clear hno hyes hk hn B N1 N2 N3 h hf
 go_enter Tryz.func49,Tryz.ntmps49
 go_upto_region 1 with fail
 rw [←hw2]
 clear hw2
 obtain ⟨A,hA⟩:∃ A,A=w.heap.size:=⟨_,rfl⟩
 have HA:Hd (A=w.heap.size):=⟨hA⟩
 rw [←hA] at HN hs x0 x1 x2 x3 x4 ⊢
 clear hA
 go_wp2
 clear x0 x1 x2 x3 x4
 go_loopw [7] (fun i wr=>∃ j:Nat,j≤k∧i=.int .i64 j∧Below w2.heap.size w2 wr) (fun i _=>n - (intOf i).toNat)
 case atStart=>exact ⟨0,Nat.zero_le _,rfl,Below.refl _ _⟩
 case round =>
  obtain ⟨j,hj,rfl,p3⟩:=hrel
  have H3:Hd (LsR wr a c F∧Below A w wr∧Blk wr A 31 (faA r g nn o (.slice a n c))∧Blk wr (A+1) 31 (faA 0 0 0 0 (.slice none 0 0))∧Blk wr (A+1+1) 36 (tkA tkZ)) :=
   ⟨HN.out.1.carry p3,HN.out.2.1.trans (p3.mono (show A≤w2.heap.size by omega)),HN.out.2.2.1.kept (Kept.of_below p3 (fun _=>False)) (fun h=>h),HN.out.2.2.2.1.kept (Kept.of_below p3 (fun _=>False)) (fun h=>h),HN.out.2.2.2.2.kept (Kept.of_below p3 (fun _=>False)) (fun h=>h)⟩
  by_cases hlt:j<k
  ·skip
   obtain ⟨b1,o1,a1,c1,rfl,hb1,d0,d1,s1⟩:=H3.out.1.at (k:=j) (by rw [HL.out];omega)
   have HK:=HF.out.at j
   have hjn:j<n:=by omega
   obtain ⟨⟨x0,x1,x2,x3,x4⟩,-⟩:=H3.out.2.2.1.fair
   have DP:=rdrop_ok (gl F j).s a1 c1 (gl F j).L id wr s1 (by omega)
   rw [HNO.out j (by omega)] at DP
   obtain ⟨tt,htt⟩:∃ tt,tt=drT id (gl F j).L:=⟨_,rfl⟩
   rw [←htt] at DP
   clear htt
   obtain ⟨t0,t1,t2,t3,t4⟩:=tt
   simp only at DP
   have P:Hd (Below w2.heap.size w2 wr):=⟨p3⟩
   clear p3 H3 s1 hb1
   generalize (gl F j).L.length=m at *
   obtain ⟨s,hs'⟩:∃ s,s=(gl F j).s:=⟨_,rfl⟩
   rw [←hs'] at DP d0
   clear hs'
   go_wp2_with fail
   go_at_call 82
   refine DP.mono ?_
   rintro e w5 ⟨⟨v5,rfl,⟨a5,c5,rfl,-⟩,-⟩,b5⟩
   clear DP d0 d1 x0 x1 x2 x3 x4
   generalize (drL id (gl F j).L).length=m5 at *
   obtain ⟨B6,N6,N7⟩:=boxes w5 62 36 #[.int .u64 s,.slice a5 m5 c5] #[.int .i64 t0,.int .i64 t1,.int .i64 t2,.int .i64 t3,.int .i64 t4]
   have R6:Hd (Below w2.heap.size w2 ((w5.alloc (.cells #[.int .u64 s,.slice a5 m5 c5] 62)).alloc (.cells #[.int .i64 t0,.int .i64 t1,.int .i64 t2,.int .i64 t3,.int .i64 t4] 36))):=⟨P.out.trans ((b5.trans (B6.mono b5.size)).mono P.out.size)⟩
   clear b5 B6 N6 N7
   go_wp2
   go_roundw
   case rel=>exact ⟨j+1,by omega,by go_num,R6.out⟩
   case measure=>simp [intOf];omega
  ·skip
   obtain rfl:j=k:=by omega
   obtain ⟨b1,o1,a1,c1,rfl,hb1,d0,d1,s1⟩:=H3.out.1.at (k:=j) (by rw [HL.out];omega)
   have HK:=HF.out.at j
   have HKH:Hd (Word (gl F j).s∧(gl F j).L.length≤1000):=⟨HK⟩
   have hs3:=p3.size
   obtain ⟨⟨x0,x1,x2,x3,x4⟩,-⟩:=H3.out.2.2.1.fair
   have DP:=rdrop_ok (gl F j).s a1 c1 (gl F j).L id wr s1 (by omega)
   rw [HYES.out,← HUU.out] at DP
   simp only at DP
   have HDL:Hd ((drL id (gl F j).L).length≤(gl F j).L.length):=⟨drL_len _ _⟩
   clear p3 s1 hb1
   generalize (gl F j).L.length=m at *
   obtain ⟨D,hD⟩:∃ D,D=drL id (gl F j).L:=⟨_,rfl⟩
   have HD:Hd (D=drL id (gl F j).L):=⟨hD⟩
   rw [←hD] at DP HDL
   clear hD
   obtain ⟨s,hs'⟩:∃ s,s=(gl F j).s:=⟨_,rfl⟩
   have HS':Hd (s=(gl F j).s):=⟨hs'⟩
   have HSD:Hd (F.set j ⟨(gl F j).s,drL id (gl F j).L⟩=F.set j ⟨s,D⟩):=⟨by rw [HS'.out,HD.out]⟩
   rw [←hs'] at DP d0 HKH
   clear hs'
   go_wp2_with fail
   go_at_call 82
   refine DP.mono ?_
   rintro e w5 ⟨⟨v5,rfl,-,hv5⟩,b5⟩
   obtain ⟨a5,c5,rfl,-,o5⟩:=hv5 rfl
   clear DP d0 d1 x0 x1 x2 x3 x4 hv5
   obtain ⟨m5,hm5⟩:∃ m5,m5=D.length:=⟨_,rfl⟩
   have HM5:Hd (m5=D.length):=⟨hm5⟩
   rw [←hm5] at o5 HDL ⊢
   clear hm5
   obtain ⟨B7,N7,N8⟩:=boxes w5 62 36 #[.int .u64 s,.slice a5 m5 c5] #[.int .i64 u0,.int .i64 u1,.int .i64 u2,.int .i64 u3,.int .i64 u4]
   obtain ⟨w7,hw7⟩:∃ w7,w7=(w5.alloc (.cells #[.int .u64 s,.slice a5 m5 c5] 62)).alloc (.cells #[.int .i64 u0,.int .i64 u1,.int .i64 u2,.int .i64 u3,.int .i64 u4] 36):=⟨_,rfl⟩
   rw [←hw7] at B7 N7 N8
   have b37:Below wr.heap.size wr w7:=b5.trans (B7.mono b5.size)
   have H7:Hd (LsR w7 (some ⟨b1,o1,none⟩) c F∧Below A w w7∧Blk w7 A 31 (faA r g nn o (.slice (some ⟨b1,o1,none⟩) n c))∧Blk w7 (A+1) 31 (faA 0 0 0 0 (.slice none 0 0))∧Blk w7 (A+1+1) 36 (tkA tkZ)∧Blk w7 w5.heap.size 62 (lnA s (.slice a5 m5 c5))∧Blk w7 (w5.heap.size+1) 36 (tkA ⟨u0,u1,u2,u3,u4⟩)∧OwnT w7 wr.heap.size (.slice a5 m5 c5) D) :=
    ⟨H3.out.1.carry b37,H3.out.2.1.trans (b37.mono (show A≤wr.heap.size by omega)),H3.out.2.2.1.kept (Kept.of_below b37 (fun _=>False)) (fun h=>h),H3.out.2.2.2.1.kept (Kept.of_below b37 (fun _=>False)) (fun h=>h),H3.out.2.2.2.2.kept (Kept.of_below b37 (fun _=>False)) (fun h=>h),N7,N8,o5.kept (Kept.of_below B7 (fun _=>False)) (fun _ _ h=>h)⟩
   have hs5:wr.heap.size≤w5.heap.size:=b5.size
   clear o5 b5 B7 N7 N8 b37 H3
   have CP:=rcopy_ok r g nn o (some ⟨b1,o1,none⟩) c F w7 H7.out.1 HF.out
   rw [HL.out] at CP
   obtain ⟨⟨x0,x1,x2,x3,x4⟩,-⟩:=H7.out.2.2.1.fair
   go_upto_region 6 with fail
   rw [←hw7]
   clear hw7
   generalize w5.heap.size=y at *
   go_wp2_with fail
   go_at_call 32
   refine CP.mono ?_
   rintro e w6 ⟨⟨v6,rfl,u6,rfl,o6⟩,b6⟩
   clear CP x0 x1 x2 x3 x4
   obtain ⟨q,c6,e6,hq0,hq⟩:=o6.blk (by rw [HL.out];omega)
   rw [HL.out] at e6
   subst e6
   obtain ⟨wd,hwd⟩:∃ wd,wd=w6.alloc (.cells #[.int .u64 r,.int .i64 g,.int .i64 nn,.int .i64 o,.slice (some ⟨q,0,none⟩) n c6] 31):=⟨_,rfl⟩
   have Bd:Below w6.heap.size w6 wd:=by rw [hwd];exact alloc_below _ _
   have Nd:Blk wd w6.heap.size 31 (faA r g nn o (.slice (some ⟨q,0,none⟩) n c6)):=by rw [hwd];exact Blk.new _ _ _
   have b7d:Below w7.heap.size w7 wd:=b6.trans (Bd.mono b6.size)
   have O6:=(o6.kept (Kept.of_below Bd (fun _=>False)) (fun _ _ h=>h)).low (show wr.heap.size≤w7.heap.size by have:=H7.out.2.2.2.2.2.1.lt;omega)
   have OT:=H7.out.2.2.2.2.2.2.2.kept (Kept.of_below b7d (fun _=>False)) (fun _ _ h=>h)
   obtain ⟨q',cap,xx,yy,e9,hq1,hq2,⟨p0,p1,pf0,pf1⟩,O9,k9⟩:=O6.put (k:=j) (by rw [HL.out];exact hkn) ⟨s,D⟩ OT
   rw [HL.out] at e9
   obtain ⟨rfl,rfl⟩:q=q'∧c6=cap:=by injection e9 with x1 x2 x3;injection x1 with x1;injection x1 with x1;exact ⟨x1,x3⟩
   simp only at O9 k9
   have hy7:y+1<w7.heap.size:=H7.out.2.2.2.2.2.2.1.lt
   obtain ⟨⟨l0,l1⟩,-⟩:=(H7.out.2.2.2.2.2.1.kept (Kept.of_below b7d (fun _=>False)) (fun h=>h)).lane
   obtain ⟨⟨y0,y1,y2,y3,y4⟩,-⟩:=Nd.fair
   have H9:Hd (Below A w _∧Blk _ (A+1) 31 (faA 0 0 0 0 (.slice none 0 0))∧Blk _ (A+1+1) 36 (tkA tkZ)∧Blk _ (y+1) 36 (tkA ⟨u0,u1,u2,u3,u4⟩)∧Blk _ w6.heap.size 31 (faA r g nn o (.slice (some ⟨q,0,none⟩) n c6))∧OwL _ wr.heap.size (.slice (some ⟨q,0,none⟩) n c6) (F.set j ⟨s,D⟩)) :=
    ⟨(H7.out.2.1.trans (b7d.mono (show A≤w7.heap.size by omega))).trans (k9.below (B:=A) (by have:=b7d.size;omega) (fun j e=>by omega)),(H7.out.2.2.2.1.kept (Kept.of_below b7d (fun _=>False)) (fun h=>h)).kept k9 (by omega),(H7.out.2.2.2.2.1.kept (Kept.of_below b7d (fun _=>False)) (fun h=>h)).kept k9 (by omega),(H7.out.2.2.2.2.2.2.1.kept (Kept.of_below b7d (fun _=>False)) (fun h=>h)).kept k9 (by omega),Nd.kept k9 (by omega),O9⟩
   clear H7 o6 b6 Bd Nd b7d O6 OT O9 k9 e9
   go_upto_region 7 with fail
   rw [←hwd]
   clear hwd
   generalize w6.heap.size=z at *
   go_upto_region 8 with fail
   clear l0 l1 y0 y1 y2 y3 y4 p0 p1 pf0 pf1
   generalize World.setCell _ _ _=wp at *
   refine AnyG.start (T:=fun Y=>Kept (fun q0=>q0=A+1∨q0=A+1+1) wp.drew Y) (U:=fun _=>True) (j0:=100) (by kernel_rfl) ?_
   obtain ⟨w8,hw8⟩:∃ w8,w8=wp.drew:=⟨_,rfl⟩
   have H8:Hd (Below A w w8∧Blk w8 (A+1) 31 (faA 0 0 0 0 (.slice none 0 0))∧Blk w8 (A+1+1) 36 (tkA tkZ)∧Blk w8 (y+1) 36 (tkA ⟨u0,u1,u2,u3,u4⟩)∧Blk w8 z 31 (faA r g nn o (.slice (some ⟨q,0,none⟩) n c6))∧OwL w8 wr.heap.size (.slice (some ⟨q,0,none⟩) n c6) (F.set j ⟨s,D⟩)):=by
    have K8:Kept (fun _=>False) wp w8:=by rw [hw8];exact (Kept.refl _ _).drew
    obtain ⟨h1,h2,h3,h4,h5,h6⟩:=H9.out
    exact ⟨⟨by rw [hw8];exact h1.drew,h2.kept K8 (fun h=>h),h3.kept K8 (fun h=>h),h4.kept K8 (fun h=>h),h5.kept K8 (fun h=>h),h6.kept K8 (fun _ _ h=>h)⟩⟩
   rw [←hw8]
   clear hw8 H9
   have R:Kept (fun q0=>q0=A+1∨q0=A+1+1) w8 w8:=Kept.refl _ _
   have XY:Hd (∀ Y,Kept (fun q0=>q0=A+1∨q0=A+1+1) w8 Y→Y.cell? ⟨z,0,none⟩=some (.int .u64 r)∧Y.cell? ⟨z,1,none⟩=some (.int .i64 g)∧Y.cell? ⟨z,2,none⟩=some (.int .i64 nn)∧Y.cell? ⟨z,3,none⟩=some (.int .i64 o)∧Y.cell? ⟨z,4,none⟩=some (.slice (some ⟨q,0,none⟩) n c6)):=⟨fun Y qq=>(H8.out.2.2.2.2.1.kept qq (by omega)).fair.1⟩
   have XT:Hd (∀ Y,Kept (fun q0=>q0=A+1∨q0=A+1+1) w8 Y→Y.cell? ⟨y+1,0,none⟩=some (.int .i64 u0)∧Y.cell? ⟨y+1,1,none⟩=some (.int .i64 u1)∧Y.cell? ⟨y+1,2,none⟩=some (.int .i64 u2)∧Y.cell? ⟨y+1,3,none⟩=some (.int .i64 u3)∧Y.cell? ⟨y+1,4,none⟩=some (.int .i64 u4)):=⟨fun Y qq=>(H8.out.2.2.2.1.kept qq (by omega)).five.1⟩
   refine .tq 0 38 R ?_ (hy:=fun w hSw=>by have s:=XY.out w hSw;go_simp;rfl);simp only [oqA,oqB,oqC]
   refine .tq 2 40 R ?_ (hy:=fun w hSw=>by have s:=XT.out w hSw;go_simp;rfl);simp only [oqA,oqB,oqC]
   obtain ⟨a9,c9,e9,st9⟩:=H8.out.2.2.2.2.2.st (S:=fun q0=>q0<A+3) (fun q0 hj e=>by have:q0<A+3:=e;omega)
   rw [List.length_set,HL.out] at e9
   obtain ⟨rfl,rfl⟩:some ⟨q,0,none⟩=a9∧c6=c9:=by injection e9 with x1 x2 x3;exact ⟨x1,x3⟩
   have FS:Few (F.set j ⟨s,D⟩):=HF.out.set ⟨HKH.out.1,by have:=HKH.out.2;have:=HDL.out;have:=HM5.out;show D.length≤1000;omega⟩
   have TR:=rtrim_ok (fun q0=>q0<A+3) r g nn o _ _ (F.set j ⟨s,D⟩) w8 st9 (fun j e=>by have:j<A+3:=e;have:=H8.out.2.2.1.lt;omega) FS
   rw [List.length_set,HL.out] at TR
   refine AnyG.ready (rs:=[1]) (by kernel_rfl) (by simp) ?_
   refine AllG.cons rfl (fun K hK=>?_) AllG.nil
   go_simp
   refine TR.mono ?_
   rintro e w10 ⟨⟨v10,rfl,a10,c10,rfl,r10⟩,b10⟩
   obtain ⟨m10,hm10⟩:∃ m10,m10=(trm (F.set j ⟨s,D⟩) o).length:=⟨_,rfl⟩
   have HM10:Hd (m10=(trm (F.set j ⟨s,D⟩) o).length):=⟨hm10⟩
   rw [←hm10]
   clear hm10
   have R10:Kept (fun q0=>q0=A+1∨q0=A+1+1) w8 w10:=R.trans (Kept.of_below b10 _)
   refine hK.out _ _ ⟨R10,fun _=>trivial⟩ ?_
   clear hK K TR st9 e9
   have NR:=H8.out.2.1.kept (Kept.of_below b10 (fun _=>False)) (fun h=>h)
   have NT:=H8.out.2.2.1.kept (Kept.of_below b10 (fun _=>False)) (fun h=>h)
   have BW:=H8.out.1.trans (b10.mono (show A≤w8.heap.size by have:=H8.out.2.1.lt;omega))
   obtain ⟨⟨y0,y1,y2,y3,y4⟩,yf0,yf1,yf2,yf3,yf4⟩:=NR.fair
   obtain ⟨⟨-,p2,pk⟩,q1,q2,k2⟩:=ft_put NR NT r g nn o (.slice a10 m10 c10) ⟨u0,u1,u2,u3,u4⟩
   obtain ⟨⟨d0,d1,d2,d3,d4⟩,e0,e1,e2,e3,e4⟩:=p2.five
   simp only [tkZ] at d0 d1 d2 d3 d4 q1 q2 k2
   refine AnyG.ready (rs:=[3]) (by kernel_rfl) (by simp) ?_
   refine AllG.cons rfl (fun K hK=>?_) AllG.nil
   go_simp
   refine hK.out _ _ ⟨R10.trans (pk.mono (fun j _ e=>.inl e)),fun _=>trivial⟩ ?_
   clear hK K
   refine AnyG.ready (rs:=[4]) (by kernel_rfl) (by simp) ?_
   refine AllG.cons rfl (fun K hK=>?_) AllG.nil
   go_simp
   have R11:=R10.trans k2
   refine hK.out _ _ ⟨R11,fun _=>trivial⟩ ?_
   clear hK K
   refine .tq 5 6 R11 ?_;simp only [oqA,oqB,oqC]
   refine AnyG.done (by kernel_rfl) ?_ _
   have HE:Hd (_∧_∧_∧_):=⟨q1,q2,(r10.next (k2.mono (T:=fun j=>j<A+3) (fun j _ e=>by have:j=A+1∨j=A+1+1:=e;show j<A+3;omega))).low (T:=fun j=>j<A) (fun j _ h=>by have:j<A:=h;show j<A+3;omega),BW.trans (k2.below (B:=A) (by have:=NR.lt;omega) (fun j e=>by omega))⟩
   clear NR NT BW p2 pk q1 q2 k2 r10 b10 y0 y1 y2 y3 y4 yf0 yf1 yf2 yf3 yf4 d0 d1 d2 d3 d4 e0 e1 e2 e3 e4 R10 R11 R XY XT H8
   go_wp2_with fail
   refine bodyPost_ret (resFt26 (t:=⟨u0,u1,u2,u3,u4⟩) _ _ _ _ true rfl rfl rfl HE.out.1 HE.out.2.1) rfl ?_
   rw [←HA.out,HSD.out]
   exact ⟨⟨_,rfl,_,_,by rw [HM10.out],HE.out.2.2.1⟩,HE.out.2.2.2⟩
structure Fa where
 r:Int
 g:Int
 n:Int
 o:Int
 F:List Ln
def FaW (w:World) (x:Fa) (v:Value):Prop:=FaV w x.r x.g x.n x.o x.F v
def xZ:Fa:=⟨0,0,0,0,[]⟩
theorem FaS.w {S:Nat→Prop} {w:World} {x:Fa} {v:Value} (h:FaS S w x.r x.g x.n x.o x.F v):FaW w x v:=h.read (Kept.refl _ _)
theorem FaW.carry {w w':World} {x:Fa} {v:Value} (h:FaW w x v) (b:Below w.heap.size w w'):FaW w' x v:=FaV.carry h b
def nwX (o g n:Int):Fa:=if Good o g n then ⟨0,g,n,o,nwF o.toNat⟩ else xZ
def nwE (o g n:Int):Int:=if Good o g n then 0 else 1
def shX (x:Fa) (o g n:Int):Fa:=if Good o g n then ⟨x.r,g,n,o,trm (shF x.F o.toNat) o⟩ else xZ
section
variable (x:Fa) (a:Option Addr) (c:Nat) (w:World) (h:LsR w a c x.F) (hf:Few x.F)
include h hf
end
def jnX (x:Fa) (k:Int) (t:Tk):Fa:=if k<0 then xZ else if x.n≤((gl x.F k.toNat).L.length:Int) then xZ else ⟨x.r,x.g,x.n,x.o,jnF x.F k.toNat x.r t⟩
def jnK (x:Fa) (k:Int):Int:=if k<0 then 0 else if x.n≤((gl x.F k.toNat).L.length:Int) then 0 else k
def jnE (x:Fa) (k:Int):Int:=if k<0 then 6 else if x.n≤((gl x.F k.toNat).L.length:Int) then 7 else 0
section
variable (x:Fa) (a:Option Addr) (c:Nat) (ah:Option Addr) (nh ch:Nat) (H0:Nat→Int) (t:Tk) (w:World) (h:LsR w a c x.F) (hf:Few x.F) (hh:HnR w ah nh H0) (hnh:nh≤1000)
include h hf hh hnh
end
def tkX (x:Fa):Fa:=if nxt x.F x.g<0 then x else ⟨max x.r (fN x.g (gl x.F (nxt x.F x.g).toNat)),x.g,x.n,x.o,trm (tkF x.F (nxt x.F x.g).toNat x.g) x.o⟩
def tkT (x:Fa):Tk:=if nxt x.F x.g<0 then tkZ else gt (gl x.F (nxt x.F x.g).toNat).L 0
def tkO (x:Fa):Bool:=decide (0≤nxt x.F x.g)
def dpK (F:List Ln) (id:Int):Nat:=F.findIdx (fun l=>drB id l.L)
def dpX (x:Fa) (id:Int):Fa:=if dpK x.F id<x.F.length then ⟨x.r,x.g,x.n,x.o,trm (x.F.set (dpK x.F id) ⟨(gl x.F (dpK x.F id)).s,drL id (gl x.F (dpK x.F id)).L⟩) x.o⟩ else x
def dpT (x:Fa) (id:Int):Tk:=if dpK x.F id<x.F.length then drT id (gl x.F (dpK x.F id)).L else tkZ
def dpO (x:Fa) (id:Int):Bool:=decide (dpK x.F id<x.F.length)
theorem dpK_no {F:List Ln} {id:Int} {j:Nat} (h:j<dpK F id) (hj:j<F.length):drB id (gl F j).L=false:=by
 have h2:=List.not_of_lt_findIdx (p:=fun l:Ln=>drB id l.L) h
 have e:F[j]?=some (gl F j):=gl_get hj
 rw [List.getElem?_eq_getElem hj] at e
 injection e with e
 simpa [e] using h2
theorem dpK_yes {F:List Ln} {id:Int} (h:dpK F id<F.length):drB id (gl F (dpK F id)).L=true:=by
 have h2:=List.findIdx_getElem (p:=fun l:Ln=>drB id l.L) (w:=h)
 have e:F[dpK F id]?=some (gl F (dpK F id)):=gl_get h
 rw [List.getElem?_eq_getElem h] at e
 injection e with e
 rw [←e]
 exact h2
section
variable (x:Fa) (a:Option Addr) (c:Nat) (w:World) (h:LsR w a c x.F) (hf:Few x.F)
include h hf
end
structure Fw100 (F:List Ln):Prop where
 len:F.length≤100
 each:∀ l∈F,Word l.s∧l.L.length≤110
theorem Fw100.few {F:List Ln} (h:Fw100 F):Few F:=⟨by have:=h.len;omega,fun l hl=>⟨(h.each l hl).1,by have:=(h.each l hl).2;omega⟩⟩
theorem xZ_few:Few xZ.F:=⟨by decide,fun _ h=>by cases h⟩
theorem nwX_few (o g n:Int):Few (nwX o g n).F:=by
 unfold nwX
 split
 ·rename_i h
  exact ⟨by show (nwF o.toNat).length≤200;rw [nwF_len];have:=h.1;omega,fun l hl=>by
   rw [(List.mem_replicate.1 hl).2];exact ⟨⟨by decide,by decide⟩,by decide⟩⟩
 ·exact xZ_few
theorem shX_few {x:Fa} (h:Few x.F) (o g n:Int):Few (shX x o g n).F:=by
 unfold shX
 split
 ·rename_i hg
  exact (h.sh (by have:=hg.1;omega)).trm o
 ·exact xZ_few
theorem jnX_few {x:Fa} (h:Few x.F) (h2:∀ k,(gl x.F k).L.length≤999) (hr:Word x.r) (k:Int) (t:Tk):Few (jnX x k t).F:=by
 unfold jnX
 split
 ·exact xZ_few
 ·split
  ·exact xZ_few
  ·exact h.set ⟨jnS_word (h.at _).1 hr,by have:=h2 k.toNat;simp;omega⟩
theorem tkX_few {x:Fa} (h:Few x.F):Few (tkX x).F:=by
 unfold tkX
 split
 ·exact h
 ·exact (h.set ⟨tkS_word (h.at _).1,by have:=(h.at (nxt x.F x.g).toNat).2;simp;omega⟩).trm _
theorem dpX_few {x:Fa} (h:Few x.F) (id:Int):Few (dpX x id).F:=by
 unfold dpX
 split
 ·have h1:=(h.at (dpK x.F id)).2
  have h2:=drL_len id (gl x.F (dpK x.F id)).L
  exact (Few.set h (k:=dpK x.F id) (l:=⟨(gl x.F (dpK x.F id)).s,drL id (gl x.F (dpK x.F id)).L⟩) ⟨(h.at (dpK x.F id)).1,Nat.le_trans h2 h1⟩).trm _
 ·exact h
def FaT (S:Nat→Prop) (w:World) (x:Fa) (v:Value):Prop:=FaS S w x.r x.g x.n x.o x.F v
theorem StR.nil (S:Nat→Prop) (w:World):StR S w none 0 []:=⟨Nat.le_refl _,fun _=>rfl,[],rfl,fun _ _=>⟨fun h=>absurd rfl h,fun _ h=>by cases h⟩⟩
theorem xZ_t (S:Nat→Prop) (w:World):FaT S w xZ faZ:=⟨none,0,rfl,StR.nil S w⟩
theorem FaS.low {S T:Nat→Prop} {w:World} {r g n o:Int} {F:List Ln} {v:Value} (h:FaS S w r g n o F v) (e:∀ j,j<w.heap.size→T j→S j):FaS T w r g n o F v:=by
 obtain ⟨a,c,e',s⟩:=h
 exact ⟨a,c,e',s.low e⟩
theorem FaT.w {S:Nat→Prop} {w:World} {x:Fa} {v:Value} (h:FaT S w x v):FaW w x v:=FaS.read h (Kept.refl _ _)
def suX (x:Fa):Fa:=⟨x.r,x.g,x.n,0,trm x.F 0⟩
theorem new_st (S:Nat→Prop) (o g n:Int) (w:World) (hS:∀ j,S j→j<w.heap.size):Calls Tryz.prog 38 #[.int .i64 o,.int .i64 g,.int .i64 n] w fun e w'=>(∃ v,e=.returned (.tuple #[v,.int .i64 (nwE o g n)])∧FaT S w' (nwX o g n) v)∧Below w.heap.size w w':=by
 unfold nwX nwE
 by_cases h:Good o g n
 ·rw [if_pos h,if_pos h]
  obtain ⟨m,rfl⟩:∃ m:Nat,o=m:=⟨o.toNat,by have:=h.1;omega⟩
  refine (new_yes m g n w h).mono ?_
  rintro e w' ⟨⟨v,rfl,hv⟩,b⟩
  exact ⟨⟨v,rfl,by rw [Int.toNat_natCast];exact hv.st (fun j hj hs=>absurd (hS j hs) (by omega))⟩,b⟩
 ·rw [if_neg h,if_neg h]
  refine (new_no o g n w h).mono ?_
  rintro e w' ⟨rfl,b⟩
  exact ⟨⟨_,rfl,xZ_t S w'⟩,b⟩
theorem rnew_st (S:Nat→Prop) (o g n:Int) (w:World) (hS:∀ j,S j→j<w.heap.size):Calls Tryz.prog 39 #[.int .i64 o,.int .i64 g,.int .i64 n] w fun e w'=>(∃ v,e=.returned (.tuple #[v,.int .i64 (nwE o g n)])∧FaT S w' (nwX o g n) v)∧Below w.heap.size w w':=by
 unfold nwX nwE
 by_cases h:Good o g n
 ·rw [if_pos h,if_pos h]
  obtain ⟨m,rfl⟩:∃ m:Nat,o=m:=⟨o.toNat,by have:=h.1;omega⟩
  refine (rnew_yes m g n w h).mono ?_
  rintro e w' ⟨⟨v,rfl,hv⟩,b⟩
  exact ⟨⟨v,rfl,by rw [Int.toNat_natCast];exact hv.st (fun j hj hs=>absurd (hS j hs) (by omega))⟩,b⟩
 ·rw [if_neg h,if_neg h]
  refine (rnew_no o g n w h).mono ?_
  rintro e w' ⟨rfl,b⟩
  exact ⟨⟨_,rfl,xZ_t S w'⟩,b⟩
section
variable (x:Fa) (a:Option Addr) (c:Nat) (w:World) (S:Nat→Prop) (h:StR S w a c x.F) (hS:∀ j,S j→j<w.heap.size) (hf:Few x.F)
include h hS hf
theorem shape_st (o g n:Int):Calls Tryz.prog 57 #[.agg #[.int .u64 x.r,.int .i64 x.g,.int .i64 x.n,.int .i64 x.o,.slice a x.F.length c],.int .i64 o,.int .i64 g,.int .i64 n] w fun e w'=>(∃ v,e=.returned (.tuple #[v,.int .i64 (nwE o g n)])∧FaT S w' (shX x o g n) v)∧Below w.heap.size w w':=by
 unfold shX nwE
 by_cases hg:Good o g n
 ·rw [if_pos hg,if_pos hg]
  obtain ⟨m,rfl⟩:∃ m:Nat,o=m:=⟨o.toNat,by have:=hg.1;omega⟩
  refine (shape_yes x.r x.g x.n x.o g n m a c x.F w (h.read (Kept.refl _ _)) hf hg).mono ?_
  rintro e w' ⟨⟨v,rfl,hv⟩,b⟩
  exact ⟨⟨v,rfl,by rw [Int.toNat_natCast];exact hv.low (fun j _ hs=>hS j hs)⟩,b⟩
 ·rw [if_neg hg,if_neg hg]
  refine (shape_no x.r x.g x.n x.o o g n a c x.F w hg).mono ?_
  rintro e w' ⟨rfl,b⟩
  exact ⟨⟨_,rfl,xZ_t S w'⟩,b⟩
theorem rshape_st (o g n:Int):Calls Tryz.prog 59 #[.agg #[.int .u64 x.r,.int .i64 x.g,.int .i64 x.n,.int .i64 x.o,.slice a x.F.length c],.int .i64 o,.int .i64 g,.int .i64 n] w fun e w'=>(∃ v,e=.returned (.tuple #[v,.int .i64 (nwE o g n)])∧FaT S w' (shX x o g n) v)∧Below w.heap.size w w':=by
 unfold shX nwE
 by_cases hg:Good o g n
 ·rw [if_pos hg,if_pos hg]
  obtain ⟨m,rfl⟩:∃ m:Nat,o=m:=⟨o.toNat,by have:=hg.1;omega⟩
  refine (rshape_yes x.r x.g x.n x.o g n m a c x.F w (h.read (Kept.refl _ _)) hf hg).mono ?_
  rintro e w' ⟨⟨v,rfl,hv⟩,b⟩
  exact ⟨⟨v,rfl,by rw [Int.toNat_natCast];exact hv.low (fun j _ hs=>hS j hs)⟩,b⟩
 ·rw [if_neg hg,if_neg hg]
  refine (rshape_no x.r x.g x.n x.o o g n a c x.F w hg).mono ?_
  rintro e w' ⟨rfl,b⟩
  exact ⟨⟨_,rfl,xZ_t S w'⟩,b⟩
end
section
variable (x:Fa) (a:Option Addr) (c:Nat) (ah:Option Addr) (nh ch:Nat) (H0:Nat→Int) (t:Tk) (w:World) (S:Nat→Prop) (h:StR S w a c x.F) (hS:∀ j,S j→j<w.heap.size) (hf:Few x.F) (hh:HnR w ah nh H0) (hnh:nh≤1000)
include h hS hf hh hnh
theorem join_st:Calls Tryz.prog 65 #[.agg #[.int .u64 x.r,.int .i64 x.g,.int .i64 x.n,.int .i64 x.o,.slice a x.F.length c],.slice ah nh ch,.agg #[.int .i64 t.id,.int .i64 t.wid,.int .i64 t.sts,.int .i64 t.sin,.int .i64 t.unt]] w fun e w'=>(∃ v,e=.returned (.tuple #[v,.int .i64 (jnK x (chF x.F x.o H0 nh)),.int .i64 (jnE x (chF x.F x.o H0 nh))])∧FaT S w' (jnX x (chF x.F x.o H0 nh) t) v)∧Below w.heap.size w w':=by
 rcases (chF_is x.F x.o H0 nh).rng with hk | hk
 ·rw [hk]
  refine (fjoin_none x.r x.g x.n x.o a c x.F ah nh ch H0 t w (h.read (Kept.refl _ _)) hf hh hnh hk).mono ?_
  rintro e w' ⟨rfl,b⟩
  exact ⟨⟨_,rfl,xZ_t S w'⟩,b⟩
 ·obtain ⟨k,hk2⟩:∃ k:Nat,chF x.F x.o H0 nh=k:=⟨(chF x.F x.o H0 nh).toNat,by have:=hk.1;omega⟩
  have hkn:k<x.F.length:=by have:=hk.2.2;omega
  have hneg:¬ (k:Int)<0:=by omega
  rw [hk2]
  simp only [jnX,jnK,jnE,if_neg hneg,Int.toNat_natCast]
  by_cases hfull:x.n≤((gl x.F k).L.length:Int)
  ·simp only [if_pos hfull]
   refine (fjoin_full x.r x.g x.n x.o a c x.F ah nh ch H0 t w (h.read (Kept.refl _ _)) hf hh hnh k hkn hk2 hfull).mono ?_
   rintro e w' ⟨rfl,b⟩
   exact ⟨⟨_,rfl,xZ_t S w'⟩,b⟩
  ·simp only [if_neg hfull]
   refine (fjoin_yes x.r x.g x.n x.o a c x.F ah nh ch H0 t w (h.read (Kept.refl _ _)) hf hh hnh k hkn hk2 (by omega)).mono ?_
   rintro e w' ⟨⟨v,rfl,hv⟩,b⟩
   exact ⟨⟨v,rfl,hv.low (fun j _ hs=>hS j hs)⟩,b⟩
theorem rjoin_st:Calls Tryz.prog 36 #[.agg #[.int .u64 x.r,.int .i64 x.g,.int .i64 x.n,.int .i64 x.o,.slice a x.F.length c],.slice ah nh ch,.agg #[.int .i64 t.id,.int .i64 t.wid,.int .i64 t.sts,.int .i64 t.sin,.int .i64 t.unt]] w fun e w'=>(∃ v,e=.returned (.tuple #[v,.int .i64 (jnK x (chF x.F x.o H0 nh)),.int .i64 (jnE x (chF x.F x.o H0 nh))])∧FaT S w' (jnX x (chF x.F x.o H0 nh) t) v)∧Below w.heap.size w w':=by
 rcases (chF_is x.F x.o H0 nh).rng with hk | hk
 ·rw [hk]
  refine (rfjoin_none x.r x.g x.n x.o a c x.F ah nh ch H0 t w (h.read (Kept.refl _ _)) hf hh hnh hk).mono ?_
  rintro e w' ⟨rfl,b⟩
  exact ⟨⟨_,rfl,xZ_t S w'⟩,b⟩
 ·obtain ⟨k,hk2⟩:∃ k:Nat,chF x.F x.o H0 nh=k:=⟨(chF x.F x.o H0 nh).toNat,by have:=hk.1;omega⟩
  have hkn:k<x.F.length:=by have:=hk.2.2;omega
  have hneg:¬ (k:Int)<0:=by omega
  rw [hk2]
  simp only [jnX,jnK,jnE,if_neg hneg,Int.toNat_natCast]
  by_cases hfull:x.n≤((gl x.F k).L.length:Int)
  ·simp only [if_pos hfull]
   refine (rfjoin_full x.r x.g x.n x.o a c x.F ah nh ch H0 t w (h.read (Kept.refl _ _)) hf hh hnh k hkn hk2 hfull).mono ?_
   rintro e w' ⟨rfl,b⟩
   exact ⟨⟨_,rfl,xZ_t S w'⟩,b⟩
  ·simp only [if_neg hfull]
   refine (rfjoin_yes x.r x.g x.n x.o a c x.F ah nh ch H0 t w (h.read (Kept.refl _ _)) hf hh hnh k hkn hk2 (by omega)).mono ?_
   rintro e w' ⟨⟨v,rfl,hv⟩,b⟩
   exact ⟨⟨v,rfl,hv.low (fun j _ hs=>hS j hs)⟩,b⟩
end
section
variable (x:Fa) (a:Option Addr) (c:Nat) (w:World) (S:Nat→Prop) (h:StR S w a c x.F) (hS:∀ j,S j→j<w.heap.size) (hf:Few x.F)
include h hS hf
theorem take_st:Calls Tryz.prog 41 #[.agg #[.int .u64 x.r,.int .i64 x.g,.int .i64 x.n,.int .i64 x.o,.slice a x.F.length c]] w fun e w'=>(∃ v,e=.returned (.tuple #[v,.agg #[.int .i64 (tkT x).id,.int .i64 (tkT x).wid,.int .i64 (tkT x).sts,.int .i64 (tkT x).sin,.int .i64 (tkT x).unt],.bool (tkO x)])∧FaT S w' (tkX x) v)∧Below w.heap.size w w':=by
 unfold tkX tkT tkO
 rcases (nxt_is x.F x.g).rng with hk | ⟨k,hk,-,-,-⟩
 ·rw [hk,if_pos (by decide),if_pos (by decide)]
  refine (ftake_none x.r x.g x.n x.o a c x.F w (h.read (Kept.refl _ _)) hf hk).mono ?_
  rintro e w' ⟨⟨v,rfl,hv⟩,b⟩
  exact ⟨⟨v,rfl,hv.low (fun j _ hs=>hS j hs)⟩,b⟩
 ·rw [hk,if_neg (by omega),if_neg (by omega),Int.toNat_natCast,decide_eq_true (by omega)]
  refine (ftake_yes x.r x.g x.n x.o a c x.F w (h.read (Kept.refl _ _)) hf k hk).mono ?_
  rintro e w' ⟨⟨v,rfl,hv⟩,b⟩
  exact ⟨⟨v,rfl,hv.low (fun j _ hs=>hS j hs)⟩,b⟩
theorem rtake_st:Calls Tryz.prog 43 #[.agg #[.int .u64 x.r,.int .i64 x.g,.int .i64 x.n,.int .i64 x.o,.slice a x.F.length c]] w fun e w'=>(∃ v,e=.returned (.tuple #[v,.agg #[.int .i64 (tkT x).id,.int .i64 (tkT x).wid,.int .i64 (tkT x).sts,.int .i64 (tkT x).sin,.int .i64 (tkT x).unt],.bool (tkO x)])∧FaT S w' (tkX x) v)∧Below w.heap.size w w':=by
 unfold tkX tkT tkO
 rcases (nxt_is x.F x.g).rng with hk | ⟨k,hk,-,-,-⟩
 ·rw [hk,if_pos (by decide),if_pos (by decide)]
  refine (rftake_none x.r x.g x.n x.o a c x.F w (h.read (Kept.refl _ _)) hf hk).mono ?_
  rintro e w' ⟨⟨v,rfl,hv⟩,b⟩
  exact ⟨⟨v,rfl,a,c,hv,h.high b (fun _ _ e=>e)⟩,b⟩
 ·rw [hk,if_neg (by omega),if_neg (by omega),Int.toNat_natCast,decide_eq_true (by omega)]
  refine (rftake_yes x.r x.g x.n x.o a c x.F w (h.read (Kept.refl _ _)) hf k hk).mono ?_
  rintro e w' ⟨⟨v,rfl,hv⟩,b⟩
  exact ⟨⟨v,rfl,hv.low (fun j _ hs=>hS j hs)⟩,b⟩
theorem drop_st (id:Int):Calls Tryz.prog 47 #[.agg #[.int .u64 x.r,.int .i64 x.g,.int .i64 x.n,.int .i64 x.o,.slice a x.F.length c],.int .i64 id] w fun e w'=>(∃ v,e=.returned (.tuple #[v,.agg #[.int .i64 (dpT x id).id,.int .i64 (dpT x id).wid,.int .i64 (dpT x id).sts,.int .i64 (dpT x id).sin,.int .i64 (dpT x id).unt],.bool (dpO x id)])∧FaT S w' (dpX x id) v)∧Below w.heap.size w w':=by
 unfold dpX dpT dpO
 by_cases hk:dpK x.F id<x.F.length
 ·rw [if_pos hk,if_pos hk,decide_eq_true hk]
  refine (fdrop_yes x.r x.g x.n x.o a c x.F id w (h.read (Kept.refl _ _)) hf (dpK x.F id) hk (fun j hj=>dpK_no hj (by omega)) (dpK_yes hk)).mono ?_
  rintro e w' ⟨⟨v,rfl,hv⟩,b⟩
  exact ⟨⟨v,rfl,hv.low (fun j _ hs=>hS j hs)⟩,b⟩
 ·rw [if_neg hk,if_neg hk,decide_eq_false hk]
  refine (fdrop_none x.r x.g x.n x.o a c x.F id w (h.read (Kept.refl _ _)) hf (fun j hj=>dpK_no (by omega) hj)).mono ?_
  rintro e w' ⟨⟨v,rfl,hv⟩,b⟩
  exact ⟨⟨v,rfl,hv.low (fun j _ hs=>hS j hs)⟩,b⟩
theorem rdrop_st (id:Int):Calls Tryz.prog 49 #[.agg #[.int .u64 x.r,.int .i64 x.g,.int .i64 x.n,.int .i64 x.o,.slice a x.F.length c],.int .i64 id] w fun e w'=>(∃ v,e=.returned (.tuple #[v,.agg #[.int .i64 (dpT x id).id,.int .i64 (dpT x id).wid,.int .i64 (dpT x id).sts,.int .i64 (dpT x id).sin,.int .i64 (dpT x id).unt],.bool (dpO x id)])∧FaT S w' (dpX x id) v)∧Below w.heap.size w w':=by
 unfold dpX dpT dpO
 by_cases hk:dpK x.F id<x.F.length
 ·rw [if_pos hk,if_pos hk,decide_eq_true hk]
  refine (rfdrop_yes x.r x.g x.n x.o a c x.F id w (h.read (Kept.refl _ _)) hf (dpK x.F id) hk (fun j hj=>dpK_no hj (by omega)) (dpK_yes hk)).mono ?_
  rintro e w' ⟨⟨v,rfl,hv⟩,b⟩
  exact ⟨⟨v,rfl,hv.low (fun j _ hs=>hS j hs)⟩,b⟩
 ·rw [if_neg hk,if_neg hk,decide_eq_false hk]
  refine (rfdrop_none x.r x.g x.n x.o a c x.F id w (h.read (Kept.refl _ _)) hf (fun j hj=>dpK_no (by omega) hj)).mono ?_
  rintro e w' ⟨⟨v,rfl,hv⟩,b⟩
  exact ⟨⟨v,rfl,a,c,hv,h.high b (fun _ _ e=>e)⟩,b⟩
end
section
variable (x:Fa) (a:Option Addr) (c:Nat) (w:World) (S:Nat→Prop) (h:StR S w a c x.F) (hS:∀ j,S j→j<w.heap.size) (hf:Few x.F)
include h hS hf
theorem shut_st:Calls Tryz.prog 58 #[.agg #[.int .u64 x.r,.int .i64 x.g,.int .i64 x.n,.int .i64 x.o,.slice a x.F.length c]] w fun e w'=>(∃ v,e=.returned v∧FaT S w' (suX x) v)∧Below w.heap.size w w':=by
 refine (shut_ok x.r x.g x.n x.o a c x.F w (h.read (Kept.refl _ _)) hf).mono ?_
 rintro e w' ⟨⟨v,rfl,hv⟩,b⟩
 exact ⟨⟨v,rfl,hv.low (fun j _ hs=>hS j hs)⟩,b⟩
end
end Go.Proofs.YtlgibnmoogbdcaaGreat

namespace Go.Proofs.YtlgibnmoogbdcaaGreat
theorem wt_app (F:List Ln) (m:Nat):∀ k,k≤m→wtT (F.take m) k=wtT F k
 | 0,_=>rfl
 | k+1,h=>by
  unfold wtT
  rw [wt_app F m k (by omega),gl_take (by omega)]
theorem st_app (F:List Ln) (m:Nat):∀ k,k≤m→stT (F.take m) k=stT F k
 | 0,_=>rfl
 | k+1,h=>by
  unfold stT
  rw [st_app F m k (by omega),gl_take (by omega)]
theorem sW_nil {l:Ln} (h:l.L=[]):sW l=0:=by
 unfold sW
 rw [h]
 rfl
theorem wt_trN (F:List Ln) (o:Int):∀ n,wtT F (trN F o n)=wtT F n
 | 0=>rfl
 | n+1=>by
  unfold trN
  split
  ·rename_i h
   rw [wt_trN F o n]
   show wtT F n=wtT F n+((gl F n).L.length:Int)
   rw [h.2]
   simp
  ·rfl
theorem st_trN (F:List Ln) (o:Int):∀ n,stT F (trN F o n)=stT F n
 | 0=>rfl
 | n+1=>by
  unfold trN
  split
  ·rename_i h
   rw [st_trN F o n]
   show stT F n=stT F n+sW (gl F n)
   rw [sW_nil h.2]
   simp
  ·rfl
def wtA (F:List Ln):Int:=wtT F F.length
def stA (F:List Ln):Int:=stT F F.length
theorem wt_trm (F:List Ln) (o:Int):wtA (trm F o)=wtA F:=by
 unfold wtA
 rw [trm_len]
 unfold trm
 rw [wt_app F _ _ (Nat.le_refl _),wt_trN]
theorem st_trm (F:List Ln) (o:Int):stA (trm F o)=stA F:=by
 unfold stA
 rw [trm_len]
 unfold trm
 rw [st_app F _ _ (Nat.le_refl _),st_trN]
theorem gl_set2 (F:List Ln) (k j:Nat) (l:Ln):gl (F.set k l) j=if j=k∧k<F.length then l else gl F j:=by
 by_cases e:j=k
 ·subst e
  by_cases h:j<F.length
  ·rw [if_pos ⟨rfl,h⟩,gl_set_same h]
  ·rw [if_neg (fun c=>h c.2),gl_out (by rw [List.length_set];omega),gl_out (by omega)]
 ·rw [if_neg (fun c=>e c.1),gl_set_ne (Ne.symm e)]
theorem wt_set {F:List Ln} {p:Nat} (hp:p<F.length) (l:Ln):∀ n,wtT (F.set p l) n=wtT F n+(if p<n then (l.L.length:Int) - ((gl F p).L.length:Int) else 0)
 | 0=>by rw [if_neg (Nat.not_lt_zero p)];rfl
 | n+1=>by
  have ih:=wt_set hp l n
  show wtT (F.set p l) n+((gl (F.set p l) n).L.length:Int)=wtT F n+((gl F n).L.length:Int)+_
  rw [ih,gl_set2]
  by_cases c:n=p∧p<F.length
  ·obtain ⟨rfl,-⟩:=c
   rw [if_neg (Nat.lt_irrefl n),if_pos (show n=n∧n<F.length from ⟨rfl,hp⟩),if_pos (Nat.lt_succ_self n)]
   omega
  ·rw [if_neg c]
   by_cases d:p<n
   ·rw [if_pos d,if_pos (by omega)]
    omega
   ·rw [if_neg d,if_neg (fun e=>c ⟨by omega,hp⟩)]
    omega
theorem st_set {F:List Ln} {p:Nat} (hp:p<F.length) (l:Ln):∀ n,stT (F.set p l) n=stT F n+(if p<n then sW l - sW (gl F p) else 0)
 | 0=>by rw [if_neg (Nat.not_lt_zero p)];rfl
 | n+1=>by
  have ih:=st_set hp l n
  show stT (F.set p l) n+sW (gl (F.set p l) n)=stT F n+sW (gl F n)+_
  rw [ih,gl_set2]
  by_cases c:n=p∧p<F.length
  ·obtain ⟨rfl,-⟩:=c
   rw [if_neg (Nat.lt_irrefl n),if_pos (show n=n∧n<F.length from ⟨rfl,hp⟩),if_pos (Nat.lt_succ_self n)]
   omega
  ·rw [if_neg c]
   by_cases d:p<n
   ·rw [if_pos d,if_pos (by omega)]
    omega
   ·rw [if_neg d,if_neg (fun e=>c ⟨by omega,hp⟩)]
    omega
theorem seats_cons (t:Tk) (L:List Tk):∀ k,seatsTo (t :: L) (k+1)=clW t.wid+seatsTo L k
 | 0=>by
  show 0+clW (gt (t :: L) 0).wid=clW t.wid+0
  rw [gt_cons_zero]
  omega
 | k+1=>by
  show seatsTo (t :: L) (k+1)+clW (gt (t :: L) (k+1)).wid=clW t.wid+(seatsTo L k+clW (gt L k).wid)
  rw [seats_cons t L k,gt_cons_succ]
  omega
theorem sW_tail {l:Ln} (h:l.L≠[]) (s':Int):sW ⟨s',l.L.tail⟩=sW l - clW (gt l.L 0).wid:=by
 obtain ⟨s,L⟩:=l
 cases L with
 | nil=>exact absurd rfl h
 | cons t L =>
  unfold sW
  show seatsTo L L.length=seatsTo (t :: L) (L.length+1) - clW t.wid
  rw [seats_cons]
  omega
theorem tk_less {x:Fa} {p:Nat} (e:nxt x.F x.g=p) (hp:p<x.F.length) (hne:(gl x.F p).L≠[]) :
  tkT x=gt (gl x.F p).L 0∧tkO x=true∧(tkX x).o=x.o∧(tkX x).F=trm (tkF x.F p x.g) x.o∧(tkX x).F.length≤x.F.length∧wtA (tkX x).F=wtA x.F - 1∧stA (tkX x).F=stA x.F - clW (gt (gl x.F p).L 0).wid:=by
 have e1:tkX x=⟨max x.r (fN x.g (gl x.F p)),x.g,x.n,x.o,trm (tkF x.F p x.g) x.o⟩:=by
  unfold tkX
  rw [e,if_neg (by omega),Int.toNat_natCast]
 refine ⟨by unfold tkT;rw [e,if_neg (by omega),Int.toNat_natCast],by unfold tkO;rw [e];exact decide_eq_true (by omega),by rw [e1],by rw [e1],?_,?_,?_⟩
 ·rw [e1]
  show (trm (tkF x.F p x.g) x.o).length≤_
  rw [trm_len]
  have:=trN_le (tkF x.F p x.g) x.o (tkF x.F p x.g).length
  have h2:(tkF x.F p x.g).length=x.F.length:=List.length_set
  omega
 ·rw [e1]
  show wtA (trm (tkF x.F p x.g) x.o)=_
  rw [wt_trm]
  unfold wtA tkF
  rw [List.length_set,wt_set hp,if_pos hp]
  show _+(((gl x.F p).L.tail.length:Int) - _)=_
  have:=len_pos hne
  rw [List.length_tail]
  omega
 ·rw [e1]
  show stA (trm (tkF x.F p x.g) x.o)=_
  rw [st_trm]
  unfold stA tkF
  rw [List.length_set,st_set hp,if_pos hp,sW_tail hne]
  omega
end Go.Proofs.YtlgibnmoogbdcaaGreat
