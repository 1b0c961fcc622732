/-
  Somebody is dropped, by the program, somebody has the number.
  Somebody is dropped, by the reference, somebody has the number.
  What each call answers, whichever way it goes, told by one function.
-/
import Derived.Test.YtlgibnmoogbdcaaR18
import Derived.Test.YtlgibnmoogbdcaaR11
import Derived.Test.YtlgibnmoogbdcaaR12
import Derived.Test.YtlgibnmoogbdcaaR13
import Derived.Test.YtlgibnmoogbdcaaR16
import Derived.Test.YtlgibnmoogbdcaaR17
namespace Go.Proofs.Ytlgibnmoogbdcaa
open Go.RowKit
set_option maxRecDepth 20000 in
set_option maxHeartbeats 2000000 in
theorem fdrop_yes (r g nn o:Int) (a:Option Addr) (c:Nat) (F:List Ln) (id:Int) (w:World) (h:LsR w a c F) (hf:Few F) (k:Nat) (hk:k<F.length) (hno:∀ j,j<k→drB id (gl F j).L=false) (hyes:drB id (gl F k).L=true) :
  Calls Try.prog 48 #[.agg #[.int .u64 r,.int .i64 g,.int .i64 nn,.int .i64 o,.slice a F.length c],.int .i64 id] w fun e w'=>(∃ v,e=.returned (.tuple #[v,.agg #[.int .i64 (drT id (gl F k).L).id,.int .i64 (drT id (gl F k).L).wid,.int .i64 (drT id (gl F k).L).sts,.int .i64 (drT id (gl F k).L).sin,.int .i64 (drT id (gl F k).L).unt],.bool true])∧FaS (fun j=>j<w.heap.size) w' r g nn o (trm (F.set k ⟨(gl F k).s,drL id (gl F k).L⟩) o) v)∧Below w.heap.size w w':=by
 obtain ⟨uu,huu⟩:∃ uu,uu=drT id (gl F k).L:=⟨_,rfl⟩
 have HUU:Hd (uu=drT id (gl F k).L):=⟨huu⟩
 rw [←huu]
 clear huu
 obtain ⟨u0,u1,u2,u3,u4⟩:=uu
 simp only
 obtain ⟨w2,hw2⟩:∃ w2,w2=((w.alloc (.cells #[.int .u64 r,.int .i64 g,.int .i64 nn,.int .i64 o,.slice a F.length c] 33)).alloc (.cells #[.int .u64 0,.int .i64 0,.int .i64 0,.int .i64 0,.slice none 0 0] 33)).alloc (.cells #[.int .i64 0,.int .i64 0,.int .i64 0,.int .i64 0,.int .i64 0] 42):=⟨_,rfl⟩
 have BX:=boxes3 w 33 33 42 #[.int .u64 r,.int .i64 g,.int .i64 nn,.int .i64 o,.slice a F.length c] #[.int .u64 0,.int .i64 0,.int .i64 0,.int .i64 0,.slice none 0 0] #[.int .i64 0,.int .i64 0,.int .i64 0,.int .i64 0,.int .i64 0]
 rw [←hw2] at BX
 obtain ⟨B,N1,N2,N3⟩:=BX
 have HF:Hd (Few F):=⟨hf⟩
 have HW:Hd (LsR w a c F):=⟨h⟩
 have hlen:=hf.len
 obtain ⟨n,hn⟩:∃ n,F.length=n:=⟨_,rfl⟩
 have HL:Hd (F.length=n):=⟨hn⟩
 have HN:Hd (LsR w2 a c F∧Below w.heap.size w w2∧Blk w2 w.heap.size 33 (faA r g nn o (.slice a n c))∧Blk w2 (w.heap.size+1) 33 (faA 0 0 0 0 (.slice none 0 0))∧Blk w2 (w.heap.size+1+1) 42 (tkA tkZ)):=⟨h.carry B,B,by rw [←hn];exact N1,N2,N3⟩
 have hs:=N3.lt
 obtain ⟨⟨x0,x1,x2,x3,x4⟩,-⟩:=Blk.fair N1
 rw [hn] at hlen hw2 x4 ⊢
 have HNO:Hd (∀ j,j<k→drB id (gl F j).L=false):=⟨hno⟩
 have HYES:Hd (drB id (gl F k).L=true):=⟨hyes⟩
 have hkn:k<n:=by omega
 clear hno hyes hk hn B N1 N2 N3 h hf
 go_enter Try.func48,Try.ntmps48
 go_upto_region 1 with fail
 rw [←hw2]
 clear hw2
 obtain ⟨A,hA⟩:∃ A,A=w.heap.size:=⟨_,rfl⟩
 have HA:Hd (A=w.heap.size):=⟨hA⟩
 rw [←hA] at HN hs x0 x1 x2 x3 x4 ⊢
 clear hA
 go_wp2
 clear x0 x1 x2 x3 x4
 go_loopw [14] (fun i wr=>∃ j:Nat,j≤k∧i=.int .i64 j∧Below w2.heap.size w2 wr) (fun i _=>n - (intOf i).toNat)
 case atStart=>exact ⟨0,Nat.zero_le _,rfl,Below.refl _ _⟩
 case round =>
  obtain ⟨j,hj,rfl,p3⟩:=hrel
  have H3:Hd (LsR wr a c F∧Below A w wr∧Blk wr A 33 (faA r g nn o (.slice a n c))∧Blk wr (A+1) 33 (faA 0 0 0 0 (.slice none 0 0))∧Blk wr (A+1+1) 42 (tkA tkZ)) :=
   ⟨HN.out.1.carry p3,HN.out.2.1.trans (p3.mono (show A≤w2.heap.size by omega)),HN.out.2.2.1.kept (Kept.of_below p3 (fun _=>False)) (fun h=>h),HN.out.2.2.2.1.kept (Kept.of_below p3 (fun _=>False)) (fun h=>h),HN.out.2.2.2.2.kept (Kept.of_below p3 (fun _=>False)) (fun h=>h)⟩
  by_cases hlt:j<k
  ·skip
   obtain ⟨b1,o1,a1,c1,rfl,hb1,d0,d1,s1⟩:=H3.out.1.at (k:=j) (by rw [HL.out];omega)
   have HK:=HF.out.at j
   have hjn:j<n:=by omega
   obtain ⟨⟨x0,x1,x2,x3,x4⟩,-⟩:=H3.out.2.2.1.fair
   have DP:=drop_ok (gl F j).s a1 c1 (gl F j).L id wr s1 (by omega)
   rw [HNO.out j (by omega)] at DP
   obtain ⟨tt,htt⟩:∃ tt,tt=drT id (gl F j).L:=⟨_,rfl⟩
   rw [←htt] at DP
   clear htt
   obtain ⟨t0,t1,t2,t3,t4⟩:=tt
   simp only at DP
   have P:Hd (Below w2.heap.size w2 wr):=⟨p3⟩
   clear p3 H3 s1 hb1
   generalize (gl F j).L.length=m at *
   obtain ⟨s,hs'⟩:∃ s,s=(gl F j).s:=⟨_,rfl⟩
   rw [←hs'] at DP d0
   clear hs'
   go_wp2_with fail
   go_at_call 78
   refine DP.mono ?_
   rintro e w5 ⟨⟨v5,rfl,⟨a5,c5,rfl,-⟩,-⟩,b5⟩
   clear DP d0 d1 x0 x1 x2 x3 x4
   generalize (drL id (gl F j).L).length=m5 at *
   obtain ⟨B6,N6,N7⟩:=boxes w5 55 42 #[.int .u64 s,.slice a5 m5 c5] #[.int .i64 t0,.int .i64 t1,.int .i64 t2,.int .i64 t3,.int .i64 t4]
   have R6:Hd (Below w2.heap.size w2 ((w5.alloc (.cells #[.int .u64 s,.slice a5 m5 c5] 55)).alloc (.cells #[.int .i64 t0,.int .i64 t1,.int .i64 t2,.int .i64 t3,.int .i64 t4] 42))):=⟨P.out.trans ((b5.trans (B6.mono b5.size)).mono P.out.size)⟩
   clear b5 B6 N6 N7
   go_wp2
   go_roundw
   case rel=>exact ⟨j+1,by omega,by go_num,R6.out⟩
   case measure=>simp [intOf];omega
  ·skip
   obtain rfl:j=k:=by omega
   obtain ⟨b1,o1,a1,c1,rfl,hb1,d0,d1,s1⟩:=H3.out.1.at (k:=j) (by rw [HL.out];omega)
   have HK:=HF.out.at j
   have HKH:Hd (Word (gl F j).s∧(gl F j).L.length≤1000):=⟨HK⟩
   have hs3:=p3.size
   obtain ⟨⟨x0,x1,x2,x3,x4⟩,-⟩:=H3.out.2.2.1.fair
   have DP:=drop_ok (gl F j).s a1 c1 (gl F j).L id wr s1 (by omega)
   rw [HYES.out,← HUU.out] at DP
   simp only at DP
   have HDL:Hd ((drL id (gl F j).L).length≤(gl F j).L.length):=⟨drL_len _ _⟩
   clear p3 s1 hb1
   generalize (gl F j).L.length=m at *
   obtain ⟨D,hD⟩:∃ D,D=drL id (gl F j).L:=⟨_,rfl⟩
   have HD:Hd (D=drL id (gl F j).L):=⟨hD⟩
   rw [←hD] at DP HDL
   clear hD
   obtain ⟨s,hs'⟩:∃ s,s=(gl F j).s:=⟨_,rfl⟩
   have HS':Hd (s=(gl F j).s):=⟨hs'⟩
   have HSD:Hd (F.set j ⟨(gl F j).s,drL id (gl F j).L⟩=F.set j ⟨s,D⟩):=⟨by rw [HS'.out,HD.out]⟩
   rw [←hs'] at DP d0 HKH
   clear hs'
   go_wp2_with fail
   go_at_call 78
   refine DP.mono ?_
   rintro e w5 ⟨⟨v5,rfl,-,hv5⟩,b5⟩
   obtain ⟨a5,c5,rfl,-,o5⟩:=hv5 rfl
   clear DP d0 d1 x0 x1 x2 x3 x4 hv5
   obtain ⟨m5,hm5⟩:∃ m5,m5=D.length:=⟨_,rfl⟩
   have HM5:Hd (m5=D.length):=⟨hm5⟩
   rw [←hm5] at o5 HDL ⊢
   clear hm5
   obtain ⟨B7,N7,N8⟩:=boxes w5 55 42 #[.int .u64 s,.slice a5 m5 c5] #[.int .i64 u0,.int .i64 u1,.int .i64 u2,.int .i64 u3,.int .i64 u4]
   obtain ⟨w7,hw7⟩:∃ w7,w7=(w5.alloc (.cells #[.int .u64 s,.slice a5 m5 c5] 55)).alloc (.cells #[.int .i64 u0,.int .i64 u1,.int .i64 u2,.int .i64 u3,.int .i64 u4] 42):=⟨_,rfl⟩
   rw [←hw7] at B7 N7 N8
   have b37:Below wr.heap.size wr w7:=b5.trans (B7.mono b5.size)
   have H7:Hd (LsR w7 (some ⟨b1,o1,none⟩) c F∧Below A w w7∧Blk w7 A 33 (faA r g nn o (.slice (some ⟨b1,o1,none⟩) n c))∧Blk w7 (A+1) 33 (faA 0 0 0 0 (.slice none 0 0))∧Blk w7 (A+1+1) 42 (tkA tkZ)∧Blk w7 w5.heap.size 55 (lnA s (.slice a5 m5 c5))∧Blk w7 (w5.heap.size+1) 42 (tkA ⟨u0,u1,u2,u3,u4⟩)∧OwnT w7 wr.heap.size (.slice a5 m5 c5) D) :=
    ⟨H3.out.1.carry b37,H3.out.2.1.trans (b37.mono (show A≤wr.heap.size by omega)),H3.out.2.2.1.kept (Kept.of_below b37 (fun _=>False)) (fun h=>h),H3.out.2.2.2.1.kept (Kept.of_below b37 (fun _=>False)) (fun h=>h),H3.out.2.2.2.2.kept (Kept.of_below b37 (fun _=>False)) (fun h=>h),N7,N8,o5.kept (Kept.of_below B7 (fun _=>False)) (fun _ _ h=>h)⟩
   have hs5:wr.heap.size≤w5.heap.size:=b5.size
   clear o5 b5 B7 N7 N8 b37 H3
   go_upto_region 6 with fail
   rw [←hw7]
   clear hw7
   refine AnyG.start (T:=fun Y=>Kept (fun q0=>q0=A+1∨q0=A+1+1) w7.drew Y) (U:=fun _=>True) (j0:=100) (by kernel_rfl) ?_
   obtain ⟨w8,hw8⟩:∃ w8,w8=w7.drew:=⟨_,rfl⟩
   have B8:Below w7.heap.size w7 w8:=by rw [hw8];exact (Below.refl _ _).drew
   have H8:Hd (LsR w8 (some ⟨b1,o1,none⟩) c F∧Below A w w8∧Blk w8 A 33 (faA r g nn o (.slice (some ⟨b1,o1,none⟩) n c))∧Blk w8 (A+1) 33 (faA 0 0 0 0 (.slice none 0 0))∧Blk w8 (A+1+1) 42 (tkA tkZ)∧Blk w8 w5.heap.size 55 (lnA s (.slice a5 m5 c5))∧Blk w8 (w5.heap.size+1) 42 (tkA ⟨u0,u1,u2,u3,u4⟩)∧OwnT w8 wr.heap.size (.slice a5 m5 c5) D):=by
    have K8:Kept (fun _=>False) w7 w8:=Kept.of_below B8 _
    obtain ⟨h1,h2,h3,h4,h5,h6,h7,h8⟩:=H7.out
    exact ⟨⟨h1.carry B8,h2.trans (B8.mono (by have:=h3.lt;omega)),h3.kept K8 (fun h=>h),h4.kept K8 (fun h=>h),h5.kept K8 (fun h=>h),h6.kept K8 (fun h=>h),h7.kept K8 (fun h=>h),h8.kept K8 (fun _ _ h=>h)⟩⟩
   rw [←hw8]
   clear hw8 B8 H7
   generalize w5.heap.size=y at *
   have R:Kept (fun q0=>q0=A+1∨q0=A+1+1) w8 w8:=Kept.refl _ _
   have XA:Hd (∀ Y,Kept (fun q0=>q0=A+1∨q0=A+1+1) w8 Y→Y.cell? ⟨A,0,none⟩=some (.int .u64 r)∧Y.cell? ⟨A,1,none⟩=some (.int .i64 g)∧Y.cell? ⟨A,2,none⟩=some (.int .i64 nn)∧Y.cell? ⟨A,3,none⟩=some (.int .i64 o)∧Y.cell? ⟨A,4,none⟩=some (.slice (some ⟨b1,o1,none⟩) n c)):=⟨fun Y q=>(H8.out.2.2.1.kept q (by omega)).fair.1⟩
   have XL:Hd (∀ Y,Kept (fun q0=>q0=A+1∨q0=A+1+1) w8 Y→Y.cell? ⟨y,0,none⟩=some (.int .u64 s)∧Y.cell? ⟨y,1,none⟩=some (.slice a5 m5 c5)):=⟨fun Y q=>(H8.out.2.2.2.2.2.1.kept q (by omega)).lane.1⟩
   have XT:Hd (∀ Y,Kept (fun q0=>q0=A+1∨q0=A+1+1) w8 Y→Y.cell? ⟨y+1,0,none⟩=some (.int .i64 u0)∧Y.cell? ⟨y+1,1,none⟩=some (.int .i64 u1)∧Y.cell? ⟨y+1,2,none⟩=some (.int .i64 u2)∧Y.cell? ⟨y+1,3,none⟩=some (.int .i64 u3)∧Y.cell? ⟨y+1,4,none⟩=some (.int .i64 u4)):=⟨fun Y q=>(H8.out.2.2.2.2.2.2.1.kept q (by omega)).five.1⟩
   refine .tq 0 29 R ?_ (hy:=fun w hSw=>by have s:=XA.out w hSw;go_simp;rfl);simp only [oqA,oqB,oqC]
   refine .tq 1 30 R ?_;simp only [oqA,oqB,oqC]
   refine .tq 2 31 R ?_ (hy:=fun w hSw=>by have s:=XL.out w hSw;go_simp;rfl);simp only [oqA,oqB,oqC]
   refine .tq 5 34 R ?_ (hy:=fun w hSw=>by have s:=XT.out w hSw;go_simp;rfl);simp only [oqA,oqB,oqC]
   have WT:=with_ok r g nn o (some ⟨b1,o1,none⟩) c j F s a5 c5 D wr.heap.size w8 H8.out.1 HF.out (by rw [HL.out];exact hkn) (by rw [←HM5.out];exact H8.out.2.2.2.2.2.2.2) (by have:=H8.out.2.2.2.2.2.1.lt;omega)
   rw [HL.out,← HM5.out] at WT
   refine AnyG.ready (rs:=[3]) (by kernel_rfl) (by simp) ?_
   refine AllG.cons rfl (fun K hK=>?_) AllG.nil
   go_simp
   refine WT.mono ?_
   rintro e w9 ⟨⟨v9,rfl,u9,rfl,o9⟩,b9⟩
   obtain ⟨a6,c6,e6,-⟩:=o9.read
   rw [List.length_set,HL.out] at e6
   subst e6
   have R9:Kept (fun q0=>q0=A+1∨q0=A+1+1) w8 w9:=Kept.of_below b9 _
   refine hK.out _ _ ⟨R9,fun _=>trivial⟩ ?_
   clear hK K WT
   have NR9:=H8.out.2.2.2.1.kept (Kept.of_below b9 (fun _=>False)) (fun h=>h)
   have NT9:=H8.out.2.2.2.2.1.kept (Kept.of_below b9 (fun _=>False)) (fun h=>h)
   have BW9:=H8.out.2.1.trans (b9.mono (show A≤w8.heap.size by have:=H8.out.2.2.1.lt;omega))
   obtain ⟨a9,c9,e9,st9⟩:=o9.st (S:=fun q0=>q0<A+3) (fun q0 hj e=>by have:q0<A+3:=e;omega)
   rw [List.length_set,HL.out] at e9
   obtain ⟨rfl,rfl⟩:a6=a9∧c6=c9:=by injection e9 with x1 x2 x3;exact ⟨x1,x3⟩
   have FS:Few (F.set j ⟨s,D⟩):=HF.out.set ⟨HKH.out.1,by have:=HKH.out.2;have:=HDL.out;have:=HM5.out;show D.length≤1000;omega⟩
   have TR:=trimmed_ok (fun q0=>q0<A+3) r g nn o _ _ (F.set j ⟨s,D⟩) w9 st9 FS
   rw [List.length_set,HL.out] at TR
   refine AnyG.ready (rs:=[4]) (by kernel_rfl) (by simp) ?_
   refine AllG.cons rfl (fun K hK=>?_) AllG.nil
   go_simp
   refine TR.mono ?_
   rintro e w10 ⟨⟨v10,rfl,a10,c10,rfl,r10⟩,b10⟩
   obtain ⟨m10,hm10⟩:∃ m10,m10=(trm (F.set j ⟨s,D⟩) o).length:=⟨_,rfl⟩
   have HM10:Hd (m10=(trm (F.set j ⟨s,D⟩) o).length):=⟨hm10⟩
   rw [←hm10]
   clear hm10
   have R10:Kept (fun q0=>q0=A+1∨q0=A+1+1) w8 w10:=R9.trans (Kept.of_below b10 _)
   refine hK.out _ _ ⟨R10,fun _=>trivial⟩ ?_
   clear hK K TR st9 e9
   have NR:=NR9.kept (Kept.of_below b10 (fun _=>False)) (fun h=>h)
   have NT:=NT9.kept (Kept.of_below b10 (fun _=>False)) (fun h=>h)
   have BW:=BW9.trans (b10.mono (show A≤w9.heap.size by have:=NR9.lt;omega))
   obtain ⟨⟨y0,y1,y2,y3,y4⟩,yf0,yf1,yf2,yf3,yf4⟩:=NR.fair
   obtain ⟨⟨-,p2,pk⟩,q1,q2,k2⟩:=ft_put NR NT r g nn o (.slice a10 m10 c10) ⟨u0,u1,u2,u3,u4⟩
   obtain ⟨⟨d0,d1,d2,d3,d4⟩,e0,e1,e2,e3,e4⟩:=p2.five
   simp only [tkZ] at d0 d1 d2 d3 d4 q1 q2 k2
   refine AnyG.ready (rs:=[6]) (by kernel_rfl) (by simp) ?_
   refine AllG.cons rfl (fun K hK=>?_) AllG.nil
   go_simp
   refine hK.out _ _ ⟨R10.trans (pk.mono (fun j _ e=>.inl e)),fun _=>trivial⟩ ?_
   clear hK K
   refine AnyG.ready (rs:=[7]) (by kernel_rfl) (by simp) ?_
   refine AllG.cons rfl (fun K hK=>?_) AllG.nil
   go_simp
   have R11:=R10.trans k2
   refine hK.out _ _ ⟨R11,fun _=>trivial⟩ ?_
   clear hK K
   refine .tq 8 6 R11 ?_;simp only [oqA,oqB,oqC]
   refine AnyG.done (by kernel_rfl) ?_ _
   have HE:Hd (_∧_∧_∧_):=⟨q1,q2,(r10.next (k2.mono (T:=fun j=>j<A+3) (fun j _ e=>by have:j=A+1∨j=A+1+1:=e;show j<A+3;omega))).low (T:=fun j=>j<A) (fun j _ h=>by have:j<A:=h;show j<A+3;omega),BW.trans (k2.below (B:=A) (by have:=NR.lt;omega) (fun j e=>by omega))⟩
   clear NR NT BW p2 pk q1 q2 k2 r10 b10 y0 y1 y2 y3 y4 yf0 yf1 yf2 yf3 yf4 d0 d1 d2 d3 d4 e0 e1 e2 e3 e4 R10 R11 R R9 XA XL XT H8 b9 o9 NR9 NT9 BW9
   go_wp2_with fail
   refine bodyPost_ret (resFt25 (t:=⟨u0,u1,u2,u3,u4⟩) _ _ _ _ true rfl rfl rfl HE.out.1 HE.out.2.1) rfl ?_
   rw [←HA.out,HSD.out]
   exact ⟨⟨_,rfl,_,_,by rw [HM10.out],HE.out.2.2.1⟩,HE.out.2.2.2⟩
set_option maxRecDepth 20000 in
set_option maxHeartbeats 2000000 in
theorem rfdrop_yes (r g nn o:Int) (a:Option Addr) (c:Nat) (F:List Ln) (id:Int) (w:World) (h:LsR w a c F) (hf:Few F) (k:Nat) (hk:k<F.length) (hno:∀ j,j<k→drB id (gl F j).L=false) (hyes:drB id (gl F k).L=true) :
  Calls Try.prog 64 #[.agg #[.int .u64 r,.int .i64 g,.int .i64 nn,.int .i64 o,.slice a F.length c],.int .i64 id] w fun e w'=>(∃ v,e=.returned (.tuple #[v,.agg #[.int .i64 (drT id (gl F k).L).id,.int .i64 (drT id (gl F k).L).wid,.int .i64 (drT id (gl F k).L).sts,.int .i64 (drT id (gl F k).L).sin,.int .i64 (drT id (gl F k).L).unt],.bool true])∧FaS (fun j=>j<w.heap.size) w' r g nn o (trm (F.set k ⟨(gl F k).s,drL id (gl F k).L⟩) o) v)∧Below w.heap.size w w':=by
 obtain ⟨uu,huu⟩:∃ uu,uu=drT id (gl F k).L:=⟨_,rfl⟩
 have HUU:Hd (uu=drT id (gl F k).L):=⟨huu⟩
 rw [←huu]
 clear huu
 obtain ⟨u0,u1,u2,u3,u4⟩:=uu
 simp only
 obtain ⟨w2,hw2⟩:∃ w2,w2=((w.alloc (.cells #[.int .u64 r,.int .i64 g,.int .i64 nn,.int .i64 o,.slice a F.length c] 33)).alloc (.cells #[.int .u64 0,.int .i64 0,.int .i64 0,.int .i64 0,.slice none 0 0] 33)).alloc (.cells #[.int .i64 0,.int .i64 0,.int .i64 0,.int .i64 0,.int .i64 0] 42):=⟨_,rfl⟩
 have BX:=boxes3 w 33 33 42 #[.int .u64 r,.int .i64 g,.int .i64 nn,.int .i64 o,.slice a F.length c] #[.int .u64 0,.int .i64 0,.int .i64 0,.int .i64 0,.slice none 0 0] #[.int .i64 0,.int .i64 0,.int .i64 0,.int .i64 0,.int .i64 0]
 rw [←hw2] at BX
 obtain ⟨B,N1,N2,N3⟩:=BX
 have HF:Hd (Few F):=⟨hf⟩
 have HW:Hd (LsR w a c F):=⟨h⟩
 have hlen:=hf.len
 obtain ⟨n,hn⟩:∃ n,F.length=n:=⟨_,rfl⟩
 have HL:Hd (F.length=n):=⟨hn⟩
 have HN:Hd (LsR w2 a c F∧Below w.heap.size w w2∧Blk w2 w.heap.size 33 (faA r g nn o (.slice a n c))∧Blk w2 (w.heap.size+1) 33 (faA 0 0 0 0 (.slice none 0 0))∧Blk w2 (w.heap.size+1+1) 42 (tkA tkZ)):=⟨h.carry B,B,by rw [←hn];exact N1,N2,N3⟩
 have hs:=N3.lt
 obtain ⟨⟨x0,x1,x2,x3,x4⟩,-⟩:=Blk.fair N1
 rw [hn] at hlen hw2 x4 ⊢
 have HNO:Hd (∀ j,j<k→drB id (gl F j).L=false):=⟨hno⟩
 have HYES:Hd (drB id (gl F k).L=true):=⟨hyes⟩
 have hkn:k<n:=by omega
 clear hno hyes hk hn B N1 N2 N3 h hf
 go_enter Try.func64,Try.ntmps64
 go_upto_region 1 with fail
 rw [←hw2]
 clear hw2
 obtain ⟨A,hA⟩:∃ A,A=w.heap.size:=⟨_,rfl⟩
 have HA:Hd (A=w.heap.size):=⟨hA⟩
 rw [←hA] at HN hs x0 x1 x2 x3 x4 ⊢
 clear hA
 go_wp2
 clear x0 x1 x2 x3 x4
 go_loopw [7] (fun i wr=>∃ j:Nat,j≤k∧i=.int .i64 j∧Below w2.heap.size w2 wr) (fun i _=>n - (intOf i).toNat)
 case atStart=>exact ⟨0,Nat.zero_le _,rfl,Below.refl _ _⟩
 case round =>
  obtain ⟨j,hj,rfl,p3⟩:=hrel
  have H3:Hd (LsR wr a c F∧Below A w wr∧Blk wr A 33 (faA r g nn o (.slice a n c))∧Blk wr (A+1) 33 (faA 0 0 0 0 (.slice none 0 0))∧Blk wr (A+1+1) 42 (tkA tkZ)) :=
   ⟨HN.out.1.carry p3,HN.out.2.1.trans (p3.mono (show A≤w2.heap.size by omega)),HN.out.2.2.1.kept (Kept.of_below p3 (fun _=>False)) (fun h=>h),HN.out.2.2.2.1.kept (Kept.of_below p3 (fun _=>False)) (fun h=>h),HN.out.2.2.2.2.kept (Kept.of_below p3 (fun _=>False)) (fun h=>h)⟩
  by_cases hlt:j<k
  ·skip
   obtain ⟨b1,o1,a1,c1,rfl,hb1,d0,d1,s1⟩:=H3.out.1.at (k:=j) (by rw [HL.out];omega)
   have HK:=HF.out.at j
   have hjn:j<n:=by omega
   obtain ⟨⟨x0,x1,x2,x3,x4⟩,-⟩:=H3.out.2.2.1.fair
   have DP:=rdrop_ok (gl F j).s a1 c1 (gl F j).L id wr s1 (by omega)
   rw [HNO.out j (by omega)] at DP
   obtain ⟨tt,htt⟩:∃ tt,tt=drT id (gl F j).L:=⟨_,rfl⟩
   rw [←htt] at DP
   clear htt
   obtain ⟨t0,t1,t2,t3,t4⟩:=tt
   simp only at DP
   have P:Hd (Below w2.heap.size w2 wr):=⟨p3⟩
   clear p3 H3 s1 hb1
   generalize (gl F j).L.length=m at *
   obtain ⟨s,hs'⟩:∃ s,s=(gl F j).s:=⟨_,rfl⟩
   rw [←hs'] at DP d0
   clear hs'
   go_wp2_with fail
   go_at_call 88
   refine DP.mono ?_
   rintro e w5 ⟨⟨v5,rfl,⟨a5,c5,rfl,-⟩,-⟩,b5⟩
   clear DP d0 d1 x0 x1 x2 x3 x4
   generalize (drL id (gl F j).L).length=m5 at *
   obtain ⟨B6,N6,N7⟩:=boxes w5 55 42 #[.int .u64 s,.slice a5 m5 c5] #[.int .i64 t0,.int .i64 t1,.int .i64 t2,.int .i64 t3,.int .i64 t4]
   have R6:Hd (Below w2.heap.size w2 ((w5.alloc (.cells #[.int .u64 s,.slice a5 m5 c5] 55)).alloc (.cells #[.int .i64 t0,.int .i64 t1,.int .i64 t2,.int .i64 t3,.int .i64 t4] 42))):=⟨P.out.trans ((b5.trans (B6.mono b5.size)).mono P.out.size)⟩
   clear b5 B6 N6 N7
   go_wp2
   go_roundw
   case rel=>exact ⟨j+1,by omega,by go_num,R6.out⟩
   case measure=>simp [intOf];omega
  ·skip
   obtain rfl:j=k:=by omega
   obtain ⟨b1,o1,a1,c1,rfl,hb1,d0,d1,s1⟩:=H3.out.1.at (k:=j) (by rw [HL.out];omega)
   have HK:=HF.out.at j
   have HKH:Hd (Word (gl F j).s∧(gl F j).L.length≤1000):=⟨HK⟩
   have hs3:=p3.size
   obtain ⟨⟨x0,x1,x2,x3,x4⟩,-⟩:=H3.out.2.2.1.fair
   have DP:=rdrop_ok (gl F j).s a1 c1 (gl F j).L id wr s1 (by omega)
   rw [HYES.out,← HUU.out] at DP
   simp only at DP
   have HDL:Hd ((drL id (gl F j).L).length≤(gl F j).L.length):=⟨drL_len _ _⟩
   clear p3 s1 hb1
   generalize (gl F j).L.length=m at *
   obtain ⟨D,hD⟩:∃ D,D=drL id (gl F j).L:=⟨_,rfl⟩
   have HD:Hd (D=drL id (gl F j).L):=⟨hD⟩
   rw [←hD] at DP HDL
   clear hD
   obtain ⟨s,hs'⟩:∃ s,s=(gl F j).s:=⟨_,rfl⟩
   have HS':Hd (s=(gl F j).s):=⟨hs'⟩
   have HSD:Hd (F.set j ⟨(gl F j).s,drL id (gl F j).L⟩=F.set j ⟨s,D⟩):=⟨by rw [HS'.out,HD.out]⟩
   rw [←hs'] at DP d0 HKH
   clear hs'
   go_wp2_with fail
   go_at_call 88
   refine DP.mono ?_
   rintro e w5 ⟨⟨v5,rfl,-,hv5⟩,b5⟩
   obtain ⟨a5,c5,rfl,-,o5⟩:=hv5 rfl
   clear DP d0 d1 x0 x1 x2 x3 x4 hv5
   obtain ⟨m5,hm5⟩:∃ m5,m5=D.length:=⟨_,rfl⟩
   have HM5:Hd (m5=D.length):=⟨hm5⟩
   rw [←hm5] at o5 HDL ⊢
   clear hm5
   obtain ⟨B7,N7,N8⟩:=boxes w5 55 42 #[.int .u64 s,.slice a5 m5 c5] #[.int .i64 u0,.int .i64 u1,.int .i64 u2,.int .i64 u3,.int .i64 u4]
   obtain ⟨w7,hw7⟩:∃ w7,w7=(w5.alloc (.cells #[.int .u64 s,.slice a5 m5 c5] 55)).alloc (.cells #[.int .i64 u0,.int .i64 u1,.int .i64 u2,.int .i64 u3,.int .i64 u4] 42):=⟨_,rfl⟩
   rw [←hw7] at B7 N7 N8
   have b37:Below wr.heap.size wr w7:=b5.trans (B7.mono b5.size)
   have H7:Hd (LsR w7 (some ⟨b1,o1,none⟩) c F∧Below A w w7∧Blk w7 A 33 (faA r g nn o (.slice (some ⟨b1,o1,none⟩) n c))∧Blk w7 (A+1) 33 (faA 0 0 0 0 (.slice none 0 0))∧Blk w7 (A+1+1) 42 (tkA tkZ)∧Blk w7 w5.heap.size 55 (lnA s (.slice a5 m5 c5))∧Blk w7 (w5.heap.size+1) 42 (tkA ⟨u0,u1,u2,u3,u4⟩)∧OwnT w7 wr.heap.size (.slice a5 m5 c5) D) :=
    ⟨H3.out.1.carry b37,H3.out.2.1.trans (b37.mono (show A≤wr.heap.size by omega)),H3.out.2.2.1.kept (Kept.of_below b37 (fun _=>False)) (fun h=>h),H3.out.2.2.2.1.kept (Kept.of_below b37 (fun _=>False)) (fun h=>h),H3.out.2.2.2.2.kept (Kept.of_below b37 (fun _=>False)) (fun h=>h),N7,N8,o5.kept (Kept.of_below B7 (fun _=>False)) (fun _ _ h=>h)⟩
   have hs5:wr.heap.size≤w5.heap.size:=b5.size
   clear o5 b5 B7 N7 N8 b37 H3
   have CP:=rcopy_ok r g nn o (some ⟨b1,o1,none⟩) c F w7 H7.out.1 HF.out
   rw [HL.out] at CP
   obtain ⟨⟨x0,x1,x2,x3,x4⟩,-⟩:=H7.out.2.2.1.fair
   go_upto_region 6 with fail
   rw [←hw7]
   clear hw7
   generalize w5.heap.size=y at *
   go_wp2_with fail
   go_at_call 23
   refine CP.mono ?_
   rintro e w6 ⟨⟨v6,rfl,u6,rfl,o6⟩,b6⟩
   clear CP x0 x1 x2 x3 x4
   obtain ⟨q,c6,e6,hq0,hq⟩:=o6.blk (by rw [HL.out];omega)
   rw [HL.out] at e6
   subst e6
   obtain ⟨wd,hwd⟩:∃ wd,wd=w6.alloc (.cells #[.int .u64 r,.int .i64 g,.int .i64 nn,.int .i64 o,.slice (some ⟨q,0,none⟩) n c6] 33):=⟨_,rfl⟩
   have Bd:Below w6.heap.size w6 wd:=by rw [hwd];exact alloc_below _ _
   have Nd:Blk wd w6.heap.size 33 (faA r g nn o (.slice (some ⟨q,0,none⟩) n c6)):=by rw [hwd];exact Blk.new _ _ _
   have b7d:Below w7.heap.size w7 wd:=b6.trans (Bd.mono b6.size)
   have O6:=(o6.kept (Kept.of_below Bd (fun _=>False)) (fun _ _ h=>h)).low (show wr.heap.size≤w7.heap.size by have:=H7.out.2.2.2.2.2.1.lt;omega)
   have OT:=H7.out.2.2.2.2.2.2.2.kept (Kept.of_below b7d (fun _=>False)) (fun _ _ h=>h)
   obtain ⟨q',cap,xx,yy,e9,hq1,hq2,⟨p0,p1,pf0,pf1⟩,O9,k9⟩:=O6.put (k:=j) (by rw [HL.out];exact hkn) ⟨s,D⟩ OT
   rw [HL.out] at e9
   obtain ⟨rfl,rfl⟩:q=q'∧c6=cap:=by injection e9 with x1 x2 x3;injection x1 with x1;injection x1 with x1;exact ⟨x1,x3⟩
   simp only at O9 k9
   have hy7:y+1<w7.heap.size:=H7.out.2.2.2.2.2.2.1.lt
   obtain ⟨⟨l0,l1⟩,-⟩:=(H7.out.2.2.2.2.2.1.kept (Kept.of_below b7d (fun _=>False)) (fun h=>h)).lane
   obtain ⟨⟨y0,y1,y2,y3,y4⟩,-⟩:=Nd.fair
   have H9:Hd (Below A w _∧Blk _ (A+1) 33 (faA 0 0 0 0 (.slice none 0 0))∧Blk _ (A+1+1) 42 (tkA tkZ)∧Blk _ (y+1) 42 (tkA ⟨u0,u1,u2,u3,u4⟩)∧Blk _ w6.heap.size 33 (faA r g nn o (.slice (some ⟨q,0,none⟩) n c6))∧OwL _ wr.heap.size (.slice (some ⟨q,0,none⟩) n c6) (F.set j ⟨s,D⟩)) :=
    ⟨(H7.out.2.1.trans (b7d.mono (show A≤w7.heap.size by omega))).trans (k9.below (B:=A) (by have:=b7d.size;omega) (fun j e=>by omega)),(H7.out.2.2.2.1.kept (Kept.of_below b7d (fun _=>False)) (fun h=>h)).kept k9 (by omega),(H7.out.2.2.2.2.1.kept (Kept.of_below b7d (fun _=>False)) (fun h=>h)).kept k9 (by omega),(H7.out.2.2.2.2.2.2.1.kept (Kept.of_below b7d (fun _=>False)) (fun h=>h)).kept k9 (by omega),Nd.kept k9 (by omega),O9⟩
   clear H7 o6 b6 Bd Nd b7d O6 OT O9 k9 e9
   go_upto_region 7 with fail
   rw [←hwd]
   clear hwd
   generalize w6.heap.size=z at *
   go_upto_region 8 with fail
   clear l0 l1 y0 y1 y2 y3 y4 p0 p1 pf0 pf1
   generalize World.setCell _ _ _=wp at *
   refine AnyG.start (T:=fun Y=>Kept (fun q0=>q0=A+1∨q0=A+1+1) wp.drew Y) (U:=fun _=>True) (j0:=100) (by kernel_rfl) ?_
   obtain ⟨w8,hw8⟩:∃ w8,w8=wp.drew:=⟨_,rfl⟩
   have H8:Hd (Below A w w8∧Blk w8 (A+1) 33 (faA 0 0 0 0 (.slice none 0 0))∧Blk w8 (A+1+1) 42 (tkA tkZ)∧Blk w8 (y+1) 42 (tkA ⟨u0,u1,u2,u3,u4⟩)∧Blk w8 z 33 (faA r g nn o (.slice (some ⟨q,0,none⟩) n c6))∧OwL w8 wr.heap.size (.slice (some ⟨q,0,none⟩) n c6) (F.set j ⟨s,D⟩)):=by
    have K8:Kept (fun _=>False) wp w8:=by rw [hw8];exact (Kept.refl _ _).drew
    obtain ⟨h1,h2,h3,h4,h5,h6⟩:=H9.out
    exact ⟨⟨by rw [hw8];exact h1.drew,h2.kept K8 (fun h=>h),h3.kept K8 (fun h=>h),h4.kept K8 (fun h=>h),h5.kept K8 (fun h=>h),h6.kept K8 (fun _ _ h=>h)⟩⟩
   rw [←hw8]
   clear hw8 H9
   have R:Kept (fun q0=>q0=A+1∨q0=A+1+1) w8 w8:=Kept.refl _ _
   have XY:Hd (∀ Y,Kept (fun q0=>q0=A+1∨q0=A+1+1) w8 Y→Y.cell? ⟨z,0,none⟩=some (.int .u64 r)∧Y.cell? ⟨z,1,none⟩=some (.int .i64 g)∧Y.cell? ⟨z,2,none⟩=some (.int .i64 nn)∧Y.cell? ⟨z,3,none⟩=some (.int .i64 o)∧Y.cell? ⟨z,4,none⟩=some (.slice (some ⟨q,0,none⟩) n c6)):=⟨fun Y qq=>(H8.out.2.2.2.2.1.kept qq (by omega)).fair.1⟩
   have XT:Hd (∀ Y,Kept (fun q0=>q0=A+1∨q0=A+1+1) w8 Y→Y.cell? ⟨y+1,0,none⟩=some (.int .i64 u0)∧Y.cell? ⟨y+1,1,none⟩=some (.int .i64 u1)∧Y.cell? ⟨y+1,2,none⟩=some (.int .i64 u2)∧Y.cell? ⟨y+1,3,none⟩=some (.int .i64 u3)∧Y.cell? ⟨y+1,4,none⟩=some (.int .i64 u4)):=⟨fun Y qq=>(H8.out.2.2.2.1.kept qq (by omega)).five.1⟩
   refine .tq 0 38 R ?_ (hy:=fun w hSw=>by have s:=XY.out w hSw;go_simp;rfl);simp only [oqA,oqB,oqC]
   refine .tq 2 40 R ?_ (hy:=fun w hSw=>by have s:=XT.out w hSw;go_simp;rfl);simp only [oqA,oqB,oqC]
   obtain ⟨a9,c9,e9,st9⟩:=H8.out.2.2.2.2.2.st (S:=fun q0=>q0<A+3) (fun q0 hj e=>by have:q0<A+3:=e;omega)
   rw [List.length_set,HL.out] at e9
   obtain ⟨rfl,rfl⟩:some ⟨q,0,none⟩=a9∧c6=c9:=by injection e9 with x1 x2 x3;exact ⟨x1,x3⟩
   have FS:Few (F.set j ⟨s,D⟩):=HF.out.set ⟨HKH.out.1,by have:=HKH.out.2;have:=HDL.out;have:=HM5.out;show D.length≤1000;omega⟩
   have TR:=rtrim_ok (fun q0=>q0<A+3) r g nn o _ _ (F.set j ⟨s,D⟩) w8 st9 (fun j e=>by have:j<A+3:=e;have:=H8.out.2.2.1.lt;omega) FS
   rw [List.length_set,HL.out] at TR
   refine AnyG.ready (rs:=[1]) (by kernel_rfl) (by simp) ?_
   refine AllG.cons rfl (fun K hK=>?_) AllG.nil
   go_simp
   refine TR.mono ?_
   rintro e w10 ⟨⟨v10,rfl,a10,c10,rfl,r10⟩,b10⟩
   obtain ⟨m10,hm10⟩:∃ m10,m10=(trm (F.set j ⟨s,D⟩) o).length:=⟨_,rfl⟩
   have HM10:Hd (m10=(trm (F.set j ⟨s,D⟩) o).length):=⟨hm10⟩
   rw [←hm10]
   clear hm10
   have R10:Kept (fun q0=>q0=A+1∨q0=A+1+1) w8 w10:=R.trans (Kept.of_below b10 _)
   refine hK.out _ _ ⟨R10,fun _=>trivial⟩ ?_
   clear hK K TR st9 e9
   have NR:=H8.out.2.1.kept (Kept.of_below b10 (fun _=>False)) (fun h=>h)
   have NT:=H8.out.2.2.1.kept (Kept.of_below b10 (fun _=>False)) (fun h=>h)
   have BW:=H8.out.1.trans (b10.mono (show A≤w8.heap.size by have:=H8.out.2.1.lt;omega))
   obtain ⟨⟨y0,y1,y2,y3,y4⟩,yf0,yf1,yf2,yf3,yf4⟩:=NR.fair
   obtain ⟨⟨-,p2,pk⟩,q1,q2,k2⟩:=ft_put NR NT r g nn o (.slice a10 m10 c10) ⟨u0,u1,u2,u3,u4⟩
   obtain ⟨⟨d0,d1,d2,d3,d4⟩,e0,e1,e2,e3,e4⟩:=p2.five
   simp only [tkZ] at d0 d1 d2 d3 d4 q1 q2 k2
   refine AnyG.ready (rs:=[3]) (by kernel_rfl) (by simp) ?_
   refine AllG.cons rfl (fun K hK=>?_) AllG.nil
   go_simp
   refine hK.out _ _ ⟨R10.trans (pk.mono (fun j _ e=>.inl e)),fun _=>trivial⟩ ?_
   clear hK K
   refine AnyG.ready (rs:=[4]) (by kernel_rfl) (by simp) ?_
   refine AllG.cons rfl (fun K hK=>?_) AllG.nil
   go_simp
   have R11:=R10.trans k2
   refine hK.out _ _ ⟨R11,fun _=>trivial⟩ ?_
   clear hK K
   refine .tq 5 6 R11 ?_;simp only [oqA,oqB,oqC]
   refine AnyG.done (by kernel_rfl) ?_ _
   have HE:Hd (_∧_∧_∧_):=⟨q1,q2,(r10.next (k2.mono (T:=fun j=>j<A+3) (fun j _ e=>by have:j=A+1∨j=A+1+1:=e;show j<A+3;omega))).low (T:=fun j=>j<A) (fun j _ h=>by have:j<A:=h;show j<A+3;omega),BW.trans (k2.below (B:=A) (by have:=NR.lt;omega) (fun j e=>by omega))⟩
   clear NR NT BW p2 pk q1 q2 k2 r10 b10 y0 y1 y2 y3 y4 yf0 yf1 yf2 yf3 yf4 d0 d1 d2 d3 d4 e0 e1 e2 e3 e4 R10 R11 R XY XT H8
   go_wp2_with fail
   refine bodyPost_ret (resFt26 (t:=⟨u0,u1,u2,u3,u4⟩) _ _ _ _ true rfl rfl rfl HE.out.1 HE.out.2.1) rfl ?_
   rw [←HA.out,HSD.out]
   exact ⟨⟨_,rfl,_,_,by rw [HM10.out],HE.out.2.2.1⟩,HE.out.2.2.2⟩
structure Fa where
 r:Int
 g:Int
 n:Int
 o:Int
 F:List Ln
def FaW (w:World) (x:Fa) (v:Value):Prop:=FaV w x.r x.g x.n x.o x.F v
def xZ:Fa:=⟨0,0,0,0,[]⟩
theorem FaS.w {S:Nat→Prop} {w:World} {x:Fa} {v:Value} (h:FaS S w x.r x.g x.n x.o x.F v):FaW w x v:=h.read (Kept.refl _ _)
theorem FaW.carry {w w':World} {x:Fa} {v:Value} (h:FaW w x v) (b:Below w.heap.size w w'):FaW w' x v:=FaV.carry h b
def nwX (o g n:Int):Fa:=if Good o g n then ⟨0,g,n,o,nwF o.toNat⟩ else xZ
def nwE (o g n:Int):Int:=if Good o g n then 0 else 1
def shX (x:Fa) (o g n:Int):Fa:=if Good o g n then ⟨x.r,g,n,o,trm (shF x.F o.toNat) o⟩ else xZ
section
variable (x:Fa) (a:Option Addr) (c:Nat) (w:World) (h:LsR w a c x.F) (hf:Few x.F)
include h hf
end
def jnX (x:Fa) (k:Int) (t:Tk):Fa:=if k<0 then xZ else if x.n≤((gl x.F k.toNat).L.length:Int) then xZ else ⟨x.r,x.g,x.n,x.o,jnF x.F k.toNat x.r t⟩
def jnK (x:Fa) (k:Int):Int:=if k<0 then 0 else if x.n≤((gl x.F k.toNat).L.length:Int) then 0 else k
def jnE (x:Fa) (k:Int):Int:=if k<0 then 6 else if x.n≤((gl x.F k.toNat).L.length:Int) then 7 else 0
section
variable (x:Fa) (a:Option Addr) (c:Nat) (ah:Option Addr) (nh ch:Nat) (H0:Nat→Int) (t:Tk) (w:World) (h:LsR w a c x.F) (hf:Few x.F) (hh:HnR w ah nh H0) (hnh:nh≤1000)
include h hf hh hnh
end
def tkX (x:Fa):Fa:=if nxt x.F x.g<0 then x else ⟨max x.r (fN x.g (gl x.F (nxt x.F x.g).toNat)),x.g,x.n,x.o,trm (tkF x.F (nxt x.F x.g).toNat x.g) x.o⟩
def tkT (x:Fa):Tk:=if nxt x.F x.g<0 then tkZ else gt (gl x.F (nxt x.F x.g).toNat).L 0
def tkO (x:Fa):Bool:=decide (0≤nxt x.F x.g)
def dpK (F:List Ln) (id:Int):Nat:=F.findIdx (fun l=>drB id l.L)
def dpX (x:Fa) (id:Int):Fa:=if dpK x.F id<x.F.length then ⟨x.r,x.g,x.n,x.o,trm (x.F.set (dpK x.F id) ⟨(gl x.F (dpK x.F id)).s,drL id (gl x.F (dpK x.F id)).L⟩) x.o⟩ else x
def dpT (x:Fa) (id:Int):Tk:=if dpK x.F id<x.F.length then drT id (gl x.F (dpK x.F id)).L else tkZ
def dpO (x:Fa) (id:Int):Bool:=decide (dpK x.F id<x.F.length)
theorem dpK_no {F:List Ln} {id:Int} {j:Nat} (h:j<dpK F id) (hj:j<F.length):drB id (gl F j).L=false:=by
 have h2:=List.not_of_lt_findIdx (p:=fun l:Ln=>drB id l.L) h
 have e:F[j]?=some (gl F j):=gl_get hj
 rw [List.getElem?_eq_getElem hj] at e
 injection e with e
 simpa [e] using h2
theorem dpK_yes {F:List Ln} {id:Int} (h:dpK F id<F.length):drB id (gl F (dpK F id)).L=true:=by
 have h2:=List.findIdx_getElem (p:=fun l:Ln=>drB id l.L) (w:=h)
 have e:F[dpK F id]?=some (gl F (dpK F id)):=gl_get h
 rw [List.getElem?_eq_getElem h] at e
 injection e with e
 rw [←e]
 exact h2
section
variable (x:Fa) (a:Option Addr) (c:Nat) (w:World) (h:LsR w a c x.F) (hf:Few x.F)
include h hf
end
structure Fw100 (F:List Ln):Prop where
 len:F.length≤100
 each:∀ l∈F,Word l.s∧l.L.length≤110
theorem Fw100.few {F:List Ln} (h:Fw100 F):Few F:=⟨by have:=h.len;omega,fun l hl=>⟨(h.each l hl).1,by have:=(h.each l hl).2;omega⟩⟩
theorem xZ_few:Few xZ.F:=⟨by decide,fun _ h=>by cases h⟩
theorem nwX_few (o g n:Int):Few (nwX o g n).F:=by
 unfold nwX
 split
 ·rename_i h
  exact ⟨by show (nwF o.toNat).length≤200;rw [nwF_len];have:=h.1;omega,fun l hl=>by
   rw [(List.mem_replicate.1 hl).2];exact ⟨⟨by decide,by decide⟩,by decide⟩⟩
 ·exact xZ_few
theorem shX_few {x:Fa} (h:Few x.F) (o g n:Int):Few (shX x o g n).F:=by
 unfold shX
 split
 ·rename_i hg
  exact (h.sh (by have:=hg.1;omega)).trm o
 ·exact xZ_few
theorem jnX_few {x:Fa} (h:Few x.F) (h2:∀ k,(gl x.F k).L.length≤999) (hr:Word x.r) (k:Int) (t:Tk):Few (jnX x k t).F:=by
 unfold jnX
 split
 ·exact xZ_few
 ·split
  ·exact xZ_few
  ·exact h.set ⟨jnS_word (h.at _).1 hr,by have:=h2 k.toNat;simp;omega⟩
theorem tkX_few {x:Fa} (h:Few x.F):Few (tkX x).F:=by
 unfold tkX
 split
 ·exact h
 ·exact (h.set ⟨tkS_word (h.at _).1,by have:=(h.at (nxt x.F x.g).toNat).2;simp;omega⟩).trm _
theorem dpX_few {x:Fa} (h:Few x.F) (id:Int):Few (dpX x id).F:=by
 unfold dpX
 split
 ·have h1:=(h.at (dpK x.F id)).2
  have h2:=drL_len id (gl x.F (dpK x.F id)).L
  exact (Few.set h (k:=dpK x.F id) (l:=⟨(gl x.F (dpK x.F id)).s,drL id (gl x.F (dpK x.F id)).L⟩) ⟨(h.at (dpK x.F id)).1,Nat.le_trans h2 h1⟩).trm _
 ·exact h
end Go.Proofs.Ytlgibnmoogbdcaa
