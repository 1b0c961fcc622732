/-
  Who is next is taken, by the reference.
-/
import Derived.Test.YtlgibnmoogbdcaaGreatR17
import Derived.Test.YtlgibnmoogbdcaaGreatR12
namespace Go.Proofs.YtlgibnmoogbdcaaGreat
open Go.RowKit
set_option maxRecDepth 20000 in
set_option maxHeartbeats 4000000 in
theorem rftake_yes (r g nn o:Int) (a:Option Addr) (c:Nat) (F:List Ln) (w:World) (h:LsR w a c F) (hf:Few F) (k:Nat) (hc:nxt F g=k) :
  Calls Tryz.prog 43 #[.agg #[.int .u64 r,.int .i64 g,.int .i64 nn,.int .i64 o,.slice a F.length c]] w fun e w'=>(∃ v,e=.returned (.tuple #[v,.agg #[.int .i64 (gt (gl F k).L 0).id,.int .i64 (gt (gl F k).L 0).wid,.int .i64 (gt (gl F k).L 0).sts,.int .i64 (gt (gl F k).L 0).sin,.int .i64 (gt (gl F k).L 0).unt],.bool true])∧FaS (fun j=>j<w.heap.size) w' (max r (fN g (gl F k))) g nn o (trm (tkF F k g) o) v)∧Below w.heap.size w w':=by
 have hkk:k<F.length∧(gl F k).L≠[]:=by
  rcases (nxt_is F g).rng with h | ⟨p,h1,h2,h3,h4⟩
  ·omega
  ·obtain rfl:p=k:=by omega
   exact ⟨h3,h4⟩
 obtain ⟨tt,htt⟩:∃ tt,tt=gt (gl F k).L 0:=⟨_,rfl⟩
 have HTT:Hd (tt=gt (gl F k).L 0):=⟨htt⟩
 rw [←htt]
 clear htt
 obtain ⟨t0,t1,t2,t3,t4⟩:=tt
 simp only
 obtain ⟨w2,hw2⟩:∃ w2,w2=((w.alloc (.cells #[.int .u64 r,.int .i64 g,.int .i64 nn,.int .i64 o,.slice a F.length c] 31)).alloc (.cells #[.int .u64 0,.int .i64 0,.int .i64 0,.int .i64 0,.slice none 0 0] 31)).alloc (.cells #[.int .i64 0,.int .i64 0,.int .i64 0,.int .i64 0,.int .i64 0] 36):=⟨_,rfl⟩
 have BX:=boxes3 w 31 31 36 #[.int .u64 r,.int .i64 g,.int .i64 nn,.int .i64 o,.slice a F.length c] #[.int .u64 0,.int .i64 0,.int .i64 0,.int .i64 0,.slice none 0 0] #[.int .i64 0,.int .i64 0,.int .i64 0,.int .i64 0,.int .i64 0]
 rw [←hw2] at BX
 obtain ⟨B,N1,N2,N3⟩:=BX
 have HF:Hd (Few F):=⟨hf⟩
 have HW:Hd (LsR w a c F):=⟨h⟩
 have hlen:=hf.len
 have NXT:=rnext_ok r g nn o a c F w2 (h.carry B) hf
 rw [hc,nI_nat,nB_nat] at NXT
 obtain ⟨n,hn⟩:∃ n,F.length=n:=⟨_,rfl⟩
 have HL:Hd (F.length=n):=⟨hn⟩
 have HN:Hd (LsR w2 a c F∧Below w.heap.size w w2∧Blk w2 w.heap.size 31 (faA r g nn o (.slice a n c))∧Blk w2 (w.heap.size+1) 31 (faA 0 0 0 0 (.slice none 0 0))∧Blk w2 (w.heap.size+1+1) 36 (tkA tkZ)):=⟨h.carry B,B,by rw [←hn];exact N1,N2,N3⟩
 have hs:=N3.lt
 obtain ⟨⟨x0,x1,x2,x3,x4⟩,-⟩:=Blk.fair N1
 rw [hn] at hlen hw2 x4 NXT ⊢
 clear hn B N1 N2 N3 h hf
 go_enter Tryz.func43,Tryz.ntmps43
 go_upto_region 1 with fail
 rw [←hw2]
 clear hw2
 obtain ⟨A,hA⟩:∃ A,A=w.heap.size:=⟨_,rfl⟩
 have HA:Hd (A=w.heap.size):=⟨hA⟩
 rw [←hA] at HN hs x0 x1 x2 x3 x4 ⊢
 clear hA
 go_wp2_with fail
 go_at_call 42
 refine NXT.mono ?_
 rintro e w3 ⟨rfl,b3⟩
 clear NXT x0 x1 x2 x3 x4
 have hs3:=b3.size
 have H3:Hd (LsR w3 a c F∧Below A w w3∧Blk w3 A 31 (faA r g nn o (.slice a n c))∧Blk w3 (A+1) 31 (faA 0 0 0 0 (.slice none 0 0))∧Blk w3 (A+1+1) 36 (tkA tkZ)) :=
  ⟨HN.out.1.carry b3,HN.out.2.1.trans (b3.mono (show A≤w2.heap.size by omega)),HN.out.2.2.1.kept (Kept.of_below b3 (fun _=>False)) id,HN.out.2.2.2.1.kept (Kept.of_below b3 (fun _=>False)) id,HN.out.2.2.2.2.kept (Kept.of_below b3 (fun _=>False)) id⟩
 clear HN b3
 have hk:k<n:=by rw [←HL.out];exact hkk.1
 have HNE:Hd ((gl F k).L≠[]):=⟨hkk.2⟩
 have hk0:(0:Int)≤(k:Int):=by omega
 obtain ⟨b1,o1,a1,c1,rfl,hb1,d0,d1,s1⟩:=H3.out.1.at hkk.1
 have HK:=HF.out.at k
 have HKH:Hd (Word (gl F k).s∧(gl F k).L.length≤1000):=⟨HK⟩
 obtain ⟨s,hs'⟩:∃ s,s=fN g (gl F k):=⟨_,rfl⟩
 have HS:Hd (s=fN g (gl F k)):=⟨hs'⟩
 have HSW:Hd (Word s):=⟨by rw [hs'];exact fN_word HK.1⟩
 obtain ⟨D,hD⟩:∃ D,D=(gl F k).L.tail:=⟨_,rfl⟩
 have HD:Hd (D=(gl F k).L.tail):=⟨hD⟩
 obtain ⟨m,hm⟩:∃ m,m=D.length:=⟨_,rfl⟩
 have HM:Hd (m=D.length):=⟨hm⟩
 have HTK:Hd (tkF F k g=F.set k ⟨s,D⟩):=⟨by rw [HS.out,HD.out];unfold tkF;rw [tkS_some HNE.out];rfl⟩
 obtain ⟨⟨x0,x1,x2,x3,x4⟩,-⟩:=H3.out.2.2.1.fair
 have CP:=rcopy_ok r g nn o (some ⟨b1,o1,none⟩) c F w3 H3.out.1 HF.out
 rw [HL.out] at CP
 go_wp2_with fail
 go_at_call 32
 refine CP.mono ?_
 rintro e w4 ⟨⟨v4,rfl,u4,rfl,o4⟩,b4⟩
 clear CP x0 x1 x2 x3 x4
 obtain ⟨q,c5,e5,hq0,hq⟩:=o4.blk (by have:=hkk.1;omega)
 rw [HL.out] at e5
 subst e5
 obtain ⟨wd,hwd⟩:∃ wd,wd=w4.alloc (.cells #[.int .u64 r,.int .i64 g,.int .i64 nn,.int .i64 o,.slice (some ⟨q,0,none⟩) n c5] 31):=⟨_,rfl⟩
 have Bd:Below w4.heap.size w4 wd:=by rw [hwd];exact alloc_below _ _
 have Nd:Blk wd w4.heap.size 31 (faA r g nn o (.slice (some ⟨q,0,none⟩) n c5)):=by rw [hwd];exact Blk.new _ _ _
 have b3d:Below w3.heap.size w3 wd:=b4.trans (Bd.mono b4.size)
 have HD3:Hd (Blk wd A 31 (faA r g nn o (.slice (some ⟨b1,o1,none⟩) n c))∧Blk wd (A+1) 31 (faA 0 0 0 0 (.slice none 0 0))∧Blk wd (A+1+1) 36 (tkA tkZ)∧Below A w wd∧Blk wd w4.heap.size 31 (faA r g nn o (.slice (some ⟨q,0,none⟩) n c5))∧OwL wd w3.heap.size (.slice (some ⟨q,0,none⟩) n c5) F) :=
  ⟨H3.out.2.2.1.kept (Kept.of_below b3d (fun _=>False)) id,H3.out.2.2.2.1.kept (Kept.of_below b3d (fun _=>False)) id,H3.out.2.2.2.2.kept (Kept.of_below b3d (fun _=>False)) id,H3.out.2.1.trans (b3d.mono (show A≤w3.heap.size by omega)),Nd,o4.kept (Kept.of_below Bd (fun _=>False)) (fun _ _ h=>h)⟩
 have hydd:w4.heap.size<wd.heap.size:=Nd.lt
 have h34:w3.heap.size≤w4.heap.size:=b4.size
 have s1d:=s1.carry b3d
 have d0d:=(World.cell?_of_block (b3d.block b1 hb1)).trans d0
 have d1d:=(World.cell?_of_block (b3d.block b1 hb1)).trans d1
 have hb1d:b1<wd.heap.size:=Nat.lt_of_lt_of_le hb1 b3d.size
 clear o4 b4 Bd Nd b3d H3
 go_upto_region 5 with fail
 rw [←hwd]
 clear hwd
 generalize w4.heap.size=y at *
 have HY:Hd (∀ Y,Below wd.heap.size wd Y→(Y.cell? ⟨A,1,none⟩=some (.int .i64 g)∧Y.cell? ⟨A,4,none⟩=some (.slice (some ⟨b1,o1,none⟩) n c))∧Y.cell? ⟨b1,o1+k*2,none⟩=some (.int .u64 (gl F k).s)∧Y.cell? ⟨b1,o1+k*2+1,none⟩=some (.slice a1 (gl F k).L.length c1)):=⟨fun Y q=>by
  have K4:Kept (fun _=>False) wd Y:=Kept.of_below q _
  have NA:=(HD3.out.1.kept K4 id).fair.1
  exact ⟨⟨NA.2.1,NA.2.2.2.2⟩,(World.cell?_of_block (K4.block b1 hb1d id)).trans d0d,(World.cell?_of_block (K4.block b1 hb1d id)).trans d1d⟩⟩
 have CT:Hd (∀ Y,Below wd.heap.size wd Y→Calls Tryz.prog 79 #[.agg #[.int .u64 (gl F k).s,.slice a1 (gl F k).L.length c1],.int .i64 g] Y fun e w'=>∃ a' c',e=.returned (.tuple #[.agg #[.int .u64 s,.slice a' m c'],.agg #[.int .i64 t0,.int .i64 t1,.int .i64 t2,.int .i64 t3,.int .i64 t4],.bool true])∧OwnT w' Y.heap.size (.slice a' m c') D∧Below Y.heap.size Y w'):=⟨fun Y q=>by
  have T:=rtake_ok (gl F k).s a1 c1 (gl F k).L g Y HKH.out.1 (s1d.carry q) (by have:=HKH.out.2;omega)
  rw [hasI_some HNE.out,tkS_some HNE.out,show finI (gl F k).s (gl F k).L g=fN g (gl F k) from rfl,← HS.out,← HD.out,← HTT.out] at T
  refine T.mono ?_
  rintro e w' ⟨⟨v,rfl,hv⟩,b⟩
  obtain ⟨a',c',rfl,-,o'⟩:=hv.2 rfl
  rw [←HM.out] at o'
  exact ⟨a',c',by rw [HM.out],o',b⟩⟩
 clear hs' hD hm hkk d0 d1 s1 hb1 d0d d1d s1d hb1d
 go_cut [8,9,10] from 22 to 33 (fun s7 s8 s9 wx=>TwB wd s m D ⟨t0,t1,t2,t3,t4⟩ s7 s8 wx)
 case first =>
  have B4:Below wd.heap.size wd wd.drew:=(Below.refl _ _).drew
  refine AnyG.start (T:=fun Y=>Below wd.heap.size wd Y) (U:=fun _=>True) (j0:=100) (by kernel_rfl) ?_
  generalize wd.drew=v0 at *
  refine .tq 0 23 B4 ?_;simp only [oqA,oqB,oqC]
  refine .tq 1 24 B4 ?_ (hy:=fun w hSw=>by have s:=(HY.out w hSw).1;go_simp;rfl);simp only [oqA,oqB,oqC]
  refine .tq 2 25 B4 ?_;simp only [oqA,oqB,oqC]
  refine .tq 3 26 B4 ?_;simp only [oqA,oqB,oqC]
  refine .tq 4 27 B4 ?_ (hy:=fun w hSw=>by have s:=(HY.out w hSw).2;go_simp;rfl);simp only [oqA,oqB,oqC]
  refine .tq 5 28 B4 ?_;simp only [oqA,oqB,oqC]
  refine .tq 6 29 B4 ?_ (hy:=fun w hSw=>by have s:=(HY.out w hSw).1;go_simp;rfl);simp only [oqA,oqB,oqC]
  refine AnyG.ready (rs:=[7,12,13]) (by kernel_rfl) (by simp) ?_
  refine AllG.cons rfl (fun K hK=>?_) (AllG.cons rfl (fun K hK=>?_) (AllG.cons rfl (fun K hK=>?_) (AllG.nil)))
  ·skip
   go_simp
   refine (CT.out v0 B4).mono ?_
   rintro e v1 ⟨a6,c6,rfl,OC,b6⟩
   have B5:Below wd.heap.size wd v1:=B4.trans (b6.mono B4.size)
   replace OC:=OC.low B4.size
   refine hK.out _ _ ⟨B5,fun _=>trivial⟩ ?_
   clear hK K b6 B4
   have B4:=B5
   clear B5
   refine .tq 8 22 B4 ?_;simp only [oqA,oqB,oqC]
   refine .tq 9 31 B4 ?_;simp only [oqA,oqB,oqC]
   refine .tq 10 32 B4 ?_;simp only [oqA,oqB,oqC]
   refine .tq 11 33 B4 ?_;simp only [oqA,oqB,oqC]
   refine AnyG.ready (rs:=[12,13]) (by kernel_rfl) (by simp) ?_
   refine AllG.cons rfl (fun K hK=>?_) (AllG.cons rfl (fun K hK=>?_) (AllG.nil))
   ·skip
    go_simp
    have NA:Blk (v1.alloc (.cells #[.int .u64 0,.slice none 0 0] 62)) v1.heap.size 62 (lnA 0 (.slice none 0 0)):=Blk.new _ _ _
    have gea:Hd (wd.heap.size≤v1.heap.size):=⟨B4.size⟩
    have b6:Below v1.heap.size v1 (v1.alloc (.cells #[.int .u64 0,.slice none 0 0] 62)):=alloc_below _ _
    have B5:=B4.trans (b6.mono B4.size)
    replace OC:=OC.kept (Kept.of_below b6 (fun _=>False)) (fun _ _ h=>h)
    refine hK.out _ _ ⟨B5,fun _=>trivial⟩ ?_
    clear hK K b6 B4
    have B4:=B5
    clear B5
    generalize v1.alloc _=v2 at *
    generalize v1.heap.size=ga at *
    refine AnyG.ready (rs:=[13]) (by kernel_rfl) (by simp) ?_
    refine AllG.cons rfl (fun K hK=>?_) (AllG.nil)
    ·skip
     go_simp
     have NB:Blk (v2.alloc (.cells #[.int .i64 0,.int .i64 0,.int .i64 0,.int .i64 0,.int .i64 0] 36)) v2.heap.size 36 (tkA tkZ):=Blk.new _ _ _
     have geb:Hd (wd.heap.size≤v2.heap.size):=⟨B4.size⟩
     have b6:Below v2.heap.size v2 (v2.alloc (.cells #[.int .i64 0,.int .i64 0,.int .i64 0,.int .i64 0,.int .i64 0] 36)):=alloc_below _ _
     have B5:=B4.trans (b6.mono B4.size)
     have hvb:Hd (∀ j,Value.ownBlock (.slice a6 m c6)=some j→¬ j=v2.heap.size):=⟨fun j e h=>by have:=(OC.lt j e).2;omega⟩
     replace OC:=OC.kept (Kept.of_below b6 (fun _=>False)) (fun _ _ h=>h)
     replace NA:=NA.kept (Kept.of_below b6 (fun _=>False)) id
     refine hK.out _ _ ⟨B5,fun _=>trivial⟩ ?_
     clear hK K b6 B4
     have B4:=B5
     clear B5
     generalize v2.alloc _=v3 at *
     generalize v2.heap.size=gb at *
     obtain ⟨⟨r0,r1⟩,f0,f1⟩:=NA.lane
     obtain ⟨q1,q2⟩:=lane_set NA s (.slice a6 m c6)
     have NB1:=NB.kept q2 (fun e=>NA.ne NB (by decide) e.symm)
     have OC1:=OC.other NA q2
     have B5:=B4.trans (q2.below B4.size (fun j e=>by rw [e];exact gea.out))
     refine AnyG.ready (rs:=[14]) (by kernel_rfl) (by simp) ?_
     refine AllG.cons rfl (fun K hK=>?_) AllG.nil
     go_simp
     refine hK.out _ _ ⟨B5,fun _=>trivial⟩ ?_
     clear hK K r0 r1 f0 f1
     obtain ⟨⟨d0,d1,d2,d3,d4⟩,e0,e1,e2,e3,e4⟩:=NB1.five
     obtain ⟨q3,q4⟩:=five_set NB1 ⟨t0,t1,t2,t3,t4⟩
     have NA2:=q1.kept q4 (fun e=>q1.ne NB1 (by decide) e)
     have OC2:=OC1.keptV q4 (fun j e h=>hvb.out j e h)
     have B6:=B5.trans (q4.below B5.size (fun j e=>by rw [e];exact geb.out))
     simp only [tkZ] at d0 d1 d2 d3 d4 q3 q4 NA2 OC2 B6
     refine AnyG.ready (rs:=[15]) (by kernel_rfl) (by simp) ?_
     refine AllG.cons rfl (fun K hK=>?_) AllG.nil
     go_simp
     refine hK.out _ _ ⟨B6,fun _=>trivial⟩ ?_
     clear hK K d0 d1 d2 d3 d4 e0 e1 e2 e3 e4
     refine .tq 16 10 B6 ?_;simp only [oqA,oqB,oqC]
     refine AnyG.done (by kernel_rfl) ?_ _
     have HT:Hd (TwB wd s m D ⟨t0,t1,t2,t3,t4⟩ (.pointer (some ⟨ga,0,none⟩)) (.pointer (some ⟨gb,0,none⟩)) _):=⟨⟨ga,gb,a6,c6,⟨rfl,rfl⟩,⟨gea.out,geb.out⟩,NA2,q3,OC2,B6⟩⟩
     clear NA NB NB1 OC OC1 q1 q2 q3 q4 NA2 OC2 B4 B5 B6 hvb gea geb
     go_wp2_with fail
     go_meet
     exact HT.out
   ·skip
    go_simp
    have NB:Blk (v1.alloc (.cells #[.int .i64 0,.int .i64 0,.int .i64 0,.int .i64 0,.int .i64 0] 36)) v1.heap.size 36 (tkA tkZ):=Blk.new _ _ _
    have geb:Hd (wd.heap.size≤v1.heap.size):=⟨B4.size⟩
    have b6:Below v1.heap.size v1 (v1.alloc (.cells #[.int .i64 0,.int .i64 0,.int .i64 0,.int .i64 0,.int .i64 0] 36)):=alloc_below _ _
    have B5:=B4.trans (b6.mono B4.size)
    have hvb:Hd (∀ j,Value.ownBlock (.slice a6 m c6)=some j→¬ j=v1.heap.size):=⟨fun j e h=>by have:=(OC.lt j e).2;omega⟩
    replace OC:=OC.kept (Kept.of_below b6 (fun _=>False)) (fun _ _ h=>h)
    refine hK.out _ _ ⟨B5,fun _=>trivial⟩ ?_
    clear hK K b6 B4
    have B4:=B5
    clear B5
    generalize v1.alloc _=v2 at *
    generalize v1.heap.size=gb at *
    refine AnyG.ready (rs:=[12]) (by kernel_rfl) (by simp) ?_
    refine AllG.cons rfl (fun K hK=>?_) (AllG.nil)
    ·skip
     go_simp
     have NA:Blk (v2.alloc (.cells #[.int .u64 0,.slice none 0 0] 62)) v2.heap.size 62 (lnA 0 (.slice none 0 0)):=Blk.new _ _ _
     have gea:Hd (wd.heap.size≤v2.heap.size):=⟨B4.size⟩
     have b6:Below v2.heap.size v2 (v2.alloc (.cells #[.int .u64 0,.slice none 0 0] 62)):=alloc_below _ _
     have B5:=B4.trans (b6.mono B4.size)
     replace OC:=OC.kept (Kept.of_below b6 (fun _=>False)) (fun _ _ h=>h)
     replace NB:=NB.kept (Kept.of_below b6 (fun _=>False)) id
     refine hK.out _ _ ⟨B5,fun _=>trivial⟩ ?_
     clear hK K b6 B4
     have B4:=B5
     clear B5
     generalize v2.alloc _=v3 at *
     generalize v2.heap.size=ga at *
     obtain ⟨⟨r0,r1⟩,f0,f1⟩:=NA.lane
     obtain ⟨q1,q2⟩:=lane_set NA s (.slice a6 m c6)
     have NB1:=NB.kept q2 (fun e=>NA.ne NB (by decide) e.symm)
     have OC1:=OC.other NA q2
     have B5:=B4.trans (q2.below B4.size (fun j e=>by rw [e];exact gea.out))
     refine AnyG.ready (rs:=[14]) (by kernel_rfl) (by simp) ?_
     refine AllG.cons rfl (fun K hK=>?_) AllG.nil
     go_simp
     refine hK.out _ _ ⟨B5,fun _=>trivial⟩ ?_
     clear hK K r0 r1 f0 f1
     obtain ⟨⟨d0,d1,d2,d3,d4⟩,e0,e1,e2,e3,e4⟩:=NB1.five
     obtain ⟨q3,q4⟩:=five_set NB1 ⟨t0,t1,t2,t3,t4⟩
     have NA2:=q1.kept q4 (fun e=>q1.ne NB1 (by decide) e)
     have OC2:=OC1.keptV q4 (fun j e h=>hvb.out j e h)
     have B6:=B5.trans (q4.below B5.size (fun j e=>by rw [e];exact geb.out))
     simp only [tkZ] at d0 d1 d2 d3 d4 q3 q4 NA2 OC2 B6
     refine AnyG.ready (rs:=[15]) (by kernel_rfl) (by simp) ?_
     refine AllG.cons rfl (fun K hK=>?_) AllG.nil
     go_simp
     refine hK.out _ _ ⟨B6,fun _=>trivial⟩ ?_
     clear hK K d0 d1 d2 d3 d4 e0 e1 e2 e3 e4
     refine .tq 16 10 B6 ?_;simp only [oqA,oqB,oqC]
     refine AnyG.done (by kernel_rfl) ?_ _
     have HT:Hd (TwB wd s m D ⟨t0,t1,t2,t3,t4⟩ (.pointer (some ⟨ga,0,none⟩)) (.pointer (some ⟨gb,0,none⟩)) _):=⟨⟨ga,gb,a6,c6,⟨rfl,rfl⟩,⟨gea.out,geb.out⟩,NA2,q3,OC2,B6⟩⟩
     clear NA NB NB1 OC OC1 q1 q2 q3 q4 NA2 OC2 B4 B5 B6 hvb gea geb
     go_wp2_with fail
     go_meet
     exact HT.out
  ·skip
   go_simp
   have NA:Blk (v0.alloc (.cells #[.int .u64 0,.slice none 0 0] 62)) v0.heap.size 62 (lnA 0 (.slice none 0 0)):=Blk.new _ _ _
   have gea:Hd (wd.heap.size≤v0.heap.size):=⟨B4.size⟩
   have b6:Below v0.heap.size v0 (v0.alloc (.cells #[.int .u64 0,.slice none 0 0] 62)):=alloc_below _ _
   have B5:=B4.trans (b6.mono B4.size)
   refine hK.out _ _ ⟨B5,fun _=>trivial⟩ ?_
   clear hK K b6 B4
   have B4:=B5
   clear B5
   generalize v0.alloc _=v1 at *
   generalize v0.heap.size=ga at *
   refine AnyG.ready (rs:=[7,13]) (by kernel_rfl) (by simp) ?_
   refine AllG.cons rfl (fun K hK=>?_) (AllG.cons rfl (fun K hK=>?_) (AllG.nil))
   ·skip
    go_simp
    refine (CT.out v1 B4).mono ?_
    rintro e v2 ⟨a6,c6,rfl,OC,b6⟩
    have B5:Below wd.heap.size wd v2:=B4.trans (b6.mono B4.size)
    replace NA:=NA.kept (Kept.of_below b6 (fun _=>False)) id
    replace OC:=OC.low B4.size
    refine hK.out _ _ ⟨B5,fun _=>trivial⟩ ?_
    clear hK K b6 B4
    have B4:=B5
    clear B5
    refine .tq 8 22 B4 ?_;simp only [oqA,oqB,oqC]
    refine .tq 9 31 B4 ?_;simp only [oqA,oqB,oqC]
    refine .tq 10 32 B4 ?_;simp only [oqA,oqB,oqC]
    refine .tq 11 33 B4 ?_;simp only [oqA,oqB,oqC]
    refine AnyG.ready (rs:=[13]) (by kernel_rfl) (by simp) ?_
    refine AllG.cons rfl (fun K hK=>?_) (AllG.nil)
    ·skip
     go_simp
     have NB:Blk (v2.alloc (.cells #[.int .i64 0,.int .i64 0,.int .i64 0,.int .i64 0,.int .i64 0] 36)) v2.heap.size 36 (tkA tkZ):=Blk.new _ _ _
     have geb:Hd (wd.heap.size≤v2.heap.size):=⟨B4.size⟩
     have b6:Below v2.heap.size v2 (v2.alloc (.cells #[.int .i64 0,.int .i64 0,.int .i64 0,.int .i64 0,.int .i64 0] 36)):=alloc_below _ _
     have B5:=B4.trans (b6.mono B4.size)
     have hvb:Hd (∀ j,Value.ownBlock (.slice a6 m c6)=some j→¬ j=v2.heap.size):=⟨fun j e h=>by have:=(OC.lt j e).2;omega⟩
     replace OC:=OC.kept (Kept.of_below b6 (fun _=>False)) (fun _ _ h=>h)
     replace NA:=NA.kept (Kept.of_below b6 (fun _=>False)) id
     refine hK.out _ _ ⟨B5,fun _=>trivial⟩ ?_
     clear hK K b6 B4
     have B4:=B5
     clear B5
     generalize v2.alloc _=v3 at *
     generalize v2.heap.size=gb at *
     obtain ⟨⟨r0,r1⟩,f0,f1⟩:=NA.lane
     obtain ⟨q1,q2⟩:=lane_set NA s (.slice a6 m c6)
     have NB1:=NB.kept q2 (fun e=>NA.ne NB (by decide) e.symm)
     have OC1:=OC.other NA q2
     have B5:=B4.trans (q2.below B4.size (fun j e=>by rw [e];exact gea.out))
     refine AnyG.ready (rs:=[14]) (by kernel_rfl) (by simp) ?_
     refine AllG.cons rfl (fun K hK=>?_) AllG.nil
     go_simp
     refine hK.out _ _ ⟨B5,fun _=>trivial⟩ ?_
     clear hK K r0 r1 f0 f1
     obtain ⟨⟨d0,d1,d2,d3,d4⟩,e0,e1,e2,e3,e4⟩:=NB1.five
     obtain ⟨q3,q4⟩:=five_set NB1 ⟨t0,t1,t2,t3,t4⟩
     have NA2:=q1.kept q4 (fun e=>q1.ne NB1 (by decide) e)
     have OC2:=OC1.keptV q4 (fun j e h=>hvb.out j e h)
     have B6:=B5.trans (q4.below B5.size (fun j e=>by rw [e];exact geb.out))
     simp only [tkZ] at d0 d1 d2 d3 d4 q3 q4 NA2 OC2 B6
     refine AnyG.ready (rs:=[15]) (by kernel_rfl) (by simp) ?_
     refine AllG.cons rfl (fun K hK=>?_) AllG.nil
     go_simp
     refine hK.out _ _ ⟨B6,fun _=>trivial⟩ ?_
     clear hK K d0 d1 d2 d3 d4 e0 e1 e2 e3 e4
     refine .tq 16 10 B6 ?_;simp only [oqA,oqB,oqC]
     refine AnyG.done (by kernel_rfl) ?_ _
     have HT:Hd (TwB wd s m D ⟨t0,t1,t2,t3,t4⟩ (.pointer (some ⟨ga,0,none⟩)) (.pointer (some ⟨gb,0,none⟩)) _):=⟨⟨ga,gb,a6,c6,⟨rfl,rfl⟩,⟨gea.out,geb.out⟩,NA2,q3,OC2,B6⟩⟩
     clear NA NB NB1 OC OC1 q1 q2 q3 q4 NA2 OC2 B4 B5 B6 hvb gea geb
     go_wp2_with fail
     go_meet
     exact HT.out
   ·skip
    go_simp
    have NB:Blk (v1.alloc (.cells #[.int .i64 0,.int .i64 0,.int .i64 0,.int .i64 0,.int .i64 0] 36)) v1.heap.size 36 (tkA tkZ):=Blk.new _ _ _
    have geb:Hd (wd.heap.size≤v1.heap.size):=⟨B4.size⟩
    have b6:Below v1.heap.size v1 (v1.alloc (.cells #[.int .i64 0,.int .i64 0,.int .i64 0,.int .i64 0,.int .i64 0] 36)):=alloc_below _ _
    have B5:=B4.trans (b6.mono B4.size)
    replace NA:=NA.kept (Kept.of_below b6 (fun _=>False)) id
    refine hK.out _ _ ⟨B5,fun _=>trivial⟩ ?_
    clear hK K b6 B4
    have B4:=B5
    clear B5
    generalize v1.alloc _=v2 at *
    generalize v1.heap.size=gb at *
    refine AnyG.ready (rs:=[7]) (by kernel_rfl) (by simp) ?_
    refine AllG.cons rfl (fun K hK=>?_) (AllG.nil)
    ·skip
     go_simp
     refine (CT.out v2 B4).mono ?_
     rintro e v3 ⟨a6,c6,rfl,OC,b6⟩
     have B5:Below wd.heap.size wd v3:=B4.trans (b6.mono B4.size)
     replace NA:=NA.kept (Kept.of_below b6 (fun _=>False)) id
     have hvb:Hd (∀ j,Value.ownBlock (.slice a6 m c6)=some j→¬ j=gb):=⟨fun j e h=>by have:=(OC.lt j e).1;have:=NB.lt;omega⟩
     replace NB:=NB.kept (Kept.of_below b6 (fun _=>False)) id
     replace OC:=OC.low B4.size
     refine hK.out _ _ ⟨B5,fun _=>trivial⟩ ?_
     clear hK K b6 B4
     have B4:=B5
     clear B5
     refine .tq 8 22 B4 ?_;simp only [oqA,oqB,oqC]
     refine .tq 9 31 B4 ?_;simp only [oqA,oqB,oqC]
     refine .tq 10 32 B4 ?_;simp only [oqA,oqB,oqC]
     refine .tq 11 33 B4 ?_;simp only [oqA,oqB,oqC]
     obtain ⟨⟨r0,r1⟩,f0,f1⟩:=NA.lane
     obtain ⟨q1,q2⟩:=lane_set NA s (.slice a6 m c6)
     have NB1:=NB.kept q2 (fun e=>NA.ne NB (by decide) e.symm)
     have OC1:=OC.other NA q2
     have B5:=B4.trans (q2.below B4.size (fun j e=>by rw [e];exact gea.out))
     refine AnyG.ready (rs:=[14]) (by kernel_rfl) (by simp) ?_
     refine AllG.cons rfl (fun K hK=>?_) AllG.nil
     go_simp
     refine hK.out _ _ ⟨B5,fun _=>trivial⟩ ?_
     clear hK K r0 r1 f0 f1
     obtain ⟨⟨d0,d1,d2,d3,d4⟩,e0,e1,e2,e3,e4⟩:=NB1.five
     obtain ⟨q3,q4⟩:=five_set NB1 ⟨t0,t1,t2,t3,t4⟩
     have NA2:=q1.kept q4 (fun e=>q1.ne NB1 (by decide) e)
     have OC2:=OC1.keptV q4 (fun j e h=>hvb.out j e h)
     have B6:=B5.trans (q4.below B5.size (fun j e=>by rw [e];exact geb.out))
     simp only [tkZ] at d0 d1 d2 d3 d4 q3 q4 NA2 OC2 B6
     refine AnyG.ready (rs:=[15]) (by kernel_rfl) (by simp) ?_
     refine AllG.cons rfl (fun K hK=>?_) AllG.nil
     go_simp
     refine hK.out _ _ ⟨B6,fun _=>trivial⟩ ?_
     clear hK K d0 d1 d2 d3 d4 e0 e1 e2 e3 e4
     refine .tq 16 10 B6 ?_;simp only [oqA,oqB,oqC]
     refine AnyG.done (by kernel_rfl) ?_ _
     have HT:Hd (TwB wd s m D ⟨t0,t1,t2,t3,t4⟩ (.pointer (some ⟨ga,0,none⟩)) (.pointer (some ⟨gb,0,none⟩)) _):=⟨⟨ga,gb,a6,c6,⟨rfl,rfl⟩,⟨gea.out,geb.out⟩,NA2,q3,OC2,B6⟩⟩
     clear NA NB NB1 OC OC1 q1 q2 q3 q4 NA2 OC2 B4 B5 B6 hvb gea geb
     go_wp2_with fail
     go_meet
     exact HT.out
  ·skip
   go_simp
   have NB:Blk (v0.alloc (.cells #[.int .i64 0,.int .i64 0,.int .i64 0,.int .i64 0,.int .i64 0] 36)) v0.heap.size 36 (tkA tkZ):=Blk.new _ _ _
   have geb:Hd (wd.heap.size≤v0.heap.size):=⟨B4.size⟩
   have b6:Below v0.heap.size v0 (v0.alloc (.cells #[.int .i64 0,.int .i64 0,.int .i64 0,.int .i64 0,.int .i64 0] 36)):=alloc_below _ _
   have B5:=B4.trans (b6.mono B4.size)
   refine hK.out _ _ ⟨B5,fun _=>trivial⟩ ?_
   clear hK K b6 B4
   have B4:=B5
   clear B5
   generalize v0.alloc _=v1 at *
   generalize v0.heap.size=gb at *
   refine AnyG.ready (rs:=[7,12]) (by kernel_rfl) (by simp) ?_
   refine AllG.cons rfl (fun K hK=>?_) (AllG.cons rfl (fun K hK=>?_) (AllG.nil))
   ·skip
    go_simp
    refine (CT.out v1 B4).mono ?_
    rintro e v2 ⟨a6,c6,rfl,OC,b6⟩
    have B5:Below wd.heap.size wd v2:=B4.trans (b6.mono B4.size)
    have hvb:Hd (∀ j,Value.ownBlock (.slice a6 m c6)=some j→¬ j=gb):=⟨fun j e h=>by have:=(OC.lt j e).1;have:=NB.lt;omega⟩
    replace NB:=NB.kept (Kept.of_below b6 (fun _=>False)) id
    replace OC:=OC.low B4.size
    refine hK.out _ _ ⟨B5,fun _=>trivial⟩ ?_
    clear hK K b6 B4
    have B4:=B5
    clear B5
    refine .tq 8 22 B4 ?_;simp only [oqA,oqB,oqC]
    refine .tq 9 31 B4 ?_;simp only [oqA,oqB,oqC]
    refine .tq 10 32 B4 ?_;simp only [oqA,oqB,oqC]
    refine .tq 11 33 B4 ?_;simp only [oqA,oqB,oqC]
    refine AnyG.ready (rs:=[12]) (by kernel_rfl) (by simp) ?_
    refine AllG.cons rfl (fun K hK=>?_) (AllG.nil)
    ·skip
     go_simp
     have NA:Blk (v2.alloc (.cells #[.int .u64 0,.slice none 0 0] 62)) v2.heap.size 62 (lnA 0 (.slice none 0 0)):=Blk.new _ _ _
     have gea:Hd (wd.heap.size≤v2.heap.size):=⟨B4.size⟩
     have b6:Below v2.heap.size v2 (v2.alloc (.cells #[.int .u64 0,.slice none 0 0] 62)):=alloc_below _ _
     have B5:=B4.trans (b6.mono B4.size)
     replace OC:=OC.kept (Kept.of_below b6 (fun _=>False)) (fun _ _ h=>h)
     replace NB:=NB.kept (Kept.of_below b6 (fun _=>False)) id
     refine hK.out _ _ ⟨B5,fun _=>trivial⟩ ?_
     clear hK K b6 B4
     have B4:=B5
     clear B5
     generalize v2.alloc _=v3 at *
     generalize v2.heap.size=ga at *
     obtain ⟨⟨r0,r1⟩,f0,f1⟩:=NA.lane
     obtain ⟨q1,q2⟩:=lane_set NA s (.slice a6 m c6)
     have NB1:=NB.kept q2 (fun e=>NA.ne NB (by decide) e.symm)
     have OC1:=OC.other NA q2
     have B5:=B4.trans (q2.below B4.size (fun j e=>by rw [e];exact gea.out))
     refine AnyG.ready (rs:=[14]) (by kernel_rfl) (by simp) ?_
     refine AllG.cons rfl (fun K hK=>?_) AllG.nil
     go_simp
     refine hK.out _ _ ⟨B5,fun _=>trivial⟩ ?_
     clear hK K r0 r1 f0 f1
     obtain ⟨⟨d0,d1,d2,d3,d4⟩,e0,e1,e2,e3,e4⟩:=NB1.five
     obtain ⟨q3,q4⟩:=five_set NB1 ⟨t0,t1,t2,t3,t4⟩
     have NA2:=q1.kept q4 (fun e=>q1.ne NB1 (by decide) e)
     have OC2:=OC1.keptV q4 (fun j e h=>hvb.out j e h)
     have B6:=B5.trans (q4.below B5.size (fun j e=>by rw [e];exact geb.out))
     simp only [tkZ] at d0 d1 d2 d3 d4 q3 q4 NA2 OC2 B6
     refine AnyG.ready (rs:=[15]) (by kernel_rfl) (by simp) ?_
     refine AllG.cons rfl (fun K hK=>?_) AllG.nil
     go_simp
     refine hK.out _ _ ⟨B6,fun _=>trivial⟩ ?_
     clear hK K d0 d1 d2 d3 d4 e0 e1 e2 e3 e4
     refine .tq 16 10 B6 ?_;simp only [oqA,oqB,oqC]
     refine AnyG.done (by kernel_rfl) ?_ _
     have HT:Hd (TwB wd s m D ⟨t0,t1,t2,t3,t4⟩ (.pointer (some ⟨ga,0,none⟩)) (.pointer (some ⟨gb,0,none⟩)) _):=⟨⟨ga,gb,a6,c6,⟨rfl,rfl⟩,⟨gea.out,geb.out⟩,NA2,q3,OC2,B6⟩⟩
     clear NA NB NB1 OC OC1 q1 q2 q3 q4 NA2 OC2 B4 B5 B6 hvb gea geb
     go_wp2_with fail
     go_meet
     exact HT.out
   ·skip
    go_simp
    have NA:Blk (v1.alloc (.cells #[.int .u64 0,.slice none 0 0] 62)) v1.heap.size 62 (lnA 0 (.slice none 0 0)):=Blk.new _ _ _
    have gea:Hd (wd.heap.size≤v1.heap.size):=⟨B4.size⟩
    have b6:Below v1.heap.size v1 (v1.alloc (.cells #[.int .u64 0,.slice none 0 0] 62)):=alloc_below _ _
    have B5:=B4.trans (b6.mono B4.size)
    replace NB:=NB.kept (Kept.of_below b6 (fun _=>False)) id
    refine hK.out _ _ ⟨B5,fun _=>trivial⟩ ?_
    clear hK K b6 B4
    have B4:=B5
    clear B5
    generalize v1.alloc _=v2 at *
    generalize v1.heap.size=ga at *
    refine AnyG.ready (rs:=[7]) (by kernel_rfl) (by simp) ?_
    refine AllG.cons rfl (fun K hK=>?_) (AllG.nil)
    ·skip
     go_simp
     refine (CT.out v2 B4).mono ?_
     rintro e v3 ⟨a6,c6,rfl,OC,b6⟩
     have B5:Below wd.heap.size wd v3:=B4.trans (b6.mono B4.size)
     replace NA:=NA.kept (Kept.of_below b6 (fun _=>False)) id
     have hvb:Hd (∀ j,Value.ownBlock (.slice a6 m c6)=some j→¬ j=gb):=⟨fun j e h=>by have:=(OC.lt j e).1;have:=NB.lt;omega⟩
     replace NB:=NB.kept (Kept.of_below b6 (fun _=>False)) id
     replace OC:=OC.low B4.size
     refine hK.out _ _ ⟨B5,fun _=>trivial⟩ ?_
     clear hK K b6 B4
     have B4:=B5
     clear B5
     refine .tq 8 22 B4 ?_;simp only [oqA,oqB,oqC]
     refine .tq 9 31 B4 ?_;simp only [oqA,oqB,oqC]
     refine .tq 10 32 B4 ?_;simp only [oqA,oqB,oqC]
     refine .tq 11 33 B4 ?_;simp only [oqA,oqB,oqC]
     obtain ⟨⟨r0,r1⟩,f0,f1⟩:=NA.lane
     obtain ⟨q1,q2⟩:=lane_set NA s (.slice a6 m c6)
     have NB1:=NB.kept q2 (fun e=>NA.ne NB (by decide) e.symm)
     have OC1:=OC.other NA q2
     have B5:=B4.trans (q2.below B4.size (fun j e=>by rw [e];exact gea.out))
     refine AnyG.ready (rs:=[14]) (by kernel_rfl) (by simp) ?_
     refine AllG.cons rfl (fun K hK=>?_) AllG.nil
     go_simp
     refine hK.out _ _ ⟨B5,fun _=>trivial⟩ ?_
     clear hK K r0 r1 f0 f1
     obtain ⟨⟨d0,d1,d2,d3,d4⟩,e0,e1,e2,e3,e4⟩:=NB1.five
     obtain ⟨q3,q4⟩:=five_set NB1 ⟨t0,t1,t2,t3,t4⟩
     have NA2:=q1.kept q4 (fun e=>q1.ne NB1 (by decide) e)
     have OC2:=OC1.keptV q4 (fun j e h=>hvb.out j e h)
     have B6:=B5.trans (q4.below B5.size (fun j e=>by rw [e];exact geb.out))
     simp only [tkZ] at d0 d1 d2 d3 d4 q3 q4 NA2 OC2 B6
     refine AnyG.ready (rs:=[15]) (by kernel_rfl) (by simp) ?_
     refine AllG.cons rfl (fun K hK=>?_) AllG.nil
     go_simp
     refine hK.out _ _ ⟨B6,fun _=>trivial⟩ ?_
     clear hK K d0 d1 d2 d3 d4 e0 e1 e2 e3 e4
     refine .tq 16 10 B6 ?_;simp only [oqA,oqB,oqC]
     refine AnyG.done (by kernel_rfl) ?_ _
     have HT:Hd (TwB wd s m D ⟨t0,t1,t2,t3,t4⟩ (.pointer (some ⟨ga,0,none⟩)) (.pointer (some ⟨gb,0,none⟩)) _):=⟨⟨ga,gb,a6,c6,⟨rfl,rfl⟩,⟨gea.out,geb.out⟩,NA2,q3,OC2,B6⟩⟩
     clear NA NB NB1 OC OC1 q1 q2 q3 q4 NA2 OC2 B4 B5 B6 hvb gea geb
     go_wp2_with fail
     go_meet
     exact HT.out
 case rest =>
  obtain ⟨g7,g8,a4,c4,⟨rfl,rfl⟩,⟨ge7,ge8⟩,N7,N8,OC,BC⟩:=hcut.ex
  clear hcut HY CT
  have NY:=HD3.out.2.2.2.2.1.kept (Kept.of_below BC (fun _=>False)) id
  have OW:=HD3.out.2.2.2.2.2.kept (Kept.of_below BC (fun _=>False)) (fun _ _ h=>h)
  obtain ⟨q',cap,xx,yy,e9,hq1,hq2,⟨p0,p1,pf0,pf1⟩,O9,k9⟩:=OW.put (k:=k) (by rw [HL.out];exact hk) ⟨s,D⟩ (OC.low (show w3.heap.size≤wd.heap.size by omega))
  rw [HL.out] at e9
  obtain ⟨rfl,rfl⟩:q=q'∧c5=cap:=by injection e9 with x1 x2 x3;injection x1 with x1;injection x1 with x1;exact ⟨x1,x3⟩
  simp only at O9 k9
  obtain ⟨⟨l0,l1⟩,-⟩:=N7.lane
  obtain ⟨⟨y0,y1,y2,y3,y4⟩,-⟩:=NY.fair
  have H6:Hd (Blk _ (A+1) 31 (faA 0 0 0 0 (.slice none 0 0))∧Blk _ (A+1+1) 36 (tkA tkZ)∧Below A w _∧Blk _ g8 36 (tkA ⟨t0,t1,t2,t3,t4⟩)∧Blk _ y 31 (faA r g nn o (.slice (some ⟨q,0,none⟩) n c5))∧OwL _ w3.heap.size (.slice (some ⟨q,0,none⟩) n c5) (F.set k ⟨s,D⟩)) :=
   ⟨(HD3.out.2.1.kept (Kept.of_below BC (fun _=>False)) id).kept k9 (by omega),(HD3.out.2.2.1.kept (Kept.of_below BC (fun _=>False)) id).kept k9 (by omega),(HD3.out.2.2.2.1.trans (BC.mono (show A≤wd.heap.size by omega))).trans (k9.below (B:=A) (by have:=BC.size;omega) (fun j e=>by omega)),N8.kept k9 (by omega),NY.kept k9 (by omega),O9⟩
  have N7':=N7.kept k9 (by omega)
  clear HD3 NY OW OC N7 N8 BC O9 k9 e9
  go_upto_region 7 with fail
  clear l0 l1 y0 y1 y2 y3 y4 p0 p1 pf0 pf1
  generalize World.setCell _ _ _=w6 at *
  obtain ⟨⟨l0,l1⟩,-⟩:=N7'.lane
  obtain ⟨⟨y0,y1,y2,y3,y4⟩,yf0,-⟩:=H6.out.2.2.2.2.1.fair
  by_cases hrs:r<s
  ·have HRM:Hd (max r s=s):=⟨by omega⟩
   obtain ⟨q7,K7⟩:=fair_r H6.out.2.2.2.2.1 s
   have H7:Hd (Blk (w6.setCell ⟨y,0,none⟩ (.int .u64 s)) (A+1) 31 (faA 0 0 0 0 (.slice none 0 0))∧Blk (w6.setCell ⟨y,0,none⟩ (.int .u64 s)) (A+1+1) 36 (tkA tkZ)∧Below A w (w6.setCell ⟨y,0,none⟩ (.int .u64 s))∧Blk (w6.setCell ⟨y,0,none⟩ (.int .u64 s)) g8 36 (tkA ⟨t0,t1,t2,t3,t4⟩)∧Blk (w6.setCell ⟨y,0,none⟩ (.int .u64 s)) y 31 (faA s g nn o (.slice (some ⟨q,0,none⟩) n c5))∧OwL (w6.setCell ⟨y,0,none⟩ (.int .u64 s)) w3.heap.size (.slice (some ⟨q,0,none⟩) n c5) (F.set k ⟨s,D⟩)) :=
    ⟨H6.out.1.kept K7 (by omega),H6.out.2.1.kept K7 (by omega),H6.out.2.2.1.trans (K7.below (B:=A) (by have:=H6.out.1.lt;omega) (fun j e=>by omega)),H6.out.2.2.2.1.kept K7 (fun e=>H6.out.2.2.2.2.1.ne H6.out.2.2.2.1 (by decide) e.symm),q7,H6.out.2.2.2.2.2.other H6.out.2.2.2.2.1 K7⟩
   clear H6 q7 K7
   go_upto_region 9 with fail
   obtain ⟨w7,hw7⟩:∃ w7,w7=(w6.setCell ⟨y,0,none⟩ (.int .u64 s)).drew:=⟨_,rfl⟩
   have H7':Hd (Blk w7 (A+1) 31 (faA 0 0 0 0 (.slice none 0 0))∧Blk w7 (A+1+1) 36 (tkA tkZ)∧Below A w w7∧Blk w7 g8 36 (tkA ⟨t0,t1,t2,t3,t4⟩)∧Blk w7 y 31 (faA s g nn o (.slice (some ⟨q,0,none⟩) n c5))∧OwL w7 w3.heap.size (.slice (some ⟨q,0,none⟩) n c5) (F.set k ⟨s,D⟩)):=by
    have KD:Kept (fun _=>False) (w6.setCell ⟨y,0,none⟩ (.int .u64 s)) w7:=by rw [hw7];exact (Kept.refl _ _).drew
    exact ⟨⟨H7.out.1.kept KD id,H7.out.2.1.kept KD id,by rw [hw7];exact H7.out.2.2.1.drew,H7.out.2.2.2.1.kept KD id,H7.out.2.2.2.2.1.kept KD id,H7.out.2.2.2.2.2.kept KD (fun _ _ h=>h)⟩⟩
   clear H7
   refine AnyG.start (T:=fun Y=>Kept (fun j=>j=A+1∨j=A+1+1) (w6.setCell ⟨y,0,none⟩ (.int .u64 s)).drew Y) (U:=fun _=>True) (j0:=100) (by kernel_rfl) ?_
   rw [←hw7]
   clear hw7
   have R:Kept (fun j=>j=A+1∨j=A+1+1) w7 w7:=Kept.refl _ _
   have XY:Hd (∀ Y,Kept (fun j=>j=A+1∨j=A+1+1) w7 Y→Y.cell? ⟨y,0,none⟩=some (.int .u64 s)∧Y.cell? ⟨y,1,none⟩=some (.int .i64 g)∧Y.cell? ⟨y,2,none⟩=some (.int .i64 nn)∧Y.cell? ⟨y,3,none⟩=some (.int .i64 o)∧Y.cell? ⟨y,4,none⟩=some (.slice (some ⟨q,0,none⟩) n c5)):=⟨fun Y qq=>(H7'.out.2.2.2.2.1.kept qq (by omega)).fair.1⟩
   have X8:Hd (∀ Y,Kept (fun j=>j=A+1∨j=A+1+1) w7 Y→Y.cell? ⟨g8,0,none⟩=some (.int .i64 t0)∧Y.cell? ⟨g8,1,none⟩=some (.int .i64 t1)∧Y.cell? ⟨g8,2,none⟩=some (.int .i64 t2)∧Y.cell? ⟨g8,3,none⟩=some (.int .i64 t3)∧Y.cell? ⟨g8,4,none⟩=some (.int .i64 t4)):=⟨fun Y qq=>(H7'.out.2.2.2.1.kept qq (by omega)).five.1⟩
   refine .tq 0 47 R ?_ (hy:=fun w hSw=>by have s:=XY.out w hSw;go_simp;rfl);simp only [oqA,oqB,oqC]
   refine .tq 2 49 R ?_ (hy:=fun w hSw=>by have s:=X8.out w hSw;go_simp;rfl);simp only [oqA,oqB,oqC]
   have FS:Few (F.set k ⟨s,D⟩):=HF.out.set ⟨HSW.out,by rw [HD.out,List.length_tail];have:=HKH.out.2;omega⟩
   obtain ⟨a9,c9,e9,st9⟩:=H7'.out.2.2.2.2.2.st (S:=fun j=>j<A+3) (fun j hj e=>by have:j<A+3:=e;omega)
   rw [List.length_set,HL.out] at e9
   obtain ⟨rfl,rfl⟩:some ⟨q,0,none⟩=a9∧c5=c9:=by injection e9 with x1 x2 x3;exact ⟨x1,x3⟩
   have TR:=rtrim_ok (fun j=>j<A+3) s g nn o (some ⟨q,0,none⟩) c5 (F.set k ⟨s,D⟩) w7 st9 (fun j e=>by have:j<A+3:=e;have:=H7'.out.2.1.lt;omega) FS
   rw [List.length_set,HL.out] at TR
   refine AnyG.ready (rs:=[1]) (by kernel_rfl) (by simp) ?_
   refine AllG.cons rfl (fun K hK=>?_) AllG.nil
   go_simp
   refine TR.mono ?_
   rintro e w8 ⟨⟨v8,rfl,a8,c8,rfl,r8⟩,b8⟩
   obtain ⟨m8,hm8⟩:∃ m8,m8=(trm (F.set k ⟨s,D⟩) o).length:=⟨_,rfl⟩
   have HM8:Hd (m8=(trm (F.set k ⟨s,D⟩) o).length):=⟨hm8⟩
   rw [←hm8]
   clear hm8
   have R8:Kept (fun j=>j=A+1∨j=A+1+1) w7 w8:=Kept.of_below b8 _
   refine hK.out _ _ ⟨R8,fun _=>trivial⟩ ?_
   clear hK K TR st9 e9
   have NR:=H7'.out.1.kept (Kept.of_below b8 (fun _=>False)) id
   have NT:=H7'.out.2.1.kept (Kept.of_below b8 (fun _=>False)) id
   have BW:=H7'.out.2.2.1.trans (b8.mono (show A≤w7.heap.size by have:=H7'.out.1.lt;omega))
   obtain ⟨⟨y0,y1,y2,y3,y4⟩,yf0,yf1,yf2,yf3,yf4⟩:=NR.fair
   obtain ⟨⟨-,p2,pk⟩,q1,q2,k2⟩:=ft_put NR NT s g nn o (.slice a8 m8 c8) ⟨t0,t1,t2,t3,t4⟩
   obtain ⟨⟨d0,d1,d2,d3,d4⟩,e0,e1,e2,e3,e4⟩:=p2.five
   simp only [tkZ] at d0 d1 d2 d3 d4 q1 q2 k2
   refine AnyG.ready (rs:=[3]) (by kernel_rfl) (by simp) ?_
   refine AllG.cons rfl (fun K hK=>?_) AllG.nil
   go_simp
   refine hK.out _ _ ⟨R8.trans (pk.mono (fun j _ e=>.inl e)),fun _=>trivial⟩ ?_
   clear hK K
   refine AnyG.ready (rs:=[4]) (by kernel_rfl) (by simp) ?_
   refine AllG.cons rfl (fun K hK=>?_) AllG.nil
   go_simp
   have R9:=R8.trans k2
   refine hK.out _ _ ⟨R9,fun _=>trivial⟩ ?_
   clear hK K
   refine .tq 5 4 R9 ?_;simp only [oqA,oqB,oqC]
   refine AnyG.done (by kernel_rfl) ?_ _
   have HE:Hd (_∧_∧_∧_):=⟨q1,q2,(r8.next (k2.mono (T:=fun j=>j<A+3) (fun j _ e=>by have:j=A+1∨j=A+1+1:=e;show j<A+3;omega))).low (T:=fun j=>j<A) (fun j _ h=>by have:j<A:=h;show j<A+3;omega),BW.trans (k2.below (B:=A) (by have:=NR.lt;omega) (fun j e=>by omega))⟩
   clear R R8 R9 XY X8 H7' NR NT BW p2 pk q1 q2 k2 r8 b8 y0 y1 y2 y3 y4 yf0 yf1 yf2 yf3 yf4 d0 d1 d2 d3 d4 e0 e1 e2 e3 e4
   go_wp2_with fail
   refine bodyPost_ret (resFt24 (t:=⟨t0,t1,t2,t3,t4⟩) _ _ _ _ true rfl rfl rfl HE.out.1 HE.out.2.1) rfl ?_
   rw [←HA.out,HTK.out,← HS.out,HRM.out]
   exact ⟨⟨_,rfl,_,_,by rw [HM8.out],HE.out.2.2.1⟩,HE.out.2.2.2⟩
  ·have HRM:Hd (max r s=r):=⟨by omega⟩
   have q7:=H6.out.2.2.2.2.1
   have K7:Kept (fun j=>j=y) w6 w6:=Kept.refl _ _
   have H7:Hd (Blk w6 (A+1) 31 (faA 0 0 0 0 (.slice none 0 0))∧Blk w6 (A+1+1) 36 (tkA tkZ)∧Below A w w6∧Blk w6 g8 36 (tkA ⟨t0,t1,t2,t3,t4⟩)∧Blk w6 y 31 (faA r g nn o (.slice (some ⟨q,0,none⟩) n c5))∧OwL w6 w3.heap.size (.slice (some ⟨q,0,none⟩) n c5) (F.set k ⟨s,D⟩)) :=
    ⟨H6.out.1.kept K7 (by omega),H6.out.2.1.kept K7 (by omega),H6.out.2.2.1.trans (K7.below (B:=A) (by have:=H6.out.1.lt;omega) (fun j e=>by omega)),H6.out.2.2.2.1.kept K7 (fun e=>H6.out.2.2.2.2.1.ne H6.out.2.2.2.1 (by decide) e.symm),q7,H6.out.2.2.2.2.2.other H6.out.2.2.2.2.1 K7⟩
   clear H6 q7 K7
   go_upto_region 9 with fail
   obtain ⟨w7,hw7⟩:∃ w7,w7=w6.drew:=⟨_,rfl⟩
   have H7':Hd (Blk w7 (A+1) 31 (faA 0 0 0 0 (.slice none 0 0))∧Blk w7 (A+1+1) 36 (tkA tkZ)∧Below A w w7∧Blk w7 g8 36 (tkA ⟨t0,t1,t2,t3,t4⟩)∧Blk w7 y 31 (faA r g nn o (.slice (some ⟨q,0,none⟩) n c5))∧OwL w7 w3.heap.size (.slice (some ⟨q,0,none⟩) n c5) (F.set k ⟨s,D⟩)):=by
    have KD:Kept (fun _=>False) w6 w7:=by rw [hw7];exact (Kept.refl _ _).drew
    exact ⟨⟨H7.out.1.kept KD id,H7.out.2.1.kept KD id,by rw [hw7];exact H7.out.2.2.1.drew,H7.out.2.2.2.1.kept KD id,H7.out.2.2.2.2.1.kept KD id,H7.out.2.2.2.2.2.kept KD (fun _ _ h=>h)⟩⟩
   clear H7
   refine AnyG.start (T:=fun Y=>Kept (fun j=>j=A+1∨j=A+1+1) w6.drew Y) (U:=fun _=>True) (j0:=100) (by kernel_rfl) ?_
   rw [←hw7]
   clear hw7
   have R:Kept (fun j=>j=A+1∨j=A+1+1) w7 w7:=Kept.refl _ _
   have XY:Hd (∀ Y,Kept (fun j=>j=A+1∨j=A+1+1) w7 Y→Y.cell? ⟨y,0,none⟩=some (.int .u64 r)∧Y.cell? ⟨y,1,none⟩=some (.int .i64 g)∧Y.cell? ⟨y,2,none⟩=some (.int .i64 nn)∧Y.cell? ⟨y,3,none⟩=some (.int .i64 o)∧Y.cell? ⟨y,4,none⟩=some (.slice (some ⟨q,0,none⟩) n c5)):=⟨fun Y qq=>(H7'.out.2.2.2.2.1.kept qq (by omega)).fair.1⟩
   have X8:Hd (∀ Y,Kept (fun j=>j=A+1∨j=A+1+1) w7 Y→Y.cell? ⟨g8,0,none⟩=some (.int .i64 t0)∧Y.cell? ⟨g8,1,none⟩=some (.int .i64 t1)∧Y.cell? ⟨g8,2,none⟩=some (.int .i64 t2)∧Y.cell? ⟨g8,3,none⟩=some (.int .i64 t3)∧Y.cell? ⟨g8,4,none⟩=some (.int .i64 t4)):=⟨fun Y qq=>(H7'.out.2.2.2.1.kept qq (by omega)).five.1⟩
   refine .tq 0 47 R ?_ (hy:=fun w hSw=>by have s:=XY.out w hSw;go_simp;rfl);simp only [oqA,oqB,oqC]
   refine .tq 2 49 R ?_ (hy:=fun w hSw=>by have s:=X8.out w hSw;go_simp;rfl);simp only [oqA,oqB,oqC]
   have FS:Few (F.set k ⟨s,D⟩):=HF.out.set ⟨HSW.out,by rw [HD.out,List.length_tail];have:=HKH.out.2;omega⟩
   obtain ⟨a9,c9,e9,st9⟩:=H7'.out.2.2.2.2.2.st (S:=fun j=>j<A+3) (fun j hj e=>by have:j<A+3:=e;omega)
   rw [List.length_set,HL.out] at e9
   obtain ⟨rfl,rfl⟩:some ⟨q,0,none⟩=a9∧c5=c9:=by injection e9 with x1 x2 x3;exact ⟨x1,x3⟩
   have TR:=rtrim_ok (fun j=>j<A+3) r g nn o (some ⟨q,0,none⟩) c5 (F.set k ⟨s,D⟩) w7 st9 (fun j e=>by have:j<A+3:=e;have:=H7'.out.2.1.lt;omega) FS
   rw [List.length_set,HL.out] at TR
   refine AnyG.ready (rs:=[1]) (by kernel_rfl) (by simp) ?_
   refine AllG.cons rfl (fun K hK=>?_) AllG.nil
   go_simp
   refine TR.mono ?_
   rintro e w8 ⟨⟨v8,rfl,a8,c8,rfl,r8⟩,b8⟩
   obtain ⟨m8,hm8⟩:∃ m8,m8=(trm (F.set k ⟨s,D⟩) o).length:=⟨_,rfl⟩
   have HM8:Hd (m8=(trm (F.set k ⟨s,D⟩) o).length):=⟨hm8⟩
   rw [←hm8]
   clear hm8
   have R8:Kept (fun j=>j=A+1∨j=A+1+1) w7 w8:=Kept.of_below b8 _
   refine hK.out _ _ ⟨R8,fun _=>trivial⟩ ?_
   clear hK K TR st9 e9
   have NR:=H7'.out.1.kept (Kept.of_below b8 (fun _=>False)) id
   have NT:=H7'.out.2.1.kept (Kept.of_below b8 (fun _=>False)) id
   have BW:=H7'.out.2.2.1.trans (b8.mono (show A≤w7.heap.size by have:=H7'.out.1.lt;omega))
   obtain ⟨⟨y0,y1,y2,y3,y4⟩,yf0,yf1,yf2,yf3,yf4⟩:=NR.fair
   obtain ⟨⟨-,p2,pk⟩,q1,q2,k2⟩:=ft_put NR NT r g nn o (.slice a8 m8 c8) ⟨t0,t1,t2,t3,t4⟩
   obtain ⟨⟨d0,d1,d2,d3,d4⟩,e0,e1,e2,e3,e4⟩:=p2.five
   simp only [tkZ] at d0 d1 d2 d3 d4 q1 q2 k2
   refine AnyG.ready (rs:=[3]) (by kernel_rfl) (by simp) ?_
   refine AllG.cons rfl (fun K hK=>?_) AllG.nil
   go_simp
   refine hK.out _ _ ⟨R8.trans (pk.mono (fun j _ e=>.inl e)),fun _=>trivial⟩ ?_
   clear hK K
   refine AnyG.ready (rs:=[4]) (by kernel_rfl) (by simp) ?_
   refine AllG.cons rfl (fun K hK=>?_) AllG.nil
   go_simp
   have R9:=R8.trans k2
   refine hK.out _ _ ⟨R9,fun _=>trivial⟩ ?_
   clear hK K
   refine .tq 5 4 R9 ?_;simp only [oqA,oqB,oqC]
   refine AnyG.done (by kernel_rfl) ?_ _
   have HE:Hd (_∧_∧_∧_):=⟨q1,q2,(r8.next (k2.mono (T:=fun j=>j<A+3) (fun j _ e=>by have:j=A+1∨j=A+1+1:=e;show j<A+3;omega))).low (T:=fun j=>j<A) (fun j _ h=>by have:j<A:=h;show j<A+3;omega),BW.trans (k2.below (B:=A) (by have:=NR.lt;omega) (fun j e=>by omega))⟩
   clear R R8 R9 XY X8 H7' NR NT BW p2 pk q1 q2 k2 r8 b8 y0 y1 y2 y3 y4 yf0 yf1 yf2 yf3 yf4 d0 d1 d2 d3 d4 e0 e1 e2 e3 e4
   go_wp2_with fail
   refine bodyPost_ret (resFt24 (t:=⟨t0,t1,t2,t3,t4⟩) _ _ _ _ true rfl rfl rfl HE.out.1 HE.out.2.1) rfl ?_
   rw [←HA.out,HTK.out,← HS.out,HRM.out]
   exact ⟨⟨_,rfl,_,_,by rw [HM8.out],HE.out.2.2.1⟩,HE.out.2.2.2⟩
end Go.Proofs.YtlgibnmoogbdcaaGreat
