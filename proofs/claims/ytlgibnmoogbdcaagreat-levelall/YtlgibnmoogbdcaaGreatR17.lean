/-
  Who is next is taken, by the program.
-/
import Derived.Test.YtlgibnmoogbdcaaGreatR16
namespace Go.Proofs.YtlgibnmoogbdcaaGreat
open Go.RowKit
structure TwB (u:World) (s':Int) (m:Nat) (D:List Tk) (t:Tk) (s7 s8:Value) (wx:World):Prop where
 ex:∃ g7 g8 a' c',(s7=.pointer (some ⟨g7,0,none⟩)∧s8=.pointer (some ⟨g8,0,none⟩))∧(u.heap.size≤g7∧u.heap.size≤g8)∧Blk wx g7 62 (lnA s' (.slice a' m c'))∧Blk wx g8 36 (tkA t)∧OwnT wx u.heap.size (.slice a' m c') D∧Below u.heap.size u wx
theorem OwnT.keptV {S:Nat→Prop} {w w':World} {B:Nat} {v:Value} {L:List Tk} (h:OwnT w B v L) (k:Kept S w w') (hS:∀ j,v.ownBlock=some j→¬ S j):OwnT w' B v L:=ownsRow_kept h k hS
set_option maxRecDepth 20000 in
set_option maxHeartbeats 4000000 in
theorem ftake_yes (r g nn o:Int) (a:Option Addr) (c:Nat) (F:List Ln) (w:World) (h:LsR w a c F) (hf:Few F) (k:Nat) (hc:nxt F g=k) :
  Calls Tryz.prog 41 #[.agg #[.int .u64 r,.int .i64 g,.int .i64 nn,.int .i64 o,.slice a F.length c]] w fun e w'=>(∃ v,e=.returned (.tuple #[v,.agg #[.int .i64 (gt (gl F k).L 0).id,.int .i64 (gt (gl F k).L 0).wid,.int .i64 (gt (gl F k).L 0).sts,.int .i64 (gt (gl F k).L 0).sin,.int .i64 (gt (gl F k).L 0).unt],.bool true])∧FaS (fun j=>j<w.heap.size) w' (max r (fN g (gl F k))) g nn o (trm (tkF F k g) o) v)∧Below w.heap.size w w':=by
 have hkk:k<F.length∧(gl F k).L≠[]:=by
  rcases (nxt_is F g).rng with h | ⟨p,h1,h2,h3,h4⟩
  ·omega
  ·obtain rfl:p=k:=by omega
   exact ⟨h3,h4⟩
 obtain ⟨tt,htt⟩:∃ tt,tt=gt (gl F k).L 0:=⟨_,rfl⟩
 have HTT:Hd (tt=gt (gl F k).L 0):=⟨htt⟩
 rw [←htt]
 clear htt
 obtain ⟨t0,t1,t2,t3,t4⟩:=tt
 simp only
 obtain ⟨w2,hw2⟩:∃ w2,w2=((w.alloc (.cells #[.int .u64 r,.int .i64 g,.int .i64 nn,.int .i64 o,.slice a F.length c] 31)).alloc (.cells #[.int .u64 0,.int .i64 0,.int .i64 0,.int .i64 0,.slice none 0 0] 31)).alloc (.cells #[.int .i64 0,.int .i64 0,.int .i64 0,.int .i64 0,.int .i64 0] 36):=⟨_,rfl⟩
 have BX:=boxes3 w 31 31 36 #[.int .u64 r,.int .i64 g,.int .i64 nn,.int .i64 o,.slice a F.length c] #[.int .u64 0,.int .i64 0,.int .i64 0,.int .i64 0,.slice none 0 0] #[.int .i64 0,.int .i64 0,.int .i64 0,.int .i64 0,.int .i64 0]
 rw [←hw2] at BX
 obtain ⟨B,N1,N2,N3⟩:=BX
 have HF:Hd (Few F):=⟨hf⟩
 have HW:Hd (LsR w a c F):=⟨h⟩
 have hlen:=hf.len
 have NXT:=next_ok r g nn o a c F w2 (h.carry B) hf
 rw [hc,nI_nat,nB_nat] at NXT
 obtain ⟨n,hn⟩:∃ n,F.length=n:=⟨_,rfl⟩
 have HL:Hd (F.length=n):=⟨hn⟩
 have HN:Hd (LsR w2 a c F∧Below w.heap.size w w2∧Blk w2 w.heap.size 31 (faA r g nn o (.slice a n c))∧Blk w2 (w.heap.size+1) 31 (faA 0 0 0 0 (.slice none 0 0))∧Blk w2 (w.heap.size+1+1) 36 (tkA tkZ)):=⟨h.carry B,B,by rw [←hn];exact N1,N2,N3⟩
 have hs:=N3.lt
 obtain ⟨⟨x0,x1,x2,x3,x4⟩,-⟩:=Blk.fair N1
 rw [hn] at hlen hw2 x4 NXT ⊢
 clear hn B N1 N2 N3 h hf
 go_enter Tryz.func41,Tryz.ntmps41
 go_upto_region 1 with fail
 rw [←hw2]
 clear hw2
 obtain ⟨A,hA⟩:∃ A,A=w.heap.size:=⟨_,rfl⟩
 have HA:Hd (A=w.heap.size):=⟨hA⟩
 rw [←hA] at HN hs x0 x1 x2 x3 x4 ⊢
 clear hA
 go_wp2_with fail
 go_at_call 73
 refine NXT.mono ?_
 rintro e w3 ⟨rfl,b3⟩
 clear NXT x0 x1 x2 x3 x4
 have hs3:=b3.size
 have H3:Hd (LsR w3 a c F∧Below A w w3∧Blk w3 A 31 (faA r g nn o (.slice a n c))∧Blk w3 (A+1) 31 (faA 0 0 0 0 (.slice none 0 0))∧Blk w3 (A+1+1) 36 (tkA tkZ)) :=
  ⟨HN.out.1.carry b3,HN.out.2.1.trans (b3.mono (show A≤w2.heap.size by omega)),HN.out.2.2.1.kept (Kept.of_below b3 (fun _=>False)) id,HN.out.2.2.2.1.kept (Kept.of_below b3 (fun _=>False)) id,HN.out.2.2.2.2.kept (Kept.of_below b3 (fun _=>False)) id⟩
 clear HN b3
 have hk:k<n:=by rw [←HL.out];exact hkk.1
 have HNE:Hd ((gl F k).L≠[]):=⟨hkk.2⟩
 have hk0:(0:Int)≤(k:Int):=by omega
 obtain ⟨b1,o1,a1,c1,rfl,hb1,d0,d1,s1⟩:=H3.out.1.at hkk.1
 have HK:=HF.out.at k
 have HKH:Hd (Word (gl F k).s∧(gl F k).L.length≤1000):=⟨HK⟩
 obtain ⟨s,hs'⟩:∃ s,s=fN g (gl F k):=⟨_,rfl⟩
 have HS:Hd (s=fN g (gl F k)):=⟨hs'⟩
 have HSW:Hd (Word s):=⟨by rw [hs'];exact fN_word HK.1⟩
 obtain ⟨D,hD⟩:∃ D,D=(gl F k).L.tail:=⟨_,rfl⟩
 have HD:Hd (D=(gl F k).L.tail):=⟨hD⟩
 obtain ⟨m,hm⟩:∃ m,m=D.length:=⟨_,rfl⟩
 have HM:Hd (m=D.length):=⟨hm⟩
 have HTK:Hd (tkF F k g=F.set k ⟨s,D⟩):=⟨by rw [HS.out,HD.out];unfold tkF;rw [tkS_some HNE.out];rfl⟩
 have HY:Hd (∀ Y,Below w3.heap.size w3 Y→(Y.cell? ⟨A,1,none⟩=some (.int .i64 g)∧Y.cell? ⟨A,4,none⟩=some (.slice (some ⟨b1,o1,none⟩) n c))∧Y.cell? ⟨b1,o1+k*2,none⟩=some (.int .u64 (gl F k).s)∧Y.cell? ⟨b1,o1+k*2+1,none⟩=some (.slice a1 (gl F k).L.length c1)):=⟨fun Y q=>by
  have K4:Kept (fun _=>False) w3 Y:=Kept.of_below q _
  have NA:=(H3.out.2.2.1.kept K4 id).fair.1
  exact ⟨⟨NA.2.1,NA.2.2.2.2⟩,(World.cell?_of_block (K4.block b1 hb1 id)).trans d0,(World.cell?_of_block (K4.block b1 hb1 id)).trans d1⟩⟩
 have CT:Hd (∀ Y,Below w3.heap.size w3 Y→Calls Tryz.prog 75 #[.agg #[.int .u64 (gl F k).s,.slice a1 (gl F k).L.length c1],.int .i64 g] Y fun e w'=>∃ a' c',e=.returned (.tuple #[.agg #[.int .u64 s,.slice a' m c'],.agg #[.int .i64 t0,.int .i64 t1,.int .i64 t2,.int .i64 t3,.int .i64 t4],.bool true])∧OwnT w' Y.heap.size (.slice a' m c') D∧Below Y.heap.size Y w'):=⟨fun Y q=>by
  have T:=take_ok (gl F k).s a1 c1 (gl F k).L g Y HKH.out.1 (s1.carry q) (by have:=HKH.out.2;omega)
  rw [hasI_some HNE.out,tkS_some HNE.out,show finI (gl F k).s (gl F k).L g=fN g (gl F k) from rfl,← HS.out,← HD.out,← HTT.out] at T
  refine T.mono ?_
  rintro e w' ⟨⟨v,rfl,hv⟩,b⟩
  obtain ⟨a',c',rfl,-,o'⟩:=hv.2 rfl
  rw [←HM.out] at o'
  exact ⟨a',c',by rw [HM.out],o',b⟩⟩
 clear hs' hD hm hkk d0 d1 s1 hb1 hc
 have H4:Hd (w3.heap.size=w3.heap.size):=⟨rfl⟩
 go_upto_region 4 with fail
 go_cut [7,8,9] from 21 to 32 (fun s7 s8 s9 wx=>TwB w3 s m D ⟨t0,t1,t2,t3,t4⟩ s7 s8 wx)
 case first =>
  have B4:Below w3.heap.size w3 w3.drew:=(Below.refl _ _).drew
  refine AnyG.start (T:=fun Y=>Below w3.heap.size w3 Y) (U:=fun _=>True) (j0:=100) (by kernel_rfl) ?_
  generalize w3.drew=v0 at *
  refine .tq 0 22 B4 ?_;simp only [oqA,oqB,oqC]
  refine .tq 1 23 B4 ?_ (hy:=fun w hSw=>by have s:=(HY.out w hSw).1;go_simp;rfl);simp only [oqA,oqB,oqC]
  refine .tq 2 24 B4 ?_;simp only [oqA,oqB,oqC]
  refine .tq 3 25 B4 ?_;simp only [oqA,oqB,oqC]
  refine .tq 4 26 B4 ?_ (hy:=fun w hSw=>by have s:=(HY.out w hSw).2;go_simp;rfl);simp only [oqA,oqB,oqC]
  refine .tq 5 27 B4 ?_;simp only [oqA,oqB,oqC]
  refine .tq 6 28 B4 ?_ (hy:=fun w hSw=>by have s:=(HY.out w hSw).1;go_simp;rfl);simp only [oqA,oqB,oqC]
  refine AnyG.ready (rs:=[7,12,13]) (by kernel_rfl) (by simp) ?_
  refine AllG.cons rfl (fun K hK=>?_) (AllG.cons rfl (fun K hK=>?_) (AllG.cons rfl (fun K hK=>?_) (AllG.nil)))
  ·skip
   go_simp
   refine (CT.out v0 B4).mono ?_
   rintro e v1 ⟨a6,c6,rfl,OC,b6⟩
   have B5:Below w3.heap.size w3 v1:=B4.trans (b6.mono B4.size)
   replace OC:=OC.low B4.size
   refine hK.out _ _ ⟨B5,fun _=>trivial⟩ ?_
   clear hK K b6 B4
   have B4:=B5
   clear B5
   refine .tq 8 21 B4 ?_;simp only [oqA,oqB,oqC]
   refine .tq 9 30 B4 ?_;simp only [oqA,oqB,oqC]
   refine .tq 10 31 B4 ?_;simp only [oqA,oqB,oqC]
   refine .tq 11 32 B4 ?_;simp only [oqA,oqB,oqC]
   refine AnyG.ready (rs:=[12,13]) (by kernel_rfl) (by simp) ?_
   refine AllG.cons rfl (fun K hK=>?_) (AllG.cons rfl (fun K hK=>?_) (AllG.nil))
   ·skip
    go_simp
    have NA:Blk (v1.alloc (.cells #[.int .u64 0,.slice none 0 0] 62)) v1.heap.size 62 (lnA 0 (.slice none 0 0)):=Blk.new _ _ _
    have gea:Hd (w3.heap.size≤v1.heap.size):=⟨B4.size⟩
    have b6:Below v1.heap.size v1 (v1.alloc (.cells #[.int .u64 0,.slice none 0 0] 62)):=alloc_below _ _
    have B5:=B4.trans (b6.mono B4.size)
    replace OC:=OC.kept (Kept.of_below b6 (fun _=>False)) (fun _ _ h=>h)
    refine hK.out _ _ ⟨B5,fun _=>trivial⟩ ?_
    clear hK K b6 B4
    have B4:=B5
    clear B5
    generalize v1.alloc _=v2 at *
    generalize v1.heap.size=ga at *
    refine AnyG.ready (rs:=[13]) (by kernel_rfl) (by simp) ?_
    refine AllG.cons rfl (fun K hK=>?_) (AllG.nil)
    ·skip
     go_simp
     have NB:Blk (v2.alloc (.cells #[.int .i64 0,.int .i64 0,.int .i64 0,.int .i64 0,.int .i64 0] 36)) v2.heap.size 36 (tkA tkZ):=Blk.new _ _ _
     have geb:Hd (w3.heap.size≤v2.heap.size):=⟨B4.size⟩
     have b6:Below v2.heap.size v2 (v2.alloc (.cells #[.int .i64 0,.int .i64 0,.int .i64 0,.int .i64 0,.int .i64 0] 36)):=alloc_below _ _
     have B5:=B4.trans (b6.mono B4.size)
     have hvb:Hd (∀ j,Value.ownBlock (.slice a6 m c6)=some j→¬ j=v2.heap.size):=⟨fun j e h=>by have:=(OC.lt j e).2;omega⟩
     replace OC:=OC.kept (Kept.of_below b6 (fun _=>False)) (fun _ _ h=>h)
     replace NA:=NA.kept (Kept.of_below b6 (fun _=>False)) id
     refine hK.out _ _ ⟨B5,fun _=>trivial⟩ ?_
     clear hK K b6 B4
     have B4:=B5
     clear B5
     generalize v2.alloc _=v3 at *
     generalize v2.heap.size=gb at *
     obtain ⟨⟨r0,r1⟩,f0,f1⟩:=NA.lane
     obtain ⟨q1,q2⟩:=lane_set NA s (.slice a6 m c6)
     have NB1:=NB.kept q2 (fun e=>NA.ne NB (by decide) e.symm)
     have OC1:=OC.other NA q2
     have B5:=B4.trans (q2.below B4.size (fun j e=>by rw [e];exact gea.out))
     refine AnyG.ready (rs:=[14]) (by kernel_rfl) (by simp) ?_
     refine AllG.cons rfl (fun K hK=>?_) AllG.nil
     go_simp
     refine hK.out _ _ ⟨B5,fun _=>trivial⟩ ?_
     clear hK K r0 r1 f0 f1
     obtain ⟨⟨d0,d1,d2,d3,d4⟩,e0,e1,e2,e3,e4⟩:=NB1.five
     obtain ⟨q3,q4⟩:=five_set NB1 ⟨t0,t1,t2,t3,t4⟩
     have NA2:=q1.kept q4 (fun e=>q1.ne NB1 (by decide) e)
     have OC2:=OC1.keptV q4 (fun j e h=>hvb.out j e h)
     have B6:=B5.trans (q4.below B5.size (fun j e=>by rw [e];exact geb.out))
     simp only [tkZ] at d0 d1 d2 d3 d4 q3 q4 NA2 OC2 B6
     refine AnyG.ready (rs:=[15]) (by kernel_rfl) (by simp) ?_
     refine AllG.cons rfl (fun K hK=>?_) AllG.nil
     go_simp
     refine hK.out _ _ ⟨B6,fun _=>trivial⟩ ?_
     clear hK K d0 d1 d2 d3 d4 e0 e1 e2 e3 e4
     refine .tq 16 9 B6 ?_;simp only [oqA,oqB,oqC]
     refine AnyG.done (by kernel_rfl) ?_ _
     have HT:Hd (TwB w3 s m D ⟨t0,t1,t2,t3,t4⟩ (.pointer (some ⟨ga,0,none⟩)) (.pointer (some ⟨gb,0,none⟩)) _):=⟨⟨ga,gb,a6,c6,⟨rfl,rfl⟩,⟨gea.out,geb.out⟩,NA2,q3,OC2,B6⟩⟩
     clear NA NB NB1 OC OC1 q1 q2 q3 q4 NA2 OC2 B4 B5 B6 hvb gea geb
     go_wp2_with fail
     go_meet
     exact HT.out
   ·skip
    go_simp
    have NB:Blk (v1.alloc (.cells #[.int .i64 0,.int .i64 0,.int .i64 0,.int .i64 0,.int .i64 0] 36)) v1.heap.size 36 (tkA tkZ):=Blk.new _ _ _
    have geb:Hd (w3.heap.size≤v1.heap.size):=⟨B4.size⟩
    have b6:Below v1.heap.size v1 (v1.alloc (.cells #[.int .i64 0,.int .i64 0,.int .i64 0,.int .i64 0,.int .i64 0] 36)):=alloc_below _ _
    have B5:=B4.trans (b6.mono B4.size)
    have hvb:Hd (∀ j,Value.ownBlock (.slice a6 m c6)=some j→¬ j=v1.heap.size):=⟨fun j e h=>by have:=(OC.lt j e).2;omega⟩
    replace OC:=OC.kept (Kept.of_below b6 (fun _=>False)) (fun _ _ h=>h)
    refine hK.out _ _ ⟨B5,fun _=>trivial⟩ ?_
    clear hK K b6 B4
    have B4:=B5
    clear B5
    generalize v1.alloc _=v2 at *
    generalize v1.heap.size=gb at *
    refine AnyG.ready (rs:=[12]) (by kernel_rfl) (by simp) ?_
    refine AllG.cons rfl (fun K hK=>?_) (AllG.nil)
    ·skip
     go_simp
     have NA:Blk (v2.alloc (.cells #[.int .u64 0,.slice none 0 0] 62)) v2.heap.size 62 (lnA 0 (.slice none 0 0)):=Blk.new _ _ _
     have gea:Hd (w3.heap.size≤v2.heap.size):=⟨B4.size⟩
     have b6:Below v2.heap.size v2 (v2.alloc (.cells #[.int .u64 0,.slice none 0 0] 62)):=alloc_below _ _
     have B5:=B4.trans (b6.mono B4.size)
     replace OC:=OC.kept (Kept.of_below b6 (fun _=>False)) (fun _ _ h=>h)
     replace NB:=NB.kept (Kept.of_below b6 (fun _=>False)) id
     refine hK.out _ _ ⟨B5,fun _=>trivial⟩ ?_
     clear hK K b6 B4
     have B4:=B5
     clear B5
     generalize v2.alloc _=v3 at *
     generalize v2.heap.size=ga at *
     obtain ⟨⟨r0,r1⟩,f0,f1⟩:=NA.lane
     obtain ⟨q1,q2⟩:=lane_set NA s (.slice a6 m c6)
     have NB1:=NB.kept q2 (fun e=>NA.ne NB (by decide) e.symm)
     have OC1:=OC.other NA q2
     have B5:=B4.trans (q2.below B4.size (fun j e=>by rw [e];exact gea.out))
     refine AnyG.ready (rs:=[14]) (by kernel_rfl) (by simp) ?_
     refine AllG.cons rfl (fun K hK=>?_) AllG.nil
     go_simp
     refine hK.out _ _ ⟨B5,fun _=>trivial⟩ ?_
     clear hK K r0 r1 f0 f1
     obtain ⟨⟨d0,d1,d2,d3,d4⟩,e0,e1,e2,e3,e4⟩:=NB1.five
     obtain ⟨q3,q4⟩:=five_set NB1 ⟨t0,t1,t2,t3,t4⟩
     have NA2:=q1.kept q4 (fun e=>q1.ne NB1 (by decide) e)
     have OC2:=OC1.keptV q4 (fun j e h=>hvb.out j e h)
     have B6:=B5.trans (q4.below B5.size (fun j e=>by rw [e];exact geb.out))
     simp only [tkZ] at d0 d1 d2 d3 d4 q3 q4 NA2 OC2 B6
     refine AnyG.ready (rs:=[15]) (by kernel_rfl) (by simp) ?_
     refine AllG.cons rfl (fun K hK=>?_) AllG.nil
     go_simp
     refine hK.out _ _ ⟨B6,fun _=>trivial⟩ ?_
     clear hK K d0 d1 d2 d3 d4 e0 e1 e2 e3 e4
     refine .tq 16 9 B6 ?_;simp only [oqA,oqB,oqC]
     refine AnyG.done (by kernel_rfl) ?_ _
     have HT:Hd (TwB w3 s m D ⟨t0,t1,t2,t3,t4⟩ (.pointer (some ⟨ga,0,none⟩)) (.pointer (some ⟨gb,0,none⟩)) _):=⟨⟨ga,gb,a6,c6,⟨rfl,rfl⟩,⟨gea.out,geb.out⟩,NA2,q3,OC2,B6⟩⟩
     clear NA NB NB1 OC OC1 q1 q2 q3 q4 NA2 OC2 B4 B5 B6 hvb gea geb
     go_wp2_with fail
     go_meet
     exact HT.out
  ·skip
   go_simp
   have NA:Blk (v0.alloc (.cells #[.int .u64 0,.slice none 0 0] 62)) v0.heap.size 62 (lnA 0 (.slice none 0 0)):=Blk.new _ _ _
   have gea:Hd (w3.heap.size≤v0.heap.size):=⟨B4.size⟩
   have b6:Below v0.heap.size v0 (v0.alloc (.cells #[.int .u64 0,.slice none 0 0] 62)):=alloc_below _ _
   have B5:=B4.trans (b6.mono B4.size)
   refine hK.out _ _ ⟨B5,fun _=>trivial⟩ ?_
   clear hK K b6 B4
   have B4:=B5
   clear B5
   generalize v0.alloc _=v1 at *
   generalize v0.heap.size=ga at *
   refine AnyG.ready (rs:=[7,13]) (by kernel_rfl) (by simp) ?_
   refine AllG.cons rfl (fun K hK=>?_) (AllG.cons rfl (fun K hK=>?_) (AllG.nil))
   ·skip
    go_simp
    refine (CT.out v1 B4).mono ?_
    rintro e v2 ⟨a6,c6,rfl,OC,b6⟩
    have B5:Below w3.heap.size w3 v2:=B4.trans (b6.mono B4.size)
    replace NA:=NA.kept (Kept.of_below b6 (fun _=>False)) id
    replace OC:=OC.low B4.size
    refine hK.out _ _ ⟨B5,fun _=>trivial⟩ ?_
    clear hK K b6 B4
    have B4:=B5
    clear B5
    refine .tq 8 21 B4 ?_;simp only [oqA,oqB,oqC]
    refine .tq 9 30 B4 ?_;simp only [oqA,oqB,oqC]
    refine .tq 10 31 B4 ?_;simp only [oqA,oqB,oqC]
    refine .tq 11 32 B4 ?_;simp only [oqA,oqB,oqC]
    refine AnyG.ready (rs:=[13]) (by kernel_rfl) (by simp) ?_
    refine AllG.cons rfl (fun K hK=>?_) (AllG.nil)
    ·skip
     go_simp
     have NB:Blk (v2.alloc (.cells #[.int .i64 0,.int .i64 0,.int .i64 0,.int .i64 0,.int .i64 0] 36)) v2.heap.size 36 (tkA tkZ):=Blk.new _ _ _
     have geb:Hd (w3.heap.size≤v2.heap.size):=⟨B4.size⟩
     have b6:Below v2.heap.size v2 (v2.alloc (.cells #[.int .i64 0,.int .i64 0,.int .i64 0,.int .i64 0,.int .i64 0] 36)):=alloc_below _ _
     have B5:=B4.trans (b6.mono B4.size)
     have hvb:Hd (∀ j,Value.ownBlock (.slice a6 m c6)=some j→¬ j=v2.heap.size):=⟨fun j e h=>by have:=(OC.lt j e).2;omega⟩
     replace OC:=OC.kept (Kept.of_below b6 (fun _=>False)) (fun _ _ h=>h)
     replace NA:=NA.kept (Kept.of_below b6 (fun _=>False)) id
     refine hK.out _ _ ⟨B5,fun _=>trivial⟩ ?_
     clear hK K b6 B4
     have B4:=B5
     clear B5
     generalize v2.alloc _=v3 at *
     generalize v2.heap.size=gb at *
     obtain ⟨⟨r0,r1⟩,f0,f1⟩:=NA.lane
     obtain ⟨q1,q2⟩:=lane_set NA s (.slice a6 m c6)
     have NB1:=NB.kept q2 (fun e=>NA.ne NB (by decide) e.symm)
     have OC1:=OC.other NA q2
     have B5:=B4.trans (q2.below B4.size (fun j e=>by rw [e];exact gea.out))
     refine AnyG.ready (rs:=[14]) (by kernel_rfl) (by simp) ?_
     refine AllG.cons rfl (fun K hK=>?_) AllG.nil
     go_simp
     refine hK.out _ _ ⟨B5,fun _=>trivial⟩ ?_
     clear hK K r0 r1 f0 f1
     obtain ⟨⟨d0,d1,d2,d3,d4⟩,e0,e1,e2,e3,e4⟩:=NB1.five
     obtain ⟨q3,q4⟩:=five_set NB1 ⟨t0,t1,t2,t3,t4⟩
     have NA2:=q1.kept q4 (fun e=>q1.ne NB1 (by decide) e)
     have OC2:=OC1.keptV q4 (fun j e h=>hvb.out j e h)
     have B6:=B5.trans (q4.below B5.size (fun j e=>by rw [e];exact geb.out))
     simp only [tkZ] at d0 d1 d2 d3 d4 q3 q4 NA2 OC2 B6
     refine AnyG.ready (rs:=[15]) (by kernel_rfl) (by simp) ?_
     refine AllG.cons rfl (fun K hK=>?_) AllG.nil
     go_simp
     refine hK.out _ _ ⟨B6,fun _=>trivial⟩ ?_
     clear hK K d0 d1 d2 d3 d4 e0 e1 e2 e3 e4
     refine .tq 16 9 B6 ?_;simp only [oqA,oqB,oqC]
     refine AnyG.done (by kernel_rfl) ?_ _
     have HT:Hd (TwB w3 s m D ⟨t0,t1,t2,t3,t4⟩ (.pointer (some ⟨ga,0,none⟩)) (.pointer (some ⟨gb,0,none⟩)) _):=⟨⟨ga,gb,a6,c6,⟨rfl,rfl⟩,⟨gea.out,geb.out⟩,NA2,q3,OC2,B6⟩⟩
     clear NA NB NB1 OC OC1 q1 q2 q3 q4 NA2 OC2 B4 B5 B6 hvb gea geb
     go_wp2_with fail
     go_meet
     exact HT.out
   ·skip
    go_simp
    have NB:Blk (v1.alloc (.cells #[.int .i64 0,.int .i64 0,.int .i64 0,.int .i64 0,.int .i64 0] 36)) v1.heap.size 36 (tkA tkZ):=Blk.new _ _ _
    have geb:Hd (w3.heap.size≤v1.heap.size):=⟨B4.size⟩
    have b6:Below v1.heap.size v1 (v1.alloc (.cells #[.int .i64 0,.int .i64 0,.int .i64 0,.int .i64 0,.int .i64 0] 36)):=alloc_below _ _
    have B5:=B4.trans (b6.mono B4.size)
    replace NA:=NA.kept (Kept.of_below b6 (fun _=>False)) id
    refine hK.out _ _ ⟨B5,fun _=>trivial⟩ ?_
    clear hK K b6 B4
    have B4:=B5
    clear B5
    generalize v1.alloc _=v2 at *
    generalize v1.heap.size=gb at *
    refine AnyG.ready (rs:=[7]) (by kernel_rfl) (by simp) ?_
    refine AllG.cons rfl (fun K hK=>?_) (AllG.nil)
    ·skip
     go_simp
     refine (CT.out v2 B4).mono ?_
     rintro e v3 ⟨a6,c6,rfl,OC,b6⟩
     have B5:Below w3.heap.size w3 v3:=B4.trans (b6.mono B4.size)
     replace NA:=NA.kept (Kept.of_below b6 (fun _=>False)) id
     have hvb:Hd (∀ j,Value.ownBlock (.slice a6 m c6)=some j→¬ j=gb):=⟨fun j e h=>by have:=(OC.lt j e).1;have:=NB.lt;omega⟩
     replace NB:=NB.kept (Kept.of_below b6 (fun _=>False)) id
     replace OC:=OC.low B4.size
     refine hK.out _ _ ⟨B5,fun _=>trivial⟩ ?_
     clear hK K b6 B4
     have B4:=B5
     clear B5
     refine .tq 8 21 B4 ?_;simp only [oqA,oqB,oqC]
     refine .tq 9 30 B4 ?_;simp only [oqA,oqB,oqC]
     refine .tq 10 31 B4 ?_;simp only [oqA,oqB,oqC]
     refine .tq 11 32 B4 ?_;simp only [oqA,oqB,oqC]
     obtain ⟨⟨r0,r1⟩,f0,f1⟩:=NA.lane
     obtain ⟨q1,q2⟩:=lane_set NA s (.slice a6 m c6)
     have NB1:=NB.kept q2 (fun e=>NA.ne NB (by decide) e.symm)
     have OC1:=OC.other NA q2
     have B5:=B4.trans (q2.below B4.size (fun j e=>by rw [e];exact gea.out))
     refine AnyG.ready (rs:=[14]) (by kernel_rfl) (by simp) ?_
     refine AllG.cons rfl (fun K hK=>?_) AllG.nil
     go_simp
     refine hK.out _ _ ⟨B5,fun _=>trivial⟩ ?_
     clear hK K r0 r1 f0 f1
     obtain ⟨⟨d0,d1,d2,d3,d4⟩,e0,e1,e2,e3,e4⟩:=NB1.five
     obtain ⟨q3,q4⟩:=five_set NB1 ⟨t0,t1,t2,t3,t4⟩
     have NA2:=q1.kept q4 (fun e=>q1.ne NB1 (by decide) e)
     have OC2:=OC1.keptV q4 (fun j e h=>hvb.out j e h)
     have B6:=B5.trans (q4.below B5.size (fun j e=>by rw [e];exact geb.out))
     simp only [tkZ] at d0 d1 d2 d3 d4 q3 q4 NA2 OC2 B6
     refine AnyG.ready (rs:=[15]) (by kernel_rfl) (by simp) ?_
     refine AllG.cons rfl (fun K hK=>?_) AllG.nil
     go_simp
     refine hK.out _ _ ⟨B6,fun _=>trivial⟩ ?_
     clear hK K d0 d1 d2 d3 d4 e0 e1 e2 e3 e4
     refine .tq 16 9 B6 ?_;simp only [oqA,oqB,oqC]
     refine AnyG.done (by kernel_rfl) ?_ _
     have HT:Hd (TwB w3 s m D ⟨t0,t1,t2,t3,t4⟩ (.pointer (some ⟨ga,0,none⟩)) (.pointer (some ⟨gb,0,none⟩)) _):=⟨⟨ga,gb,a6,c6,⟨rfl,rfl⟩,⟨gea.out,geb.out⟩,NA2,q3,OC2,B6⟩⟩
     clear NA NB NB1 OC OC1 q1 q2 q3 q4 NA2 OC2 B4 B5 B6 hvb gea geb
     go_wp2_with fail
     go_meet
     exact HT.out
  ·skip
   go_simp
   have NB:Blk (v0.alloc (.cells #[.int .i64 0,.int .i64 0,.int .i64 0,.int .i64 0,.int .i64 0] 36)) v0.heap.size 36 (tkA tkZ):=Blk.new _ _ _
   have geb:Hd (w3.heap.size≤v0.heap.size):=⟨B4.size⟩
   have b6:Below v0.heap.size v0 (v0.alloc (.cells #[.int .i64 0,.int .i64 0,.int .i64 0,.int .i64 0,.int .i64 0] 36)):=alloc_below _ _
   have B5:=B4.trans (b6.mono B4.size)
   refine hK.out _ _ ⟨B5,fun _=>trivial⟩ ?_
   clear hK K b6 B4
   have B4:=B5
   clear B5
   generalize v0.alloc _=v1 at *
   generalize v0.heap.size=gb at *
   refine AnyG.ready (rs:=[7,12]) (by kernel_rfl) (by simp) ?_
   refine AllG.cons rfl (fun K hK=>?_) (AllG.cons rfl (fun K hK=>?_) (AllG.nil))
   ·skip
    go_simp
    refine (CT.out v1 B4).mono ?_
    rintro e v2 ⟨a6,c6,rfl,OC,b6⟩
    have B5:Below w3.heap.size w3 v2:=B4.trans (b6.mono B4.size)
    have hvb:Hd (∀ j,Value.ownBlock (.slice a6 m c6)=some j→¬ j=gb):=⟨fun j e h=>by have:=(OC.lt j e).1;have:=NB.lt;omega⟩
    replace NB:=NB.kept (Kept.of_below b6 (fun _=>False)) id
    replace OC:=OC.low B4.size
    refine hK.out _ _ ⟨B5,fun _=>trivial⟩ ?_
    clear hK K b6 B4
    have B4:=B5
    clear B5
    refine .tq 8 21 B4 ?_;simp only [oqA,oqB,oqC]
    refine .tq 9 30 B4 ?_;simp only [oqA,oqB,oqC]
    refine .tq 10 31 B4 ?_;simp only [oqA,oqB,oqC]
    refine .tq 11 32 B4 ?_;simp only [oqA,oqB,oqC]
    refine AnyG.ready (rs:=[12]) (by kernel_rfl) (by simp) ?_
    refine AllG.cons rfl (fun K hK=>?_) (AllG.nil)
    ·skip
     go_simp
     have NA:Blk (v2.alloc (.cells #[.int .u64 0,.slice none 0 0] 62)) v2.heap.size 62 (lnA 0 (.slice none 0 0)):=Blk.new _ _ _
     have gea:Hd (w3.heap.size≤v2.heap.size):=⟨B4.size⟩
     have b6:Below v2.heap.size v2 (v2.alloc (.cells #[.int .u64 0,.slice none 0 0] 62)):=alloc_below _ _
     have B5:=B4.trans (b6.mono B4.size)
     replace OC:=OC.kept (Kept.of_below b6 (fun _=>False)) (fun _ _ h=>h)
     replace NB:=NB.kept (Kept.of_below b6 (fun _=>False)) id
     refine hK.out _ _ ⟨B5,fun _=>trivial⟩ ?_
     clear hK K b6 B4
     have B4:=B5
     clear B5
     generalize v2.alloc _=v3 at *
     generalize v2.heap.size=ga at *
     obtain ⟨⟨r0,r1⟩,f0,f1⟩:=NA.lane
     obtain ⟨q1,q2⟩:=lane_set NA s (.slice a6 m c6)
     have NB1:=NB.kept q2 (fun e=>NA.ne NB (by decide) e.symm)
     have OC1:=OC.other NA q2
     have B5:=B4.trans (q2.below B4.size (fun j e=>by rw [e];exact gea.out))
     refine AnyG.ready (rs:=[14]) (by kernel_rfl) (by simp) ?_
     refine AllG.cons rfl (fun K hK=>?_) AllG.nil
     go_simp
     refine hK.out _ _ ⟨B5,fun _=>trivial⟩ ?_
     clear hK K r0 r1 f0 f1
     obtain ⟨⟨d0,d1,d2,d3,d4⟩,e0,e1,e2,e3,e4⟩:=NB1.five
     obtain ⟨q3,q4⟩:=five_set NB1 ⟨t0,t1,t2,t3,t4⟩
     have NA2:=q1.kept q4 (fun e=>q1.ne NB1 (by decide) e)
     have OC2:=OC1.keptV q4 (fun j e h=>hvb.out j e h)
     have B6:=B5.trans (q4.below B5.size (fun j e=>by rw [e];exact geb.out))
     simp only [tkZ] at d0 d1 d2 d3 d4 q3 q4 NA2 OC2 B6
     refine AnyG.ready (rs:=[15]) (by kernel_rfl) (by simp) ?_
     refine AllG.cons rfl (fun K hK=>?_) AllG.nil
     go_simp
     refine hK.out _ _ ⟨B6,fun _=>trivial⟩ ?_
     clear hK K d0 d1 d2 d3 d4 e0 e1 e2 e3 e4
     refine .tq 16 9 B6 ?_;simp only [oqA,oqB,oqC]
     refine AnyG.done (by kernel_rfl) ?_ _
     have HT:Hd (TwB w3 s m D ⟨t0,t1,t2,t3,t4⟩ (.pointer (some ⟨ga,0,none⟩)) (.pointer (some ⟨gb,0,none⟩)) _):=⟨⟨ga,gb,a6,c6,⟨rfl,rfl⟩,⟨gea.out,geb.out⟩,NA2,q3,OC2,B6⟩⟩
     clear NA NB NB1 OC OC1 q1 q2 q3 q4 NA2 OC2 B4 B5 B6 hvb gea geb
     go_wp2_with fail
     go_meet
     exact HT.out
   ·skip
    go_simp
    have NA:Blk (v1.alloc (.cells #[.int .u64 0,.slice none 0 0] 62)) v1.heap.size 62 (lnA 0 (.slice none 0 0)):=Blk.new _ _ _
    have gea:Hd (w3.heap.size≤v1.heap.size):=⟨B4.size⟩
    have b6:Below v1.heap.size v1 (v1.alloc (.cells #[.int .u64 0,.slice none 0 0] 62)):=alloc_below _ _
    have B5:=B4.trans (b6.mono B4.size)
    replace NB:=NB.kept (Kept.of_below b6 (fun _=>False)) id
    refine hK.out _ _ ⟨B5,fun _=>trivial⟩ ?_
    clear hK K b6 B4
    have B4:=B5
    clear B5
    generalize v1.alloc _=v2 at *
    generalize v1.heap.size=ga at *
    refine AnyG.ready (rs:=[7]) (by kernel_rfl) (by simp) ?_
    refine AllG.cons rfl (fun K hK=>?_) (AllG.nil)
    ·skip
     go_simp
     refine (CT.out v2 B4).mono ?_
     rintro e v3 ⟨a6,c6,rfl,OC,b6⟩
     have B5:Below w3.heap.size w3 v3:=B4.trans (b6.mono B4.size)
     replace NA:=NA.kept (Kept.of_below b6 (fun _=>False)) id
     have hvb:Hd (∀ j,Value.ownBlock (.slice a6 m c6)=some j→¬ j=gb):=⟨fun j e h=>by have:=(OC.lt j e).1;have:=NB.lt;omega⟩
     replace NB:=NB.kept (Kept.of_below b6 (fun _=>False)) id
     replace OC:=OC.low B4.size
     refine hK.out _ _ ⟨B5,fun _=>trivial⟩ ?_
     clear hK K b6 B4
     have B4:=B5
     clear B5
     refine .tq 8 21 B4 ?_;simp only [oqA,oqB,oqC]
     refine .tq 9 30 B4 ?_;simp only [oqA,oqB,oqC]
     refine .tq 10 31 B4 ?_;simp only [oqA,oqB,oqC]
     refine .tq 11 32 B4 ?_;simp only [oqA,oqB,oqC]
     obtain ⟨⟨r0,r1⟩,f0,f1⟩:=NA.lane
     obtain ⟨q1,q2⟩:=lane_set NA s (.slice a6 m c6)
     have NB1:=NB.kept q2 (fun e=>NA.ne NB (by decide) e.symm)
     have OC1:=OC.other NA q2
     have B5:=B4.trans (q2.below B4.size (fun j e=>by rw [e];exact gea.out))
     refine AnyG.ready (rs:=[14]) (by kernel_rfl) (by simp) ?_
     refine AllG.cons rfl (fun K hK=>?_) AllG.nil
     go_simp
     refine hK.out _ _ ⟨B5,fun _=>trivial⟩ ?_
     clear hK K r0 r1 f0 f1
     obtain ⟨⟨d0,d1,d2,d3,d4⟩,e0,e1,e2,e3,e4⟩:=NB1.five
     obtain ⟨q3,q4⟩:=five_set NB1 ⟨t0,t1,t2,t3,t4⟩
     have NA2:=q1.kept q4 (fun e=>q1.ne NB1 (by decide) e)
     have OC2:=OC1.keptV q4 (fun j e h=>hvb.out j e h)
     have B6:=B5.trans (q4.below B5.size (fun j e=>by rw [e];exact geb.out))
     simp only [tkZ] at d0 d1 d2 d3 d4 q3 q4 NA2 OC2 B6
     refine AnyG.ready (rs:=[15]) (by kernel_rfl) (by simp) ?_
     refine AllG.cons rfl (fun K hK=>?_) AllG.nil
     go_simp
     refine hK.out _ _ ⟨B6,fun _=>trivial⟩ ?_
     clear hK K d0 d1 d2 d3 d4 e0 e1 e2 e3 e4
     refine .tq 16 9 B6 ?_;simp only [oqA,oqB,oqC]
     refine AnyG.done (by kernel_rfl) ?_ _
     have HT:Hd (TwB w3 s m D ⟨t0,t1,t2,t3,t4⟩ (.pointer (some ⟨ga,0,none⟩)) (.pointer (some ⟨gb,0,none⟩)) _):=⟨⟨ga,gb,a6,c6,⟨rfl,rfl⟩,⟨gea.out,geb.out⟩,NA2,q3,OC2,B6⟩⟩
     clear NA NB NB1 OC OC1 q1 q2 q3 q4 NA2 OC2 B4 B5 B6 hvb gea geb
     go_wp2_with fail
     go_meet
     exact HT.out
 case rest =>
  obtain ⟨g7,g8,a4,c4,⟨rfl,rfl⟩,⟨ge7,ge8⟩,N7,N8,OC,BC⟩:=hcut.ex
  clear hcut HY CT
  have HC:Hd (Blk wc A 31 (faA r g nn o (.slice (some ⟨b1,o1,none⟩) n c))∧Blk wc (A+1) 31 (faA 0 0 0 0 (.slice none 0 0))∧Blk wc (A+1+1) 36 (tkA tkZ)∧Below A w wc) :=
   ⟨H3.out.2.2.1.kept (Kept.of_below BC (fun _=>False)) id,H3.out.2.2.2.1.kept (Kept.of_below BC (fun _=>False)) id,H3.out.2.2.2.2.kept (Kept.of_below BC (fun _=>False)) id,H3.out.2.1.trans (BC.mono (show A≤w3.heap.size by omega))⟩
  have WT:=with_ok r g nn o (some ⟨b1,o1,none⟩) c k F s a4 c4 D w3.heap.size wc (H3.out.1.carry BC) HF.out (by rw [HL.out];exact hk) (by rw [←HM.out];exact OC) BC.size
  rw [HL.out,← HM.out] at WT
  obtain ⟨⟨x0,x1,x2,x3,x4⟩,-⟩:=HC.out.1.fair
  obtain ⟨⟨l0,l1⟩,-⟩:=N7.lane
  have H8:Hd (Blk wc g7 62 (lnA s (.slice a4 m c4))∧Blk wc g8 36 (tkA ⟨t0,t1,t2,t3,t4⟩)):=⟨N7,N8⟩
  clear H3 N7 N8 OC BC
  go_wp2_with fail
  go_at_call 76
  refine WT.mono ?_
  rintro e w5 ⟨⟨v5,rfl,u5,rfl,o5⟩,b5⟩
  clear WT x0 x1 x2 x3 x4 l0 l1
  obtain ⟨a5,c5,e5,-⟩:=o5.read
  rw [List.length_set,HL.out] at e5
  subst e5
  obtain ⟨w6,hw6⟩:∃ w6,w6=w5.alloc (.cells #[.int .u64 r,.int .i64 g,.int .i64 nn,.int .i64 o,.slice a5 n c5] 31):=⟨_,rfl⟩
  have B6:Below w5.heap.size w5 w6:=by rw [hw6];exact alloc_below _ _
  have N6:Blk w6 w5.heap.size 31 (faA r g nn o (.slice a5 n c5)):=by rw [hw6];exact Blk.new _ _ _
  have bc6:Below wc.heap.size wc w6:=b5.trans (B6.mono b5.size)
  have H6:Hd (Blk w6 A 31 (faA r g nn o (.slice (some ⟨b1,o1,none⟩) n c))∧Blk w6 (A+1) 31 (faA 0 0 0 0 (.slice none 0 0))∧Blk w6 (A+1+1) 36 (tkA tkZ)∧Below A w w6∧Blk w6 g7 62 (lnA s (.slice a4 m c4))∧Blk w6 g8 36 (tkA ⟨t0,t1,t2,t3,t4⟩)∧Blk w6 w5.heap.size 31 (faA r g nn o (.slice a5 n c5))∧OwL w6 w3.heap.size (.slice a5 n c5) (F.set k ⟨s,D⟩)) :=
   ⟨HC.out.1.kept (Kept.of_below bc6 (fun _=>False)) id,HC.out.2.1.kept (Kept.of_below bc6 (fun _=>False)) id,HC.out.2.2.1.kept (Kept.of_below bc6 (fun _=>False)) id,HC.out.2.2.2.trans (bc6.mono (show A≤wc.heap.size by have:=HC.out.1.lt;omega)),H8.out.1.kept (Kept.of_below bc6 (fun _=>False)) id,H8.out.2.kept (Kept.of_below bc6 (fun _=>False)) id,N6,o5.kept (Kept.of_below B6 (fun _=>False)) (fun _ _ h=>h)⟩
  have hy5:A+1+1<w5.heap.size:=by have:=b5.size;have:=HC.out.2.2.1.lt;omega
  clear o5 b5 B6 N6 bc6 HC H8
  go_upto_region 6 with fail
  rw [←hw6]
  clear hw6
  generalize w5.heap.size=y at *
  obtain ⟨⟨x0,x1,x2,x3,x4⟩,-⟩:=H6.out.1.fair
  obtain ⟨⟨l0,l1⟩,-⟩:=H6.out.2.2.2.2.1.lane
  obtain ⟨⟨y0,y1,y2,y3,y4⟩,yf0,-⟩:=H6.out.2.2.2.2.2.2.1.fair
  obtain ⟨q7,k7⟩:=fair_r H6.out.2.2.2.2.2.2.1 (max r s)
  obtain ⟨rm,hrm⟩:∃ rm,rm=max r s:=⟨_,rfl⟩
  have HRM:Hd (rm=max r s):=⟨hrm⟩
  go_upto_region 7 with fail
  rw [←hrm] at q7 k7 ⊢
  clear hrm x0 x1 x2 x3 x4 l0 l1 y0 y1 y2 y3 y4 yf0
  obtain ⟨w7,hw7⟩:∃ w7,w7=(w6.setCell ⟨y,0,none⟩ (.int .u64 rm)).drew:=⟨_,rfl⟩
  have K7:Kept (fun j=>j=y) w6 w7:=by rw [hw7];exact k7.drew
  have H7:Hd (Blk w7 (A+1) 31 (faA 0 0 0 0 (.slice none 0 0))∧Blk w7 (A+1+1) 36 (tkA tkZ)∧Below A w w7∧Blk w7 g8 36 (tkA ⟨t0,t1,t2,t3,t4⟩)∧Blk w7 y 31 (faA rm g nn o (.slice a5 n c5))∧OwL w7 w3.heap.size (.slice a5 n c5) (F.set k ⟨s,D⟩)) :=
   ⟨H6.out.2.1.kept K7 (by omega),H6.out.2.2.1.kept K7 (by omega),H6.out.2.2.2.1.trans (K7.below (B:=A) (by have:=H6.out.2.1.lt;omega) (fun j e=>by omega)),H6.out.2.2.2.2.2.1.kept K7 (fun e=>H6.out.2.2.2.2.2.2.1.ne H6.out.2.2.2.2.2.1 (by decide) e.symm),by rw [hw7];exact q7,H6.out.2.2.2.2.2.2.2.other H6.out.2.2.2.2.2.2.1 K7⟩
  clear H6 q7 k7 K7
  refine AnyG.start (T:=fun Y=>Kept (fun j=>j=A+1∨j=A+1+1) (w6.setCell ⟨y,0,none⟩ (.int .u64 rm)).drew Y) (U:=fun _=>True) (j0:=100) (by kernel_rfl) ?_
  rw [←hw7]
  clear hw7
  have R:Kept (fun j=>j=A+1∨j=A+1+1) w7 w7:=Kept.refl _ _
  have XY:Hd (∀ Y,Kept (fun j=>j=A+1∨j=A+1+1) w7 Y→Y.cell? ⟨y,0,none⟩=some (.int .u64 rm)∧Y.cell? ⟨y,1,none⟩=some (.int .i64 g)∧Y.cell? ⟨y,2,none⟩=some (.int .i64 nn)∧Y.cell? ⟨y,3,none⟩=some (.int .i64 o)∧Y.cell? ⟨y,4,none⟩=some (.slice a5 n c5)):=⟨fun Y q=>(H7.out.2.2.2.2.1.kept q (by omega)).fair.1⟩
  have X8:Hd (∀ Y,Kept (fun j=>j=A+1∨j=A+1+1) w7 Y→Y.cell? ⟨g8,0,none⟩=some (.int .i64 t0)∧Y.cell? ⟨g8,1,none⟩=some (.int .i64 t1)∧Y.cell? ⟨g8,2,none⟩=some (.int .i64 t2)∧Y.cell? ⟨g8,3,none⟩=some (.int .i64 t3)∧Y.cell? ⟨g8,4,none⟩=some (.int .i64 t4)):=⟨fun Y q=>(H7.out.2.2.2.1.kept q (by omega)).five.1⟩
  refine .tq 0 43 R ?_ (hy:=fun w hSw=>by have s:=XY.out w hSw;go_simp;rfl);simp only [oqA,oqB,oqC]
  refine .tq 2 45 R ?_ (hy:=fun w hSw=>by have s:=X8.out w hSw;go_simp;rfl);simp only [oqA,oqB,oqC]
  have FS:Few (F.set k ⟨s,D⟩):=HF.out.set ⟨HSW.out,by rw [HD.out,List.length_tail];have:=HKH.out.2;omega⟩
  obtain ⟨a9,c9,e9,st9⟩:=H7.out.2.2.2.2.2.st (S:=fun j=>j<A+3) (fun j hj e=>by have:j<A+3:=e;omega)
  rw [List.length_set,HL.out] at e9
  obtain ⟨rfl,rfl⟩:a5=a9∧c5=c9:=by injection e9 with x1 x2 x3;exact ⟨x1,x3⟩
  have TR:=trimmed_ok (fun j=>j<A+3) rm g nn o a5 c5 (F.set k ⟨s,D⟩) w7 st9 FS
  rw [List.length_set,HL.out] at TR
  refine AnyG.ready (rs:=[1]) (by kernel_rfl) (by simp) ?_
  refine AllG.cons rfl (fun K hK=>?_) AllG.nil
  go_simp
  refine TR.mono ?_
  rintro e w8 ⟨⟨v8,rfl,a8,c8,rfl,r8⟩,b8⟩
  obtain ⟨m8,hm8⟩:∃ m8,m8=(trm (F.set k ⟨s,D⟩) o).length:=⟨_,rfl⟩
  have HM8:Hd (m8=(trm (F.set k ⟨s,D⟩) o).length):=⟨hm8⟩
  rw [←hm8]
  clear hm8
  have R8:Kept (fun j=>j=A+1∨j=A+1+1) w7 w8:=Kept.of_below b8 _
  refine hK.out _ _ ⟨R8,fun _=>trivial⟩ ?_
  clear hK K TR st9 e9
  have NR:=H7.out.1.kept (Kept.of_below b8 (fun _=>False)) id
  have NT:=H7.out.2.1.kept (Kept.of_below b8 (fun _=>False)) id
  have BW:=H7.out.2.2.1.trans (b8.mono (show A≤w7.heap.size by have:=H7.out.1.lt;omega))
  obtain ⟨⟨y0,y1,y2,y3,y4⟩,yf0,yf1,yf2,yf3,yf4⟩:=NR.fair
  obtain ⟨⟨-,p2,pk⟩,q1,q2,k2⟩:=ft_put NR NT rm g nn o (.slice a8 m8 c8) ⟨t0,t1,t2,t3,t4⟩
  obtain ⟨⟨d0,d1,d2,d3,d4⟩,e0,e1,e2,e3,e4⟩:=p2.five
  simp only [tkZ] at d0 d1 d2 d3 d4 q1 q2 k2
  refine AnyG.ready (rs:=[3]) (by kernel_rfl) (by simp) ?_
  refine AllG.cons rfl (fun K hK=>?_) AllG.nil
  go_simp
  refine hK.out _ _ ⟨R8.trans (pk.mono (fun j _ e=>.inl e)),fun _=>trivial⟩ ?_
  clear hK K
  refine AnyG.ready (rs:=[4]) (by kernel_rfl) (by simp) ?_
  refine AllG.cons rfl (fun K hK=>?_) AllG.nil
  go_simp
  have R9:=R8.trans k2
  refine hK.out _ _ ⟨R9,fun _=>trivial⟩ ?_
  clear hK K
  refine .tq 5 4 R9 ?_;simp only [oqA,oqB,oqC]
  refine AnyG.done (by kernel_rfl) ?_ _
  have HE:Hd (_∧_∧_∧_):=⟨q1,q2,(r8.next (k2.mono (T:=fun j=>j<A+3) (fun j _ e=>by have:j=A+1∨j=A+1+1:=e;show j<A+3;omega))).low (T:=fun j=>j<A) (fun j _ h=>by have:j<A:=h;show j<A+3;omega),BW.trans (k2.below (B:=A) (by have:=NR.lt;omega) (fun j e=>by omega))⟩
  clear R R8 R9 XY X8 H7 NR NT BW p2 pk q1 q2 k2 r8 b8 y0 y1 y2 y3 y4 yf0 yf1 yf2 yf3 yf4 d0 d1 d2 d3 d4 e0 e1 e2 e3 e4
  go_wp2_with fail
  refine bodyPost_ret (resFt23 (t:=⟨t0,t1,t2,t3,t4⟩) _ _ _ _ true rfl rfl rfl HE.out.1 HE.out.2.1) rfl ?_
  rw [←HA.out,HTK.out,← HS.out,← HRM.out]
  exact ⟨⟨_,rfl,_,_,by rw [HM8.out],HE.out.2.2.1⟩,HE.out.2.2.2⟩
end Go.Proofs.YtlgibnmoogbdcaaGreat
