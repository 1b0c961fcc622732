/-
  Which lane of a hand is chosen, by the reference.
  Lanes that are made, and copied.
  Rows of lanes that are appended.
-/
import Derived.Test.YtlgibnmoogbdcaaGreatR9
import Derived.Test.YtlgibnmoogbdcaaGreatR8
namespace Go.Proofs.YtlgibnmoogbdcaaGreat
open Go.RowKit
set_option maxRecDepth 20000 in
set_option maxHeartbeats 2000000 in
theorem rchoose_ok (r g nn o:Int) (a:Option Addr) (c:Nat) (F:List Ln) (ah:Option Addr) (nh ch:Nat) (H0:Nat→Int) (w:World) (h:LsR w a c F) (hf:Few F) (hh:HnR w ah nh H0) (hnh:nh≤1000) :
  Calls Tryz.prog 68 #[.agg #[.int .u64 r,.int .i64 g,.int .i64 nn,.int .i64 o,.slice a F.length c],.slice ah nh ch] w fun e w'=>e=.returned (.int .i64 (chF F o H0 nh))∧Below w.heap.size w w':=by
 obtain ⟨w1,hw1⟩:∃ w1,w1=w.alloc (.cells #[.int .u64 r,.int .i64 g,.int .i64 nn,.int .i64 o,.slice a F.length c] 31):=⟨_,rfl⟩
 have B:Below w.heap.size w w1:=by rw [hw1];exact alloc_below _ _
 have N1:Blk w1 w.heap.size 31 (faA r g nn o (.slice a F.length c)):=by rw [hw1];exact Blk.new _ _ _
 have HF:Hd (Few F):=⟨hf⟩
 have hl:=hf.len
 obtain ⟨n,hn⟩:∃ n,F.length=n:=⟨_,rfl⟩
 have HL:Hd (F.length=n):=⟨hn⟩
 have H:Hd (LsR w1 a c F∧Below w.heap.size w w1∧Blk w1 w.heap.size 31 (faA r g nn o (.slice a n c))):=⟨h.carry B,B,by rw [←hn];exact N1⟩
 rw [hn] at hl hw1
 clear B N1 h hf
 obtain ⟨⟨c0,c1,c2,c3,c4⟩,-⟩:=H.out.2.2.fair
 have HH:Hd (HnR w1 ah nh H0):=⟨hh.carry H.out.2.1⟩
 have HX0:Hd (∀ b,IsC F o H0 0 nh b→b=chF F o H0 nh):=⟨fun b hb=>hb.uniq (chF_is F o H0 nh)⟩
 rw [hn]
 clear hn hh
 go_enter Tryz.func68,Tryz.ntmps68
 go_upto_region 1 with fail
 rw [←hw1]
 clear hw1
 obtain ⟨A,hA⟩:∃ A,A=w.heap.size:=⟨_,rfl⟩
 have HA:Hd (A=w.heap.size):=⟨hA⟩
 rw [←hA] at H c0 c1 c2 c3 c4 ⊢
 clear hA
 have hs1:A≤w1.heap.size:=by rw [HA.out];exact H.out.2.1.size
 go_wp2
 clear c0 c1 c2 c3 c4
 go_loopw [5,6] (fun v5 i wr=>∃ (q:Nat) (b:Int),q≤nh∧i=.int .i64 ((q:Int) - 1)∧v5=.int .i64 b∧Hd (IsC F o H0 q nh b)∧Below w1.heap.size w1 wr) (fun _ i _=>(intOf i+1).toNat)
 case atStart=>exact ⟨nh,-1,Nat.le_refl _,rfl,rfl,⟨.inl ⟨rfl,fun q h1 h2=>absurd h2 (by omega)⟩⟩,Below.refl _ _⟩
 case round =>
  obtain ⟨q,b,hq,rfl,rfl,HI,p3⟩:=hrel
  by_cases hq0:q=0
  ·subst hq0
   have HX:Hd (b=chF F o H0 nh):=⟨HX0.out b HI.out⟩
   clear HI
   go_wp2
   go_ret
   exact ⟨by rw [←HX.out];rfl,by rw [←HA.out];exact H.out.2.1.trans (p3.mono hs1)⟩
  ·obtain ⟨j,rfl⟩:∃ j,q=j+1:=⟨q - 1,by omega⟩
   rw [show ((j+1:Nat):Int) - 1=j by omega]
   have hjn:j<nh:=by omega
   obtain ⟨bh,oh,rfl,hbh,hch⟩:=(HH.out.carry p3) (by omega)
   have hck:=hch j hjn
   have NA:=H.out.2.2.kept (Kept.of_below p3 (fun _=>False)) id
   have BD:Hd (Below wr.heap.size wr wr.drew):=⟨(Below.refl _ _).drew⟩
   have P:Hd (Below w1.heap.size w1 wr):=⟨p3⟩
   have SR:Hd (LsR wr a c F):=⟨H.out.1.carry p3⟩
   have X3:Hd (∀ Y,Below wr.drew.heap.size wr.drew Y→Y.cell? ⟨A,3,none⟩=some (.int .i64 o)):=⟨fun Y q=>(NA.kept (Kept.of_below (BD.out.trans q) (fun _=>False)) id).cellv 3 rfl⟩
   have X4:Hd (∀ Y,Below wr.drew.heap.size wr.drew Y→Y.cell? ⟨A,4,none⟩=some (.slice a n c)):=⟨fun Y q=>(NA.kept (Kept.of_below (BD.out.trans q) (fun _=>False)) id).cellv 4 rfl⟩
   have HBK:=HI.out.back hjn
   have hbv:b=-1∨Vld F o b:=HI.out.rng
   rw [show Vld F o b=(0≤b∧b<o∧b<(F.length:Int)) from rfl,HL.out] at hbv
   have HV:Hd (Vld F o (H0 j) ↔ 0≤H0 j∧H0 j<o∧H0 j<(n:Int)):=⟨by unfold Vld;rw [HL.out]⟩
   obtain ⟨i,hi⟩:∃ i,i=H0 j:=⟨_,rfl⟩
   rw [←hi] at hck HV HBK
   clear p3 NA hch hi hbh HI
   by_cases e1:0≤i
   ·by_cases e2:i<o
    ·by_cases e3:i<(n:Int)
     ·have hv:=HV.out.2 ⟨e1,e2,e3⟩
      obtain ⟨p,rfl⟩:∃ p:Nat,i=p:=⟨i.toNat,by omega⟩
      have hpn:p<n:=by omega
      obtain ⟨b1,o1,a1,c1,rfl,hb1,d0,d1,s1⟩:=SR.out.at (k:=p) (by rw [HL.out];exact hpn)
      have HK:=HF.out.at p
      have XD:Hd (∀ Y,Below wr.drew.heap.size wr.drew Y→Y.cell? ⟨b1,o1+p*2,none⟩=some (.int .u64 (gl F p).s)∧Y.cell? ⟨b1,o1+p*2+1,none⟩=some (.slice a1 (gl F p).L.length c1)):=⟨fun Y q=>by
       have K:Kept (fun _=>False) wr Y:=Kept.of_below (BD.out.trans q) _
       exact ⟨(World.cell?_of_block (K.block b1 hb1 id)).trans d0,(World.cell?_of_block (K.block b1 hb1 id)).trans d1⟩⟩
      have CD:Hd (∀ Y,Below wr.drew.heap.size wr.drew Y→Calls Tryz.prog 86 #[.agg #[.int .u64 (gl F p).s,.slice a1 (gl F p).L.length c1]] Y fun e w'=>e=.returned (.int .i64 (sW (gl F p)))∧Below Y.heap.size Y w'):=⟨fun Y q=>rseats_ok (gl F p).s a1 c1 (gl F p).L Y (s1.carry (BD.out.trans q)).2.2 (by omega)⟩
      have l3:=sW_lo (gl F p)
      have l4:=sW_hi HK.2
      rw [Int.toNat_natCast] at HBK
      by_cases e4:b<0
      ·rw [if_pos ⟨hv,.inl e4⟩] at HBK
       have HX:Hd (IsC F o H0 j nh p):=⟨HBK⟩
       clear HBK HV hv s1 SR HK hb1 d0 d1 hbv
       generalize sW (gl F p)=xs at *
       generalize (gl F p).L.length=m at *
       generalize (gl F p).s=z at *
       go_upto_region 6 with fail
       refine AnyG.start (T:=fun Y=>Below wr.drew.heap.size wr.drew Y) (U:=fun _=>True) (j0:=100) (by kernel_rfl) ?_
       generalize wr.drew=w3 at *
       have R:Below w3.heap.size w3 w3:=Below.refl _ _
       refine .tq 0 19 R ?_;simp only [oqA,oqB,oqC]
       refine .tq (v:=.bool true) 1 20 R ?_ (hy:=fun w hSw=>by go_simp);simp only [oqA,oqB,oqC]
       refine .tq 2 21 R ?_;simp only [oqA,oqB,oqC]
       refine .tq 3 22 R ?_;simp only [oqA,oqB,oqC]
       refine .tq 4 23 R ?_;simp only [oqA,oqB,oqC]
       refine .tq 5 24 R ?_ (hy:=fun w hSw=>by have s:=X3.out w hSw;go_simp;rfl);simp only [oqA,oqB,oqC]
       refine .tq (v:=.bool true) 6 25 R ?_ (hy:=fun w hSw=>by go_simp);simp only [oqA,oqB,oqC]
       refine .tq (v:=.bool true) 7 26 R ?_ (hy:=fun w hSw=>by go_simp);simp only [oqA,oqB,oqC]
       refine .tq 8 27 R ?_;simp only [oqA,oqB,oqC]
       refine .tq 9 28 R ?_;simp only [oqA,oqB,oqC]
       refine .tq 10 29 R ?_;simp only [oqA,oqB,oqC]
       refine .tq 11 30 R ?_ (hy:=fun w hSw=>by have s:=X4.out w hSw;go_simp;rfl);simp only [oqA,oqB,oqC]
       refine .tq 12 31 R ?_;simp only [oqA,oqB,oqC]
       refine .tq (v:=.bool true) 13 32 R ?_ (hy:=fun w hSw=>by go_simp);simp only [oqA,oqB,oqC]
       refine .tq (v:=.bool true) 14 33 R ?_ (hy:=fun w hSw=>by go_simp);simp only [oqA,oqB,oqC]
       refine .tq 15 34 R ?_;simp only [oqA,oqB,oqC]
       refine .tq 16 35 R ?_;simp only [oqA,oqB,oqC]
       refine .tq (v:=.bool true) 17 36 R ?_ (hy:=fun w hSw=>by go_simp);simp only [oqA,oqB,oqC]
       refine .tq 18 37 R ?_;simp only [oqA,oqB,oqC]
       refine .sq 19 38 R ?_;simp only [oqA,oqB,oqC]
       refine .sq 20 39 R ?_;simp only [oqA,oqB,oqC]
       refine .sq 21 40 R ?_;simp only [oqA,oqB,oqC]
       refine .sq 22 41 R ?_;simp only [oqA,oqB,oqC]
       refine .sq 23 42 R ?_;simp only [oqA,oqB,oqC]
       refine .sq 24 43 R ?_;simp only [oqA,oqB,oqC]
       refine .sq 25 44 R ?_;simp only [oqA,oqB,oqC]
       refine .sq 26 45 R ?_;simp only [oqA,oqB,oqC]
       refine .sq 27 46 R ?_;simp only [oqA,oqB,oqC]
       refine .sq 28 47 R ?_;simp only [oqA,oqB,oqC]
       refine .sq 29 48 R ?_;simp only [oqA,oqB,oqC]
       refine .sq 30 49 R ?_;simp only [oqA,oqB,oqC]
       refine .sq 31 50 R ?_;simp only [oqA,oqB,oqC]
       refine .tq 32 51 R ?_;simp only [oqA,oqB,oqC]
       refine .tq (v:=.bool true) 33 52 R ?_ (hy:=fun w hSw=>by go_simp);simp only [oqA,oqB,oqC]
       refine AnyG.done (by kernel_rfl) ?_ _
       clear R X3 X4 XD CD
       go_wp2
       go_roundw
       case rel=>exact ⟨j,p,by omega,by go_num,rfl,HX,P.out.trans (BD.out.mono P.out.size)⟩
       case measure=>simp [intOf]
      ·obtain ⟨u,rfl⟩:∃ u:Nat,b=u:=⟨b.toNat,by omega⟩
       have hun:u<n:=by omega
       obtain ⟨b2,o2,a2,c2,e9,hb2,f0,f1,s2⟩:=SR.out.at (k:=u) (by rw [HL.out];exact hun)
       obtain ⟨rfl,rfl⟩:b1=b2∧o1=o2:=by injection e9 with e9;injection e9 with y1 y2;exact ⟨y1,y2⟩
       have HU:=HF.out.at u
       have XE:Hd (∀ Y,Below wr.drew.heap.size wr.drew Y→Y.cell? ⟨b1,o1+u*2,none⟩=some (.int .u64 (gl F u).s)∧Y.cell? ⟨b1,o1+u*2+1,none⟩=some (.slice a2 (gl F u).L.length c2)):=⟨fun Y q=>by
        have K:Kept (fun _=>False) wr Y:=Kept.of_below (BD.out.trans q) _
        exact ⟨(World.cell?_of_block (K.block b1 hb1 id)).trans f0,(World.cell?_of_block (K.block b1 hb1 id)).trans f1⟩⟩
       have CE:Hd (∀ Y,Below wr.drew.heap.size wr.drew Y→Calls Tryz.prog 86 #[.agg #[.int .u64 (gl F u).s,.slice a2 (gl F u).L.length c2]] Y fun e w'=>e=.returned (.int .i64 (sW (gl F u)))∧Below Y.heap.size Y w'):=⟨fun Y q=>rseats_ok (gl F u).s a2 c2 (gl F u).L Y (s2.carry (BD.out.trans q)).2.2 (by omega)⟩
       rw [Int.toNat_natCast] at HBK
       by_cases e5:sW (gl F p)≤sW (gl F u)
       ·rw [if_pos ⟨hv,.inr e5⟩] at HBK
        have HX:Hd (IsC F o H0 j nh p):=⟨HBK⟩
        clear HBK HV hv s1 s2 SR HK HU hb1 hb2 d0 d1 f0 f1 hbv e9
        generalize sW (gl F p)=xs at *
        generalize sW (gl F u)=xu at *
        generalize (gl F p).L.length=m at *
        generalize (gl F p).s=z at *
        generalize (gl F u).L.length=m2 at *
        generalize (gl F u).s=z2 at *
        go_upto_region 6 with fail
        refine AnyG.start (T:=fun Y=>Below wr.drew.heap.size wr.drew Y) (U:=fun _=>True) (j0:=100) (by kernel_rfl) ?_
        generalize wr.drew=w3 at *
        have R:Below w3.heap.size w3 w3:=Below.refl _ _
        refine .tq 0 19 R ?_;simp only [oqA,oqB,oqC]
        refine .tq (v:=.bool true) 1 20 R ?_ (hy:=fun w hSw=>by go_simp);simp only [oqA,oqB,oqC]
        refine .tq 2 21 R ?_;simp only [oqA,oqB,oqC]
        refine .tq 3 22 R ?_;simp only [oqA,oqB,oqC]
        refine .tq 4 23 R ?_;simp only [oqA,oqB,oqC]
        refine .tq 5 24 R ?_ (hy:=fun w hSw=>by have s:=X3.out w hSw;go_simp;rfl);simp only [oqA,oqB,oqC]
        refine .tq (v:=.bool true) 6 25 R ?_ (hy:=fun w hSw=>by go_simp);simp only [oqA,oqB,oqC]
        refine .tq (v:=.bool true) 7 26 R ?_ (hy:=fun w hSw=>by go_simp);simp only [oqA,oqB,oqC]
        refine .tq 8 27 R ?_;simp only [oqA,oqB,oqC]
        refine .tq 9 28 R ?_;simp only [oqA,oqB,oqC]
        refine .tq 10 29 R ?_;simp only [oqA,oqB,oqC]
        refine .tq 11 30 R ?_ (hy:=fun w hSw=>by have s:=X4.out w hSw;go_simp;rfl);simp only [oqA,oqB,oqC]
        refine .tq 12 31 R ?_;simp only [oqA,oqB,oqC]
        refine .tq (v:=.bool true) 13 32 R ?_ (hy:=fun w hSw=>by go_simp);simp only [oqA,oqB,oqC]
        refine .tq (v:=.bool true) 14 33 R ?_ (hy:=fun w hSw=>by go_simp);simp only [oqA,oqB,oqC]
        refine .tq 15 34 R ?_;simp only [oqA,oqB,oqC]
        refine .tq 16 35 R ?_;simp only [oqA,oqB,oqC]
        refine .tq (v:=.bool false) 17 36 R ?_ (hy:=fun w hSw=>by go_simp);simp only [oqA,oqB,oqC]
        refine .tq 18 37 R ?_;simp only [oqA,oqB,oqC]
        refine .tq 19 38 R ?_;simp only [oqA,oqB,oqC]
        refine .tq 20 39 R ?_ (hy:=fun w hSw=>by have s:=X4.out w hSw;go_simp;rfl);simp only [oqA,oqB,oqC]
        refine .tq 21 40 R ?_;simp only [oqA,oqB,oqC]
        refine .tq 22 41 R ?_;simp only [oqA,oqB,oqC]
        refine .tq 23 42 R ?_ (hy:=fun w hSw=>by have s:=XD.out w hSw;go_simp;rfl);simp only [oqA,oqB,oqC]
        refine .tq 25 44 R ?_;simp only [oqA,oqB,oqC]
        refine .tq 26 45 R ?_ (hy:=fun w hSw=>by have s:=X4.out w hSw;go_simp;rfl);simp only [oqA,oqB,oqC]
        refine .tq 27 46 R ?_;simp only [oqA,oqB,oqC]
        refine .tq 28 47 R ?_;simp only [oqA,oqB,oqC]
        refine .tq 29 48 R ?_ (hy:=fun w hSw=>by have s:=XE.out w hSw;go_simp;rfl);simp only [oqA,oqB,oqC]
        have SD:=CD.out w3 R
        refine AnyG.ready (rs:=[24]) (by kernel_rfl) (by simp) ?_
        refine AllG.cons rfl (fun K hK=>?_) AllG.nil
        go_simp
        refine SD.mono ?_
        rintro e w4 ⟨rfl,b4⟩
        refine hK.out _ _ ⟨b4,fun _=>trivial⟩ ?_
        clear hK K SD
        have SE:=CE.out w4 b4
        refine AnyG.ready (rs:=[30]) (by kernel_rfl) (by simp) ?_
        refine AllG.cons rfl (fun K hK=>?_) AllG.nil
        go_simp
        refine SE.mono ?_
        rintro e w5 ⟨rfl,b5⟩
        have b35:=b4.trans (b5.mono b4.size)
        refine hK.out _ _ ⟨b35,fun _=>trivial⟩ ?_
        clear hK K SE
        refine .tq (v:=.bool true) 31 50 b35 ?_ (hy:=fun w hSw=>by go_simp);simp only [oqA,oqB,oqC]
        refine .tq 32 51 b35 ?_;simp only [oqA,oqB,oqC]
        refine .tq (v:=.bool true) 33 52 b35 ?_ (hy:=fun w hSw=>by go_simp);simp only [oqA,oqB,oqC]
        refine AnyG.done (by kernel_rfl) ?_ _
        clear R X3 X4 XD XE CD CE
        go_wp2
        go_roundw
        case rel=>exact ⟨j,p,by omega,by go_num,rfl,HX,P.out.trans ((BD.out.trans (b35.mono BD.out.size)).mono P.out.size)⟩
        case measure=>simp [intOf]
       ·rw [if_neg (fun h=>by rcases h.2 with h | h;exact e4 h;exact e5 h)] at HBK
        have HX:Hd (IsC F o H0 j nh u):=⟨HBK⟩
        clear HBK HV hv s1 s2 SR HK HU hb1 hb2 d0 d1 f0 f1 hbv e9
        generalize sW (gl F p)=xs at *
        generalize sW (gl F u)=xu at *
        generalize (gl F p).L.length=m at *
        generalize (gl F p).s=z at *
        generalize (gl F u).L.length=m2 at *
        generalize (gl F u).s=z2 at *
        go_upto_region 6 with fail
        refine AnyG.start (T:=fun Y=>Below wr.drew.heap.size wr.drew Y) (U:=fun _=>True) (j0:=100) (by kernel_rfl) ?_
        generalize wr.drew=w3 at *
        have R:Below w3.heap.size w3 w3:=Below.refl _ _
        refine .tq 0 19 R ?_;simp only [oqA,oqB,oqC]
        refine .tq (v:=.bool true) 1 20 R ?_ (hy:=fun w hSw=>by go_simp);simp only [oqA,oqB,oqC]
        refine .tq 2 21 R ?_;simp only [oqA,oqB,oqC]
        refine .tq 3 22 R ?_;simp only [oqA,oqB,oqC]
        refine .tq 4 23 R ?_;simp only [oqA,oqB,oqC]
        refine .tq 5 24 R ?_ (hy:=fun w hSw=>by have s:=X3.out w hSw;go_simp;rfl);simp only [oqA,oqB,oqC]
        refine .tq (v:=.bool true) 6 25 R ?_ (hy:=fun w hSw=>by go_simp);simp only [oqA,oqB,oqC]
        refine .tq (v:=.bool true) 7 26 R ?_ (hy:=fun w hSw=>by go_simp);simp only [oqA,oqB,oqC]
        refine .tq 8 27 R ?_;simp only [oqA,oqB,oqC]
        refine .tq 9 28 R ?_;simp only [oqA,oqB,oqC]
        refine .tq 10 29 R ?_;simp only [oqA,oqB,oqC]
        refine .tq 11 30 R ?_ (hy:=fun w hSw=>by have s:=X4.out w hSw;go_simp;rfl);simp only [oqA,oqB,oqC]
        refine .tq 12 31 R ?_;simp only [oqA,oqB,oqC]
        refine .tq (v:=.bool true) 13 32 R ?_ (hy:=fun w hSw=>by go_simp);simp only [oqA,oqB,oqC]
        refine .tq (v:=.bool true) 14 33 R ?_ (hy:=fun w hSw=>by go_simp);simp only [oqA,oqB,oqC]
        refine .tq 15 34 R ?_;simp only [oqA,oqB,oqC]
        refine .tq 16 35 R ?_;simp only [oqA,oqB,oqC]
        refine .tq (v:=.bool false) 17 36 R ?_ (hy:=fun w hSw=>by go_simp);simp only [oqA,oqB,oqC]
        refine .tq 18 37 R ?_;simp only [oqA,oqB,oqC]
        refine .tq 19 38 R ?_;simp only [oqA,oqB,oqC]
        refine .tq 20 39 R ?_ (hy:=fun w hSw=>by have s:=X4.out w hSw;go_simp;rfl);simp only [oqA,oqB,oqC]
        refine .tq 21 40 R ?_;simp only [oqA,oqB,oqC]
        refine .tq 22 41 R ?_;simp only [oqA,oqB,oqC]
        refine .tq 23 42 R ?_ (hy:=fun w hSw=>by have s:=XD.out w hSw;go_simp;rfl);simp only [oqA,oqB,oqC]
        refine .tq 25 44 R ?_;simp only [oqA,oqB,oqC]
        refine .tq 26 45 R ?_ (hy:=fun w hSw=>by have s:=X4.out w hSw;go_simp;rfl);simp only [oqA,oqB,oqC]
        refine .tq 27 46 R ?_;simp only [oqA,oqB,oqC]
        refine .tq 28 47 R ?_;simp only [oqA,oqB,oqC]
        refine .tq 29 48 R ?_ (hy:=fun w hSw=>by have s:=XE.out w hSw;go_simp;rfl);simp only [oqA,oqB,oqC]
        have SD:=CD.out w3 R
        refine AnyG.ready (rs:=[24]) (by kernel_rfl) (by simp) ?_
        refine AllG.cons rfl (fun K hK=>?_) AllG.nil
        go_simp
        refine SD.mono ?_
        rintro e w4 ⟨rfl,b4⟩
        refine hK.out _ _ ⟨b4,fun _=>trivial⟩ ?_
        clear hK K SD
        have SE:=CE.out w4 b4
        refine AnyG.ready (rs:=[30]) (by kernel_rfl) (by simp) ?_
        refine AllG.cons rfl (fun K hK=>?_) AllG.nil
        go_simp
        refine SE.mono ?_
        rintro e w5 ⟨rfl,b5⟩
        have b35:=b4.trans (b5.mono b4.size)
        refine hK.out _ _ ⟨b35,fun _=>trivial⟩ ?_
        clear hK K SE
        refine .tq (v:=.bool false) 31 50 b35 ?_ (hy:=fun w hSw=>by go_simp);simp only [oqA,oqB,oqC]
        refine .tq 32 51 b35 ?_;simp only [oqA,oqB,oqC]
        refine .tq (v:=.bool false) 33 52 b35 ?_ (hy:=fun w hSw=>by go_simp);simp only [oqA,oqB,oqC]
        refine AnyG.done (by kernel_rfl) ?_ _
        clear R X3 X4 XD XE CD CE
        go_wp2
        go_roundw
        case rel=>exact ⟨j,u,by omega,by go_num,rfl,HX,P.out.trans ((BD.out.trans (b35.mono BD.out.size)).mono P.out.size)⟩
        case measure=>simp [intOf]
     ·rw [if_neg (fun h=>e3 (HV.out.1 h.1).2.2)] at HBK
      have HX:Hd (IsC F o H0 j nh b):=⟨HBK⟩
      clear HBK HV SR hbv
      go_upto_region 6 with fail
      refine AnyG.start (T:=fun Y=>Below wr.drew.heap.size wr.drew Y) (U:=fun _=>True) (j0:=100) (by kernel_rfl) ?_
      generalize wr.drew=w3 at *
      have R:Below w3.heap.size w3 w3:=Below.refl _ _
      refine .tq 0 19 R ?_;simp only [oqA,oqB,oqC]
      refine .tq (v:=.bool true) 1 20 R ?_ (hy:=fun w hSw=>by go_simp);simp only [oqA,oqB,oqC]
      refine .tq 2 21 R ?_;simp only [oqA,oqB,oqC]
      refine .tq 3 22 R ?_;simp only [oqA,oqB,oqC]
      refine .tq 4 23 R ?_;simp only [oqA,oqB,oqC]
      refine .tq 5 24 R ?_ (hy:=fun w hSw=>by have s:=X3.out w hSw;go_simp;rfl);simp only [oqA,oqB,oqC]
      refine .tq (v:=.bool true) 6 25 R ?_ (hy:=fun w hSw=>by go_simp);simp only [oqA,oqB,oqC]
      refine .tq (v:=.bool true) 7 26 R ?_ (hy:=fun w hSw=>by go_simp);simp only [oqA,oqB,oqC]
      refine .tq 8 27 R ?_;simp only [oqA,oqB,oqC]
      refine .tq 9 28 R ?_;simp only [oqA,oqB,oqC]
      refine .tq 10 29 R ?_;simp only [oqA,oqB,oqC]
      refine .tq 11 30 R ?_ (hy:=fun w hSw=>by have s:=X4.out w hSw;go_simp;rfl);simp only [oqA,oqB,oqC]
      refine .tq 12 31 R ?_;simp only [oqA,oqB,oqC]
      refine .tq (v:=.bool false) 13 32 R ?_ (hy:=fun w hSw=>by go_simp);simp only [oqA,oqB,oqC]
      refine .tq (v:=.bool false) 14 33 R ?_ (hy:=fun w hSw=>by go_simp);simp only [oqA,oqB,oqC]
      refine .tq 15 34 R ?_;simp only [oqA,oqB,oqC]
      refine .sq 16 35 R ?_;simp only [oqA,oqB,oqC]
      refine .sq 17 36 R ?_;simp only [oqA,oqB,oqC]
      refine .sq 18 37 R ?_;simp only [oqA,oqB,oqC]
      refine .sq 19 38 R ?_;simp only [oqA,oqB,oqC]
      refine .sq 20 39 R ?_;simp only [oqA,oqB,oqC]
      refine .sq 21 40 R ?_;simp only [oqA,oqB,oqC]
      refine .sq 22 41 R ?_;simp only [oqA,oqB,oqC]
      refine .sq 23 42 R ?_;simp only [oqA,oqB,oqC]
      refine .sq 24 43 R ?_;simp only [oqA,oqB,oqC]
      refine .sq 25 44 R ?_;simp only [oqA,oqB,oqC]
      refine .sq 26 45 R ?_;simp only [oqA,oqB,oqC]
      refine .sq 27 46 R ?_;simp only [oqA,oqB,oqC]
      refine .sq 28 47 R ?_;simp only [oqA,oqB,oqC]
      refine .sq 29 48 R ?_;simp only [oqA,oqB,oqC]
      refine .sq 30 49 R ?_;simp only [oqA,oqB,oqC]
      refine .sq 31 50 R ?_;simp only [oqA,oqB,oqC]
      refine .sq 32 51 R ?_;simp only [oqA,oqB,oqC]
      refine .tq (v:=.bool false) 33 52 R ?_ (hy:=fun w hSw=>by go_simp);simp only [oqA,oqB,oqC]
      refine AnyG.done (by kernel_rfl) ?_ _
      clear R X3 X4
      go_wp2
      go_roundw
      case rel=>exact ⟨j,b,by omega,by go_num,rfl,HX,P.out.trans (BD.out.mono P.out.size)⟩
      case measure=>simp [intOf]
    ·rw [if_neg (fun h=>e2 (HV.out.1 h.1).2.1)] at HBK
     have HX:Hd (IsC F o H0 j nh b):=⟨HBK⟩
     clear HBK HV SR hbv
     go_upto_region 6 with fail
     refine AnyG.start (T:=fun Y=>Below wr.drew.heap.size wr.drew Y) (U:=fun _=>True) (j0:=100) (by kernel_rfl) ?_
     generalize wr.drew=w3 at *
     have R:Below w3.heap.size w3 w3:=Below.refl _ _
     refine .tq 0 19 R ?_;simp only [oqA,oqB,oqC]
     refine .tq (v:=.bool true) 1 20 R ?_ (hy:=fun w hSw=>by go_simp);simp only [oqA,oqB,oqC]
     refine .tq 2 21 R ?_;simp only [oqA,oqB,oqC]
     refine .tq 3 22 R ?_;simp only [oqA,oqB,oqC]
     refine .tq 4 23 R ?_;simp only [oqA,oqB,oqC]
     refine .tq 5 24 R ?_ (hy:=fun w hSw=>by have s:=X3.out w hSw;go_simp;rfl);simp only [oqA,oqB,oqC]
     refine .tq (v:=.bool false) 6 25 R ?_ (hy:=fun w hSw=>by go_simp);simp only [oqA,oqB,oqC]
     refine .tq (v:=.bool false) 7 26 R ?_ (hy:=fun w hSw=>by go_simp);simp only [oqA,oqB,oqC]
     refine .tq 8 27 R ?_;simp only [oqA,oqB,oqC]
     refine .sq 9 28 R ?_;simp only [oqA,oqB,oqC]
     refine .sq 10 29 R ?_;simp only [oqA,oqB,oqC]
     refine .sq 11 30 R ?_;simp only [oqA,oqB,oqC]
     refine .sq 12 31 R ?_;simp only [oqA,oqB,oqC]
     refine .sq 13 32 R ?_;simp only [oqA,oqB,oqC]
     refine .tq (v:=.bool false) 14 33 R ?_ (hy:=fun w hSw=>by go_simp);simp only [oqA,oqB,oqC]
     refine .tq 15 34 R ?_;simp only [oqA,oqB,oqC]
     refine .sq 16 35 R ?_;simp only [oqA,oqB,oqC]
     refine .sq 17 36 R ?_;simp only [oqA,oqB,oqC]
     refine .sq 18 37 R ?_;simp only [oqA,oqB,oqC]
     refine .sq 19 38 R ?_;simp only [oqA,oqB,oqC]
     refine .sq 20 39 R ?_;simp only [oqA,oqB,oqC]
     refine .sq 21 40 R ?_;simp only [oqA,oqB,oqC]
     refine .sq 22 41 R ?_;simp only [oqA,oqB,oqC]
     refine .sq 23 42 R ?_;simp only [oqA,oqB,oqC]
     refine .sq 24 43 R ?_;simp only [oqA,oqB,oqC]
     refine .sq 25 44 R ?_;simp only [oqA,oqB,oqC]
     refine .sq 26 45 R ?_;simp only [oqA,oqB,oqC]
     refine .sq 27 46 R ?_;simp only [oqA,oqB,oqC]
     refine .sq 28 47 R ?_;simp only [oqA,oqB,oqC]
     refine .sq 29 48 R ?_;simp only [oqA,oqB,oqC]
     refine .sq 30 49 R ?_;simp only [oqA,oqB,oqC]
     refine .sq 31 50 R ?_;simp only [oqA,oqB,oqC]
     refine .sq 32 51 R ?_;simp only [oqA,oqB,oqC]
     refine .tq (v:=.bool false) 33 52 R ?_ (hy:=fun w hSw=>by go_simp);simp only [oqA,oqB,oqC]
     refine AnyG.done (by kernel_rfl) ?_ _
     clear R X3 X4
     go_wp2
     go_roundw
     case rel=>exact ⟨j,b,by omega,by go_num,rfl,HX,P.out.trans (BD.out.mono P.out.size)⟩
     case measure=>simp [intOf]
   ·rw [if_neg (fun h=>e1 (HV.out.1 h.1).1)] at HBK
    have HX:Hd (IsC F o H0 j nh b):=⟨HBK⟩
    clear HBK HV SR hbv
    go_upto_region 6 with fail
    refine AnyG.start (T:=fun Y=>Below wr.drew.heap.size wr.drew Y) (U:=fun _=>True) (j0:=100) (by kernel_rfl) ?_
    generalize wr.drew=w3 at *
    have R:Below w3.heap.size w3 w3:=Below.refl _ _
    refine .tq 0 19 R ?_;simp only [oqA,oqB,oqC]
    refine .tq (v:=.bool false) 1 20 R ?_ (hy:=fun w hSw=>by go_simp);simp only [oqA,oqB,oqC]
    refine .tq 2 21 R ?_;simp only [oqA,oqB,oqC]
    refine .sq 3 22 R ?_;simp only [oqA,oqB,oqC]
    refine .sq 4 23 R ?_;simp only [oqA,oqB,oqC]
    refine .sq 5 24 R ?_;simp only [oqA,oqB,oqC]
    refine .sq 6 25 R ?_;simp only [oqA,oqB,oqC]
    refine .tq (v:=.bool false) 7 26 R ?_ (hy:=fun w hSw=>by go_simp);simp only [oqA,oqB,oqC]
    refine .tq 8 27 R ?_;simp only [oqA,oqB,oqC]
    refine .sq 9 28 R ?_;simp only [oqA,oqB,oqC]
    refine .sq 10 29 R ?_;simp only [oqA,oqB,oqC]
    refine .sq 11 30 R ?_;simp only [oqA,oqB,oqC]
    refine .sq 12 31 R ?_;simp only [oqA,oqB,oqC]
    refine .sq 13 32 R ?_;simp only [oqA,oqB,oqC]
    refine .tq (v:=.bool false) 14 33 R ?_ (hy:=fun w hSw=>by go_simp);simp only [oqA,oqB,oqC]
    refine .tq 15 34 R ?_;simp only [oqA,oqB,oqC]
    refine .sq 16 35 R ?_;simp only [oqA,oqB,oqC]
    refine .sq 17 36 R ?_;simp only [oqA,oqB,oqC]
    refine .sq 18 37 R ?_;simp only [oqA,oqB,oqC]
    refine .sq 19 38 R ?_;simp only [oqA,oqB,oqC]
    refine .sq 20 39 R ?_;simp only [oqA,oqB,oqC]
    refine .sq 21 40 R ?_;simp only [oqA,oqB,oqC]
    refine .sq 22 41 R ?_;simp only [oqA,oqB,oqC]
    refine .sq 23 42 R ?_;simp only [oqA,oqB,oqC]
    refine .sq 24 43 R ?_;simp only [oqA,oqB,oqC]
    refine .sq 25 44 R ?_;simp only [oqA,oqB,oqC]
    refine .sq 26 45 R ?_;simp only [oqA,oqB,oqC]
    refine .sq 27 46 R ?_;simp only [oqA,oqB,oqC]
    refine .sq 28 47 R ?_;simp only [oqA,oqB,oqC]
    refine .sq 29 48 R ?_;simp only [oqA,oqB,oqC]
    refine .sq 30 49 R ?_;simp only [oqA,oqB,oqC]
    refine .sq 31 50 R ?_;simp only [oqA,oqB,oqC]
    refine .sq 32 51 R ?_;simp only [oqA,oqB,oqC]
    refine .tq (v:=.bool false) 33 52 R ?_ (hy:=fun w hSw=>by go_simp);simp only [oqA,oqB,oqC]
    refine AnyG.done (by kernel_rfl) ?_ _
    clear R X3 X4
    go_wp2
    go_roundw
    case rel=>exact ⟨j,b,by omega,by go_num,rfl,HX,P.out.trans (BD.out.mono P.out.size)⟩
    case measure=>simp [intOf]
theorem Tryz.info62:(Tryz.prog.info? 62).map (fun i=>(i.zero,i.size,i.bytes))=some (some (.agg #[.int .u64 0,.slice none 0 0]),2,32):=by kernel_rfl
abbrev lzZ:Lz:=(lnZ,.slice none 0 0)
theorem made2 (n:Nat):(madeCells (Value.cells (.agg #[.int .u64 0,.slice none 0 0])) (n*2)).toList=zCs (List.replicate n lzZ):=by
 apply List.ext_getElem?
 intro i
 have hz:Value.cells (.agg #[.int .u64 0,.slice none 0 0])=#[.int .u64 0,.slice none 0 0]:=by rfl
 rw [hz]
 rcases Nat.lt_or_ge i (n*2) with h | h
 ·have e1:i / 2*2+i % 2=i:=by omega
  have h2:i / 2<n:=by omega
  have:=zCs_at (List.replicate n lzZ) (i / 2) lzZ (by rw [List.getElem?_replicate,if_pos h2]) (i % 2) (by omega)
  rw [e1] at this
  rw [this]
  have h3:i % 2=0∨i % 2=1:=by omega
  rcases h3 with e | e <;> simp [madeCells,h,e,zC,lnZ]
 ·rw [List.getElem?_eq_none (by simp [madeCells];omega),List.getElem?_eq_none (by rw [zCs_len,List.length_replicate];exact h)]
def nwF (n:Nat):List Ln:=List.replicate n lnZ
theorem nwF_len (n:Nat):(nwF n).length=n:=List.length_replicate
theorem OwL.made {w:World} {base n g:Nat} (h:w.ownsRow base 62 2 (.slice (some ⟨g,0,none⟩) n n) n (madeCells (Value.cells (.agg #[.int .u64 0,.slice none 0 0])) (n*2)).toList):OwL w base (.slice (some ⟨g,0,none⟩) n n) (nwF n):=by
 rw [made2] at h
 refine ⟨List.replicate n lzZ,by simp [nwF],by rw [nwF_len];exact h,fun z hz=>?_⟩
 rw [(List.mem_replicate.1 hz).2]
 exact World.ownsRow_nil _ _ _ _
def CpI (w0 W:World) (g n k:Nat) (F:List Ln):Prop:=∃ Z:List Lz,Z.map Prod.fst=F.take k∧(∀ z∈Z,OwnT W (g+1) z.2 z.1.L)∧Blk W g 62 (zCs (Z++List.replicate (n - k) lzZ)).toArray∧Kept (fun j=>j=g) w0 W
theorem Blk.of_row {w:World} {base n g:Nat} {cs:List Value} (h:w.ownsRow base 62 2 (.slice (some ⟨g,0,none⟩) n n) n cs):Blk w g 62 cs.toArray:=by
 rcases h.2 with ⟨e,-⟩ | ⟨g',cap,cur,e,hb,hg,hc,hm,hs,ht⟩
 ·cases e
 ·obtain ⟨rfl,rfl⟩:g=g'∧n=cap:=by injection e with x1 x2 x3;injection x1 with x1;injection x1 with x1;exact ⟨x1,x3⟩
  unfold Blk
  rw [hg,← ht,List.take_of_length_le (by simp;omega)]
theorem CpI.start {w:World} {base n g:Nat} {F:List Ln} (h:w.ownsRow base 62 2 (.slice (some ⟨g,0,none⟩) n n) n (madeCells (Value.cells (.agg #[.int .u64 0,.slice none 0 0])) (n*2)).toList):CpI w w g n 0 F:=by
 rw [made2] at h
 exact ⟨[],by simp,(fun _ h=>by cases h),(by have:=Blk.of_row h;simpa using this),Kept.refl _ _⟩
theorem CpI.next {w0 W W':World} {g n k:Nat} {F:List Ln} (h:CpI w0 W g n k F) (hk:k<n) (hn:n=F.length) (b:Below W.heap.size W W') {v:Value} (o:OwnT W' (g+1) v (gl F k).L) :
  (W'.cell? ⟨g,k*2,none⟩=some (.int .u64 0)∧W'.cell? ⟨g,k*2+1,none⟩=some (.slice none 0 0)∧W'.frozen? ⟨g,k*2,none⟩=false∧W'.frozen? ⟨g,k*2+1,none⟩=false∧g<W'.heap.size)∧CpI w0 ((W'.setCell ⟨g,k*2,none⟩ (.int .u64 (gl F k).s)).setCell ⟨g,k*2+1,none⟩ v) g n (k+1) F:=by
 obtain ⟨Z,hZ,hz,hb,hk0⟩:=h
 have hl:Z.length=k:=by rw [←List.length_map (f:=Prod.fst),hZ,List.length_take];omega
 have hb':Blk W' g 62 (zCs (Z++List.replicate (n - k) lzZ)).toArray:=hb.kept (Kept.of_below b (fun _=>False)) id
 have hr:List.replicate (n - k) lzZ=lzZ :: List.replicate (n - (k+1)) lzZ:=by rw [show n - k=n - (k+1)+1 from by omega,List.replicate_succ]
 have hat:(Z++List.replicate (n - k) lzZ)[k]?=some lzZ:=by rw [hr,List.getElem?_append_right (by omega),hl];simp
 have hc:∀ j,j<2→W'.cell? ⟨g,k*2+j,none⟩=(zC lzZ)[j]?:=fun j hj=>by rw [hb'.cell,List.getElem?_toArray];exact zCs_at _ k _ hat j hj
 have K2:Kept (fun j=>j=g) W' ((W'.setCell ⟨g,k*2,none⟩ (.int .u64 (gl F k).s)).setCell ⟨g,k*2+1,none⟩ v):=((Kept.refl (fun j=>j=g) W').setCell _ _ (.inl rfl)).setCell _ _ (.inl rfl)
 refine ⟨⟨hc 0 (by decide),hc 1 (by decide),hb'.frozen _,hb'.frozen _,hb'.lt⟩,Z ++ [(gl F k,v)],?_,?_,?_,(hk0.trans (Kept.of_below b _)).trans K2⟩
 ·rw [List.map_append,hZ,List.take_add_one,gl_get (by omega)]
  rfl
 ·intro z hzm
  rcases List.mem_append.1 hzm with c | c
  ·exact ((hz z c).kept (Kept.of_below b (fun _=>False)) (fun _ _ h=>h)).kept K2 (fun j hj e=>by omega)
  ·rw [List.mem_singleton.1 c]
   exact o.kept K2 (fun j hj e=>by omega)
 ·have:=(hb'.set (k*2) (.int .u64 (gl F k).s)).set (k*2+1) v
  rw [List.setIfInBounds_toArray,List.setIfInBounds_toArray,zCs_set _ k _ v (gl F k) rfl (by simp;omega)] at this
  rw [hr,List.set_append_right _ _ (by omega),hl,Nat.sub_self,List.set_cons_zero] at this
  rw [List.append_assoc]
  exact this
theorem CpI.fin {w0 W:World} {g n:Nat} {F:List Ln} (h:CpI w0 W g n n F) (hn:n=F.length) (hm:n≤maxLen) {B:Nat} (hB:B≤g):OwL W B (.slice (some ⟨g,0,none⟩) n n) F:=by
 obtain ⟨Z,hZ,hz,hb,-⟩:=h
 rw [Nat.sub_self,List.replicate_zero,List.append_nil] at hb
 rw [hn,List.take_of_length_le (Nat.le_refl _)] at hZ
 have hl:Z.length=n:=by rw [←List.length_map (f:=Prod.fst),hZ,hn]
 refine ⟨Z,hZ,⟨by rw [zCs_len,hl,hn],.inr ⟨g,n,_,by rw [←hn],hB,hb,by omega,hm,by simp [zCs_len,hl],?_⟩⟩,fun z h=>(hz z h).low (by omega)⟩
 rw [List.take_of_length_le (by simp [zCs_len];omega)]
theorem wp_lzs {o:Oper} {a:Act} {w:World} {K:Act→World→Prop} {Q:Exit→Act→World→Prop} (s x:Operand)
  (ho:o.op=.call { callee:=.builtin .append,args:=#[s,x],argTypes:=#[29,29] })
  (B:Nat) (v:Value) (Z M:List Lz) (hs:a.eval s=v) (hown:w.ownsRow B 62 2 v Z.length (zCs Z)) (ad:Option Addr) (n c:Nat) (hn:M.length=n) (hx:a.eval x=.slice ad n c) (hc0:n≤c) (hc1:ad=none→c=0) (hrow:RowR w ad (zCs M)) (h1:∀ z∈M,∃ a n c,z.2=.slice a n c) (hb:Z.length+M.length≤5000) (hB:B≤w.heap.size)
  (h:∀ v' w',w'.ownsRow B 62 2 v' (Z.length+n) (zCs (Z++M))→w.grownBy w' v.ownBlock→K (a.put o.dst v') w'):o.wp Tryz.prog a w K Q:=by
 obtain ⟨i0,hi,hz0,hz1,hz2⟩:=info_parts Tryz.info62
 subst hn
 cases ad with
 | none =>
  have hc:=hc1 rfl
  have hM:M=[]:=List.eq_nil_of_length_eq_zero (by omega)
  subst hM
  subst hc
  have hrun:=run_append_owned_none (P:=Tryz.prog) (w:=w) B 29 o.type 62 i0 2 Tryz.underlying29 hi v Z.length (zCs Z) hown
  unfold Oper.wp
  simp only [List.length_nil] at hx
  simp [execOp,ho,resolve,invoke,builtin,hs,hx,hrun,Result.andThen]
  exact h v w (by rw [List.append_nil];exact hown) (grownBy_refl w _)
 | some ad =>
  refine wp_append_own w s x 29 ho B 62 i0 (.agg #[.int .u64 0,.slice none 0 0]) 2 32 Tryz.underlying29 hi hz0 hz1 hz2 rfl (by decide) v Z.length (zCs Z) hs hown ad M.length c (zCs M) hx (zCs_len M) hrow.cells (zCs_one h1) (by unfold maxLen;omega) (by omega) hB ?_
  intro v' w' h1 h2 _
  refine h v' w' ?_ h2
  rw [zCs_append]
  exact h1
theorem OwL.app {w w':World} {B:Nat} {v v':Value} {F:List Ln} {Z M:List Lz} (hZ:Z.map Prod.fst=F) (ho:w.ownsRow B 62 2 v Z.length (zCs Z)) (hz:∀ z∈Z,OwnT w B z.2 z.1.L) (hm:∀ z∈M,OwnT w B z.2 z.1.L)
  (h:w'.ownsRow B 62 2 v' (Z.length+M.length) (zCs (Z++M))) (g:w.grownBy w' v.ownBlock):OwL w' B v' (F++M.map Prod.fst):=by
 have K:Kept (fun k=>v.ownBlock=some k) w w':=Kept.of_grown g (fun k e=>e)
 have T:∀ z:Lz,OwnT w B z.2 z.1.L→OwnT w' B z.2 z.1.L:=fun z hz=>by
  refine ⟨hz.1,hz.2.imp id ?_⟩
  rintro ⟨b,cap,cur,e,hb,hg,r⟩
  refine ⟨b,cap,cur,e,hb,?_,r⟩
  have hlt:b<w.heap.size:=by
   rcases Nat.lt_or_ge b w.heap.size with h1 | h1
   ·exact h1
   ·rw [Array.getElem?_eq_none h1] at hg;cases hg
  rw [K.block b hlt (by
   intro e
   rcases ho.2 with ⟨rfl,-⟩ | ⟨q,cap',cur',rfl,hb',hg',-⟩
   ·cases e
   ·injection e with e
    have e:q=b:=e
    subst e
    rw [hg] at hg'
    injection hg' with hg'
    injection hg' with x1 x2 x3
    cases x2)]
  exact hg
 refine ⟨Z++M,by rw [List.map_append,hZ],?_,fun z h=>?_⟩
 ·have hl:Z.length=F.length:=by rw [←hZ,List.length_map]
  rw [List.length_append,List.length_map,← hl]
  exact h
 ·rcases List.mem_append.1 h with c | c
  ·exact T z (hz z c)
  ·exact T z (hm z c)
theorem wp_own {o:Oper} {a:Act} {w:World} {K:Act→World→Prop} {Q:Exit→Act→World→Prop} (s x:Operand)
  (ho:o.op=.call { callee:=.builtin .append,args:=#[s,x],argTypes:=#[29,29] })
  (B:Nat) (v:Value) (F:List Ln) (M:List Lz) (hs:a.eval s=v) (hown:OwL w B v F) (ad:Option Addr) (n c:Nat) (hn:M.length=n) (hx:a.eval x=.slice ad n c) (hc0:n≤c) (hc1:ad=none→c=0) (hrow:RowR w ad (zCs M)) (hm:∀ z∈M,OwnT w B z.2 z.1.L) (hb:F.length+M.length≤5000) (hB:B≤w.heap.size)
  (h:∀ v' w',OwL w' B v' (F++M.map Prod.fst)→w.grownBy w' v.ownBlock→K (a.put o.dst v') w'):o.wp Tryz.prog a w K Q:=by
 obtain ⟨Z,hZ,hr,hz⟩:=hown
 have hl:Z.length=F.length:=by rw [←hZ,List.length_map]
 rw [←hl] at hr
 refine wp_lzs s x ho B v Z M hs hr ad n c hn hx hc0 hc1 hrow (fun z h=>by obtain ⟨a,c,e,-⟩:=(hm z h).read;exact ⟨a,_,c,e⟩) (by omega) hB fun v' w' h1 h2=>h v' w' (OwL.app hZ hr hz hm (by rw [hn];exact h1) h2) h2
theorem wpl_own {ops:Array Oper} {rest:List Oper} {o:Oper} {a:Act} {w:World} {Q:Exit→Act→World→Prop} (hgd:o.guard=none) (s x:Operand)
  (ho:o.op=.call { callee:=.builtin .append,args:=#[s,x],argTypes:=#[29,29] })
  (B:Nat) (v:Value) (F:List Ln) (M:List Lz) (hs:a.eval s=v) (hown:OwL w B v F) (ad:Option Addr) (n c:Nat) (hn:M.length=n) (hx:a.eval x=.slice ad n c) (hc0:n≤c) (hc1:ad=none→c=0) (hrow:RowR w ad (zCs M)) (hm:∀ z∈M,OwnT w B z.2 z.1.L) (hb:F.length+M.length≤5000) (hB:B≤w.heap.size)
  (h:∀ v' w',OwL w' B v' (F++M.map Prod.fst)→w.grownBy w' v.ownBlock→wpList Tryz.prog ops Q rest (a.put o.dst v') w'):wpList Tryz.prog ops Q (o :: rest) a w :=
 wpList_plain hgd fun _ hK=>wp_own s x ho B v F M hs hown ad n c hn hx hc0 hc1 hrow hm hb hB fun v' w' h1 h2=>hK _ _ (h v' w' h1 h2)
theorem wpl_lzs {ops:Array Oper} {rest:List Oper} {o:Oper} {a:Act} {w:World} {Q:Exit→Act→World→Prop} (hgd:o.guard=none) (s x:Operand)
  (ho:o.op=.call { callee:=.builtin .append,args:=#[s,x],argTypes:=#[29,29] })
  (B:Nat) (v:Value) (Z M:List Lz) (hs:a.eval s=v) (hown:w.ownsRow B 62 2 v Z.length (zCs Z)) (ad:Option Addr) (n c:Nat) (hn:M.length=n) (hx:a.eval x=.slice ad n c) (hc0:n≤c) (hc1:ad=none→c=0) (hrow:RowR w ad (zCs M)) (h1:∀ z∈M,∃ a n c,z.2=.slice a n c) (hb:Z.length+M.length≤5000) (hB:B≤w.heap.size)
  (h:∀ v' w',w'.ownsRow B 62 2 v' (Z.length+n) (zCs (Z++M))→w.grownBy w' v.ownBlock→wpList Tryz.prog ops Q rest (a.put o.dst v') w'):wpList Tryz.prog ops Q (o :: rest) a w :=
 wpList_plain hgd fun _ hK=>wp_lzs s x ho B v Z M hs hown ad n c hn hx hc0 hc1 hrow h1 hb hB fun v' w' h1 h2=>hK _ _ (h v' w' h1 h2)
theorem OwL.lt {w:World} {B:Nat} {v:Value} {F:List Ln} (h:OwL w B v F):∀ q,v.ownBlock=some q→B≤q∧q<w.heap.size:=by
 obtain ⟨Z,-,hr,-⟩:=h
 exact hr.lt
theorem OwL.below {a w w':World} {B:Nat} {v:Value} {F:List Ln} (h:OwL w B v F) (hb:Below B a w) (hB:B≤w.heap.size) (g:w.grownBy w' v.ownBlock):Below B a w':=hb.grown g hB (fun q e=>(h.lt q e).1)
theorem OwL.nil (w:World) (B:Nat):OwL w B (.slice none 0 0) []:=⟨[],rfl,World.ownsRow_nil _ _ _ _,fun _ h=>by cases h⟩
theorem lane_row {w:World} {g:Nat} {s:Int} {v:Value} (h:Blk w g 62 (lnA s v)) (l:Ln) (hl:l.s=s):RowR w (some ⟨g,0,none⟩) (zCs [(l,v)]):=fun _=>⟨g,0,rfl,h.lt,fun j u hj=>by
 rw [Nat.zero_add,h.cell]
 subst hl
 simpa [zCs,zC,lnA] using hj⟩
end Go.Proofs.YtlgibnmoogbdcaaGreat
