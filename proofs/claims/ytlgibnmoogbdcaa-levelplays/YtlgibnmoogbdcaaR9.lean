/-
  Which lane of a hand is chosen, by the program.
  Which lane of a hand is chosen, by the reference.
  Lanes that are made, and copied.
-/
import Derived.Test.YtlgibnmoogbdcaaR8
namespace Go.Proofs.Ytlgibnmoogbdcaa
open Go.RowKit
def HnR (w:World) (a:Option Addr) (n:Nat) (H:Nat→Int):Prop:=0<n→∃ b off,a=some ⟨b,off,none⟩∧b<w.heap.size∧∀ k,k<n→w.cell? ⟨b,off+k,none⟩=some (.int .i64 (H k))
theorem HnR.carry {w w':World} {a:Option Addr} {n:Nat} {H:Nat→Int} (h:HnR w a n H) (b:Below w.heap.size w w'):HnR w' a n H:=fun hn=>by
 obtain ⟨q,off,rfl,hg,hc⟩:=h hn
 exact ⟨q,off,rfl,Nat.lt_of_lt_of_le hg b.size,fun k hk=>(b.cell (p:=⟨q,off+k,none⟩) hg).trans (hc k hk)⟩
def cS (F:List Ln) (b:Int):Int:=if b<0 then 0 else sW (gl F b.toNat)
theorem cS_yes {F:List Ln} {b:Int} (h:¬ b<0):cS F b=sW (gl F b.toNat):=if_neg h
theorem chF_yes {F:List Ln} {o:Int} {H:Nat→Int} {k:Nat} (h:Vld F o (H k)∧(chF F o H k<0∨sW (gl F (H k).toNat)<sW (gl F (chF F o H k).toNat))):chF F o H (k+1)=H k:=if_pos h
theorem chF_no {F:List Ln} {o:Int} {H:Nat→Int} {k:Nat} (h:¬ (Vld F o (H k)∧(chF F o H k<0∨sW (gl F (H k).toNat)<sW (gl F (chF F o H k).toNat)))):chF F o H (k+1)=chF F o H k:=if_neg h
theorem cS_nat (F:List Ln) (k:Nat):cS F (k:Int)=sW (gl F k):=by rw [cS_yes (by omega),Int.toNat_natCast]
set_option maxRecDepth 20000 in
set_option maxHeartbeats 1000000 in
theorem choose_ok (r g nn o:Int) (a:Option Addr) (c:Nat) (F:List Ln) (ah:Option Addr) (nh ch:Nat) (H0:Nat→Int) (w:World) (h:LsR w a c F) (hf:Few F) (hh:HnR w ah nh H0) (hnh:nh≤1000) :
  Calls Try.prog 91 #[.agg #[.int .u64 r,.int .i64 g,.int .i64 nn,.int .i64 o,.slice a F.length c],.slice ah nh ch] w fun e w'=>e=.returned (.int .i64 (chF F o H0 nh))∧Below w.heap.size w w':=by
 obtain ⟨w1,hw1⟩:∃ w1,w1=w.alloc (.cells #[.int .u64 r,.int .i64 g,.int .i64 nn,.int .i64 o,.slice a F.length c] 33):=⟨_,rfl⟩
 have B:Below w.heap.size w w1:=by rw [hw1];exact alloc_below _ _
 have N1:Blk w1 w.heap.size 33 (faA r g nn o (.slice a F.length c)):=by rw [hw1];exact Blk.new _ _ _
 have HF:Hd (Few F):=⟨hf⟩
 have hl:=hf.len
 obtain ⟨n,hn⟩:∃ n,F.length=n:=⟨_,rfl⟩
 have HL:Hd (F.length=n):=⟨hn⟩
 have H:Hd (LsR w1 a c F∧Below w.heap.size w w1∧Blk w1 w.heap.size 33 (faA r g nn o (.slice a n c))):=⟨h.carry B,B,by rw [←hn];exact N1⟩
 rw [hn] at hl hw1
 clear B N1 h hf
 obtain ⟨⟨c0,c1,c2,c3,c4⟩,-⟩:=H.out.2.2.fair
 have HH:Hd (HnR w1 ah nh H0):=⟨hh.carry H.out.2.1⟩
 obtain ⟨mo,hmo⟩:∃ mo,mo=min o (n:Int):=⟨_,rfl⟩
 have HMO:Hd (mo=min o (n:Int)):=⟨hmo⟩
 rw [hn]
 clear hn hh
 go_enter Try.func91,Try.ntmps91
 go_upto_region 1 with fail
 rw [←hw1]
 clear hw1
 obtain ⟨A,hA⟩:∃ A,A=w.heap.size:=⟨_,rfl⟩
 have HA:Hd (A=w.heap.size):=⟨hA⟩
 rw [←hA] at H c0 c1 c2 c3 c4 ⊢
 clear hA
 have hs1:A≤w1.heap.size:=by rw [HA.out];exact H.out.2.1.size
 go_upto_region 2 with fail
 rw [←hmo]
 clear hmo
 go_wp2
 clear c0 c1 c2 c3 c4
 go_loopw [6,7,19] (fun v6 v7 i wr=>∃ k:Nat,k≤nh∧v6=.int .i64 (chF F o H0 k)∧v7=.int .i64 (cS F (chF F o H0 k))∧i=.int .i64 k∧Below w1.heap.size w1 wr) (fun _ _ i _=>nh - (intOf i).toNat)
 case atStart=>exact ⟨0,Nat.zero_le _,rfl,rfl,rfl,Below.refl _ _⟩
 case round =>
  obtain ⟨k,hk,rfl,rfl,rfl,p3⟩:=hrel
  by_cases hlt:k<nh
  ·obtain ⟨bh,oh,rfl,hbh,hch⟩:=(HH.out.carry p3) (by omega)
   have hck:=hch k hlt
   have NA:=H.out.2.2.kept (Kept.of_below p3 (fun _=>False)) id
   obtain ⟨⟨x0,x1,x2,x3,x4⟩,-⟩:=NA.fair
   have P:Hd (Below w1.heap.size w1 wr):=⟨p3⟩
   have SR:Hd (LsR wr a c F):=⟨H.out.1.carry p3⟩
   have HV:Hd (Vld F o (H0 k) ↔ 0≤H0 k∧H0 k<mo):=⟨by rw [HMO.out];unfold Vld;rw [HL.out];constructor <;> intro h <;> omega⟩
   have HMN:mo≤n:=by rw [HMO.out];omega
   have HC0:Hd (¬ Vld F o (H0 k)→chF F o H0 (k+1)=chF F o H0 k):=⟨fun e=>chF_no (fun h=>e h.1)⟩
   have HC1:Hd (Vld F o (H0 k)→chF F o H0 k<0→chF F o H0 (k+1)=H0 k):=⟨fun e e2=>chF_yes ⟨e,.inl e2⟩⟩
   have HC2:Hd (Vld F o (H0 k)→¬ chF F o H0 k<0→sW (gl F (H0 k).toNat)<cS F (chF F o H0 k)→chF F o H0 (k+1)=H0 k):=⟨fun e e2 e3=>chF_yes ⟨e,.inr (by rw [cS_yes e2] at e3;exact e3)⟩⟩
   have HC3:Hd (¬ chF F o H0 k<0→¬ sW (gl F (H0 k).toNat)<cS F (chF F o H0 k)→chF F o H0 (k+1)=chF F o H0 k):=⟨fun e2 e3=>chF_no (fun h=>by rw [cS_yes e2] at e3;rcases h.2 with h | h;exact e2 h;exact e3 h)⟩
   obtain ⟨xl,hxl⟩:∃ xl,xl=cS F (chF F o H0 k):=⟨_,rfl⟩
   have HXL:Hd (xl=cS F (chF F o H0 k)):=⟨hxl⟩
   rw [←hxl] at HC2 HC3 ⊢
   obtain ⟨i,hi⟩:∃ i,i=H0 k:=⟨_,rfl⟩
   rw [←hi] at HC0 HC1 HC2 HC3 hck HV
   obtain ⟨xc,hxc⟩:∃ xc,xc=chF F o H0 k:=⟨_,rfl⟩
   have HXC:Hd (xc=chF F o H0 k):=⟨hxc⟩
   rw [←hxc] at HC0 HC1 HC2 HC3 ⊢
   clear p3 NA hch hi hxl hxc hbh
   by_cases e1:0≤i
   ·by_cases e2:i<mo
    ·have hv:=HV.out.2 ⟨e1,e2⟩
     obtain ⟨p,rfl⟩:∃ p:Nat,i=p:=⟨i.toNat,by omega⟩
     rw [Int.toNat_natCast] at HC2 HC3
     have hpn:p<n:=by omega
     obtain ⟨b1,o1,a1,c1,rfl,hb1,d0,d1,s1⟩:=SR.out.at (k:=p) (by rw [HL.out];exact hpn)
     have HK:=HF.out.at p
     have SE:=seats_ok (gl F p).s a1 c1 (gl F p).L wr s1.2.2 (by omega)
     have l3:=sW_lo (gl F p)
     have l4:=sW_hi HK.2
     have HS:Hd (cS F (p:Int)=sW (gl F p)):=⟨cS_nat F p⟩
     rw [show seatsTo (gl F p).L (gl F p).L.length=sW (gl F p) from rfl] at SE
     by_cases e3:xc<0
     ·have HX:Hd (chF F o H0 (k+1)=p):=⟨HC1.out hv e3⟩
      clear HC0 HC1 HC2 HC3 HV hv s1 SR HK hb1
      generalize sW (gl F p)=xs at *
      generalize (gl F p).L.length=m at *
      generalize (gl F p).s=z at *
      go_wp2_with (go_at_call 70;refine SE.mono ?_;rintro e w4 ⟨rfl,b4⟩;clear SE)
      go_roundw
      case rel=>exact ⟨k+1,by omega,by rw [HX.out],by rw [HX.out,HS.out],by go_num,P.out.trans (b4.mono P.out.size)⟩
      case measure=>simp [intOf];omega
     ·by_cases e4:sW (gl F p)<xl
      ·have HX:Hd (chF F o H0 (k+1)=p):=⟨HC2.out hv e3 e4⟩
       clear HC0 HC1 HC2 HC3 HV hv s1 SR HK hb1
       generalize sW (gl F p)=xs at *
       generalize (gl F p).L.length=m at *
       generalize (gl F p).s=z at *
       go_wp2_with (go_at_call 70;refine SE.mono ?_;rintro e w4 ⟨rfl,b4⟩;clear SE)
       go_roundw
       case rel=>exact ⟨k+1,by omega,by rw [HX.out],by rw [HX.out,HS.out],by go_num,P.out.trans (b4.mono P.out.size)⟩
       case measure=>simp [intOf];omega
      ·have HX:Hd (chF F o H0 (k+1)=xc):=⟨HC3.out e3 e4⟩
       clear HC0 HC1 HC2 HC3 HV hv s1 SR HK hb1
       generalize sW (gl F p)=xs at *
       generalize (gl F p).L.length=m at *
       generalize (gl F p).s=z at *
       go_wp2_with (go_at_call 70;refine SE.mono ?_;rintro e w4 ⟨rfl,b4⟩;clear SE)
       go_roundw
       case rel=>exact ⟨k+1,by omega,by rw [HX.out],by rw [HX.out,HXL.out,HXC.out],by go_num,P.out.trans (b4.mono P.out.size)⟩
       case measure=>simp [intOf];omega
    ·have HX:Hd (chF F o H0 (k+1)=xc):=⟨HC0.out (fun h=>e2 (HV.out.1 h).2)⟩
     clear HC0 HC1 HC2 HC3 HV SR
     go_wp2
     go_roundw
     case rel=>exact ⟨k+1,by omega,by rw [HX.out],by rw [HX.out,HXL.out,HXC.out],by go_num,P.out⟩
     case measure=>simp [intOf];omega
   ·have HX:Hd (chF F o H0 (k+1)=xc):=⟨HC0.out (fun h=>e1 (HV.out.1 h).1)⟩
    clear HC0 HC1 HC2 HC3 HV SR
    go_wp2
    go_roundw
    case rel=>exact ⟨k+1,by omega,by rw [HX.out],by rw [HX.out,HXL.out,HXC.out],by go_num,P.out⟩
    case measure=>simp [intOf];omega
  ·obtain rfl:k=nh:=by omega
   go_wp2
   go_ret
   exact ⟨rfl,by rw [←HA.out];exact H.out.2.1.trans (p3.mono hs1)⟩
set_option maxRecDepth 20000 in
set_option maxHeartbeats 2000000 in
theorem rchoose_ok (r g nn o:Int) (a:Option Addr) (c:Nat) (F:List Ln) (ah:Option Addr) (nh ch:Nat) (H0:Nat→Int) (w:World) (h:LsR w a c F) (hf:Few F) (hh:HnR w ah nh H0) (hnh:nh≤1000) :
  Calls Try.prog 81 #[.agg #[.int .u64 r,.int .i64 g,.int .i64 nn,.int .i64 o,.slice a F.length c],.slice ah nh ch] w fun e w'=>e=.returned (.int .i64 (chF F o H0 nh))∧Below w.heap.size w w':=by
 obtain ⟨w1,hw1⟩:∃ w1,w1=w.alloc (.cells #[.int .u64 r,.int .i64 g,.int .i64 nn,.int .i64 o,.slice a F.length c] 33):=⟨_,rfl⟩
 have B:Below w.heap.size w w1:=by rw [hw1];exact alloc_below _ _
 have N1:Blk w1 w.heap.size 33 (faA r g nn o (.slice a F.length c)):=by rw [hw1];exact Blk.new _ _ _
 have HF:Hd (Few F):=⟨hf⟩
 have hl:=hf.len
 obtain ⟨n,hn⟩:∃ n,F.length=n:=⟨_,rfl⟩
 have HL:Hd (F.length=n):=⟨hn⟩
 have H:Hd (LsR w1 a c F∧Below w.heap.size w w1∧Blk w1 w.heap.size 33 (faA r g nn o (.slice a n c))):=⟨h.carry B,B,by rw [←hn];exact N1⟩
 rw [hn] at hl hw1
 clear B N1 h hf
 obtain ⟨⟨c0,c1,c2,c3,c4⟩,-⟩:=H.out.2.2.fair
 have HH:Hd (HnR w1 ah nh H0):=⟨hh.carry H.out.2.1⟩
 have HX0:Hd (∀ b,IsC F o H0 0 nh b→b=chF F o H0 nh):=⟨fun b hb=>hb.uniq (chF_is F o H0 nh)⟩
 rw [hn]
 clear hn hh
 go_enter Try.func81,Try.ntmps81
 go_upto_region 1 with fail
 rw [←hw1]
 clear hw1
 obtain ⟨A,hA⟩:∃ A,A=w.heap.size:=⟨_,rfl⟩
 have HA:Hd (A=w.heap.size):=⟨hA⟩
 rw [←hA] at H c0 c1 c2 c3 c4 ⊢
 clear hA
 have hs1:A≤w1.heap.size:=by rw [HA.out];exact H.out.2.1.size
 go_wp2
 clear c0 c1 c2 c3 c4
 go_loopw [5,6] (fun v5 i wr=>∃ (q:Nat) (b:Int),q≤nh∧i=.int .i64 ((q:Int) - 1)∧v5=.int .i64 b∧Hd (IsC F o H0 q nh b)∧Below w1.heap.size w1 wr) (fun _ i _=>(intOf i+1).toNat)
 case atStart=>exact ⟨nh,-1,Nat.le_refl _,rfl,rfl,⟨.inl ⟨rfl,fun q h1 h2=>absurd h2 (by omega)⟩⟩,Below.refl _ _⟩
 case round =>
  obtain ⟨q,b,hq,rfl,rfl,HI,p3⟩:=hrel
  by_cases hq0:q=0
  ·subst hq0
   have HX:Hd (b=chF F o H0 nh):=⟨HX0.out b HI.out⟩
   clear HI
   go_wp2
   go_ret
   exact ⟨by rw [←HX.out];rfl,by rw [←HA.out];exact H.out.2.1.trans (p3.mono hs1)⟩
  ·obtain ⟨j,rfl⟩:∃ j,q=j+1:=⟨q - 1,by omega⟩
   rw [show ((j+1:Nat):Int) - 1=j by omega]
   have hjn:j<nh:=by omega
   obtain ⟨bh,oh,rfl,hbh,hch⟩:=(HH.out.carry p3) (by omega)
   have hck:=hch j hjn
   have NA:=H.out.2.2.kept (Kept.of_below p3 (fun _=>False)) id
   have BD:Hd (Below wr.heap.size wr wr.drew):=⟨(Below.refl _ _).drew⟩
   have P:Hd (Below w1.heap.size w1 wr):=⟨p3⟩
   have SR:Hd (LsR wr a c F):=⟨H.out.1.carry p3⟩
   have X3:Hd (∀ Y,Below wr.drew.heap.size wr.drew Y→Y.cell? ⟨A,3,none⟩=some (.int .i64 o)):=⟨fun Y q=>(NA.kept (Kept.of_below (BD.out.trans q) (fun _=>False)) id).cellv 3 rfl⟩
   have X4:Hd (∀ Y,Below wr.drew.heap.size wr.drew Y→Y.cell? ⟨A,4,none⟩=some (.slice a n c)):=⟨fun Y q=>(NA.kept (Kept.of_below (BD.out.trans q) (fun _=>False)) id).cellv 4 rfl⟩
   have HBK:=HI.out.back hjn
   have hbv:b=-1∨Vld F o b:=HI.out.rng
   rw [show Vld F o b=(0≤b∧b<o∧b<(F.length:Int)) from rfl,HL.out] at hbv
   have HV:Hd (Vld F o (H0 j) ↔ 0≤H0 j∧H0 j<o∧H0 j<(n:Int)):=⟨by unfold Vld;rw [HL.out]⟩
   obtain ⟨i,hi⟩:∃ i,i=H0 j:=⟨_,rfl⟩
   rw [←hi] at hck HV HBK
   clear p3 NA hch hi hbh HI
   by_cases e1:0≤i
   ·by_cases e2:i<o
    ·by_cases e3:i<(n:Int)
     ·have hv:=HV.out.2 ⟨e1,e2,e3⟩
      obtain ⟨p,rfl⟩:∃ p:Nat,i=p:=⟨i.toNat,by omega⟩
      have hpn:p<n:=by omega
      obtain ⟨b1,o1,a1,c1,rfl,hb1,d0,d1,s1⟩:=SR.out.at (k:=p) (by rw [HL.out];exact hpn)
      have HK:=HF.out.at p
      have XD:Hd (∀ Y,Below wr.drew.heap.size wr.drew Y→Y.cell? ⟨b1,o1+p*2,none⟩=some (.int .u64 (gl F p).s)∧Y.cell? ⟨b1,o1+p*2+1,none⟩=some (.slice a1 (gl F p).L.length c1)):=⟨fun Y q=>by
       have K:Kept (fun _=>False) wr Y:=Kept.of_below (BD.out.trans q) _
       exact ⟨(World.cell?_of_block (K.block b1 hb1 id)).trans d0,(World.cell?_of_block (K.block b1 hb1 id)).trans d1⟩⟩
      have CD:Hd (∀ Y,Below wr.drew.heap.size wr.drew Y→Calls Try.prog 98 #[.agg #[.int .u64 (gl F p).s,.slice a1 (gl F p).L.length c1]] Y fun e w'=>e=.returned (.int .i64 (sW (gl F p)))∧Below Y.heap.size Y w'):=⟨fun Y q=>rseats_ok (gl F p).s a1 c1 (gl F p).L Y (s1.carry (BD.out.trans q)).2.2 (by omega)⟩
      have l3:=sW_lo (gl F p)
      have l4:=sW_hi HK.2
      rw [Int.toNat_natCast] at HBK
      by_cases e4:b<0
      ·rw [if_pos ⟨hv,.inl e4⟩] at HBK
       have HX:Hd (IsC F o H0 j nh p):=⟨HBK⟩
       clear HBK HV hv s1 SR HK hb1 d0 d1 hbv
       generalize sW (gl F p)=xs at *
       generalize (gl F p).L.length=m at *
       generalize (gl F p).s=z at *
       go_upto_region 6 with fail
       refine AnyG.start (T:=fun Y=>Below wr.drew.heap.size wr.drew Y) (U:=fun _=>True) (j0:=100) (by kernel_rfl) ?_
       generalize wr.drew=w3 at *
       have R:Below w3.heap.size w3 w3:=Below.refl _ _
       refine .tq 0 19 R ?_;simp only [oqA,oqB,oqC]
       refine .tq (v:=.bool true) 1 20 R ?_ (hy:=fun w hSw=>by go_simp);simp only [oqA,oqB,oqC]
       refine .tq 2 21 R ?_;simp only [oqA,oqB,oqC]
       refine .tq 3 22 R ?_;simp only [oqA,oqB,oqC]
       refine .tq 4 23 R ?_;simp only [oqA,oqB,oqC]
       refine .tq 5 24 R ?_ (hy:=fun w hSw=>by have s:=X3.out w hSw;go_simp;rfl);simp only [oqA,oqB,oqC]
       refine .tq (v:=.bool true) 6 25 R ?_ (hy:=fun w hSw=>by go_simp);simp only [oqA,oqB,oqC]
       refine .tq (v:=.bool true) 7 26 R ?_ (hy:=fun w hSw=>by go_simp);simp only [oqA,oqB,oqC]
       refine .tq 8 27 R ?_;simp only [oqA,oqB,oqC]
       refine .tq 9 28 R ?_;simp only [oqA,oqB,oqC]
       refine .tq 10 29 R ?_;simp only [oqA,oqB,oqC]
       refine .tq 11 30 R ?_ (hy:=fun w hSw=>by have s:=X4.out w hSw;go_simp;rfl);simp only [oqA,oqB,oqC]
       refine .tq 12 31 R ?_;simp only [oqA,oqB,oqC]
       refine .tq (v:=.bool true) 13 32 R ?_ (hy:=fun w hSw=>by go_simp);simp only [oqA,oqB,oqC]
       refine .tq (v:=.bool true) 14 33 R ?_ (hy:=fun w hSw=>by go_simp);simp only [oqA,oqB,oqC]
       refine .tq 15 34 R ?_;simp only [oqA,oqB,oqC]
       refine .tq 16 35 R ?_;simp only [oqA,oqB,oqC]
       refine .tq (v:=.bool true) 17 36 R ?_ (hy:=fun w hSw=>by go_simp);simp only [oqA,oqB,oqC]
       refine .tq 18 37 R ?_;simp only [oqA,oqB,oqC]
       refine .sq 19 38 R ?_;simp only [oqA,oqB,oqC]
       refine .sq 20 39 R ?_;simp only [oqA,oqB,oqC]
       refine .sq 21 40 R ?_;simp only [oqA,oqB,oqC]
       refine .sq 22 41 R ?_;simp only [oqA,oqB,oqC]
       refine .sq 23 42 R ?_;simp only [oqA,oqB,oqC]
       refine .sq 24 43 R ?_;simp only [oqA,oqB,oqC]
       refine .sq 25 44 R ?_;simp only [oqA,oqB,oqC]
       refine .sq 26 45 R ?_;simp only [oqA,oqB,oqC]
       refine .sq 27 46 R ?_;simp only [oqA,oqB,oqC]
       refine .sq 28 47 R ?_;simp only [oqA,oqB,oqC]
       refine .sq 29 48 R ?_;simp only [oqA,oqB,oqC]
       refine .sq 30 49 R ?_;simp only [oqA,oqB,oqC]
       refine .sq 31 50 R ?_;simp only [oqA,oqB,oqC]
       refine .tq 32 51 R ?_;simp only [oqA,oqB,oqC]
       refine .tq (v:=.bool true) 33 52 R ?_ (hy:=fun w hSw=>by go_simp);simp only [oqA,oqB,oqC]
       refine AnyG.done (by kernel_rfl) ?_ _
       clear R X3 X4 XD CD
       go_wp2
       go_roundw
       case rel=>exact ⟨j,p,by omega,by go_num,rfl,HX,P.out.trans (BD.out.mono P.out.size)⟩
       case measure=>simp [intOf]
      ·obtain ⟨u,rfl⟩:∃ u:Nat,b=u:=⟨b.toNat,by omega⟩
       have hun:u<n:=by omega
       obtain ⟨b2,o2,a2,c2,e9,hb2,f0,f1,s2⟩:=SR.out.at (k:=u) (by rw [HL.out];exact hun)
       obtain ⟨rfl,rfl⟩:b1=b2∧o1=o2:=by injection e9 with e9;injection e9 with y1 y2;exact ⟨y1,y2⟩
       have HU:=HF.out.at u
       have XE:Hd (∀ Y,Below wr.drew.heap.size wr.drew Y→Y.cell? ⟨b1,o1+u*2,none⟩=some (.int .u64 (gl F u).s)∧Y.cell? ⟨b1,o1+u*2+1,none⟩=some (.slice a2 (gl F u).L.length c2)):=⟨fun Y q=>by
        have K:Kept (fun _=>False) wr Y:=Kept.of_below (BD.out.trans q) _
        exact ⟨(World.cell?_of_block (K.block b1 hb1 id)).trans f0,(World.cell?_of_block (K.block b1 hb1 id)).trans f1⟩⟩
       have CE:Hd (∀ Y,Below wr.drew.heap.size wr.drew Y→Calls Try.prog 98 #[.agg #[.int .u64 (gl F u).s,.slice a2 (gl F u).L.length c2]] Y fun e w'=>e=.returned (.int .i64 (sW (gl F u)))∧Below Y.heap.size Y w'):=⟨fun Y q=>rseats_ok (gl F u).s a2 c2 (gl F u).L Y (s2.carry (BD.out.trans q)).2.2 (by omega)⟩
       rw [Int.toNat_natCast] at HBK
       by_cases e5:sW (gl F p)≤sW (gl F u)
       ·rw [if_pos ⟨hv,.inr e5⟩] at HBK
        have HX:Hd (IsC F o H0 j nh p):=⟨HBK⟩
        clear HBK HV hv s1 s2 SR HK HU hb1 hb2 d0 d1 f0 f1 hbv e9
        generalize sW (gl F p)=xs at *
        generalize sW (gl F u)=xu at *
        generalize (gl F p).L.length=m at *
        generalize (gl F p).s=z at *
        generalize (gl F u).L.length=m2 at *
        generalize (gl F u).s=z2 at *
        go_upto_region 6 with fail
        refine AnyG.start (T:=fun Y=>Below wr.drew.heap.size wr.drew Y) (U:=fun _=>True) (j0:=100) (by kernel_rfl) ?_
        generalize wr.drew=w3 at *
        have R:Below w3.heap.size w3 w3:=Below.refl _ _
        refine .tq 0 19 R ?_;simp only [oqA,oqB,oqC]
        refine .tq (v:=.bool true) 1 20 R ?_ (hy:=fun w hSw=>by go_simp);simp only [oqA,oqB,oqC]
        refine .tq 2 21 R ?_;simp only [oqA,oqB,oqC]
        refine .tq 3 22 R ?_;simp only [oqA,oqB,oqC]
        refine .tq 4 23 R ?_;simp only [oqA,oqB,oqC]
        refine .tq 5 24 R ?_ (hy:=fun w hSw=>by have s:=X3.out w hSw;go_simp;rfl);simp only [oqA,oqB,oqC]
        refine .tq (v:=.bool true) 6 25 R ?_ (hy:=fun w hSw=>by go_simp);simp only [oqA,oqB,oqC]
        refine .tq (v:=.bool true) 7 26 R ?_ (hy:=fun w hSw=>by go_simp);simp only [oqA,oqB,oqC]
        refine .tq 8 27 R ?_;simp only [oqA,oqB,oqC]
        refine .tq 9 28 R ?_;simp only [oqA,oqB,oqC]
        refine .tq 10 29 R ?_;simp only [oqA,oqB,oqC]
        refine .tq 11 30 R ?_ (hy:=fun w hSw=>by have s:=X4.out w hSw;go_simp;rfl);simp only [oqA,oqB,oqC]
        refine .tq 12 31 R ?_;simp only [oqA,oqB,oqC]
        refine .tq (v:=.bool true) 13 32 R ?_ (hy:=fun w hSw=>by go_simp);simp only [oqA,oqB,oqC]
        refine .tq (v:=.bool true) 14 33 R ?_ (hy:=fun w hSw=>by go_simp);simp only [oqA,oqB,oqC]
        refine .tq 15 34 R ?_;simp only [oqA,oqB,oqC]
        refine .tq 16 35 R ?_;simp only [oqA,oqB,oqC]
        refine .tq (v:=.bool false) 17 36 R ?_ (hy:=fun w hSw=>by go_simp);simp only [oqA,oqB,oqC]
        refine .tq 18 37 R ?_;simp only [oqA,oqB,oqC]
        refine .tq 19 38 R ?_;simp only [oqA,oqB,oqC]
        refine .tq 20 39 R ?_ (hy:=fun w hSw=>by have s:=X4.out w hSw;go_simp;rfl);simp only [oqA,oqB,oqC]
        refine .tq 21 40 R ?_;simp only [oqA,oqB,oqC]
        refine .tq 22 41 R ?_;simp only [oqA,oqB,oqC]
        refine .tq 23 42 R ?_ (hy:=fun w hSw=>by have s:=XD.out w hSw;go_simp;rfl);simp only [oqA,oqB,oqC]
        refine .tq 25 44 R ?_;simp only [oqA,oqB,oqC]
        refine .tq 26 45 R ?_ (hy:=fun w hSw=>by have s:=X4.out w hSw;go_simp;rfl);simp only [oqA,oqB,oqC]
        refine .tq 27 46 R ?_;simp only [oqA,oqB,oqC]
        refine .tq 28 47 R ?_;simp only [oqA,oqB,oqC]
        refine .tq 29 48 R ?_ (hy:=fun w hSw=>by have s:=XE.out w hSw;go_simp;rfl);simp only [oqA,oqB,oqC]
        have SD:=CD.out w3 R
        refine AnyG.ready (rs:=[24]) (by kernel_rfl) (by simp) ?_
        refine AllG.cons rfl (fun K hK=>?_) AllG.nil
        go_simp
        refine SD.mono ?_
        rintro e w4 ⟨rfl,b4⟩
        refine hK.out _ _ ⟨b4,fun _=>trivial⟩ ?_
        clear hK K SD
        have SE:=CE.out w4 b4
        refine AnyG.ready (rs:=[30]) (by kernel_rfl) (by simp) ?_
        refine AllG.cons rfl (fun K hK=>?_) AllG.nil
        go_simp
        refine SE.mono ?_
        rintro e w5 ⟨rfl,b5⟩
        have b35:=b4.trans (b5.mono b4.size)
        refine hK.out _ _ ⟨b35,fun _=>trivial⟩ ?_
        clear hK K SE
        refine .tq (v:=.bool true) 31 50 b35 ?_ (hy:=fun w hSw=>by go_simp);simp only [oqA,oqB,oqC]
        refine .tq 32 51 b35 ?_;simp only [oqA,oqB,oqC]
        refine .tq (v:=.bool true) 33 52 b35 ?_ (hy:=fun w hSw=>by go_simp);simp only [oqA,oqB,oqC]
        refine AnyG.done (by kernel_rfl) ?_ _
        clear R X3 X4 XD XE CD CE
        go_wp2
        go_roundw
        case rel=>exact ⟨j,p,by omega,by go_num,rfl,HX,P.out.trans ((BD.out.trans (b35.mono BD.out.size)).mono P.out.size)⟩
        case measure=>simp [intOf]
       ·rw [if_neg (fun h=>by rcases h.2 with h | h;exact e4 h;exact e5 h)] at HBK
        have HX:Hd (IsC F o H0 j nh u):=⟨HBK⟩
        clear HBK HV hv s1 s2 SR HK HU hb1 hb2 d0 d1 f0 f1 hbv e9
        generalize sW (gl F p)=xs at *
        generalize sW (gl F u)=xu at *
        generalize (gl F p).L.length=m at *
        generalize (gl F p).s=z at *
        generalize (gl F u).L.length=m2 at *
        generalize (gl F u).s=z2 at *
        go_upto_region 6 with fail
        refine AnyG.start (T:=fun Y=>Below wr.drew.heap.size wr.drew Y) (U:=fun _=>True) (j0:=100) (by kernel_rfl) ?_
        generalize wr.drew=w3 at *
        have R:Below w3.heap.size w3 w3:=Below.refl _ _
        refine .tq 0 19 R ?_;simp only [oqA,oqB,oqC]
        refine .tq (v:=.bool true) 1 20 R ?_ (hy:=fun w hSw=>by go_simp);simp only [oqA,oqB,oqC]
        refine .tq 2 21 R ?_;simp only [oqA,oqB,oqC]
        refine .tq 3 22 R ?_;simp only [oqA,oqB,oqC]
        refine .tq 4 23 R ?_;simp only [oqA,oqB,oqC]
        refine .tq 5 24 R ?_ (hy:=fun w hSw=>by have s:=X3.out w hSw;go_simp;rfl);simp only [oqA,oqB,oqC]
        refine .tq (v:=.bool true) 6 25 R ?_ (hy:=fun w hSw=>by go_simp);simp only [oqA,oqB,oqC]
        refine .tq (v:=.bool true) 7 26 R ?_ (hy:=fun w hSw=>by go_simp);simp only [oqA,oqB,oqC]
        refine .tq 8 27 R ?_;simp only [oqA,oqB,oqC]
        refine .tq 9 28 R ?_;simp only [oqA,oqB,oqC]
        refine .tq 10 29 R ?_;simp only [oqA,oqB,oqC]
        refine .tq 11 30 R ?_ (hy:=fun w hSw=>by have s:=X4.out w hSw;go_simp;rfl);simp only [oqA,oqB,oqC]
        refine .tq 12 31 R ?_;simp only [oqA,oqB,oqC]
        refine .tq (v:=.bool true) 13 32 R ?_ (hy:=fun w hSw=>by go_simp);simp only [oqA,oqB,oqC]
        refine .tq (v:=.bool true) 14 33 R ?_ (hy:=fun w hSw=>by go_simp);simp only [oqA,oqB,oqC]
        refine .tq 15 34 R ?_;simp only [oqA,oqB,oqC]
        refine .tq 16 35 R ?_;simp only [oqA,oqB,oqC]
        refine .tq (v:=.bool false) 17 36 R ?_ (hy:=fun w hSw=>by go_simp);simp only [oqA,oqB,oqC]
        refine .tq 18 37 R ?_;simp only [oqA,oqB,oqC]
        refine .tq 19 38 R ?_;simp only [oqA,oqB,oqC]
        refine .tq 20 39 R ?_ (hy:=fun w hSw=>by have s:=X4.out w hSw;go_simp;rfl);simp only [oqA,oqB,oqC]
        refine .tq 21 40 R ?_;simp only [oqA,oqB,oqC]
        refine .tq 22 41 R ?_;simp only [oqA,oqB,oqC]
        refine .tq 23 42 R ?_ (hy:=fun w hSw=>by have s:=XD.out w hSw;go_simp;rfl);simp only [oqA,oqB,oqC]
        refine .tq 25 44 R ?_;simp only [oqA,oqB,oqC]
        refine .tq 26 45 R ?_ (hy:=fun w hSw=>by have s:=X4.out w hSw;go_simp;rfl);simp only [oqA,oqB,oqC]
        refine .tq 27 46 R ?_;simp only [oqA,oqB,oqC]
        refine .tq 28 47 R ?_;simp only [oqA,oqB,oqC]
        refine .tq 29 48 R ?_ (hy:=fun w hSw=>by have s:=XE.out w hSw;go_simp;rfl);simp only [oqA,oqB,oqC]
        have SD:=CD.out w3 R
        refine AnyG.ready (rs:=[24]) (by kernel_rfl) (by simp) ?_
        refine AllG.cons rfl (fun K hK=>?_) AllG.nil
        go_simp
        refine SD.mono ?_
        rintro e w4 ⟨rfl,b4⟩
        refine hK.out _ _ ⟨b4,fun _=>trivial⟩ ?_
        clear hK K SD
        have SE:=CE.out w4 b4
        refine AnyG.ready (rs:=[30]) (by kernel_rfl) (by simp) ?_
        refine AllG.cons rfl (fun K hK=>?_) AllG.nil
        go_simp
        refine SE.mono ?_
        rintro e w5 ⟨rfl,b5⟩
        have b35:=b4.trans (b5.mono b4.size)
        refine hK.out _ _ ⟨b35,fun _=>trivial⟩ ?_
        clear hK K SE
        refine .tq (v:=.bool false) 31 50 b35 ?_ (hy:=fun w hSw=>by go_simp);simp only [oqA,oqB,oqC]
        refine .tq 32 51 b35 ?_;simp only [oqA,oqB,oqC]
        refine .tq (v:=.bool false) 33 52 b35 ?_ (hy:=fun w hSw=>by go_simp);simp only [oqA,oqB,oqC]
        refine AnyG.done (by kernel_rfl) ?_ _
        clear R X3 X4 XD XE CD CE
        go_wp2
        go_roundw
        case rel=>exact ⟨j,u,by omega,by go_num,rfl,HX,P.out.trans ((BD.out.trans (b35.mono BD.out.size)).mono P.out.size)⟩
        case measure=>simp [intOf]
     ·rw [if_neg (fun h=>e3 (HV.out.1 h.1).2.2)] at HBK
      have HX:Hd (IsC F o H0 j nh b):=⟨HBK⟩
      clear HBK HV SR hbv
      go_upto_region 6 with fail
      refine AnyG.start (T:=fun Y=>Below wr.drew.heap.size wr.drew Y) (U:=fun _=>True) (j0:=100) (by kernel_rfl) ?_
      generalize wr.drew=w3 at *
      have R:Below w3.heap.size w3 w3:=Below.refl _ _
      refine .tq 0 19 R ?_;simp only [oqA,oqB,oqC]
      refine .tq (v:=.bool true) 1 20 R ?_ (hy:=fun w hSw=>by go_simp);simp only [oqA,oqB,oqC]
      refine .tq 2 21 R ?_;simp only [oqA,oqB,oqC]
      refine .tq 3 22 R ?_;simp only [oqA,oqB,oqC]
      refine .tq 4 23 R ?_;simp only [oqA,oqB,oqC]
      refine .tq 5 24 R ?_ (hy:=fun w hSw=>by have s:=X3.out w hSw;go_simp;rfl);simp only [oqA,oqB,oqC]
      refine .tq (v:=.bool true) 6 25 R ?_ (hy:=fun w hSw=>by go_simp);simp only [oqA,oqB,oqC]
      refine .tq (v:=.bool true) 7 26 R ?_ (hy:=fun w hSw=>by go_simp);simp only [oqA,oqB,oqC]
      refine .tq 8 27 R ?_;simp only [oqA,oqB,oqC]
      refine .tq 9 28 R ?_;simp only [oqA,oqB,oqC]
      refine .tq 10 29 R ?_;simp only [oqA,oqB,oqC]
      refine .tq 11 30 R ?_ (hy:=fun w hSw=>by have s:=X4.out w hSw;go_simp;rfl);simp only [oqA,oqB,oqC]
      refine .tq 12 31 R ?_;simp only [oqA,oqB,oqC]
      refine .tq (v:=.bool false) 13 32 R ?_ (hy:=fun w hSw=>by go_simp);simp only [oqA,oqB,oqC]
      refine .tq (v:=.bool false) 14 33 R ?_ (hy:=fun w hSw=>by go_simp);simp only [oqA,oqB,oqC]
      refine .tq 15 34 R ?_;simp only [oqA,oqB,oqC]
      refine .sq 16 35 R ?_;simp only [oqA,oqB,oqC]
      refine .sq 17 36 R ?_;simp only [oqA,oqB,oqC]
      refine .sq 18 37 R ?_;simp only [oqA,oqB,oqC]
      refine .sq 19 38 R ?_;simp only [oqA,oqB,oqC]
      refine .sq 20 39 R ?_;simp only [oqA,oqB,oqC]
      refine .sq 21 40 R ?_;simp only [oqA,oqB,oqC]
      refine .sq 22 41 R ?_;simp only [oqA,oqB,oqC]
      refine .sq 23 42 R ?_;simp only [oqA,oqB,oqC]
      refine .sq 24 43 R ?_;simp only [oqA,oqB,oqC]
      refine .sq 25 44 R ?_;simp only [oqA,oqB,oqC]
      refine .sq 26 45 R ?_;simp only [oqA,oqB,oqC]
      refine .sq 27 46 R ?_;simp only [oqA,oqB,oqC]
      refine .sq 28 47 R ?_;simp only [oqA,oqB,oqC]
      refine .sq 29 48 R ?_;simp only [oqA,oqB,oqC]
      refine .sq 30 49 R ?_;simp only [oqA,oqB,oqC]
      refine .sq 31 50 R ?_;simp only [oqA,oqB,oqC]
      refine .sq 32 51 R ?_;simp only [oqA,oqB,oqC]
      refine .tq (v:=.bool false) 33 52 R ?_ (hy:=fun w hSw=>by go_simp);simp only [oqA,oqB,oqC]
      refine AnyG.done (by kernel_rfl) ?_ _
      clear R X3 X4
      go_wp2
      go_roundw
      case rel=>exact ⟨j,b,by omega,by go_num,rfl,HX,P.out.trans (BD.out.mono P.out.size)⟩
      case measure=>simp [intOf]
    ·rw [if_neg (fun h=>e2 (HV.out.1 h.1).2.1)] at HBK
     have HX:Hd (IsC F o H0 j nh b):=⟨HBK⟩
     clear HBK HV SR hbv
     go_upto_region 6 with fail
     refine AnyG.start (T:=fun Y=>Below wr.drew.heap.size wr.drew Y) (U:=fun _=>True) (j0:=100) (by kernel_rfl) ?_
     generalize wr.drew=w3 at *
     have R:Below w3.heap.size w3 w3:=Below.refl _ _
     refine .tq 0 19 R ?_;simp only [oqA,oqB,oqC]
     refine .tq (v:=.bool true) 1 20 R ?_ (hy:=fun w hSw=>by go_simp);simp only [oqA,oqB,oqC]
     refine .tq 2 21 R ?_;simp only [oqA,oqB,oqC]
     refine .tq 3 22 R ?_;simp only [oqA,oqB,oqC]
     refine .tq 4 23 R ?_;simp only [oqA,oqB,oqC]
     refine .tq 5 24 R ?_ (hy:=fun w hSw=>by have s:=X3.out w hSw;go_simp;rfl);simp only [oqA,oqB,oqC]
     refine .tq (v:=.bool false) 6 25 R ?_ (hy:=fun w hSw=>by go_simp);simp only [oqA,oqB,oqC]
     refine .tq (v:=.bool false) 7 26 R ?_ (hy:=fun w hSw=>by go_simp);simp only [oqA,oqB,oqC]
     refine .tq 8 27 R ?_;simp only [oqA,oqB,oqC]
     refine .sq 9 28 R ?_;simp only [oqA,oqB,oqC]
     refine .sq 10 29 R ?_;simp only [oqA,oqB,oqC]
     refine .sq 11 30 R ?_;simp only [oqA,oqB,oqC]
     refine .sq 12 31 R ?_;simp only [oqA,oqB,oqC]
     refine .sq 13 32 R ?_;simp only [oqA,oqB,oqC]
     refine .tq (v:=.bool false) 14 33 R ?_ (hy:=fun w hSw=>by go_simp);simp only [oqA,oqB,oqC]
     refine .tq 15 34 R ?_;simp only [oqA,oqB,oqC]
     refine .sq 16 35 R ?_;simp only [oqA,oqB,oqC]
     refine .sq 17 36 R ?_;simp only [oqA,oqB,oqC]
     refine .sq 18 37 R ?_;simp only [oqA,oqB,oqC]
     refine .sq 19 38 R ?_;simp only [oqA,oqB,oqC]
     refine .sq 20 39 R ?_;simp only [oqA,oqB,oqC]
     refine .sq 21 40 R ?_;simp only [oqA,oqB,oqC]
     refine .sq 22 41 R ?_;simp only [oqA,oqB,oqC]
     refine .sq 23 42 R ?_;simp only [oqA,oqB,oqC]
     refine .sq 24 43 R ?_;simp only [oqA,oqB,oqC]
     refine .sq 25 44 R ?_;simp only [oqA,oqB,oqC]
     refine .sq 26 45 R ?_;simp only [oqA,oqB,oqC]
     refine .sq 27 46 R ?_;simp only [oqA,oqB,oqC]
     refine .sq 28 47 R ?_;simp only [oqA,oqB,oqC]
     refine .sq 29 48 R ?_;simp only [oqA,oqB,oqC]
     refine .sq 30 49 R ?_;simp only [oqA,oqB,oqC]
     refine .sq 31 50 R ?_;simp only [oqA,oqB,oqC]
     refine .sq 32 51 R ?_;simp only [oqA,oqB,oqC]
     refine .tq (v:=.bool false) 33 52 R ?_ (hy:=fun w hSw=>by go_simp);simp only [oqA,oqB,oqC]
     refine AnyG.done (by kernel_rfl) ?_ _
     clear R X3 X4
     go_wp2
     go_roundw
     case rel=>exact ⟨j,b,by omega,by go_num,rfl,HX,P.out.trans (BD.out.mono P.out.size)⟩
     case measure=>simp [intOf]
   ·rw [if_neg (fun h=>e1 (HV.out.1 h.1).1)] at HBK
    have HX:Hd (IsC F o H0 j nh b):=⟨HBK⟩
    clear HBK HV SR hbv
    go_upto_region 6 with fail
    refine AnyG.start (T:=fun Y=>Below wr.drew.heap.size wr.drew Y) (U:=fun _=>True) (j0:=100) (by kernel_rfl) ?_
    generalize wr.drew=w3 at *
    have R:Below w3.heap.size w3 w3:=Below.refl _ _
    refine .tq 0 19 R ?_;simp only [oqA,oqB,oqC]
    refine .tq (v:=.bool false) 1 20 R ?_ (hy:=fun w hSw=>by go_simp);simp only [oqA,oqB,oqC]
    refine .tq 2 21 R ?_;simp only [oqA,oqB,oqC]
    refine .sq 3 22 R ?_;simp only [oqA,oqB,oqC]
    refine .sq 4 23 R ?_;simp only [oqA,oqB,oqC]
    refine .sq 5 24 R ?_;simp only [oqA,oqB,oqC]
    refine .sq 6 25 R ?_;simp only [oqA,oqB,oqC]
    refine .tq (v:=.bool false) 7 26 R ?_ (hy:=fun w hSw=>by go_simp);simp only [oqA,oqB,oqC]
    refine .tq 8 27 R ?_;simp only [oqA,oqB,oqC]
    refine .sq 9 28 R ?_;simp only [oqA,oqB,oqC]
    refine .sq 10 29 R ?_;simp only [oqA,oqB,oqC]
    refine .sq 11 30 R ?_;simp only [oqA,oqB,oqC]
    refine .sq 12 31 R ?_;simp only [oqA,oqB,oqC]
    refine .sq 13 32 R ?_;simp only [oqA,oqB,oqC]
    refine .tq (v:=.bool false) 14 33 R ?_ (hy:=fun w hSw=>by go_simp);simp only [oqA,oqB,oqC]
    refine .tq 15 34 R ?_;simp only [oqA,oqB,oqC]
    refine .sq 16 35 R ?_;simp only [oqA,oqB,oqC]
    refine .sq 17 36 R ?_;simp only [oqA,oqB,oqC]
    refine .sq 18 37 R ?_;simp only [oqA,oqB,oqC]
    refine .sq 19 38 R ?_;simp only [oqA,oqB,oqC]
    refine .sq 20 39 R ?_;simp only [oqA,oqB,oqC]
    refine .sq 21 40 R ?_;simp only [oqA,oqB,oqC]
    refine .sq 22 41 R ?_;simp only [oqA,oqB,oqC]
    refine .sq 23 42 R ?_;simp only [oqA,oqB,oqC]
    refine .sq 24 43 R ?_;simp only [oqA,oqB,oqC]
    refine .sq 25 44 R ?_;simp only [oqA,oqB,oqC]
    refine .sq 26 45 R ?_;simp only [oqA,oqB,oqC]
    refine .sq 27 46 R ?_;simp only [oqA,oqB,oqC]
    refine .sq 28 47 R ?_;simp only [oqA,oqB,oqC]
    refine .sq 29 48 R ?_;simp only [oqA,oqB,oqC]
    refine .sq 30 49 R ?_;simp only [oqA,oqB,oqC]
    refine .sq 31 50 R ?_;simp only [oqA,oqB,oqC]
    refine .sq 32 51 R ?_;simp only [oqA,oqB,oqC]
    refine .tq (v:=.bool false) 33 52 R ?_ (hy:=fun w hSw=>by go_simp);simp only [oqA,oqB,oqC]
    refine AnyG.done (by kernel_rfl) ?_ _
    clear R X3 X4
    go_wp2
    go_roundw
    case rel=>exact ⟨j,b,by omega,by go_num,rfl,HX,P.out.trans (BD.out.mono P.out.size)⟩
    case measure=>simp [intOf]
theorem Try.info55:(Try.prog.info? 55).map (fun i=>(i.zero,i.size,i.bytes))=some (some (.agg #[.int .u64 0,.slice none 0 0]),2,32):=by kernel_rfl
abbrev lzZ:Lz:=(lnZ,.slice none 0 0)
theorem made2 (n:Nat):(madeCells (Value.cells (.agg #[.int .u64 0,.slice none 0 0])) (n*2)).toList=zCs (List.replicate n lzZ):=by
 apply List.ext_getElem?
 intro i
 have hz:Value.cells (.agg #[.int .u64 0,.slice none 0 0])=#[.int .u64 0,.slice none 0 0]:=by rfl
 rw [hz]
 rcases Nat.lt_or_ge i (n*2) with h | h
 ·have e1:i / 2*2+i % 2=i:=by omega
  have h2:i / 2<n:=by omega
  have:=zCs_at (List.replicate n lzZ) (i / 2) lzZ (by rw [List.getElem?_replicate,if_pos h2]) (i % 2) (by omega)
  rw [e1] at this
  rw [this]
  have h3:i % 2=0∨i % 2=1:=by omega
  rcases h3 with e | e <;> simp [madeCells,h,e,zC,lnZ]
 ·rw [List.getElem?_eq_none (by simp [madeCells];omega),List.getElem?_eq_none (by rw [zCs_len,List.length_replicate];exact h)]
def nwF (n:Nat):List Ln:=List.replicate n lnZ
theorem nwF_len (n:Nat):(nwF n).length=n:=List.length_replicate
theorem OwL.made {w:World} {base n g:Nat} (h:w.ownsRow base 55 2 (.slice (some ⟨g,0,none⟩) n n) n (madeCells (Value.cells (.agg #[.int .u64 0,.slice none 0 0])) (n*2)).toList):OwL w base (.slice (some ⟨g,0,none⟩) n n) (nwF n):=by
 rw [made2] at h
 refine ⟨List.replicate n lzZ,by simp [nwF],by rw [nwF_len];exact h,fun z hz=>?_⟩
 rw [(List.mem_replicate.1 hz).2]
 exact World.ownsRow_nil _ _ _ _
def CpI (w0 W:World) (g n k:Nat) (F:List Ln):Prop:=∃ Z:List Lz,Z.map Prod.fst=F.take k∧(∀ z∈Z,OwnT W (g+1) z.2 z.1.L)∧Blk W g 55 (zCs (Z++List.replicate (n - k) lzZ)).toArray∧Kept (fun j=>j=g) w0 W
theorem Blk.of_row {w:World} {base n g:Nat} {cs:List Value} (h:w.ownsRow base 55 2 (.slice (some ⟨g,0,none⟩) n n) n cs):Blk w g 55 cs.toArray:=by
 rcases h.2 with ⟨e,-⟩ | ⟨g',cap,cur,e,hb,hg,hc,hm,hs,ht⟩
 ·cases e
 ·obtain ⟨rfl,rfl⟩:g=g'∧n=cap:=by injection e with x1 x2 x3;injection x1 with x1;injection x1 with x1;exact ⟨x1,x3⟩
  unfold Blk
  rw [hg,← ht,List.take_of_length_le (by simp;omega)]
theorem CpI.start {w:World} {base n g:Nat} {F:List Ln} (h:w.ownsRow base 55 2 (.slice (some ⟨g,0,none⟩) n n) n (madeCells (Value.cells (.agg #[.int .u64 0,.slice none 0 0])) (n*2)).toList):CpI w w g n 0 F:=by
 rw [made2] at h
 exact ⟨[],by simp,(fun _ h=>by cases h),(by have:=Blk.of_row h;simpa using this),Kept.refl _ _⟩
theorem CpI.next {w0 W W':World} {g n k:Nat} {F:List Ln} (h:CpI w0 W g n k F) (hk:k<n) (hn:n=F.length) (b:Below W.heap.size W W') {v:Value} (o:OwnT W' (g+1) v (gl F k).L) :
  (W'.cell? ⟨g,k*2,none⟩=some (.int .u64 0)∧W'.cell? ⟨g,k*2+1,none⟩=some (.slice none 0 0)∧W'.frozen? ⟨g,k*2,none⟩=false∧W'.frozen? ⟨g,k*2+1,none⟩=false∧g<W'.heap.size)∧CpI w0 ((W'.setCell ⟨g,k*2,none⟩ (.int .u64 (gl F k).s)).setCell ⟨g,k*2+1,none⟩ v) g n (k+1) F:=by
 obtain ⟨Z,hZ,hz,hb,hk0⟩:=h
 have hl:Z.length=k:=by rw [←List.length_map (f:=Prod.fst),hZ,List.length_take];omega
 have hb':Blk W' g 55 (zCs (Z++List.replicate (n - k) lzZ)).toArray:=hb.kept (Kept.of_below b (fun _=>False)) id
 have hr:List.replicate (n - k) lzZ=lzZ :: List.replicate (n - (k+1)) lzZ:=by rw [show n - k=n - (k+1)+1 from by omega,List.replicate_succ]
 have hat:(Z++List.replicate (n - k) lzZ)[k]?=some lzZ:=by rw [hr,List.getElem?_append_right (by omega),hl];simp
 have hc:∀ j,j<2→W'.cell? ⟨g,k*2+j,none⟩=(zC lzZ)[j]?:=fun j hj=>by rw [hb'.cell,List.getElem?_toArray];exact zCs_at _ k _ hat j hj
 have K2:Kept (fun j=>j=g) W' ((W'.setCell ⟨g,k*2,none⟩ (.int .u64 (gl F k).s)).setCell ⟨g,k*2+1,none⟩ v):=((Kept.refl (fun j=>j=g) W').setCell _ _ (.inl rfl)).setCell _ _ (.inl rfl)
 refine ⟨⟨hc 0 (by decide),hc 1 (by decide),hb'.frozen _,hb'.frozen _,hb'.lt⟩,Z ++ [(gl F k,v)],?_,?_,?_,(hk0.trans (Kept.of_below b _)).trans K2⟩
 ·rw [List.map_append,hZ,List.take_add_one,gl_get (by omega)]
  rfl
 ·intro z hzm
  rcases List.mem_append.1 hzm with c | c
  ·exact ((hz z c).kept (Kept.of_below b (fun _=>False)) (fun _ _ h=>h)).kept K2 (fun j hj e=>by omega)
  ·rw [List.mem_singleton.1 c]
   exact o.kept K2 (fun j hj e=>by omega)
 ·have:=(hb'.set (k*2) (.int .u64 (gl F k).s)).set (k*2+1) v
  rw [List.setIfInBounds_toArray,List.setIfInBounds_toArray,zCs_set _ k _ v (gl F k) rfl (by simp;omega)] at this
  rw [hr,List.set_append_right _ _ (by omega),hl,Nat.sub_self,List.set_cons_zero] at this
  rw [List.append_assoc]
  exact this
theorem CpI.fin {w0 W:World} {g n:Nat} {F:List Ln} (h:CpI w0 W g n n F) (hn:n=F.length) (hm:n≤maxLen) {B:Nat} (hB:B≤g):OwL W B (.slice (some ⟨g,0,none⟩) n n) F:=by
 obtain ⟨Z,hZ,hz,hb,-⟩:=h
 rw [Nat.sub_self,List.replicate_zero,List.append_nil] at hb
 rw [hn,List.take_of_length_le (Nat.le_refl _)] at hZ
 have hl:Z.length=n:=by rw [←List.length_map (f:=Prod.fst),hZ,hn]
 refine ⟨Z,hZ,⟨by rw [zCs_len,hl,hn],.inr ⟨g,n,_,by rw [←hn],hB,hb,by omega,hm,by simp [zCs_len,hl],?_⟩⟩,fun z h=>(hz z h).low (by omega)⟩
 rw [List.take_of_length_le (by simp [zCs_len];omega)]
end Go.Proofs.Ytlgibnmoogbdcaa
