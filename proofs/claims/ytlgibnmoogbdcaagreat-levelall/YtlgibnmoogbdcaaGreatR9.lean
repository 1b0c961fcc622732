/-
  How many wait, how many seats, and whether lanes are small, by the program and by the reference.
  Which lane of a hand is chosen, by the program.
-/
import Derived.Test.YtlgibnmoogbdcaaGreatR8
namespace Go.Proofs.YtlgibnmoogbdcaaGreat
open Go.RowKit
set_option maxHeartbeats 400000 in
theorem within_ok (n m:Int) (w:World):Calls Tryz.prog 71 #[.int .i64 n,.int .i64 m] w fun e w'=>e=.returned (.bool (decide (1≤n∧n≤m)))∧w'=w:=by
 by_cases h1:1≤n
 ·by_cases h2:n≤m
  ·have e:Hd (decide (1≤n∧n≤m)=true):=⟨decide_eq_true ⟨h1,h2⟩⟩
   generalize decide (1≤n∧n≤m)=b at *
   go_enter Tryz.func71,Tryz.ntmps71
   go_wp2
   go_ret
   exact ⟨by rw [e.out];rfl,rfl⟩
  ·have e:Hd (decide (1≤n∧n≤m)=false):=⟨decide_eq_false (fun h=>h2 h.2)⟩
   generalize decide (1≤n∧n≤m)=b at *
   go_enter Tryz.func71,Tryz.ntmps71
   go_wp2
   go_ret
   exact ⟨by rw [e.out];rfl,rfl⟩
 ·have e:Hd (decide (1≤n∧n≤m)=false):=⟨decide_eq_false (fun h=>h1 h.1)⟩
  generalize decide (1≤n∧n≤m)=b at *
  go_enter Tryz.func71,Tryz.ntmps71
  go_wp2
  go_ret
  exact ⟨by rw [e.out];rfl,rfl⟩
set_option maxRecDepth 20000 in
set_option maxHeartbeats 1000000 in
theorem waiting_ok (r g nn o:Int) (a:Option Addr) (c:Nat) (F:List Ln) (w:World) (h:LsR w a c F) (hf:Few F) :
  Calls Tryz.prog 34 #[.agg #[.int .u64 r,.int .i64 g,.int .i64 nn,.int .i64 o,.slice a F.length c]] w fun e w'=>e=.returned (.int .i64 (wtT F F.length))∧Below w.heap.size w w':=by
 obtain ⟨w1,hw1⟩:∃ w1,w1=w.alloc (.cells #[.int .u64 r,.int .i64 g,.int .i64 nn,.int .i64 o,.slice a F.length c] 31):=⟨_,rfl⟩
 have B:Below w.heap.size w w1:=by rw [hw1];exact alloc_below _ _
 have N1:Blk w1 w.heap.size 31 (faA r g nn o (.slice a F.length c)):=by rw [hw1];exact Blk.new _ _ _
 obtain ⟨⟨c0,c1,c2,c3,c4⟩,-⟩:=N1.fair
 have H:Hd (LsR w1 a c F∧Below w.heap.size w w1):=⟨h.carry B,B⟩
 have HF:Hd (Few F):=⟨hf⟩
 have hl:=hf.len
 obtain ⟨n,hn⟩:∃ n,F.length=n:=⟨_,rfl⟩
 have HL:Hd (F.length=n):=⟨hn⟩
 rw [hn] at hl c4 hw1 ⊢
 clear hn N1 B h hf
 go_enter Tryz.func34,Tryz.ntmps34
 go_upto_region 1 with fail
 rw [←hw1]
 clear hw1
 go_wp2
 clear c0 c1 c2 c3 c4
 go_loopw [3,9] (fun v i wr=>∃ k:Nat,k≤n∧v=.int .i64 (wtT F k)∧i=.int .i64 k∧Below w1.heap.size w1 wr) (fun _ i _=>n - (intOf i).toNat)
 case atStart=>exact ⟨0,Nat.zero_le _,rfl,rfl,Below.refl _ _⟩
 case round =>
  obtain ⟨k,hk,rfl,rfl,p3⟩:=hrel
  by_cases hlt:k<n
  ·obtain ⟨b1,o1,a1,c1,rfl,hb1,d0,d1,s1⟩:=(H.out.1.carry p3).at (k:=k) (by rw [HL.out];exact hlt)
   have l1:=wtT_lo F k
   have l2:=wtT_hi HF.out k
   have P:Hd (Below w1.heap.size w1 wr):=⟨p3⟩
   have HK:=(HF.out.at k).2
   have HE:Hd (wtT F (k+1)=wtT F k+((gl F k).L.length:Nat)):=⟨rfl⟩
   clear p3 s1
   generalize wtT F k=y at *
   generalize (gl F k).L.length=m at *
   generalize (gl F k).s=z at *
   go_wp2
   go_roundw
   case rel=>exact ⟨k+1,by omega,by rw [HE.out],by go_num,P.out.alloc P.out.size _⟩
   case measure=>simp [intOf];omega
  ·obtain rfl:k=n:=by omega
   go_wp2
   go_ret
   exact ⟨rfl,H.out.2.trans (p3.mono H.out.2.size)⟩
set_option maxRecDepth 20000 in
set_option maxHeartbeats 1000000 in
theorem seatsF_ok (r g nn o:Int) (a:Option Addr) (c:Nat) (F:List Ln) (w:World) (h:LsR w a c F) (hf:Few F) :
  Calls Tryz.prog 62 #[.agg #[.int .u64 r,.int .i64 g,.int .i64 nn,.int .i64 o,.slice a F.length c]] w fun e w'=>e=.returned (.int .i64 (stT F F.length))∧Below w.heap.size w w':=by
 obtain ⟨w1,hw1⟩:∃ w1,w1=w.alloc (.cells #[.int .u64 r,.int .i64 g,.int .i64 nn,.int .i64 o,.slice a F.length c] 31):=⟨_,rfl⟩
 have B:Below w.heap.size w w1:=by rw [hw1];exact alloc_below _ _
 have N1:Blk w1 w.heap.size 31 (faA r g nn o (.slice a F.length c)):=by rw [hw1];exact Blk.new _ _ _
 obtain ⟨⟨c0,c1,c2,c3,c4⟩,-⟩:=N1.fair
 have H:Hd (LsR w1 a c F∧Below w.heap.size w w1):=⟨h.carry B,B⟩
 have HF:Hd (Few F):=⟨hf⟩
 have hl:=hf.len
 obtain ⟨n,hn⟩:∃ n,F.length=n:=⟨_,rfl⟩
 have HL:Hd (F.length=n):=⟨hn⟩
 rw [hn] at hl c4 hw1 ⊢
 clear hn N1 B h hf
 go_enter Tryz.func62,Tryz.ntmps62
 go_upto_region 1 with fail
 rw [←hw1]
 clear hw1
 go_wp2
 clear c0 c1 c2 c3 c4
 go_loopw [3,9] (fun v i wr=>∃ k:Nat,k≤n∧v=.int .i64 (stT F k)∧i=.int .i64 k∧Below w1.heap.size w1 wr) (fun _ i _=>n - (intOf i).toNat)
 case atStart=>exact ⟨0,Nat.zero_le _,rfl,rfl,Below.refl _ _⟩
 case round =>
  obtain ⟨k,hk,rfl,rfl,p3⟩:=hrel
  by_cases hlt:k<n
  ·obtain ⟨b1,o1,a1,c1,rfl,hb1,d0,d1,s1⟩:=(H.out.1.carry p3).at (k:=k) (by rw [HL.out];exact hlt)
   have l1:=stT_lo F k
   have l2:=stT_hi HF.out k
   have P:Hd (Below w1.heap.size w1 wr):=⟨p3⟩
   have HK:=(HF.out.at k).2
   have l3:=sW_lo (gl F k)
   have l4:=sW_hi HK
   have HE:Hd (stT F (k+1)=stT F k+sW (gl F k)):=⟨rfl⟩
   have W:Hd (∀ W,Below wr.heap.size wr W→Calls Tryz.prog 85 #[.agg #[.int .u64 (gl F k).s,.slice a1 (gl F k).L.length c1]] W fun e w'=>e=.returned (.int .i64 (sW (gl F k)))∧Below W.heap.size W w'):=⟨fun W q=>seats_ok _ _ _ _ W (s1.carry q).2.2 (by omega)⟩
   have BW:Hd (∀ cs,Below wr.heap.size wr (wr.alloc (.cells cs 62))):=⟨fun cs=>alloc_below _ _⟩
   clear p3 s1 HK
   generalize sW (gl F k)=x at *
   generalize stT F k=y at *
   generalize (gl F k).L.length=m at *
   generalize (gl F k).s=z at *
   go_wp2_with (go_at_call 85;refine (W.out _ (BW.out _)).mono ?_;rintro e w4 ⟨rfl,b4⟩)
   go_roundw
   case rel=>exact ⟨k+1,by omega,by rw [HE.out],by go_num,(P.out.alloc P.out.size _).trans (b4.mono (P.out.alloc P.out.size _).size)⟩
   case measure=>simp [intOf];omega
  ·obtain rfl:k=n:=by omega
   go_wp2
   go_ret
   exact ⟨rfl,H.out.2.trans (p3.mono H.out.2.size)⟩
set_option maxRecDepth 20000 in
set_option maxHeartbeats 1000000 in
theorem rwaiting_ok (r g nn o:Int) (a:Option Addr) (c:Nat) (F:List Ln) (w:World) (h:LsR w a c F) (hf:Few F) :
  Calls Tryz.prog 31 #[.agg #[.int .u64 r,.int .i64 g,.int .i64 nn,.int .i64 o,.slice a F.length c]] w fun e w'=>e=.returned (.int .i64 (wtT F F.length))∧Below w.heap.size w w':=by
 obtain ⟨w1,hw1⟩:∃ w1,w1=w.alloc (.cells #[.int .u64 r,.int .i64 g,.int .i64 nn,.int .i64 o,.slice a F.length c] 31):=⟨_,rfl⟩
 have B:Below w.heap.size w w1:=by rw [hw1];exact alloc_below _ _
 have N1:Blk w1 w.heap.size 31 (faA r g nn o (.slice a F.length c)):=by rw [hw1];exact Blk.new _ _ _
 obtain ⟨⟨c0,c1,c2,c3,c4⟩,-⟩:=N1.fair
 have H:Hd (LsR w1 a c F∧Below w.heap.size w w1):=⟨h.carry B,B⟩
 have HF:Hd (Few F):=⟨hf⟩
 have hl:=hf.len
 obtain ⟨n,hn⟩:∃ n,F.length=n:=⟨_,rfl⟩
 have HL:Hd (F.length=n):=⟨hn⟩
 rw [hn] at hl hw1 ⊢
 have HA:Hd (Blk w1 w.heap.size 31 (faA r g nn o (.slice a n c))):=⟨by rw [←hn];exact N1⟩
 clear hn N1 B h hf c0 c1 c2 c3 c4
 go_enter Tryz.func31,Tryz.ntmps31
 go_upto_region 1 with fail
 rw [←hw1]
 clear hw1
 obtain ⟨A,hA⟩:∃ A,A=w.heap.size:=⟨_,rfl⟩
 rw [←hA] at HA ⊢
 clear hA
 go_wp2
 go_loopw [3,4] (fun v i wr=>∃ k:Nat,k≤n∧v=.int .i64 (wtT F k)∧i=.int .i64 k∧Below w1.heap.size w1 wr) (fun _ i _=>n - (intOf i).toNat)
 case atStart=>exact ⟨0,Nat.zero_le _,rfl,rfl,Below.refl _ _⟩
 case round =>
  obtain ⟨k,hk,rfl,rfl,p3⟩:=hrel
  have NA:Blk wr A 31 (faA r g nn o (.slice a n c)):=HA.out.kept (Kept.of_below p3 (fun _=>False)) id
  obtain ⟨⟨-,-,-,-,c4⟩,-⟩:=NA.fair
  clear NA
  by_cases hlt:k<n
  ·obtain ⟨b1,o1,a1,c1,rfl,hb1,d0,d1,s1⟩:=(H.out.1.carry p3).at (k:=k) (by rw [HL.out];exact hlt)
   have l1:=wtT_lo F k
   have l2:=wtT_hi HF.out k
   have P:Hd (Below w1.heap.size w1 wr):=⟨p3⟩
   have HK:=(HF.out.at k).2
   have HE:Hd (wtT F (k+1)=wtT F k+((gl F k).L.length:Nat)):=⟨rfl⟩
   clear p3 s1
   generalize wtT F k=y at *
   generalize (gl F k).L.length=m at *
   generalize (gl F k).s=z at *
   go_wp2
   go_roundw
   case rel=>exact ⟨k+1,by omega,by rw [HE.out],by go_num,P.out⟩
   case measure=>simp [intOf];omega
  ·obtain rfl:k=n:=by omega
   go_wp2
   go_ret
   exact ⟨rfl,H.out.2.trans (p3.mono H.out.2.size)⟩
def HnR (w:World) (a:Option Addr) (n:Nat) (H:Nat→Int):Prop:=0<n→∃ b off,a=some ⟨b,off,none⟩∧b<w.heap.size∧∀ k,k<n→w.cell? ⟨b,off+k,none⟩=some (.int .i64 (H k))
theorem HnR.carry {w w':World} {a:Option Addr} {n:Nat} {H:Nat→Int} (h:HnR w a n H) (b:Below w.heap.size w w'):HnR w' a n H:=fun hn=>by
 obtain ⟨q,off,rfl,hg,hc⟩:=h hn
 exact ⟨q,off,rfl,Nat.lt_of_lt_of_le hg b.size,fun k hk=>(b.cell (p:=⟨q,off+k,none⟩) hg).trans (hc k hk)⟩
def cS (F:List Ln) (b:Int):Int:=if b<0 then 0 else sW (gl F b.toNat)
theorem cS_yes {F:List Ln} {b:Int} (h:¬ b<0):cS F b=sW (gl F b.toNat):=if_neg h
theorem chF_yes {F:List Ln} {o:Int} {H:Nat→Int} {k:Nat} (h:Vld F o (H k)∧(chF F o H k<0∨sW (gl F (H k).toNat)<sW (gl F (chF F o H k).toNat))):chF F o H (k+1)=H k:=if_pos h
theorem chF_no {F:List Ln} {o:Int} {H:Nat→Int} {k:Nat} (h:¬ (Vld F o (H k)∧(chF F o H k<0∨sW (gl F (H k).toNat)<sW (gl F (chF F o H k).toNat)))):chF F o H (k+1)=chF F o H k:=if_neg h
theorem cS_nat (F:List Ln) (k:Nat):cS F (k:Int)=sW (gl F k):=by rw [cS_yes (by omega),Int.toNat_natCast]
set_option maxRecDepth 20000 in
set_option maxHeartbeats 1000000 in
theorem choose_ok (r g nn o:Int) (a:Option Addr) (c:Nat) (F:List Ln) (ah:Option Addr) (nh ch:Nat) (H0:Nat→Int) (w:World) (h:LsR w a c F) (hf:Few F) (hh:HnR w ah nh H0) (hnh:nh≤1000) :
  Calls Tryz.prog 87 #[.agg #[.int .u64 r,.int .i64 g,.int .i64 nn,.int .i64 o,.slice a F.length c],.slice ah nh ch] w fun e w'=>e=.returned (.int .i64 (chF F o H0 nh))∧Below w.heap.size w w':=by
 obtain ⟨w1,hw1⟩:∃ w1,w1=w.alloc (.cells #[.int .u64 r,.int .i64 g,.int .i64 nn,.int .i64 o,.slice a F.length c] 31):=⟨_,rfl⟩
 have B:Below w.heap.size w w1:=by rw [hw1];exact alloc_below _ _
 have N1:Blk w1 w.heap.size 31 (faA r g nn o (.slice a F.length c)):=by rw [hw1];exact Blk.new _ _ _
 have HF:Hd (Few F):=⟨hf⟩
 have hl:=hf.len
 obtain ⟨n,hn⟩:∃ n,F.length=n:=⟨_,rfl⟩
 have HL:Hd (F.length=n):=⟨hn⟩
 have H:Hd (LsR w1 a c F∧Below w.heap.size w w1∧Blk w1 w.heap.size 31 (faA r g nn o (.slice a n c))):=⟨h.carry B,B,by rw [←hn];exact N1⟩
 rw [hn] at hl hw1
 clear B N1 h hf
 obtain ⟨⟨c0,c1,c2,c3,c4⟩,-⟩:=H.out.2.2.fair
 have HH:Hd (HnR w1 ah nh H0):=⟨hh.carry H.out.2.1⟩
 obtain ⟨mo,hmo⟩:∃ mo,mo=min o (n:Int):=⟨_,rfl⟩
 have HMO:Hd (mo=min o (n:Int)):=⟨hmo⟩
 rw [hn]
 clear hn hh
 go_enter Tryz.func87,Tryz.ntmps87
 go_upto_region 1 with fail
 rw [←hw1]
 clear hw1
 obtain ⟨A,hA⟩:∃ A,A=w.heap.size:=⟨_,rfl⟩
 have HA:Hd (A=w.heap.size):=⟨hA⟩
 rw [←hA] at H c0 c1 c2 c3 c4 ⊢
 clear hA
 have hs1:A≤w1.heap.size:=by rw [HA.out];exact H.out.2.1.size
 go_upto_region 2 with fail
 rw [←hmo]
 clear hmo
 go_wp2
 clear c0 c1 c2 c3 c4
 go_loopw [6,7,19] (fun v6 v7 i wr=>∃ k:Nat,k≤nh∧v6=.int .i64 (chF F o H0 k)∧v7=.int .i64 (cS F (chF F o H0 k))∧i=.int .i64 k∧Below w1.heap.size w1 wr) (fun _ _ i _=>nh - (intOf i).toNat)
 case atStart=>exact ⟨0,Nat.zero_le _,rfl,rfl,rfl,Below.refl _ _⟩
 case round =>
  obtain ⟨k,hk,rfl,rfl,rfl,p3⟩:=hrel
  by_cases hlt:k<nh
  ·obtain ⟨bh,oh,rfl,hbh,hch⟩:=(HH.out.carry p3) (by omega)
   have hck:=hch k hlt
   have NA:=H.out.2.2.kept (Kept.of_below p3 (fun _=>False)) id
   obtain ⟨⟨x0,x1,x2,x3,x4⟩,-⟩:=NA.fair
   have P:Hd (Below w1.heap.size w1 wr):=⟨p3⟩
   have SR:Hd (LsR wr a c F):=⟨H.out.1.carry p3⟩
   have HV:Hd (Vld F o (H0 k) ↔ 0≤H0 k∧H0 k<mo):=⟨by rw [HMO.out];unfold Vld;rw [HL.out];constructor <;> intro h <;> omega⟩
   have HMN:mo≤n:=by rw [HMO.out];omega
   have HC0:Hd (¬ Vld F o (H0 k)→chF F o H0 (k+1)=chF F o H0 k):=⟨fun e=>chF_no (fun h=>e h.1)⟩
   have HC1:Hd (Vld F o (H0 k)→chF F o H0 k<0→chF F o H0 (k+1)=H0 k):=⟨fun e e2=>chF_yes ⟨e,.inl e2⟩⟩
   have HC2:Hd (Vld F o (H0 k)→¬ chF F o H0 k<0→sW (gl F (H0 k).toNat)<cS F (chF F o H0 k)→chF F o H0 (k+1)=H0 k):=⟨fun e e2 e3=>chF_yes ⟨e,.inr (by rw [cS_yes e2] at e3;exact e3)⟩⟩
   have HC3:Hd (¬ chF F o H0 k<0→¬ sW (gl F (H0 k).toNat)<cS F (chF F o H0 k)→chF F o H0 (k+1)=chF F o H0 k):=⟨fun e2 e3=>chF_no (fun h=>by rw [cS_yes e2] at e3;rcases h.2 with h | h;exact e2 h;exact e3 h)⟩
   obtain ⟨xl,hxl⟩:∃ xl,xl=cS F (chF F o H0 k):=⟨_,rfl⟩
   have HXL:Hd (xl=cS F (chF F o H0 k)):=⟨hxl⟩
   rw [←hxl] at HC2 HC3 ⊢
   obtain ⟨i,hi⟩:∃ i,i=H0 k:=⟨_,rfl⟩
   rw [←hi] at HC0 HC1 HC2 HC3 hck HV
   obtain ⟨xc,hxc⟩:∃ xc,xc=chF F o H0 k:=⟨_,rfl⟩
   have HXC:Hd (xc=chF F o H0 k):=⟨hxc⟩
   rw [←hxc] at HC0 HC1 HC2 HC3 ⊢
   clear p3 NA hch hi hxl hxc hbh
   by_cases e1:0≤i
   ·by_cases e2:i<mo
    ·have hv:=HV.out.2 ⟨e1,e2⟩
     obtain ⟨p,rfl⟩:∃ p:Nat,i=p:=⟨i.toNat,by omega⟩
     rw [Int.toNat_natCast] at HC2 HC3
     have hpn:p<n:=by omega
     obtain ⟨b1,o1,a1,c1,rfl,hb1,d0,d1,s1⟩:=SR.out.at (k:=p) (by rw [HL.out];exact hpn)
     have HK:=HF.out.at p
     have SE:=seats_ok (gl F p).s a1 c1 (gl F p).L wr s1.2.2 (by omega)
     have l3:=sW_lo (gl F p)
     have l4:=sW_hi HK.2
     have HS:Hd (cS F (p:Int)=sW (gl F p)):=⟨cS_nat F p⟩
     rw [show seatsTo (gl F p).L (gl F p).L.length=sW (gl F p) from rfl] at SE
     by_cases e3:xc<0
     ·have HX:Hd (chF F o H0 (k+1)=p):=⟨HC1.out hv e3⟩
      clear HC0 HC1 HC2 HC3 HV hv s1 SR HK hb1
      generalize sW (gl F p)=xs at *
      generalize (gl F p).L.length=m at *
      generalize (gl F p).s=z at *
      go_wp2_with (go_at_call 85;refine SE.mono ?_;rintro e w4 ⟨rfl,b4⟩;clear SE)
      go_roundw
      case rel=>exact ⟨k+1,by omega,by rw [HX.out],by rw [HX.out,HS.out],by go_num,P.out.trans (b4.mono P.out.size)⟩
      case measure=>simp [intOf];omega
     ·by_cases e4:sW (gl F p)<xl
      ·have HX:Hd (chF F o H0 (k+1)=p):=⟨HC2.out hv e3 e4⟩
       clear HC0 HC1 HC2 HC3 HV hv s1 SR HK hb1
       generalize sW (gl F p)=xs at *
       generalize (gl F p).L.length=m at *
       generalize (gl F p).s=z at *
       go_wp2_with (go_at_call 85;refine SE.mono ?_;rintro e w4 ⟨rfl,b4⟩;clear SE)
       go_roundw
       case rel=>exact ⟨k+1,by omega,by rw [HX.out],by rw [HX.out,HS.out],by go_num,P.out.trans (b4.mono P.out.size)⟩
       case measure=>simp [intOf];omega
      ·have HX:Hd (chF F o H0 (k+1)=xc):=⟨HC3.out e3 e4⟩
       clear HC0 HC1 HC2 HC3 HV hv s1 SR HK hb1
       generalize sW (gl F p)=xs at *
       generalize (gl F p).L.length=m at *
       generalize (gl F p).s=z at *
       go_wp2_with (go_at_call 85;refine SE.mono ?_;rintro e w4 ⟨rfl,b4⟩;clear SE)
       go_roundw
       case rel=>exact ⟨k+1,by omega,by rw [HX.out],by rw [HX.out,HXL.out,HXC.out],by go_num,P.out.trans (b4.mono P.out.size)⟩
       case measure=>simp [intOf];omega
    ·have HX:Hd (chF F o H0 (k+1)=xc):=⟨HC0.out (fun h=>e2 (HV.out.1 h).2)⟩
     clear HC0 HC1 HC2 HC3 HV SR
     go_wp2
     go_roundw
     case rel=>exact ⟨k+1,by omega,by rw [HX.out],by rw [HX.out,HXL.out,HXC.out],by go_num,P.out⟩
     case measure=>simp [intOf];omega
   ·have HX:Hd (chF F o H0 (k+1)=xc):=⟨HC0.out (fun h=>e1 (HV.out.1 h).1)⟩
    clear HC0 HC1 HC2 HC3 HV SR
    go_wp2
    go_roundw
    case rel=>exact ⟨k+1,by omega,by rw [HX.out],by rw [HX.out,HXL.out,HXC.out],by go_num,P.out⟩
    case measure=>simp [intOf];omega
  ·obtain rfl:k=nh:=by omega
   go_wp2
   go_ret
   exact ⟨rfl,by rw [←HA.out];exact H.out.2.1.trans (p3.mono hs1)⟩
end Go.Proofs.YtlgibnmoogbdcaaGreat
