/-
  Who is next, by the program and by the reference.
  Lanes that are shut, by the program and by the reference.
-/
import Derived.Test.YtlgibnmoogbdcaaGreatR9
import Derived.Test.YtlgibnmoogbdcaaGreatR11
import Derived.Test.YtlgibnmoogbdcaaGreatR13
namespace Go.Proofs.YtlgibnmoogbdcaaGreat
open Go.RowKit
def nI (b:Int):Int:=if b<0 then 0 else b
def nL (F:List Ln) (g b:Int):Int:=if b<0 then 0 else fN g (gl F b.toNat)
def nB (b:Int):Bool:=decide (0≤b)
theorem nB_yes {b:Int} (h:¬ b<0):nB b=true:=decide_eq_true (by omega)
theorem nB_no {b:Int} (h:b<0):nB b=false:=decide_eq_false (by omega)
theorem nL_yes {F:List Ln} {g b:Int} (h:¬ b<0):nL F g b=fN g (gl F b.toNat):=if_neg h
theorem nxF_yes {F:List Ln} {g:Int} {k:Nat} (h:(gl F k).L≠[]∧(nxF F g k<0∨fN g (gl F k)<fN g (gl F (nxF F g k).toNat))):nxF F g (k+1)=k:=if_pos h
theorem nxF_no {F:List Ln} {g:Int} {k:Nat} (h:¬ ((gl F k).L≠[]∧(nxF F g k<0∨fN g (gl F k)<fN g (gl F (nxF F g k).toNat)))):nxF F g (k+1)=nxF F g k:=if_neg h
theorem nI_nat (k:Nat):nI (k:Int)=k:=if_neg (by omega)
theorem nL_nat (F:List Ln) (g:Int) (k:Nat):nL F g (k:Int)=fN g (gl F k):=by rw [nL_yes (by omega),Int.toNat_natCast]
theorem nB_nat (k:Nat):nB (k:Int)=true:=nB_yes (by omega)
set_option maxRecDepth 20000 in
set_option maxHeartbeats 1000000 in
theorem next_ok (r g nn o:Int) (a:Option Addr) (c:Nat) (F:List Ln) (w:World) (h:LsR w a c F) (hf:Few F) :
  Calls Tryz.prog 73 #[.agg #[.int .u64 r,.int .i64 g,.int .i64 nn,.int .i64 o,.slice a F.length c]] w fun e w'=>e=.returned (.tuple #[.int .i64 (nI (nxt F g)),.bool (nB (nxt F g))])∧Below w.heap.size w w':=by
 obtain ⟨w1,hw1⟩:∃ w1,w1=w.alloc (.cells #[.int .u64 r,.int .i64 g,.int .i64 nn,.int .i64 o,.slice a F.length c] 31):=⟨_,rfl⟩
 have B:Below w.heap.size w w1:=by rw [hw1];exact alloc_below _ _
 have N1:Blk w1 w.heap.size 31 (faA r g nn o (.slice a F.length c)):=by rw [hw1];exact Blk.new _ _ _
 have HF:Hd (Few F):=⟨hf⟩
 have hl:=hf.len
 obtain ⟨n,hn⟩:∃ n,F.length=n:=⟨_,rfl⟩
 have HL:Hd (F.length=n):=⟨hn⟩
 have H:Hd (LsR w1 a c F∧Below w.heap.size w w1∧Blk w1 w.heap.size 31 (faA r g nn o (.slice a n c))):=⟨h.carry B,B,by rw [←hn];exact N1⟩
 rw [hn] at hl hw1
 clear B N1 h hf
 obtain ⟨⟨c0,c1,c2,c3,c4⟩,-⟩:=H.out.2.2.fair
 have HX:Hd (nxt F g=nxF F g n):=⟨by unfold nxt;rw [hn]⟩
 rw [hn,HX.out]
 clear hn HX
 go_enter Tryz.func73,Tryz.ntmps73
 go_upto_region 1 with fail
 rw [←hw1]
 clear hw1
 obtain ⟨A,hA⟩:∃ A,A=w.heap.size:=⟨_,rfl⟩
 have HA:Hd (A=w.heap.size):=⟨hA⟩
 rw [←hA] at H c0 c1 c2 c3 c4 ⊢
 clear hA
 go_wp2
 clear c0 c1 c2 c3 c4
 go_loopw [4,5,6,14] (fun v4 v5 v6 i wr=>∃ k:Nat,k≤n∧v4=.int .i64 (nI (nxF F g k))∧v5=.int .u64 (nL F g (nxF F g k))∧v6=.bool (nB (nxF F g k))∧i=.int .i64 k∧Below w1.heap.size w1 wr) (fun _ _ _ i _=>n - (intOf i).toNat)
 case atStart=>exact ⟨0,Nat.zero_le _,rfl,rfl,rfl,rfl,Below.refl _ _⟩
 case round =>
  obtain ⟨k,hk,rfl,rfl,rfl,rfl,p3⟩:=hrel
  by_cases hlt:k<n
  ·have NA:=H.out.2.2.kept (Kept.of_below p3 (fun _=>False)) id
   obtain ⟨b1,o1,a1,c1,rfl,hb1,d0,d1,s1⟩:=(H.out.1.carry p3).at (k:=k) (by rw [HL.out];exact hlt)
   have HK:=HF.out.at k
   obtain ⟨wa,hwa⟩:∃ wa,wa=wr.alloc (.cells #[.int .u64 (gl F k).s,.slice a1 (gl F k).L.length c1] 62):=⟨_,rfl⟩
   have BA:Below wr.heap.size wr wa:=by rw [hwa];exact alloc_below _ _
   have FN:=finish_ok (gl F k).s a1 c1 (gl F k).L g wa HK.1 (s1.carry BA).2.2 (by omega)
   rw [show finI (gl F k).s (gl F k).L g=fN g (gl F k) from rfl] at FN
   obtain ⟨⟨x0,x1,x2,x3,x4⟩,-⟩:=(NA.kept (Kept.of_below BA (fun _=>False)) id).fair
   have P:Hd (Below w1.heap.size w1 wr∧Below wr.heap.size wr wa):=⟨p3,BA⟩
   have H0:Hd ((gl F k).L=[]→nxF F g (k+1)=nxF F g k):=⟨fun e=>nxF_no (fun h=>h.1 e)⟩
   have H1:Hd ((gl F k).L≠[]→nxF F g k<0→nxF F g (k+1)=k):=⟨fun e e2=>nxF_yes ⟨e,.inl e2⟩⟩
   have H2:Hd ((gl F k).L≠[]→¬ nxF F g k<0→fN g (gl F k)<nL F g (nxF F g k)→nxF F g (k+1)=k):=⟨fun e e2 e3=>nxF_yes ⟨e,.inr (by rw [nL_yes e2] at e3;exact e3)⟩⟩
   have H3:Hd (¬ nxF F g k<0→¬ fN g (gl F k)<nL F g (nxF F g k)→nxF F g (k+1)=nxF F g k):=⟨fun e2 e3=>nxF_no (fun h=>by rw [nL_yes e2] at e3;rcases h.2 with h | h;exact e2 h;exact e3 h)⟩
   have HNL:Hd (nL F g (k:Int)=fN g (gl F k)):=⟨nL_nat F g k⟩
   have hfw:=fN_word (g:=g) HK.1
   clear p3 BA NA s1 hb1
   obtain ⟨xl,hxl⟩:∃ xl,xl=nL F g (nxF F g k):=⟨_,rfl⟩
   have HXL:Hd (xl=nL F g (nxF F g k)):=⟨hxl⟩
   rw [←hxl] at H2 H3 ⊢
   clear hxl
   by_cases e1:(gl F k).L=[]
   ·have HX:Hd (nxF F g (k+1)=nxF F g k):=⟨H0.out e1⟩
    rw [e1] at d1 FN hwa
    rw [hasI_nil] at FN
    simp only [List.length_nil] at d1 FN hwa
    clear H0 H1 H2 H3 e1
    generalize fN g (gl F k)=xk at *
    generalize (gl F k).s=z at *
    subst hwa
    go_wp2_with (go_at_call 89;refine FN.mono ?_;rintro e w4 ⟨rfl,b4⟩;clear FN)
    go_roundw
    case rel=>exact ⟨k+1,by omega,by rw [HX.out],by rw [HX.out,HXL.out],by rw [HX.out],by go_num,P.out.1.trans ((P.out.2.trans (b4.mono P.out.2.size)).mono P.out.1.size)⟩
    case measure=>simp [intOf];omega
   ·rw [hasI_some e1] at FN
    by_cases e2:nxF F g k<0
    ·have HX:Hd (nxF F g (k+1)=k):=⟨H1.out e1 e2⟩
     rw [nB_no e2]
     have HI:Hd (nI (nxF F g k)=0):=⟨if_pos e2⟩
     clear H0 H1 H2 H3 e1 e2
     generalize fN g (gl F k)=xk at *
     generalize (gl F k).L.length=m at *
     generalize (gl F k).s=z at *
     subst hwa
     go_wp2_with (go_at_call 89;refine FN.mono ?_;rintro e w4 ⟨rfl,b4⟩;clear FN)
     go_roundw
     case rel=>exact ⟨k+1,by omega,by rw [HX.out,nI_nat],by rw [HX.out,HNL.out],by rw [HX.out,nB_nat],by go_num,P.out.1.trans ((P.out.2.trans (b4.mono P.out.2.size)).mono P.out.1.size)⟩
     case measure=>simp [intOf];omega
    ·rw [nB_yes e2]
     by_cases e3:fN g (gl F k)<xl
     ·have HX:Hd (nxF F g (k+1)=k):=⟨H2.out e1 e2 e3⟩
      clear H0 H1 H2 H3 e1 e2
      generalize fN g (gl F k)=xk at *
      generalize (gl F k).L.length=m at *
      generalize (gl F k).s=z at *
      subst hwa
      go_wp2_with (go_at_call 89;refine FN.mono ?_;rintro e w4 ⟨rfl,b4⟩;clear FN)
      go_roundw
      case rel=>exact ⟨k+1,by omega,by rw [HX.out,nI_nat],by rw [HX.out,HNL.out],by rw [HX.out,nB_nat],by go_num,P.out.1.trans ((P.out.2.trans (b4.mono P.out.2.size)).mono P.out.1.size)⟩
      case measure=>simp [intOf];omega
     ·have HX:Hd (nxF F g (k+1)=nxF F g k∧nB (nxF F g k)=true∧xl=nL F g (nxF F g k)):=⟨H3.out e2 e3,nB_yes e2,HXL.out⟩
      clear H0 H1 H2 H3 e1 e2
      generalize fN g (gl F k)=xk at *
      generalize (gl F k).L.length=m at *
      generalize (gl F k).s=z at *
      subst hwa
      go_wp2_with (go_at_call 89;refine FN.mono ?_;rintro e w4 ⟨rfl,b4⟩;clear FN)
      go_roundw
      case rel=>exact ⟨k+1,by omega,by rw [HX.out.1],by rw [HX.out.1,HX.out.2.2],by rw [HX.out.1,HX.out.2.1],by go_num,P.out.1.trans ((P.out.2.trans (b4.mono P.out.2.size)).mono P.out.1.size)⟩
      case measure=>simp [intOf];omega
  ·obtain rfl:k=n:=by omega
   go_wp2
   go_ret2
   exact ⟨rfl,by rw [←HA.out];exact H.out.2.1.trans (p3.mono (by rw [HA.out];exact H.out.2.1.size))⟩
theorem nI_neg {b:Int} (h:b<0):nI b=0:=if_pos h
set_option maxRecDepth 20000 in
set_option maxHeartbeats 2000000 in
theorem rnext_ok (r g nn o:Int) (a:Option Addr) (c:Nat) (F:List Ln) (w:World) (h:LsR w a c F) (hf:Few F) :
  Calls Tryz.prog 42 #[.agg #[.int .u64 r,.int .i64 g,.int .i64 nn,.int .i64 o,.slice a F.length c]] w fun e w'=>e=.returned (.tuple #[.int .i64 (nI (nxt F g)),.bool (nB (nxt F g))])∧Below w.heap.size w w':=by
 obtain ⟨w1,hw1⟩:∃ w1,w1=w.alloc (.cells #[.int .u64 r,.int .i64 g,.int .i64 nn,.int .i64 o,.slice a F.length c] 31):=⟨_,rfl⟩
 have B:Below w.heap.size w w1:=by rw [hw1];exact alloc_below _ _
 have N1:Blk w1 w.heap.size 31 (faA r g nn o (.slice a F.length c)):=by rw [hw1];exact Blk.new _ _ _
 have HF:Hd (Few F):=⟨hf⟩
 have hl:=hf.len
 obtain ⟨n,hn⟩:∃ n,F.length=n:=⟨_,rfl⟩
 have HL:Hd (F.length=n):=⟨hn⟩
 have H:Hd (LsR w1 a c F∧Below w.heap.size w w1∧Blk w1 w.heap.size 31 (faA r g nn o (.slice a n c))):=⟨h.carry B,B,by rw [←hn];exact N1⟩
 rw [hn] at hl hw1
 clear B N1 h hf
 obtain ⟨⟨c0,c1,c2,c3,c4⟩,-⟩:=H.out.2.2.fair
 have HX0:Hd (∀ b,IsN F g 0 n b→nxt F g=b):=⟨fun b hb=>(nxt_is F g).uniq (by rw [hn];exact hb)⟩
 rw [hn]
 clear hn
 go_enter Tryz.func42,Tryz.ntmps42
 go_upto_region 1 with fail
 rw [←hw1]
 clear hw1
 obtain ⟨A,hA⟩:∃ A,A=w.heap.size:=⟨_,rfl⟩
 have HA:Hd (A=w.heap.size):=⟨hA⟩
 rw [←hA] at H c0 c1 c2 c3 c4 ⊢
 clear hA
 have hs1:A≤w1.heap.size:=by rw [HA.out];exact H.out.2.1.size
 go_wp2
 clear c0 c1 c2 c3 c4
 go_loopw [4,5] (fun v4 i wr=>∃ (q:Nat) (b:Int),q≤n∧i=.int .i64 ((q:Int) - 1)∧v4=.int .i64 b∧Hd (IsN F g q n b)∧Below w1.heap.size w1 wr) (fun _ i _=>(intOf i+1).toNat)
 case atStart=>exact ⟨n,-1,Nat.le_refl _,rfl,rfl,⟨.inl ⟨rfl,fun q h1 h2=>absurd h2 (by omega)⟩⟩,Below.refl _ _⟩
 case round =>
  obtain ⟨q,b,hq,rfl,rfl,HI,p3⟩:=hrel
  have hbr:b=-1∨(0≤b∧b<(n:Int)):=by
   rcases HI.out.rng with h | ⟨p,h1,h2,h3,-⟩
   ·exact .inl h
   ·exact .inr (by omega)
  have NA:=H.out.2.2.kept (Kept.of_below p3 (fun _=>False)) id
  by_cases hq0:q=0
  ·subst hq0
   have HX:=HX0.out b HI.out
   by_cases e2:b<0
   ·have HR:Hd (nI (nxt F g)=0∧nB (nxt F g)=false):=⟨by rw [HX];exact nI_neg e2,by rw [HX];exact nB_no e2⟩
    clear HX hbr HI NA
    go_wp2
    go_ret2
    exact ⟨by rw [HR.out.1,HR.out.2];rfl,by rw [←HA.out];exact H.out.2.1.trans (p3.mono hs1)⟩
   ·have HR:Hd (nI (nxt F g)=b∧nB (nxt F g)=true):=⟨by rw [HX];exact if_neg e2,by rw [HX];exact nB_yes e2⟩
    clear HX hbr HI NA
    go_wp2
    go_ret2
    exact ⟨by rw [HR.out.1,HR.out.2];rfl,by rw [←HA.out];exact H.out.2.1.trans (p3.mono hs1)⟩
  ·obtain ⟨j,rfl⟩:∃ j,q=j+1:=⟨q - 1,by omega⟩
   rw [show ((j+1:Nat):Int) - 1=j by omega]
   have hjn:j<n:=by omega
   obtain ⟨b1,o1,a1,c1,rfl,hb1,d0,d1,s1⟩:=(H.out.1.carry p3).at (k:=j) (by rw [HL.out];omega)
   obtain ⟨⟨x0,x1,x2,x3,x4⟩,-⟩:=NA.fair
   have HK:=HF.out.at j
   have HB:=HI.out.back (show j<n by omega)
   have BD:Hd (Below wr.heap.size wr wr.drew):=⟨(Below.refl _ _).drew⟩
   have X4w3:Hd (∀ Y,Below wr.drew.heap.size wr.drew Y→Y.cell? ⟨A,4,none⟩=some (.slice (some ⟨b1,o1,none⟩) n c)):=⟨fun Y q=>(NA.kept (Kept.of_below (BD.out.trans q) (fun _=>False)) id).cellv 4 rfl⟩
   have X1w3:Hd (∀ Y,Below wr.drew.heap.size wr.drew Y→Y.cell? ⟨A,1,none⟩=some (.int .i64 g)):=⟨fun Y q=>(NA.kept (Kept.of_below (BD.out.trans q) (fun _=>False)) id).cellv 1 rfl⟩
   have XDw3:Hd (∀ Y,Below wr.drew.heap.size wr.drew Y→Y.cell? ⟨b1,o1+j*2,none⟩=some (.int .u64 (gl F j).s)∧Y.cell? ⟨b1,o1+j*2+1,none⟩=some (.slice a1 (gl F j).L.length c1)):=⟨fun Y q=>by
    have K:Kept (fun _=>False) wr Y:=Kept.of_below (BD.out.trans q) _
    exact ⟨(World.cell?_of_block (K.block b1 hb1 id)).trans d0,(World.cell?_of_block (K.block b1 hb1 id)).trans d1⟩⟩
   have FN:Hd (Calls Tryz.prog 78 #[.agg #[.int .u64 (gl F j).s,.slice a1 (gl F j).L.length c1],.int .i64 g] wr.drew fun e w'=>e=.returned (.tuple #[.int .u64 (fN g (gl F j)),.bool (hasI (gl F j).L)])∧Below wr.drew.heap.size wr.drew w'):=⟨rfinish_ok (gl F j).s a1 c1 (gl F j).L g wr.drew HK.1 (s1.carry BD.out).2.2 (by omega)⟩
   have P:Hd (Below w1.heap.size w1 wr):=⟨p3⟩
   have H2:Hd (LsR wr (some ⟨b1,o1,none⟩) c F∧Blk wr A 31 (faA r g nn o (.slice (some ⟨b1,o1,none⟩) n c))):=⟨H.out.1.carry p3,NA⟩
   have hfw:=fN_word (g:=g) HK.1
   clear NA p3 s1 hb1 HI x0 x1 x2 x3 x4 d0 d1
   by_cases e1:(gl F j).L=[]
   ·rw [if_neg (fun h=>h.1 e1)] at HB
    have HX:Hd (IsN F g j n b):=⟨HB⟩
    have FN:=FN.out
    rw [e1] at XDw3 FN
    rw [hasI_nil] at FN
    simp only [List.length_nil] at XDw3 FN
    clear HB e1 H2
    generalize fN g (gl F j)=xk at *
    generalize (gl F j).s=z at *
    go_upto_region 5 with fail
    refine AnyG.start (T:=fun Y=>Below wr.drew.heap.size wr.drew Y) (U:=fun _=>True) (j0:=100) (by kernel_rfl) ?_
    generalize wr.drew=w3 at *
    have Rw3:Below w3.heap.size w3 w3:=Below.refl _ _
    refine .tq 0 19 Rw3 ?_;simp only [oqA,oqB,oqC]
    refine .tq 1 20 Rw3 ?_ (hy:=fun w hSw=>by have s:=X4w3.out w hSw;go_simp;rfl);simp only [oqA,oqB,oqC]
    refine .tq 2 21 Rw3 ?_;simp only [oqA,oqB,oqC]
    refine .tq 3 22 Rw3 ?_;simp only [oqA,oqB,oqC]
    refine .tq 4 23 Rw3 ?_ (hy:=fun w hSw=>by have s:=XDw3.out w hSw;go_simp;rfl);simp only [oqA,oqB,oqC]
    refine .tq 5 24 Rw3 ?_;simp only [oqA,oqB,oqC]
    refine .tq 6 25 Rw3 ?_ (hy:=fun w hSw=>by have s:=X1w3.out w hSw;go_simp;rfl);simp only [oqA,oqB,oqC]
    refine AnyG.ready (rs:=[7]) (by kernel_rfl) (by simp) ?_
    refine AllG.cons rfl (fun K hK=>?_) AllG.nil
    go_simp
    refine FN.mono ?_
    rintro e w4 ⟨rfl,b4⟩
    refine hK.out _ _ ⟨b4,fun _=>trivial⟩ ?_
    clear hK K FN
    refine .tq 8 18 b4 ?_;simp only [oqA,oqB,oqC]
    refine .tq 9 27 b4 ?_;simp only [oqA,oqB,oqC]
    refine .tq 10 28 b4 ?_;simp only [oqA,oqB,oqC]
    refine .tq 11 6 b4 ?_;simp only [oqA,oqB,oqC]
    refine .tq 12 7 b4 ?_;simp only [oqA,oqB,oqC]
    refine AnyG.done (by kernel_rfl) ?_ _
    clear Rw3 X4w3 XDw3 X1w3
    go_wp2
    go_roundw
    case rel=>exact ⟨j,b,by omega,rfl,rfl,HX,P.out.trans ((BD.out.trans (b4.mono BD.out.size)).mono P.out.size)⟩
    case measure=>simp [intOf]
   ·have FN:=FN.out
    rw [hasI_some e1] at FN
    by_cases e2:b<0
    ·rw [if_pos ⟨e1,fun h=>by omega⟩] at HB
     have HX:Hd (IsN F g j n j):=⟨HB⟩
     clear HB e1 H2
     generalize fN g (gl F j)=xk at *
     generalize (gl F j).L.length=m at *
     generalize (gl F j).s=z at *
     go_upto_region 5 with fail
     refine AnyG.start (T:=fun Y=>Below wr.drew.heap.size wr.drew Y) (U:=fun _=>True) (j0:=100) (by kernel_rfl) ?_
     generalize wr.drew=w3 at *
     have Rw3:Below w3.heap.size w3 w3:=Below.refl _ _
     refine .tq 0 19 Rw3 ?_;simp only [oqA,oqB,oqC]
     refine .tq 1 20 Rw3 ?_ (hy:=fun w hSw=>by have s:=X4w3.out w hSw;go_simp;rfl);simp only [oqA,oqB,oqC]
     refine .tq 2 21 Rw3 ?_;simp only [oqA,oqB,oqC]
     refine .tq 3 22 Rw3 ?_;simp only [oqA,oqB,oqC]
     refine .tq 4 23 Rw3 ?_ (hy:=fun w hSw=>by have s:=XDw3.out w hSw;go_simp;rfl);simp only [oqA,oqB,oqC]
     refine .tq 5 24 Rw3 ?_;simp only [oqA,oqB,oqC]
     refine .tq 6 25 Rw3 ?_ (hy:=fun w hSw=>by have s:=X1w3.out w hSw;go_simp;rfl);simp only [oqA,oqB,oqC]
     refine AnyG.ready (rs:=[7]) (by kernel_rfl) (by simp) ?_
     refine AllG.cons rfl (fun K hK=>?_) AllG.nil
     go_simp
     refine FN.mono ?_
     rintro e w4 ⟨rfl,b4⟩
     refine hK.out _ _ ⟨b4,fun _=>trivial⟩ ?_
     clear hK K FN
     refine .tq 8 18 b4 ?_;simp only [oqA,oqB,oqC]
     refine .tq 9 27 b4 ?_;simp only [oqA,oqB,oqC]
     refine .tq 10 28 b4 ?_;simp only [oqA,oqB,oqC]
     refine .tq 11 6 b4 ?_;simp only [oqA,oqB,oqC]
     refine .tq 12 7 b4 ?_;simp only [oqA,oqB,oqC]
     refine AnyG.done (by kernel_rfl) ?_ _
     clear Rw3 X4w3 XDw3 X1w3
     go_wp2
     go_roundw
     case rel=>exact ⟨j,j,by omega,rfl,rfl,HX,P.out.trans ((BD.out.trans (b4.mono BD.out.size)).mono P.out.size)⟩
     case measure=>simp [intOf]
    ·obtain ⟨p,rfl⟩:∃ p:Nat,b=p:=⟨b.toNat,by omega⟩
     have hpn:p<n:=by omega
     rw [Int.toNat_natCast] at HB
     obtain ⟨b2,o2,a2,c2,e9,hb2,f0,f1,s2⟩:=H2.out.1.at (k:=p) (by rw [HL.out];exact hpn)
     obtain ⟨rfl,rfl⟩:b1=b2∧o1=o2:=by injection e9 with e9;injection e9 with y1 y2;exact ⟨y1,y2⟩
     have HK2:=HF.out.at p
     have hfw2:=fN_word (g:=g) HK2.1
     have F2:Hd (∀ w4,Below wr.drew.heap.size wr.drew w4→(w4.cell? ⟨A,4,none⟩=some (.slice (some ⟨b1,o1,none⟩) n c)∧w4.cell? ⟨A,1,none⟩=some (.int .i64 g)∧w4.cell? ⟨b1,o1+p*2,none⟩=some (.int .u64 (gl F p).s)∧w4.cell? ⟨b1,o1+p*2+1,none⟩=some (.slice a2 (gl F p).L.length c2))∧Calls Tryz.prog 78 #[.agg #[.int .u64 (gl F p).s,.slice a2 (gl F p).L.length c2],.int .i64 g] w4.drew fun e w'=>e=.returned (.tuple #[.int .u64 (fN g (gl F p)),.bool (hasI (gl F p).L)])∧Below w4.drew.heap.size w4.drew w'):=⟨fun w4 q=>by
      have q0:Below wr.heap.size wr w4:=BD.out.trans q
      obtain ⟨⟨-,y1,-,-,y4⟩,-⟩:=(H2.out.2.kept (Kept.of_below q0 (fun _=>False)) id).fair
      have K:Kept (fun _=>False) wr w4:=Kept.of_below q0 _
      exact ⟨⟨y4,y1,(World.cell?_of_block (K.block b1 hb2 id)).trans f0,(World.cell?_of_block (K.block b1 hb2 id)).trans f1⟩,rfinish_ok (gl F p).s a2 c2 (gl F p).L g w4.drew HK2.1 ((s2.carry q0).carry (Below.refl _ _).drew).2.2 (by omega)⟩⟩
     have HP9:Hd (IsN F g j n (if (gl F j).L≠[]∧¬ (0≤(p:Int)∧fN g (gl F p)<fN g (gl F j)) then (j:Int) else p)):=⟨HB⟩
     by_cases e3:fN g (gl F p)<fN g (gl F j)
     ·rw [if_neg (fun h=>h.2 ⟨by omega,e3⟩)] at HB
      have HX:Hd (IsN F g j n p):=⟨HB⟩
      clear HB e1 e2 H2 HP9 f0 f1 s2 hb2 hbr
      generalize fN g (gl F j)=xk at *
      generalize fN g (gl F p)=xp at *
      generalize (gl F j).L.length=m at *
      generalize (gl F j).s=z at *
      generalize (gl F p).L.length=m2 at *
      generalize (gl F p).s=z2 at *
      generalize hasI (gl F p).L=bb at *
      go_upto_region 5 with fail
      refine AnyG.start (T:=fun Y=>Below wr.drew.heap.size wr.drew Y) (U:=fun _=>True) (j0:=100) (by kernel_rfl) ?_
      generalize wr.drew=w3 at *
      have Rw3:Below w3.heap.size w3 w3:=Below.refl _ _
      refine .tq 0 19 Rw3 ?_;simp only [oqA,oqB,oqC]
      refine .tq 1 20 Rw3 ?_ (hy:=fun w hSw=>by have s:=X4w3.out w hSw;go_simp;rfl);simp only [oqA,oqB,oqC]
      refine .tq 2 21 Rw3 ?_;simp only [oqA,oqB,oqC]
      refine .tq 3 22 Rw3 ?_;simp only [oqA,oqB,oqC]
      refine .tq 4 23 Rw3 ?_ (hy:=fun w hSw=>by have s:=XDw3.out w hSw;go_simp;rfl);simp only [oqA,oqB,oqC]
      refine .tq 5 24 Rw3 ?_;simp only [oqA,oqB,oqC]
      refine .tq 6 25 Rw3 ?_ (hy:=fun w hSw=>by have s:=X1w3.out w hSw;go_simp;rfl);simp only [oqA,oqB,oqC]
      refine AnyG.ready (rs:=[7]) (by kernel_rfl) (by simp) ?_
      refine AllG.cons rfl (fun K hK=>?_) AllG.nil
      go_simp
      refine FN.mono ?_
      rintro e w4 ⟨rfl,b4⟩
      refine hK.out _ _ ⟨b4,fun _=>trivial⟩ ?_
      clear hK K FN
      refine .tq 8 18 b4 ?_;simp only [oqA,oqB,oqC]
      refine .tq 9 27 b4 ?_;simp only [oqA,oqB,oqC]
      refine .tq 10 28 b4 ?_;simp only [oqA,oqB,oqC]
      refine .tq 11 6 b4 ?_;simp only [oqA,oqB,oqC]
      refine .tq 12 7 b4 ?_;simp only [oqA,oqB,oqC]
      refine AnyG.done (by kernel_rfl) ?_ _
      clear Rw3 X4w3 XDw3 X1w3
      obtain ⟨FC,FN2⟩:=F2.out w4 b4
      have BD4:Hd (Below w4.heap.size w4 w4.drew):=⟨(Below.refl _ _).drew⟩
      have X4w5:Hd (∀ Y,Below w4.drew.heap.size w4.drew Y→Y.cell? ⟨A,4,none⟩=some (.slice (some ⟨b1,o1,none⟩) n c)):=⟨fun Y q=>((F2.out Y (b4.trans ((BD4.out.trans q).mono b4.size))).1).1⟩
      have X1w5:Hd (∀ Y,Below w4.drew.heap.size w4.drew Y→Y.cell? ⟨A,1,none⟩=some (.int .i64 g)):=⟨fun Y q=>((F2.out Y (b4.trans ((BD4.out.trans q).mono b4.size))).1).2.1⟩
      have XDw5:Hd (∀ Y,Below w4.drew.heap.size w4.drew Y→Y.cell? ⟨b1,o1+p*2,none⟩=some (.int .u64 z2)∧Y.cell? ⟨b1,o1+p*2+1,none⟩=some (.slice a2 m2 c2)):=⟨fun Y q=>((F2.out Y (b4.trans ((BD4.out.trans q).mono b4.size))).1).2.2⟩
      clear F2 FC
      go_upto_region 8 with fail
      refine AnyG.start (T:=fun Y=>Below w4.drew.heap.size w4.drew Y) (U:=fun _=>True) (j0:=100) (by kernel_rfl) ?_
      generalize w4.drew=w5 at *
      have Rw5:Below w5.heap.size w5 w5:=Below.refl _ _
      refine .tq 0 34 Rw5 ?_;simp only [oqA,oqB,oqC]
      refine .tq 1 35 Rw5 ?_ (hy:=fun w hSw=>by have s:=X4w5.out w hSw;go_simp;rfl);simp only [oqA,oqB,oqC]
      refine .tq 2 36 Rw5 ?_;simp only [oqA,oqB,oqC]
      refine .tq 3 37 Rw5 ?_;simp only [oqA,oqB,oqC]
      refine .tq 4 38 Rw5 ?_ (hy:=fun w hSw=>by have s:=XDw5.out w hSw;go_simp;rfl);simp only [oqA,oqB,oqC]
      refine .tq 5 39 Rw5 ?_;simp only [oqA,oqB,oqC]
      refine .tq 6 40 Rw5 ?_ (hy:=fun w hSw=>by have s:=X1w5.out w hSw;go_simp;rfl);simp only [oqA,oqB,oqC]
      refine AnyG.ready (rs:=[7]) (by kernel_rfl) (by simp) ?_
      refine AllG.cons rfl (fun K hK=>?_) AllG.nil
      go_simp
      refine FN2.mono ?_
      rintro e w6 ⟨rfl,b6⟩
      refine hK.out _ _ ⟨b6,fun _=>trivial⟩ ?_
      clear hK K FN2
      refine .tq 8 33 b6 ?_;simp only [oqA,oqB,oqC]
      refine .tq 9 42 b6 ?_;simp only [oqA,oqB,oqC]
      refine .tq 10 43 b6 ?_;simp only [oqA,oqB,oqC]
      refine .tq 11 8 b6 ?_;simp only [oqA,oqB,oqC]
      refine .tq 12 9 b6 ?_;simp only [oqA,oqB,oqC]
      refine AnyG.done (by kernel_rfl) ?_ _
      clear Rw5 X4w5 XDw5 X1w5
      go_wp2
      go_roundw
      case rel=>exact ⟨j,p,by omega,rfl,rfl,HX,P.out.trans ((BD.out.trans ((b4.trans ((BD4.out.trans (b6.mono BD4.out.size)).mono b4.size)).mono BD.out.size)).mono P.out.size)⟩
      case measure=>simp [intOf]
     ·rw [if_pos ⟨e1,fun h=>e3 h.2⟩] at HB
      have HX:Hd (IsN F g j n j):=⟨HB⟩
      clear HB e1 e2 H2 HP9 f0 f1 s2 hb2 hbr
      generalize fN g (gl F j)=xk at *
      generalize fN g (gl F p)=xp at *
      generalize (gl F j).L.length=m at *
      generalize (gl F j).s=z at *
      generalize (gl F p).L.length=m2 at *
      generalize (gl F p).s=z2 at *
      generalize hasI (gl F p).L=bb at *
      go_upto_region 5 with fail
      refine AnyG.start (T:=fun Y=>Below wr.drew.heap.size wr.drew Y) (U:=fun _=>True) (j0:=100) (by kernel_rfl) ?_
      generalize wr.drew=w3 at *
      have Rw3:Below w3.heap.size w3 w3:=Below.refl _ _
      refine .tq 0 19 Rw3 ?_;simp only [oqA,oqB,oqC]
      refine .tq 1 20 Rw3 ?_ (hy:=fun w hSw=>by have s:=X4w3.out w hSw;go_simp;rfl);simp only [oqA,oqB,oqC]
      refine .tq 2 21 Rw3 ?_;simp only [oqA,oqB,oqC]
      refine .tq 3 22 Rw3 ?_;simp only [oqA,oqB,oqC]
      refine .tq 4 23 Rw3 ?_ (hy:=fun w hSw=>by have s:=XDw3.out w hSw;go_simp;rfl);simp only [oqA,oqB,oqC]
      refine .tq 5 24 Rw3 ?_;simp only [oqA,oqB,oqC]
      refine .tq 6 25 Rw3 ?_ (hy:=fun w hSw=>by have s:=X1w3.out w hSw;go_simp;rfl);simp only [oqA,oqB,oqC]
      refine AnyG.ready (rs:=[7]) (by kernel_rfl) (by simp) ?_
      refine AllG.cons rfl (fun K hK=>?_) AllG.nil
      go_simp
      refine FN.mono ?_
      rintro e w4 ⟨rfl,b4⟩
      refine hK.out _ _ ⟨b4,fun _=>trivial⟩ ?_
      clear hK K FN
      refine .tq 8 18 b4 ?_;simp only [oqA,oqB,oqC]
      refine .tq 9 27 b4 ?_;simp only [oqA,oqB,oqC]
      refine .tq 10 28 b4 ?_;simp only [oqA,oqB,oqC]
      refine .tq 11 6 b4 ?_;simp only [oqA,oqB,oqC]
      refine .tq 12 7 b4 ?_;simp only [oqA,oqB,oqC]
      refine AnyG.done (by kernel_rfl) ?_ _
      clear Rw3 X4w3 XDw3 X1w3
      obtain ⟨FC,FN2⟩:=F2.out w4 b4
      have BD4:Hd (Below w4.heap.size w4 w4.drew):=⟨(Below.refl _ _).drew⟩
      have X4w5:Hd (∀ Y,Below w4.drew.heap.size w4.drew Y→Y.cell? ⟨A,4,none⟩=some (.slice (some ⟨b1,o1,none⟩) n c)):=⟨fun Y q=>((F2.out Y (b4.trans ((BD4.out.trans q).mono b4.size))).1).1⟩
      have X1w5:Hd (∀ Y,Below w4.drew.heap.size w4.drew Y→Y.cell? ⟨A,1,none⟩=some (.int .i64 g)):=⟨fun Y q=>((F2.out Y (b4.trans ((BD4.out.trans q).mono b4.size))).1).2.1⟩
      have XDw5:Hd (∀ Y,Below w4.drew.heap.size w4.drew Y→Y.cell? ⟨b1,o1+p*2,none⟩=some (.int .u64 z2)∧Y.cell? ⟨b1,o1+p*2+1,none⟩=some (.slice a2 m2 c2)):=⟨fun Y q=>((F2.out Y (b4.trans ((BD4.out.trans q).mono b4.size))).1).2.2⟩
      clear F2 FC
      go_upto_region 8 with fail
      refine AnyG.start (T:=fun Y=>Below w4.drew.heap.size w4.drew Y) (U:=fun _=>True) (j0:=100) (by kernel_rfl) ?_
      generalize w4.drew=w5 at *
      have Rw5:Below w5.heap.size w5 w5:=Below.refl _ _
      refine .tq 0 34 Rw5 ?_;simp only [oqA,oqB,oqC]
      refine .tq 1 35 Rw5 ?_ (hy:=fun w hSw=>by have s:=X4w5.out w hSw;go_simp;rfl);simp only [oqA,oqB,oqC]
      refine .tq 2 36 Rw5 ?_;simp only [oqA,oqB,oqC]
      refine .tq 3 37 Rw5 ?_;simp only [oqA,oqB,oqC]
      refine .tq 4 38 Rw5 ?_ (hy:=fun w hSw=>by have s:=XDw5.out w hSw;go_simp;rfl);simp only [oqA,oqB,oqC]
      refine .tq 5 39 Rw5 ?_;simp only [oqA,oqB,oqC]
      refine .tq 6 40 Rw5 ?_ (hy:=fun w hSw=>by have s:=X1w5.out w hSw;go_simp;rfl);simp only [oqA,oqB,oqC]
      refine AnyG.ready (rs:=[7]) (by kernel_rfl) (by simp) ?_
      refine AllG.cons rfl (fun K hK=>?_) AllG.nil
      go_simp
      refine FN2.mono ?_
      rintro e w6 ⟨rfl,b6⟩
      refine hK.out _ _ ⟨b6,fun _=>trivial⟩ ?_
      clear hK K FN2
      refine .tq 8 33 b6 ?_;simp only [oqA,oqB,oqC]
      refine .tq 9 42 b6 ?_;simp only [oqA,oqB,oqC]
      refine .tq 10 43 b6 ?_;simp only [oqA,oqB,oqC]
      refine .tq 11 8 b6 ?_;simp only [oqA,oqB,oqC]
      refine .tq 12 9 b6 ?_;simp only [oqA,oqB,oqC]
      refine AnyG.done (by kernel_rfl) ?_ _
      clear Rw5 X4w5 XDw5 X1w5
      go_wp2
      go_roundw
      case rel=>exact ⟨j,j,by omega,rfl,rfl,HX,P.out.trans ((BD.out.trans ((b4.trans ((BD4.out.trans (b6.mono BD4.out.size)).mono b4.size)).mono BD.out.size)).mono P.out.size)⟩
      case measure=>simp [intOf]
theorem resFa17 (tmps:Array Value) (w:World) (b:Nat) {r g n o:Int} {a:Option Addr} {l c:Nat} (ht:tmps[2]?.getD undef=.pointer (some ⟨b,0,none⟩)) (h:Blk w b 31 (faA r g n o (.slice a l c))) :
  (results Tryz.f58 tmps).run Tryz.prog w=.ok (.agg #[.int .u64 r,.int .i64 g,.int .i64 n,.int .i64 o,.slice a l c]) w:=by
 obtain ⟨⟨c0,c1,c2,c3,c4⟩,-⟩:=h.fair
 simp [results,Tryz.results58,go_sem,ht,c0,c1,c2,c3,c4]
theorem resFa18 (tmps:Array Value) (w:World) (b:Nat) {r g n o:Int} {a:Option Addr} {l c:Nat} (ht:tmps[2]?.getD undef=.pointer (some ⟨b,0,none⟩)) (h:Blk w b 31 (faA r g n o (.slice a l c))) :
  (results Tryz.f60 tmps).run Tryz.prog w=.ok (.agg #[.int .u64 r,.int .i64 g,.int .i64 n,.int .i64 o,.slice a l c]) w:=by
 obtain ⟨⟨c0,c1,c2,c3,c4⟩,-⟩:=h.fair
 simp [results,Tryz.results60,go_sem,ht,c0,c1,c2,c3,c4]
set_option maxRecDepth 20000 in
set_option maxHeartbeats 1000000 in
theorem shut_ok (r g nn o:Int) (a:Option Addr) (c:Nat) (F:List Ln) (w:World) (h:LsR w a c F) (hf:Few F) :
  Calls Tryz.prog 58 #[.agg #[.int .u64 r,.int .i64 g,.int .i64 nn,.int .i64 o,.slice a F.length c]] w fun e w'=>(∃ v,e=.returned v∧FaS (fun j=>j<w.heap.size) w' r g nn 0 (trm F 0) v)∧Below w.heap.size w w':=by
 obtain ⟨w2,hw2⟩:∃ w2,w2=(w.alloc (.cells #[.int .u64 r,.int .i64 g,.int .i64 nn,.int .i64 o,.slice a F.length c] 31)).alloc (.cells #[.int .u64 0,.int .i64 0,.int .i64 0,.int .i64 0,.slice none 0 0] 31):=⟨_,rfl⟩
 have BX:=boxes w 31 31 #[.int .u64 r,.int .i64 g,.int .i64 nn,.int .i64 o,.slice a F.length c] #[.int .u64 0,.int .i64 0,.int .i64 0,.int .i64 0,.slice none 0 0]
 rw [←hw2] at BX
 obtain ⟨B,N1,N2⟩:=BX
 have HF:Hd (Few F):=⟨hf⟩
 have hl:=hf.len
 obtain ⟨⟨x0,x1,x2,x3,x4⟩,-⟩:=Blk.fair N1
 obtain ⟨n,hn⟩:∃ n,F.length=n:=⟨_,rfl⟩
 have HL:Hd (F.length=n):=⟨hn⟩
 have HN:Hd (LsR w2 a c F∧Below w.heap.size w w2∧Blk w2 w.heap.size 31 (faA r g nn o (.slice a n c))∧Blk w2 (w.heap.size+1) 31 (faA 0 0 0 0 (.slice none 0 0))):=⟨h.carry B,B,by rw [←hn];exact N1,N2⟩
 rw [hn] at hl hw2 x4 ⊢
 clear hn N1 N2 B h hf
 go_enter Tryz.func58,Tryz.ntmps58
 go_upto_region 1 with fail
 rw [←hw2]
 clear hw2
 have CP:=fcopied_ok r g nn o a c F w2 HN.out.1 HF.out
 rw [HL.out] at CP
 obtain ⟨A,hA⟩:∃ A,A=w.heap.size:=⟨_,rfl⟩
 have HA:Hd (A=w.heap.size):=⟨hA⟩
 rw [←hA] at HN x0 x1 x2 x3 x4 ⊢
 clear hA
 have h2A:A+2≤w2.heap.size:=by have:=HN.out.2.2.2.lt;omega
 go_wp2_with fail
 go_at_call 74
 refine CP.mono ?_
 rintro e w3 ⟨⟨v3,rfl,v,rfl,o3⟩,b3⟩
 obtain ⟨a3,c3,e3,r3⟩:=o3.st (S:=fun j=>j<A+2) (fun j hj e=>by have:j<A+2:=e;omega)
 rw [HL.out] at e3
 subst e3
 clear x0 x1 x2 x3 x4 CP
 obtain ⟨w4,hw4⟩:∃ w4,w4=w3.alloc (.cells #[.int .u64 r,.int .i64 g,.int .i64 nn,.int .i64 0,.slice a3 n c3] 31):=⟨_,rfl⟩
 have B4:Below w3.heap.size w3 w4:=by rw [hw4];exact alloc_below _ _
 have TR:=trimmed_ok (fun j=>j<A+2) r g nn 0 a3 c3 F w4 (r3.next (Kept.of_below B4 _))  HF.out
 rw [HL.out] at TR
 have H5:Hd (Below A w w4∧Blk w4 (A+1) 31 (faA 0 0 0 0 (.slice none 0 0))∧A+1<w4.heap.size):=by
  have b1:=HN.out.2.1.trans ((b3.mono (show A≤w2.heap.size by omega)).trans (B4.mono (show A≤w3.heap.size by have:=b3.size;omega)))
  have b2:=(HN.out.2.2.2.kept (Kept.of_below b3 (fun _=>False)) id).kept (Kept.of_below B4 (fun _=>False)) id
  exact ⟨⟨b1,b2,b2.lt⟩⟩
 clear o3 r3 b3 B4 HN
 go_wp2_with fail
 rw [←hw4]
 clear hw4
 refine TR.mono ?_
 rintro e w5 ⟨⟨v5,rfl,a5,c5,rfl,r5⟩,b5⟩
 have NR:=H5.out.2.1.kept (Kept.of_below b5 (fun _=>False)) id
 obtain ⟨⟨y0,y1,y2,y3,y4⟩,yf0,yf1,yf2,yf3,yf4⟩:=NR.fair
 obtain ⟨q2,k2⟩:=fair_set NR r g nn 0 (.slice a5 (trm F 0).length c5)
 have HE:Hd (_∧_∧_):=⟨q2,(r5.next (k2.mono (T:=fun j=>j<A+2) (fun j _ e=>by have:j=A+1:=e;omega))).low (T:=fun j=>j<A) (fun j _ h=>by have:j<A:=h;show j<A+2;omega),(H5.out.1.trans (b5.mono (by have:=H5.out.2.2;omega))).trans (k2.below (B:=A) (by have:=NR.lt;omega) (fun j e=>by omega))⟩
 clear TR r5 b5 NR q2 k2
 go_wp2_with fail
 refine bodyPost_ret (resFa17 _ _ _ rfl HE.out.1) rfl ?_
 rw [←HA.out]
 exact ⟨⟨_,rfl,_,_,rfl,HE.out.2.1⟩,HE.out.2.2⟩
set_option maxRecDepth 20000 in
set_option maxHeartbeats 1000000 in
theorem rshut_ok (r g nn o:Int) (a:Option Addr) (c:Nat) (F:List Ln) (w:World) (h:LsR w a c F) (hf:Few F) :
  Calls Tryz.prog 60 #[.agg #[.int .u64 r,.int .i64 g,.int .i64 nn,.int .i64 o,.slice a F.length c]] w fun e w'=>(∃ v,e=.returned v∧FaS (fun j=>j<w.heap.size) w' r g nn 0 (trm F 0) v)∧Below w.heap.size w w':=by
 obtain ⟨w2,hw2⟩:∃ w2,w2=(w.alloc (.cells #[.int .u64 r,.int .i64 g,.int .i64 nn,.int .i64 o,.slice a F.length c] 31)).alloc (.cells #[.int .u64 0,.int .i64 0,.int .i64 0,.int .i64 0,.slice none 0 0] 31):=⟨_,rfl⟩
 have BX:=boxes w 31 31 #[.int .u64 r,.int .i64 g,.int .i64 nn,.int .i64 o,.slice a F.length c] #[.int .u64 0,.int .i64 0,.int .i64 0,.int .i64 0,.slice none 0 0]
 rw [←hw2] at BX
 obtain ⟨B,N1,N2⟩:=BX
 have HF:Hd (Few F):=⟨hf⟩
 have hl:=hf.len
 obtain ⟨⟨x0,x1,x2,x3,x4⟩,-⟩:=Blk.fair N1
 obtain ⟨n,hn⟩:∃ n,F.length=n:=⟨_,rfl⟩
 have HL:Hd (F.length=n):=⟨hn⟩
 have HN:Hd (LsR w2 a c F∧Below w.heap.size w w2∧Blk w2 w.heap.size 31 (faA r g nn o (.slice a n c))∧Blk w2 (w.heap.size+1) 31 (faA 0 0 0 0 (.slice none 0 0))):=⟨h.carry B,B,by rw [←hn];exact N1,N2⟩
 rw [hn] at hl hw2 x4 ⊢
 clear hn N1 N2 B h hf
 go_enter Tryz.func60,Tryz.ntmps60
 go_upto_region 1 with fail
 rw [←hw2]
 clear hw2
 have CP:=rcopy_ok r g nn o a c F w2 HN.out.1 HF.out
 rw [HL.out] at CP
 obtain ⟨A,hA⟩:∃ A,A=w.heap.size:=⟨_,rfl⟩
 have HA:Hd (A=w.heap.size):=⟨hA⟩
 rw [←hA] at HN x0 x1 x2 x3 x4 ⊢
 clear hA
 have h2A:A+2≤w2.heap.size:=by have:=HN.out.2.2.2.lt;omega
 go_wp2_with fail
 go_at_call 32
 refine CP.mono ?_
 rintro e w3 ⟨⟨v3,rfl,v,rfl,o3⟩,b3⟩
 obtain ⟨a3,c3,e3,r3⟩:=o3.st (S:=fun j=>j<A+2) (fun j hj e=>by have:j<A+2:=e;omega)
 rw [HL.out] at e3
 subst e3
 clear x0 x1 x2 x3 x4 CP
 obtain ⟨w4,hw4⟩:∃ w4,w4=w3.alloc (.cells #[.int .u64 r,.int .i64 g,.int .i64 nn,.int .i64 0,.slice a3 n c3] 31):=⟨_,rfl⟩
 have B4:Below w3.heap.size w3 w4:=by rw [hw4];exact alloc_below _ _
 have TR:=rtrim_ok (fun j=>j<A+2) r g nn 0 a3 c3 F w4 (r3.next (Kept.of_below B4 _)) (fun j e=>by have:j<A+2:=e;have:=B4.size;have:=b3.size;omega) HF.out
 rw [HL.out] at TR
 have H5:Hd (Below A w w4∧Blk w4 (A+1) 31 (faA 0 0 0 0 (.slice none 0 0))∧A+1<w4.heap.size):=by
  have b1:=HN.out.2.1.trans ((b3.mono (show A≤w2.heap.size by omega)).trans (B4.mono (show A≤w3.heap.size by have:=b3.size;omega)))
  have b2:=(HN.out.2.2.2.kept (Kept.of_below b3 (fun _=>False)) id).kept (Kept.of_below B4 (fun _=>False)) id
  exact ⟨⟨b1,b2,b2.lt⟩⟩
 clear o3 r3 b3 B4 HN
 go_wp2_with fail
 rw [←hw4]
 clear hw4
 refine TR.mono ?_
 rintro e w5 ⟨⟨v5,rfl,a5,c5,rfl,r5⟩,b5⟩
 have NR:=H5.out.2.1.kept (Kept.of_below b5 (fun _=>False)) id
 obtain ⟨⟨y0,y1,y2,y3,y4⟩,yf0,yf1,yf2,yf3,yf4⟩:=NR.fair
 obtain ⟨q2,k2⟩:=fair_set NR r g nn 0 (.slice a5 (trm F 0).length c5)
 have HE:Hd (_∧_∧_):=⟨q2,(r5.next (k2.mono (T:=fun j=>j<A+2) (fun j _ e=>by have:j=A+1:=e;omega))).low (T:=fun j=>j<A) (fun j _ h=>by have:j<A:=h;show j<A+2;omega),(H5.out.1.trans (b5.mono (by have:=H5.out.2.2;omega))).trans (k2.below (B:=A) (by have:=NR.lt;omega) (fun j e=>by omega))⟩
 clear TR r5 b5 NR q2 k2
 go_wp2_with fail
 refine bodyPost_ret (resFa18 _ _ _ rfl HE.out.1) rfl ?_
 rw [←HA.out]
 exact ⟨⟨_,rfl,_,_,rfl,HE.out.2.1⟩,HE.out.2.2⟩
end Go.Proofs.YtlgibnmoogbdcaaGreat
