/-
  Lanes that are shaped anew, by the reference.
  Who is next, by the program and by the reference.
-/
import Derived.Test.YtlgibnmoogbdcaaR12
import Derived.Test.YtlgibnmoogbdcaaR8
namespace Go.Proofs.Ytlgibnmoogbdcaa
open Go.RowKit
theorem fair_nums {w:World} {b:Nat} {r g n o:Int} {v:Value} (h:Blk w b 33 (faA r g n o v)) (g' n' o':Int) :
  Blk (((w.setCell ⟨b,3,none⟩ (.int .i64 o')).setCell ⟨b,1,none⟩ (.int .i64 g')).setCell ⟨b,2,none⟩ (.int .i64 n')) b 33 (faA r g' n' o' v)∧Kept (fun k=>k=b) w (((w.setCell ⟨b,3,none⟩ (.int .i64 o')).setCell ⟨b,1,none⟩ (.int .i64 g')).setCell ⟨b,2,none⟩ (.int .i64 n')):=by
 refine ⟨?_,(((Kept.refl (fun k=>k=b) w).setCell _ _ (.inl rfl)).setCell _ _ (.inl rfl)).setCell _ _ (.inl rfl)⟩
 have:=((h.set 3 (.int .i64 o')).set 1 (.int .i64 g')).set 2 (.int .i64 n')
 simpa [faA] using this
set_option maxRecDepth 20000 in
set_option maxHeartbeats 1000000 in
theorem rshape_no (r g nn o o' g' n':Int) (a:Option Addr) (c:Nat) (F:List Ln) (w:World) (h:¬ Good o' g' n') :
  Calls Try.prog 65 #[.agg #[.int .u64 r,.int .i64 g,.int .i64 nn,.int .i64 o,.slice a F.length c],.int .i64 o',.int .i64 g',.int .i64 n'] w fun e w'=>e=.returned (.tuple #[faZ,.int .i64 1])∧Below w.heap.size w w':=by
 obtain ⟨w2,hw2⟩:∃ w2,w2=(w.alloc (.cells #[.int .u64 r,.int .i64 g,.int .i64 nn,.int .i64 o,.slice a F.length c] 33)).alloc (.cells #[.int .u64 0,.int .i64 0,.int .i64 0,.int .i64 0,.slice none 0 0] 33):=⟨_,rfl⟩
 have BX:=boxes w 33 33 #[.int .u64 r,.int .i64 g,.int .i64 nn,.int .i64 o,.slice a F.length c] #[.int .u64 0,.int .i64 0,.int .i64 0,.int .i64 0,.slice none 0 0]
 rw [←hw2] at BX
 obtain ⟨B,N1,N2⟩:=BX
 have WR:=wrong_ok o' g' n' w2
 rw [decide_eq_true h] at WR
 obtain ⟨⟨y0,y1,y2,y3,y4⟩,yf0,yf1,yf2,yf3,yf4⟩:=Blk.fair N2
 obtain ⟨q2,k2⟩:=fair_set N2 0 0 0 0 (.slice none 0 0)
 have HE:Hd (_∧_):=⟨q2,B.trans (k2.below B.size (fun j e=>by omega))⟩
 clear B N1 N2 q2 k2 h
 generalize F.length=n at *
 go_enter Try.func65,Try.ntmps65
 go_upto_region 1 with fail
 rw [←hw2]
 clear hw2
 go_wp2_with fail
 go_at_call 43
 refine WR.mono ?_
 rintro e w3 ⟨rfl,rfl⟩
 go_wp2_with fail
 refine bodyPost_ret (resFn15 _ _ _ (.int .i64 1) rfl rfl HE.out.1) rfl ?_
 exact ⟨rfl,HE.out.2⟩
set_option maxRecDepth 20000 in
set_option maxHeartbeats 2000000 in
theorem rshape_yes (r g nn o g' n':Int) (m:Nat) (a:Option Addr) (c:Nat) (F:List Ln) (w:World) (h:LsR w a c F) (hf:Few F) (hg:Good m g' n') :
  Calls Try.prog 65 #[.agg #[.int .u64 r,.int .i64 g,.int .i64 nn,.int .i64 o,.slice a F.length c],.int .i64 m,.int .i64 g',.int .i64 n'] w fun e w'=>(∃ v,e=.returned (.tuple #[v,.int .i64 0])∧FaS (fun j=>j<w.heap.size) w' r g' n' m (trm (shF F m) m) v)∧Below w.heap.size w w':=by
 obtain ⟨w2,hw2⟩:∃ w2,w2=(w.alloc (.cells #[.int .u64 r,.int .i64 g,.int .i64 nn,.int .i64 o,.slice a F.length c] 33)).alloc (.cells #[.int .u64 0,.int .i64 0,.int .i64 0,.int .i64 0,.slice none 0 0] 33):=⟨_,rfl⟩
 have BX:=boxes w 33 33 #[.int .u64 r,.int .i64 g,.int .i64 nn,.int .i64 o,.slice a F.length c] #[.int .u64 0,.int .i64 0,.int .i64 0,.int .i64 0,.slice none 0 0]
 rw [←hw2] at BX
 obtain ⟨B,N1,N2⟩:=BX
 have WR:=wrong_ok m g' n' w2
 rw [decide_eq_false (fun x=>x hg)] at WR
 have HF:Hd (Few F):=⟨hf⟩
 have hlen:=hf.len
 have hm:m≤64:=by have:=hg.1;omega
 have CP:=rcopy_ok r g nn o a c F w2 (h.carry B) hf
 obtain ⟨n,hn⟩:∃ n,F.length=n:=⟨_,rfl⟩
 have HL:Hd (F.length=n):=⟨hn⟩
 obtain ⟨⟨x0,x1,x2,x3,x4⟩,-⟩:=Blk.fair N1
 have HN:Hd (Below w.heap.size w w2∧Blk w2 (w.heap.size+1) 33 (faA 0 0 0 0 (.slice none 0 0))):=⟨B,N2⟩
 have hs:=N2.lt
 rw [hn] at hlen hw2 CP x4 ⊢
 clear hn B N1 N2 h hf hg
 go_enter Try.func65,Try.ntmps65
 go_upto_region 1 with fail
 rw [←hw2]
 clear hw2
 obtain ⟨A,hA⟩:∃ A,A=w.heap.size:=⟨_,rfl⟩
 have HA:Hd (A=w.heap.size):=⟨hA⟩
 rw [←hA] at HN hs x0 x1 x2 x3 x4 ⊢
 clear hA
 go_wp2_with fail
 go_at_call 43
 refine WR.mono ?_
 rintro e w3 ⟨rfl,rfl⟩
 clear WR
 go_wp2_with fail
 go_at_call 23
 refine CP.mono ?_
 rintro e w5 ⟨⟨v5,rfl,u5,rfl,o5⟩,b5⟩
 clear CP x0 x1 x2 x3 x4
 obtain ⟨a5,c5,e5,-⟩:=o5.read
 rw [HL.out] at e5
 subst e5
 obtain ⟨w6,hw6⟩:∃ w6,w6=w5.alloc (.cells #[.int .u64 r,.int .i64 g,.int .i64 nn,.int .i64 o,.slice a5 n c5] 33):=⟨_,rfl⟩
 have B6:Below w5.heap.size w5 w6:=by rw [hw6];exact alloc_below _ _
 have N6:Blk w6 w5.heap.size 33 (faA r g nn o (.slice a5 n c5)):=by rw [hw6];exact Blk.new _ _ _
 have b36:Below w3.heap.size w3 w6:=b5.trans (B6.mono b5.size)
 have hs5:=b5.size
 have hs6:=b36.size
 have H6:Hd (Below A w w6∧Blk w6 (A+1) 33 (faA 0 0 0 0 (.slice none 0 0))∧Blk w6 w5.heap.size 33 (faA r g nn o (.slice a5 n c5))∧OwL w6 w3.heap.size (.slice a5 n c5) F) :=
  ⟨HN.out.1.trans (b36.mono (show A≤w3.heap.size by omega)),HN.out.2.kept (Kept.of_below b36 (fun _=>False)) id,N6,o5.kept (Kept.of_below B6 (fun _=>False)) (fun _ _ h=>h)⟩
 clear o5 b5 B6 N6 b36 HN
 go_upto_region 4 with fail
 rw [←hw6]
 clear hw6
 have hlt6:w5.heap.size<w6.heap.size:=H6.out.2.2.1.lt
 generalize w5.heap.size=y at *
 go_loopw [] (fun wr=>∃ (j:Nat) (a':Option Addr) (c':Nat),(j=0∨n+j≤m)∧Blk wr y 33 (faA r g nn o (.slice a' (n+j) c'))∧OwL wr w3.heap.size (.slice a' (n+j) c') (F++List.replicate j lnZ)∧Below A w wr∧Blk wr (A+1) 33 (faA 0 0 0 0 (.slice none 0 0))) (fun wr=>match wr.cell? ⟨y,4,none⟩ with | some (.slice _ k _)=>m - k | _=>0)
 case atStart=>exact ⟨0,a5,c5,.inl rfl,H6.out.2.2.1,by rw [List.replicate_zero,List.append_nil];exact H6.out.2.2.2,H6.out.1,H6.out.2.1⟩
 case round =>
  clear H6
  obtain ⟨j,a',c',hj,NY,OL,BW,NR⟩:=hrel
  have hyr:=NY.lt
  obtain ⟨⟨x0,x1,x2,x3,x4⟩,xf0,xf1,xf2,xf3,xf4⟩:=NY.fair
  by_cases hlt:n+j<m
  ·have hrep:F++List.replicate (j+1) lnZ=F++List.replicate j lnZ ++ [lnZ]:=by rw [List.append_assoc,← List.replicate_succ']
   obtain ⟨w7,hw7⟩:∃ w7,w7=wr.alloc (.cells #[.int .u64 0,.slice none 0 0] 55):=⟨_,rfl⟩
   have B7:Below wr.heap.size wr w7:=by rw [hw7];exact alloc_below _ _
   have N7:Blk w7 wr.heap.size 55 (lnA 0 (.slice none 0 0)):=by rw [hw7];exact Blk.new _ _ _
   have hsz:w3.heap.size≤w7.heap.size:=by have:=B7.size;omega
   have hnL:Hd ((F++List.replicate j lnZ).length=n+j):=⟨by rw [List.length_append,List.length_replicate,HL.out]⟩
   have H7:Hd (OwL w7 w3.heap.size (.slice a' (n+j) c') (F++List.replicate j lnZ)∧RowR w7 (some ⟨wr.heap.size,0,none⟩) (zCs [lzZ])∧Below A w w7∧Blk w7 (A+1) 33 (faA 0 0 0 0 (.slice none 0 0))∧Blk w7 y 33 (faA r g nn o (.slice a' (n+j) c'))) :=
    ⟨OL.kept (Kept.of_below B7 (fun _=>False)) (fun _ _ h=>h),lane_row N7 _ rfl,BW.trans (B7.mono (by omega)),NR.kept (Kept.of_below B7 (fun _=>False)) id,NY.kept (Kept.of_below B7 (fun _=>False)) id⟩
   have HAP:Hd (∀ v8 w8,OwL w8 w3.heap.size v8 (F++List.replicate j lnZ ++ [lzZ].map Prod.fst)→w7.grownBy w8 (Value.ownBlock (.slice a' (n+j) c'))→∃ a8 c8,v8=.slice a8 (n+(j+1)) c8∧Below A w w8∧Blk w8 (A+1) 33 (faA 0 0 0 0 (.slice none 0 0))∧Blk w8 y 33 (faA r g nn o (.slice a' (n+j) c'))∧OwL w8 w3.heap.size (.slice a8 (n+(j+1)) c8) (F++List.replicate (j+1) lnZ)):=⟨fun v8 w8 o8 g8=>by
    have K:Kept (fun k=>Value.ownBlock (.slice a' (n+j) c')=some k) w7 w8:=Kept.of_grown g8 (fun k e=>e)
    rw [hrep]
    have o8:OwL w8 w3.heap.size v8 (F++List.replicate j lnZ ++ [lnZ]):=o8
    obtain ⟨a8,c8,e8,-⟩:=o8.read
    rw [List.length_append,hnL.out] at e8
    have e8:v8=.slice a8 (n+(j+1)) c8:=e8
    subst e8
    exact ⟨a8,c8,rfl,H7.out.2.2.1.grown g8 (by have:=H7.out.2.2.2.1.lt;omega) (fun q e=>by have:=(H7.out.1.lt q e).1;omega),H7.out.2.2.2.1.kept K (H7.out.1.off H7.out.2.2.2.1),H7.out.2.2.2.2.kept K (H7.out.1.off H7.out.2.2.2.2),o8⟩⟩
   obtain ⟨⟨-,-,-,-,z4⟩,-⟩:=H7.out.2.2.2.2.fair
   clear NY OL BW NR B7 N7
   subst hw7
   go_wp2_with (at_builtin;refine wpl_own rfl _ _ rfl w3.heap.size _ (F++List.replicate j lnZ) [lzZ] rfl H7.out.1 (some ⟨wr.heap.size,0,none⟩) 1 1 rfl rfl (by decide) (fun e=>by cases e) H7.out.2.1 (fun z hz=>by rw [List.mem_singleton.1 hz];exact World.ownsRow_nil _ _ _ _) (by have:=hnL.out;simp at *;omega) hsz ?_;intro v8 w8 o8 g8;obtain ⟨a8,c8,rfl,b8,nr8,n8,O8⟩:=HAP.out v8 w8 o8 g8;clear o8 g8;obtain ⟨⟨p0,p1,p2,p3,p4⟩,pf0,pf1,pf2,pf3,pf4⟩:=n8.fair;obtain ⟨q9,k9⟩:=fair_lanes n8 (.slice a8 (n+(j+1)) c8);have W9:=q9.cellv (v:=.slice a8 (n+(j+1)) c8) 4 rfl;have HP:Hd (_∧_∧_∧_):=⟨b8.trans (k9.below (B:=A) (by have:=nr8.lt;omega) (fun j e=>by omega)),nr8.kept k9 (by omega),O8.other n8 k9,q9⟩;clear b8 nr8 n8 O8 q9 k9)
   go_roundw
   case rel=>exact ⟨j+1,a8,c8,.inr (by omega),HP.out.2.2.2,HP.out.2.2.1,HP.out.1,HP.out.2.1⟩
   case measure=>rw [W9,x4];simp;omega
  ·have HSH:Hd (F++List.replicate j lnZ=shF F m∧(shF F m).length=n+j):=by
    have e1:j=m - n:=by omega
    have e2:F++List.replicate j lnZ=shF F m:=by unfold shF;rw [HL.out,e1]
    exact ⟨⟨e2,by rw [←e2,List.length_append,List.length_replicate,HL.out]⟩⟩
   rw [HSH.out.1] at OL
   obtain ⟨q8,k8⟩:=fair_nums NY g' n' m
   obtain ⟨⟨z0,z1,z2,z3,z4⟩,-⟩:=q8.fair
   have HP:Hd (Below A w _∧Blk _ (A+1) 33 (faA 0 0 0 0 (.slice none 0 0))∧OwL _ w3.heap.size (.slice a' (n+j) c') (shF F m)):=⟨BW.trans (k8.below (B:=A) (by have:=NR.lt;omega) (fun j e=>by omega)),NR.kept k8 (by omega),OL.other NY k8⟩
   clear NY OL BW NR q8 k8
   go_wp2_with fail
   go_at_call 87
   obtain ⟨a9,c9,e9,st9⟩:=HP.out.2.2.st (S:=fun j=>j<A+2) (fun j hj e=>by have:j<A+2:=e;omega)
   rw [HSH.out.2] at e9
   obtain ⟨rfl,rfl⟩:a'=a9∧c'=c9:=by injection e9 with x1 x2 x3;exact ⟨x1,x3⟩
   have TR:=rtrim_ok (fun j=>j<A+2) r g' n' m _ _ (shF F m) _ st9 (fun j e=>by have:j<A+2:=e;have:=HP.out.2.1.lt;omega) (HF.out.sh hm)
   rw [HSH.out.2] at TR
   clear st9 e9
   refine TR.mono ?_
   rintro e w10 ⟨⟨v10,rfl,a10,c10,rfl,r10⟩,b10⟩
   have NR:=HP.out.2.1.kept (Kept.of_below b10 (fun _=>False)) id
   obtain ⟨⟨y0,y1,y2,y3',y4⟩,yf0,yf1,yf2,yf3,yf4⟩:=NR.fair
   obtain ⟨q2,k2⟩:=fair_set NR r g' n' m (.slice a10 (trm (shF F m) m).length c10)
   have HE:Hd (_∧_∧_):=⟨q2,(r10.next (k2.mono (T:=fun j=>j<A+2) (fun j _ e=>by have:j=A+1:=e;omega))).low (T:=fun j=>j<A) (fun j _ h=>by have:j<A:=h;show j<A+2;omega),(HP.out.1.trans (b10.mono (by have:=HP.out.2.1.lt;omega))).trans (k2.below (B:=A) (by have:=NR.lt;omega) (fun j e=>by omega))⟩
   clear TR r10 b10 NR q2 k2 HP
   go_wp2_with fail
   refine bodyPost_ret (resFn15 _ _ _ (.int .i64 0) rfl rfl HE.out.1) rfl ?_
   rw [←HA.out]
   exact ⟨⟨_,rfl,_,_,rfl,HE.out.2.1⟩,HE.out.2.2⟩
def nI (b:Int):Int:=if b<0 then 0 else b
def nL (F:List Ln) (g b:Int):Int:=if b<0 then 0 else fN g (gl F b.toNat)
def nB (b:Int):Bool:=decide (0≤b)
theorem nB_yes {b:Int} (h:¬ b<0):nB b=true:=decide_eq_true (by omega)
theorem nB_no {b:Int} (h:b<0):nB b=false:=decide_eq_false (by omega)
theorem nL_yes {F:List Ln} {g b:Int} (h:¬ b<0):nL F g b=fN g (gl F b.toNat):=if_neg h
theorem nxF_yes {F:List Ln} {g:Int} {k:Nat} (h:(gl F k).L≠[]∧(nxF F g k<0∨fN g (gl F k)<fN g (gl F (nxF F g k).toNat))):nxF F g (k+1)=k:=if_pos h
theorem nxF_no {F:List Ln} {g:Int} {k:Nat} (h:¬ ((gl F k).L≠[]∧(nxF F g k<0∨fN g (gl F k)<fN g (gl F (nxF F g k).toNat)))):nxF F g (k+1)=nxF F g k:=if_neg h
theorem nI_nat (k:Nat):nI (k:Int)=k:=if_neg (by omega)
theorem nL_nat (F:List Ln) (g:Int) (k:Nat):nL F g (k:Int)=fN g (gl F k):=by rw [nL_yes (by omega),Int.toNat_natCast]
theorem nB_nat (k:Nat):nB (k:Int)=true:=nB_yes (by omega)
set_option maxRecDepth 20000 in
set_option maxHeartbeats 1000000 in
theorem next_ok (r g nn o:Int) (a:Option Addr) (c:Nat) (F:List Ln) (w:World) (h:LsR w a c F) (hf:Few F) :
  Calls Try.prog 15 #[.agg #[.int .u64 r,.int .i64 g,.int .i64 nn,.int .i64 o,.slice a F.length c]] w fun e w'=>e=.returned (.tuple #[.int .i64 (nI (nxt F g)),.bool (nB (nxt F g))])∧Below w.heap.size w w':=by
 obtain ⟨w1,hw1⟩:∃ w1,w1=w.alloc (.cells #[.int .u64 r,.int .i64 g,.int .i64 nn,.int .i64 o,.slice a F.length c] 33):=⟨_,rfl⟩
 have B:Below w.heap.size w w1:=by rw [hw1];exact alloc_below _ _
 have N1:Blk w1 w.heap.size 33 (faA r g nn o (.slice a F.length c)):=by rw [hw1];exact Blk.new _ _ _
 have HF:Hd (Few F):=⟨hf⟩
 have hl:=hf.len
 obtain ⟨n,hn⟩:∃ n,F.length=n:=⟨_,rfl⟩
 have HL:Hd (F.length=n):=⟨hn⟩
 have H:Hd (LsR w1 a c F∧Below w.heap.size w w1∧Blk w1 w.heap.size 33 (faA r g nn o (.slice a n c))):=⟨h.carry B,B,by rw [←hn];exact N1⟩
 rw [hn] at hl hw1
 clear B N1 h hf
 obtain ⟨⟨c0,c1,c2,c3,c4⟩,-⟩:=H.out.2.2.fair
 have HX:Hd (nxt F g=nxF F g n):=⟨by unfold nxt;rw [hn]⟩
 rw [hn,HX.out]
 clear hn HX
 go_enter Try.func15,Try.ntmps15
 go_upto_region 1 with fail
 rw [←hw1]
 clear hw1
 obtain ⟨A,hA⟩:∃ A,A=w.heap.size:=⟨_,rfl⟩
 have HA:Hd (A=w.heap.size):=⟨hA⟩
 rw [←hA] at H c0 c1 c2 c3 c4 ⊢
 clear hA
 go_wp2
 clear c0 c1 c2 c3 c4
 go_loopw [4,5,6,14] (fun v4 v5 v6 i wr=>∃ k:Nat,k≤n∧v4=.int .i64 (nI (nxF F g k))∧v5=.int .u64 (nL F g (nxF F g k))∧v6=.bool (nB (nxF F g k))∧i=.int .i64 k∧Below w1.heap.size w1 wr) (fun _ _ _ i _=>n - (intOf i).toNat)
 case atStart=>exact ⟨0,Nat.zero_le _,rfl,rfl,rfl,rfl,Below.refl _ _⟩
 case round =>
  obtain ⟨k,hk,rfl,rfl,rfl,rfl,p3⟩:=hrel
  by_cases hlt:k<n
  ·have NA:=H.out.2.2.kept (Kept.of_below p3 (fun _=>False)) id
   obtain ⟨b1,o1,a1,c1,rfl,hb1,d0,d1,s1⟩:=(H.out.1.carry p3).at (k:=k) (by rw [HL.out];exact hlt)
   have HK:=HF.out.at k
   obtain ⟨wa,hwa⟩:∃ wa,wa=wr.alloc (.cells #[.int .u64 (gl F k).s,.slice a1 (gl F k).L.length c1] 55):=⟨_,rfl⟩
   have BA:Below wr.heap.size wr wa:=by rw [hwa];exact alloc_below _ _
   have FN:=finish_ok (gl F k).s a1 c1 (gl F k).L g wa HK.1 (s1.carry BA).2.2 (by omega)
   rw [show finI (gl F k).s (gl F k).L g=fN g (gl F k) from rfl] at FN
   obtain ⟨⟨x0,x1,x2,x3,x4⟩,-⟩:=(NA.kept (Kept.of_below BA (fun _=>False)) id).fair
   have P:Hd (Below w1.heap.size w1 wr∧Below wr.heap.size wr wa):=⟨p3,BA⟩
   have H0:Hd ((gl F k).L=[]→nxF F g (k+1)=nxF F g k):=⟨fun e=>nxF_no (fun h=>h.1 e)⟩
   have H1:Hd ((gl F k).L≠[]→nxF F g k<0→nxF F g (k+1)=k):=⟨fun e e2=>nxF_yes ⟨e,.inl e2⟩⟩
   have H2:Hd ((gl F k).L≠[]→¬ nxF F g k<0→fN g (gl F k)<nL F g (nxF F g k)→nxF F g (k+1)=k):=⟨fun e e2 e3=>nxF_yes ⟨e,.inr (by rw [nL_yes e2] at e3;exact e3)⟩⟩
   have H3:Hd (¬ nxF F g k<0→¬ fN g (gl F k)<nL F g (nxF F g k)→nxF F g (k+1)=nxF F g k):=⟨fun e2 e3=>nxF_no (fun h=>by rw [nL_yes e2] at e3;rcases h.2 with h | h;exact e2 h;exact e3 h)⟩
   have HNL:Hd (nL F g (k:Int)=fN g (gl F k)):=⟨nL_nat F g k⟩
   have hfw:=fN_word (g:=g) HK.1
   clear p3 BA NA s1 hb1
   obtain ⟨xl,hxl⟩:∃ xl,xl=nL F g (nxF F g k):=⟨_,rfl⟩
   have HXL:Hd (xl=nL F g (nxF F g k)):=⟨hxl⟩
   rw [←hxl] at H2 H3 ⊢
   clear hxl
   by_cases e1:(gl F k).L=[]
   ·have HX:Hd (nxF F g (k+1)=nxF F g k):=⟨H0.out e1⟩
    rw [e1] at d1 FN hwa
    rw [hasI_nil] at FN
    simp only [List.length_nil] at d1 FN hwa
    clear H0 H1 H2 H3 e1
    generalize fN g (gl F k)=xk at *
    generalize (gl F k).s=z at *
    subst hwa
    go_wp2_with (go_at_call 35;refine FN.mono ?_;rintro e w4 ⟨rfl,b4⟩;clear FN)
    go_roundw
    case rel=>exact ⟨k+1,by omega,by rw [HX.out],by rw [HX.out,HXL.out],by rw [HX.out],by go_num,P.out.1.trans ((P.out.2.trans (b4.mono P.out.2.size)).mono P.out.1.size)⟩
    case measure=>simp [intOf];omega
   ·rw [hasI_some e1] at FN
    by_cases e2:nxF F g k<0
    ·have HX:Hd (nxF F g (k+1)=k):=⟨H1.out e1 e2⟩
     rw [nB_no e2]
     have HI:Hd (nI (nxF F g k)=0):=⟨if_pos e2⟩
     clear H0 H1 H2 H3 e1 e2
     generalize fN g (gl F k)=xk at *
     generalize (gl F k).L.length=m at *
     generalize (gl F k).s=z at *
     subst hwa
     go_wp2_with (go_at_call 35;refine FN.mono ?_;rintro e w4 ⟨rfl,b4⟩;clear FN)
     go_roundw
     case rel=>exact ⟨k+1,by omega,by rw [HX.out,nI_nat],by rw [HX.out,HNL.out],by rw [HX.out,nB_nat],by go_num,P.out.1.trans ((P.out.2.trans (b4.mono P.out.2.size)).mono P.out.1.size)⟩
     case measure=>simp [intOf];omega
    ·rw [nB_yes e2]
     by_cases e3:fN g (gl F k)<xl
     ·have HX:Hd (nxF F g (k+1)=k):=⟨H2.out e1 e2 e3⟩
      clear H0 H1 H2 H3 e1 e2
      generalize fN g (gl F k)=xk at *
      generalize (gl F k).L.length=m at *
      generalize (gl F k).s=z at *
      subst hwa
      go_wp2_with (go_at_call 35;refine FN.mono ?_;rintro e w4 ⟨rfl,b4⟩;clear FN)
      go_roundw
      case rel=>exact ⟨k+1,by omega,by rw [HX.out,nI_nat],by rw [HX.out,HNL.out],by rw [HX.out,nB_nat],by go_num,P.out.1.trans ((P.out.2.trans (b4.mono P.out.2.size)).mono P.out.1.size)⟩
      case measure=>simp [intOf];omega
     ·have HX:Hd (nxF F g (k+1)=nxF F g k∧nB (nxF F g k)=true∧xl=nL F g (nxF F g k)):=⟨H3.out e2 e3,nB_yes e2,HXL.out⟩
      clear H0 H1 H2 H3 e1 e2
      generalize fN g (gl F k)=xk at *
      generalize (gl F k).L.length=m at *
      generalize (gl F k).s=z at *
      subst hwa
      go_wp2_with (go_at_call 35;refine FN.mono ?_;rintro e w4 ⟨rfl,b4⟩;clear FN)
      go_roundw
      case rel=>exact ⟨k+1,by omega,by rw [HX.out.1],by rw [HX.out.1,HX.out.2.2],by rw [HX.out.1,HX.out.2.1],by go_num,P.out.1.trans ((P.out.2.trans (b4.mono P.out.2.size)).mono P.out.1.size)⟩
      case measure=>simp [intOf];omega
  ·obtain rfl:k=n:=by omega
   go_wp2
   go_ret2
   exact ⟨rfl,by rw [←HA.out];exact H.out.2.1.trans (p3.mono (by rw [HA.out];exact H.out.2.1.size))⟩
theorem nI_neg {b:Int} (h:b<0):nI b=0:=if_pos h
set_option maxRecDepth 20000 in
set_option maxHeartbeats 2000000 in
theorem rnext_ok (r g nn o:Int) (a:Option Addr) (c:Nat) (F:List Ln) (w:World) (h:LsR w a c F) (hf:Few F) :
  Calls Try.prog 62 #[.agg #[.int .u64 r,.int .i64 g,.int .i64 nn,.int .i64 o,.slice a F.length c]] w fun e w'=>e=.returned (.tuple #[.int .i64 (nI (nxt F g)),.bool (nB (nxt F g))])∧Below w.heap.size w w':=by
 obtain ⟨w1,hw1⟩:∃ w1,w1=w.alloc (.cells #[.int .u64 r,.int .i64 g,.int .i64 nn,.int .i64 o,.slice a F.length c] 33):=⟨_,rfl⟩
 have B:Below w.heap.size w w1:=by rw [hw1];exact alloc_below _ _
 have N1:Blk w1 w.heap.size 33 (faA r g nn o (.slice a F.length c)):=by rw [hw1];exact Blk.new _ _ _
 have HF:Hd (Few F):=⟨hf⟩
 have hl:=hf.len
 obtain ⟨n,hn⟩:∃ n,F.length=n:=⟨_,rfl⟩
 have HL:Hd (F.length=n):=⟨hn⟩
 have H:Hd (LsR w1 a c F∧Below w.heap.size w w1∧Blk w1 w.heap.size 33 (faA r g nn o (.slice a n c))):=⟨h.carry B,B,by rw [←hn];exact N1⟩
 rw [hn] at hl hw1
 clear B N1 h hf
 obtain ⟨⟨c0,c1,c2,c3,c4⟩,-⟩:=H.out.2.2.fair
 have HX0:Hd (∀ b,IsN F g 0 n b→nxt F g=b):=⟨fun b hb=>(nxt_is F g).uniq (by rw [hn];exact hb)⟩
 rw [hn]
 clear hn
 go_enter Try.func62,Try.ntmps62
 go_upto_region 1 with fail
 rw [←hw1]
 clear hw1
 obtain ⟨A,hA⟩:∃ A,A=w.heap.size:=⟨_,rfl⟩
 have HA:Hd (A=w.heap.size):=⟨hA⟩
 rw [←hA] at H c0 c1 c2 c3 c4 ⊢
 clear hA
 have hs1:A≤w1.heap.size:=by rw [HA.out];exact H.out.2.1.size
 go_wp2
 clear c0 c1 c2 c3 c4
 go_loopw [4,5] (fun v4 i wr=>∃ (q:Nat) (b:Int),q≤n∧i=.int .i64 ((q:Int) - 1)∧v4=.int .i64 b∧Hd (IsN F g q n b)∧Below w1.heap.size w1 wr) (fun _ i _=>(intOf i+1).toNat)
 case atStart=>exact ⟨n,-1,Nat.le_refl _,rfl,rfl,⟨.inl ⟨rfl,fun q h1 h2=>absurd h2 (by omega)⟩⟩,Below.refl _ _⟩
 case round =>
  obtain ⟨q,b,hq,rfl,rfl,HI,p3⟩:=hrel
  have hbr:b=-1∨(0≤b∧b<(n:Int)):=by
   rcases HI.out.rng with h | ⟨p,h1,h2,h3,-⟩
   ·exact .inl h
   ·exact .inr (by omega)
  have NA:=H.out.2.2.kept (Kept.of_below p3 (fun _=>False)) id
  by_cases hq0:q=0
  ·subst hq0
   have HX:=HX0.out b HI.out
   by_cases e2:b<0
   ·have HR:Hd (nI (nxt F g)=0∧nB (nxt F g)=false):=⟨by rw [HX];exact nI_neg e2,by rw [HX];exact nB_no e2⟩
    clear HX hbr HI NA
    go_wp2
    go_ret2
    exact ⟨by rw [HR.out.1,HR.out.2];rfl,by rw [←HA.out];exact H.out.2.1.trans (p3.mono hs1)⟩
   ·have HR:Hd (nI (nxt F g)=b∧nB (nxt F g)=true):=⟨by rw [HX];exact if_neg e2,by rw [HX];exact nB_yes e2⟩
    clear HX hbr HI NA
    go_wp2
    go_ret2
    exact ⟨by rw [HR.out.1,HR.out.2];rfl,by rw [←HA.out];exact H.out.2.1.trans (p3.mono hs1)⟩
  ·obtain ⟨j,rfl⟩:∃ j,q=j+1:=⟨q - 1,by omega⟩
   rw [show ((j+1:Nat):Int) - 1=j by omega]
   have hjn:j<n:=by omega
   obtain ⟨b1,o1,a1,c1,rfl,hb1,d0,d1,s1⟩:=(H.out.1.carry p3).at (k:=j) (by rw [HL.out];omega)
   obtain ⟨⟨x0,x1,x2,x3,x4⟩,-⟩:=NA.fair
   have HK:=HF.out.at j
   have HB:=HI.out.back (show j<n by omega)
   have BD:Hd (Below wr.heap.size wr wr.drew):=⟨(Below.refl _ _).drew⟩
   have X4w3:Hd (∀ Y,Below wr.drew.heap.size wr.drew Y→Y.cell? ⟨A,4,none⟩=some (.slice (some ⟨b1,o1,none⟩) n c)):=⟨fun Y q=>(NA.kept (Kept.of_below (BD.out.trans q) (fun _=>False)) id).cellv 4 rfl⟩
   have X1w3:Hd (∀ Y,Below wr.drew.heap.size wr.drew Y→Y.cell? ⟨A,1,none⟩=some (.int .i64 g)):=⟨fun Y q=>(NA.kept (Kept.of_below (BD.out.trans q) (fun _=>False)) id).cellv 1 rfl⟩
   have XDw3:Hd (∀ Y,Below wr.drew.heap.size wr.drew Y→Y.cell? ⟨b1,o1+j*2,none⟩=some (.int .u64 (gl F j).s)∧Y.cell? ⟨b1,o1+j*2+1,none⟩=some (.slice a1 (gl F j).L.length c1)):=⟨fun Y q=>by
    have K:Kept (fun _=>False) wr Y:=Kept.of_below (BD.out.trans q) _
    exact ⟨(World.cell?_of_block (K.block b1 hb1 id)).trans d0,(World.cell?_of_block (K.block b1 hb1 id)).trans d1⟩⟩
   have FN:Hd (Calls Try.prog 85 #[.agg #[.int .u64 (gl F j).s,.slice a1 (gl F j).L.length c1],.int .i64 g] wr.drew fun e w'=>e=.returned (.tuple #[.int .u64 (fN g (gl F j)),.bool (hasI (gl F j).L)])∧Below wr.drew.heap.size wr.drew w'):=⟨rfinish_ok (gl F j).s a1 c1 (gl F j).L g wr.drew HK.1 (s1.carry BD.out).2.2 (by omega)⟩
   have P:Hd (Below w1.heap.size w1 wr):=⟨p3⟩
   have H2:Hd (LsR wr (some ⟨b1,o1,none⟩) c F∧Blk wr A 33 (faA r g nn o (.slice (some ⟨b1,o1,none⟩) n c))):=⟨H.out.1.carry p3,NA⟩
   have hfw:=fN_word (g:=g) HK.1
   clear NA p3 s1 hb1 HI x0 x1 x2 x3 x4 d0 d1
   by_cases e1:(gl F j).L=[]
   ·rw [if_neg (fun h=>h.1 e1)] at HB
    have HX:Hd (IsN F g j n b):=⟨HB⟩
    have FN:=FN.out
    rw [e1] at XDw3 FN
    rw [hasI_nil] at FN
    simp only [List.length_nil] at XDw3 FN
    clear HB e1 H2
    generalize fN g (gl F j)=xk at *
    generalize (gl F j).s=z at *
    go_upto_region 5 with fail
    refine AnyG.start (T:=fun Y=>Below wr.drew.heap.size wr.drew Y) (U:=fun _=>True) (j0:=100) (by kernel_rfl) ?_
    generalize wr.drew=w3 at *
    have Rw3:Below w3.heap.size w3 w3:=Below.refl _ _
    refine .tq 0 19 Rw3 ?_;simp only [oqA,oqB,oqC]
    refine .tq 1 20 Rw3 ?_ (hy:=fun w hSw=>by have s:=X4w3.out w hSw;go_simp;rfl);simp only [oqA,oqB,oqC]
    refine .tq 2 21 Rw3 ?_;simp only [oqA,oqB,oqC]
    refine .tq 3 22 Rw3 ?_;simp only [oqA,oqB,oqC]
    refine .tq 4 23 Rw3 ?_ (hy:=fun w hSw=>by have s:=XDw3.out w hSw;go_simp;rfl);simp only [oqA,oqB,oqC]
    refine .tq 5 24 Rw3 ?_;simp only [oqA,oqB,oqC]
    refine .tq 6 25 Rw3 ?_ (hy:=fun w hSw=>by have s:=X1w3.out w hSw;go_simp;rfl);simp only [oqA,oqB,oqC]
    refine AnyG.ready (rs:=[7]) (by kernel_rfl) (by simp) ?_
    refine AllG.cons rfl (fun K hK=>?_) AllG.nil
    go_simp
    refine FN.mono ?_
    rintro e w4 ⟨rfl,b4⟩
    refine hK.out _ _ ⟨b4,fun _=>trivial⟩ ?_
    clear hK K FN
    refine .tq 8 18 b4 ?_;simp only [oqA,oqB,oqC]
    refine .tq 9 27 b4 ?_;simp only [oqA,oqB,oqC]
    refine .tq 10 28 b4 ?_;simp only [oqA,oqB,oqC]
    refine .tq 11 6 b4 ?_;simp only [oqA,oqB,oqC]
    refine .tq 12 7 b4 ?_;simp only [oqA,oqB,oqC]
    refine AnyG.done (by kernel_rfl) ?_ _
    clear Rw3 X4w3 XDw3 X1w3
    go_wp2
    go_roundw
    case rel=>exact ⟨j,b,by omega,rfl,rfl,HX,P.out.trans ((BD.out.trans (b4.mono BD.out.size)).mono P.out.size)⟩
    case measure=>simp [intOf]
   ·have FN:=FN.out
    rw [hasI_some e1] at FN
    by_cases e2:b<0
    ·rw [if_pos ⟨e1,fun h=>by omega⟩] at HB
     have HX:Hd (IsN F g j n j):=⟨HB⟩
     clear HB e1 H2
     generalize fN g (gl F j)=xk at *
     generalize (gl F j).L.length=m at *
     generalize (gl F j).s=z at *
     go_upto_region 5 with fail
     refine AnyG.start (T:=fun Y=>Below wr.drew.heap.size wr.drew Y) (U:=fun _=>True) (j0:=100) (by kernel_rfl) ?_
     generalize wr.drew=w3 at *
     have Rw3:Below w3.heap.size w3 w3:=Below.refl _ _
     refine .tq 0 19 Rw3 ?_;simp only [oqA,oqB,oqC]
     refine .tq 1 20 Rw3 ?_ (hy:=fun w hSw=>by have s:=X4w3.out w hSw;go_simp;rfl);simp only [oqA,oqB,oqC]
     refine .tq 2 21 Rw3 ?_;simp only [oqA,oqB,oqC]
     refine .tq 3 22 Rw3 ?_;simp only [oqA,oqB,oqC]
     refine .tq 4 23 Rw3 ?_ (hy:=fun w hSw=>by have s:=XDw3.out w hSw;go_simp;rfl);simp only [oqA,oqB,oqC]
     refine .tq 5 24 Rw3 ?_;simp only [oqA,oqB,oqC]
     refine .tq 6 25 Rw3 ?_ (hy:=fun w hSw=>by have s:=X1w3.out w hSw;go_simp;rfl);simp only [oqA,oqB,oqC]
     refine AnyG.ready (rs:=[7]) (by kernel_rfl) (by simp) ?_
     refine AllG.cons rfl (fun K hK=>?_) AllG.nil
     go_simp
     refine FN.mono ?_
     rintro e w4 ⟨rfl,b4⟩
     refine hK.out _ _ ⟨b4,fun _=>trivial⟩ ?_
     clear hK K FN
     refine .tq 8 18 b4 ?_;simp only [oqA,oqB,oqC]
     refine .tq 9 27 b4 ?_;simp only [oqA,oqB,oqC]
     refine .tq 10 28 b4 ?_;simp only [oqA,oqB,oqC]
     refine .tq 11 6 b4 ?_;simp only [oqA,oqB,oqC]
     refine .tq 12 7 b4 ?_;simp only [oqA,oqB,oqC]
     refine AnyG.done (by kernel_rfl) ?_ _
     clear Rw3 X4w3 XDw3 X1w3
     go_wp2
     go_roundw
     case rel=>exact ⟨j,j,by omega,rfl,rfl,HX,P.out.trans ((BD.out.trans (b4.mono BD.out.size)).mono P.out.size)⟩
     case measure=>simp [intOf]
    ·obtain ⟨p,rfl⟩:∃ p:Nat,b=p:=⟨b.toNat,by omega⟩
     have hpn:p<n:=by omega
     rw [Int.toNat_natCast] at HB
     obtain ⟨b2,o2,a2,c2,e9,hb2,f0,f1,s2⟩:=H2.out.1.at (k:=p) (by rw [HL.out];exact hpn)
     obtain ⟨rfl,rfl⟩:b1=b2∧o1=o2:=by injection e9 with e9;injection e9 with y1 y2;exact ⟨y1,y2⟩
     have HK2:=HF.out.at p
     have hfw2:=fN_word (g:=g) HK2.1
     have F2:Hd (∀ w4,Below wr.drew.heap.size wr.drew w4→(w4.cell? ⟨A,4,none⟩=some (.slice (some ⟨b1,o1,none⟩) n c)∧w4.cell? ⟨A,1,none⟩=some (.int .i64 g)∧w4.cell? ⟨b1,o1+p*2,none⟩=some (.int .u64 (gl F p).s)∧w4.cell? ⟨b1,o1+p*2+1,none⟩=some (.slice a2 (gl F p).L.length c2))∧Calls Try.prog 85 #[.agg #[.int .u64 (gl F p).s,.slice a2 (gl F p).L.length c2],.int .i64 g] w4.drew fun e w'=>e=.returned (.tuple #[.int .u64 (fN g (gl F p)),.bool (hasI (gl F p).L)])∧Below w4.drew.heap.size w4.drew w'):=⟨fun w4 q=>by
      have q0:Below wr.heap.size wr w4:=BD.out.trans q
      obtain ⟨⟨-,y1,-,-,y4⟩,-⟩:=(H2.out.2.kept (Kept.of_below q0 (fun _=>False)) id).fair
      have K:Kept (fun _=>False) wr w4:=Kept.of_below q0 _
      exact ⟨⟨y4,y1,(World.cell?_of_block (K.block b1 hb2 id)).trans f0,(World.cell?_of_block (K.block b1 hb2 id)).trans f1⟩,rfinish_ok (gl F p).s a2 c2 (gl F p).L g w4.drew HK2.1 ((s2.carry q0).carry (Below.refl _ _).drew).2.2 (by omega)⟩⟩
     have HP9:Hd (IsN F g j n (if (gl F j).L≠[]∧¬ (0≤(p:Int)∧fN g (gl F p)<fN g (gl F j)) then (j:Int) else p)):=⟨HB⟩
     by_cases e3:fN g (gl F p)<fN g (gl F j)
     ·rw [if_neg (fun h=>h.2 ⟨by omega,e3⟩)] at HB
      have HX:Hd (IsN F g j n p):=⟨HB⟩
      clear HB e1 e2 H2 HP9 f0 f1 s2 hb2 hbr
      generalize fN g (gl F j)=xk at *
      generalize fN g (gl F p)=xp at *
      generalize (gl F j).L.length=m at *
      generalize (gl F j).s=z at *
      generalize (gl F p).L.length=m2 at *
      generalize (gl F p).s=z2 at *
      generalize hasI (gl F p).L=bb at *
      go_upto_region 5 with fail
      refine AnyG.start (T:=fun Y=>Below wr.drew.heap.size wr.drew Y) (U:=fun _=>True) (j0:=100) (by kernel_rfl) ?_
      generalize wr.drew=w3 at *
      have Rw3:Below w3.heap.size w3 w3:=Below.refl _ _
      refine .tq 0 19 Rw3 ?_;simp only [oqA,oqB,oqC]
      refine .tq 1 20 Rw3 ?_ (hy:=fun w hSw=>by have s:=X4w3.out w hSw;go_simp;rfl);simp only [oqA,oqB,oqC]
      refine .tq 2 21 Rw3 ?_;simp only [oqA,oqB,oqC]
      refine .tq 3 22 Rw3 ?_;simp only [oqA,oqB,oqC]
      refine .tq 4 23 Rw3 ?_ (hy:=fun w hSw=>by have s:=XDw3.out w hSw;go_simp;rfl);simp only [oqA,oqB,oqC]
      refine .tq 5 24 Rw3 ?_;simp only [oqA,oqB,oqC]
      refine .tq 6 25 Rw3 ?_ (hy:=fun w hSw=>by have s:=X1w3.out w hSw;go_simp;rfl);simp only [oqA,oqB,oqC]
      refine AnyG.ready (rs:=[7]) (by kernel_rfl) (by simp) ?_
      refine AllG.cons rfl (fun K hK=>?_) AllG.nil
      go_simp
      refine FN.mono ?_
      rintro e w4 ⟨rfl,b4⟩
      refine hK.out _ _ ⟨b4,fun _=>trivial⟩ ?_
      clear hK K FN
      refine .tq 8 18 b4 ?_;simp only [oqA,oqB,oqC]
      refine .tq 9 27 b4 ?_;simp only [oqA,oqB,oqC]
      refine .tq 10 28 b4 ?_;simp only [oqA,oqB,oqC]
      refine .tq 11 6 b4 ?_;simp only [oqA,oqB,oqC]
      refine .tq 12 7 b4 ?_;simp only [oqA,oqB,oqC]
      refine AnyG.done (by kernel_rfl) ?_ _
      clear Rw3 X4w3 XDw3 X1w3
      obtain ⟨FC,FN2⟩:=F2.out w4 b4
      have BD4:Hd (Below w4.heap.size w4 w4.drew):=⟨(Below.refl _ _).drew⟩
      have X4w5:Hd (∀ Y,Below w4.drew.heap.size w4.drew Y→Y.cell? ⟨A,4,none⟩=some (.slice (some ⟨b1,o1,none⟩) n c)):=⟨fun Y q=>((F2.out Y (b4.trans ((BD4.out.trans q).mono b4.size))).1).1⟩
      have X1w5:Hd (∀ Y,Below w4.drew.heap.size w4.drew Y→Y.cell? ⟨A,1,none⟩=some (.int .i64 g)):=⟨fun Y q=>((F2.out Y (b4.trans ((BD4.out.trans q).mono b4.size))).1).2.1⟩
      have XDw5:Hd (∀ Y,Below w4.drew.heap.size w4.drew Y→Y.cell? ⟨b1,o1+p*2,none⟩=some (.int .u64 z2)∧Y.cell? ⟨b1,o1+p*2+1,none⟩=some (.slice a2 m2 c2)):=⟨fun Y q=>((F2.out Y (b4.trans ((BD4.out.trans q).mono b4.size))).1).2.2⟩
      clear F2 FC
      go_upto_region 8 with fail
      refine AnyG.start (T:=fun Y=>Below w4.drew.heap.size w4.drew Y) (U:=fun _=>True) (j0:=100) (by kernel_rfl) ?_
      generalize w4.drew=w5 at *
      have Rw5:Below w5.heap.size w5 w5:=Below.refl _ _
      refine .tq 0 34 Rw5 ?_;simp only [oqA,oqB,oqC]
      refine .tq 1 35 Rw5 ?_ (hy:=fun w hSw=>by have s:=X4w5.out w hSw;go_simp;rfl);simp only [oqA,oqB,oqC]
      refine .tq 2 36 Rw5 ?_;simp only [oqA,oqB,oqC]
      refine .tq 3 37 Rw5 ?_;simp only [oqA,oqB,oqC]
      refine .tq 4 38 Rw5 ?_ (hy:=fun w hSw=>by have s:=XDw5.out w hSw;go_simp;rfl);simp only [oqA,oqB,oqC]
      refine .tq 5 39 Rw5 ?_;simp only [oqA,oqB,oqC]
      refine .tq 6 40 Rw5 ?_ (hy:=fun w hSw=>by have s:=X1w5.out w hSw;go_simp;rfl);simp only [oqA,oqB,oqC]
      refine AnyG.ready (rs:=[7]) (by kernel_rfl) (by simp) ?_
      refine AllG.cons rfl (fun K hK=>?_) AllG.nil
      go_simp
      refine FN2.mono ?_
      rintro e w6 ⟨rfl,b6⟩
      refine hK.out _ _ ⟨b6,fun _=>trivial⟩ ?_
      clear hK K FN2
      refine .tq 8 33 b6 ?_;simp only [oqA,oqB,oqC]
      refine .tq 9 42 b6 ?_;simp only [oqA,oqB,oqC]
      refine .tq 10 43 b6 ?_;simp only [oqA,oqB,oqC]
      refine .tq 11 8 b6 ?_;simp only [oqA,oqB,oqC]
      refine .tq 12 9 b6 ?_;simp only [oqA,oqB,oqC]
      refine AnyG.done (by kernel_rfl) ?_ _
      clear Rw5 X4w5 XDw5 X1w5
      go_wp2
      go_roundw
      case rel=>exact ⟨j,p,by omega,rfl,rfl,HX,P.out.trans ((BD.out.trans ((b4.trans ((BD4.out.trans (b6.mono BD4.out.size)).mono b4.size)).mono BD.out.size)).mono P.out.size)⟩
      case measure=>simp [intOf]
     ·rw [if_pos ⟨e1,fun h=>e3 h.2⟩] at HB
      have HX:Hd (IsN F g j n j):=⟨HB⟩
      clear HB e1 e2 H2 HP9 f0 f1 s2 hb2 hbr
      generalize fN g (gl F j)=xk at *
      generalize fN g (gl F p)=xp at *
      generalize (gl F j).L.length=m at *
      generalize (gl F j).s=z at *
      generalize (gl F p).L.length=m2 at *
      generalize (gl F p).s=z2 at *
      generalize hasI (gl F p).L=bb at *
      go_upto_region 5 with fail
      refine AnyG.start (T:=fun Y=>Below wr.drew.heap.size wr.drew Y) (U:=fun _=>True) (j0:=100) (by kernel_rfl) ?_
      generalize wr.drew=w3 at *
      have Rw3:Below w3.heap.size w3 w3:=Below.refl _ _
      refine .tq 0 19 Rw3 ?_;simp only [oqA,oqB,oqC]
      refine .tq 1 20 Rw3 ?_ (hy:=fun w hSw=>by have s:=X4w3.out w hSw;go_simp;rfl);simp only [oqA,oqB,oqC]
      refine .tq 2 21 Rw3 ?_;simp only [oqA,oqB,oqC]
      refine .tq 3 22 Rw3 ?_;simp only [oqA,oqB,oqC]
      refine .tq 4 23 Rw3 ?_ (hy:=fun w hSw=>by have s:=XDw3.out w hSw;go_simp;rfl);simp only [oqA,oqB,oqC]
      refine .tq 5 24 Rw3 ?_;simp only [oqA,oqB,oqC]
      refine .tq 6 25 Rw3 ?_ (hy:=fun w hSw=>by have s:=X1w3.out w hSw;go_simp;rfl);simp only [oqA,oqB,oqC]
      refine AnyG.ready (rs:=[7]) (by kernel_rfl) (by simp) ?_
      refine AllG.cons rfl (fun K hK=>?_) AllG.nil
      go_simp
      refine FN.mono ?_
      rintro e w4 ⟨rfl,b4⟩
      refine hK.out _ _ ⟨b4,fun _=>trivial⟩ ?_
      clear hK K FN
      refine .tq 8 18 b4 ?_;simp only [oqA,oqB,oqC]
      refine .tq 9 27 b4 ?_;simp only [oqA,oqB,oqC]
      refine .tq 10 28 b4 ?_;simp only [oqA,oqB,oqC]
      refine .tq 11 6 b4 ?_;simp only [oqA,oqB,oqC]
      refine .tq 12 7 b4 ?_;simp only [oqA,oqB,oqC]
      refine AnyG.done (by kernel_rfl) ?_ _
      clear Rw3 X4w3 XDw3 X1w3
      obtain ⟨FC,FN2⟩:=F2.out w4 b4
      have BD4:Hd (Below w4.heap.size w4 w4.drew):=⟨(Below.refl _ _).drew⟩
      have X4w5:Hd (∀ Y,Below w4.drew.heap.size w4.drew Y→Y.cell? ⟨A,4,none⟩=some (.slice (some ⟨b1,o1,none⟩) n c)):=⟨fun Y q=>((F2.out Y (b4.trans ((BD4.out.trans q).mono b4.size))).1).1⟩
      have X1w5:Hd (∀ Y,Below w4.drew.heap.size w4.drew Y→Y.cell? ⟨A,1,none⟩=some (.int .i64 g)):=⟨fun Y q=>((F2.out Y (b4.trans ((BD4.out.trans q).mono b4.size))).1).2.1⟩
      have XDw5:Hd (∀ Y,Below w4.drew.heap.size w4.drew Y→Y.cell? ⟨b1,o1+p*2,none⟩=some (.int .u64 z2)∧Y.cell? ⟨b1,o1+p*2+1,none⟩=some (.slice a2 m2 c2)):=⟨fun Y q=>((F2.out Y (b4.trans ((BD4.out.trans q).mono b4.size))).1).2.2⟩
      clear F2 FC
      go_upto_region 8 with fail
      refine AnyG.start (T:=fun Y=>Below w4.drew.heap.size w4.drew Y) (U:=fun _=>True) (j0:=100) (by kernel_rfl) ?_
      generalize w4.drew=w5 at *
      have Rw5:Below w5.heap.size w5 w5:=Below.refl _ _
      refine .tq 0 34 Rw5 ?_;simp only [oqA,oqB,oqC]
      refine .tq 1 35 Rw5 ?_ (hy:=fun w hSw=>by have s:=X4w5.out w hSw;go_simp;rfl);simp only [oqA,oqB,oqC]
      refine .tq 2 36 Rw5 ?_;simp only [oqA,oqB,oqC]
      refine .tq 3 37 Rw5 ?_;simp only [oqA,oqB,oqC]
      refine .tq 4 38 Rw5 ?_ (hy:=fun w hSw=>by have s:=XDw5.out w hSw;go_simp;rfl);simp only [oqA,oqB,oqC]
      refine .tq 5 39 Rw5 ?_;simp only [oqA,oqB,oqC]
      refine .tq 6 40 Rw5 ?_ (hy:=fun w hSw=>by have s:=X1w5.out w hSw;go_simp;rfl);simp only [oqA,oqB,oqC]
      refine AnyG.ready (rs:=[7]) (by kernel_rfl) (by simp) ?_
      refine AllG.cons rfl (fun K hK=>?_) AllG.nil
      go_simp
      refine FN2.mono ?_
      rintro e w6 ⟨rfl,b6⟩
      refine hK.out _ _ ⟨b6,fun _=>trivial⟩ ?_
      clear hK K FN2
      refine .tq 8 33 b6 ?_;simp only [oqA,oqB,oqC]
      refine .tq 9 42 b6 ?_;simp only [oqA,oqB,oqC]
      refine .tq 10 43 b6 ?_;simp only [oqA,oqB,oqC]
      refine .tq 11 8 b6 ?_;simp only [oqA,oqB,oqC]
      refine .tq 12 9 b6 ?_;simp only [oqA,oqB,oqC]
      refine AnyG.done (by kernel_rfl) ?_ _
      clear Rw5 X4w5 XDw5 X1w5
      go_wp2
      go_roundw
      case rel=>exact ⟨j,j,by omega,rfl,rfl,HX,P.out.trans ((BD.out.trans ((b4.trans ((BD4.out.trans (b6.mono BD4.out.size)).mono b4.size)).mono BD.out.size)).mono P.out.size)⟩
      case measure=>simp [intOf]
end Go.Proofs.Ytlgibnmoogbdcaa
