/-
  A step of a level, by the reference.
  A step of a level, by the reference, whichever it is.
-/
import Derived.Test.YtlgibnmoogbdcaaR40
namespace Go.Proofs.Ytlgibnmoogbdcaa
open Go.RowKit
set_option maxRecDepth 20000 in
set_option maxHeartbeats 2000000 in
theorem tstep_done_no (s:St) (o:Od) (ax:Option Addr) (cx:Nat) (ar:Option Addr) (cr:Nat) (ah:Option Addr) (nh ch:Nat) (w:World) (S:Nat→Prop) (hx:StR S w ax cx s.x.F) (hr:TkS S w ar cr s.run) (hS:∀ j,S j→j<w.heap.size) (hf:Few s.x.F) (hl:(allT s).length≤1800) (hc:nh≤ch) (hok:dnO s o.n=false) (hk:(IntKind.u64.wrap o.d).tmod 8=3) :
  Calls Try.prog 11 #[.agg (stB s (.slice ax s.x.F.length cx) (.slice ar s.run.length cr)),.agg (opQ o ah nh ch)] w fun e w'=>StA S w' (s,[]) e∧Below w.heap.size w w':=by
 obtain ⟨w2,hw2⟩:∃ w2,w2=((w.alloc (.cells (stB s (.slice ax s.x.F.length cx) (.slice ar s.run.length cr)) 36)).alloc (.cells (opQ o ah nh ch) 45)).alloc (.cells zsT 36):=⟨_,rfl⟩
 have BX:=boxes3 w 36 45 36 (stB s (.slice ax s.x.F.length cx) (.slice ar s.run.length cr)) (opQ o ah nh ch) zsT
 rw [←hw2] at BX
 obtain ⟨B,N1,N2,N3⟩:=BX
 have hs2:w2.heap.size=w.heap.size+3:=by rw [hw2];simp
 obtain ⟨A,hA⟩:∃ A,A=w.heap.size:=⟨_,rfl⟩
 have HA:Hd (A=w.heap.size):=⟨hA⟩
 rw [←hA] at B N1 N2 N3 hs2
 have HSZ:Hd (∀ j,S j→j<A):=⟨fun j e=>by rw [hA];exact hS j e⟩
 have hBw:Below w.heap.size w w2:=by rw [←hA];exact B
 have hlr:s.run.length≤1800∧(flt s.x.F).length≤1800:=by rw [allT_len] at hl;omega
 have W0:Blk w2 (A+1) 45 (opA o ah nh ch):=N2
 obtain ⟨o0,o1,o2,o3,o4,o5,o6,o7,o8,o9,o10,o11,o12,o13,o14,o15,o16,o17,o18⟩:=W0.opv
 obtain ⟨n2,hn2,hn4,hn3⟩:∃ n2:Nat,min (nh:Int) 20=(n2:Int)∧n2≤nh∧n2=min nh 20:=⟨min nh 20,by omega,by omega,rfl⟩
 have hcI:(n2:Int)≤(ch:Int):=by omega
 have hn0:(0:Int)≤(n2:Int):=by omega
 have HB:Hd (Below A w w2∧w2.heap.size=A+3∧Blk w2 A 36 (stB s (.slice ax s.x.F.length cx) (.slice ar s.run.length cr))∧Blk w2 (A+1+1) 36 (stB sZ (.slice none 0 0) (.slice none 0 0))):=⟨B,hs2,N1,N3⟩
 have HO:Hd (∀ W,Below A w W→StV S W s (.agg (stB s (.slice ax s.x.F.length cx) (.slice ar s.run.length cr)))):=⟨fun W b=>StV.old hx hr rfl rfl (by rw [←hA];exact b)⟩
 have hSx:∀ W:World,A+3≤W.heap.size→∀ j,Sx S A (A+3) j→j<W.heap.size:=fun W h j e=>by have:=Sx.lt (by rw [hA];exact hS) (by omega) j e (B:=A+3);omega
 have hx2:∀ W,Below A w W→StR (Sx S A (A+3)) W ax cx s.x.F:=fun W b=>hx.sx (by rw [←hA];exact b) hA
 have hr2:∀ W,Below A w W→SlR W ar cr s.run:=fun W b=>(hr.read (Kept.refl _ _)).carry (by rw [←hA];exact b)
 have CA:=rdone_st s o.n ax cx ar cr w2 (Sx S A (A+3)) (hx2 _ B) (hr2 _ B) (by omega) (hSx _ (by omega)) hf
 have e0:dnE s o.n=6:=(if_neg (by rw [hok];decide))
 rw [e0] at CA
 clear e0 hok
 obtain ⟨y,hy⟩:∃ y,y=orZ 6 ({ s with run:=drL o.n s.run }):=⟨_,rfl⟩
 obtain ⟨z,hz⟩:∃ z,z=dnT s o.n:=⟨_,rfl⟩
 have HR:=Hd.mk (And.intro hy hz)
 rw [←hy,← hz] at CA
 clear hy hz
 obtain ⟨m,hm⟩:∃ m,m=s.run.length:=⟨_,rfl⟩
 obtain ⟨n,hn⟩:∃ n,n=s.x.F.length:=⟨_,rfl⟩
 have HL:=Hd.mk (And.intro hm hn)
 rw [←hm,← hn] at HB HO CA hw2 ⊢
 clear hm hn
 clear N1 N2 N3 W0 B hx hr hs2 hBw hSx hx2 hr2 hS hl hlr hf
 go_enter Try.func11,Try.ntmps11
 go_upto_region 1 with fail
 rw [←hw2]
 clear hw2
 rw [←hA]
 clear hA
 go_upto_region 2 with fail
 go_wp2_with (refine wpl_loadSt rfl _ rfl A rfl _ HB.out.2.2.1 rfl ?_)
 go_at_call 30
 refine CA.mono ?_
 rintro e w5 ⟨⟨v5,rfl,v5e⟩,b5⟩
 clear CA o0 o1 o2 o3 o4 o5 o6 o7 o8 o9 o10 o11 o12 o13 o14 o15 o16 o17 o18
 obtain ⟨a5,c5,ar5,cr5,rfl,s5,t5⟩:=v5e
 obtain ⟨l5,hl5⟩:∃ l5,l5=y.x.F.length:=⟨_,rfl⟩
 obtain ⟨m5,hm5⟩:∃ m5,m5=y.run.length:=⟨_,rfl⟩
 have HL5:=Hd.mk (And.intro hl5 hm5)
 rw [←hl5,← hm5]
 clear hl5 hm5
 obtain ⟨w6,hw6⟩:∃ w6,w6=(w5.alloc (.cells zsT 36)).alloc (.cells #[.int .i64 0,.int .i64 0,.int .i64 0,.int .i64 0,.int .i64 0] 42):=⟨_,rfl⟩
 have BX6:=boxes w5 36 42 zsT #[.int .i64 0,.int .i64 0,.int .i64 0,.int .i64 0,.int .i64 0]
 rw [←hw6] at BX6
 obtain ⟨B6,P6,T6⟩:=BX6
 have P6:Blk w6 w5.heap.size 36 (stB sZ (.slice none 0 0) (.slice none 0 0)):=P6
 have T6:Blk w6 (w5.heap.size+1) 42 (tkA tkZ):=T6
 have b26:Below w2.heap.size w2 w6:=b5.trans (B6.mono b5.size)
 have H6:=Hd.mk (And.intro b26 (And.intro s5 (And.intro t5 (And.intro B6 (And.intro b5.size T6)))))
 clear b26 s5 t5 B6 b5 T6
 go_upto_region 13 with (rw [←hw6];refine wpl_storeSt rfl _ _ rfl w5.heap.size rfl (stB y (.slice a5 l5 c5) (.slice ar5 m5 cr5)) _ rfl P6 rfl rfl (st_one _ _ _ _ _ _ _) ?_;intro w7 n7 k7;obtain ⟨⟨e0,e1,e2,e3,e4⟩,g0,g1,g2,g3,g4⟩:=Blk.five (H6.out.2.2.2.2.2.kept k7 (by omega)))
 obtain ⟨Q8,K8⟩:=five_set (H6.out.2.2.2.2.2.kept k7 (by omega)) z
 have n8:=n7.kept K8 (by omega)
 have k78:Kept (fun j=>w5.heap.size≤j) w6 (((((w7.setCell ⟨w5.heap.size+1,0,none⟩ (.int .i64 z.id)).setCell ⟨w5.heap.size+1,1,none⟩ (.int .i64 z.wid)).setCell ⟨w5.heap.size+1,2,none⟩ (.int .i64 z.sts)).setCell ⟨w5.heap.size+1,3,none⟩ (.int .i64 z.sin)).setCell ⟨w5.heap.size+1,4,none⟩ (.int .i64 z.unt)):=(k7.mono (fun j _ e=>by omega)).trans (K8.mono (fun j _ e=>by omega))
 clear hw6 P6 e0 e1 e2 e3 e4 g0 g1 g2 g3 g4 n7 k7 K8
 generalize (((((w7.setCell ⟨w5.heap.size+1,0,none⟩ (.int .i64 z.id)).setCell ⟨w5.heap.size+1,1,none⟩ (.int .i64 z.wid)).setCell ⟨w5.heap.size+1,2,none⟩ (.int .i64 z.sts)).setCell ⟨w5.heap.size+1,3,none⟩ (.int .i64 z.sin)).setCell ⟨w5.heap.size+1,4,none⟩ (.int .i64 z.unt))=w8 at *
 have H8:Hd (Blk w8 A 36 (stB s (.slice ax n cx) (.slice ar m cr))∧Blk w8 (A+1+1) 36 (stB sZ (.slice none 0 0) (.slice none 0 0))∧Below A w w8∧A+3≤w5.heap.size∧w5.heap.size+1<w8.heap.size):=by
  have h1:=HB.out
  have h6:=H6.out
  have k26:Kept (fun _=>False) w2 w6:=Kept.of_below h6.1 _
  have hs6:=h6.1.size
  have hs5:=h6.2.2.2.2.1
  exact ⟨(h1.2.2.1.kept k26 id).kept k78 (by omega),(h1.2.2.2.kept k26 id).kept k78 (by omega),(h1.1.trans (h6.1.mono (by omega))).trans (k78.below (by omega) (fun j e=>by omega)),by omega,Q8.lt⟩
 clear Q8 n8 k78
 go_upto_region 23 with fail
 go_wp2_with (first | (refine wpl_loadSt rfl _ rfl A rfl _ H8.out.1 rfl ?_) | (refine wpl_storeSt rfl _ _ rfl (A+1+1) rfl (stB s (.slice ax n cx) (.slice ar m cr)) _ rfl H8.out.2.1 rfl rfl (st_one _ _ _ _ _ _ _) ?_;intro w9 n9 k9))
 refine bodyPost_ret (resSt11 _ _ _ rfl rfl n9) rfl ?_
 have b9:Below A w w9:=H8.out.2.2.1.trans (k9.below (by have:=H8.out.2.2.2;omega) (fun j e=>by omega))
 have q1:=HO.out w9 b9
 rw [←HA.out]
 exact ⟨⟨_,_,rfl,q1,none,0,rfl,TkS.nil _ _⟩,b9⟩
set_option maxRecDepth 20000 in
set_option maxHeartbeats 2000000 in
theorem tstep_done_yes (s:St) (o:Od) (ax:Option Addr) (cx:Nat) (ar:Option Addr) (cr:Nat) (ah:Option Addr) (nh ch:Nat) (w:World) (S:Nat→Prop) (hx:StR S w ax cx s.x.F) (hr:TkS S w ar cr s.run) (hS:∀ j,S j→j<w.heap.size) (hf:Few s.x.F) (hl:(allT s).length≤1800) (hc:nh≤ch) (hok:dnO s o.n=true) (hk:(IntKind.u64.wrap o.d).tmod 8=3) :
  Calls Try.prog 11 #[.agg (stB s (.slice ax s.x.F.length cx) (.slice ar s.run.length cr)),.agg (opQ o ah nh ch)] w fun e w'=>StA S w' ({ s with run:=drL o.n s.run },[dnT s o.n]) e∧Below w.heap.size w w':=by
 obtain ⟨w2,hw2⟩:∃ w2,w2=((w.alloc (.cells (stB s (.slice ax s.x.F.length cx) (.slice ar s.run.length cr)) 36)).alloc (.cells (opQ o ah nh ch) 45)).alloc (.cells zsT 36):=⟨_,rfl⟩
 have BX:=boxes3 w 36 45 36 (stB s (.slice ax s.x.F.length cx) (.slice ar s.run.length cr)) (opQ o ah nh ch) zsT
 rw [←hw2] at BX
 obtain ⟨B,N1,N2,N3⟩:=BX
 have hs2:w2.heap.size=w.heap.size+3:=by rw [hw2];simp
 obtain ⟨A,hA⟩:∃ A,A=w.heap.size:=⟨_,rfl⟩
 have HA:Hd (A=w.heap.size):=⟨hA⟩
 rw [←hA] at B N1 N2 N3 hs2
 have HSZ:Hd (∀ j,S j→j<A):=⟨fun j e=>by rw [hA];exact hS j e⟩
 have hBw:Below w.heap.size w w2:=by rw [←hA];exact B
 have hlr:s.run.length≤1800∧(flt s.x.F).length≤1800:=by rw [allT_len] at hl;omega
 have W0:Blk w2 (A+1) 45 (opA o ah nh ch):=N2
 obtain ⟨o0,o1,o2,o3,o4,o5,o6,o7,o8,o9,o10,o11,o12,o13,o14,o15,o16,o17,o18⟩:=W0.opv
 obtain ⟨n2,hn2,hn4,hn3⟩:∃ n2:Nat,min (nh:Int) 20=(n2:Int)∧n2≤nh∧n2=min nh 20:=⟨min nh 20,by omega,by omega,rfl⟩
 have hcI:(n2:Int)≤(ch:Int):=by omega
 have hn0:(0:Int)≤(n2:Int):=by omega
 have HB:Hd (Below A w w2∧w2.heap.size=A+3∧Blk w2 A 36 (stB s (.slice ax s.x.F.length cx) (.slice ar s.run.length cr))∧Blk w2 (A+1+1) 36 (stB sZ (.slice none 0 0) (.slice none 0 0))):=⟨B,hs2,N1,N3⟩
 have HO:Hd (∀ W,Below A w W→StV S W s (.agg (stB s (.slice ax s.x.F.length cx) (.slice ar s.run.length cr)))):=⟨fun W b=>StV.old hx hr rfl rfl (by rw [←hA];exact b)⟩
 have hSx:∀ W:World,A+3≤W.heap.size→∀ j,Sx S A (A+3) j→j<W.heap.size:=fun W h j e=>by have:=Sx.lt (by rw [hA];exact hS) (by omega) j e (B:=A+3);omega
 have hx2:∀ W,Below A w W→StR (Sx S A (A+3)) W ax cx s.x.F:=fun W b=>hx.sx (by rw [←hA];exact b) hA
 have hr2:∀ W,Below A w W→SlR W ar cr s.run:=fun W b=>(hr.read (Kept.refl _ _)).carry (by rw [←hA];exact b)
 have CA:=rdone_st s o.n ax cx ar cr w2 (Sx S A (A+3)) (hx2 _ B) (hr2 _ B) (by omega) (hSx _ (by omega)) hf
 have e0:dnE s o.n=0:=(if_pos hok)
 rw [e0] at CA
 clear e0 hok
 obtain ⟨y,hy⟩:∃ y,y=orZ 0 ({ s with run:=drL o.n s.run }):=⟨_,rfl⟩
 obtain ⟨z,hz⟩:∃ z,z=dnT s o.n:=⟨_,rfl⟩
 have HR:=Hd.mk (And.intro hy hz)
 rw [←hy,← hz] at CA
 clear hy hz
 obtain ⟨m,hm⟩:∃ m,m=s.run.length:=⟨_,rfl⟩
 obtain ⟨n,hn⟩:∃ n,n=s.x.F.length:=⟨_,rfl⟩
 have HL:=Hd.mk (And.intro hm hn)
 rw [←hm,← hn] at HB HO CA hw2 ⊢
 clear hm hn
 clear N1 N2 N3 W0 B hx hr hs2 hBw hSx hx2 hr2 hS hl hlr hf
 go_enter Try.func11,Try.ntmps11
 go_upto_region 1 with fail
 rw [←hw2]
 clear hw2
 rw [←hA]
 clear hA
 go_upto_region 2 with fail
 go_wp2_with (refine wpl_loadSt rfl _ rfl A rfl _ HB.out.2.2.1 rfl ?_)
 go_at_call 30
 refine CA.mono ?_
 rintro e w5 ⟨⟨v5,rfl,v5e⟩,b5⟩
 clear CA o0 o1 o2 o3 o4 o5 o6 o7 o8 o9 o10 o11 o12 o13 o14 o15 o16 o17 o18
 obtain ⟨a5,c5,ar5,cr5,rfl,s5,t5⟩:=v5e
 obtain ⟨l5,hl5⟩:∃ l5,l5=y.x.F.length:=⟨_,rfl⟩
 obtain ⟨m5,hm5⟩:∃ m5,m5=y.run.length:=⟨_,rfl⟩
 have HL5:=Hd.mk (And.intro hl5 hm5)
 rw [←hl5,← hm5]
 clear hl5 hm5
 obtain ⟨w6,hw6⟩:∃ w6,w6=(w5.alloc (.cells zsT 36)).alloc (.cells #[.int .i64 0,.int .i64 0,.int .i64 0,.int .i64 0,.int .i64 0] 42):=⟨_,rfl⟩
 have BX6:=boxes w5 36 42 zsT #[.int .i64 0,.int .i64 0,.int .i64 0,.int .i64 0,.int .i64 0]
 rw [←hw6] at BX6
 obtain ⟨B6,P6,T6⟩:=BX6
 have P6:Blk w6 w5.heap.size 36 (stB sZ (.slice none 0 0) (.slice none 0 0)):=P6
 have T6:Blk w6 (w5.heap.size+1) 42 (tkA tkZ):=T6
 have b26:Below w2.heap.size w2 w6:=b5.trans (B6.mono b5.size)
 have H6:=Hd.mk (And.intro b26 (And.intro s5 (And.intro t5 (And.intro B6 (And.intro b5.size T6)))))
 clear b26 s5 t5 B6 b5 T6
 go_upto_region 13 with (rw [←hw6];refine wpl_storeSt rfl _ _ rfl w5.heap.size rfl (stB y (.slice a5 l5 c5) (.slice ar5 m5 cr5)) _ rfl P6 rfl rfl (st_one _ _ _ _ _ _ _) ?_;intro w7 n7 k7;obtain ⟨⟨e0,e1,e2,e3,e4⟩,g0,g1,g2,g3,g4⟩:=Blk.five (H6.out.2.2.2.2.2.kept k7 (by omega)))
 obtain ⟨Q8,K8⟩:=five_set (H6.out.2.2.2.2.2.kept k7 (by omega)) z
 have n8:=n7.kept K8 (by omega)
 have k78:Kept (fun j=>w5.heap.size≤j) w6 (((((w7.setCell ⟨w5.heap.size+1,0,none⟩ (.int .i64 z.id)).setCell ⟨w5.heap.size+1,1,none⟩ (.int .i64 z.wid)).setCell ⟨w5.heap.size+1,2,none⟩ (.int .i64 z.sts)).setCell ⟨w5.heap.size+1,3,none⟩ (.int .i64 z.sin)).setCell ⟨w5.heap.size+1,4,none⟩ (.int .i64 z.unt)):=(k7.mono (fun j _ e=>by omega)).trans (K8.mono (fun j _ e=>by omega))
 clear hw6 P6 e0 e1 e2 e3 e4 g0 g1 g2 g3 g4 n7 k7 K8
 generalize (((((w7.setCell ⟨w5.heap.size+1,0,none⟩ (.int .i64 z.id)).setCell ⟨w5.heap.size+1,1,none⟩ (.int .i64 z.wid)).setCell ⟨w5.heap.size+1,2,none⟩ (.int .i64 z.sts)).setCell ⟨w5.heap.size+1,3,none⟩ (.int .i64 z.sin)).setCell ⟨w5.heap.size+1,4,none⟩ (.int .i64 z.unt))=w8 at *
 have H8:Hd (Blk w8 A 36 (stB s (.slice ax n cx) (.slice ar m cr))∧Blk w8 (A+1+1) 36 (stB sZ (.slice none 0 0) (.slice none 0 0))∧Below A w w8∧A+3≤w5.heap.size∧w5.heap.size+1<w8.heap.size):=by
  have h1:=HB.out
  have h6:=H6.out
  have k26:Kept (fun _=>False) w2 w6:=Kept.of_below h6.1 _
  have hs6:=h6.1.size
  have hs5:=h6.2.2.2.2.1
  exact ⟨(h1.2.2.1.kept k26 id).kept k78 (by omega),(h1.2.2.2.kept k26 id).kept k78 (by omega),(h1.1.trans (h6.1.mono (by omega))).trans (k78.below (by omega) (fun j e=>by omega)),by omega,Q8.lt⟩
 have HE:Hd (∀ w9,Kept (fun j=>j=A+1+1∨w5.heap.size≤j) w8 w9→StV S w9 y (.agg (stB y (.slice a5 l5 c5) (.slice ar5 m5 cr5)))∧Below A w w9):=⟨fun w9 k9=>by
  have h1:=HB.out
  have h6:=H6.out
  have h8:=H8.out
  have kk:=Kept.of_below h6.2.2.2.1 (Sx S A (A+3))
  have e7:∀ j,j<w5.heap.size→(Sx S A (A+3) j∨w5.heap.size≤j)→Sx S A (A+3) j:=fun j hj e=>e.elim id (fun e=>absurd e (by omega))
  have k79:=(k78.mono (T:=fun j=>Sx S A (A+3) j∨w5.heap.size≤j) (fun j _ e=>.inr e)).trans (k9.mono (fun j _ e=>e.elim (fun e=>.inl (.inr ⟨by omega,by omega⟩)) .inr))
  exact ⟨⟨a5,c5,ar5,cr5,by rw [HL5.out.1,HL5.out.2],(h6.2.1.stp kk e7).stp k79 (T:=S) (fun j _ e=>.inl (.inl e)),(h6.2.2.1.step kk e7).step k79 (T:=S) (fun j _ e=>.inl (.inl e))⟩,h8.2.2.1.trans (k9.below (by omega) (fun j e=>by omega))⟩⟩
 have T9:Hd (Blk w8.drew w5.heap.size 36 (stB y (.slice a5 l5 c5) (.slice ar5 m5 cr5))∧Blk w8.drew (w5.heap.size+1) 42 (tkA z)):=⟨n8,Q8⟩
 have M9:Hd (Blk w8.drew (A+1+1) 36 (stB sZ (.slice none 0 0) (.slice none 0 0))∧Kept (fun j=>j=A+1+1∨w5.heap.size≤j) w8 w8.drew∧A+3≤w5.heap.size∧w5.heap.size+1<w8.drew.heap.size):=⟨H8.out.2.1,Kept.of_below (Below.refl _ _).drew _,H8.out.2.2.2.1,H8.out.2.2.2.2⟩
 clear HO n8 Q8 k78
 go_upto_region 14 with fail
 refine AnyG.start (T:=fun W=>Blk W w5.heap.size 36 (stB y (.slice a5 l5 c5) (.slice ar5 m5 cr5))∧Blk W (w5.heap.size+1) 42 (tkA z)) (U:=fun _=>True) (j0:=4) (by kernel_rfl) ?_
 generalize w8.drew=w9 at *
 refine .tq (v:=.agg (stB y (.slice a5 l5 c5) (.slice ar5 m5 cr5))) 0 64 T9.out ?_ (hy:=fun w hSw=>exec_loadSt _ rfl w5.heap.size rfl _ hSw.1 rfl);simp only [oqA,oqB,oqC]
 refine .tq (v:=.agg #[.int .i64 z.id,.int .i64 z.wid,.int .i64 z.sts,.int .i64 z.sin,.int .i64 z.unt]) 1 65 T9.out ?_ (hy:=fun w hSw=>by obtain ⟨c0,c1,c2,c3,c4⟩:=(Blk.five hSw.2).1;go_simp);simp only [oqA,oqB,oqC]
 refine AnyG.ready (rs:=[2,3]) (by kernel_rfl) (by simp) ?_
 refine AllG.cons rfl (fun K hK=>?_) (AllG.cons rfl (fun K hK=>?_) (AllG.nil))
 ·skip
  go_simp
  have nq:Blk (w9.alloc (.cells #[.int .i64 z.id,.int .i64 z.wid,.int .i64 z.sts,.int .i64 z.sin,.int .i64 z.unt] 42)) w9.heap.size 42 (tkA z):=Blk.new _ _ _
  have bq:Below w9.heap.size w9 (w9.alloc (.cells #[.int .i64 z.id,.int .i64 z.wid,.int .i64 z.sts,.int .i64 z.sin,.int .i64 z.unt] 42)):=alloc_below _ _
  have T10:=And.intro (T9.out.1.kept (Kept.of_below bq (fun _=>False)) id) (T9.out.2.kept (Kept.of_below bq (fun _=>False)) id)
  refine hK.out _ _ ⟨T10,fun _=>trivial⟩ ?_
  have M10:Hd (Blk (w9.alloc (.cells #[.int .i64 z.id,.int .i64 z.wid,.int .i64 z.sts,.int .i64 z.sin,.int .i64 z.unt] 42)) (A+1+1) 36 (stB sZ (.slice none 0 0) (.slice none 0 0))∧Kept (fun j=>j=A+1+1∨w5.heap.size≤j) w8 (w9.alloc (.cells #[.int .i64 z.id,.int .i64 z.wid,.int .i64 z.sts,.int .i64 z.sin,.int .i64 z.unt] 42))∧A+3≤w9.heap.size):=⟨M9.out.1.kept (Kept.of_below bq (fun _=>False)) id,M9.out.2.1.trans (Kept.of_below bq _),by have:=M9.out;omega⟩
  clear hK K bq T9
  generalize w9.alloc _=w10 at *
  obtain ⟨gq,hgq⟩:∃ gq,gq=w9.heap.size:=⟨_,rfl⟩
  rw [←hgq] at nq M10 ⊢
  clear hgq
  refine AnyG.ready (rs:=[3]) (by kernel_rfl) (by simp) ?_
  refine AllG.cons rfl (fun K hK=>?_) (AllG.nil)
  refine step_storeSt rfl _ _ rfl (A+1+1) rfl (stB y (.slice a5 l5 c5) (.slice ar5 m5 cr5)) _ rfl M10.out.1 rfl rfl (st_one _ _ _ _ _ _ _) ?_
  intro w11 n11 k11
  have T11:=And.intro (T10.1.kept k11 (by have:=M9.out;omega)) (T10.2.kept k11 (by have:=M9.out;omega))
  refine hK.out _ _ ⟨T11,fun _=>trivial⟩ ?_
  have nq11:=nq.kept k11 (by have:=M10.out;omega)
  obtain ⟨q1,q3⟩:=HE.out w11 (M10.out.2.1.trans (k11.mono (fun j _ e=>.inl e)))
  have tq:=TkS.one (S:=S) nq11 (fun e=>by have:=HSZ.out gq e;have:=M10.out;omega)
  clear T10 nq nq11 k11
  clear hK K
  refine AnyG.ready (rs:=[4]) (by kernel_rfl) (by simp) ?_
  refine AllG.cons rfl (fun K hK=>?_) (AllG.nil)
  go_simp
  refine hK.out _ _ ⟨T11,fun _=>trivial⟩ ?_
  refine AnyG.done (by kernel_rfl) ?_ _
  clear hK K T11
  have HZ:=Hd.mk (And.intro q1 (And.intro q3 tq))
  clear q1 q3 tq
  go_wp2_with fail
  refine bodyPost_ret (resSt11 _ _ _ rfl rfl n11) rfl ?_
  obtain ⟨q1,q3,tq⟩:=HZ.out
  rw [←HA.out]
  refine ⟨⟨_,_,rfl,?_,some ⟨gq,0,none⟩,1,rfl,?_⟩,q3⟩
  ·have e:y={ s with run:=drL o.n s.run }:=HR.out.1
   rw [←e]
   exact q1
  ·rw [←HR.out.2]
   exact tq
 ·skip
  refine step_storeSt rfl _ _ rfl (A+1+1) rfl (stB y (.slice a5 l5 c5) (.slice ar5 m5 cr5)) _ rfl M9.out.1 rfl rfl (st_one _ _ _ _ _ _ _) ?_
  intro w10 n10 k10
  have T10:=And.intro (T9.out.1.kept k10 (by have:=M9.out;omega)) (T9.out.2.kept k10 (by have:=M9.out;omega))
  refine hK.out _ _ ⟨T10,fun _=>trivial⟩ ?_
  have M10:=Hd.mk (And.intro (M9.out.2.1.trans (k10.mono (T:=fun j=>j=A+1+1∨w5.heap.size≤j) (fun j _ e=>.inl e))) (show A+3≤w10.heap.size by have:=M9.out;have:=k10.size;omega))
  clear hK K T9 k10
  refine AnyG.ready (rs:=[2]) (by kernel_rfl) (by simp) ?_
  refine AllG.cons rfl (fun K hK=>?_) (AllG.nil)
  go_simp
  have nq:Blk (w10.alloc (.cells #[.int .i64 z.id,.int .i64 z.wid,.int .i64 z.sts,.int .i64 z.sin,.int .i64 z.unt] 42)) w10.heap.size 42 (tkA z):=Blk.new _ _ _
  have bq:Below w10.heap.size w10 (w10.alloc (.cells #[.int .i64 z.id,.int .i64 z.wid,.int .i64 z.sts,.int .i64 z.sin,.int .i64 z.unt] 42)):=alloc_below _ _
  have T11:=And.intro (T10.1.kept (Kept.of_below bq (fun _=>False)) id) (T10.2.kept (Kept.of_below bq (fun _=>False)) id)
  refine hK.out _ _ ⟨T11,fun _=>trivial⟩ ?_
  have n11:=n10.kept (Kept.of_below bq (fun _=>False)) id
  obtain ⟨q1,q3⟩:=HE.out _ (M10.out.1.trans (Kept.of_below bq _))
  obtain ⟨gq,hgq⟩:∃ gq,gq=w10.heap.size:=⟨_,rfl⟩
  rw [←hgq] at nq M10 ⊢
  have tq:=TkS.one (S:=S) nq (fun e=>by have:=HSZ.out gq e;have:=M10.out.2;omega)
  clear hgq bq nq n10 T10
  generalize w10.alloc _=w11 at *
  clear hK K
  refine AnyG.ready (rs:=[4]) (by kernel_rfl) (by simp) ?_
  refine AllG.cons rfl (fun K hK=>?_) (AllG.nil)
  go_simp
  refine hK.out _ _ ⟨T11,fun _=>trivial⟩ ?_
  refine AnyG.done (by kernel_rfl) ?_ _
  clear hK K T11
  have HZ:=Hd.mk (And.intro q1 (And.intro q3 tq))
  clear q1 q3 tq
  go_wp2_with fail
  refine bodyPost_ret (resSt11 _ _ _ rfl rfl n11) rfl ?_
  obtain ⟨q1,q3,tq⟩:=HZ.out
  rw [←HA.out]
  refine ⟨⟨_,_,rfl,?_,some ⟨gq,0,none⟩,1,rfl,?_⟩,q3⟩
  ·have e:y={ s with run:=drL o.n s.run }:=HR.out.1
   rw [←e]
   exact q1
  ·rw [←HR.out.2]
   exact tq
set_option maxRecDepth 20000 in
set_option maxHeartbeats 2000000 in
theorem tstep_drop_no (s:St) (o:Od) (ax:Option Addr) (cx:Nat) (ar:Option Addr) (cr:Nat) (ah:Option Addr) (nh ch:Nat) (w:World) (S:Nat→Prop) (hx:StR S w ax cx s.x.F) (hr:TkS S w ar cr s.run) (hS:∀ j,S j→j<w.heap.size) (hf:Few s.x.F) (hl:(allT s).length≤1800) (hc:nh≤ch) (hok:dpO s.x o.n=false) (hk:(IntKind.u64.wrap o.d).tmod 8=4) :
  Calls Try.prog 11 #[.agg (stB s (.slice ax s.x.F.length cx) (.slice ar s.run.length cr)),.agg (opQ o ah nh ch)] w fun e w'=>StA S w' (s,[]) e∧Below w.heap.size w w':=by
 obtain ⟨w2,hw2⟩:∃ w2,w2=((w.alloc (.cells (stB s (.slice ax s.x.F.length cx) (.slice ar s.run.length cr)) 36)).alloc (.cells (opQ o ah nh ch) 45)).alloc (.cells zsT 36):=⟨_,rfl⟩
 have BX:=boxes3 w 36 45 36 (stB s (.slice ax s.x.F.length cx) (.slice ar s.run.length cr)) (opQ o ah nh ch) zsT
 rw [←hw2] at BX
 obtain ⟨B,N1,N2,N3⟩:=BX
 have hs2:w2.heap.size=w.heap.size+3:=by rw [hw2];simp
 obtain ⟨A,hA⟩:∃ A,A=w.heap.size:=⟨_,rfl⟩
 have HA:Hd (A=w.heap.size):=⟨hA⟩
 rw [←hA] at B N1 N2 N3 hs2
 have HSZ:Hd (∀ j,S j→j<A):=⟨fun j e=>by rw [hA];exact hS j e⟩
 have hBw:Below w.heap.size w w2:=by rw [←hA];exact B
 have hlr:s.run.length≤1800∧(flt s.x.F).length≤1800:=by rw [allT_len] at hl;omega
 have W0:Blk w2 (A+1) 45 (opA o ah nh ch):=N2
 obtain ⟨o0,o1,o2,o3,o4,o5,o6,o7,o8,o9,o10,o11,o12,o13,o14,o15,o16,o17,o18⟩:=W0.opv
 obtain ⟨n2,hn2,hn4,hn3⟩:∃ n2:Nat,min (nh:Int) 20=(n2:Int)∧n2≤nh∧n2=min nh 20:=⟨min nh 20,by omega,by omega,rfl⟩
 have hcI:(n2:Int)≤(ch:Int):=by omega
 have hn0:(0:Int)≤(n2:Int):=by omega
 have HB:Hd (Below A w w2∧w2.heap.size=A+3∧Blk w2 A 36 (stB s (.slice ax s.x.F.length cx) (.slice ar s.run.length cr))∧Blk w2 (A+1+1) 36 (stB sZ (.slice none 0 0) (.slice none 0 0))):=⟨B,hs2,N1,N3⟩
 have HO:Hd (∀ W,Below A w W→StV S W s (.agg (stB s (.slice ax s.x.F.length cx) (.slice ar s.run.length cr)))):=⟨fun W b=>StV.old hx hr rfl rfl (by rw [←hA];exact b)⟩
 have hSx:∀ W:World,A+3≤W.heap.size→∀ j,Sx S A (A+3) j→j<W.heap.size:=fun W h j e=>by have:=Sx.lt (by rw [hA];exact hS) (by omega) j e (B:=A+3);omega
 have hx2:∀ W,Below A w W→StR (Sx S A (A+3)) W ax cx s.x.F:=fun W b=>hx.sx (by rw [←hA];exact b) hA
 have hr2:∀ W,Below A w W→SlR W ar cr s.run:=fun W b=>(hr.read (Kept.refl _ _)).carry (by rw [←hA];exact b)
 have CA:=rdrop_st2 s o.n ax cx ar cr w2 (Sx S A (A+3)) (hx2 _ B) (hr2 _ B) (by omega) (hSx _ (by omega)) hf
 have e0:dpE s.x o.n=6:=(if_neg (by rw [hok];decide))
 rw [e0] at CA
 clear e0 hok
 obtain ⟨y,hy⟩:∃ y,y=orZ 6 ({ s with x:=dpX s.x o.n }):=⟨_,rfl⟩
 obtain ⟨z,hz⟩:∃ z,z=dpT s.x o.n:=⟨_,rfl⟩
 have HR:=Hd.mk (And.intro hy hz)
 rw [←hy,← hz] at CA
 clear hy hz
 obtain ⟨m,hm⟩:∃ m,m=s.run.length:=⟨_,rfl⟩
 obtain ⟨n,hn⟩:∃ n,n=s.x.F.length:=⟨_,rfl⟩
 have HL:=Hd.mk (And.intro hm hn)
 rw [←hm,← hn] at HB HO CA hw2 ⊢
 clear hm hn
 clear N1 N2 N3 W0 B hx hr hs2 hBw hSx hx2 hr2 hS hl hlr hf
 go_enter Try.func11,Try.ntmps11
 go_upto_region 1 with fail
 rw [←hw2]
 clear hw2
 rw [←hA]
 clear hA
 go_upto_region 2 with fail
 go_wp2_with (refine wpl_loadSt rfl _ rfl A rfl _ HB.out.2.2.1 rfl ?_)
 go_at_call 31
 refine CA.mono ?_
 rintro e w5 ⟨⟨v5,rfl,v5e⟩,b5⟩
 clear CA o0 o1 o2 o3 o4 o5 o6 o7 o8 o9 o10 o11 o12 o13 o14 o15 o16 o17 o18
 obtain ⟨a5,c5,ar5,cr5,rfl,s5,t5⟩:=v5e
 obtain ⟨l5,hl5⟩:∃ l5,l5=y.x.F.length:=⟨_,rfl⟩
 obtain ⟨m5,hm5⟩:∃ m5,m5=y.run.length:=⟨_,rfl⟩
 have HL5:=Hd.mk (And.intro hl5 hm5)
 rw [←hl5,← hm5]
 clear hl5 hm5
 obtain ⟨w6,hw6⟩:∃ w6,w6=(w5.alloc (.cells zsT 36)).alloc (.cells #[.int .i64 0,.int .i64 0,.int .i64 0,.int .i64 0,.int .i64 0] 42):=⟨_,rfl⟩
 have BX6:=boxes w5 36 42 zsT #[.int .i64 0,.int .i64 0,.int .i64 0,.int .i64 0,.int .i64 0]
 rw [←hw6] at BX6
 obtain ⟨B6,P6,T6⟩:=BX6
 have P6:Blk w6 w5.heap.size 36 (stB sZ (.slice none 0 0) (.slice none 0 0)):=P6
 have T6:Blk w6 (w5.heap.size+1) 42 (tkA tkZ):=T6
 have b26:Below w2.heap.size w2 w6:=b5.trans (B6.mono b5.size)
 have H6:=Hd.mk (And.intro b26 (And.intro s5 (And.intro t5 (And.intro B6 (And.intro b5.size T6)))))
 clear b26 s5 t5 B6 b5 T6
 go_upto_region 17 with (rw [←hw6];refine wpl_storeSt rfl _ _ rfl w5.heap.size rfl (stB y (.slice a5 l5 c5) (.slice ar5 m5 cr5)) _ rfl P6 rfl rfl (st_one _ _ _ _ _ _ _) ?_;intro w7 n7 k7;obtain ⟨⟨e0,e1,e2,e3,e4⟩,g0,g1,g2,g3,g4⟩:=Blk.five (H6.out.2.2.2.2.2.kept k7 (by omega)))
 obtain ⟨Q8,K8⟩:=five_set (H6.out.2.2.2.2.2.kept k7 (by omega)) z
 have n8:=n7.kept K8 (by omega)
 have k78:Kept (fun j=>w5.heap.size≤j) w6 (((((w7.setCell ⟨w5.heap.size+1,0,none⟩ (.int .i64 z.id)).setCell ⟨w5.heap.size+1,1,none⟩ (.int .i64 z.wid)).setCell ⟨w5.heap.size+1,2,none⟩ (.int .i64 z.sts)).setCell ⟨w5.heap.size+1,3,none⟩ (.int .i64 z.sin)).setCell ⟨w5.heap.size+1,4,none⟩ (.int .i64 z.unt)):=(k7.mono (fun j _ e=>by omega)).trans (K8.mono (fun j _ e=>by omega))
 clear hw6 P6 e0 e1 e2 e3 e4 g0 g1 g2 g3 g4 n7 k7 K8
 generalize (((((w7.setCell ⟨w5.heap.size+1,0,none⟩ (.int .i64 z.id)).setCell ⟨w5.heap.size+1,1,none⟩ (.int .i64 z.wid)).setCell ⟨w5.heap.size+1,2,none⟩ (.int .i64 z.sts)).setCell ⟨w5.heap.size+1,3,none⟩ (.int .i64 z.sin)).setCell ⟨w5.heap.size+1,4,none⟩ (.int .i64 z.unt))=w8 at *
 have H8:Hd (Blk w8 A 36 (stB s (.slice ax n cx) (.slice ar m cr))∧Blk w8 (A+1+1) 36 (stB sZ (.slice none 0 0) (.slice none 0 0))∧Below A w w8∧A+3≤w5.heap.size∧w5.heap.size+1<w8.heap.size):=by
  have h1:=HB.out
  have h6:=H6.out
  have k26:Kept (fun _=>False) w2 w6:=Kept.of_below h6.1 _
  have hs6:=h6.1.size
  have hs5:=h6.2.2.2.2.1
  exact ⟨(h1.2.2.1.kept k26 id).kept k78 (by omega),(h1.2.2.2.kept k26 id).kept k78 (by omega),(h1.1.trans (h6.1.mono (by omega))).trans (k78.below (by omega) (fun j e=>by omega)),by omega,Q8.lt⟩
 clear Q8 n8 k78
 go_upto_region 23 with fail
 go_wp2_with (first | (refine wpl_loadSt rfl _ rfl A rfl _ H8.out.1 rfl ?_) | (refine wpl_storeSt rfl _ _ rfl (A+1+1) rfl (stB s (.slice ax n cx) (.slice ar m cr)) _ rfl H8.out.2.1 rfl rfl (st_one _ _ _ _ _ _ _) ?_;intro w9 n9 k9))
 refine bodyPost_ret (resSt11 _ _ _ rfl rfl n9) rfl ?_
 have b9:Below A w w9:=H8.out.2.2.1.trans (k9.below (by have:=H8.out.2.2.2;omega) (fun j e=>by omega))
 have q1:=HO.out w9 b9
 rw [←HA.out]
 exact ⟨⟨_,_,rfl,q1,none,0,rfl,TkS.nil _ _⟩,b9⟩
set_option maxRecDepth 20000 in
set_option maxHeartbeats 2000000 in
theorem tstep_drop_yes (s:St) (o:Od) (ax:Option Addr) (cx:Nat) (ar:Option Addr) (cr:Nat) (ah:Option Addr) (nh ch:Nat) (w:World) (S:Nat→Prop) (hx:StR S w ax cx s.x.F) (hr:TkS S w ar cr s.run) (hS:∀ j,S j→j<w.heap.size) (hf:Few s.x.F) (hl:(allT s).length≤1800) (hc:nh≤ch) (hok:dpO s.x o.n=true) (hk:(IntKind.u64.wrap o.d).tmod 8=4) :
  Calls Try.prog 11 #[.agg (stB s (.slice ax s.x.F.length cx) (.slice ar s.run.length cr)),.agg (opQ o ah nh ch)] w fun e w'=>StA S w' ({ s with x:=dpX s.x o.n },[dpT s.x o.n]) e∧Below w.heap.size w w':=by
 obtain ⟨w2,hw2⟩:∃ w2,w2=((w.alloc (.cells (stB s (.slice ax s.x.F.length cx) (.slice ar s.run.length cr)) 36)).alloc (.cells (opQ o ah nh ch) 45)).alloc (.cells zsT 36):=⟨_,rfl⟩
 have BX:=boxes3 w 36 45 36 (stB s (.slice ax s.x.F.length cx) (.slice ar s.run.length cr)) (opQ o ah nh ch) zsT
 rw [←hw2] at BX
 obtain ⟨B,N1,N2,N3⟩:=BX
 have hs2:w2.heap.size=w.heap.size+3:=by rw [hw2];simp
 obtain ⟨A,hA⟩:∃ A,A=w.heap.size:=⟨_,rfl⟩
 have HA:Hd (A=w.heap.size):=⟨hA⟩
 rw [←hA] at B N1 N2 N3 hs2
 have HSZ:Hd (∀ j,S j→j<A):=⟨fun j e=>by rw [hA];exact hS j e⟩
 have hBw:Below w.heap.size w w2:=by rw [←hA];exact B
 have hlr:s.run.length≤1800∧(flt s.x.F).length≤1800:=by rw [allT_len] at hl;omega
 have W0:Blk w2 (A+1) 45 (opA o ah nh ch):=N2
 obtain ⟨o0,o1,o2,o3,o4,o5,o6,o7,o8,o9,o10,o11,o12,o13,o14,o15,o16,o17,o18⟩:=W0.opv
 obtain ⟨n2,hn2,hn4,hn3⟩:∃ n2:Nat,min (nh:Int) 20=(n2:Int)∧n2≤nh∧n2=min nh 20:=⟨min nh 20,by omega,by omega,rfl⟩
 have hcI:(n2:Int)≤(ch:Int):=by omega
 have hn0:(0:Int)≤(n2:Int):=by omega
 have HB:Hd (Below A w w2∧w2.heap.size=A+3∧Blk w2 A 36 (stB s (.slice ax s.x.F.length cx) (.slice ar s.run.length cr))∧Blk w2 (A+1+1) 36 (stB sZ (.slice none 0 0) (.slice none 0 0))):=⟨B,hs2,N1,N3⟩
 have HO:Hd (∀ W,Below A w W→StV S W s (.agg (stB s (.slice ax s.x.F.length cx) (.slice ar s.run.length cr)))):=⟨fun W b=>StV.old hx hr rfl rfl (by rw [←hA];exact b)⟩
 have hSx:∀ W:World,A+3≤W.heap.size→∀ j,Sx S A (A+3) j→j<W.heap.size:=fun W h j e=>by have:=Sx.lt (by rw [hA];exact hS) (by omega) j e (B:=A+3);omega
 have hx2:∀ W,Below A w W→StR (Sx S A (A+3)) W ax cx s.x.F:=fun W b=>hx.sx (by rw [←hA];exact b) hA
 have hr2:∀ W,Below A w W→SlR W ar cr s.run:=fun W b=>(hr.read (Kept.refl _ _)).carry (by rw [←hA];exact b)
 have CA:=rdrop_st2 s o.n ax cx ar cr w2 (Sx S A (A+3)) (hx2 _ B) (hr2 _ B) (by omega) (hSx _ (by omega)) hf
 have e0:dpE s.x o.n=0:=(if_pos hok)
 rw [e0] at CA
 clear e0 hok
 obtain ⟨y,hy⟩:∃ y,y=orZ 0 ({ s with x:=dpX s.x o.n }):=⟨_,rfl⟩
 obtain ⟨z,hz⟩:∃ z,z=dpT s.x o.n:=⟨_,rfl⟩
 have HR:=Hd.mk (And.intro hy hz)
 rw [←hy,← hz] at CA
 clear hy hz
 obtain ⟨m,hm⟩:∃ m,m=s.run.length:=⟨_,rfl⟩
 obtain ⟨n,hn⟩:∃ n,n=s.x.F.length:=⟨_,rfl⟩
 have HL:=Hd.mk (And.intro hm hn)
 rw [←hm,← hn] at HB HO CA hw2 ⊢
 clear hm hn
 clear N1 N2 N3 W0 B hx hr hs2 hBw hSx hx2 hr2 hS hl hlr hf
 go_enter Try.func11,Try.ntmps11
 go_upto_region 1 with fail
 rw [←hw2]
 clear hw2
 rw [←hA]
 clear hA
 go_upto_region 2 with fail
 go_wp2_with (refine wpl_loadSt rfl _ rfl A rfl _ HB.out.2.2.1 rfl ?_)
 go_at_call 31
 refine CA.mono ?_
 rintro e w5 ⟨⟨v5,rfl,v5e⟩,b5⟩
 clear CA o0 o1 o2 o3 o4 o5 o6 o7 o8 o9 o10 o11 o12 o13 o14 o15 o16 o17 o18
 obtain ⟨a5,c5,ar5,cr5,rfl,s5,t5⟩:=v5e
 obtain ⟨l5,hl5⟩:∃ l5,l5=y.x.F.length:=⟨_,rfl⟩
 obtain ⟨m5,hm5⟩:∃ m5,m5=y.run.length:=⟨_,rfl⟩
 have HL5:=Hd.mk (And.intro hl5 hm5)
 rw [←hl5,← hm5]
 clear hl5 hm5
 obtain ⟨w6,hw6⟩:∃ w6,w6=(w5.alloc (.cells zsT 36)).alloc (.cells #[.int .i64 0,.int .i64 0,.int .i64 0,.int .i64 0,.int .i64 0] 42):=⟨_,rfl⟩
 have BX6:=boxes w5 36 42 zsT #[.int .i64 0,.int .i64 0,.int .i64 0,.int .i64 0,.int .i64 0]
 rw [←hw6] at BX6
 obtain ⟨B6,P6,T6⟩:=BX6
 have P6:Blk w6 w5.heap.size 36 (stB sZ (.slice none 0 0) (.slice none 0 0)):=P6
 have T6:Blk w6 (w5.heap.size+1) 42 (tkA tkZ):=T6
 have b26:Below w2.heap.size w2 w6:=b5.trans (B6.mono b5.size)
 have H6:=Hd.mk (And.intro b26 (And.intro s5 (And.intro t5 (And.intro B6 (And.intro b5.size T6)))))
 clear b26 s5 t5 B6 b5 T6
 go_upto_region 17 with (rw [←hw6];refine wpl_storeSt rfl _ _ rfl w5.heap.size rfl (stB y (.slice a5 l5 c5) (.slice ar5 m5 cr5)) _ rfl P6 rfl rfl (st_one _ _ _ _ _ _ _) ?_;intro w7 n7 k7;obtain ⟨⟨e0,e1,e2,e3,e4⟩,g0,g1,g2,g3,g4⟩:=Blk.five (H6.out.2.2.2.2.2.kept k7 (by omega)))
 obtain ⟨Q8,K8⟩:=five_set (H6.out.2.2.2.2.2.kept k7 (by omega)) z
 have n8:=n7.kept K8 (by omega)
 have k78:Kept (fun j=>w5.heap.size≤j) w6 (((((w7.setCell ⟨w5.heap.size+1,0,none⟩ (.int .i64 z.id)).setCell ⟨w5.heap.size+1,1,none⟩ (.int .i64 z.wid)).setCell ⟨w5.heap.size+1,2,none⟩ (.int .i64 z.sts)).setCell ⟨w5.heap.size+1,3,none⟩ (.int .i64 z.sin)).setCell ⟨w5.heap.size+1,4,none⟩ (.int .i64 z.unt)):=(k7.mono (fun j _ e=>by omega)).trans (K8.mono (fun j _ e=>by omega))
 clear hw6 P6 e0 e1 e2 e3 e4 g0 g1 g2 g3 g4 n7 k7 K8
 generalize (((((w7.setCell ⟨w5.heap.size+1,0,none⟩ (.int .i64 z.id)).setCell ⟨w5.heap.size+1,1,none⟩ (.int .i64 z.wid)).setCell ⟨w5.heap.size+1,2,none⟩ (.int .i64 z.sts)).setCell ⟨w5.heap.size+1,3,none⟩ (.int .i64 z.sin)).setCell ⟨w5.heap.size+1,4,none⟩ (.int .i64 z.unt))=w8 at *
 have H8:Hd (Blk w8 A 36 (stB s (.slice ax n cx) (.slice ar m cr))∧Blk w8 (A+1+1) 36 (stB sZ (.slice none 0 0) (.slice none 0 0))∧Below A w w8∧A+3≤w5.heap.size∧w5.heap.size+1<w8.heap.size):=by
  have h1:=HB.out
  have h6:=H6.out
  have k26:Kept (fun _=>False) w2 w6:=Kept.of_below h6.1 _
  have hs6:=h6.1.size
  have hs5:=h6.2.2.2.2.1
  exact ⟨(h1.2.2.1.kept k26 id).kept k78 (by omega),(h1.2.2.2.kept k26 id).kept k78 (by omega),(h1.1.trans (h6.1.mono (by omega))).trans (k78.below (by omega) (fun j e=>by omega)),by omega,Q8.lt⟩
 have HE:Hd (∀ w9,Kept (fun j=>j=A+1+1∨w5.heap.size≤j) w8 w9→StV S w9 y (.agg (stB y (.slice a5 l5 c5) (.slice ar5 m5 cr5)))∧Below A w w9):=⟨fun w9 k9=>by
  have h1:=HB.out
  have h6:=H6.out
  have h8:=H8.out
  have kk:=Kept.of_below h6.2.2.2.1 (Sx S A (A+3))
  have e7:∀ j,j<w5.heap.size→(Sx S A (A+3) j∨w5.heap.size≤j)→Sx S A (A+3) j:=fun j hj e=>e.elim id (fun e=>absurd e (by omega))
  have k79:=(k78.mono (T:=fun j=>Sx S A (A+3) j∨w5.heap.size≤j) (fun j _ e=>.inr e)).trans (k9.mono (fun j _ e=>e.elim (fun e=>.inl (.inr ⟨by omega,by omega⟩)) .inr))
  exact ⟨⟨a5,c5,ar5,cr5,by rw [HL5.out.1,HL5.out.2],(h6.2.1.stp kk e7).stp k79 (T:=S) (fun j _ e=>.inl (.inl e)),(h6.2.2.1.step kk e7).step k79 (T:=S) (fun j _ e=>.inl (.inl e))⟩,h8.2.2.1.trans (k9.below (by omega) (fun j e=>by omega))⟩⟩
 have T9:Hd (Blk w8.drew w5.heap.size 36 (stB y (.slice a5 l5 c5) (.slice ar5 m5 cr5))∧Blk w8.drew (w5.heap.size+1) 42 (tkA z)):=⟨n8,Q8⟩
 have M9:Hd (Blk w8.drew (A+1+1) 36 (stB sZ (.slice none 0 0) (.slice none 0 0))∧Kept (fun j=>j=A+1+1∨w5.heap.size≤j) w8 w8.drew∧A+3≤w5.heap.size∧w5.heap.size+1<w8.drew.heap.size):=⟨H8.out.2.1,Kept.of_below (Below.refl _ _).drew _,H8.out.2.2.2.1,H8.out.2.2.2.2⟩
 clear HO n8 Q8 k78
 go_upto_region 18 with fail
 refine AnyG.start (T:=fun W=>Blk W w5.heap.size 36 (stB y (.slice a5 l5 c5) (.slice ar5 m5 cr5))∧Blk W (w5.heap.size+1) 42 (tkA z)) (U:=fun _=>True) (j0:=4) (by kernel_rfl) ?_
 generalize w8.drew=w9 at *
 refine .tq (v:=.agg (stB y (.slice a5 l5 c5) (.slice ar5 m5 cr5))) 0 79 T9.out ?_ (hy:=fun w hSw=>exec_loadSt _ rfl w5.heap.size rfl _ hSw.1 rfl);simp only [oqA,oqB,oqC]
 refine .tq (v:=.agg #[.int .i64 z.id,.int .i64 z.wid,.int .i64 z.sts,.int .i64 z.sin,.int .i64 z.unt]) 1 80 T9.out ?_ (hy:=fun w hSw=>by obtain ⟨c0,c1,c2,c3,c4⟩:=(Blk.five hSw.2).1;go_simp);simp only [oqA,oqB,oqC]
 refine AnyG.ready (rs:=[2,3]) (by kernel_rfl) (by simp) ?_
 refine AllG.cons rfl (fun K hK=>?_) (AllG.cons rfl (fun K hK=>?_) (AllG.nil))
 ·skip
  go_simp
  have nq:Blk (w9.alloc (.cells #[.int .i64 z.id,.int .i64 z.wid,.int .i64 z.sts,.int .i64 z.sin,.int .i64 z.unt] 42)) w9.heap.size 42 (tkA z):=Blk.new _ _ _
  have bq:Below w9.heap.size w9 (w9.alloc (.cells #[.int .i64 z.id,.int .i64 z.wid,.int .i64 z.sts,.int .i64 z.sin,.int .i64 z.unt] 42)):=alloc_below _ _
  have T10:=And.intro (T9.out.1.kept (Kept.of_below bq (fun _=>False)) id) (T9.out.2.kept (Kept.of_below bq (fun _=>False)) id)
  refine hK.out _ _ ⟨T10,fun _=>trivial⟩ ?_
  have M10:Hd (Blk (w9.alloc (.cells #[.int .i64 z.id,.int .i64 z.wid,.int .i64 z.sts,.int .i64 z.sin,.int .i64 z.unt] 42)) (A+1+1) 36 (stB sZ (.slice none 0 0) (.slice none 0 0))∧Kept (fun j=>j=A+1+1∨w5.heap.size≤j) w8 (w9.alloc (.cells #[.int .i64 z.id,.int .i64 z.wid,.int .i64 z.sts,.int .i64 z.sin,.int .i64 z.unt] 42))∧A+3≤w9.heap.size):=⟨M9.out.1.kept (Kept.of_below bq (fun _=>False)) id,M9.out.2.1.trans (Kept.of_below bq _),by have:=M9.out;omega⟩
  clear hK K bq T9
  generalize w9.alloc _=w10 at *
  obtain ⟨gq,hgq⟩:∃ gq,gq=w9.heap.size:=⟨_,rfl⟩
  rw [←hgq] at nq M10 ⊢
  clear hgq
  refine AnyG.ready (rs:=[3]) (by kernel_rfl) (by simp) ?_
  refine AllG.cons rfl (fun K hK=>?_) (AllG.nil)
  refine step_storeSt rfl _ _ rfl (A+1+1) rfl (stB y (.slice a5 l5 c5) (.slice ar5 m5 cr5)) _ rfl M10.out.1 rfl rfl (st_one _ _ _ _ _ _ _) ?_
  intro w11 n11 k11
  have T11:=And.intro (T10.1.kept k11 (by have:=M9.out;omega)) (T10.2.kept k11 (by have:=M9.out;omega))
  refine hK.out _ _ ⟨T11,fun _=>trivial⟩ ?_
  have nq11:=nq.kept k11 (by have:=M10.out;omega)
  obtain ⟨q1,q3⟩:=HE.out w11 (M10.out.2.1.trans (k11.mono (fun j _ e=>.inl e)))
  have tq:=TkS.one (S:=S) nq11 (fun e=>by have:=HSZ.out gq e;have:=M10.out;omega)
  clear T10 nq nq11 k11
  clear hK K
  refine AnyG.ready (rs:=[4]) (by kernel_rfl) (by simp) ?_
  refine AllG.cons rfl (fun K hK=>?_) (AllG.nil)
  go_simp
  refine hK.out _ _ ⟨T11,fun _=>trivial⟩ ?_
  refine AnyG.done (by kernel_rfl) ?_ _
  clear hK K T11
  have HZ:=Hd.mk (And.intro q1 (And.intro q3 tq))
  clear q1 q3 tq
  go_wp2_with fail
  refine bodyPost_ret (resSt11 _ _ _ rfl rfl n11) rfl ?_
  obtain ⟨q1,q3,tq⟩:=HZ.out
  rw [←HA.out]
  refine ⟨⟨_,_,rfl,?_,some ⟨gq,0,none⟩,1,rfl,?_⟩,q3⟩
  ·have e:y={ s with x:=dpX s.x o.n }:=HR.out.1
   rw [←e]
   exact q1
  ·rw [←HR.out.2]
   exact tq
 ·skip
  refine step_storeSt rfl _ _ rfl (A+1+1) rfl (stB y (.slice a5 l5 c5) (.slice ar5 m5 cr5)) _ rfl M9.out.1 rfl rfl (st_one _ _ _ _ _ _ _) ?_
  intro w10 n10 k10
  have T10:=And.intro (T9.out.1.kept k10 (by have:=M9.out;omega)) (T9.out.2.kept k10 (by have:=M9.out;omega))
  refine hK.out _ _ ⟨T10,fun _=>trivial⟩ ?_
  have M10:=Hd.mk (And.intro (M9.out.2.1.trans (k10.mono (T:=fun j=>j=A+1+1∨w5.heap.size≤j) (fun j _ e=>.inl e))) (show A+3≤w10.heap.size by have:=M9.out;have:=k10.size;omega))
  clear hK K T9 k10
  refine AnyG.ready (rs:=[2]) (by kernel_rfl) (by simp) ?_
  refine AllG.cons rfl (fun K hK=>?_) (AllG.nil)
  go_simp
  have nq:Blk (w10.alloc (.cells #[.int .i64 z.id,.int .i64 z.wid,.int .i64 z.sts,.int .i64 z.sin,.int .i64 z.unt] 42)) w10.heap.size 42 (tkA z):=Blk.new _ _ _
  have bq:Below w10.heap.size w10 (w10.alloc (.cells #[.int .i64 z.id,.int .i64 z.wid,.int .i64 z.sts,.int .i64 z.sin,.int .i64 z.unt] 42)):=alloc_below _ _
  have T11:=And.intro (T10.1.kept (Kept.of_below bq (fun _=>False)) id) (T10.2.kept (Kept.of_below bq (fun _=>False)) id)
  refine hK.out _ _ ⟨T11,fun _=>trivial⟩ ?_
  have n11:=n10.kept (Kept.of_below bq (fun _=>False)) id
  obtain ⟨q1,q3⟩:=HE.out _ (M10.out.1.trans (Kept.of_below bq _))
  obtain ⟨gq,hgq⟩:∃ gq,gq=w10.heap.size:=⟨_,rfl⟩
  rw [←hgq] at nq M10 ⊢
  have tq:=TkS.one (S:=S) nq (fun e=>by have:=HSZ.out gq e;have:=M10.out.2;omega)
  clear hgq bq nq n10 T10
  generalize w10.alloc _=w11 at *
  clear hK K
  refine AnyG.ready (rs:=[4]) (by kernel_rfl) (by simp) ?_
  refine AllG.cons rfl (fun K hK=>?_) (AllG.nil)
  go_simp
  refine hK.out _ _ ⟨T11,fun _=>trivial⟩ ?_
  refine AnyG.done (by kernel_rfl) ?_ _
  clear hK K T11
  have HZ:=Hd.mk (And.intro q1 (And.intro q3 tq))
  clear q1 q3 tq
  go_wp2_with fail
  refine bodyPost_ret (resSt11 _ _ _ rfl rfl n11) rfl ?_
  obtain ⟨q1,q3,tq⟩:=HZ.out
  rw [←HA.out]
  refine ⟨⟨_,_,rfl,?_,some ⟨gq,0,none⟩,1,rfl,?_⟩,q3⟩
  ·have e:y={ s with x:=dpX s.x o.n }:=HR.out.1
   rw [←e]
   exact q1
  ·rw [←HR.out.2]
   exact tq
theorem told_ok (s:St) (o:Od) (ax:Option Addr) (cx:Nat) (ar:Option Addr) (cr:Nat) (ah:Option Addr) (nh ch:Nat) (H0:Nat→Int) (w:World) (S:Nat→Prop) (hx:StR S w ax cx s.x.F) (hr:TkS S w ar cr s.run) (hS:∀ j,S j→j<w.heap.size) (hf:Few s.x.F) (hl:(allT s).length≤1800) (hh:HnR w ah nh H0) (hc:nh≤ch) :
  Calls Try.prog 11 #[.agg (stB s (.slice ax s.x.F.length cx) (.slice ar s.run.length cr)),.agg (opQ o ah nh ch)] w fun e w'=>StA S w' (stX s o (chF s.x.F s.x.o H0 (min nh 20))) e∧Below w.heap.size w w':=by
 have R:=kO_rng o
 unfold stX
 by_cases h0:kO o<2
 ·rw [if_pos h0]
  rcases (show kO o=0∨kO o=1 by omega) with h | h
  ·exact tstep_arrive0 s o ax cx ar cr ah nh ch H0 w S hx hr hS hf hl hh hc h
  ·exact tstep_arrive1 s o ax cx ar cr ah nh ch H0 w S hx hr hS hf hl hh hc h
 ·rw [if_neg h0]
  by_cases h2:kO o=2
  ·rw [if_pos h2]
   exact tstep_dispatch s o ax cx ar cr ah nh ch w S hx hr hS hf hl hc h2
  ·rw [if_neg h2]
   by_cases h3:kO o=3
   ·rw [if_pos h3]
    cases hok:dnO s o.n with
    | true =>
     rw [if_pos rfl]
     exact tstep_done_yes s o ax cx ar cr ah nh ch w S hx hr hS hf hl hc hok h3
    | false =>
     rw [if_neg (by decide)]
     exact tstep_done_no s o ax cx ar cr ah nh ch w S hx hr hS hf hl hc hok h3
   ·rw [if_neg h3]
    by_cases h4:kO o=4
    ·rw [if_pos h4]
     cases hok:dpO s.x o.n with
     | true =>
      rw [if_pos rfl]
      exact tstep_drop_yes s o ax cx ar cr ah nh ch w S hx hr hS hf hl hc hok h4
     | false =>
      rw [if_neg (by decide)]
      exact tstep_drop_no s o ax cx ar cr ah nh ch w S hx hr hS hf hl hc hok h4
    ·rw [if_neg h4]
     by_cases h5:kO o=5
     ·rw [if_pos h5]
      exact tstep_late s o ax cx ar cr ah nh ch w S hx hr hS hf hl hc h5
     ·rw [if_neg h5]
      by_cases h6:kO o=6
      ·rw [if_pos h6]
       exact tstep_limit s o ax cx ar cr ah nh ch w S hx hr hS hl hc h6
      ·rw [if_neg h6]
       exact tstep_turn s o ax cx ar cr ah nh ch w S hx hr hS hf hl hc (show kO o=7 by omega)
end Go.Proofs.Ytlgibnmoogbdcaa
