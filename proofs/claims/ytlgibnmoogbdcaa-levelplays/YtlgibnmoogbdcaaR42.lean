/-
  A step of a level, by the program.
-/
import Derived.Test.YtlgibnmoogbdcaaR34
namespace Go.Proofs.Ytlgibnmoogbdcaa
open Go.RowKit
theorem resSt10 (tmps:Array Value) (w:World) (g:Nat) {cs:Array Value} (hz:cs.size=23) (ht:tmps[4]?.getD undef=.pointer (some ⟨g,0,none⟩)) (h:Blk w g 36 cs) :
  (results Try.f10 tmps).run Try.prog w=.ok (.tuple #[.agg cs,tmps[5]?.getD undef]) w:=by
 simp [results,Try.results10,ht,asAddr,run_loadVar_row w g 36 36 cs (0,0) _ h Try.underlying36 rfl (by rw [hz];kernel_rfl)]
set_option maxRecDepth 20000 in
set_option maxHeartbeats 2000000 in
theorem step_dispatch (s:St) (o:Od) (ax:Option Addr) (cx:Nat) (ar:Option Addr) (cr:Nat) (ah:Option Addr) (nh ch:Nat) (w:World) (S:Nat→Prop) (hx:StR S w ax cx s.x.F) (hr:TkS S w ar cr s.run) (hS:∀ j,S j→j<w.heap.size) (hf:Few s.x.F) (hl:(allT s).length≤1800) (hc:nh≤ch) (hk:(IntKind.u64.wrap o.d).tmod 8=2) :
  Calls Try.prog 10 #[.agg (stB s (.slice ax s.x.F.length cx) (.slice ar s.run.length cr)),.agg (opQ o ah nh ch)] w fun e w'=>StA S w' (dsA s) e∧Below w.heap.size w w':=by
 obtain ⟨w2,hw2⟩:∃ w2,w2=((w.alloc (.cells (stB s (.slice ax s.x.F.length cx) (.slice ar s.run.length cr)) 36)).alloc (.cells (opQ o ah nh ch) 45)).alloc (.cells zsT 36):=⟨_,rfl⟩
 have BX:=boxes3 w 36 45 36 (stB s (.slice ax s.x.F.length cx) (.slice ar s.run.length cr)) (opQ o ah nh ch) zsT
 rw [←hw2] at BX
 obtain ⟨B,N1,N2,N3⟩:=BX
 have hs2:w2.heap.size=w.heap.size+3:=by rw [hw2];simp
 obtain ⟨A,hA⟩:∃ A,A=w.heap.size:=⟨_,rfl⟩
 have HA:Hd (A=w.heap.size):=⟨hA⟩
 rw [←hA] at B N1 N2 N3 hs2
 have HSZ:Hd (∀ j,S j→j<A):=⟨fun j e=>by rw [hA];exact hS j e⟩
 have hBw:Below w.heap.size w w2:=by rw [←hA];exact B
 have hlr:s.run.length≤1800∧(flt s.x.F).length≤1800:=by rw [allT_len] at hl;omega
 have W0:Blk w2 (A+1) 45 (opA o ah nh ch):=N2
 obtain ⟨o0,o1,o2,o3,o4,o5,o6,o7,o8,o9,o10,o11,o12,o13,o14,o15,o16,o17,o18⟩:=W0.opv
 obtain ⟨n2,hn2,hn4,hn3⟩:∃ n2:Nat,min (nh:Int) 20=(n2:Int)∧n2≤nh∧n2=min nh 20:=⟨min nh 20,by omega,by omega,rfl⟩
 have hcI:(n2:Int)≤(ch:Int):=by omega
 have hn0:(0:Int)≤(n2:Int):=by omega
 have HB:Hd (Below A w w2∧w2.heap.size=A+3∧Blk w2 A 36 (stB s (.slice ax s.x.F.length cx) (.slice ar s.run.length cr))∧Blk w2 (A+1+1) 36 (stB sZ (.slice none 0 0) (.slice none 0 0))):=⟨B,hs2,N1,N3⟩
 have HO:Hd (∀ W,Below A w W→StV S W s (.agg (stB s (.slice ax s.x.F.length cx) (.slice ar s.run.length cr)))):=⟨fun W b=>StV.old hx hr rfl rfl (by rw [←hA];exact b)⟩
 have hSx:∀ W:World,A+3≤W.heap.size→∀ j,Sx S A (A+3) j→j<W.heap.size:=fun W h j e=>by have:=Sx.lt (by rw [hA];exact hS) (by omega) j e (B:=A+3);omega
 have hx2:∀ W,Below A w W→StR (Sx S A (A+3)) W ax cx s.x.F:=fun W b=>hx.sx (by rw [←hA];exact b) hA
 have hr2:∀ W,Below A w W→SlR W ar cr s.run:=fun W b=>(hr.read (Kept.refl _ _)).carry (by rw [←hA];exact b)
 have CA:=dispatch_st s ax cx ar cr w2 (Sx S A (A+3)) (hx2 _ B) (hr2 _ B) (hSx _ (by omega)) hf hl
 obtain ⟨m,hm⟩:∃ m,m=s.run.length:=⟨_,rfl⟩
 obtain ⟨n,hn⟩:∃ n,n=s.x.F.length:=⟨_,rfl⟩
 have HL:=Hd.mk (And.intro hm hn)
 rw [←hm,← hn] at HB HO CA hw2 ⊢
 clear hm hn
 clear N1 N2 N3 W0 B hx hr hs2 hBw hSx hx2 hr2 hS hl hlr hf
 go_enter Try.func10,Try.ntmps10
 go_upto_region 1 with fail
 rw [←hw2]
 clear hw2
 rw [←hA]
 clear hA
 go_upto_region 2 with fail
 go_wp2_with (refine wpl_loadSt rfl _ rfl A rfl _ HB.out.2.2.1 rfl ?_)
 go_at_call 20
 refine CA.mono ?_
 rintro e w5 ⟨⟨v5,u5,rfl,v5e,a6,c6,rfl,t6⟩,b5⟩
 clear CA HO o0 o1 o2 o3 o4 o5 o6 o7 o8 o9 o10 o11 o12 o13 o14 o15 o16 o17 o18
 have Z5:=HB.out.2.2.2.kept (Kept.of_below b5 (fun _=>False)) id
 obtain ⟨a5,c5,ar5,cr5,rfl,s5,t5⟩:=v5e
 obtain ⟨y,hy⟩:∃ y,y=(dsA s).1:=⟨_,rfl⟩
 have HY:=Hd.mk hy
 rw [←hy] at s5 t5 ⊢
 clear hy
 obtain ⟨l5,hl5⟩:∃ l5,l5=y.x.F.length:=⟨_,rfl⟩
 obtain ⟨m5,hm5⟩:∃ m5,m5=y.run.length:=⟨_,rfl⟩
 have HL5:=Hd.mk (And.intro hl5 hm5)
 rw [←hl5,← hm5]
 obtain ⟨T,hT⟩:∃ T,T=(dsA s).2:=⟨_,rfl⟩
 have HT:=Hd.mk hT
 rw [←hT] at t6 ⊢
 clear hT
 obtain ⟨l6,hl6⟩:∃ l6,l6=T.length:=⟨_,rfl⟩
 have HL6:=Hd.mk hl6
 rw [←hl6]
 clear hl6
 have HE:Hd (∀ w9,Kept (fun j=>j=A+1+1) w5 w9→StV S w9 y (.agg (stB y (.slice a5 l5 c5) (.slice ar5 m5 cr5)))∧TkS S w9 a6 c6 T∧Below A w w9):=⟨fun w9 k9=>by
  have h1:=HB.out
  have h2:=b5.size
  have kk:=k9.mono (T:=Sx S A (A+3)) (fun j _ e=>.inr ⟨by omega,by omega⟩)
  exact ⟨⟨a5,c5,ar5,cr5,by rw [HL5.out.1,HL5.out.2],s5.stp kk (T:=S) (fun j _ e=>.inl e),t5.step kk (T:=S) (fun j _ e=>.inl e)⟩,t6.step kk (T:=S) (fun j _ e=>.inl e),(h1.1.trans (b5.mono (by omega))).trans (k9.below (by omega) (fun j e=>by omega))⟩⟩
 clear hl5 hm5 s5 t5 t6 b5
 go_wp2_with (refine wpl_storeSt rfl _ _ rfl (A+1+1) rfl (stB y (.slice a5 l5 c5) (.slice ar5 m5 cr5)) _ rfl Z5 rfl rfl (st_one _ _ _ _ _ _ _) ?_;intro w9 n9 k9)
 refine bodyPost_ret (resSt10 _ _ _ rfl rfl n9) rfl ?_
 obtain ⟨q1,q2,q3⟩:=HE.out w9 k9
 rw [←HA.out]
 refine ⟨⟨_,_,rfl,?_,a6,c6,?_,?_⟩,q3⟩
 ·show StV S w9 ((dsA s).1) _
  rw [←HY.out]
  exact q1
 ·show _=Value.slice a6 ((dsA s).2).length c6
  rw [←HT.out,← HL6.out]
  rfl
 ·show TkS S w9 a6 c6 ((dsA s).2)
  rw [←HT.out]
  exact q2
set_option maxRecDepth 20000 in
set_option maxHeartbeats 2000000 in
theorem step_late (s:St) (o:Od) (ax:Option Addr) (cx:Nat) (ar:Option Addr) (cr:Nat) (ah:Option Addr) (nh ch:Nat) (w:World) (S:Nat→Prop) (hx:StR S w ax cx s.x.F) (hr:TkS S w ar cr s.run) (hS:∀ j,S j→j<w.heap.size) (hf:Few s.x.F) (hl:(allT s).length≤1800) (hc:nh≤ch) (hk:(IntKind.u64.wrap o.d).tmod 8=5) :
  Calls Try.prog 10 #[.agg (stB s (.slice ax s.x.F.length cx) (.slice ar s.run.length cr)),.agg (opQ o ah nh ch)] w fun e w'=>StA S w' (ltX o.n s,srt (ltA o.n s.x.F)) e∧Below w.heap.size w w':=by
 obtain ⟨w2,hw2⟩:∃ w2,w2=((w.alloc (.cells (stB s (.slice ax s.x.F.length cx) (.slice ar s.run.length cr)) 36)).alloc (.cells (opQ o ah nh ch) 45)).alloc (.cells zsT 36):=⟨_,rfl⟩
 have BX:=boxes3 w 36 45 36 (stB s (.slice ax s.x.F.length cx) (.slice ar s.run.length cr)) (opQ o ah nh ch) zsT
 rw [←hw2] at BX
 obtain ⟨B,N1,N2,N3⟩:=BX
 have hs2:w2.heap.size=w.heap.size+3:=by rw [hw2];simp
 obtain ⟨A,hA⟩:∃ A,A=w.heap.size:=⟨_,rfl⟩
 have HA:Hd (A=w.heap.size):=⟨hA⟩
 rw [←hA] at B N1 N2 N3 hs2
 have HSZ:Hd (∀ j,S j→j<A):=⟨fun j e=>by rw [hA];exact hS j e⟩
 have hBw:Below w.heap.size w w2:=by rw [←hA];exact B
 have hlr:s.run.length≤1800∧(flt s.x.F).length≤1800:=by rw [allT_len] at hl;omega
 have W0:Blk w2 (A+1) 45 (opA o ah nh ch):=N2
 obtain ⟨o0,o1,o2,o3,o4,o5,o6,o7,o8,o9,o10,o11,o12,o13,o14,o15,o16,o17,o18⟩:=W0.opv
 obtain ⟨n2,hn2,hn4,hn3⟩:∃ n2:Nat,min (nh:Int) 20=(n2:Int)∧n2≤nh∧n2=min nh 20:=⟨min nh 20,by omega,by omega,rfl⟩
 have hcI:(n2:Int)≤(ch:Int):=by omega
 have hn0:(0:Int)≤(n2:Int):=by omega
 have HB:Hd (Below A w w2∧w2.heap.size=A+3∧Blk w2 A 36 (stB s (.slice ax s.x.F.length cx) (.slice ar s.run.length cr))∧Blk w2 (A+1+1) 36 (stB sZ (.slice none 0 0) (.slice none 0 0))):=⟨B,hs2,N1,N3⟩
 have HO:Hd (∀ W,Below A w W→StV S W s (.agg (stB s (.slice ax s.x.F.length cx) (.slice ar s.run.length cr)))):=⟨fun W b=>StV.old hx hr rfl rfl (by rw [←hA];exact b)⟩
 have hSx:∀ W:World,A+3≤W.heap.size→∀ j,Sx S A (A+3) j→j<W.heap.size:=fun W h j e=>by have:=Sx.lt (by rw [hA];exact hS) (by omega) j e (B:=A+3);omega
 have hx2:∀ W,Below A w W→StR (Sx S A (A+3)) W ax cx s.x.F:=fun W b=>hx.sx (by rw [←hA];exact b) hA
 have hr2:∀ W,Below A w W→SlR W ar cr s.run:=fun W b=>(hr.read (Kept.refl _ _)).carry (by rw [←hA];exact b)
 have CA:=late_st s o.n ax cx ar cr w2 (Sx S A (A+3)) (hx2 _ B) (hr2 _ B) (hSx _ (by omega)) hf (by omega) hlr.2
 obtain ⟨m,hm⟩:∃ m,m=s.run.length:=⟨_,rfl⟩
 obtain ⟨n,hn⟩:∃ n,n=s.x.F.length:=⟨_,rfl⟩
 have HL:=Hd.mk (And.intro hm hn)
 rw [←hm,← hn] at HB HO CA hw2 ⊢
 clear hm hn
 clear N1 N2 N3 W0 B hx hr hs2 hBw hSx hx2 hr2 hS hl hlr hf
 go_enter Try.func10,Try.ntmps10
 go_upto_region 1 with fail
 rw [←hw2]
 clear hw2
 rw [←hA]
 clear hA
 go_upto_region 2 with fail
 go_wp2_with (refine wpl_loadSt rfl _ rfl A rfl _ HB.out.2.2.1 rfl ?_)
 go_at_call 26
 refine CA.mono ?_
 rintro e w5 ⟨⟨v5,u5,rfl,v5e,a6,c6,rfl,t6⟩,b5⟩
 clear CA HO o0 o1 o2 o3 o4 o5 o6 o7 o8 o9 o10 o11 o12 o13 o14 o15 o16 o17 o18
 have Z5:=HB.out.2.2.2.kept (Kept.of_below b5 (fun _=>False)) id
 obtain ⟨a5,c5,ar5,cr5,rfl,s5,t5⟩:=v5e
 obtain ⟨y,hy⟩:∃ y,y=ltX o.n s:=⟨_,rfl⟩
 have HY:=Hd.mk hy
 rw [←hy] at s5 t5 ⊢
 clear hy
 obtain ⟨l5,hl5⟩:∃ l5,l5=y.x.F.length:=⟨_,rfl⟩
 obtain ⟨m5,hm5⟩:∃ m5,m5=y.run.length:=⟨_,rfl⟩
 have HL5:=Hd.mk (And.intro hl5 hm5)
 rw [←hl5,← hm5]
 obtain ⟨T,hT⟩:∃ T,T=srt (ltA o.n s.x.F):=⟨_,rfl⟩
 have HT:=Hd.mk hT
 rw [←hT] at t6 ⊢
 clear hT
 obtain ⟨l6,hl6⟩:∃ l6,l6=T.length:=⟨_,rfl⟩
 have HL6:=Hd.mk hl6
 rw [←hl6]
 clear hl6
 have HE:Hd (∀ w9,Kept (fun j=>j=A+1+1) w5 w9→StV S w9 y (.agg (stB y (.slice a5 l5 c5) (.slice ar5 m5 cr5)))∧TkS S w9 a6 c6 T∧Below A w w9):=⟨fun w9 k9=>by
  have h1:=HB.out
  have h2:=b5.size
  have kk:=k9.mono (T:=Sx S A (A+3)) (fun j _ e=>.inr ⟨by omega,by omega⟩)
  exact ⟨⟨a5,c5,ar5,cr5,by rw [HL5.out.1,HL5.out.2],s5.stp kk (T:=S) (fun j _ e=>.inl e),t5.step kk (T:=S) (fun j _ e=>.inl e)⟩,t6.step kk (T:=S) (fun j _ e=>.inl e),(h1.1.trans (b5.mono (by omega))).trans (k9.below (by omega) (fun j e=>by omega))⟩⟩
 clear hl5 hm5 s5 t5 t6 b5
 go_wp2_with (refine wpl_storeSt rfl _ _ rfl (A+1+1) rfl (stB y (.slice a5 l5 c5) (.slice ar5 m5 cr5)) _ rfl Z5 rfl rfl (st_one _ _ _ _ _ _ _) ?_;intro w9 n9 k9)
 refine bodyPost_ret (resSt10 _ _ _ rfl rfl n9) rfl ?_
 obtain ⟨q1,q2,q3⟩:=HE.out w9 k9
 rw [←HA.out]
 refine ⟨⟨_,_,rfl,?_,a6,c6,?_,?_⟩,q3⟩
 ·show StV S w9 (ltX o.n s) _
  rw [←HY.out]
  exact q1
 ·show _=Value.slice a6 (srt (ltA o.n s.x.F)).length c6
  rw [←HT.out,← HL6.out]
  rfl
 ·show TkS S w9 a6 c6 (srt (ltA o.n s.x.F))
  rw [←HT.out]
  exact q2
set_option maxRecDepth 20000 in
set_option maxHeartbeats 2000000 in
theorem step_turn (s:St) (o:Od) (ax:Option Addr) (cx:Nat) (ar:Option Addr) (cr:Nat) (ah:Option Addr) (nh ch:Nat) (w:World) (S:Nat→Prop) (hx:StR S w ax cx s.x.F) (hr:TkS S w ar cr s.run) (hS:∀ j,S j→j<w.heap.size) (hf:Few s.x.F) (hl:(allT s).length≤1800) (hc:nh≤ch) (hk:(IntKind.u64.wrap o.d).tmod 8=7) :
  Calls Try.prog 10 #[.agg (stB s (.slice ax s.x.F.length cx) (.slice ar s.run.length cr)),.agg (opQ o ah nh ch)] w fun e w'=>StA S w' (tuS s o.l o.q,[]) e∧Below w.heap.size w w':=by
 obtain ⟨w2,hw2⟩:∃ w2,w2=((w.alloc (.cells (stB s (.slice ax s.x.F.length cx) (.slice ar s.run.length cr)) 36)).alloc (.cells (opQ o ah nh ch) 45)).alloc (.cells zsT 36):=⟨_,rfl⟩
 have BX:=boxes3 w 36 45 36 (stB s (.slice ax s.x.F.length cx) (.slice ar s.run.length cr)) (opQ o ah nh ch) zsT
 rw [←hw2] at BX
 obtain ⟨B,N1,N2,N3⟩:=BX
 have hs2:w2.heap.size=w.heap.size+3:=by rw [hw2];simp
 obtain ⟨A,hA⟩:∃ A,A=w.heap.size:=⟨_,rfl⟩
 have HA:Hd (A=w.heap.size):=⟨hA⟩
 rw [←hA] at B N1 N2 N3 hs2
 have HSZ:Hd (∀ j,S j→j<A):=⟨fun j e=>by rw [hA];exact hS j e⟩
 have hBw:Below w.heap.size w w2:=by rw [←hA];exact B
 have hlr:s.run.length≤1800∧(flt s.x.F).length≤1800:=by rw [allT_len] at hl;omega
 have W0:Blk w2 (A+1) 45 (opA o ah nh ch):=N2
 obtain ⟨o0,o1,o2,o3,o4,o5,o6,o7,o8,o9,o10,o11,o12,o13,o14,o15,o16,o17,o18⟩:=W0.opv
 obtain ⟨n2,hn2,hn4,hn3⟩:∃ n2:Nat,min (nh:Int) 20=(n2:Int)∧n2≤nh∧n2=min nh 20:=⟨min nh 20,by omega,by omega,rfl⟩
 have hcI:(n2:Int)≤(ch:Int):=by omega
 have hn0:(0:Int)≤(n2:Int):=by omega
 have HB:Hd (Below A w w2∧w2.heap.size=A+3∧Blk w2 A 36 (stB s (.slice ax s.x.F.length cx) (.slice ar s.run.length cr))∧Blk w2 (A+1+1) 36 (stB sZ (.slice none 0 0) (.slice none 0 0))):=⟨B,hs2,N1,N3⟩
 have HO:Hd (∀ W,Below A w W→StV S W s (.agg (stB s (.slice ax s.x.F.length cx) (.slice ar s.run.length cr)))):=⟨fun W b=>StV.old hx hr rfl rfl (by rw [←hA];exact b)⟩
 have hSx:∀ W:World,A+3≤W.heap.size→∀ j,Sx S A (A+3) j→j<W.heap.size:=fun W h j e=>by have:=Sx.lt (by rw [hA];exact hS) (by omega) j e (B:=A+3);omega
 have hx2:∀ W,Below A w W→StR (Sx S A (A+3)) W ax cx s.x.F:=fun W b=>hx.sx (by rw [←hA];exact b) hA
 have hr2:∀ W,Below A w W→SlR W ar cr s.run:=fun W b=>(hr.read (Kept.refl _ _)).carry (by rw [←hA];exact b)
 have CA:=turn_st s o.l o.q ax cx ar cr w2 (Sx S A (A+3)) (hx2 _ B) (hr2 _ B) (by omega) (hSx _ (by omega)) hf
 obtain ⟨m,hm⟩:∃ m,m=s.run.length:=⟨_,rfl⟩
 obtain ⟨n,hn⟩:∃ n,n=s.x.F.length:=⟨_,rfl⟩
 have HL:=Hd.mk (And.intro hm hn)
 rw [←hm,← hn] at HB HO CA hw2 ⊢
 clear hm hn
 clear N1 N2 N3 W0 B hx hr hs2 hBw hSx hx2 hr2 hS hl hlr hf
 go_enter Try.func10,Try.ntmps10
 go_upto_region 1 with fail
 rw [←hw2]
 clear hw2
 rw [←hA]
 clear hA
 go_upto_region 2 with fail
 go_wp2_with (refine wpl_loadSt rfl _ rfl A rfl _ HB.out.2.2.1 rfl ?_)
 go_at_call 27
 refine CA.mono ?_
 rintro e w5 ⟨⟨v5,rfl,v5e⟩,b5⟩
 clear CA HO o0 o1 o2 o3 o4 o5 o6 o7 o8 o9 o10 o11 o12 o13 o14 o15 o16 o17 o18
 have Z5:=HB.out.2.2.2.kept (Kept.of_below b5 (fun _=>False)) id
 obtain ⟨a5,c5,ar5,cr5,rfl,s5,t5⟩:=v5e
 obtain ⟨y,hy⟩:∃ y,y=tuS s o.l o.q:=⟨_,rfl⟩
 have HY:=Hd.mk hy
 rw [←hy] at s5 t5 ⊢
 clear hy
 obtain ⟨l5,hl5⟩:∃ l5,l5=y.x.F.length:=⟨_,rfl⟩
 obtain ⟨m5,hm5⟩:∃ m5,m5=y.run.length:=⟨_,rfl⟩
 have HL5:=Hd.mk (And.intro hl5 hm5)
 rw [←hl5,← hm5]
 have t6:TkS (Sx S A (A+3)) w5 none 0 []:=TkS.nil _ _
 have HE:Hd (∀ w9,Kept (fun j=>j=A+1+1) w5 w9→StV S w9 y (.agg (stB y (.slice a5 l5 c5) (.slice ar5 m5 cr5)))∧TkS S w9 none 0 []∧Below A w w9):=⟨fun w9 k9=>by
  have h1:=HB.out
  have h2:=b5.size
  have kk:=k9.mono (T:=Sx S A (A+3)) (fun j _ e=>.inr ⟨by omega,by omega⟩)
  exact ⟨⟨a5,c5,ar5,cr5,by rw [HL5.out.1,HL5.out.2],s5.stp kk (T:=S) (fun j _ e=>.inl e),t5.step kk (T:=S) (fun j _ e=>.inl e)⟩,t6.step kk (T:=S) (fun j _ e=>.inl e),(h1.1.trans (b5.mono (by omega))).trans (k9.below (by omega) (fun j e=>by omega))⟩⟩
 clear hl5 hm5 s5 t5 t6 b5
 go_wp2_with (refine wpl_storeSt rfl _ _ rfl (A+1+1) rfl (stB y (.slice a5 l5 c5) (.slice ar5 m5 cr5)) _ rfl Z5 rfl rfl (st_one _ _ _ _ _ _ _) ?_;intro w9 n9 k9)
 refine bodyPost_ret (resSt10 _ _ _ rfl rfl n9) rfl ?_
 obtain ⟨q1,q2,q3⟩:=HE.out w9 k9
 rw [←HA.out]
 refine ⟨⟨_,_,rfl,?_,none,0,rfl,q2⟩,q3⟩
 show StV S w9 (tuS s o.l o.q) _
 rw [←HY.out]
 exact q1
set_option maxRecDepth 20000 in
set_option maxHeartbeats 2000000 in
theorem step_limit (s:St) (o:Od) (ax:Option Addr) (cx:Nat) (ar:Option Addr) (cr:Nat) (ah:Option Addr) (nh ch:Nat) (w:World) (S:Nat→Prop) (hx:StR S w ax cx s.x.F) (hr:TkS S w ar cr s.run) (hS:∀ j,S j→j<w.heap.size) (hl:(allT s).length≤1800) (hc:nh≤ch) (hk:(IntKind.u64.wrap o.d).tmod 8=6) :
  Calls Try.prog 10 #[.agg (stB s (.slice ax s.x.F.length cx) (.slice ar s.run.length cr)),.agg (opQ o ah nh ch)] w fun e w'=>StA S w' ({ s with lim:=o.n },[]) e∧Below w.heap.size w w':=by
 obtain ⟨w2,hw2⟩:∃ w2,w2=((w.alloc (.cells (stB s (.slice ax s.x.F.length cx) (.slice ar s.run.length cr)) 36)).alloc (.cells (opQ o ah nh ch) 45)).alloc (.cells zsT 36):=⟨_,rfl⟩
 have BX:=boxes3 w 36 45 36 (stB s (.slice ax s.x.F.length cx) (.slice ar s.run.length cr)) (opQ o ah nh ch) zsT
 rw [←hw2] at BX
 obtain ⟨B,N1,N2,N3⟩:=BX
 have hs2:w2.heap.size=w.heap.size+3:=by rw [hw2];simp
 obtain ⟨A,hA⟩:∃ A,A=w.heap.size:=⟨_,rfl⟩
 have HA:Hd (A=w.heap.size):=⟨hA⟩
 rw [←hA] at B N1 N2 N3 hs2
 have HSZ:Hd (∀ j,S j→j<A):=⟨fun j e=>by rw [hA];exact hS j e⟩
 have hBw:Below w.heap.size w w2:=by rw [←hA];exact B
 have hlr:s.run.length≤1800∧(flt s.x.F).length≤1800:=by rw [allT_len] at hl;omega
 have W0:Blk w2 (A+1) 45 (opA o ah nh ch):=N2
 obtain ⟨o0,o1,o2,o3,o4,o5,o6,o7,o8,o9,o10,o11,o12,o13,o14,o15,o16,o17,o18⟩:=W0.opv
 obtain ⟨n2,hn2,hn4,hn3⟩:∃ n2:Nat,min (nh:Int) 20=(n2:Int)∧n2≤nh∧n2=min nh 20:=⟨min nh 20,by omega,by omega,rfl⟩
 have hcI:(n2:Int)≤(ch:Int):=by omega
 have hn0:(0:Int)≤(n2:Int):=by omega
 have HB:Hd (Below A w w2∧w2.heap.size=A+3∧Blk w2 A 36 (stB s (.slice ax s.x.F.length cx) (.slice ar s.run.length cr))∧Blk w2 (A+1+1) 36 (stB sZ (.slice none 0 0) (.slice none 0 0))):=⟨B,hs2,N1,N3⟩
 have HO:Hd (∀ W,Below A w W→StV S W s (.agg (stB s (.slice ax s.x.F.length cx) (.slice ar s.run.length cr)))):=⟨fun W b=>StV.old hx hr rfl rfl (by rw [←hA];exact b)⟩
 have hSx:∀ W:World,A+3≤W.heap.size→∀ j,Sx S A (A+3) j→j<W.heap.size:=fun W h j e=>by have:=Sx.lt (by rw [hA];exact hS) (by omega) j e (B:=A+3);omega
 have hx2:∀ W,Below A w W→StR (Sx S A (A+3)) W ax cx s.x.F:=fun W b=>hx.sx (by rw [←hA];exact b) hA
 have hr2:∀ W,Below A w W→SlR W ar cr s.run:=fun W b=>(hr.read (Kept.refl _ _)).carry (by rw [←hA];exact b)
 obtain ⟨m,hm⟩:∃ m,m=s.run.length:=⟨_,rfl⟩
 obtain ⟨n,hn⟩:∃ n,n=s.x.F.length:=⟨_,rfl⟩
 have HL:=Hd.mk (And.intro hm hn)
 rw [←hm,← hn] at HB HO hw2 ⊢
 clear hm hn
 obtain ⟨Q3,K3⟩:=st_lim HB.out.2.2.1 o.n
 have f11:=HB.out.2.2.1.frozen 11
 have c11:w2.cell? ⟨A,11,none⟩=some (.int .i64 s.lim):=HB.out.2.2.1.cellv 11 rfl
 have HE:Hd (∀ w9,Kept (fun j=>j=A+1+1) (w2.setCell ⟨A,11,none⟩ (.int .i64 o.n)) w9→StV S w9 { s with lim:=o.n } (.agg (stB { s with lim:=o.n } (.slice ax n cx) (.slice ar m cr)))∧Below A w w9):=⟨fun w9 k9=>by
  have h1:=HB.out
  have b9:Below A w w9:=(h1.1.trans (K3.below (by omega) (fun j e=>by omega))).trans (k9.below (by have:=K3.size;omega) (fun j e=>by omega))
  obtain ⟨a,c,a',c',e,r1,r2⟩:=HO.out w9 b9
  have e1:=congrArg (fun v=>match v with | .agg cs=>cs[21]? | _=>none) e
  have e2:=congrArg (fun v=>match v with | .agg cs=>cs[22]? | _=>none) e
  have e1:some (Value.slice ax n cx)=some (Value.slice a s.x.F.length c):=e1
  have e2:some (Value.slice ar m cr)=some (Value.slice a' s.run.length c'):=e2
  injection e1 with e1
  injection e2 with e2
  rw [e1,e2]
  exact ⟨⟨a,c,a',c',rfl,r1,r2⟩,b9⟩⟩
 have HM:=Hd.mk (And.intro Q3 (HB.out.2.2.2.kept K3 (by omega)))
 clear Q3 K3 HO
 clear N1 N2 N3 W0 B hx hr hs2 hBw hSx hx2 hr2 hS hl hlr
 go_enter Try.func10,Try.ntmps10
 go_upto_region 1 with fail
 rw [←hw2]
 clear hw2
 rw [←hA]
 clear hA
 go_upto_region 2 with fail
 go_upto_region 23 with fail
 clear f11 c11 o0 o1 o2 o3 o4 o5 o6 o7 o8 o9 o10 o11 o12 o13 o14 o15 o16 o17 o18
 generalize w2.setCell ⟨A,11,none⟩ (.int .i64 o.n)=w3 at *
 go_wp2_with (first | (refine wpl_loadSt rfl _ rfl A rfl _ HM.out.1 rfl ?_) | (refine wpl_storeSt rfl _ _ rfl (A+1+1) rfl (stB { s with lim:=o.n } (.slice ax n cx) (.slice ar m cr)) _ rfl HM.out.2 rfl rfl (st_one _ _ _ _ _ _ _) ?_;intro w9 n9 k9))
 refine bodyPost_ret (resSt10 _ _ _ rfl rfl n9) rfl ?_
 obtain ⟨q1,q3⟩:=HE.out w9 k9
 rw [←HA.out]
 exact ⟨⟨_,_,rfl,q1,none,0,rfl,TkS.nil _ _⟩,q3⟩
set_option maxRecDepth 20000 in
set_option maxHeartbeats 2000000 in
theorem step_arrive0 (s:St) (o:Od) (ax:Option Addr) (cx:Nat) (ar:Option Addr) (cr:Nat) (ah:Option Addr) (nh ch:Nat) (H0:Nat→Int) (w:World) (S:Nat→Prop) (hx:StR S w ax cx s.x.F) (hr:TkS S w ar cr s.run) (hS:∀ j,S j→j<w.heap.size) (hf:Few s.x.F) (hl:(allT s).length≤1800) (hh:HnR w ah nh H0) (hc:nh≤ch) (hk:(IntKind.u64.wrap o.d).tmod 8=0) :
  Calls Try.prog 10 #[.agg (stB s (.slice ax s.x.F.length cx) (.slice ar s.run.length cr)),.agg (opQ o ah nh ch)] w fun e w'=>StA S w' (if arE s o.t (chF s.x.F s.x.o H0 (min nh 20))=0 then (arX s o.t (chF s.x.F s.x.o H0 (min nh 20)),[]) else (s,[])) e∧Below w.heap.size w w':=by
 obtain ⟨w2,hw2⟩:∃ w2,w2=((w.alloc (.cells (stB s (.slice ax s.x.F.length cx) (.slice ar s.run.length cr)) 36)).alloc (.cells (opQ o ah nh ch) 45)).alloc (.cells zsT 36):=⟨_,rfl⟩
 have BX:=boxes3 w 36 45 36 (stB s (.slice ax s.x.F.length cx) (.slice ar s.run.length cr)) (opQ o ah nh ch) zsT
 rw [←hw2] at BX
 obtain ⟨B,N1,N2,N3⟩:=BX
 have hs2:w2.heap.size=w.heap.size+3:=by rw [hw2];simp
 obtain ⟨A,hA⟩:∃ A,A=w.heap.size:=⟨_,rfl⟩
 have HA:Hd (A=w.heap.size):=⟨hA⟩
 rw [←hA] at B N1 N2 N3 hs2
 have HSZ:Hd (∀ j,S j→j<A):=⟨fun j e=>by rw [hA];exact hS j e⟩
 have hBw:Below w.heap.size w w2:=by rw [←hA];exact B
 have hlr:s.run.length≤1800∧(flt s.x.F).length≤1800:=by rw [allT_len] at hl;omega
 have W0:Blk w2 (A+1) 45 (opA o ah nh ch):=N2
 obtain ⟨o0,o1,o2,o3,o4,o5,o6,o7,o8,o9,o10,o11,o12,o13,o14,o15,o16,o17,o18⟩:=W0.opv
 obtain ⟨n2,hn2,hn4,hn3⟩:∃ n2:Nat,min (nh:Int) 20=(n2:Int)∧n2≤nh∧n2=min nh 20:=⟨min nh 20,by omega,by omega,rfl⟩
 have hcI:(n2:Int)≤(ch:Int):=by omega
 have hn0:(0:Int)≤(n2:Int):=by omega
 have HB:Hd (Below A w w2∧w2.heap.size=A+3∧Blk w2 A 36 (stB s (.slice ax s.x.F.length cx) (.slice ar s.run.length cr))∧Blk w2 (A+1+1) 36 (stB sZ (.slice none 0 0) (.slice none 0 0))):=⟨B,hs2,N1,N3⟩
 have HO:Hd (∀ W,Below A w W→StV S W s (.agg (stB s (.slice ax s.x.F.length cx) (.slice ar s.run.length cr)))):=⟨fun W b=>StV.old hx hr rfl rfl (by rw [←hA];exact b)⟩
 have hSx:∀ W:World,A+3≤W.heap.size→∀ j,Sx S A (A+3) j→j<W.heap.size:=fun W h j e=>by have:=Sx.lt (by rw [hA];exact hS) (by omega) j e (B:=A+3);omega
 have hx2:∀ W,Below A w W→StR (Sx S A (A+3)) W ax cx s.x.F:=fun W b=>hx.sx (by rw [←hA];exact b) hA
 have hr2:∀ W,Below A w W→SlR W ar cr s.run:=fun W b=>(hr.read (Kept.refl _ _)).carry (by rw [←hA];exact b)
 have CA:=arrive_st s o.t ax cx ar cr ah n2 ch w2 (Sx S A (A+3)) H0 (hx2 _ B) (hr2 _ B) (by omega) (hSx _ (by omega)) hf ((hh.carry hBw).less (by omega)) (by omega)
 rw [hn3] at CA
 obtain ⟨er,her⟩:∃ er,er=arE s o.t (chF s.x.F s.x.o H0 (min nh 20)):=⟨_,rfl⟩
 obtain ⟨y,hy⟩:∃ y,y=orZ er (arX s o.t (chF s.x.F s.x.o H0 (min nh 20))):=⟨_,rfl⟩
 have HR:Hd (er=0→y=arX s o.t (chF s.x.F s.x.o H0 (min nh 20))):=⟨fun e=>by rw [hy,e];rfl⟩
 rw [←her,← hy] at CA
 rw [←hn3] at CA
 rw [←her]
 have HN3:=Hd.mk hn3
 clear her hy hn3
 obtain ⟨m,hm⟩:∃ m,m=s.run.length:=⟨_,rfl⟩
 obtain ⟨n,hn⟩:∃ n,n=s.x.F.length:=⟨_,rfl⟩
 have HL:=Hd.mk (And.intro hm hn)
 rw [←hm,← hn] at HB HO CA hw2 ⊢
 clear hm hn
 clear N1 N2 N3 W0 B hx hr hs2 hBw hSx hx2 hr2 hS hl hlr hf hh
 go_enter Try.func10,Try.ntmps10
 go_upto_region 1 with fail
 rw [←hw2]
 clear hw2
 rw [←hA]
 clear hA
 go_upto_region 2 with fail
 go_wp2_with (refine wpl_loadSt rfl _ rfl A rfl _ HB.out.2.2.1 rfl ?_)
 go_at_call 19
 refine CA.mono ?_
 rintro e w5 ⟨⟨v5,rfl,v5e⟩,b5⟩
 clear CA o0 o1 o2 o3 o4 o5 o6 o7 o8 o9 o10 o11 o12 o13 o14 o15 o16 o17 o18
 obtain ⟨a5,c5,ar5,cr5,rfl,s5,t5⟩:=v5e
 obtain ⟨l5,hl5⟩:∃ l5,l5=y.x.F.length:=⟨_,rfl⟩
 obtain ⟨m5,hm5⟩:∃ m5,m5=y.run.length:=⟨_,rfl⟩
 have HL5:=Hd.mk (And.intro hl5 hm5)
 rw [←hl5,← hm5]
 clear hl5 hm5
 obtain ⟨w6,hw6⟩:∃ w6,w6=w5.alloc (.cells zsT 36):=⟨_,rfl⟩
 have B6:Below w5.heap.size w5 w6:=by rw [hw6];exact alloc_below _ _
 have P6:Blk w6 w5.heap.size 36 (stB sZ (.slice none 0 0) (.slice none 0 0)):=by rw [hw6];exact Blk.new _ _ _
 have b26:Below w2.heap.size w2 w6:=b5.trans (B6.mono b5.size)
 have H6:=Hd.mk (And.intro b26 (And.intro s5 (And.intro t5 (And.intro B6 b5.size))))
 clear b26 s5 t5 B6 b5
 go_upto_region 7 with (rw [←hw6];refine wpl_storeSt rfl _ _ rfl w5.heap.size rfl (stB y (.slice a5 l5 c5) (.slice ar5 m5 cr5)) _ rfl P6 rfl rfl (st_one _ _ _ _ _ _ _) ?_;intro w7 n7 k7)
 clear hw6 P6
 have H7:Hd (Blk w7 A 36 (stB s (.slice ax n cx) (.slice ar m cr))∧Blk w7 (A+1+1) 36 (stB sZ (.slice none 0 0) (.slice none 0 0))∧Below A w w7∧A+3≤w7.heap.size):=by
  have h1:=HB.out
  have h6:=H6.out
  have k26:Kept (fun _=>False) w2 w6:=Kept.of_below h6.1 _
  have hs6:=h6.1.size
  have hs5:=h6.2.2.2.2
  exact ⟨(h1.2.2.1.kept k26 id).kept k7 (by omega),(h1.2.2.2.kept k26 id).kept k7 (by omega),(h1.1.trans (h6.1.mono (by omega))).trans (k7.below (by omega) (fun j e=>by omega)),by have:=k7.size;omega⟩
 by_cases he:er=0
 ·have hb:(er == 0)=true:=by simp [he]
  have HE:Hd (∀ w9,Kept (fun j=>j=A+1+1) w7 w9→StV S w9 y (.agg (stB y (.slice a5 l5 c5) (.slice ar5 m5 cr5)))∧Below A w w9):=⟨fun w9 k9=>by
   have h1:=HB.out
   have h6:=H6.out
   have h7:=H7.out
   have hs5:=h6.2.2.2.2
   have kk:=Kept.of_below h6.2.2.2.1 (Sx S A (A+3))
   have e7:∀ j,j<w5.heap.size→(Sx S A (A+3) j∨w5.heap.size≤j)→Sx S A (A+3) j:=fun j hj e=>e.elim id (fun e=>absurd e (by omega))
   have k79:=(k7.mono (T:=fun j=>Sx S A (A+3) j∨w5.heap.size≤j) (fun j _ e=>.inr (by omega))).trans (k9.mono (fun j _ e=>.inl (.inr ⟨by omega,by omega⟩)))
   have s9:=(h6.2.1.stp kk e7).stp k79 (T:=S) (fun j _ e=>.inl (.inl e))
   have t9:=(h6.2.2.1.step kk e7).step k79 (T:=S) (fun j _ e=>.inl (.inl e))
   exact ⟨⟨a5,c5,ar5,cr5,by rw [HL5.out.1,HL5.out.2],s9,t9⟩,h7.2.2.1.trans (k9.below (by omega) (fun j e=>by omega))⟩⟩
  have HN:=Hd.mk he
  clear HO
  go_wp2_with (first | (refine wpl_loadSt rfl _ rfl w5.heap.size rfl _ n7 rfl ?_) | (refine wpl_storeSt rfl _ _ rfl (A+1+1) rfl (stB y (.slice a5 l5 c5) (.slice ar5 m5 cr5)) _ rfl H7.out.2.1 rfl rfl (st_one _ _ _ _ _ _ _) ?_;intro w9 n9 k9))
  refine bodyPost_ret (resSt10 _ _ _ rfl rfl n9) rfl ?_
  obtain ⟨q1,q3⟩:=HE.out w9 k9
  rw [←HA.out]
  (try rw [if_pos HN.out])
  refine ⟨⟨_,_,rfl,?_,none,0,rfl,TkS.nil _ _⟩,q3⟩
  show StV S w9 (arX s o.t _) _
  rw [←HR.out HN.out]
  exact q1
 ·have hb:(er == 0)=false:=by simpa using he
  have HN:=Hd.mk he
  go_upto_region 23 with fail
  go_wp2_with (first | (refine wpl_loadSt rfl _ rfl A rfl _ H7.out.1 rfl ?_) | (refine wpl_storeSt rfl _ _ rfl (A+1+1) rfl (stB s (.slice ax n cx) (.slice ar m cr)) _ rfl H7.out.2.1 rfl rfl (st_one _ _ _ _ _ _ _) ?_;intro w9 n9 k9))
  refine bodyPost_ret (resSt10 _ _ _ rfl rfl n9) rfl ?_
  have b9:Below A w w9:=H7.out.2.2.1.trans (k9.below (by have:=H7.out.2.2.2;omega) (fun j e=>by omega))
  have q1:=HO.out w9 b9
  rw [←HA.out]
  (try rw [if_neg HN.out])
  exact ⟨⟨_,_,rfl,q1,none,0,rfl,TkS.nil _ _⟩,b9⟩
set_option maxRecDepth 20000 in
set_option maxHeartbeats 2000000 in
theorem step_arrive1 (s:St) (o:Od) (ax:Option Addr) (cx:Nat) (ar:Option Addr) (cr:Nat) (ah:Option Addr) (nh ch:Nat) (H0:Nat→Int) (w:World) (S:Nat→Prop) (hx:StR S w ax cx s.x.F) (hr:TkS S w ar cr s.run) (hS:∀ j,S j→j<w.heap.size) (hf:Few s.x.F) (hl:(allT s).length≤1800) (hh:HnR w ah nh H0) (hc:nh≤ch) (hk:(IntKind.u64.wrap o.d).tmod 8=1) :
  Calls Try.prog 10 #[.agg (stB s (.slice ax s.x.F.length cx) (.slice ar s.run.length cr)),.agg (opQ o ah nh ch)] w fun e w'=>StA S w' (if arE s o.t (chF s.x.F s.x.o H0 (min nh 20))=0 then (arX s o.t (chF s.x.F s.x.o H0 (min nh 20)),[]) else (s,[])) e∧Below w.heap.size w w':=by
 obtain ⟨w2,hw2⟩:∃ w2,w2=((w.alloc (.cells (stB s (.slice ax s.x.F.length cx) (.slice ar s.run.length cr)) 36)).alloc (.cells (opQ o ah nh ch) 45)).alloc (.cells zsT 36):=⟨_,rfl⟩
 have BX:=boxes3 w 36 45 36 (stB s (.slice ax s.x.F.length cx) (.slice ar s.run.length cr)) (opQ o ah nh ch) zsT
 rw [←hw2] at BX
 obtain ⟨B,N1,N2,N3⟩:=BX
 have hs2:w2.heap.size=w.heap.size+3:=by rw [hw2];simp
 obtain ⟨A,hA⟩:∃ A,A=w.heap.size:=⟨_,rfl⟩
 have HA:Hd (A=w.heap.size):=⟨hA⟩
 rw [←hA] at B N1 N2 N3 hs2
 have HSZ:Hd (∀ j,S j→j<A):=⟨fun j e=>by rw [hA];exact hS j e⟩
 have hBw:Below w.heap.size w w2:=by rw [←hA];exact B
 have hlr:s.run.length≤1800∧(flt s.x.F).length≤1800:=by rw [allT_len] at hl;omega
 have W0:Blk w2 (A+1) 45 (opA o ah nh ch):=N2
 obtain ⟨o0,o1,o2,o3,o4,o5,o6,o7,o8,o9,o10,o11,o12,o13,o14,o15,o16,o17,o18⟩:=W0.opv
 obtain ⟨n2,hn2,hn4,hn3⟩:∃ n2:Nat,min (nh:Int) 20=(n2:Int)∧n2≤nh∧n2=min nh 20:=⟨min nh 20,by omega,by omega,rfl⟩
 have hcI:(n2:Int)≤(ch:Int):=by omega
 have hn0:(0:Int)≤(n2:Int):=by omega
 have HB:Hd (Below A w w2∧w2.heap.size=A+3∧Blk w2 A 36 (stB s (.slice ax s.x.F.length cx) (.slice ar s.run.length cr))∧Blk w2 (A+1+1) 36 (stB sZ (.slice none 0 0) (.slice none 0 0))):=⟨B,hs2,N1,N3⟩
 have HO:Hd (∀ W,Below A w W→StV S W s (.agg (stB s (.slice ax s.x.F.length cx) (.slice ar s.run.length cr)))):=⟨fun W b=>StV.old hx hr rfl rfl (by rw [←hA];exact b)⟩
 have hSx:∀ W:World,A+3≤W.heap.size→∀ j,Sx S A (A+3) j→j<W.heap.size:=fun W h j e=>by have:=Sx.lt (by rw [hA];exact hS) (by omega) j e (B:=A+3);omega
 have hx2:∀ W,Below A w W→StR (Sx S A (A+3)) W ax cx s.x.F:=fun W b=>hx.sx (by rw [←hA];exact b) hA
 have hr2:∀ W,Below A w W→SlR W ar cr s.run:=fun W b=>(hr.read (Kept.refl _ _)).carry (by rw [←hA];exact b)
 have CA:=arrive_st s o.t ax cx ar cr ah n2 ch w2 (Sx S A (A+3)) H0 (hx2 _ B) (hr2 _ B) (by omega) (hSx _ (by omega)) hf ((hh.carry hBw).less (by omega)) (by omega)
 rw [hn3] at CA
 obtain ⟨er,her⟩:∃ er,er=arE s o.t (chF s.x.F s.x.o H0 (min nh 20)):=⟨_,rfl⟩
 obtain ⟨y,hy⟩:∃ y,y=orZ er (arX s o.t (chF s.x.F s.x.o H0 (min nh 20))):=⟨_,rfl⟩
 have HR:Hd (er=0→y=arX s o.t (chF s.x.F s.x.o H0 (min nh 20))):=⟨fun e=>by rw [hy,e];rfl⟩
 rw [←her,← hy] at CA
 rw [←hn3] at CA
 rw [←her]
 have HN3:=Hd.mk hn3
 clear her hy hn3
 obtain ⟨m,hm⟩:∃ m,m=s.run.length:=⟨_,rfl⟩
 obtain ⟨n,hn⟩:∃ n,n=s.x.F.length:=⟨_,rfl⟩
 have HL:=Hd.mk (And.intro hm hn)
 rw [←hm,← hn] at HB HO CA hw2 ⊢
 clear hm hn
 clear N1 N2 N3 W0 B hx hr hs2 hBw hSx hx2 hr2 hS hl hlr hf hh
 go_enter Try.func10,Try.ntmps10
 go_upto_region 1 with fail
 rw [←hw2]
 clear hw2
 rw [←hA]
 clear hA
 go_upto_region 2 with fail
 go_wp2_with (refine wpl_loadSt rfl _ rfl A rfl _ HB.out.2.2.1 rfl ?_)
 go_at_call 19
 refine CA.mono ?_
 rintro e w5 ⟨⟨v5,rfl,v5e⟩,b5⟩
 clear CA o0 o1 o2 o3 o4 o5 o6 o7 o8 o9 o10 o11 o12 o13 o14 o15 o16 o17 o18
 obtain ⟨a5,c5,ar5,cr5,rfl,s5,t5⟩:=v5e
 obtain ⟨l5,hl5⟩:∃ l5,l5=y.x.F.length:=⟨_,rfl⟩
 obtain ⟨m5,hm5⟩:∃ m5,m5=y.run.length:=⟨_,rfl⟩
 have HL5:=Hd.mk (And.intro hl5 hm5)
 rw [←hl5,← hm5]
 clear hl5 hm5
 obtain ⟨w6,hw6⟩:∃ w6,w6=w5.alloc (.cells zsT 36):=⟨_,rfl⟩
 have B6:Below w5.heap.size w5 w6:=by rw [hw6];exact alloc_below _ _
 have P6:Blk w6 w5.heap.size 36 (stB sZ (.slice none 0 0) (.slice none 0 0)):=by rw [hw6];exact Blk.new _ _ _
 have b26:Below w2.heap.size w2 w6:=b5.trans (B6.mono b5.size)
 have H6:=Hd.mk (And.intro b26 (And.intro s5 (And.intro t5 (And.intro B6 b5.size))))
 clear b26 s5 t5 B6 b5
 go_upto_region 7 with (rw [←hw6];refine wpl_storeSt rfl _ _ rfl w5.heap.size rfl (stB y (.slice a5 l5 c5) (.slice ar5 m5 cr5)) _ rfl P6 rfl rfl (st_one _ _ _ _ _ _ _) ?_;intro w7 n7 k7)
 clear hw6 P6
 have H7:Hd (Blk w7 A 36 (stB s (.slice ax n cx) (.slice ar m cr))∧Blk w7 (A+1+1) 36 (stB sZ (.slice none 0 0) (.slice none 0 0))∧Below A w w7∧A+3≤w7.heap.size):=by
  have h1:=HB.out
  have h6:=H6.out
  have k26:Kept (fun _=>False) w2 w6:=Kept.of_below h6.1 _
  have hs6:=h6.1.size
  have hs5:=h6.2.2.2.2
  exact ⟨(h1.2.2.1.kept k26 id).kept k7 (by omega),(h1.2.2.2.kept k26 id).kept k7 (by omega),(h1.1.trans (h6.1.mono (by omega))).trans (k7.below (by omega) (fun j e=>by omega)),by have:=k7.size;omega⟩
 by_cases he:er=0
 ·have hb:(er == 0)=true:=by simp [he]
  have HE:Hd (∀ w9,Kept (fun j=>j=A+1+1) w7 w9→StV S w9 y (.agg (stB y (.slice a5 l5 c5) (.slice ar5 m5 cr5)))∧Below A w w9):=⟨fun w9 k9=>by
   have h1:=HB.out
   have h6:=H6.out
   have h7:=H7.out
   have hs5:=h6.2.2.2.2
   have kk:=Kept.of_below h6.2.2.2.1 (Sx S A (A+3))
   have e7:∀ j,j<w5.heap.size→(Sx S A (A+3) j∨w5.heap.size≤j)→Sx S A (A+3) j:=fun j hj e=>e.elim id (fun e=>absurd e (by omega))
   have k79:=(k7.mono (T:=fun j=>Sx S A (A+3) j∨w5.heap.size≤j) (fun j _ e=>.inr (by omega))).trans (k9.mono (fun j _ e=>.inl (.inr ⟨by omega,by omega⟩)))
   have s9:=(h6.2.1.stp kk e7).stp k79 (T:=S) (fun j _ e=>.inl (.inl e))
   have t9:=(h6.2.2.1.step kk e7).step k79 (T:=S) (fun j _ e=>.inl (.inl e))
   exact ⟨⟨a5,c5,ar5,cr5,by rw [HL5.out.1,HL5.out.2],s9,t9⟩,h7.2.2.1.trans (k9.below (by omega) (fun j e=>by omega))⟩⟩
  have HN:=Hd.mk he
  clear HO
  go_wp2_with (first | (refine wpl_loadSt rfl _ rfl w5.heap.size rfl _ n7 rfl ?_) | (refine wpl_storeSt rfl _ _ rfl (A+1+1) rfl (stB y (.slice a5 l5 c5) (.slice ar5 m5 cr5)) _ rfl H7.out.2.1 rfl rfl (st_one _ _ _ _ _ _ _) ?_;intro w9 n9 k9))
  refine bodyPost_ret (resSt10 _ _ _ rfl rfl n9) rfl ?_
  obtain ⟨q1,q3⟩:=HE.out w9 k9
  rw [←HA.out]
  (try rw [if_pos HN.out])
  refine ⟨⟨_,_,rfl,?_,none,0,rfl,TkS.nil _ _⟩,q3⟩
  show StV S w9 (arX s o.t _) _
  rw [←HR.out HN.out]
  exact q1
 ·have hb:(er == 0)=false:=by simpa using he
  have HN:=Hd.mk he
  go_upto_region 23 with fail
  go_wp2_with (first | (refine wpl_loadSt rfl _ rfl A rfl _ H7.out.1 rfl ?_) | (refine wpl_storeSt rfl _ _ rfl (A+1+1) rfl (stB s (.slice ax n cx) (.slice ar m cr)) _ rfl H7.out.2.1 rfl rfl (st_one _ _ _ _ _ _ _) ?_;intro w9 n9 k9))
  refine bodyPost_ret (resSt10 _ _ _ rfl rfl n9) rfl ?_
  have b9:Below A w w9:=H7.out.2.2.1.trans (k9.below (by have:=H7.out.2.2.2;omega) (fun j e=>by omega))
  have q1:=HO.out w9 b9
  rw [←HA.out]
  (try rw [if_neg HN.out])
  exact ⟨⟨_,_,rfl,q1,none,0,rfl,TkS.nil _ _⟩,b9⟩
end Go.Proofs.Ytlgibnmoogbdcaa
