/-
  A level is turned to other numbers, by the program.
-/
import Derived.Test.YtlgibnmoogbdcaaGreatR33
import Derived.Test.YtlgibnmoogbdcaaGreatR26
namespace Go.Proofs.YtlgibnmoogbdcaaGreat
open Go.RowKit
def lvA (l:Lv):Array Value:=#[.string l.name,.int .i64 l.kind,.int .i64 l.shares,.int .i64 l.lend,.int .i64 l.borrow,.int .i64 l.queues,.int .i64 l.hand,.int .i64 l.length,.int .i64 l.wait,.int .i64 l.guess]
theorem Blk.lv {w:World} {b:Nat} {l:Lv} (h:Blk w b 23 (lvA l)):w.cell? ⟨b,0,none⟩=some (.string l.name)∧w.cell? ⟨b,1,none⟩=some (.int .i64 l.kind)∧w.cell? ⟨b,2,none⟩=some (.int .i64 l.shares)∧w.cell? ⟨b,3,none⟩=some (.int .i64 l.lend)∧w.cell? ⟨b,4,none⟩=some (.int .i64 l.borrow)∧w.cell? ⟨b,5,none⟩=some (.int .i64 l.queues)∧w.cell? ⟨b,6,none⟩=some (.int .i64 l.hand)∧w.cell? ⟨b,7,none⟩=some (.int .i64 l.length)∧w.cell? ⟨b,8,none⟩=some (.int .i64 l.wait)∧w.cell? ⟨b,9,none⟩=some (.int .i64 l.guess) :=
 ⟨h.cellv 0 rfl,h.cellv 1 rfl,h.cellv 2 rfl,h.cellv 3 rfl,h.cellv 4 rfl,h.cellv 5 rfl,h.cellv 6 rfl,h.cellv 7 rfl,h.cellv 8 rfl,h.cellv 9 rfl⟩
set_option maxRecDepth 20000 in
set_option maxHeartbeats 2000000 in
theorem turn_shut (s:St) (l:Lv) (q:Bool) (ax:Option Addr) (cx:Nat) (ar:Option Addr) (cr:Nat) (w:World) (S:Nat→Prop) (hx:StR S w ax cx s.x.F) (hr:SlR w ar cr s.run) (hl:s.run.length≤1990) (hS:∀ j,S j→j<w.heap.size) (hf:Few s.x.F) (hc:l.kind≠3∨q=true) :
  Calls Tryz.prog 21 #[.agg (stB s (.slice ax s.x.F.length cx) (.slice ar s.run.length cr)),.agg #[.string l.name,.int .i64 l.kind,.int .i64 l.shares,.int .i64 l.lend,.int .i64 l.borrow,.int .i64 l.queues,.int .i64 l.hand,.int .i64 l.length,.int .i64 l.wait,.int .i64 l.guess],.bool q] w fun e w'=>(∃ v,e=.returned v∧StV S w' { s with lv:=l,q:=q,x:=suX s.x } v)∧Below w.heap.size w w':=by
 obtain ⟨w2,hw2⟩:∃ w2,w2=(((w.alloc (.cells (stB s (.slice ax s.x.F.length cx) (.slice ar s.run.length cr)) 34)).alloc (.cells #[.string l.name,.int .i64 l.kind,.int .i64 l.shares,.int .i64 l.lend,.int .i64 l.borrow,.int .i64 l.queues,.int .i64 l.hand,.int .i64 l.length,.int .i64 l.wait,.int .i64 l.guess] 23)).alloc (.cells zsT 34)):=⟨_,rfl⟩
 have BX:=boxes3 w 34 23 34 (stB s (.slice ax s.x.F.length cx) (.slice ar s.run.length cr)) #[.string l.name,.int .i64 l.kind,.int .i64 l.shares,.int .i64 l.lend,.int .i64 l.borrow,.int .i64 l.queues,.int .i64 l.hand,.int .i64 l.length,.int .i64 l.wait,.int .i64 l.guess] zsT
 rw [←hw2] at BX
 obtain ⟨B,N1,N2,N3⟩:=BX
 have hs2:w2.heap.size=w.heap.size+3:=by rw [hw2];simp
 obtain ⟨A,hA⟩:∃ A,A=w.heap.size:=⟨_,rfl⟩
 have HA:Hd (A=w.heap.size):=⟨hA⟩
 rw [←hA] at B N1 N2 N3 hs2
 obtain ⟨Q1,K1⟩:=st_lv N1 l q
 have W0:Blk w2 (A+1) 23 (lvA l):=N2
 obtain ⟨c0,c1,c2,c3,c4,c5,c6,c7,c8,c9⟩:=W0.lv
 have f0:=N1.frozen 0
 have f1:=N1.frozen 1
 have f2:=N1.frozen 2
 have f3:=N1.frozen 3
 have f4:=N1.frozen 4
 have f5:=N1.frozen 5
 have f6:=N1.frozen 6
 have f7:=N1.frozen 7
 have f8:=N1.frozen 8
 have f9:=N1.frozen 9
 have f10:=N1.frozen 10
 have HF0:=Hd.mk N1
 obtain ⟨w3,hw3⟩:∃ w3,w3=(((((((((((w2.setCell ⟨A,0,none⟩ (.string l.name)).setCell ⟨A,1,none⟩ (.int .i64 l.kind)).setCell ⟨A,2,none⟩ (.int .i64 l.shares)).setCell ⟨A,3,none⟩ (.int .i64 l.lend)).setCell ⟨A,4,none⟩ (.int .i64 l.borrow)).setCell ⟨A,5,none⟩ (.int .i64 l.queues)).setCell ⟨A,6,none⟩ (.int .i64 l.hand)).setCell ⟨A,7,none⟩ (.int .i64 l.length)).setCell ⟨A,8,none⟩ (.int .i64 l.wait)).setCell ⟨A,9,none⟩ (.int .i64 l.guess)).setCell ⟨A,10,none⟩ (.bool q)):=⟨_,rfl⟩
 rw [←hw3] at Q1 K1
 have hs3:w3.heap.size=A+3:=by rw [hw3];simpa using hs2
 have B3:Below A w w3:=B.trans (K1.below (by omega) (fun j e=>by omega))
 have hBw:Below w.heap.size w w3:=by rw [←hA];exact B3
 have hx3:StR (Sx S A (A+3)) w3 ax cx s.x.F:=hx.sx hBw hA
 have HW:Hd (∀ W (y:Fa) av nv cv,Below A w W→Calls Tryz.prog 48 #[.agg (stB ⟨l,q,s.lim,s.b0,s.b1,s.b2,s.d0,s.d1,s.x,s.run⟩ (.slice ax s.x.F.length cx) (.slice ar s.run.length cr)),.agg #[.int .u64 y.r,.int .i64 y.g,.int .i64 y.n,.int .i64 y.o,.slice av nv cv]] W fun e w'=>(∃ u,e=.returned (.agg (stB ⟨l,q,s.lim,s.b0,s.b1,s.b2,s.d0,s.d1,y,s.run⟩ (.slice av nv cv) u))∧OwnT w' (W.heap.size+3) u s.run)∧Below W.heap.size W w'):=⟨fun W y av nv cv b=>swith_ok ⟨l,q,s.lim,s.b0,s.b1,s.b2,s.d0,s.d1,s.x,s.run⟩ _ ar cr y av nv cv W (hr.carry (by rw [←hA];exact b)) (by show s.run.length≤2000;omega)⟩
 have HSZ:Hd (∀ j,S j→j<A):=⟨fun j e=>by rw [hA];exact hS j e⟩
 have hSx:∀ W:World,A+3≤W.heap.size→∀ j,Sx S A (A+3) j→j<W.heap.size:=fun W h j e=>by have:=Sx.lt (by rw [hA];exact hS) (by omega) j e (B:=A+3);omega
 have M1:=Q1
 have M2:=W0.kept K1 (by omega)
 have M3:=N3.kept K1 (by omega)
 have HSU:Hd (∀ W,Below A w W→A+3≤W.heap.size→Calls Tryz.prog 58 #[.agg #[.int .u64 s.x.r,.int .i64 s.x.g,.int .i64 s.x.n,.int .i64 s.x.o,.slice ax s.x.F.length cx]] W fun e w'=>(∃ v,e=.returned v∧FaT (Sx S A (A+3)) w' (suX s.x) v)∧Below W.heap.size W w'):=⟨fun W b h=>shut_st s.x ax cx W (Sx S A (A+3)) (hx.sx (by rw [←hA];exact b) hA) (fun j e=>by have:=Sx.lt (by rw [hA];exact hS) (by omega) j e (B:=A+3);omega) hf⟩
 have HB:Hd (Below A w w3∧Blk w3 A 34 (stB ⟨l,q,s.lim,s.b0,s.b1,s.b2,s.d0,s.d1,s.x,s.run⟩ (.slice ax s.x.F.length cx) (.slice ar s.run.length cr))∧Blk w3 (A+1+1) 34 (stB sZ (.slice none 0 0) (.slice none 0 0))∧A+3≤w3.heap.size):=⟨B3,M1,M3,by omega⟩
 obtain ⟨-,d1,-⟩:=M2.lv
 clear N1 N2 N3 W0 Q1 K1 M1 M2 M3 B B3 hx hx3 hr hf hs2 hs3 hS hBw hSx
 generalize s.run.length=m at *
 generalize s.x.F.length=n at *
 generalize suX s.x=y at *
 go_enter Tryz.func21,Tryz.ntmps21
 go_upto_region 1 with fail
 rw [←hw2]
 clear hw2
 rw [←hA]
 clear hA
 have g0:=HF0.out.cellv 0 rfl
 have g1:=HF0.out.cellv 1 rfl
 have g2:=HF0.out.cellv 2 rfl
 have g3:=HF0.out.cellv 3 rfl
 have g4:=HF0.out.cellv 4 rfl
 have g5:=HF0.out.cellv 5 rfl
 have g6:=HF0.out.cellv 6 rfl
 have g7:=HF0.out.cellv 7 rfl
 have g8:=HF0.out.cellv 8 rfl
 have g9:=HF0.out.cellv 9 rfl
 have g10:=HF0.out.cellv 10 rfl
 go_upto_region 2 with fail
 rw [←hw3]
 clear hw3 c0 c1 c2 c3 c4 c5 c6 c7 c8 c9 f0 f1 f2 f3 f4 f5 f6 f7 f8 f9 f10 g0 g1 g2 g3 g4 g5 g6 g7 g8 g9 g10 HF0
 have hg:q=true∨(l.kind == 3)=false:=by
  rcases hc with h | h
  ·exact .inr (by simpa using h)
  ·exact .inl h
 clear hc
 by_cases h3:l.kind=3
 ·have hq:q=true:=by
   rcases hg with h | h
   ·exact h
   ·rw [h3] at h;exact absurd h (by decide)
  clear hg
  subst hq
  rw [h3] at d1
  clear h3
  go_upto_region 6 with fail
  clear d1
  obtain ⟨wd,hwd⟩:∃ wd,wd=w3.drew:=⟨_,rfl⟩
  have T0:Blk wd A 34 (stB ⟨l,true,s.lim,s.b0,s.b1,s.b2,s.d0,s.d1,s.x,s.run⟩ (.slice ax n cx) (.slice ar m cr)):=by rw [hwd];exact HB.out.2.1
  have M6:Hd (Below A w wd∧Blk wd (A+1+1) 34 (stB sZ (.slice none 0 0) (.slice none 0 0))∧A+3≤wd.heap.size):=⟨by rw [hwd];exact HB.out.1.drew,by rw [hwd];exact HB.out.2.2.1,by rw [hwd];exact HB.out.2.2.2⟩
  have SU:=HSU.out wd M6.out.1 M6.out.2.2
  clear HB HSU
  refine AnyG.start (T:=fun W=>Blk W A 34 (stB ⟨l,true,s.lim,s.b0,s.b1,s.b2,s.d0,s.d1,s.x,s.run⟩ (.slice ax n cx) (.slice ar m cr))) (U:=fun _=>True) (j0:=4) (by kernel_rfl) ?_
  rw [←hwd]
  clear hwd
  refine .tq (v:=.agg (stB ⟨l,true,s.lim,s.b0,s.b1,s.b2,s.d0,s.d1,s.x,s.run⟩ (.slice ax n cx) (.slice ar m cr))) 0 37 T0 ?_ (hy:=fun w hSw=>exec_loadSt _ rfl A rfl _ hSw rfl);simp only [oqA,oqB,oqC]
  refine .tq 1 38 T0 ?_;simp only [oqA,oqB,oqC]
  refine .tq (v:=.agg #[.int .u64 s.x.r,.int .i64 s.x.g,.int .i64 s.x.n,.int .i64 s.x.o,.slice ax n cx]) 2 39 T0 ?_ (hy:=fun w hSw=>by obtain ⟨c0,c1,c2,c3,c4⟩:=(Blk.stx hSw).1;go_simp);simp only [oqA,oqB,oqC]
  refine AnyG.ready (rs:=[3]) (by kernel_rfl) (by simp) ?_
  refine AllG.cons rfl (fun K hK=>?_) AllG.nil
  go_simp
  refine SU.mono ?_
  rintro e w5 ⟨⟨v5,rfl,a5,c5,rfl,s5⟩,b5⟩
  obtain ⟨l5,hl5⟩:∃ l5,l5=y.F.length:=⟨_,rfl⟩
  have HL5:Hd (l5=y.F.length):=⟨hl5⟩
  rw [←hl5]
  clear hl5 SU
  have T5:Blk w5 A 34 (stB ⟨l,true,s.lim,s.b0,s.b1,s.b2,s.d0,s.d1,s.x,s.run⟩ (.slice ax n cx) (.slice ar m cr)):=T0.kept (Kept.of_below b5 (fun _=>False)) id
  have M7:Hd (Below A w w5∧Blk w5 (A+1+1) 34 (stB sZ (.slice none 0 0) (.slice none 0 0))∧A+3≤w5.heap.size∧StR (Sx S A (A+3)) w5 a5 c5 y.F):=⟨M6.out.1.trans (b5.mono (by have:=M6.out.2.2;omega)),M6.out.2.1.kept (Kept.of_below b5 (fun _=>False)) id,by have:=M6.out.2.2;have:=b5.size;omega,s5⟩
  have HW5:=HW.out w5 y a5 l5 c5 M7.out.1
  refine hK.out _ _ ⟨T5,fun _=>trivial⟩ ?_
  clear hK K T0 M6 s5 b5 HW
  refine AnyG.ready (rs:=[4]) (by kernel_rfl) (by simp) ?_
  refine AllG.cons rfl (fun K hK=>?_) AllG.nil
  go_simp
  refine HW5.mono ?_
  rintro e w7 ⟨⟨u7,rfl,o7⟩,b7⟩
  obtain ⟨a7,c7,e7,-⟩:=o7.read
  obtain ⟨m7,hm7⟩:∃ m7,m7=s.run.length:=⟨_,rfl⟩
  rw [←hm7] at e7
  subst e7
  have T7:Blk w7 A 34 (stB ⟨l,true,s.lim,s.b0,s.b1,s.b2,s.d0,s.d1,s.x,s.run⟩ (.slice ax n cx) (.slice ar m cr)):=T5.kept (Kept.of_below b7 (fun _=>False)) id
  have P7:Blk w7 (A+1+1) 34 (stB sZ (.slice none 0 0) (.slice none 0 0)):=M7.out.2.1.kept (Kept.of_below b7 (fun _=>False)) id
  have HE:Hd (∀ w9,Kept (fun j=>j=A+1+1) w7 w9→StV S w9 { s with lv:=l,q:=true,x:=y } (.agg (stB ⟨l,true,s.lim,s.b0,s.b1,s.b2,s.d0,s.d1,y,s.run⟩ (.slice a5 l5 c5) (.slice a7 m7 c7)))∧Below A w w9):=⟨fun w9 k9=>by
   obtain ⟨h1,h2,h3,h4⟩:=M7.out
   have hs7:=b7.size
   refine ⟨⟨a5,c5,a7,c7,by rw [HL5.out,hm7],?_,?_⟩,(h1.trans (b7.mono (by omega))).trans (k9.below (by omega) (fun j e=>by omega))⟩
   ·exact (h4.high b7 (T:=Sx S A (A+3)) (fun _ _ h=>h)).stp (k9.mono (T:=Sx S A (A+3)) (fun j _ e=>.inr ⟨by omega,by omega⟩)) (T:=S) (fun j _ e=>.inl e)
   ·have q:=(o7.kept k9 (fun j hj e=>by omega)).ts (S:=S) (fun j hj e=>by have:=HSZ.out j e;omega)
    obtain ⟨a',c',e',r'⟩:=q
    obtain ⟨rfl,-,rfl⟩:a7=a'∧True∧c7=c':=by injection e' with x1 x2 x3;exact ⟨x1,trivial,x3⟩
    exact r'⟩
  refine hK.out _ _ ⟨T7,fun _=>trivial⟩ ?_
  clear hK K T5 M7 hm7 o7 b7 HW5
  refine AnyG.ready (rs:=[5]) (by kernel_rfl) (by simp) ?_
  refine AllG.cons rfl (fun K hK=>?_) AllG.nil
  refine step_storeSt rfl _ _ rfl (A+1+1) rfl (stB ⟨l,true,s.lim,s.b0,s.b1,s.b2,s.d0,s.d1,y,s.run⟩ (.slice a5 l5 c5) (.slice a7 m7 c7)) _ rfl P7 rfl rfl (st_one _ _ _ _ _ _ _) ?_
  intro w9 n9 k9
  refine hK.out _ _ ⟨T7.kept k9 (by omega),fun _=>trivial⟩ ?_
  refine AnyG.done (by kernel_rfl) ?_ _
  clear hK K T7 P7
  go_wp2_with fail
  refine bodyPost_ret (resSt27 _ _ _ rfl rfl n9) rfl ?_
  obtain ⟨o9,b9⟩:=HE.out w9 k9
  rw [←HA.out]
  exact ⟨⟨_,rfl,o9⟩,b9⟩
 ·have h4:(l.kind == 3)=false:=by simpa using h3
  clear hg
  go_upto_region 6 with fail
  clear d1 h3 h4
  obtain ⟨wd,hwd⟩:∃ wd,wd=w3.drew:=⟨_,rfl⟩
  have T0:Blk wd A 34 (stB ⟨l,q,s.lim,s.b0,s.b1,s.b2,s.d0,s.d1,s.x,s.run⟩ (.slice ax n cx) (.slice ar m cr)):=by rw [hwd];exact HB.out.2.1
  have M6:Hd (Below A w wd∧Blk wd (A+1+1) 34 (stB sZ (.slice none 0 0) (.slice none 0 0))∧A+3≤wd.heap.size):=⟨by rw [hwd];exact HB.out.1.drew,by rw [hwd];exact HB.out.2.2.1,by rw [hwd];exact HB.out.2.2.2⟩
  have SU:=HSU.out wd M6.out.1 M6.out.2.2
  clear HB HSU
  refine AnyG.start (T:=fun W=>Blk W A 34 (stB ⟨l,q,s.lim,s.b0,s.b1,s.b2,s.d0,s.d1,s.x,s.run⟩ (.slice ax n cx) (.slice ar m cr))) (U:=fun _=>True) (j0:=4) (by kernel_rfl) ?_
  rw [←hwd]
  clear hwd
  refine .tq (v:=.agg (stB ⟨l,q,s.lim,s.b0,s.b1,s.b2,s.d0,s.d1,s.x,s.run⟩ (.slice ax n cx) (.slice ar m cr))) 0 37 T0 ?_ (hy:=fun w hSw=>exec_loadSt _ rfl A rfl _ hSw rfl);simp only [oqA,oqB,oqC]
  refine .tq 1 38 T0 ?_;simp only [oqA,oqB,oqC]
  refine .tq (v:=.agg #[.int .u64 s.x.r,.int .i64 s.x.g,.int .i64 s.x.n,.int .i64 s.x.o,.slice ax n cx]) 2 39 T0 ?_ (hy:=fun w hSw=>by obtain ⟨c0,c1,c2,c3,c4⟩:=(Blk.stx hSw).1;go_simp);simp only [oqA,oqB,oqC]
  refine AnyG.ready (rs:=[3]) (by kernel_rfl) (by simp) ?_
  refine AllG.cons rfl (fun K hK=>?_) AllG.nil
  go_simp
  refine SU.mono ?_
  rintro e w5 ⟨⟨v5,rfl,a5,c5,rfl,s5⟩,b5⟩
  obtain ⟨l5,hl5⟩:∃ l5,l5=y.F.length:=⟨_,rfl⟩
  have HL5:Hd (l5=y.F.length):=⟨hl5⟩
  rw [←hl5]
  clear hl5 SU
  have T5:Blk w5 A 34 (stB ⟨l,q,s.lim,s.b0,s.b1,s.b2,s.d0,s.d1,s.x,s.run⟩ (.slice ax n cx) (.slice ar m cr)):=T0.kept (Kept.of_below b5 (fun _=>False)) id
  have M7:Hd (Below A w w5∧Blk w5 (A+1+1) 34 (stB sZ (.slice none 0 0) (.slice none 0 0))∧A+3≤w5.heap.size∧StR (Sx S A (A+3)) w5 a5 c5 y.F):=⟨M6.out.1.trans (b5.mono (by have:=M6.out.2.2;omega)),M6.out.2.1.kept (Kept.of_below b5 (fun _=>False)) id,by have:=M6.out.2.2;have:=b5.size;omega,s5⟩
  have HW5:=HW.out w5 y a5 l5 c5 M7.out.1
  refine hK.out _ _ ⟨T5,fun _=>trivial⟩ ?_
  clear hK K T0 M6 s5 b5 HW
  refine AnyG.ready (rs:=[4]) (by kernel_rfl) (by simp) ?_
  refine AllG.cons rfl (fun K hK=>?_) AllG.nil
  go_simp
  refine HW5.mono ?_
  rintro e w7 ⟨⟨u7,rfl,o7⟩,b7⟩
  obtain ⟨a7,c7,e7,-⟩:=o7.read
  obtain ⟨m7,hm7⟩:∃ m7,m7=s.run.length:=⟨_,rfl⟩
  rw [←hm7] at e7
  subst e7
  have T7:Blk w7 A 34 (stB ⟨l,q,s.lim,s.b0,s.b1,s.b2,s.d0,s.d1,s.x,s.run⟩ (.slice ax n cx) (.slice ar m cr)):=T5.kept (Kept.of_below b7 (fun _=>False)) id
  have P7:Blk w7 (A+1+1) 34 (stB sZ (.slice none 0 0) (.slice none 0 0)):=M7.out.2.1.kept (Kept.of_below b7 (fun _=>False)) id
  have HE:Hd (∀ w9,Kept (fun j=>j=A+1+1) w7 w9→StV S w9 { s with lv:=l,q:=q,x:=y } (.agg (stB ⟨l,q,s.lim,s.b0,s.b1,s.b2,s.d0,s.d1,y,s.run⟩ (.slice a5 l5 c5) (.slice a7 m7 c7)))∧Below A w w9):=⟨fun w9 k9=>by
   obtain ⟨h1,h2,h3,h4⟩:=M7.out
   have hs7:=b7.size
   refine ⟨⟨a5,c5,a7,c7,by rw [HL5.out,hm7],?_,?_⟩,(h1.trans (b7.mono (by omega))).trans (k9.below (by omega) (fun j e=>by omega))⟩
   ·exact (h4.high b7 (T:=Sx S A (A+3)) (fun _ _ h=>h)).stp (k9.mono (T:=Sx S A (A+3)) (fun j _ e=>.inr ⟨by omega,by omega⟩)) (T:=S) (fun j _ e=>.inl e)
   ·have q:=(o7.kept k9 (fun j hj e=>by omega)).ts (S:=S) (fun j hj e=>by have:=HSZ.out j e;omega)
    obtain ⟨a',c',e',r'⟩:=q
    obtain ⟨rfl,-,rfl⟩:a7=a'∧True∧c7=c':=by injection e' with x1 x2 x3;exact ⟨x1,trivial,x3⟩
    exact r'⟩
  refine hK.out _ _ ⟨T7,fun _=>trivial⟩ ?_
  clear hK K T5 M7 hm7 o7 b7 HW5
  refine AnyG.ready (rs:=[5]) (by kernel_rfl) (by simp) ?_
  refine AllG.cons rfl (fun K hK=>?_) AllG.nil
  refine step_storeSt rfl _ _ rfl (A+1+1) rfl (stB ⟨l,q,s.lim,s.b0,s.b1,s.b2,s.d0,s.d1,y,s.run⟩ (.slice a5 l5 c5) (.slice a7 m7 c7)) _ rfl P7 rfl rfl (st_one _ _ _ _ _ _ _) ?_
  intro w9 n9 k9
  refine hK.out _ _ ⟨T7.kept k9 (by omega),fun _=>trivial⟩ ?_
  refine AnyG.done (by kernel_rfl) ?_ _
  clear hK K T7 P7
  go_wp2_with fail
  refine bodyPost_ret (resSt27 _ _ _ rfl rfl n9) rfl ?_
  obtain ⟨o9,b9⟩:=HE.out w9 k9
  rw [←HA.out]
  exact ⟨⟨_,rfl,o9⟩,b9⟩
set_option maxRecDepth 20000 in
set_option maxHeartbeats 2000000 in
theorem turn_shape (s:St) (l:Lv) (q:Bool) (ax:Option Addr) (cx:Nat) (ar:Option Addr) (cr:Nat) (w:World) (S:Nat→Prop) (hx:StR S w ax cx s.x.F) (hr:SlR w ar cr s.run) (hl:s.run.length≤1990) (hS:∀ j,S j→j<w.heap.size) (hf:Few s.x.F) (h3:l.kind=3) (hq:q=false) (he:nwE l.queues l.guess l.length=0) :
  Calls Tryz.prog 21 #[.agg (stB s (.slice ax s.x.F.length cx) (.slice ar s.run.length cr)),.agg #[.string l.name,.int .i64 l.kind,.int .i64 l.shares,.int .i64 l.lend,.int .i64 l.borrow,.int .i64 l.queues,.int .i64 l.hand,.int .i64 l.length,.int .i64 l.wait,.int .i64 l.guess],.bool q] w fun e w'=>(∃ v,e=.returned v∧StV S w' { s with lv:=l,q:=q,x:=shX s.x l.queues l.guess l.length } v)∧Below w.heap.size w w':=by
 obtain ⟨w2,hw2⟩:∃ w2,w2=(((w.alloc (.cells (stB s (.slice ax s.x.F.length cx) (.slice ar s.run.length cr)) 34)).alloc (.cells #[.string l.name,.int .i64 l.kind,.int .i64 l.shares,.int .i64 l.lend,.int .i64 l.borrow,.int .i64 l.queues,.int .i64 l.hand,.int .i64 l.length,.int .i64 l.wait,.int .i64 l.guess] 23)).alloc (.cells zsT 34)):=⟨_,rfl⟩
 have BX:=boxes3 w 34 23 34 (stB s (.slice ax s.x.F.length cx) (.slice ar s.run.length cr)) #[.string l.name,.int .i64 l.kind,.int .i64 l.shares,.int .i64 l.lend,.int .i64 l.borrow,.int .i64 l.queues,.int .i64 l.hand,.int .i64 l.length,.int .i64 l.wait,.int .i64 l.guess] zsT
 rw [←hw2] at BX
 obtain ⟨B,N1,N2,N3⟩:=BX
 have hs2:w2.heap.size=w.heap.size+3:=by rw [hw2];simp
 obtain ⟨A,hA⟩:∃ A,A=w.heap.size:=⟨_,rfl⟩
 have HA:Hd (A=w.heap.size):=⟨hA⟩
 rw [←hA] at B N1 N2 N3 hs2
 obtain ⟨Q1,K1⟩:=st_lv N1 l q
 have W0:Blk w2 (A+1) 23 (lvA l):=N2
 obtain ⟨c0,c1,c2,c3,c4,c5,c6,c7,c8,c9⟩:=W0.lv
 have f0:=N1.frozen 0
 have f1:=N1.frozen 1
 have f2:=N1.frozen 2
 have f3:=N1.frozen 3
 have f4:=N1.frozen 4
 have f5:=N1.frozen 5
 have f6:=N1.frozen 6
 have f7:=N1.frozen 7
 have f8:=N1.frozen 8
 have f9:=N1.frozen 9
 have f10:=N1.frozen 10
 have HF0:=Hd.mk N1
 obtain ⟨w3,hw3⟩:∃ w3,w3=(((((((((((w2.setCell ⟨A,0,none⟩ (.string l.name)).setCell ⟨A,1,none⟩ (.int .i64 l.kind)).setCell ⟨A,2,none⟩ (.int .i64 l.shares)).setCell ⟨A,3,none⟩ (.int .i64 l.lend)).setCell ⟨A,4,none⟩ (.int .i64 l.borrow)).setCell ⟨A,5,none⟩ (.int .i64 l.queues)).setCell ⟨A,6,none⟩ (.int .i64 l.hand)).setCell ⟨A,7,none⟩ (.int .i64 l.length)).setCell ⟨A,8,none⟩ (.int .i64 l.wait)).setCell ⟨A,9,none⟩ (.int .i64 l.guess)).setCell ⟨A,10,none⟩ (.bool q)):=⟨_,rfl⟩
 rw [←hw3] at Q1 K1
 have hs3:w3.heap.size=A+3:=by rw [hw3];simpa using hs2
 have B3:Below A w w3:=B.trans (K1.below (by omega) (fun j e=>by omega))
 have hBw:Below w.heap.size w w3:=by rw [←hA];exact B3
 have hx3:StR (Sx S A (A+3)) w3 ax cx s.x.F:=hx.sx hBw hA
 have HW:Hd (∀ W (y:Fa) av nv cv,Below A w W→Calls Tryz.prog 48 #[.agg (stB ⟨l,q,s.lim,s.b0,s.b1,s.b2,s.d0,s.d1,s.x,s.run⟩ (.slice ax s.x.F.length cx) (.slice ar s.run.length cr)),.agg #[.int .u64 y.r,.int .i64 y.g,.int .i64 y.n,.int .i64 y.o,.slice av nv cv]] W fun e w'=>(∃ u,e=.returned (.agg (stB ⟨l,q,s.lim,s.b0,s.b1,s.b2,s.d0,s.d1,y,s.run⟩ (.slice av nv cv) u))∧OwnT w' (W.heap.size+3) u s.run)∧Below W.heap.size W w'):=⟨fun W y av nv cv b=>swith_ok ⟨l,q,s.lim,s.b0,s.b1,s.b2,s.d0,s.d1,s.x,s.run⟩ _ ar cr y av nv cv W (hr.carry (by rw [←hA];exact b)) (by show s.run.length≤2000;omega)⟩
 have HSZ:Hd (∀ j,S j→j<A):=⟨fun j e=>by rw [hA];exact hS j e⟩
 have hSx:∀ W:World,A+3≤W.heap.size→∀ j,Sx S A (A+3) j→j<W.heap.size:=fun W h j e=>by have:=Sx.lt (by rw [hA];exact hS) (by omega) j e (B:=A+3);omega
 have M1:=Q1
 have M2:=W0.kept K1 (by omega)
 have M3:=N3.kept K1 (by omega)
 have SH:=shape_st s.x ax cx w3 (Sx S A (A+3)) hx3 (hSx w3 (by omega)) hf l.queues l.guess l.length
 have HM:Hd (Below A w w3∧w3.heap.size=A+3):=⟨B3,hs3⟩
 have HB3:Hd (Blk w3 A 34 (stB ⟨l,q,s.lim,s.b0,s.b1,s.b2,s.d0,s.d1,s.x,s.run⟩ (.slice ax s.x.F.length cx) (.slice ar s.run.length cr))∧Blk w3 (A+1+1) 34 (stB sZ (.slice none 0 0) (.slice none 0 0))):=⟨M1,M3⟩
 obtain ⟨d0,d1,d2,d3,d4,d5,d6,d7,d8,d9⟩:=M2.lv
 obtain ⟨⟨x0,x1,x2,x3,x4⟩,-⟩:=M1.stx
 subst hq
 rw [h3] at d1
 clear h3 N1 N2 N3 W0 Q1 K1 M1 M2 M3 B B3 hx hx3 hr hf hs2 hs3 hS hBw hSx d0 d2 d3 d4 d6 d8
 generalize s.run.length=m at *
 generalize s.x.F.length=n at *
 rw [he] at SH
 generalize shX s.x l.queues l.guess l.length=y at *
 go_enter Tryz.func21,Tryz.ntmps21
 go_upto_region 1 with fail
 rw [←hw2]
 clear hw2
 rw [←hA]
 clear hA
 have g0:=HF0.out.cellv 0 rfl
 have g1:=HF0.out.cellv 1 rfl
 have g2:=HF0.out.cellv 2 rfl
 have g3:=HF0.out.cellv 3 rfl
 have g4:=HF0.out.cellv 4 rfl
 have g5:=HF0.out.cellv 5 rfl
 have g6:=HF0.out.cellv 6 rfl
 have g7:=HF0.out.cellv 7 rfl
 have g8:=HF0.out.cellv 8 rfl
 have g9:=HF0.out.cellv 9 rfl
 have g10:=HF0.out.cellv 10 rfl
 go_upto_region 2 with fail
 rw [←hw3]
 clear hw3 c0 c1 c2 c3 c4 c5 c6 c7 c8 c9 f0 f1 f2 f3 f4 f5 f6 f7 f8 f9 f10 g0 g1 g2 g3 g4 g5 g6 g7 g8 g9 g10 HF0
 go_wp2_with fail
 go_at_call 57
 refine SH.mono ?_
 rintro e w5 ⟨⟨v5,rfl,a5,c5,rfl,s5⟩,b5⟩
 clear SH d1 d5 d7 d9 x0 x1 x2 x3 x4
 obtain ⟨l5,hl5⟩:∃ l5,l5=y.F.length:=⟨_,rfl⟩
 have HL5:Hd (l5=y.F.length):=⟨hl5⟩
 rw [←hl5]
 clear hl5
 obtain ⟨w6,hw6⟩:∃ w6,w6=w5.alloc (.cells #[.int .u64 y.r,.int .i64 y.g,.int .i64 y.n,.int .i64 y.o,.slice a5 l5 c5] 31):=⟨_,rfl⟩
 have B6:Below w5.heap.size w5 w6:=by rw [hw6];exact alloc_below _ _
 have N6:Blk w6 w5.heap.size 31 (faA y.r y.g y.n y.o (.slice a5 l5 c5)):=by rw [hw6];exact Blk.new _ _ _
 have b36:Below w3.heap.size w3 w6:=b5.trans (B6.mono b5.size)
 have H6:Hd (Below A w w6∧Blk w6 A 34 (stB ⟨l,false,s.lim,s.b0,s.b1,s.b2,s.d0,s.d1,s.x,s.run⟩ (.slice ax n cx) (.slice ar m cr))∧Blk w6 (A+1+1) 34 (stB sZ (.slice none 0 0) (.slice none 0 0))∧A+3≤w6.heap.size):=⟨HM.out.1.trans (b36.mono (by have:=HM.out.2;omega)),HB3.out.1.kept (Kept.of_below b36 (fun _=>False)) id,HB3.out.2.kept (Kept.of_below b36 (fun _=>False)) id,by have:=HM.out.2;have:=b36.size;omega⟩
 have HS6:Hd (StR (Sx S A (A+3)) w6 a5 c5 y.F):=⟨s5.high B6 (fun _ _ h=>h)⟩
 obtain ⟨⟨y0,y1,y2,y3,y4⟩,-⟩:=Blk.fair N6
 clear s5 b5 B6 N6 b36 HB3 HM
 have HW6:=HW.out w6 y a5 l5 c5 H6.out.1
 go_upto_region 4 with fail
 rw [←hw6]
 clear hw6
 go_wp2_with (refine wpl_loadSt rfl _ rfl A rfl _ H6.out.2.1 rfl ?_)
 go_at_call 48
 refine HW6.mono ?_
 rintro e w7 ⟨⟨u7,rfl,o7⟩,b7⟩
 obtain ⟨a7,c7,e7,-⟩:=o7.read
 obtain ⟨m7,hm7⟩:∃ m7,m7=s.run.length:=⟨_,rfl⟩
 rw [←hm7] at e7
 subst e7
 have M7:Blk w7 (A+1+1) 34 (stB sZ (.slice none 0 0) (.slice none 0 0)):=H6.out.2.2.1.kept (Kept.of_below b7 (fun _=>False)) id
 have HE:Hd (∀ w9,Kept (fun j=>j=A+1+1) w7 w9→StV S w9 { s with lv:=l,q:=false,x:=y } (.agg (stB ⟨l,false,s.lim,s.b0,s.b1,s.b2,s.d0,s.d1,y,s.run⟩ (.slice a5 l5 c5) (.slice a7 m7 c7)))∧Below A w w9):=⟨fun w9 k9=>by
  have hs:=H6.out.2.2.2
  have hs7:=b7.size
  refine ⟨⟨a5,c5,a7,c7,by rw [HL5.out,hm7],?_,?_⟩,(H6.out.1.trans (b7.mono (by omega))).trans (k9.below (by omega) (fun j e=>by omega))⟩
  ·exact (HS6.out.high b7 (T:=Sx S A (A+3)) (fun _ _ h=>h)).stp (k9.mono (T:=Sx S A (A+3)) (fun j _ e=>.inr ⟨by omega,by omega⟩)) (T:=S) (fun j _ e=>.inl e)
  ·have q:=(o7.kept k9 (fun j hj e=>by omega)).ts (S:=S) (fun j hj e=>by have:=HSZ.out j e;omega)
   obtain ⟨a',c',e',r'⟩:=q
   obtain ⟨rfl,-,rfl⟩:a7=a'∧True∧c7=c':=by injection e' with x1 x2 x3;exact ⟨x1,trivial,x3⟩
   exact r'⟩
 clear hm7 o7 b7 y0 y1 y2 y3 y4
 go_wp2_with (refine wpl_storeSt rfl _ _ rfl (A+1+1) rfl (stB ⟨l,false,s.lim,s.b0,s.b1,s.b2,s.d0,s.d1,y,s.run⟩ (.slice a5 l5 c5) (.slice a7 m7 c7)) _ rfl M7 rfl rfl (st_one _ _ _ _ _ _ _) ?_;intro w9 n9 k9)
 refine bodyPost_ret (resSt27 _ _ _ rfl rfl n9) rfl ?_
 obtain ⟨o9,b9⟩:=HE.out w9 k9
 rw [←HA.out]
 exact ⟨⟨_,rfl,o9⟩,b9⟩
set_option maxRecDepth 20000 in
set_option maxHeartbeats 2000000 in
theorem turn_refused (s:St) (l:Lv) (q:Bool) (ax:Option Addr) (cx:Nat) (ar:Option Addr) (cr:Nat) (w:World) (S:Nat→Prop) (hx:StR S w ax cx s.x.F) (hr:SlR w ar cr s.run) (hl:s.run.length≤1990) (hS:∀ j,S j→j<w.heap.size) (hf:Few s.x.F) (h3:l.kind=3) (hq:q=false) (he:nwE l.queues l.guess l.length≠0) :
  Calls Tryz.prog 21 #[.agg (stB s (.slice ax s.x.F.length cx) (.slice ar s.run.length cr)),.agg #[.string l.name,.int .i64 l.kind,.int .i64 l.shares,.int .i64 l.lend,.int .i64 l.borrow,.int .i64 l.queues,.int .i64 l.hand,.int .i64 l.length,.int .i64 l.wait,.int .i64 l.guess],.bool q] w fun e w'=>(∃ v,e=.returned v∧StV S w' { s with lv:=l,q:=q,x:=suX s.x } v)∧Below w.heap.size w w':=by
 obtain ⟨w2,hw2⟩:∃ w2,w2=(((w.alloc (.cells (stB s (.slice ax s.x.F.length cx) (.slice ar s.run.length cr)) 34)).alloc (.cells #[.string l.name,.int .i64 l.kind,.int .i64 l.shares,.int .i64 l.lend,.int .i64 l.borrow,.int .i64 l.queues,.int .i64 l.hand,.int .i64 l.length,.int .i64 l.wait,.int .i64 l.guess] 23)).alloc (.cells zsT 34)):=⟨_,rfl⟩
 have BX:=boxes3 w 34 23 34 (stB s (.slice ax s.x.F.length cx) (.slice ar s.run.length cr)) #[.string l.name,.int .i64 l.kind,.int .i64 l.shares,.int .i64 l.lend,.int .i64 l.borrow,.int .i64 l.queues,.int .i64 l.hand,.int .i64 l.length,.int .i64 l.wait,.int .i64 l.guess] zsT
 rw [←hw2] at BX
 obtain ⟨B,N1,N2,N3⟩:=BX
 have hs2:w2.heap.size=w.heap.size+3:=by rw [hw2];simp
 obtain ⟨A,hA⟩:∃ A,A=w.heap.size:=⟨_,rfl⟩
 have HA:Hd (A=w.heap.size):=⟨hA⟩
 rw [←hA] at B N1 N2 N3 hs2
 obtain ⟨Q1,K1⟩:=st_lv N1 l q
 have W0:Blk w2 (A+1) 23 (lvA l):=N2
 obtain ⟨c0,c1,c2,c3,c4,c5,c6,c7,c8,c9⟩:=W0.lv
 have f0:=N1.frozen 0
 have f1:=N1.frozen 1
 have f2:=N1.frozen 2
 have f3:=N1.frozen 3
 have f4:=N1.frozen 4
 have f5:=N1.frozen 5
 have f6:=N1.frozen 6
 have f7:=N1.frozen 7
 have f8:=N1.frozen 8
 have f9:=N1.frozen 9
 have f10:=N1.frozen 10
 have HF0:=Hd.mk N1
 obtain ⟨w3,hw3⟩:∃ w3,w3=(((((((((((w2.setCell ⟨A,0,none⟩ (.string l.name)).setCell ⟨A,1,none⟩ (.int .i64 l.kind)).setCell ⟨A,2,none⟩ (.int .i64 l.shares)).setCell ⟨A,3,none⟩ (.int .i64 l.lend)).setCell ⟨A,4,none⟩ (.int .i64 l.borrow)).setCell ⟨A,5,none⟩ (.int .i64 l.queues)).setCell ⟨A,6,none⟩ (.int .i64 l.hand)).setCell ⟨A,7,none⟩ (.int .i64 l.length)).setCell ⟨A,8,none⟩ (.int .i64 l.wait)).setCell ⟨A,9,none⟩ (.int .i64 l.guess)).setCell ⟨A,10,none⟩ (.bool q)):=⟨_,rfl⟩
 rw [←hw3] at Q1 K1
 have hs3:w3.heap.size=A+3:=by rw [hw3];simpa using hs2
 have B3:Below A w w3:=B.trans (K1.below (by omega) (fun j e=>by omega))
 have hBw:Below w.heap.size w w3:=by rw [←hA];exact B3
 have hx3:StR (Sx S A (A+3)) w3 ax cx s.x.F:=hx.sx hBw hA
 have HW:Hd (∀ W (y:Fa) av nv cv,Below A w W→Calls Tryz.prog 48 #[.agg (stB ⟨l,q,s.lim,s.b0,s.b1,s.b2,s.d0,s.d1,s.x,s.run⟩ (.slice ax s.x.F.length cx) (.slice ar s.run.length cr)),.agg #[.int .u64 y.r,.int .i64 y.g,.int .i64 y.n,.int .i64 y.o,.slice av nv cv]] W fun e w'=>(∃ u,e=.returned (.agg (stB ⟨l,q,s.lim,s.b0,s.b1,s.b2,s.d0,s.d1,y,s.run⟩ (.slice av nv cv) u))∧OwnT w' (W.heap.size+3) u s.run)∧Below W.heap.size W w'):=⟨fun W y av nv cv b=>swith_ok ⟨l,q,s.lim,s.b0,s.b1,s.b2,s.d0,s.d1,s.x,s.run⟩ _ ar cr y av nv cv W (hr.carry (by rw [←hA];exact b)) (by show s.run.length≤2000;omega)⟩
 have HSZ:Hd (∀ j,S j→j<A):=⟨fun j e=>by rw [hA];exact hS j e⟩
 have hSx:∀ W:World,A+3≤W.heap.size→∀ j,Sx S A (A+3) j→j<W.heap.size:=fun W h j e=>by have:=Sx.lt (by rw [hA];exact hS) (by omega) j e (B:=A+3);omega
 have M1:=Q1
 have M2:=W0.kept K1 (by omega)
 have M3:=N3.kept K1 (by omega)
 have SH:=shape_st s.x ax cx w3 (Sx S A (A+3)) hx3 (hSx w3 (by omega)) hf l.queues l.guess l.length
 have HSU:Hd (∀ W,Below A w W→A+3≤W.heap.size→Calls Tryz.prog 58 #[.agg #[.int .u64 s.x.r,.int .i64 s.x.g,.int .i64 s.x.n,.int .i64 s.x.o,.slice ax s.x.F.length cx]] W fun e w'=>(∃ v,e=.returned v∧FaT (Sx S A (A+3)) w' (suX s.x) v)∧Below W.heap.size W w'):=⟨fun W b h=>shut_st s.x ax cx W (Sx S A (A+3)) (hx.sx (by rw [←hA];exact b) hA) (fun j e=>by have:=Sx.lt (by rw [hA];exact hS) (by omega) j e (B:=A+3);omega) hf⟩
 have HM:Hd (Below A w w3∧w3.heap.size=A+3):=⟨B3,hs3⟩
 have HB3:Hd (Blk w3 A 34 (stB ⟨l,q,s.lim,s.b0,s.b1,s.b2,s.d0,s.d1,s.x,s.run⟩ (.slice ax s.x.F.length cx) (.slice ar s.run.length cr))∧Blk w3 (A+1+1) 34 (stB sZ (.slice none 0 0) (.slice none 0 0))):=⟨M1,M3⟩
 obtain ⟨d0,d1,d2,d3,d4,d5,d6,d7,d8,d9⟩:=M2.lv
 obtain ⟨⟨x0,x1,x2,x3,x4⟩,-⟩:=M1.stx
 subst hq
 rw [h3] at d1
 clear h3 N1 N2 N3 W0 Q1 K1 M1 M2 M3 B B3 hx hx3 hr hf hs2 hs3 hS hBw hSx d0 d2 d3 d4 d6 d8
 generalize s.run.length=m at *
 generalize s.x.F.length=n at *
 generalize suX s.x=y at *
 generalize shX s.x l.queues l.guess l.length=z at *
 obtain ⟨er,her⟩:∃ er,er=nwE l.queues l.guess l.length:=⟨_,rfl⟩
 rw [←her] at SH he
 clear her
 have he2:(er == 0)=false:=by simpa using he
 go_enter Tryz.func21,Tryz.ntmps21
 go_upto_region 1 with fail
 rw [←hw2]
 clear hw2
 rw [←hA]
 clear hA
 have g0:=HF0.out.cellv 0 rfl
 have g1:=HF0.out.cellv 1 rfl
 have g2:=HF0.out.cellv 2 rfl
 have g3:=HF0.out.cellv 3 rfl
 have g4:=HF0.out.cellv 4 rfl
 have g5:=HF0.out.cellv 5 rfl
 have g6:=HF0.out.cellv 6 rfl
 have g7:=HF0.out.cellv 7 rfl
 have g8:=HF0.out.cellv 8 rfl
 have g9:=HF0.out.cellv 9 rfl
 have g10:=HF0.out.cellv 10 rfl
 go_upto_region 2 with fail
 rw [←hw3]
 clear hw3 c0 c1 c2 c3 c4 c5 c6 c7 c8 c9 f0 f1 f2 f3 f4 f5 f6 f7 f8 f9 f10 g0 g1 g2 g3 g4 g5 g6 g7 g8 g9 g10 HF0
 go_wp2_with fail
 go_at_call 57
 refine SH.mono ?_
 rintro e w5 ⟨⟨v5,rfl,a5,c5,rfl,s5⟩,b5⟩
 clear SH d1 d5 d7 d9 x0 x1 x2 x3 x4
 obtain ⟨w6,hw6⟩:∃ w6,w6=w5.alloc (.cells #[.int .u64 z.r,.int .i64 z.g,.int .i64 z.n,.int .i64 z.o,.slice a5 z.F.length c5] 31):=⟨_,rfl⟩
 have B6:Below w5.heap.size w5 w6:=by rw [hw6];exact alloc_below _ _
 have b36:Below w3.heap.size w3 w6:=b5.trans (B6.mono b5.size)
 have HB:Hd (Below A w w6∧Blk w6 A 34 (stB ⟨l,false,s.lim,s.b0,s.b1,s.b2,s.d0,s.d1,s.x,s.run⟩ (.slice ax n cx) (.slice ar m cr))∧Blk w6 (A+1+1) 34 (stB sZ (.slice none 0 0) (.slice none 0 0))∧A+3≤w6.heap.size):=⟨HM.out.1.trans (b36.mono (by have:=HM.out.2;omega)),HB3.out.1.kept (Kept.of_below b36 (fun _=>False)) id,HB3.out.2.kept (Kept.of_below b36 (fun _=>False)) id,by have:=HM.out.2;have:=b36.size;omega⟩
 clear s5 b5 B6 b36 HB3 HM
 go_upto_region 6 with fail
 rw [←hw6]
 clear hw6
 obtain ⟨wd,hwd⟩:∃ wd,wd=w6.drew:=⟨_,rfl⟩
 have T0:Blk wd A 34 (stB ⟨l,false,s.lim,s.b0,s.b1,s.b2,s.d0,s.d1,s.x,s.run⟩ (.slice ax n cx) (.slice ar m cr)):=by rw [hwd];exact HB.out.2.1
 have M6:Hd (Below A w wd∧Blk wd (A+1+1) 34 (stB sZ (.slice none 0 0) (.slice none 0 0))∧A+3≤wd.heap.size):=⟨by rw [hwd];exact HB.out.1.drew,by rw [hwd];exact HB.out.2.2.1,by rw [hwd];exact HB.out.2.2.2⟩
 have SU:=HSU.out wd M6.out.1 M6.out.2.2
 clear HB HSU
 refine AnyG.start (T:=fun W=>Blk W A 34 (stB ⟨l,false,s.lim,s.b0,s.b1,s.b2,s.d0,s.d1,s.x,s.run⟩ (.slice ax n cx) (.slice ar m cr))) (U:=fun _=>True) (j0:=4) (by kernel_rfl) ?_
 rw [←hwd]
 clear hwd
 refine .tq (v:=.agg (stB ⟨l,false,s.lim,s.b0,s.b1,s.b2,s.d0,s.d1,s.x,s.run⟩ (.slice ax n cx) (.slice ar m cr))) 0 37 T0 ?_ (hy:=fun w hSw=>exec_loadSt _ rfl A rfl _ hSw rfl);simp only [oqA,oqB,oqC]
 refine .tq 1 38 T0 ?_;simp only [oqA,oqB,oqC]
 refine .tq (v:=.agg #[.int .u64 s.x.r,.int .i64 s.x.g,.int .i64 s.x.n,.int .i64 s.x.o,.slice ax n cx]) 2 39 T0 ?_ (hy:=fun w hSw=>by obtain ⟨c0,c1,c2,c3,c4⟩:=(Blk.stx hSw).1;go_simp);simp only [oqA,oqB,oqC]
 refine AnyG.ready (rs:=[3]) (by kernel_rfl) (by simp) ?_
 refine AllG.cons rfl (fun K hK=>?_) AllG.nil
 go_simp
 refine SU.mono ?_
 rintro e w5 ⟨⟨v5,rfl,a5,c5,rfl,s5⟩,b5⟩
 obtain ⟨l5,hl5⟩:∃ l5,l5=y.F.length:=⟨_,rfl⟩
 have HL5:Hd (l5=y.F.length):=⟨hl5⟩
 rw [←hl5]
 clear hl5 SU
 have T5:Blk w5 A 34 (stB ⟨l,false,s.lim,s.b0,s.b1,s.b2,s.d0,s.d1,s.x,s.run⟩ (.slice ax n cx) (.slice ar m cr)):=T0.kept (Kept.of_below b5 (fun _=>False)) id
 have M7:Hd (Below A w w5∧Blk w5 (A+1+1) 34 (stB sZ (.slice none 0 0) (.slice none 0 0))∧A+3≤w5.heap.size∧StR (Sx S A (A+3)) w5 a5 c5 y.F):=⟨M6.out.1.trans (b5.mono (by have:=M6.out.2.2;omega)),M6.out.2.1.kept (Kept.of_below b5 (fun _=>False)) id,by have:=M6.out.2.2;have:=b5.size;omega,s5⟩
 have HW5:=HW.out w5 y a5 l5 c5 M7.out.1
 refine hK.out _ _ ⟨T5,fun _=>trivial⟩ ?_
 clear hK K T0 M6 s5 b5 HW
 refine AnyG.ready (rs:=[4]) (by kernel_rfl) (by simp) ?_
 refine AllG.cons rfl (fun K hK=>?_) AllG.nil
 go_simp
 refine HW5.mono ?_
 rintro e w7 ⟨⟨u7,rfl,o7⟩,b7⟩
 obtain ⟨a7,c7,e7,-⟩:=o7.read
 obtain ⟨m7,hm7⟩:∃ m7,m7=s.run.length:=⟨_,rfl⟩
 rw [←hm7] at e7
 subst e7
 have T7:Blk w7 A 34 (stB ⟨l,false,s.lim,s.b0,s.b1,s.b2,s.d0,s.d1,s.x,s.run⟩ (.slice ax n cx) (.slice ar m cr)):=T5.kept (Kept.of_below b7 (fun _=>False)) id
 have P7:Blk w7 (A+1+1) 34 (stB sZ (.slice none 0 0) (.slice none 0 0)):=M7.out.2.1.kept (Kept.of_below b7 (fun _=>False)) id
 have HE:Hd (∀ w9,Kept (fun j=>j=A+1+1) w7 w9→StV S w9 { s with lv:=l,q:=false,x:=y } (.agg (stB ⟨l,false,s.lim,s.b0,s.b1,s.b2,s.d0,s.d1,y,s.run⟩ (.slice a5 l5 c5) (.slice a7 m7 c7)))∧Below A w w9):=⟨fun w9 k9=>by
  obtain ⟨h1,h2,h3,h4⟩:=M7.out
  have hs7:=b7.size
  refine ⟨⟨a5,c5,a7,c7,by rw [HL5.out,hm7],?_,?_⟩,(h1.trans (b7.mono (by omega))).trans (k9.below (by omega) (fun j e=>by omega))⟩
  ·exact (h4.high b7 (T:=Sx S A (A+3)) (fun _ _ h=>h)).stp (k9.mono (T:=Sx S A (A+3)) (fun j _ e=>.inr ⟨by omega,by omega⟩)) (T:=S) (fun j _ e=>.inl e)
  ·have q:=(o7.kept k9 (fun j hj e=>by omega)).ts (S:=S) (fun j hj e=>by have:=HSZ.out j e;omega)
   obtain ⟨a',c',e',r'⟩:=q
   obtain ⟨rfl,-,rfl⟩:a7=a'∧True∧c7=c':=by injection e' with x1 x2 x3;exact ⟨x1,trivial,x3⟩
   exact r'⟩
 refine hK.out _ _ ⟨T7,fun _=>trivial⟩ ?_
 clear hK K T5 M7 hm7 o7 b7 HW5
 refine AnyG.ready (rs:=[5]) (by kernel_rfl) (by simp) ?_
 refine AllG.cons rfl (fun K hK=>?_) AllG.nil
 refine step_storeSt rfl _ _ rfl (A+1+1) rfl (stB ⟨l,false,s.lim,s.b0,s.b1,s.b2,s.d0,s.d1,y,s.run⟩ (.slice a5 l5 c5) (.slice a7 m7 c7)) _ rfl P7 rfl rfl (st_one _ _ _ _ _ _ _) ?_
 intro w9 n9 k9
 refine hK.out _ _ ⟨T7.kept k9 (by omega),fun _=>trivial⟩ ?_
 refine AnyG.done (by kernel_rfl) ?_ _
 clear hK K T7 P7
 go_wp2_with fail
 refine bodyPost_ret (resSt27 _ _ _ rfl rfl n9) rfl ?_
 obtain ⟨o9,b9⟩:=HE.out w9 k9
 rw [←HA.out]
 exact ⟨⟨_,rfl,o9⟩,b9⟩
theorem turn_st (s:St) (l:Lv) (q:Bool) (ax:Option Addr) (cx:Nat) (ar:Option Addr) (cr:Nat) (w:World) (S:Nat→Prop) (hx:StR S w ax cx s.x.F) (hr:SlR w ar cr s.run) (hl:s.run.length≤1990) (hS:∀ j,S j→j<w.heap.size) (hf:Few s.x.F) :
  Calls Tryz.prog 21 #[.agg (stB s (.slice ax s.x.F.length cx) (.slice ar s.run.length cr)),.agg #[.string l.name,.int .i64 l.kind,.int .i64 l.shares,.int .i64 l.lend,.int .i64 l.borrow,.int .i64 l.queues,.int .i64 l.hand,.int .i64 l.length,.int .i64 l.wait,.int .i64 l.guess],.bool q] w fun e w'=>(∃ v,e=.returned v∧StV S w' (tuS s l q) v)∧Below w.heap.size w w':=by
 unfold tuS tuF
 by_cases h3:l.kind=3
 ·cases q with
  | true =>
   rw [if_neg (by unfold tuC;simp)]
   exact turn_shut s l true ax cx ar cr w S hx hr hl hS hf (.inr rfl)
  | false =>
   by_cases he:nwE l.queues l.guess l.length=0
   ·rw [if_pos (by unfold tuC;rw [decide_eq_true h3,decide_eq_true he];rfl)]
    exact turn_shape s l false ax cx ar cr w S hx hr hl hS hf h3 rfl he
   ·rw [if_neg (by unfold tuC;rw [decide_eq_false he];simp)]
    exact turn_refused s l false ax cx ar cr w S hx hr hl hS hf h3 rfl he
 ·rw [if_neg (by unfold tuC;rw [decide_eq_false h3];simp)]
  exact turn_shut s l q ax cx ar cr w S hx hr hl hS hf (.inl h3)
end Go.Proofs.YtlgibnmoogbdcaaGreat
