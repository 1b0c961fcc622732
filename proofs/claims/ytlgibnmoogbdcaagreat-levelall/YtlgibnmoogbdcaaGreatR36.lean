/-
  A level is opened, by the program.
-/
import Derived.Test.YtlgibnmoogbdcaaGreatR35
namespace Go.Proofs.YtlgibnmoogbdcaaGreat
open Go.RowKit
set_option maxRecDepth 20000 in
set_option maxHeartbeats 2000000 in
theorem open_no (l:Lv) (w:World) (S:Nat→Prop) (hS:∀ j,S j→j<w.heap.size) (h3:(l.kind == 3)=false) :
  Calls Tryz.prog 10 #[.agg #[.string l.name,.int .i64 l.kind,.int .i64 l.shares,.int .i64 l.lend,.int .i64 l.borrow,.int .i64 l.queues,.int .i64 l.hand,.int .i64 l.length,.int .i64 l.wait,.int .i64 l.guess]] w fun e w'=>(∃ v,e=.returned v∧StV S w' ⟨l,false,0,0,0,0,0,0,xZ,[]⟩ v)∧Below w.heap.size w w':=by
 obtain ⟨w2,hw2⟩:∃ w2,w2=(((w.alloc (.cells #[.string l.name,.int .i64 l.kind,.int .i64 l.shares,.int .i64 l.lend,.int .i64 l.borrow,.int .i64 l.queues,.int .i64 l.hand,.int .i64 l.length,.int .i64 l.wait,.int .i64 l.guess] 23)).alloc (.cells zsT 34)).alloc (.cells zsT 34)):=⟨_,rfl⟩
 have BX:=boxes3 w 23 34 34 #[.string l.name,.int .i64 l.kind,.int .i64 l.shares,.int .i64 l.lend,.int .i64 l.borrow,.int .i64 l.queues,.int .i64 l.hand,.int .i64 l.length,.int .i64 l.wait,.int .i64 l.guess] zsT zsT
 have BX0:=boxes w 23 34 #[.string l.name,.int .i64 l.kind,.int .i64 l.shares,.int .i64 l.lend,.int .i64 l.borrow,.int .i64 l.queues,.int .i64 l.hand,.int .i64 l.length,.int .i64 l.wait,.int .i64 l.guess] zsT
 rw [←hw2] at BX
 obtain ⟨B,N1,N2,N3⟩:=BX
 obtain ⟨-,N0,-⟩:=BX0
 have hs2:w2.heap.size=w.heap.size+3:=by rw [hw2];simp
 obtain ⟨w1,hw1⟩:∃ w1,w1=(w.alloc (.cells #[.string l.name,.int .i64 l.kind,.int .i64 l.shares,.int .i64 l.lend,.int .i64 l.borrow,.int .i64 l.queues,.int .i64 l.hand,.int .i64 l.length,.int .i64 l.wait,.int .i64 l.guess] 23)).alloc (.cells zsT 34):=⟨_,rfl⟩
 have hs1:w1.heap.size=w.heap.size+1+1:=by rw [hw1];simp
 rw [←hw1] at hw2 N0
 obtain ⟨A,hA⟩:∃ A,A=w.heap.size:=⟨_,rfl⟩
 have HA:Hd (A=w.heap.size):=⟨hA⟩
 rw [←hA] at B N0 N1 N2 N3 hs2 hs1
 have W0:Blk w2 A 23 (lvA l):=N1
 have W1:Blk w1 A 23 (lvA l):=N0
 have P3:Blk w2 (A+1+1) 34 (stB sZ (.slice none 0 0) (.slice none 0 0)):=N3
 have P2:Blk w2 (A+1) 34 (stB sZ (.slice none 0 0) (.slice none 0 0)):=N2
 have HB:Hd (Below A w w2∧w2.heap.size=A+3∧Blk w2 A 23 (lvA l)∧Blk w2 (A+1) 34 (stB sZ (.slice none 0 0) (.slice none 0 0))∧∀ j,S j→j<A):=⟨B,hs2,W0,P2,by rw [hA];exact hS⟩
 obtain ⟨c0,c1,c2,c3,c4,c5,c6,c7,c8,c9⟩:=W1.lv
 clear N0 N1 N2 N3 P2 W0 W1 B hs2
 go_enter Tryz.func10,Tryz.ntmps10
 go_upto_region 1 with fail
 rw [←hw1]
 clear hw1
 rw [←hA]
 clear hA hS
 go_upto_region 2 with (rw [←hw2];refine wpl_storeSt rfl _ _ rfl (A+1+1) rfl (stB ⟨l,false,0,0,0,0,0,0,xZ,[]⟩ (.slice none 0 0) (.slice none 0 0)) _ rfl P3 rfl rfl (st_one _ _ _ _ _ _ _) ?_;intro w3 n3 k3)
 clear hw2 hs1 c0 c1 c2 c3 c4 c5 c6 c7 c8 c9
 have H3:Hd (Below A w w3∧A+3≤w3.heap.size∧Blk w3 (A+1) 34 (stB sZ (.slice none 0 0) (.slice none 0 0))∧Blk w3 (A+1+1) 34 (stB ⟨l,false,0,0,0,0,0,0,xZ,[]⟩ (.slice none 0 0) (.slice none 0 0))∧∀ j,S j→j<A):=⟨HB.out.1.trans (k3.below (by have:=HB.out.2.1;omega) (fun j e=>by omega)),by have:=HB.out.2.1;have:=k3.size;omega,HB.out.2.2.2.1.kept k3 (by omega),n3,HB.out.2.2.2.2⟩
 obtain ⟨d0,d1,d2,d3,d4,d5,d6,d7,d8,d9⟩:=(HB.out.2.2.1.kept k3 (by omega)).lv
 clear HB P3 n3 k3
 go_upto_region 4 with fail
 have HE:Hd (∀ w9,Kept (fun j=>j=A+1) w3 w9→StV S w9 ⟨l,false,0,0,0,0,0,0,xZ,[]⟩ (.agg (stB ⟨l,false,0,0,0,0,0,0,xZ,[]⟩ (.slice none 0 0) (.slice none 0 0)))∧Below A w w9):=⟨fun w9 k9=>⟨⟨none,0,none,0,rfl,StR.nil _ _,TkS.nil _ _⟩,H3.out.1.trans (k9.below (by have:=H3.out.2.1;omega) (fun j e=>by omega))⟩⟩
 clear d0 d1 d2 d3 d4 d5 d6 d7 d8 d9 h3
 go_wp2_with (first | (refine wpl_loadSt rfl _ rfl (A+1+1) rfl _ H3.out.2.2.2.1 rfl ?_) | (refine wpl_storeSt rfl _ _ rfl (A+1) rfl (stB ⟨l,false,0,0,0,0,0,0,xZ,[]⟩ (.slice none 0 0) (.slice none 0 0)) _ rfl H3.out.2.2.1 rfl rfl (st_one _ _ _ _ _ _ _) ?_;intro w9 n9 k9))
 refine bodyPost_ret (resSt7 _ _ _ rfl rfl n9) rfl ?_
 obtain ⟨o9,b9⟩:=HE.out w9 k9
 rw [←HA.out]
 exact ⟨⟨_,rfl,o9⟩,b9⟩
set_option maxRecDepth 20000 in
set_option maxHeartbeats 2000000 in
theorem open_yes (l:Lv) (w:World) (S:Nat→Prop) (hS:∀ j,S j→j<w.heap.size) (h3:Hd (l.kind=3)) :
  Calls Tryz.prog 10 #[.agg #[.string l.name,.int .i64 l.kind,.int .i64 l.shares,.int .i64 l.lend,.int .i64 l.borrow,.int .i64 l.queues,.int .i64 l.hand,.int .i64 l.length,.int .i64 l.wait,.int .i64 l.guess]] w fun e w'=>(∃ v,e=.returned v∧StV S w' ⟨l,false,0,0,0,0,0,0,nwX l.queues l.guess l.length,[]⟩ v)∧Below w.heap.size w w':=by
 obtain ⟨w2,hw2⟩:∃ w2,w2=(((w.alloc (.cells #[.string l.name,.int .i64 l.kind,.int .i64 l.shares,.int .i64 l.lend,.int .i64 l.borrow,.int .i64 l.queues,.int .i64 l.hand,.int .i64 l.length,.int .i64 l.wait,.int .i64 l.guess] 23)).alloc (.cells zsT 34)).alloc (.cells zsT 34)):=⟨_,rfl⟩
 have BX:=boxes3 w 23 34 34 #[.string l.name,.int .i64 l.kind,.int .i64 l.shares,.int .i64 l.lend,.int .i64 l.borrow,.int .i64 l.queues,.int .i64 l.hand,.int .i64 l.length,.int .i64 l.wait,.int .i64 l.guess] zsT zsT
 have BX0:=boxes w 23 34 #[.string l.name,.int .i64 l.kind,.int .i64 l.shares,.int .i64 l.lend,.int .i64 l.borrow,.int .i64 l.queues,.int .i64 l.hand,.int .i64 l.length,.int .i64 l.wait,.int .i64 l.guess] zsT
 rw [←hw2] at BX
 obtain ⟨B,N1,N2,N3⟩:=BX
 obtain ⟨-,N0,-⟩:=BX0
 have hs2:w2.heap.size=w.heap.size+3:=by rw [hw2];simp
 obtain ⟨w1,hw1⟩:∃ w1,w1=(w.alloc (.cells #[.string l.name,.int .i64 l.kind,.int .i64 l.shares,.int .i64 l.lend,.int .i64 l.borrow,.int .i64 l.queues,.int .i64 l.hand,.int .i64 l.length,.int .i64 l.wait,.int .i64 l.guess] 23)).alloc (.cells zsT 34):=⟨_,rfl⟩
 have hs1:w1.heap.size=w.heap.size+1+1:=by rw [hw1];simp
 rw [←hw1] at hw2 N0
 obtain ⟨A,hA⟩:∃ A,A=w.heap.size:=⟨_,rfl⟩
 have HA:Hd (A=w.heap.size):=⟨hA⟩
 rw [←hA] at B N0 N1 N2 N3 hs2 hs1
 have W0:Blk w2 A 23 (lvA l):=N1
 have W1:Blk w1 A 23 (lvA l):=N0
 have P3:Blk w2 (A+1+1) 34 (stB sZ (.slice none 0 0) (.slice none 0 0)):=N3
 have P2:Blk w2 (A+1) 34 (stB sZ (.slice none 0 0) (.slice none 0 0)):=N2
 have HB:Hd (Below A w w2∧w2.heap.size=A+3∧Blk w2 A 23 (lvA l)∧Blk w2 (A+1) 34 (stB sZ (.slice none 0 0) (.slice none 0 0))∧∀ j,S j→j<A):=⟨B,hs2,W0,P2,by rw [hA];exact hS⟩
 obtain ⟨c0,c1,c2,c3,c4,c5,c6,c7,c8,c9⟩:=W1.lv
 clear N0 N1 N2 N3 P2 W0 W1 B hs2
 go_enter Tryz.func10,Tryz.ntmps10
 go_upto_region 1 with fail
 rw [←hw1]
 clear hw1
 rw [←hA]
 clear hA hS
 go_upto_region 2 with (rw [←hw2];refine wpl_storeSt rfl _ _ rfl (A+1+1) rfl (stB ⟨l,false,0,0,0,0,0,0,xZ,[]⟩ (.slice none 0 0) (.slice none 0 0)) _ rfl P3 rfl rfl (st_one _ _ _ _ _ _ _) ?_;intro w3 n3 k3)
 clear hw2 hs1 c0 c1 c2 c3 c4 c5 c6 c7 c8 c9
 have H3:Hd (Below A w w3∧A+3≤w3.heap.size∧Blk w3 (A+1) 34 (stB sZ (.slice none 0 0) (.slice none 0 0))∧Blk w3 (A+1+1) 34 (stB ⟨l,false,0,0,0,0,0,0,xZ,[]⟩ (.slice none 0 0) (.slice none 0 0))∧∀ j,S j→j<A):=⟨HB.out.1.trans (k3.below (by have:=HB.out.2.1;omega) (fun j e=>by omega)),by have:=HB.out.2.1;have:=k3.size;omega,HB.out.2.2.2.1.kept k3 (by omega),n3,HB.out.2.2.2.2⟩
 obtain ⟨d0,d1,d2,d3,d4,d5,d6,d7,d8,d9⟩:=(HB.out.2.2.1.kept k3 (by omega)).lv
 clear HB P3 n3 k3
 have NW:=new_st (Sx S A (A+3)) l.queues l.guess l.length w3 (fun j e=>by have:=Sx.lt H3.out.2.2.2.2 (by omega) j e (B:=A+3);have:=H3.out.2.1;omega)
 rw [h3.out] at d1
 obtain ⟨y,hy⟩:∃ y,y=nwX l.queues l.guess l.length:=⟨_,rfl⟩
 have HY:=Hd.mk hy
 rw [←hy] at NW
 clear hy
 generalize nwE l.queues l.guess l.length=er at *
 go_wp2_with fail
 go_at_call 38
 refine NW.mono ?_
 rintro e w5 ⟨⟨v5,rfl,a5,c5,rfl,s5⟩,b5⟩
 obtain ⟨l5,hl5⟩:∃ l5,l5=y.F.length:=⟨_,rfl⟩
 have HL5:Hd (l5=y.F.length):=⟨hl5⟩
 rw [←hl5]
 clear hl5 NW d0 d1 d2 d3 d4 d5 d6 d7 d8 d9
 have P5:=H3.out.2.2.2.1.kept (Kept.of_below b5 (fun _=>False)) id
 obtain ⟨⟨d0,d1,d2,d3,d4⟩,f0,f1,f2,f3,f4⟩:=P5.stx
 obtain ⟨Q5,K5⟩:=st_fair P5 y (.slice a5 l5 c5)
 obtain ⟨w6,hw6⟩:∃ w6,w6=(((((w5.setCell ⟨A+1+1,17,none⟩ (.int .u64 y.r)).setCell ⟨A+1+1,18,none⟩ (.int .i64 y.g)).setCell ⟨A+1+1,19,none⟩ (.int .i64 y.n)).setCell ⟨A+1+1,20,none⟩ (.int .i64 y.o)).setCell ⟨A+1+1,21,none⟩ (.slice a5 l5 c5)):=⟨_,rfl⟩
 rw [←hw6] at Q5 K5
 have HM:Hd (Blk w6 (A+1+1) 34 (stB ⟨l,false,0,0,0,0,0,0,y,[]⟩ (.slice a5 l5 c5) (.slice none 0 0))∧Blk w6 (A+1) 34 (stB sZ (.slice none 0 0) (.slice none 0 0))):=⟨Q5,(H3.out.2.2.1.kept (Kept.of_below b5 (fun _=>False)) id).kept K5 (by omega)⟩
 have HE:Hd (∀ w9,Kept (fun j=>j=A+1) w6 w9→StV S w9 ⟨l,false,0,0,0,0,0,0,y,[]⟩ (.agg (stB ⟨l,false,0,0,0,0,0,0,y,[]⟩ (.slice a5 l5 c5) (.slice none 0 0)))∧Below A w w9):=⟨fun w9 k9=>by
  have hs:=H3.out.2.1
  have hs5:=b5.size
  have kk:=(K5.mono (T:=Sx S A (A+3)) (fun j _ e=>.inr ⟨by omega,by omega⟩)).trans (k9.mono (T:=Sx S A (A+3)) (fun j _ e=>.inr ⟨by omega,by omega⟩))
  have kb:=(K5.mono (T:=fun j=>A≤j) (fun j _ e=>by omega)).trans (k9.mono (T:=fun j=>A≤j) (fun j _ e=>by omega))
  exact ⟨⟨a5,c5,none,0,by rw [HL5.out];rfl,s5.stp kk (fun j _ e=>.inl e),TkS.nil _ _⟩,(H3.out.1.trans (b5.mono (by omega))).trans (kb.below (by omega) (fun j e=>e))⟩⟩
 go_upto_region 4 with fail
 rw [←hw6]
 clear hw6 d0 d1 d2 d3 d4 f0 f1 f2 f3 f4 P5 Q5 K5 s5 b5
 go_wp2_with (first | (refine wpl_loadSt rfl _ rfl (A+1+1) rfl _ HM.out.1 rfl ?_) | (refine wpl_storeSt rfl _ _ rfl (A+1) rfl (stB ⟨l,false,0,0,0,0,0,0,y,[]⟩ (.slice a5 l5 c5) (.slice none 0 0)) _ rfl HM.out.2 rfl rfl (st_one _ _ _ _ _ _ _) ?_;intro w9 n9 k9))
 refine bodyPost_ret (resSt7 _ _ _ rfl rfl n9) rfl ?_
 obtain ⟨o9,b9⟩:=HE.out w9 k9
 rw [←HA.out,← HY.out]
 exact ⟨⟨_,rfl,o9⟩,b9⟩
theorem open_st (l:Lv) (w:World) (S:Nat→Prop) (hS:∀ j,S j→j<w.heap.size) :
  Calls Tryz.prog 10 #[.agg #[.string l.name,.int .i64 l.kind,.int .i64 l.shares,.int .i64 l.lend,.int .i64 l.borrow,.int .i64 l.queues,.int .i64 l.hand,.int .i64 l.length,.int .i64 l.wait,.int .i64 l.guess]] w fun e w'=>(∃ v,e=.returned v∧StV S w' (opS l) v)∧Below w.heap.size w w':=by
 unfold opS opX
 by_cases h3:l.kind=3
 ·rw [if_pos h3]
  exact open_yes l w S hS ⟨h3⟩
 ·rw [if_neg h3]
  exact open_no l w S hS (by simpa using h3)
end Go.Proofs.YtlgibnmoogbdcaaGreat
