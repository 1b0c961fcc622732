/-
  A level is opened, by the reference.
  One who waits goes, by the reference.
-/
import Derived.Test.YtlgibnmoogbdcaaGreatR38
import Derived.Test.YtlgibnmoogbdcaaGreatR36
namespace Go.Proofs.YtlgibnmoogbdcaaGreat
open Go.RowKit
theorem nwX_bad {o g n:Int} (h:nwE o g n≠0):nwX o g n=xZ:=by
 unfold nwE at h
 unfold nwX
 by_cases c:Good o g n
 ·rw [if_pos c] at h
  exact absurd rfl h
 ·rw [if_neg c]
set_option maxRecDepth 20000 in
set_option maxHeartbeats 2000000 in
theorem ropen_no (l:Lv) (w:World) (S:Nat→Prop) (hS:∀ j,S j→j<w.heap.size) (h3:(l.kind == 3)=false) :
  Calls Tryz.prog 11 #[.agg #[.string l.name,.int .i64 l.kind,.int .i64 l.shares,.int .i64 l.lend,.int .i64 l.borrow,.int .i64 l.queues,.int .i64 l.hand,.int .i64 l.length,.int .i64 l.wait,.int .i64 l.guess]] w fun e w'=>(∃ v,e=.returned v∧StV S w' ⟨l,false,0,0,0,0,0,0,xZ,[]⟩ v)∧Below w.heap.size w w':=by
 obtain ⟨w2,hw2⟩:∃ w2,w2=(((w.alloc (.cells #[.string l.name,.int .i64 l.kind,.int .i64 l.shares,.int .i64 l.lend,.int .i64 l.borrow,.int .i64 l.queues,.int .i64 l.hand,.int .i64 l.length,.int .i64 l.wait,.int .i64 l.guess] 23)).alloc (.cells zsT 34)).alloc (.cells zsT 34)):=⟨_,rfl⟩
 have BX:=boxes3 w 23 34 34 #[.string l.name,.int .i64 l.kind,.int .i64 l.shares,.int .i64 l.lend,.int .i64 l.borrow,.int .i64 l.queues,.int .i64 l.hand,.int .i64 l.length,.int .i64 l.wait,.int .i64 l.guess] zsT zsT
 have BX0:=boxes w 23 34 #[.string l.name,.int .i64 l.kind,.int .i64 l.shares,.int .i64 l.lend,.int .i64 l.borrow,.int .i64 l.queues,.int .i64 l.hand,.int .i64 l.length,.int .i64 l.wait,.int .i64 l.guess] zsT
 rw [←hw2] at BX
 obtain ⟨B,N1,N2,N3⟩:=BX
 obtain ⟨-,N0,-⟩:=BX0
 have hs2:w2.heap.size=w.heap.size+3:=by rw [hw2];simp
 obtain ⟨w1,hw1⟩:∃ w1,w1=(w.alloc (.cells #[.string l.name,.int .i64 l.kind,.int .i64 l.shares,.int .i64 l.lend,.int .i64 l.borrow,.int .i64 l.queues,.int .i64 l.hand,.int .i64 l.length,.int .i64 l.wait,.int .i64 l.guess] 23)).alloc (.cells zsT 34):=⟨_,rfl⟩
 have hs1:w1.heap.size=w.heap.size+1+1:=by rw [hw1];simp
 rw [←hw1] at hw2 N0
 obtain ⟨A,hA⟩:∃ A,A=w.heap.size:=⟨_,rfl⟩
 have HA:Hd (A=w.heap.size):=⟨hA⟩
 rw [←hA] at B N0 N1 N2 N3 hs2 hs1
 have W0:Blk w2 A 23 (lvA l):=N1
 have W1:Blk w1 A 23 (lvA l):=N0
 have P3:Blk w2 (A+1+1) 34 (stB sZ (.slice none 0 0) (.slice none 0 0)):=N3
 have P2:Blk w2 (A+1) 34 (stB sZ (.slice none 0 0) (.slice none 0 0)):=N2
 have HB:Hd (Below A w w2∧w2.heap.size=A+3∧Blk w2 A 23 (lvA l)∧Blk w2 (A+1) 34 (stB sZ (.slice none 0 0) (.slice none 0 0))∧∀ j,S j→j<A):=⟨B,hs2,W0,P2,by rw [hA];exact hS⟩
 obtain ⟨c0,c1,c2,c3,c4,c5,c6,c7,c8,c9⟩:=W1.lv
 clear N0 N1 N2 N3 P2 W0 W1 B hs2
 go_enter Tryz.func11,Tryz.ntmps11
 go_upto_region 1 with fail
 rw [←hw1]
 clear hw1
 rw [←hA]
 clear hA hS
 go_upto_region 2 with (rw [←hw2];refine wpl_storeSt rfl _ _ rfl (A+1+1) rfl (stB ⟨l,false,0,0,0,0,0,0,xZ,[]⟩ (.slice none 0 0) (.slice none 0 0)) _ rfl P3 rfl rfl (st_one _ _ _ _ _ _ _) ?_;intro w3 n3 k3)
 clear hw2 hs1 c0 c1 c2 c3 c4 c5 c6 c7 c8 c9
 have H3:Hd (Below A w w3∧A+3≤w3.heap.size∧Blk w3 (A+1) 34 (stB sZ (.slice none 0 0) (.slice none 0 0))∧Blk w3 (A+1+1) 34 (stB ⟨l,false,0,0,0,0,0,0,xZ,[]⟩ (.slice none 0 0) (.slice none 0 0))∧∀ j,S j→j<A):=⟨HB.out.1.trans (k3.below (by have:=HB.out.2.1;omega) (fun j e=>by omega)),by have:=HB.out.2.1;have:=k3.size;omega,HB.out.2.2.2.1.kept k3 (by omega),n3,HB.out.2.2.2.2⟩
 obtain ⟨d0,d1,d2,d3,d4,d5,d6,d7,d8,d9⟩:=(HB.out.2.2.1.kept k3 (by omega)).lv
 clear HB P3 n3 k3
 go_upto_region 6 with fail
 have HE:Hd (∀ w9,Kept (fun j=>j=A+1) w3 w9→StV S w9 ⟨l,false,0,0,0,0,0,0,xZ,[]⟩ (.agg (stB ⟨l,false,0,0,0,0,0,0,xZ,[]⟩ (.slice none 0 0) (.slice none 0 0)))∧Below A w w9):=⟨fun w9 k9=>⟨⟨none,0,none,0,rfl,StR.nil _ _,TkS.nil _ _⟩,H3.out.1.trans (k9.below (by have:=H3.out.2.1;omega) (fun j e=>by omega))⟩⟩
 clear d0 d1 d2 d3 d4 d5 d6 d7 d8 d9 h3
 go_wp2_with (first | (refine wpl_loadSt rfl _ rfl (A+1+1) rfl _ H3.out.2.2.2.1 rfl ?_) | (refine wpl_storeSt rfl _ _ rfl (A+1) rfl (stB ⟨l,false,0,0,0,0,0,0,xZ,[]⟩ (.slice none 0 0) (.slice none 0 0)) _ rfl H3.out.2.2.1 rfl rfl (st_one _ _ _ _ _ _ _) ?_;intro w9 n9 k9))
 refine bodyPost_ret (resSt8 _ _ _ rfl rfl n9) rfl ?_
 obtain ⟨o9,b9⟩:=HE.out w9 k9
 rw [←HA.out]
 exact ⟨⟨_,rfl,o9⟩,b9⟩
set_option maxRecDepth 20000 in
set_option maxHeartbeats 2000000 in
theorem ropen_yes (l:Lv) (w:World) (S:Nat→Prop) (hS:∀ j,S j→j<w.heap.size) (h3:Hd (l.kind=3)) :
  Calls Tryz.prog 11 #[.agg #[.string l.name,.int .i64 l.kind,.int .i64 l.shares,.int .i64 l.lend,.int .i64 l.borrow,.int .i64 l.queues,.int .i64 l.hand,.int .i64 l.length,.int .i64 l.wait,.int .i64 l.guess]] w fun e w'=>(∃ v,e=.returned v∧StV S w' ⟨l,false,0,0,0,0,0,0,nwX l.queues l.guess l.length,[]⟩ v)∧Below w.heap.size w w':=by
 obtain ⟨w2,hw2⟩:∃ w2,w2=(((w.alloc (.cells #[.string l.name,.int .i64 l.kind,.int .i64 l.shares,.int .i64 l.lend,.int .i64 l.borrow,.int .i64 l.queues,.int .i64 l.hand,.int .i64 l.length,.int .i64 l.wait,.int .i64 l.guess] 23)).alloc (.cells zsT 34)).alloc (.cells zsT 34)):=⟨_,rfl⟩
 have BX:=boxes3 w 23 34 34 #[.string l.name,.int .i64 l.kind,.int .i64 l.shares,.int .i64 l.lend,.int .i64 l.borrow,.int .i64 l.queues,.int .i64 l.hand,.int .i64 l.length,.int .i64 l.wait,.int .i64 l.guess] zsT zsT
 have BX0:=boxes w 23 34 #[.string l.name,.int .i64 l.kind,.int .i64 l.shares,.int .i64 l.lend,.int .i64 l.borrow,.int .i64 l.queues,.int .i64 l.hand,.int .i64 l.length,.int .i64 l.wait,.int .i64 l.guess] zsT
 rw [←hw2] at BX
 obtain ⟨B,N1,N2,N3⟩:=BX
 obtain ⟨-,N0,-⟩:=BX0
 have hs2:w2.heap.size=w.heap.size+3:=by rw [hw2];simp
 obtain ⟨w1,hw1⟩:∃ w1,w1=(w.alloc (.cells #[.string l.name,.int .i64 l.kind,.int .i64 l.shares,.int .i64 l.lend,.int .i64 l.borrow,.int .i64 l.queues,.int .i64 l.hand,.int .i64 l.length,.int .i64 l.wait,.int .i64 l.guess] 23)).alloc (.cells zsT 34):=⟨_,rfl⟩
 have hs1:w1.heap.size=w.heap.size+1+1:=by rw [hw1];simp
 rw [←hw1] at hw2 N0
 obtain ⟨A,hA⟩:∃ A,A=w.heap.size:=⟨_,rfl⟩
 have HA:Hd (A=w.heap.size):=⟨hA⟩
 rw [←hA] at B N0 N1 N2 N3 hs2 hs1
 have W0:Blk w2 A 23 (lvA l):=N1
 have W1:Blk w1 A 23 (lvA l):=N0
 have P3:Blk w2 (A+1+1) 34 (stB sZ (.slice none 0 0) (.slice none 0 0)):=N3
 have P2:Blk w2 (A+1) 34 (stB sZ (.slice none 0 0) (.slice none 0 0)):=N2
 have HB:Hd (Below A w w2∧w2.heap.size=A+3∧Blk w2 A 23 (lvA l)∧Blk w2 (A+1) 34 (stB sZ (.slice none 0 0) (.slice none 0 0))∧∀ j,S j→j<A):=⟨B,hs2,W0,P2,by rw [hA];exact hS⟩
 obtain ⟨c0,c1,c2,c3,c4,c5,c6,c7,c8,c9⟩:=W1.lv
 clear N0 N1 N2 N3 P2 W0 W1 B hs2
 go_enter Tryz.func11,Tryz.ntmps11
 go_upto_region 1 with fail
 rw [←hw1]
 clear hw1
 rw [←hA]
 clear hA hS
 go_upto_region 2 with (rw [←hw2];refine wpl_storeSt rfl _ _ rfl (A+1+1) rfl (stB ⟨l,false,0,0,0,0,0,0,xZ,[]⟩ (.slice none 0 0) (.slice none 0 0)) _ rfl P3 rfl rfl (st_one _ _ _ _ _ _ _) ?_;intro w3 n3 k3)
 clear hw2 hs1 c0 c1 c2 c3 c4 c5 c6 c7 c8 c9
 have H3:Hd (Below A w w3∧A+3≤w3.heap.size∧Blk w3 (A+1) 34 (stB sZ (.slice none 0 0) (.slice none 0 0))∧Blk w3 (A+1+1) 34 (stB ⟨l,false,0,0,0,0,0,0,xZ,[]⟩ (.slice none 0 0) (.slice none 0 0))∧∀ j,S j→j<A):=⟨HB.out.1.trans (k3.below (by have:=HB.out.2.1;omega) (fun j e=>by omega)),by have:=HB.out.2.1;have:=k3.size;omega,HB.out.2.2.2.1.kept k3 (by omega),n3,HB.out.2.2.2.2⟩
 obtain ⟨d0,d1,d2,d3,d4,d5,d6,d7,d8,d9⟩:=(HB.out.2.2.1.kept k3 (by omega)).lv
 clear HB P3 n3 k3
 have NW:=rnew_st (Sx S A (A+3)) l.queues l.guess l.length w3 (fun j e=>by have:=Sx.lt H3.out.2.2.2.2 (by omega) j e (B:=A+3);have:=H3.out.2.1;omega)
 rw [h3.out] at d1
 obtain ⟨y,hy⟩:∃ y,y=nwX l.queues l.guess l.length:=⟨_,rfl⟩
 have HY:=Hd.mk hy
 rw [←hy] at NW
 clear hy
 obtain ⟨er,her⟩:∃ er,er=nwE l.queues l.guess l.length:=⟨_,rfl⟩
 have HER:=Hd.mk her
 rw [←her] at NW
 clear her
 go_wp2_with fail
 go_at_call 39
 refine NW.mono ?_
 rintro e w5 ⟨⟨v5,rfl,a5,c5,rfl,s5⟩,b5⟩
 obtain ⟨l5,hl5⟩:∃ l5,l5=y.F.length:=⟨_,rfl⟩
 have HL5:Hd (l5=y.F.length):=⟨hl5⟩
 rw [←hl5]
 clear hl5 NW d0 d1 d2 d3 d4 d5 d6 d7 d8 d9
 obtain ⟨w4,hw4⟩:∃ w4,w4=w5.alloc (.cells #[.int .u64 y.r,.int .i64 y.g,.int .i64 y.n,.int .i64 y.o,.slice a5 l5 c5] 31):=⟨_,rfl⟩
 have N4:Blk w4 w5.heap.size 31 (faA y.r y.g y.n y.o (.slice a5 l5 c5)):=by rw [hw4];exact Blk.new _ _ _
 have B4:Below w5.heap.size w5 w4:=by rw [hw4];exact alloc_below _ _
 have b34:Below w3.heap.size w3 w4:=b5.trans (B4.mono b5.size)
 have P5:=H3.out.2.2.2.1.kept (Kept.of_below b34 (fun _=>False)) id
 have Z5:=H3.out.2.2.1.kept (Kept.of_below b34 (fun _=>False)) id
 have s4:StR (Sx S A (A+3)) w4 a5 c5 y.F:=s5.high B4 (fun _ _ e=>e)
 have H4:=Hd.mk (And.intro P5 (And.intro Z5 (And.intro s4 (And.intro b34 N4))))
 clear P5 Z5 s4 b34 N4 B4 s5 b5
 by_cases he:er=0
 ·have heb:(er == 0)=true:=by simp [he]
  clear he
  obtain ⟨⟨d0,d1,d2,d3,d4⟩,f0,f1,f2,f3,f4⟩:=H4.out.1.stx
  obtain ⟨⟨y0,y1,y2,y3,y4⟩,-⟩:=H4.out.2.2.2.2.fair
  obtain ⟨Q5,K5⟩:=st_fair H4.out.1 y (.slice a5 l5 c5)
  obtain ⟨w6,hw6⟩:∃ w6,w6=(((((w4.setCell ⟨A+1+1,17,none⟩ (.int .u64 y.r)).setCell ⟨A+1+1,18,none⟩ (.int .i64 y.g)).setCell ⟨A+1+1,19,none⟩ (.int .i64 y.n)).setCell ⟨A+1+1,20,none⟩ (.int .i64 y.o)).setCell ⟨A+1+1,21,none⟩ (.slice a5 l5 c5)):=⟨_,rfl⟩
  rw [←hw6] at Q5 K5
  have HM:Hd (Blk w6 (A+1+1) 34 (stB ⟨l,false,0,0,0,0,0,0,y,[]⟩ (.slice a5 l5 c5) (.slice none 0 0))∧Blk w6 (A+1) 34 (stB sZ (.slice none 0 0) (.slice none 0 0))):=⟨Q5,H4.out.2.1.kept K5 (by omega)⟩
  have HE:Hd (∀ w9,Kept (fun j=>j=A+1) w6 w9→StV S w9 ⟨l,false,0,0,0,0,0,0,y,[]⟩ (.agg (stB ⟨l,false,0,0,0,0,0,0,y,[]⟩ (.slice a5 l5 c5) (.slice none 0 0)))∧Below A w w9):=⟨fun w9 k9=>by
   have hs:=H3.out.2.1
   have h4:=H4.out
   have hs5:=h4.2.2.2.1.size
   have kk:=(K5.mono (T:=Sx S A (A+3)) (fun j _ e=>.inr ⟨by omega,by omega⟩)).trans (k9.mono (T:=Sx S A (A+3)) (fun j _ e=>.inr ⟨by omega,by omega⟩))
   have kb:=(K5.mono (T:=fun j=>A≤j) (fun j _ e=>by omega)).trans (k9.mono (T:=fun j=>A≤j) (fun j _ e=>by omega))
   exact ⟨⟨a5,c5,none,0,by rw [HL5.out];rfl,h4.2.2.1.stp kk (fun j _ e=>.inl e),TkS.nil _ _⟩,(H3.out.1.trans (h4.2.2.2.1.mono (by omega))).trans (kb.below (by omega) (fun j e=>e))⟩⟩
  go_upto_region 5 with fail
  rw [←hw4]
  clear hw4
  go_upto_region 6 with fail
  rw [←hw6]
  clear hw6 d0 d1 d2 d3 d4 f0 f1 f2 f3 f4 y0 y1 y2 y3 y4 Q5 K5
  go_wp2_with (first | (refine wpl_loadSt rfl _ rfl (A+1+1) rfl _ HM.out.1 rfl ?_) | (refine wpl_storeSt rfl _ _ rfl (A+1) rfl (stB ⟨l,false,0,0,0,0,0,0,y,[]⟩ (.slice a5 l5 c5) (.slice none 0 0)) _ rfl HM.out.2 rfl rfl (st_one _ _ _ _ _ _ _) ?_;intro w9 n9 k9))
  refine bodyPost_ret (resSt8 _ _ _ rfl rfl n9) rfl ?_
  obtain ⟨o9,b9⟩:=HE.out w9 k9
  rw [←HA.out,← HY.out]
  exact ⟨⟨_,rfl,o9⟩,b9⟩
 ·have heb:(er == 0)=false:=by simpa using he
  have hyz:Hd (y=xZ):=⟨by rw [HY.out];exact nwX_bad (by rw [←HER.out];exact he)⟩
  clear he
  go_upto_region 6 with fail
  rw [←hw4]
  clear hw4
  have HE:Hd (∀ w9,Kept (fun j=>j=A+1) w4 w9→StV S w9 ⟨l,false,0,0,0,0,0,0,xZ,[]⟩ (.agg (stB ⟨l,false,0,0,0,0,0,0,xZ,[]⟩ (.slice none 0 0) (.slice none 0 0)))∧Below A w w9):=⟨fun w9 k9=>⟨⟨none,0,none,0,rfl,StR.nil _ _,TkS.nil _ _⟩,(H3.out.1.trans (H4.out.2.2.2.1.mono (by have:=H3.out.2.1;omega))).trans (k9.below (by have:=H3.out.2.1;have:=H4.out.2.2.2.1.size;omega) (fun j e=>by omega))⟩⟩
  go_wp2_with (first | (refine wpl_loadSt rfl _ rfl (A+1+1) rfl _ H4.out.1 rfl ?_) | (refine wpl_storeSt rfl _ _ rfl (A+1) rfl (stB ⟨l,false,0,0,0,0,0,0,xZ,[]⟩ (.slice none 0 0) (.slice none 0 0)) _ rfl H4.out.2.1 rfl rfl (st_one _ _ _ _ _ _ _) ?_;intro w9 n9 k9))
  refine bodyPost_ret (resSt8 _ _ _ rfl rfl n9) rfl ?_
  obtain ⟨o9,b9⟩:=HE.out w9 k9
  rw [←HA.out,← HY.out,hyz.out]
  exact ⟨⟨_,rfl,o9⟩,b9⟩
theorem ropen_st (l:Lv) (w:World) (S:Nat→Prop) (hS:∀ j,S j→j<w.heap.size) :
  Calls Tryz.prog 11 #[.agg #[.string l.name,.int .i64 l.kind,.int .i64 l.shares,.int .i64 l.lend,.int .i64 l.borrow,.int .i64 l.queues,.int .i64 l.hand,.int .i64 l.length,.int .i64 l.wait,.int .i64 l.guess]] w fun e w'=>(∃ v,e=.returned v∧StV S w' (opS l) v)∧Below w.heap.size w w':=by
 unfold opS opX
 by_cases h3:l.kind=3
 ·rw [if_pos h3]
  exact ropen_yes l w S hS ⟨h3⟩
 ·rw [if_neg h3]
  exact ropen_no l w S hS (by simpa using h3)
set_option maxRecDepth 20000 in
set_option maxHeartbeats 2000000 in
theorem rdrop_st2 (s:St) (d:Int) (ax:Option Addr) (cx:Nat) (ar:Option Addr) (cr:Nat) (w:World) (S:Nat→Prop) (hx:StR S w ax cx s.x.F) (hr:SlR w ar cr s.run) (hl:s.run.length≤1990) (hS:∀ j,S j→j<w.heap.size) (hf:Few s.x.F) :
  Calls Tryz.prog 18 #[.agg (stB s (.slice ax s.x.F.length cx) (.slice ar s.run.length cr)),.int .i64 d] w fun e w'=>(∃ v,e=.returned (.tuple #[v,.agg #[.int .i64 (dpT s.x d).id,.int .i64 (dpT s.x d).wid,.int .i64 (dpT s.x d).sts,.int .i64 (dpT s.x d).sin,.int .i64 (dpT s.x d).unt],.int .i64 (dpE s.x d)])∧StV S w' (orZ (dpE s.x d) { s with x:=dpX s.x d }) v)∧Below w.heap.size w w':=by
 obtain ⟨w2,hw2⟩:∃ w2,w2=(((w.alloc (.cells (stB s (.slice ax s.x.F.length cx) (.slice ar s.run.length cr)) 34)).alloc (.cells zsT 34)).alloc (.cells #[.int .i64 0,.int .i64 0,.int .i64 0,.int .i64 0,.int .i64 0] 36)):=⟨_,rfl⟩
 have BX:=boxes3 w 34 34 36 (stB s (.slice ax s.x.F.length cx) (.slice ar s.run.length cr)) zsT #[.int .i64 0,.int .i64 0,.int .i64 0,.int .i64 0,.int .i64 0]
 rw [←hw2] at BX
 obtain ⟨B,N1,N2,N3⟩:=BX
 have hs2:w2.heap.size=w.heap.size+3:=by rw [hw2];simp
 obtain ⟨A,hA⟩:∃ A,A=w.heap.size:=⟨_,rfl⟩
 have HA:Hd (A=w.heap.size):=⟨hA⟩
 rw [←hA] at B N1 N2 N3 hs2
 have hBw:Below w.heap.size w w2:=by rw [←hA];exact B
 have hx2:StR (Sx S A (A+3)) w2 ax cx s.x.F:=hx.sx hBw hA
 have DR:=rdrop_st s.x ax cx w2 (Sx S A (A+3)) hx2 (by rw [hs2];exact Sx.lt (by rw [hA];exact hS) (by omega)) hf d
 have HW:Hd (∀ W,Below A w W→Calls Tryz.prog 6 #[.agg (stB s (.slice ax s.x.F.length cx) (.slice ar s.run.length cr))] W fun e w'=>(∃ v u,e=.returned (.agg (stB s v u))∧StQ w' W.heap.size s v u)∧Below W.heap.size W w'):=⟨fun W b=>scopyr_ok s ax cx ar cr W ((hx.read (Kept.refl _ _)).carry (by rw [←hA];exact b)) hf (hr.carry (by rw [←hA];exact b)) (by omega)⟩
 have HSZ:Hd (∀ j,S j→j<A):=⟨fun j e=>by rw [hA];exact hS j e⟩
 have HM:Hd (Below A w w2∧w2.heap.size=A+3):=⟨B,hs2⟩
 obtain ⟨⟨c0,c1,c2,c3,c4⟩,-⟩:=N1.stx
 have HB:Hd (Blk w2 A 34 (stB s (.slice ax s.x.F.length cx) (.slice ar s.run.length cr))∧Blk w2 (A+1) 34 (stB sZ (.slice none 0 0) (.slice none 0 0))∧Blk w2 (A+1+1) 36 (tkA tkZ)):=⟨N1,N2,N3⟩
 clear N1 N2 N3 B hx hx2 hr hf hs2 hS hBw
 have HZ:Hd ((dpO s.x d=false→dpE s.x d=6∧dpT s.x d=tkZ)∧(dpO s.x d=true→dpE s.x d=0)):=⟨fun h=>⟨by unfold dpE;rw [h];rfl,if_neg (of_decide_eq_false h)⟩,fun h=>if_pos h⟩
 generalize dpE s.x d=er at *
 obtain ⟨m,hm⟩:∃ m,m=s.run.length:=⟨_,rfl⟩
 obtain ⟨n,hn⟩:∃ n,n=s.x.F.length:=⟨_,rfl⟩
 have HMN:=Hd.mk (And.intro hm hn)
 rw [←hm,← hn] at HW HB hw2
 rw [←hn] at DR c4
 rw [←hm,← hn]
 clear hm hn hl
 generalize dpX s.x d=y at *
 generalize dpT s.x d=z at *
 generalize dpO s.x d=ok at *
 go_enter Tryz.func18,Tryz.ntmps18
 go_upto_region 1 with fail
 rw [←hw2]
 clear hw2
 rw [←hA]
 clear hA
 go_wp2_with fail
 go_at_call 49
 refine DR.mono ?_
 rintro e w5 ⟨⟨v5,rfl,a5,c5,rfl,s5⟩,b5⟩
 clear DR c0 c1 c2 c3 c4
 obtain ⟨l5,hl5⟩:∃ l5,l5=y.F.length:=⟨_,rfl⟩
 have HL5:Hd (l5=y.F.length):=⟨hl5⟩
 rw [←hl5]
 clear hl5
 obtain ⟨w6,hw6⟩:∃ w6,w6=(w5.alloc (.cells #[.int .u64 y.r,.int .i64 y.g,.int .i64 y.n,.int .i64 y.o,.slice a5 l5 c5] 31)).alloc (.cells #[.int .i64 z.id,.int .i64 z.wid,.int .i64 z.sts,.int .i64 z.sin,.int .i64 z.unt] 36):=⟨_,rfl⟩
 have BX:=boxes w5 31 36 #[.int .u64 y.r,.int .i64 y.g,.int .i64 y.n,.int .i64 y.o,.slice a5 l5 c5] #[.int .i64 z.id,.int .i64 z.wid,.int .i64 z.sts,.int .i64 z.sin,.int .i64 z.unt]
 rw [←hw6] at BX
 obtain ⟨B6,N6,T6⟩:=BX
 have b36:Below w2.heap.size w2 w6:=b5.trans (B6.mono b5.size)
 have hb5:=b5.size
 have HB6:Hd (Below A w w6∧Blk w6 A 34 (stB s (.slice ax n cx) (.slice ar m cr))∧Blk w6 (A+1) 34 (stB sZ (.slice none 0 0) (.slice none 0 0))∧Blk w6 (A+1+1) 36 (tkA tkZ)∧A+3≤w6.heap.size):=⟨HM.out.1.trans (b36.mono (by have:=HM.out.2;omega)),HB.out.1.kept (Kept.of_below b36 (fun _=>False)) id,HB.out.2.1.kept (Kept.of_below b36 (fun _=>False)) id,HB.out.2.2.kept (Kept.of_below b36 (fun _=>False)) id,by have:=HM.out.2;have:=b36.size;omega⟩
 have HS6:Hd (StR (Sx S A (A+3)) w6 a5 c5 y.F):=⟨s5.high B6 (fun _ _ h=>h)⟩
 have HF6:Hd (Blk w6 w5.heap.size 31 (faA y.r y.g y.n y.o (.slice a5 l5 c5))∧Blk w6 (w5.heap.size+1) 36 (tkA z)):=⟨N6,T6⟩
 have hA5:Hd (A+3≤w5.heap.size):=⟨by have:=HM.out.2;omega⟩
 clear s5 b5 B6 N6 T6 b36 HB HM hb5
 cases ok with
 | false =>
  obtain ⟨rfl,rfl⟩:=HZ.out.1 rfl
  clear HW HS6 HZ
  go_upto_region 3 with fail
  rw [←hw6]
  clear hw6
  have K9:Hd (∀ w9,Kept (fun j=>j=A+1) w6 w9→Blk w9 (A+1+1) 36 (tkA tkZ)):=⟨fun w9 k=>HB6.out.2.2.2.1.kept k (by omega)⟩
  go_wp2_with (refine wpl_storeSt rfl _ _ rfl (A+1) rfl (stB sZ (.slice none 0 0) (.slice none 0 0)) _ rfl HB6.out.2.2.1 rfl rfl (st_one _ _ _ _ _ _ _) ?_;intro w9 n9 k9;obtain ⟨⟨e0,e1,e2,e3,e4⟩,g0,g1,g2,g3,g4⟩:=Blk.five (K9.out w9 k9))
  obtain ⟨Q1,Q2⟩:=five_set (K9.out w9 k9) tkZ
  refine bodyPost_ret (resSt31 _ _ _ _ rfl rfl rfl rfl (n9.kept Q2 (by omega)) Q1) rfl ?_
  have b9:=HB6.out.1.trans (((k9.mono (T:=fun j=>A≤j) (fun j _ e=>by omega)).trans (Q2.mono (fun j _ e=>by omega))).below (by have:=HB6.out.2.2.2.2;omega) (fun j e=>e))
  rw [←HA.out]
  exact ⟨⟨_,rfl,by rw [orZ_no (by decide)];exact sZ_v S _⟩,b9⟩
 | true =>
  obtain rfl:=HZ.out.2 rfl
  clear HZ
  obtain ⟨F6,T6⟩:=HF6.out
  have HW6:=HW.out w6 HB6.out.1
  obtain ⟨g8,hg8⟩:∃ g8,g8=w5.heap.size+1:=⟨_,rfl⟩
  rw [←hg8] at T6
  obtain ⟨g7,hg7⟩:∃ g7,g7=w5.heap.size:=⟨_,rfl⟩
  rw [←hg7] at F6
  have HT:=Hd.mk (And.intro F6 (And.intro T6 (And.intro (show A+3≤g7 by have:=hA5.out;omega) (show A+3≤g8 by have:=hA5.out;omega))))
  clear F6 T6 HW HF6 hA5
  go_upto_region 4 with fail
  rw [←hw6,← hg8,← hg7]
  clear hw6 hg8 hg7
  go_wp2_with (refine wpl_loadSt rfl _ rfl A rfl _ HB6.out.2.1 rfl ?_)
  go_at_call 6
  refine HW6.mono ?_
  rintro e w7 ⟨⟨v7,u7,rfl,o7⟩,b7⟩
  clear HW6
  have hSx6:∀ j,Sx S A (A+3) j→j<w6.heap.size:=fun j e=>by have:=Sx.lt HSZ.out (by omega) j e (B:=A+3);have:=HB6.out.2.2.2.2;omega
  obtain ⟨a4,c4,rfl,-⟩:=o7.ln hSx6
  obtain ⟨ar4,cr4,rfl,t7⟩:=o7.tk hSx6
  rw [←HMN.out.1,← HMN.out.2]
  obtain ⟨w8,hw8⟩:∃ w8,w8=w7.alloc (.cells zsT 34):=⟨_,rfl⟩
  have B8:Below w7.heap.size w7 w8:=by rw [hw8];exact alloc_below _ _
  obtain ⟨qb,hqb⟩:∃ qb,qb=w7.heap.size:=⟨_,rfl⟩
  have P8:Blk w8 qb 34 (stB sZ (.slice none 0 0) (.slice none 0 0)):=by rw [hw8,hqb];exact Blk.new _ _ _
  have H8:=Hd.mk (And.intro b7 (And.intro B8 (And.intro t7 hqb)))
  clear b7 B8 t7 o7 hSx6
  go_upto_region 5 with (rw [←hw8,← hqb];refine wpl_storeSt rfl _ _ rfl qb rfl (stB s (.slice a4 n c4) (.slice ar4 m cr4)) _ rfl P8 rfl rfl (st_one _ _ _ _ _ _ _) ?_;intro w9 n9 k9)
  have HQ:=Hd.mk hqb
  clear hw8 hqb P8
  (try rw [←HQ.out])
  have H9:Hd (Below A w w9∧Blk w9 g7 31 (faA y.r y.g y.n y.o (.slice a5 l5 c5))∧Blk w9 g8 36 (tkA z)∧Blk w9 (A+1) 34 (stB sZ (.slice none 0 0) (.slice none 0 0))∧Blk w9 (A+1+1) 36 (tkA tkZ)∧(g7<qb∧g8<qb∧A+3≤g7∧A+3≤g8∧qb<w9.heap.size)∧StR (fun j=>Sx S A (A+3) j∨j=qb) w9 a5 c5 y.F∧TkS (fun j=>Sx S A (A+3) j∨j=qb) w9 ar4 cr4 s.run):=⟨by
   obtain ⟨b7,B8,t7,hqb⟩:=H8.out
   obtain ⟨h1,h2,h3,h4,h5⟩:=HB6.out
   obtain ⟨t1,t2,t3,t4⟩:=HT.out
   have z7:=b7.size
   have z8:=B8.size
   have l1:=t1.lt
   have l2:=t2.lt
   have bel:Below A w w9:=((h1.trans (b7.mono (by omega))).trans (B8.mono (by omega))).trans (k9.below (by omega) (fun j e=>by omega))
   have k69:Kept (fun j=>j=qb) w6 w9:=((Kept.of_below b7 _).trans (Kept.of_below B8 _)).trans k9
   exact ⟨bel,t1.kept k69 (by omega),t2.kept k69 (by omega),h3.kept k69 (by omega),h4.kept k69 (by omega),⟨by omega,by omega,t3,t4,n9.lt⟩,HS6.out.stp (k69.mono (fun j hj e=>absurd e (by omega))) (fun j hj e=>e.elim id (fun e=>absurd e (by omega))),(t7.step (Kept.of_below B8 _) (T:=fun j=>Sx S A (A+3) j∨j=qb) (fun j hj e=>e.elim id (fun e=>absurd e (by omega)))).step (k9.mono (fun j _ e=>Or.inr e)) (fun _ _ e=>e)⟩⟩
  obtain ⟨⟨y0,y1,y2,y3,y4⟩,-⟩:=H9.out.2.1.fair
  obtain ⟨⟨x0,x1,x2,x3,x4⟩,f0,f1,f2,f3,f4⟩:=n9.stx
  obtain ⟨Q10,K10⟩:=st_fair n9 y (.slice a5 l5 c5)
  obtain ⟨w10,hw10⟩:∃ w10,w10=(((((w9.setCell ⟨qb,17,none⟩ (.int .u64 y.r)).setCell ⟨qb,18,none⟩ (.int .i64 y.g)).setCell ⟨qb,19,none⟩ (.int .i64 y.n)).setCell ⟨qb,20,none⟩ (.int .i64 y.o)).setCell ⟨qb,21,none⟩ (.slice a5 l5 c5)):=⟨_,rfl⟩
  rw [←hw10] at Q10 K10
  have T9:Blk w10.drew qb 34 (stB { s with x:=y } (.slice a5 l5 c5) (.slice ar4 m cr4))∧Blk w10.drew g8 36 (tkA z):=⟨Q10,(show Blk w10 g8 36 (tkA z) from H9.out.2.2.1.kept K10 (by have:=H9.out;omega))⟩
  have M9:Blk w10.drew (A+1) 34 (stB sZ (.slice none 0 0) (.slice none 0 0))∧Blk w10.drew (A+1+1) 36 (tkA tkZ):=⟨(show Blk w10 (A+1) 34 (stB sZ (.slice none 0 0) (.slice none 0 0)) from H9.out.2.2.2.1.kept K10 (by have:=H9.out;omega)),(show Blk w10 (A+1+1) 36 (tkA tkZ) from H9.out.2.2.2.2.1.kept K10 (by have:=H9.out;omega))⟩
  have HE9:Hd (∀ wf,Kept (fun j=>j=A+1∨j=A+1+1) w10.drew wf→StV S wf { s with x:=y } (.agg (stB { s with x:=y } (.slice a5 l5 c5) (.slice ar4 m cr4)))∧Below A w wf):=⟨fun wf kf=>by
   obtain ⟨h1,h2,h3,h4,h5,h6,h7,h8⟩:=H9.out
   have kd:=(Kept.of_below (Below.refl _ w10).drew (fun j=>j=A+1∨j=A+1+1)).trans kf
   have kk:Kept (fun j=>Sx S A (A+3) j∨j=qb) w9 wf:=(K10.mono (T:=fun j=>Sx S A (A+3) j∨j=qb) (fun j _ e=>Or.inr e)).trans (kd.mono (fun j _ e=>Or.inl (Or.inr ⟨by omega,by omega⟩)))
   have zs:=K10.size
   exact ⟨⟨a5,c5,ar4,cr4,by rw [HL5.out,HMN.out.1],h7.stp kk (fun j _ e=>.inl (.inl e)),h8.step kk (fun j _ e=>.inl (.inl e))⟩,(h1.trans (K10.below (by omega) (fun j e=>by omega))).trans (kd.below (by omega) (fun j e=>by omega))⟩⟩
  have HG:Hd (A+3≤qb∧A+3≤g8):=⟨by have:=H9.out;omega⟩
  clear Q10 K10 n9 k9 H9 H8 HT
  go_upto_region 6 with fail
  rw [←hw10]
  clear hw10 y0 y1 y2 y3 y4 x0 x1 x2 x3 x4 f0 f1 f2 f3 f4
  refine AnyG.start (T:=fun W=>Blk W qb 34 (stB { s with x:=y } (.slice a5 l5 c5) (.slice ar4 m cr4))∧Blk W g8 36 (tkA z)) (U:=fun _=>True) (j0:=4) (by kernel_rfl) ?_
  generalize w10.drew=w8 at *
  refine .tq (v:=.agg (stB { s with x:=y } (.slice a5 l5 c5) (.slice ar4 m cr4))) 0 27 T9 ?_ (hy:=fun w hSw=>exec_loadSt _ rfl qb rfl _ hSw.1 rfl);simp only [oqA,oqB,oqC]
  refine .tq (v:=.agg #[.int .i64 z.id,.int .i64 z.wid,.int .i64 z.sts,.int .i64 z.sin,.int .i64 z.unt]) 1 28 T9 ?_ (hy:=fun w hSw=>by obtain ⟨c0,c1,c2,c3,c4⟩:=(Blk.five hSw.2).1;go_simp);simp only [oqA,oqB,oqC]
  refine AnyG.ready (rs:=[2]) (by kernel_rfl) (by simp) ?_
  refine AllG.cons rfl (fun K hK=>?_) AllG.nil
  refine step_storeSt rfl _ _ rfl (A+1) rfl (stB { s with x:=y } (.slice a5 l5 c5) (.slice ar4 m cr4)) _ rfl M9.1 rfl rfl (st_one _ _ _ _ _ _ _) ?_
  intro w9 n9 k9
  have U9:=And.intro (T9.1.kept k9 (by have:=HG.out;omega)) (T9.2.kept k9 (by have:=HG.out;omega))
  have P9:=M9.2.kept k9 (by omega)
  refine hK.out _ _ ⟨U9,fun _=>trivial⟩ ?_
  clear hK K T9 M9
  refine AnyG.ready (rs:=[3]) (by kernel_rfl) (by simp) ?_
  refine AllG.cons rfl (fun K hK=>?_) AllG.nil
  obtain ⟨⟨e0,e1,e2,e3,e4⟩,g0,g1,g2,g3,g5⟩:=Blk.five P9
  go_simp
  obtain ⟨Q1,Q2⟩:=five_set P9 z
  have U10:=And.intro (U9.1.kept Q2 (by have:=HG.out;omega)) (U9.2.kept Q2 (by have:=HG.out;omega))
  refine hK.out _ _ ⟨U10,fun _=>trivial⟩ ?_
  clear hK K
  refine AnyG.ready (rs:=[4]) (by kernel_rfl) (by simp) ?_
  refine AllG.cons rfl (fun K hK=>?_) AllG.nil
  go_simp
  refine hK.out _ _ ⟨U10,fun _=>trivial⟩ ?_
  refine AnyG.done (by kernel_rfl) ?_ _
  have n10:=n9.kept Q2 (by omega)
  obtain ⟨o9,b9⟩:=HE9.out _ ((k9.mono (T:=fun j=>j=A+1∨j=A+1+1) (fun j _ e=>.inl e)).trans (Q2.mono (fun j _ e=>.inr e)))
  clear hK K U9 U10 P9 e0 e1 e2 e3 e4 g0 g1 g2 g3 g5
  generalize (((((w9.setCell ⟨A+1+1,0,none⟩ (.int .i64 z.id)).setCell ⟨A+1+1,1,none⟩ (.int .i64 z.wid)).setCell ⟨A+1+1,2,none⟩ (.int .i64 z.sts)).setCell ⟨A+1+1,3,none⟩ (.int .i64 z.sin)).setCell ⟨A+1+1,4,none⟩ (.int .i64 z.unt))=w11 at *
  go_wp2_with fail
  refine bodyPost_ret (resSt31 _ _ _ _ rfl rfl rfl rfl n10 Q1) rfl ?_
  rw [←HA.out]
  exact ⟨⟨_,rfl,by rw [orZ_yes];exact o9⟩,b9⟩
end Go.Proofs.YtlgibnmoogbdcaaGreat
