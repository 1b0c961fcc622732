/-
  Somebody comes to a level, by the reference.
-/
import Derived.Test.YtlgibnmoogbdcaaGreatR39
namespace Go.Proofs.YtlgibnmoogbdcaaGreat
open Go.RowKit
theorem OwnT.off6 {w:World} {B g:Nat} {v:Value} {L:List Tk} (h:OwnT w B v L) {cs:Array Value} (k:Blk w g 34 cs):v.ownBlock≠some g:=by
 rcases id h.2 with ⟨rfl,-⟩ | ⟨q,cap,cur,rfl,hb,hg,r⟩
 ·intro e;cases e
 ·intro e
  injection e with e
  have e:q=g:=e
  subst e
  exact k.ne' hg (by decide) rfl
set_option maxRecDepth 20000 in
set_option maxHeartbeats 2000000 in
theorem rarr_quiet (s:St) (t:Tk) (ax:Option Addr) (cx:Nat) (ar:Option Addr) (cr:Nat) (ah:Option Addr) (nh ch:Nat) (w:World) (S:Nat→Prop) (hq:s.q=true) :
  Calls Tryz.prog 8 #[.agg (stB s (.slice ax s.x.F.length cx) (.slice ar s.run.length cr)),.agg #[.int .i64 t.id,.int .i64 t.wid,.int .i64 t.sts,.int .i64 t.sin,.int .i64 t.unt],.slice ah nh ch] w fun e w'=>(∃ v,e=.returned (.tuple #[v,.int .i64 (9)])∧StV S w' (sZ) v)∧Below w.heap.size w w':=by
 obtain ⟨w2,hw2⟩:∃ w2,w2=(((w.alloc (.cells (stB s (.slice ax s.x.F.length cx) (.slice ar s.run.length cr)) 34)).alloc (.cells #[.int .i64 t.id,.int .i64 t.wid,.int .i64 t.sts,.int .i64 t.sin,.int .i64 t.unt] 36)).alloc (.cells zsT 34)):=⟨_,rfl⟩
 have BX:=boxes3 w 34 36 34 (stB s (.slice ax s.x.F.length cx) (.slice ar s.run.length cr)) #[.int .i64 t.id,.int .i64 t.wid,.int .i64 t.sts,.int .i64 t.sin,.int .i64 t.unt] zsT
 rw [←hw2] at BX
 obtain ⟨B,N1,N2,N3⟩:=BX
 have hs2:w2.heap.size=w.heap.size+3:=by rw [hw2];simp
 obtain ⟨A,hA⟩:∃ A,A=w.heap.size:=⟨_,rfl⟩
 have HA:Hd (A=w.heap.size):=⟨hA⟩
 rw [←hA] at B N1 N2 N3 hs2
 have hBw:Below w.heap.size w w2:=by rw [←hA];exact B
 obtain ⟨n,hn⟩:∃ n,n=s.x.F.length:=⟨_,rfl⟩
 obtain ⟨m,hm⟩:∃ m,m=s.run.length:=⟨_,rfl⟩
 have HL:=Hd.mk (And.intro hn hm)
 have N3:Blk w2 (A+1+1) 34 (stB sZ (.slice none 0 0) (.slice none 0 0)):=N3
 have q10:w2.cell? ⟨A,10,none⟩=some (.bool true):=by rw [←hq];exact N1.cellv 10 rfl
 rw [←hn,← hm] at hw2
 rw [←hn,← hm]
 have HE:Hd (∀ w9,Kept (fun j=>j=A+1+1) w2 w9→Below A w w9):=⟨fun w9 k9=>B.trans (k9.below (by omega) (fun j e=>by omega))⟩
 clear B N1 N2 hBw hn hm
 go_enter Tryz.func8,Tryz.ntmps8
 go_upto_region 1 with fail
 rw [←hw2]
 clear hw2
 rw [←hA]
 clear hA
 go_wp2_with (refine wpl_storeSt rfl _ _ rfl (A+1+1) rfl (stB sZ (.slice none 0 0) (.slice none 0 0)) _ rfl N3 rfl rfl (st_one _ _ _ _ _ _ _) ?_;intro w9 n9 k9)
 refine bodyPost_ret (resSt28 _ _ _ rfl rfl n9) rfl ?_
 have b9:=HE.out w9 k9
 rw [←HA.out]
 exact ⟨⟨_,rfl,sZ_v S w9⟩,b9⟩
set_option maxRecDepth 20000 in
set_option maxHeartbeats 2000000 in
theorem rarr_waits (s:St) (t:Tk) (ax:Option Addr) (cx:Nat) (ar:Option Addr) (cr:Nat) (ah:Option Addr) (nh ch:Nat) (w:World) (S:Nat→Prop) (hx:StR S w ax cx s.x.F) (hr:SlR w ar cr s.run) (hl:s.run.length≤1990) (hS:∀ j,S j→j<w.heap.size) (hf:Few s.x.F) (hq:s.q=false) (hk:s.lv.kind≠3) (hk1:s.lv.kind≠1) (hw:0<wtA s.x.F) :
  Calls Tryz.prog 8 #[.agg (stB s (.slice ax s.x.F.length cx) (.slice ar s.run.length cr)),.agg #[.int .i64 t.id,.int .i64 t.wid,.int .i64 t.sts,.int .i64 t.sin,.int .i64 t.unt],.slice ah nh ch] w fun e w'=>(∃ v,e=.returned (.tuple #[v,.int .i64 (7)])∧StV S w' (sZ) v)∧Below w.heap.size w w':=by
 obtain ⟨w2,hw2⟩:∃ w2,w2=(((w.alloc (.cells (stB s (.slice ax s.x.F.length cx) (.slice ar s.run.length cr)) 34)).alloc (.cells #[.int .i64 t.id,.int .i64 t.wid,.int .i64 t.sts,.int .i64 t.sin,.int .i64 t.unt] 36)).alloc (.cells zsT 34)):=⟨_,rfl⟩
 have BX:=boxes3 w 34 36 34 (stB s (.slice ax s.x.F.length cx) (.slice ar s.run.length cr)) #[.int .i64 t.id,.int .i64 t.wid,.int .i64 t.sts,.int .i64 t.sin,.int .i64 t.unt] zsT
 rw [←hw2] at BX
 obtain ⟨B,N1,N2,N3⟩:=BX
 have hs2:w2.heap.size=w.heap.size+3:=by rw [hw2];simp
 obtain ⟨A,hA⟩:∃ A,A=w.heap.size:=⟨_,rfl⟩
 have HA:Hd (A=w.heap.size):=⟨hA⟩
 rw [←hA] at B N1 N2 N3 hs2
 have hBw:Below w.heap.size w w2:=by rw [←hA];exact B
 obtain ⟨n,hn⟩:∃ n,n=s.x.F.length:=⟨_,rfl⟩
 obtain ⟨m,hm⟩:∃ m,m=s.run.length:=⟨_,rfl⟩
 have HL:=Hd.mk (And.intro hn hm)
 have N3:Blk w2 (A+1+1) 34 (stB sZ (.slice none 0 0) (.slice none 0 0)):=N3
 have HSZ:Hd (∀ j,S j→j<A):=⟨fun j e=>by rw [hA];exact hS j e⟩
 have RC:=scopyr_ok s ax cx ar cr w2 ((hx.read (Kept.refl _ _)).carry hBw) hf (hr.carry hBw) (by omega)
 have HFW:=Hd.mk hf
 have HB:=Hd.mk (And.intro B (And.intro hs2 (And.intro N1 (And.intro N2 (And.intro N3 (And.intro (fun (W:World) (b:Below A w W)=>hx.sx (w2:=W) (B:=A+3) (by rw [←hA];exact b) hA) (fun (W:World) (b:Below A w W)=>hr.carry (w':=W) (by rw [←hA];exact b))))))))
 rw [←hn,← hm] at HB
 rw [←hn,← hm] at hw2 RC
 rw [←hn,← hm]
 have q10:w2.cell? ⟨A,10,none⟩=some (.bool false):=by rw [←hq];exact N1.cellv 10 rfl
 have hl':m≤1990:=by omega
 clear N1 N2 N3 B hx hr hs2 hBw hl hf hn hm hS
 go_enter Tryz.func8,Tryz.ntmps8
 go_upto_region 1 with fail
 rw [←hw2]
 clear hw2
 rw [←hA]
 clear hA
 go_wp2_with (refine wpl_loadSt rfl _ rfl A rfl _ HB.out.2.2.1 rfl ?_)
 go_at_call 6
 refine RC.mono ?_
 rintro e w4 ⟨⟨v4,u4,rfl,o4⟩,b4⟩
 clear RC q10
 have hSx4:∀ j,Sx S A (A+3) j→j<w2.heap.size:=fun j e=>by have:=Sx.lt HSZ.out (by omega) j e (B:=A+3);have:=HB.out.2.1;omega
 obtain ⟨B2,hB2,⟨a4,c4,rfl,s4⟩,oR⟩:=o4.ex
 obtain ⟨ar4,cr4,rfl,t4⟩:=o4.tk hSx4
 rw [←HL.out.2] at oR
 rw [←HL.out.1,← HL.out.2]
 obtain ⟨w5,hw5⟩:∃ w5,w5=w4.alloc (.cells zsT 34):=⟨_,rfl⟩
 have B5:Below w4.heap.size w4 w5:=by rw [hw5];exact alloc_below _ _
 obtain ⟨qb,hqb⟩:∃ qb,qb=w4.heap.size:=⟨_,rfl⟩
 have P5:Blk w5 qb 34 (stB sZ (.slice none 0 0) (.slice none 0 0)):=by rw [hw5,hqb];exact Blk.new _ _ _
 have sx4:StR (Sx S A (A+3)) w4 ax cx s.x.F:=HB.out.2.2.2.2.2.1 w4 (HB.out.1.trans (b4.mono (by have:=HB.out.2.1;omega)))
 have H5:=Hd.mk (And.intro b4 (And.intro B5 (And.intro t4 (And.intro sx4 (And.intro s4 (And.intro oR (And.intro hB2 hqb)))))))
 clear b4 B5 s4 t4 o4 hSx4 sx4 oR hB2
 go_upto_region 4 with (rw [←hw5,← hqb];refine wpl_storeSt rfl _ _ rfl qb rfl (stB s (.slice a4 n c4) (.slice ar4 m cr4)) _ rfl P5 rfl rfl (st_one _ _ _ _ _ _ _) ?_;intro w6 n6 k6)
 have HQ:=Hd.mk hqb
 clear hw5 hqb P5
 (try rw [←HQ.out])
 have H6:Hd (Below A w w6∧Blk w6 A 34 (stB s (.slice ax n cx) (.slice ar m cr))∧Blk w6 (A+1) 36 (tkA t)∧Blk w6 (A+1+1) 34 (stB sZ (.slice none 0 0) (.slice none 0 0))∧(A+3≤qb∧qb<w6.heap.size)∧TkS (fun j=>Sx S A (A+3) j∨qb≤j) w6 ar4 cr4 s.run∧StR (fun j=>Sx S A (A+3) j∨qb≤j) w6 ax cx s.x.F∧(A+3≤B2∧B2≤qb)∧StR (fun j=>j<A+3∨B2≤j) w6 a4 c4 s.x.F∧OwnT w6 B2 (.slice ar4 m cr4) s.run∧(∀ j,(Value.slice ar4 m cr4).ownBlock=some j→j<qb)):=⟨by
  obtain ⟨b4,B5,t4,sx4,s4,oR,hB2,hqb⟩:=H5.out
  obtain ⟨h1,h2,h3,h4,h5,-⟩:=HB.out
  have z4:=b4.size
  have z5:=B5.size
  have bel:Below A w w6:=((h1.trans (b4.mono (by omega))).trans (B5.mono (by omega))).trans (k6.below (by omega) (fun j e=>by omega))
  have k26:Kept (fun j=>A+3≤j) w2 w6:=((Kept.of_below b4 _).trans (Kept.of_below B5 _)).trans (k6.mono (fun j _ e=>by omega))
  have k46:Kept (fun j=>j=qb) w4 w6:=(Kept.of_below B5 _).trans k6
  refine ⟨bel,h3.kept k26 (by omega),h4.kept k26 (by omega),h5.kept k26 (by omega),⟨by omega,n6.lt⟩,(t4.step (Kept.of_below B5 _) (T:=fun j=>Sx S A (A+3) j∨qb≤j) (fun j hj e=>e.elim id (fun e=>absurd e (by omega)))).step (k6.mono (fun j _ e=>Or.inr (by omega))) (fun _ _ e=>e),(sx4.stp (Kept.of_below B5 _) (T:=fun j=>Sx S A (A+3) j∨qb≤j) (fun j hj e=>e.elim id (fun e=>absurd e (by omega)))).stp (k6.mono (fun j _ e=>Or.inr (by omega))) (fun _ _ e=>e),⟨by omega,by omega⟩,s4.stp (k46.mono (fun j _ e=>Or.inr (by omega))) (fun j _ e=>by omega),oR.keptV k46 (fun j e1 e2=>by have:=(oR.lt j e1).2;omega),fun j e=>by have:=(oR.lt j e).2;omega⟩⟩
 have HN6:=Hd.mk (And.intro n6 H6.out.1)
 clear n6 k6 H5
 obtain ⟨⟨x0,x1,x2,x3,x4⟩,-⟩:=H6.out.2.1.stx
 have q1:w6.cell? ⟨A,1,none⟩=some (.int .i64 s.lv.kind):=H6.out.2.1.cellv 1 rfl
 have k1:(s.lv.kind == 3)=false:=by simpa using hk
 have k2:(s.lv.kind != 1)=true:=by simpa using hk1
 have WT:=rwaiting_ok s.x.r s.x.g s.x.n s.x.o ax cx s.x.F w6 (H6.out.2.2.2.2.2.2.1.read (Kept.refl _ _)) HFW.out
 rw [←HL.out.1] at WT
 unfold wtA at hw
 rw [←HL.out.1] at hw
 have hwt:=wtT_bound HFW.out
 rw [←HL.out.1] at hwt
 generalize wtT s.x.F n=T at *
 go_upto_region 12 with (go_at_call 31;refine WT.mono ?_;rintro e w7 ⟨rfl,b7⟩)
 have M3:=H6.out.2.2.2.1.kept (Kept.of_below b7 (fun _=>False)) id
 have HE:Hd (∀ w9,Kept (fun j=>j=A+1+1) w7 w9→Below A w w9):=⟨fun w9 k9=>(H6.out.1.trans (b7.mono (by have:=H6.out;omega))).trans (k9.below (by have:=H6.out;have:=b7.size;omega) (fun j e=>by omega))⟩
 clear b7 WT x0 x1 x2 x3 x4 q1
 go_wp2_with (refine wpl_storeSt rfl _ _ rfl (A+1+1) rfl (stB sZ (.slice none 0 0) (.slice none 0 0)) _ rfl M3 rfl rfl (st_one _ _ _ _ _ _ _) ?_;intro w9 n9 k9)
 refine bodyPost_ret (resSt28 _ _ _ rfl rfl n9) rfl ?_
 have b9:=HE.out w9 k9
 rw [←HA.out]
 exact ⟨⟨_,rfl,sZ_v S w9⟩,b9⟩
set_option maxRecDepth 20000 in
set_option maxHeartbeats 2000000 in
theorem rarr_queue (s:St) (t:Tk) (ax:Option Addr) (cx:Nat) (ar:Option Addr) (cr:Nat) (ah:Option Addr) (nh ch:Nat) (w:World) (S:Nat→Prop) (H0:Nat→Int) (hh:HnR w ah nh H0) (hnh:nh≤1000) (hx:StR S w ax cx s.x.F) (hr:SlR w ar cr s.run) (hl:s.run.length≤1990) (hS:∀ j,S j→j<w.heap.size) (hf:Few s.x.F) (hq:s.q=false) (hk:Hd (s.lv.kind=3)) :
  Calls Tryz.prog 8 #[.agg (stB s (.slice ax s.x.F.length cx) (.slice ar s.run.length cr)),.agg #[.int .i64 t.id,.int .i64 t.wid,.int .i64 t.sts,.int .i64 t.sin,.int .i64 t.unt],.slice ah nh ch] w fun e w'=>(∃ v,e=.returned (.tuple #[v,.int .i64 (jnE s.x (chF s.x.F s.x.o H0 nh))])∧StV S w' (orZ (jnE s.x (chF s.x.F s.x.o H0 nh)) { s with x:=jnX s.x (chF s.x.F s.x.o H0 nh) (seated t 0) }) v)∧Below w.heap.size w w':=by
 obtain ⟨w2,hw2⟩:∃ w2,w2=(((w.alloc (.cells (stB s (.slice ax s.x.F.length cx) (.slice ar s.run.length cr)) 34)).alloc (.cells #[.int .i64 t.id,.int .i64 t.wid,.int .i64 t.sts,.int .i64 t.sin,.int .i64 t.unt] 36)).alloc (.cells zsT 34)):=⟨_,rfl⟩
 have BX:=boxes3 w 34 36 34 (stB s (.slice ax s.x.F.length cx) (.slice ar s.run.length cr)) #[.int .i64 t.id,.int .i64 t.wid,.int .i64 t.sts,.int .i64 t.sin,.int .i64 t.unt] zsT
 rw [←hw2] at BX
 obtain ⟨B,N1,N2,N3⟩:=BX
 have hs2:w2.heap.size=w.heap.size+3:=by rw [hw2];simp
 obtain ⟨A,hA⟩:∃ A,A=w.heap.size:=⟨_,rfl⟩
 have HA:Hd (A=w.heap.size):=⟨hA⟩
 rw [←hA] at B N1 N2 N3 hs2
 have hBw:Below w.heap.size w w2:=by rw [←hA];exact B
 obtain ⟨n,hn⟩:∃ n,n=s.x.F.length:=⟨_,rfl⟩
 obtain ⟨m,hm⟩:∃ m,m=s.run.length:=⟨_,rfl⟩
 have HL:=Hd.mk (And.intro hn hm)
 have N3:Blk w2 (A+1+1) 34 (stB sZ (.slice none 0 0) (.slice none 0 0)):=N3
 have HSZ:Hd (∀ j,S j→j<A):=⟨fun j e=>by rw [hA];exact hS j e⟩
 have RC:=scopyr_ok s ax cx ar cr w2 ((hx.read (Kept.refl _ _)).carry hBw) hf (hr.carry hBw) (by omega)
 have HFW:=Hd.mk hf
 have HB:=Hd.mk (And.intro B (And.intro hs2 (And.intro N1 (And.intro N2 (And.intro N3 (And.intro (fun (W:World) (b:Below A w W)=>hx.sx (w2:=W) (B:=A+3) (by rw [←hA];exact b) hA) (fun (W:World) (b:Below A w W)=>hr.carry (w':=W) (by rw [←hA];exact b))))))))
 rw [←hn,← hm] at HB
 rw [←hn,← hm] at hw2 RC
 rw [←hn,← hm]
 have q10:w2.cell? ⟨A,10,none⟩=some (.bool false):=by rw [←hq];exact N1.cellv 10 rfl
 have hl':m≤1990:=by omega
 have HHN:=Hd.mk (fun (W:World) (b:Below A w W)=>hh.carry (w':=W) (by rw [←hA];exact b))
 obtain ⟨er,her⟩:∃ er,er=jnE s.x (chF s.x.F s.x.o H0 nh):=⟨_,rfl⟩
 obtain ⟨y,hy⟩:∃ y,y=jnX s.x (chF s.x.F s.x.o H0 nh) (seated t 0):=⟨_,rfl⟩
 have HEY:=Hd.mk (And.intro her hy)
 rw [←her,← hy]
 clear her hy
 clear hh N1 N2 N3 B hx hr hs2 hBw hl hf hn hm hS
 go_enter Tryz.func8,Tryz.ntmps8
 go_upto_region 1 with fail
 rw [←hw2]
 clear hw2
 rw [←hA]
 clear hA
 go_wp2_with (refine wpl_loadSt rfl _ rfl A rfl _ HB.out.2.2.1 rfl ?_)
 go_at_call 6
 refine RC.mono ?_
 rintro e w4 ⟨⟨v4,u4,rfl,o4⟩,b4⟩
 clear RC q10
 have hSx4:∀ j,Sx S A (A+3) j→j<w2.heap.size:=fun j e=>by have:=Sx.lt HSZ.out (by omega) j e (B:=A+3);have:=HB.out.2.1;omega
 obtain ⟨B2,hB2,⟨a4,c4,rfl,s4⟩,oR⟩:=o4.ex
 obtain ⟨ar4,cr4,rfl,t4⟩:=o4.tk hSx4
 rw [←HL.out.2] at oR
 rw [←HL.out.1,← HL.out.2]
 obtain ⟨w5,hw5⟩:∃ w5,w5=w4.alloc (.cells zsT 34):=⟨_,rfl⟩
 have B5:Below w4.heap.size w4 w5:=by rw [hw5];exact alloc_below _ _
 obtain ⟨qb,hqb⟩:∃ qb,qb=w4.heap.size:=⟨_,rfl⟩
 have P5:Blk w5 qb 34 (stB sZ (.slice none 0 0) (.slice none 0 0)):=by rw [hw5,hqb];exact Blk.new _ _ _
 have sx4:StR (Sx S A (A+3)) w4 ax cx s.x.F:=HB.out.2.2.2.2.2.1 w4 (HB.out.1.trans (b4.mono (by have:=HB.out.2.1;omega)))
 have H5:=Hd.mk (And.intro b4 (And.intro B5 (And.intro t4 (And.intro sx4 (And.intro s4 (And.intro oR (And.intro hB2 hqb)))))))
 clear b4 B5 s4 t4 o4 hSx4 sx4 oR hB2
 go_upto_region 4 with (rw [←hw5,← hqb];refine wpl_storeSt rfl _ _ rfl qb rfl (stB s (.slice a4 n c4) (.slice ar4 m cr4)) _ rfl P5 rfl rfl (st_one _ _ _ _ _ _ _) ?_;intro w6 n6 k6)
 have HQ:=Hd.mk hqb
 clear hw5 hqb P5
 (try rw [←HQ.out])
 have H6:Hd (Below A w w6∧Blk w6 A 34 (stB s (.slice ax n cx) (.slice ar m cr))∧Blk w6 (A+1) 36 (tkA t)∧Blk w6 (A+1+1) 34 (stB sZ (.slice none 0 0) (.slice none 0 0))∧(A+3≤qb∧qb<w6.heap.size)∧TkS (fun j=>Sx S A (A+3) j∨qb≤j) w6 ar4 cr4 s.run∧StR (fun j=>Sx S A (A+3) j∨qb≤j) w6 ax cx s.x.F∧(A+3≤B2∧B2≤qb)∧StR (fun j=>j<A+3∨B2≤j) w6 a4 c4 s.x.F∧OwnT w6 B2 (.slice ar4 m cr4) s.run∧(∀ j,(Value.slice ar4 m cr4).ownBlock=some j→j<qb)):=⟨by
  obtain ⟨b4,B5,t4,sx4,s4,oR,hB2,hqb⟩:=H5.out
  obtain ⟨h1,h2,h3,h4,h5,-⟩:=HB.out
  have z4:=b4.size
  have z5:=B5.size
  have bel:Below A w w6:=((h1.trans (b4.mono (by omega))).trans (B5.mono (by omega))).trans (k6.below (by omega) (fun j e=>by omega))
  have k26:Kept (fun j=>A+3≤j) w2 w6:=((Kept.of_below b4 _).trans (Kept.of_below B5 _)).trans (k6.mono (fun j _ e=>by omega))
  have k46:Kept (fun j=>j=qb) w4 w6:=(Kept.of_below B5 _).trans k6
  refine ⟨bel,h3.kept k26 (by omega),h4.kept k26 (by omega),h5.kept k26 (by omega),⟨by omega,n6.lt⟩,(t4.step (Kept.of_below B5 _) (T:=fun j=>Sx S A (A+3) j∨qb≤j) (fun j hj e=>e.elim id (fun e=>absurd e (by omega)))).step (k6.mono (fun j _ e=>Or.inr (by omega))) (fun _ _ e=>e),(sx4.stp (Kept.of_below B5 _) (T:=fun j=>Sx S A (A+3) j∨qb≤j) (fun j hj e=>e.elim id (fun e=>absurd e (by omega)))).stp (k6.mono (fun j _ e=>Or.inr (by omega))) (fun _ _ e=>e),⟨by omega,by omega⟩,s4.stp (k46.mono (fun j _ e=>Or.inr (by omega))) (fun j _ e=>by omega),oR.keptV k46 (fun j e1 e2=>by have:=(oR.lt j e1).2;omega),fun j e=>by have:=(oR.lt j e).2;omega⟩⟩
 have HN6:=Hd.mk (And.intro n6 H6.out.1)
 clear n6 k6 H5
 obtain ⟨⟨x0,x1,x2,x3,x4⟩,-⟩:=H6.out.2.1.stx
 have q1:w6.cell? ⟨A,1,none⟩=some (.int .i64 3):=by rw [←hk.out];exact H6.out.2.1.cellv 1 rfl
 obtain ⟨⟨e0,e1,e2,e3,e4⟩,-,-,g2,-⟩:=H6.out.2.2.1.five
 have T7:Blk (w6.setCell ⟨A+1,2,none⟩ (.int .i64 0)) (A+1) 36 (tkA (seated t 0)):=H6.out.2.2.1.set 2 (.int .i64 0)
 have K7:Kept (fun j=>j=A+1) w6 (w6.setCell ⟨A+1,2,none⟩ (.int .i64 0)):=(Kept.refl _ _).setCell _ _ (.inl rfl)
 have H7:=Hd.mk (And.intro T7 K7)
 clear T7 K7
 go_upto_region 6 with fail
 clear e0 e1 e2 e3 e4 g2 q1 x0 x1 x2 x3 x4
 generalize w6.setCell ⟨A+1,2,none⟩ (.int .i64 0)=w7 at *
 obtain ⟨⟨x0,x1,x2,x3,x4⟩,-⟩:=(H6.out.2.1.kept H7.out.2 (by omega)).stx
 obtain ⟨⟨e0,e1,e2,e3,e4⟩,-⟩:=H7.out.1.five
 have bw7:Below A w w7:=H6.out.1.trans (H7.out.2.below (by have:=H6.out;omega) (fun j e=>by omega))
 have hz7:=H7.out.2.size
 have RJ:=rjoin_st s.x ax cx ah nh ch H0 (seated t 0) w7 (fun j=>Sx S A (A+3) j∨(qb≤j∧j<w7.heap.size)) (H6.out.2.2.2.2.2.2.1.stp (H7.out.2.mono (fun j _ e=>Or.inl (Or.inr ⟨by omega,by omega⟩))) (fun j _ e=>e.imp id (fun e=>e.1))) (fun j e=>e.elim (fun e=>by have:=Sx.lt HSZ.out (by omega) j e (B:=A+3);have:=H6.out;omega) (fun e=>e.2)) HFW.out (HHN.out w7 bw7) hnh
 rw [←HL.out.1,← HEY.out.1,← HEY.out.2] at RJ
 have HBW:=Hd.mk (And.intro bw7 hz7)
 clear bw7 hz7
 generalize jnK s.x (chF s.x.F s.x.o H0 nh)=kk at *
 go_wp2_with fail
 go_at_call 36
 refine RJ.mono ?_
 rintro e w8 ⟨⟨v8,rfl,a6,c6,rfl,s6⟩,b8⟩
 clear RJ x0 x1 x2 x3 x4 e0 e1 e2 e3 e4
 obtain ⟨l6,hl6⟩:∃ l6,l6=y.F.length:=⟨_,rfl⟩
 have HL6:=Hd.mk hl6
 rw [←hl6]
 clear hl6
 obtain ⟨w9,hw9⟩:∃ w9,w9=w8.alloc (.cells #[.int .u64 y.r,.int .i64 y.g,.int .i64 y.n,.int .i64 y.o,.slice a6 l6 c6] 31):=⟨_,rfl⟩
 have N9:Blk w9 w8.heap.size 31 (faA y.r y.g y.n y.o (.slice a6 l6 c6)):=by rw [hw9];exact Blk.new _ _ _
 have B9:Below w8.heap.size w8 w9:=by rw [hw9];exact alloc_below _ _
 have H9:Hd (Below A w w9∧Blk w9 qb 34 (stB s (.slice a4 n c4) (.slice ar4 m cr4))∧Blk w9 (A+1+1) 34 (stB sZ (.slice none 0 0) (.slice none 0 0))∧(A+3≤qb∧qb<w9.heap.size)∧StR (fun j=>Sx S A (A+3) j∨j=qb) w9 a6 c6 y.F∧TkS (fun j=>Sx S A (A+3) j∨j=qb) w9 ar4 cr4 s.run):=⟨by
  have h6:=H6.out
  have h7:=H7.out
  have z7:=h7.2.size
  have z8:=b8.size
  have z9:=B9.size
  have k79:Kept (fun _=>False) w7 w9:=(Kept.of_below b8 _).trans (Kept.of_below B9 _)
  have k69:Kept (fun j=>j=A+1) w6 w9:=h7.2.trans (k79.mono (fun j _ e=>e.elim))
  refine ⟨h6.1.trans (k69.below (by omega) (fun j e=>by omega)),HN6.out.1.kept k69 (by omega),h6.2.2.2.1.kept k69 (by omega),⟨h6.2.2.2.2.1.1,by omega⟩,s6.stp (Kept.of_below B9 _) (fun j hj e=>?_),h6.2.2.2.2.2.1.step (k69.mono (fun j _ e=>Or.inl (Or.inr ⟨by omega,by omega⟩))) (fun j _ e=>?_)⟩
  ·rcases e with e | e
   ·exact Or.inl e
   ·exact Or.inr ⟨by omega,by omega⟩
  ·rcases e with e | e
   ·exact Or.inl e
   ·exact Or.inr (by omega)⟩
 obtain ⟨⟨y0,y1,y2,y3,y4⟩,-⟩:=N9.fair
 clear N9 B9 s6 b8
 by_cases he:er=0
 ·have heb:(er != 0)=false:=by simp [he]
  have HER:=Hd.mk he
  clear he
  go_upto_region 9 with fail
  rw [←hw9]
  clear hw9
  obtain ⟨⟨x0,x1,x2,x3,x4⟩,f0,f1,f2,f3,f4⟩:=H9.out.2.1.stx
  obtain ⟨Q10,K10⟩:=st_fair H9.out.2.1 y (.slice a6 l6 c6)
  obtain ⟨w10,hw10⟩:∃ w10,w10=(((((w9.setCell ⟨qb,17,none⟩ (.int .u64 y.r)).setCell ⟨qb,18,none⟩ (.int .i64 y.g)).setCell ⟨qb,19,none⟩ (.int .i64 y.n)).setCell ⟨qb,20,none⟩ (.int .i64 y.o)).setCell ⟨qb,21,none⟩ (.slice a6 l6 c6)):=⟨_,rfl⟩
  rw [←hw10] at Q10 K10
  have HM:=Hd.mk (And.intro Q10 (H9.out.2.2.1.kept K10 (by have:=H9.out;omega)))
  have HE:Hd (∀ wf,Kept (fun j=>j=A+1+1) w10 wf→StV S wf { s with x:=y } (.agg (stB { s with x:=y } (.slice a6 l6 c6) (.slice ar4 m cr4)))∧Below A w wf):=⟨fun wf kf=>by
   obtain ⟨h1,h2,h3,h4,h5,h6⟩:=H9.out
   have kk:Kept (fun j=>Sx S A (A+3) j∨j=qb) w9 wf:=(K10.mono (T:=fun j=>Sx S A (A+3) j∨j=qb) (fun j _ e=>Or.inr e)).trans (kf.mono (fun j _ e=>Or.inl (Or.inr ⟨by omega,by omega⟩)))
   have zs:=K10.size
   exact ⟨⟨a6,c6,ar4,cr4,by rw [HL6.out,HL.out.2],h5.stp kk (fun j _ e=>.inl (.inl e)),h6.step kk (fun j _ e=>.inl (.inl e))⟩,(h1.trans (K10.below (by omega) (fun j e=>by omega))).trans (kf.below (by omega) (fun j e=>by omega))⟩⟩
  clear Q10 K10
  go_upto_region 10 with fail
  rw [←hw10]
  clear hw10 x0 x1 x2 x3 x4 f0 f1 f2 f3 f4 y0 y1 y2 y3 y4
  go_wp2_with (first | (refine wpl_loadSt rfl _ rfl qb rfl _ HM.out.1 rfl ?_) | (refine wpl_storeSt rfl _ _ rfl (A+1+1) rfl (stB { s with x:=y } (.slice a6 l6 c6) (.slice ar4 m cr4)) _ rfl HM.out.2 rfl rfl (st_one _ _ _ _ _ _ _) ?_;intro w11 n11 k11))
  refine bodyPost_ret (resSt28 _ _ _ rfl rfl n11) rfl ?_
  obtain ⟨o9,b9⟩:=HE.out w11 k11
  rw [←HA.out,HER.out]
  exact ⟨⟨_,rfl,o9⟩,b9⟩
 ·have heb:(er != 0)=true:=by simpa using he
  have HER:=Hd.mk he
  clear he
  have HE:Hd (∀ wf,Kept (fun j=>j=A+1+1) w9 wf→Below A w wf):=⟨fun wf kf=>H9.out.1.trans (kf.below (by have:=H9.out;omega) (fun j e=>by omega))⟩
  go_upto_region 8 with fail
  rw [←hw9]
  clear hw9 y0 y1 y2 y3 y4
  go_wp2_with (refine wpl_storeSt rfl _ _ rfl (A+1+1) rfl (stB sZ (.slice none 0 0) (.slice none 0 0)) _ rfl H9.out.2.2.1 rfl rfl (st_one _ _ _ _ _ _ _) ?_;intro w11 n11 k11)
  refine bodyPost_ret (resSt28 _ _ _ rfl rfl n11) rfl ?_
  have b9:=HE.out w11 k11
  rw [←HA.out]
  exact ⟨⟨_,rfl,by rw [orZ_no HER.out];exact sZ_v S w11⟩,b9⟩
set_option maxRecDepth 20000 in
set_option maxHeartbeats 2000000 in
theorem rarr_full (s:St) (t:Tk) (ax:Option Addr) (cx:Nat) (ar:Option Addr) (cr:Nat) (ah:Option Addr) (nh ch:Nat) (w:World) (S:Nat→Prop) (hx:StR S w ax cx s.x.F) (hr:SlR w ar cr s.run) (hl:s.run.length≤1990) (hS:∀ j,S j→j<w.heap.size) (hf:Few s.x.F) (hq:s.q=false) (hk:s.lv.kind≠3) (hk1:s.lv.kind≠1) (hw:wtA s.x.F=0) (hb:ftB s t.wid=false) :
  Calls Tryz.prog 8 #[.agg (stB s (.slice ax s.x.F.length cx) (.slice ar s.run.length cr)),.agg #[.int .i64 t.id,.int .i64 t.wid,.int .i64 t.sts,.int .i64 t.sin,.int .i64 t.unt],.slice ah nh ch] w fun e w'=>(∃ v,e=.returned (.tuple #[v,.int .i64 (7)])∧StV S w' (sZ) v)∧Below w.heap.size w w':=by
 obtain ⟨w2,hw2⟩:∃ w2,w2=(((w.alloc (.cells (stB s (.slice ax s.x.F.length cx) (.slice ar s.run.length cr)) 34)).alloc (.cells #[.int .i64 t.id,.int .i64 t.wid,.int .i64 t.sts,.int .i64 t.sin,.int .i64 t.unt] 36)).alloc (.cells zsT 34)):=⟨_,rfl⟩
 have BX:=boxes3 w 34 36 34 (stB s (.slice ax s.x.F.length cx) (.slice ar s.run.length cr)) #[.int .i64 t.id,.int .i64 t.wid,.int .i64 t.sts,.int .i64 t.sin,.int .i64 t.unt] zsT
 rw [←hw2] at BX
 obtain ⟨B,N1,N2,N3⟩:=BX
 have hs2:w2.heap.size=w.heap.size+3:=by rw [hw2];simp
 obtain ⟨A,hA⟩:∃ A,A=w.heap.size:=⟨_,rfl⟩
 have HA:Hd (A=w.heap.size):=⟨hA⟩
 rw [←hA] at B N1 N2 N3 hs2
 have hBw:Below w.heap.size w w2:=by rw [←hA];exact B
 obtain ⟨n,hn⟩:∃ n,n=s.x.F.length:=⟨_,rfl⟩
 obtain ⟨m,hm⟩:∃ m,m=s.run.length:=⟨_,rfl⟩
 have HL:=Hd.mk (And.intro hn hm)
 have N3:Blk w2 (A+1+1) 34 (stB sZ (.slice none 0 0) (.slice none 0 0)):=N3
 have HSZ:Hd (∀ j,S j→j<A):=⟨fun j e=>by rw [hA];exact hS j e⟩
 have RC:=scopyr_ok s ax cx ar cr w2 ((hx.read (Kept.refl _ _)).carry hBw) hf (hr.carry hBw) (by omega)
 have HFW:=Hd.mk hf
 have HB:=Hd.mk (And.intro B (And.intro hs2 (And.intro N1 (And.intro N2 (And.intro N3 (And.intro (fun (W:World) (b:Below A w W)=>hx.sx (w2:=W) (B:=A+3) (by rw [←hA];exact b) hA) (fun (W:World) (b:Below A w W)=>hr.carry (w':=W) (by rw [←hA];exact b))))))))
 rw [←hn,← hm] at HB
 rw [←hn,← hm] at hw2 RC
 rw [←hn,← hm]
 have q10:w2.cell? ⟨A,10,none⟩=some (.bool false):=by rw [←hq];exact N1.cellv 10 rfl
 have hl':m≤1990:=by omega
 obtain ⟨nn,hnn⟩:∃ nn,nn=ftN s t.wid:=⟨_,rfl⟩
 have HNN:=Hd.mk (And.intro hnn hb)
 clear hnn hb
 clear N1 N2 N3 B hx hr hs2 hBw hl hf hn hm hS
 go_enter Tryz.func8,Tryz.ntmps8
 go_upto_region 1 with fail
 rw [←hw2]
 clear hw2
 rw [←hA]
 clear hA
 go_wp2_with (refine wpl_loadSt rfl _ rfl A rfl _ HB.out.2.2.1 rfl ?_)
 go_at_call 6
 refine RC.mono ?_
 rintro e w4 ⟨⟨v4,u4,rfl,o4⟩,b4⟩
 clear RC q10
 have hSx4:∀ j,Sx S A (A+3) j→j<w2.heap.size:=fun j e=>by have:=Sx.lt HSZ.out (by omega) j e (B:=A+3);have:=HB.out.2.1;omega
 obtain ⟨B2,hB2,⟨a4,c4,rfl,s4⟩,oR⟩:=o4.ex
 obtain ⟨ar4,cr4,rfl,t4⟩:=o4.tk hSx4
 rw [←HL.out.2] at oR
 rw [←HL.out.1,← HL.out.2]
 obtain ⟨w5,hw5⟩:∃ w5,w5=w4.alloc (.cells zsT 34):=⟨_,rfl⟩
 have B5:Below w4.heap.size w4 w5:=by rw [hw5];exact alloc_below _ _
 obtain ⟨qb,hqb⟩:∃ qb,qb=w4.heap.size:=⟨_,rfl⟩
 have P5:Blk w5 qb 34 (stB sZ (.slice none 0 0) (.slice none 0 0)):=by rw [hw5,hqb];exact Blk.new _ _ _
 have sx4:StR (Sx S A (A+3)) w4 ax cx s.x.F:=HB.out.2.2.2.2.2.1 w4 (HB.out.1.trans (b4.mono (by have:=HB.out.2.1;omega)))
 have H5:=Hd.mk (And.intro b4 (And.intro B5 (And.intro t4 (And.intro sx4 (And.intro s4 (And.intro oR (And.intro hB2 hqb)))))))
 clear b4 B5 s4 t4 o4 hSx4 sx4 oR hB2
 go_upto_region 4 with (rw [←hw5,← hqb];refine wpl_storeSt rfl _ _ rfl qb rfl (stB s (.slice a4 n c4) (.slice ar4 m cr4)) _ rfl P5 rfl rfl (st_one _ _ _ _ _ _ _) ?_;intro w6 n6 k6)
 have HQ:=Hd.mk hqb
 clear hw5 hqb P5
 (try rw [←HQ.out])
 have H6:Hd (Below A w w6∧Blk w6 A 34 (stB s (.slice ax n cx) (.slice ar m cr))∧Blk w6 (A+1) 36 (tkA t)∧Blk w6 (A+1+1) 34 (stB sZ (.slice none 0 0) (.slice none 0 0))∧(A+3≤qb∧qb<w6.heap.size)∧TkS (fun j=>Sx S A (A+3) j∨qb≤j) w6 ar4 cr4 s.run∧StR (fun j=>Sx S A (A+3) j∨qb≤j) w6 ax cx s.x.F∧(A+3≤B2∧B2≤qb)∧StR (fun j=>j<A+3∨B2≤j) w6 a4 c4 s.x.F∧OwnT w6 B2 (.slice ar4 m cr4) s.run∧(∀ j,(Value.slice ar4 m cr4).ownBlock=some j→j<qb)):=⟨by
  obtain ⟨b4,B5,t4,sx4,s4,oR,hB2,hqb⟩:=H5.out
  obtain ⟨h1,h2,h3,h4,h5,-⟩:=HB.out
  have z4:=b4.size
  have z5:=B5.size
  have bel:Below A w w6:=((h1.trans (b4.mono (by omega))).trans (B5.mono (by omega))).trans (k6.below (by omega) (fun j e=>by omega))
  have k26:Kept (fun j=>A+3≤j) w2 w6:=((Kept.of_below b4 _).trans (Kept.of_below B5 _)).trans (k6.mono (fun j _ e=>by omega))
  have k46:Kept (fun j=>j=qb) w4 w6:=(Kept.of_below B5 _).trans k6
  refine ⟨bel,h3.kept k26 (by omega),h4.kept k26 (by omega),h5.kept k26 (by omega),⟨by omega,n6.lt⟩,(t4.step (Kept.of_below B5 _) (T:=fun j=>Sx S A (A+3) j∨qb≤j) (fun j hj e=>e.elim id (fun e=>absurd e (by omega)))).step (k6.mono (fun j _ e=>Or.inr (by omega))) (fun _ _ e=>e),(sx4.stp (Kept.of_below B5 _) (T:=fun j=>Sx S A (A+3) j∨qb≤j) (fun j hj e=>e.elim id (fun e=>absurd e (by omega)))).stp (k6.mono (fun j _ e=>Or.inr (by omega))) (fun _ _ e=>e),⟨by omega,by omega⟩,s4.stp (k46.mono (fun j _ e=>Or.inr (by omega))) (fun j _ e=>by omega),oR.keptV k46 (fun j e1 e2=>by have:=(oR.lt j e1).2;omega),fun j e=>by have:=(oR.lt j e).2;omega⟩⟩
 have HN6:=Hd.mk (And.intro n6 H6.out.1)
 clear n6 k6 H5
 obtain ⟨⟨x0,x1,x2,x3,x4⟩,-⟩:=H6.out.2.1.stx
 have q1:w6.cell? ⟨A,1,none⟩=some (.int .i64 s.lv.kind):=H6.out.2.1.cellv 1 rfl
 have k1:(s.lv.kind == 3)=false:=by simpa using hk
 have k2:(s.lv.kind != 1)=true:=by simpa using hk1
 have WT:=rwaiting_ok s.x.r s.x.g s.x.n s.x.o ax cx s.x.F w6 (H6.out.2.2.2.2.2.2.1.read (Kept.refl _ _)) HFW.out
 rw [←HL.out.1] at WT
 unfold wtA at hw
 rw [←HL.out.1] at hw
 rw [hw] at WT
 clear hw
 go_upto_region 13 with (go_at_call 31;refine WT.mono ?_;rintro e w7 ⟨rfl,b7⟩)
 clear WT x0 x1 x2 x3 x4 q1
 have M1:=Hd.mk (H6.out.2.1.kept (Kept.of_below b7 (fun _=>False)) id)
 have T1:=H6.out.2.2.1.kept (Kept.of_below b7 (fun _=>False)) id
 obtain ⟨⟨d0,d1,d2,d3,d4⟩,-⟩:=T1.five
 have bw7:Below A w w7:=H6.out.1.trans (b7.mono (by have:=H6.out;omega))
 have FI:=rfits_ok s (.slice ax n cx) ar cr t.wid w7 (HB.out.2.2.2.2.2.2 w7 bw7) (by rw [←HL.out.2];omega)
 rw [←HL.out.2,← HNN.out.1,HNN.out.2] at FI
 have HB7:=Hd.mk (And.intro b7 (And.intro bw7 T1))
 clear b7 bw7 T1
 go_wp2_with (refine wpl_loadSt rfl _ rfl A rfl _ M1.out rfl ?_)
 go_at_call 24
 refine FI.mono ?_
 rintro e w8 ⟨rfl,b8⟩
 clear FI d0 d1 d2 d3 d4
 have H8:Hd (Below A w w8∧Below w6.heap.size w6 w8∧Blk w8 (A+1) 36 (tkA t)):=⟨by
  obtain ⟨h1,h2,h3⟩:=HB7.out
  have z:=h1.size
  have h6:=H6.out
  exact ⟨h2.trans (b8.mono (by omega)),h1.trans (b8.mono z),h3.kept (Kept.of_below b8 (fun _=>False)) id⟩⟩
 clear b8 HB7 M1
 have M3:=H6.out.2.2.2.1.kept (Kept.of_below H8.out.2.1 (fun _=>False)) id
 have HE:Hd (∀ w9,Kept (fun j=>j=A+1+1) w8 w9→Below A w w9):=⟨fun w9 k9=>H8.out.1.trans (k9.below (by have:=H6.out;have:=H8.out.2.1.size;omega) (fun j e=>by omega))⟩
 go_wp2_with (refine wpl_storeSt rfl _ _ rfl (A+1+1) rfl (stB sZ (.slice none 0 0) (.slice none 0 0)) _ rfl M3 rfl rfl (st_one _ _ _ _ _ _ _) ?_;intro w9 n9 k9)
 refine bodyPost_ret (resSt28 _ _ _ rfl rfl n9) rfl ?_
 have b9:=HE.out w9 k9
 rw [←HA.out]
 exact ⟨⟨_,rfl,sZ_v S w9⟩,b9⟩
set_option maxRecDepth 20000 in
set_option maxHeartbeats 2000000 in
theorem rarr_room (s:St) (t:Tk) (ax:Option Addr) (cx:Nat) (ar:Option Addr) (cr:Nat) (ah:Option Addr) (nh ch:Nat) (w:World) (S:Nat→Prop) (hx:StR S w ax cx s.x.F) (hr:SlR w ar cr s.run) (hl:s.run.length≤1990) (hS:∀ j,S j→j<w.heap.size) (hf:Few s.x.F) (hq:s.q=false) (hk:s.lv.kind≠3) (hk1:s.lv.kind≠1) (hw:wtA s.x.F=0) (hb:ftB s t.wid=true) :
  Calls Tryz.prog 8 #[.agg (stB s (.slice ax s.x.F.length cx) (.slice ar s.run.length cr)),.agg #[.int .i64 t.id,.int .i64 t.wid,.int .i64 t.sts,.int .i64 t.sin,.int .i64 t.unt],.slice ah nh ch] w fun e w'=>(∃ v,e=.returned (.tuple #[v,.int .i64 (0)])∧StV S w' ({ s with run:=s.run ++ [seated t (ftN s t.wid)] }) v)∧Below w.heap.size w w':=by
 obtain ⟨w2,hw2⟩:∃ w2,w2=(((w.alloc (.cells (stB s (.slice ax s.x.F.length cx) (.slice ar s.run.length cr)) 34)).alloc (.cells #[.int .i64 t.id,.int .i64 t.wid,.int .i64 t.sts,.int .i64 t.sin,.int .i64 t.unt] 36)).alloc (.cells zsT 34)):=⟨_,rfl⟩
 have BX:=boxes3 w 34 36 34 (stB s (.slice ax s.x.F.length cx) (.slice ar s.run.length cr)) #[.int .i64 t.id,.int .i64 t.wid,.int .i64 t.sts,.int .i64 t.sin,.int .i64 t.unt] zsT
 rw [←hw2] at BX
 obtain ⟨B,N1,N2,N3⟩:=BX
 have hs2:w2.heap.size=w.heap.size+3:=by rw [hw2];simp
 obtain ⟨A,hA⟩:∃ A,A=w.heap.size:=⟨_,rfl⟩
 have HA:Hd (A=w.heap.size):=⟨hA⟩
 rw [←hA] at B N1 N2 N3 hs2
 have hBw:Below w.heap.size w w2:=by rw [←hA];exact B
 obtain ⟨n,hn⟩:∃ n,n=s.x.F.length:=⟨_,rfl⟩
 obtain ⟨m,hm⟩:∃ m,m=s.run.length:=⟨_,rfl⟩
 have HL:=Hd.mk (And.intro hn hm)
 have N3:Blk w2 (A+1+1) 34 (stB sZ (.slice none 0 0) (.slice none 0 0)):=N3
 have HSZ:Hd (∀ j,S j→j<A):=⟨fun j e=>by rw [hA];exact hS j e⟩
 have RC:=scopyr_ok s ax cx ar cr w2 ((hx.read (Kept.refl _ _)).carry hBw) hf (hr.carry hBw) (by omega)
 have HFW:=Hd.mk hf
 have HB:=Hd.mk (And.intro B (And.intro hs2 (And.intro N1 (And.intro N2 (And.intro N3 (And.intro (fun (W:World) (b:Below A w W)=>hx.sx (w2:=W) (B:=A+3) (by rw [←hA];exact b) hA) (fun (W:World) (b:Below A w W)=>hr.carry (w':=W) (by rw [←hA];exact b))))))))
 rw [←hn,← hm] at HB
 rw [←hn,← hm] at hw2 RC
 rw [←hn,← hm]
 have q10:w2.cell? ⟨A,10,none⟩=some (.bool false):=by rw [←hq];exact N1.cellv 10 rfl
 have hl':m≤1990:=by omega
 obtain ⟨nn,hnn⟩:∃ nn,nn=ftN s t.wid:=⟨_,rfl⟩
 have HNN:=Hd.mk (And.intro hnn hb)
 rw [←hnn]
 clear hnn hb
 clear N1 N2 N3 B hx hr hs2 hBw hl hf hn hm hS
 go_enter Tryz.func8,Tryz.ntmps8
 go_upto_region 1 with fail
 rw [←hw2]
 clear hw2
 rw [←hA]
 clear hA
 go_wp2_with (refine wpl_loadSt rfl _ rfl A rfl _ HB.out.2.2.1 rfl ?_)
 go_at_call 6
 refine RC.mono ?_
 rintro e w4 ⟨⟨v4,u4,rfl,o4⟩,b4⟩
 clear RC q10
 have hSx4:∀ j,Sx S A (A+3) j→j<w2.heap.size:=fun j e=>by have:=Sx.lt HSZ.out (by omega) j e (B:=A+3);have:=HB.out.2.1;omega
 obtain ⟨B2,hB2,⟨a4,c4,rfl,s4⟩,oR⟩:=o4.ex
 obtain ⟨ar4,cr4,rfl,t4⟩:=o4.tk hSx4
 rw [←HL.out.2] at oR
 rw [←HL.out.1,← HL.out.2]
 obtain ⟨w5,hw5⟩:∃ w5,w5=w4.alloc (.cells zsT 34):=⟨_,rfl⟩
 have B5:Below w4.heap.size w4 w5:=by rw [hw5];exact alloc_below _ _
 obtain ⟨qb,hqb⟩:∃ qb,qb=w4.heap.size:=⟨_,rfl⟩
 have P5:Blk w5 qb 34 (stB sZ (.slice none 0 0) (.slice none 0 0)):=by rw [hw5,hqb];exact Blk.new _ _ _
 have sx4:StR (Sx S A (A+3)) w4 ax cx s.x.F:=HB.out.2.2.2.2.2.1 w4 (HB.out.1.trans (b4.mono (by have:=HB.out.2.1;omega)))
 have H5:=Hd.mk (And.intro b4 (And.intro B5 (And.intro t4 (And.intro sx4 (And.intro s4 (And.intro oR (And.intro hB2 hqb)))))))
 clear b4 B5 s4 t4 o4 hSx4 sx4 oR hB2
 go_upto_region 4 with (rw [←hw5,← hqb];refine wpl_storeSt rfl _ _ rfl qb rfl (stB s (.slice a4 n c4) (.slice ar4 m cr4)) _ rfl P5 rfl rfl (st_one _ _ _ _ _ _ _) ?_;intro w6 n6 k6)
 have HQ:=Hd.mk hqb
 clear hw5 hqb P5
 (try rw [←HQ.out])
 have H6:Hd (Below A w w6∧Blk w6 A 34 (stB s (.slice ax n cx) (.slice ar m cr))∧Blk w6 (A+1) 36 (tkA t)∧Blk w6 (A+1+1) 34 (stB sZ (.slice none 0 0) (.slice none 0 0))∧(A+3≤qb∧qb<w6.heap.size)∧TkS (fun j=>Sx S A (A+3) j∨qb≤j) w6 ar4 cr4 s.run∧StR (fun j=>Sx S A (A+3) j∨qb≤j) w6 ax cx s.x.F∧(A+3≤B2∧B2≤qb)∧StR (fun j=>j<A+3∨B2≤j) w6 a4 c4 s.x.F∧OwnT w6 B2 (.slice ar4 m cr4) s.run∧(∀ j,(Value.slice ar4 m cr4).ownBlock=some j→j<qb)):=⟨by
  obtain ⟨b4,B5,t4,sx4,s4,oR,hB2,hqb⟩:=H5.out
  obtain ⟨h1,h2,h3,h4,h5,-⟩:=HB.out
  have z4:=b4.size
  have z5:=B5.size
  have bel:Below A w w6:=((h1.trans (b4.mono (by omega))).trans (B5.mono (by omega))).trans (k6.below (by omega) (fun j e=>by omega))
  have k26:Kept (fun j=>A+3≤j) w2 w6:=((Kept.of_below b4 _).trans (Kept.of_below B5 _)).trans (k6.mono (fun j _ e=>by omega))
  have k46:Kept (fun j=>j=qb) w4 w6:=(Kept.of_below B5 _).trans k6
  refine ⟨bel,h3.kept k26 (by omega),h4.kept k26 (by omega),h5.kept k26 (by omega),⟨by omega,n6.lt⟩,(t4.step (Kept.of_below B5 _) (T:=fun j=>Sx S A (A+3) j∨qb≤j) (fun j hj e=>e.elim id (fun e=>absurd e (by omega)))).step (k6.mono (fun j _ e=>Or.inr (by omega))) (fun _ _ e=>e),(sx4.stp (Kept.of_below B5 _) (T:=fun j=>Sx S A (A+3) j∨qb≤j) (fun j hj e=>e.elim id (fun e=>absurd e (by omega)))).stp (k6.mono (fun j _ e=>Or.inr (by omega))) (fun _ _ e=>e),⟨by omega,by omega⟩,s4.stp (k46.mono (fun j _ e=>Or.inr (by omega))) (fun j _ e=>by omega),oR.keptV k46 (fun j e1 e2=>by have:=(oR.lt j e1).2;omega),fun j e=>by have:=(oR.lt j e).2;omega⟩⟩
 have HN6:=Hd.mk (And.intro n6 H6.out.1)
 clear n6 k6 H5
 obtain ⟨⟨x0,x1,x2,x3,x4⟩,-⟩:=H6.out.2.1.stx
 have q1:w6.cell? ⟨A,1,none⟩=some (.int .i64 s.lv.kind):=H6.out.2.1.cellv 1 rfl
 have k1:(s.lv.kind == 3)=false:=by simpa using hk
 have k2:(s.lv.kind != 1)=true:=by simpa using hk1
 have WT:=rwaiting_ok s.x.r s.x.g s.x.n s.x.o ax cx s.x.F w6 (H6.out.2.2.2.2.2.2.1.read (Kept.refl _ _)) HFW.out
 rw [←HL.out.1] at WT
 unfold wtA at hw
 rw [←HL.out.1] at hw
 rw [hw] at WT
 clear hw
 go_upto_region 13 with (go_at_call 31;refine WT.mono ?_;rintro e w7 ⟨rfl,b7⟩)
 clear WT x0 x1 x2 x3 x4 q1
 have M1:=Hd.mk (H6.out.2.1.kept (Kept.of_below b7 (fun _=>False)) id)
 have T1:=H6.out.2.2.1.kept (Kept.of_below b7 (fun _=>False)) id
 obtain ⟨⟨d0,d1,d2,d3,d4⟩,-⟩:=T1.five
 have bw7:Below A w w7:=H6.out.1.trans (b7.mono (by have:=H6.out;omega))
 have FI:=rfits_ok s (.slice ax n cx) ar cr t.wid w7 (HB.out.2.2.2.2.2.2 w7 bw7) (by rw [←HL.out.2];omega)
 rw [←HL.out.2,← HNN.out.1,HNN.out.2] at FI
 have HB7:=Hd.mk (And.intro b7 (And.intro bw7 T1))
 clear b7 bw7 T1
 go_wp2_with (refine wpl_loadSt rfl _ rfl A rfl _ M1.out rfl ?_)
 go_at_call 24
 refine FI.mono ?_
 rintro e w8 ⟨rfl,b8⟩
 clear FI d0 d1 d2 d3 d4
 have H8:Hd (Below A w w8∧Below w6.heap.size w6 w8∧Blk w8 (A+1) 36 (tkA t)):=⟨by
  obtain ⟨h1,h2,h3⟩:=HB7.out
  have z:=h1.size
  have h6:=H6.out
  exact ⟨h2.trans (b8.mono (by omega)),h1.trans (b8.mono z),h3.kept (Kept.of_below b8 (fun _=>False)) id⟩⟩
 clear b8 HB7 M1
 obtain ⟨⟨d0,d1,d2,d3,d4⟩,-,-,f2,-⟩:=H8.out.2.2.five
 have T9:Blk (w8.setCell ⟨A+1,2,none⟩ (.int .i64 nn)) (A+1) 36 (tkA (seated t nn)):=H8.out.2.2.set 2 (.int .i64 nn)
 have K9:Kept (fun j=>j=A+1) w8 (w8.setCell ⟨A+1,2,none⟩ (.int .i64 nn)):=(Kept.refl _ _).setCell _ _ (.inl rfl)
 have H9:=Hd.mk (And.intro T9 K9)
 clear T9 K9
 go_upto_region 17 with fail
 clear d0 d1 d2 d3 d4 f2
 generalize w8.setCell ⟨A+1,2,none⟩ (.int .i64 nn)=w9 at *
 have k69:Kept (fun j=>j=A+1) w6 w9:=(Kept.of_below H8.out.2.1 _).trans H9.out.2
 obtain ⟨⟨d0,d1,d2,d3,d4⟩,-⟩:=H9.out.1.five
 have g22:=(HN6.out.1.kept k69 (by have:=H6.out;omega)).str.1
 obtain ⟨w10,hw10⟩:∃ w10,w10=w9.alloc (.cells #[.int .i64 (seated t nn).id,.int .i64 (seated t nn).wid,.int .i64 (seated t nn).sts,.int .i64 (seated t nn).sin,.int .i64 (seated t nn).unt] 36):=⟨_,rfl⟩
 have B10:Below w9.heap.size w9 w10:=by rw [hw10];exact alloc_below _ _
 have T10:Blk w10 w9.heap.size 36 (tkA (seated t nn)):=by rw [hw10];exact Blk.new _ _ _
 have k610:Kept (fun j=>j=A+1) w6 w10:=k69.trans (Kept.of_below B10 _)
 have HT10:Hd (SlR w10 (some ⟨w9.heap.size,0,none⟩) 1 [seated t nn]∧OwnT w10 B2 (.slice ar4 m cr4) s.run∧B2≤w10.heap.size∧Kept (fun j=>j=A+1) w6 w10∧Blk w10 qb 34 (stB s (.slice a4 n c4) (.slice ar4 m cr4))):=⟨one_sl T10,H6.out.2.2.2.2.2.2.2.2.2.1.kept k610 (fun j hj e=>by have:=H6.out;omega),by have:=k610.size;have:=H6.out;omega,k610,HN6.out.1.kept k610 (by have:=H6.out;omega)⟩
 clear T10 B10 k610 k69
 go_upto_region 18 with (at_builtin;rw [←hw10];refine wpl_tks rfl _ _ rfl B2 _ s.run [seated t nn] rfl HT10.out.2.1 (some ⟨w9.heap.size,0,none⟩) 1 1 rfl rfl HT10.out.1 (by have:=HL.out.2;simp;omega) HT10.out.2.2.1 ?_;intro u11 w11 o11 g11;have K11:=Kept.of_grown g11 (S:=fun j=>(Value.slice ar4 m cr4).ownBlock=some j) (fun k e=>e);have M11:=HT10.out.2.2.2.2.kept K11 (fun e=>by have:=H6.out.2.2.2.2.2.2.2.2.2.2 _ e;omega);obtain ⟨r22,f22⟩:=M11.str;obtain ⟨l11,hl11⟩:∃ l11,l11=(s.run ++ [seated t nn]).length:=⟨_,rfl⟩;obtain ⟨a11,c11,e11,-⟩:=o11.read;rw [←hl11] at e11;subst e11;have HL11:Hd (l11=(s.run ++ [seated t nn]).length):=⟨hl11⟩;clear hl11)
 obtain ⟨Q12,K12⟩:=st_run M11 (s.run ++ [seated t nn]) (.slice a11 l11 c11)
 have HZ:Hd (∀ wf,Kept (fun j=>j=A+1+1) (w11.setCell ⟨qb,22,none⟩ (.slice a11 l11 c11)) wf→StV S wf { s with run:=s.run ++ [seated t nn] } (.agg (stB { s with run:=s.run ++ [seated t nn] } (.slice a4 n c4) (.slice a11 l11 c11)))∧Below A w wf):=⟨fun wf kf=>by
  obtain ⟨h1,h2,h3,h4,h5,h6,h7,h8,h9,h10,h11⟩:=H6.out
  obtain ⟨t1,t2,t3,t4,t5⟩:=HT10.out
  have hlo:∀ j,(Value.slice ar4 m cr4).ownBlock=some j→B2≤j:=fun j e=>(h10.lt j e).1
  have hn11:=HL11.out
  subst hn11
  have kk:Kept (fun j=>j<A+3∨B2≤j) w6 wf:=(((t4.mono (T:=fun j=>j<A+3∨B2≤j) (fun j _ e=>Or.inl (by omega))).trans (K11.mono (fun j _ e=>Or.inr (hlo j e)))).trans (K12.mono (fun j _ e=>Or.inr (by omega)))).trans (kf.mono (fun j _ e=>Or.inl (by omega)))
  have kb:Kept (fun j=>A≤j) w6 wf:=(((t4.mono (T:=fun j=>A≤j) (fun j _ e=>by omega)).trans (K11.mono (fun j _ e=>by have:=hlo j e;omega))).trans (K12.mono (fun j _ e=>by omega))).trans (kf.mono (fun j _ e=>by omega))
  have o12:=o11.keptV K12 (fun j e1 e2=>o11.off6 M11 (by rw [←e2];exact e1))
  obtain ⟨a',c',e',r'⟩:=(o12.kept kf (fun j hj e=>by omega)).ts (S:=S) (fun j hj e=>by have:=HSZ.out j e;omega)
  obtain ⟨rfl,-,rfl⟩:a11=a'∧True∧c11=c':=by injection e' with x1 x2 x3;exact ⟨x1,trivial,x3⟩
  exact ⟨⟨a4,c4,a11,c11,by rw [HL.out.1],h9.stp kk (fun j _ e=>Or.inl (by have:=HSZ.out j e;omega)),r'⟩,h1.trans (kb.below (by omega) (fun j e=>e))⟩⟩
 have HQ2:=Hd.mk (And.intro Q12 (((H6.out.2.2.2.1.kept HT10.out.2.2.2.1 (by omega)).kept K11 (fun e=>by have:=H6.out.2.2.2.2.2.2.2.2.2.1.lt _ e;have:=H6.out;omega)).kept K12 (by have:=H6.out;omega)))
 clear Q12 K12 M11 r22 f22 K11 g11 o11 g22 d0 d1 d2 d3 d4
 generalize w11.setCell ⟨qb,22,none⟩ (.slice a11 l11 c11)=w12 at *
 go_wp2_with (first | (refine wpl_loadSt rfl _ rfl qb rfl _ HQ2.out.1 rfl ?_) | (refine wpl_storeSt rfl _ _ rfl (A+1+1) rfl (stB { s with run:=s.run ++ [seated t nn] } (.slice a4 n c4) (.slice a11 l11 c11)) _ rfl HQ2.out.2 rfl rfl (st_one _ _ _ _ _ _ _) ?_;intro w13 n13 k13))
 refine bodyPost_ret (resSt28 _ _ _ rfl rfl n13) rfl ?_
 obtain ⟨o13,b13⟩:=HZ.out w13 k13
 rw [←HA.out]
 exact ⟨⟨_,rfl,o13⟩,b13⟩
set_option maxRecDepth 20000 in
set_option maxHeartbeats 2000000 in
theorem rarr_exempt (s:St) (t:Tk) (ax:Option Addr) (cx:Nat) (ar:Option Addr) (cr:Nat) (ah:Option Addr) (nh ch:Nat) (w:World) (S:Nat→Prop) (hx:StR S w ax cx s.x.F) (hr:SlR w ar cr s.run) (hl:s.run.length≤1990) (hS:∀ j,S j→j<w.heap.size) (hf:Few s.x.F) (hq:s.q=false) (hk1:Hd (s.lv.kind=1)) (hb:ftB s t.wid=true) :
  Calls Tryz.prog 8 #[.agg (stB s (.slice ax s.x.F.length cx) (.slice ar s.run.length cr)),.agg #[.int .i64 t.id,.int .i64 t.wid,.int .i64 t.sts,.int .i64 t.sin,.int .i64 t.unt],.slice ah nh ch] w fun e w'=>(∃ v,e=.returned (.tuple #[v,.int .i64 (0)])∧StV S w' ({ s with run:=s.run ++ [seated t (ftN s t.wid)] }) v)∧Below w.heap.size w w':=by
 obtain ⟨w2,hw2⟩:∃ w2,w2=(((w.alloc (.cells (stB s (.slice ax s.x.F.length cx) (.slice ar s.run.length cr)) 34)).alloc (.cells #[.int .i64 t.id,.int .i64 t.wid,.int .i64 t.sts,.int .i64 t.sin,.int .i64 t.unt] 36)).alloc (.cells zsT 34)):=⟨_,rfl⟩
 have BX:=boxes3 w 34 36 34 (stB s (.slice ax s.x.F.length cx) (.slice ar s.run.length cr)) #[.int .i64 t.id,.int .i64 t.wid,.int .i64 t.sts,.int .i64 t.sin,.int .i64 t.unt] zsT
 rw [←hw2] at BX
 obtain ⟨B,N1,N2,N3⟩:=BX
 have hs2:w2.heap.size=w.heap.size+3:=by rw [hw2];simp
 obtain ⟨A,hA⟩:∃ A,A=w.heap.size:=⟨_,rfl⟩
 have HA:Hd (A=w.heap.size):=⟨hA⟩
 rw [←hA] at B N1 N2 N3 hs2
 have hBw:Below w.heap.size w w2:=by rw [←hA];exact B
 obtain ⟨n,hn⟩:∃ n,n=s.x.F.length:=⟨_,rfl⟩
 obtain ⟨m,hm⟩:∃ m,m=s.run.length:=⟨_,rfl⟩
 have HL:=Hd.mk (And.intro hn hm)
 have N3:Blk w2 (A+1+1) 34 (stB sZ (.slice none 0 0) (.slice none 0 0)):=N3
 have HSZ:Hd (∀ j,S j→j<A):=⟨fun j e=>by rw [hA];exact hS j e⟩
 have RC:=scopyr_ok s ax cx ar cr w2 ((hx.read (Kept.refl _ _)).carry hBw) hf (hr.carry hBw) (by omega)
 have HFW:=Hd.mk hf
 have HB:=Hd.mk (And.intro B (And.intro hs2 (And.intro N1 (And.intro N2 (And.intro N3 (And.intro (fun (W:World) (b:Below A w W)=>hx.sx (w2:=W) (B:=A+3) (by rw [←hA];exact b) hA) (fun (W:World) (b:Below A w W)=>hr.carry (w':=W) (by rw [←hA];exact b))))))))
 rw [←hn,← hm] at HB
 rw [←hn,← hm] at hw2 RC
 rw [←hn,← hm]
 have q10:w2.cell? ⟨A,10,none⟩=some (.bool false):=by rw [←hq];exact N1.cellv 10 rfl
 have hl':m≤1990:=by omega
 obtain ⟨nn,hnn⟩:∃ nn,nn=ftN s t.wid:=⟨_,rfl⟩
 have HNN:=Hd.mk (And.intro hnn hb)
 rw [←hnn]
 clear hnn hb
 clear N1 N2 N3 B hx hr hs2 hBw hl hf hn hm hS
 go_enter Tryz.func8,Tryz.ntmps8
 go_upto_region 1 with fail
 rw [←hw2]
 clear hw2
 rw [←hA]
 clear hA
 go_wp2_with (refine wpl_loadSt rfl _ rfl A rfl _ HB.out.2.2.1 rfl ?_)
 go_at_call 6
 refine RC.mono ?_
 rintro e w4 ⟨⟨v4,u4,rfl,o4⟩,b4⟩
 clear RC q10
 have hSx4:∀ j,Sx S A (A+3) j→j<w2.heap.size:=fun j e=>by have:=Sx.lt HSZ.out (by omega) j e (B:=A+3);have:=HB.out.2.1;omega
 obtain ⟨B2,hB2,⟨a4,c4,rfl,s4⟩,oR⟩:=o4.ex
 obtain ⟨ar4,cr4,rfl,t4⟩:=o4.tk hSx4
 rw [←HL.out.2] at oR
 rw [←HL.out.1,← HL.out.2]
 obtain ⟨w5,hw5⟩:∃ w5,w5=w4.alloc (.cells zsT 34):=⟨_,rfl⟩
 have B5:Below w4.heap.size w4 w5:=by rw [hw5];exact alloc_below _ _
 obtain ⟨qb,hqb⟩:∃ qb,qb=w4.heap.size:=⟨_,rfl⟩
 have P5:Blk w5 qb 34 (stB sZ (.slice none 0 0) (.slice none 0 0)):=by rw [hw5,hqb];exact Blk.new _ _ _
 have sx4:StR (Sx S A (A+3)) w4 ax cx s.x.F:=HB.out.2.2.2.2.2.1 w4 (HB.out.1.trans (b4.mono (by have:=HB.out.2.1;omega)))
 have H5:=Hd.mk (And.intro b4 (And.intro B5 (And.intro t4 (And.intro sx4 (And.intro s4 (And.intro oR (And.intro hB2 hqb)))))))
 clear b4 B5 s4 t4 o4 hSx4 sx4 oR hB2
 go_upto_region 4 with (rw [←hw5,← hqb];refine wpl_storeSt rfl _ _ rfl qb rfl (stB s (.slice a4 n c4) (.slice ar4 m cr4)) _ rfl P5 rfl rfl (st_one _ _ _ _ _ _ _) ?_;intro w6 n6 k6)
 have HQ:=Hd.mk hqb
 clear hw5 hqb P5
 (try rw [←HQ.out])
 have H6:Hd (Below A w w6∧Blk w6 A 34 (stB s (.slice ax n cx) (.slice ar m cr))∧Blk w6 (A+1) 36 (tkA t)∧Blk w6 (A+1+1) 34 (stB sZ (.slice none 0 0) (.slice none 0 0))∧(A+3≤qb∧qb<w6.heap.size)∧TkS (fun j=>Sx S A (A+3) j∨qb≤j) w6 ar4 cr4 s.run∧StR (fun j=>Sx S A (A+3) j∨qb≤j) w6 ax cx s.x.F∧(A+3≤B2∧B2≤qb)∧StR (fun j=>j<A+3∨B2≤j) w6 a4 c4 s.x.F∧OwnT w6 B2 (.slice ar4 m cr4) s.run∧(∀ j,(Value.slice ar4 m cr4).ownBlock=some j→j<qb)):=⟨by
  obtain ⟨b4,B5,t4,sx4,s4,oR,hB2,hqb⟩:=H5.out
  obtain ⟨h1,h2,h3,h4,h5,-⟩:=HB.out
  have z4:=b4.size
  have z5:=B5.size
  have bel:Below A w w6:=((h1.trans (b4.mono (by omega))).trans (B5.mono (by omega))).trans (k6.below (by omega) (fun j e=>by omega))
  have k26:Kept (fun j=>A+3≤j) w2 w6:=((Kept.of_below b4 _).trans (Kept.of_below B5 _)).trans (k6.mono (fun j _ e=>by omega))
  have k46:Kept (fun j=>j=qb) w4 w6:=(Kept.of_below B5 _).trans k6
  refine ⟨bel,h3.kept k26 (by omega),h4.kept k26 (by omega),h5.kept k26 (by omega),⟨by omega,n6.lt⟩,(t4.step (Kept.of_below B5 _) (T:=fun j=>Sx S A (A+3) j∨qb≤j) (fun j hj e=>e.elim id (fun e=>absurd e (by omega)))).step (k6.mono (fun j _ e=>Or.inr (by omega))) (fun _ _ e=>e),(sx4.stp (Kept.of_below B5 _) (T:=fun j=>Sx S A (A+3) j∨qb≤j) (fun j hj e=>e.elim id (fun e=>absurd e (by omega)))).stp (k6.mono (fun j _ e=>Or.inr (by omega))) (fun _ _ e=>e),⟨by omega,by omega⟩,s4.stp (k46.mono (fun j _ e=>Or.inr (by omega))) (fun j _ e=>by omega),oR.keptV k46 (fun j e1 e2=>by have:=(oR.lt j e1).2;omega),fun j e=>by have:=(oR.lt j e).2;omega⟩⟩
 have HN6:=Hd.mk (And.intro n6 H6.out.1)
 clear n6 k6 H5
 obtain ⟨⟨x0,x1,x2,x3,x4⟩,-⟩:=H6.out.2.1.stx
 have q1:w6.cell? ⟨A,1,none⟩=some (.int .i64 1):=by rw [←hk1.out];exact H6.out.2.1.cellv 1 rfl
 obtain ⟨w7,hw7⟩:∃ w7,w7=w6:=⟨_,rfl⟩
 have b7:Below w6.heap.size w6 w7:=by rw [hw7];exact Below.refl _ _
 go_upto_region 13 with fail
 rw [←hw7]
 clear hw7 x0 x1 x2 x3 x4 q1
 have M1:=Hd.mk (H6.out.2.1.kept (Kept.of_below b7 (fun _=>False)) id)
 have T1:=H6.out.2.2.1.kept (Kept.of_below b7 (fun _=>False)) id
 obtain ⟨⟨d0,d1,d2,d3,d4⟩,-⟩:=T1.five
 have bw7:Below A w w7:=H6.out.1.trans (b7.mono (by have:=H6.out;omega))
 have FI:=rfits_ok s (.slice ax n cx) ar cr t.wid w7 (HB.out.2.2.2.2.2.2 w7 bw7) (by rw [←HL.out.2];omega)
 rw [←HL.out.2,← HNN.out.1,HNN.out.2] at FI
 have HB7:=Hd.mk (And.intro b7 (And.intro bw7 T1))
 clear b7 bw7 T1
 go_wp2_with (refine wpl_loadSt rfl _ rfl A rfl _ M1.out rfl ?_)
 go_at_call 24
 refine FI.mono ?_
 rintro e w8 ⟨rfl,b8⟩
 clear FI d0 d1 d2 d3 d4
 have H8:Hd (Below A w w8∧Below w6.heap.size w6 w8∧Blk w8 (A+1) 36 (tkA t)):=⟨by
  obtain ⟨h1,h2,h3⟩:=HB7.out
  have z:=h1.size
  have h6:=H6.out
  exact ⟨h2.trans (b8.mono (by omega)),h1.trans (b8.mono z),h3.kept (Kept.of_below b8 (fun _=>False)) id⟩⟩
 clear b8 HB7 M1
 obtain ⟨⟨d0,d1,d2,d3,d4⟩,-,-,f2,-⟩:=H8.out.2.2.five
 have T9:Blk (w8.setCell ⟨A+1,2,none⟩ (.int .i64 nn)) (A+1) 36 (tkA (seated t nn)):=H8.out.2.2.set 2 (.int .i64 nn)
 have K9:Kept (fun j=>j=A+1) w8 (w8.setCell ⟨A+1,2,none⟩ (.int .i64 nn)):=(Kept.refl _ _).setCell _ _ (.inl rfl)
 have H9:=Hd.mk (And.intro T9 K9)
 clear T9 K9
 go_upto_region 17 with fail
 clear d0 d1 d2 d3 d4 f2
 generalize w8.setCell ⟨A+1,2,none⟩ (.int .i64 nn)=w9 at *
 have k69:Kept (fun j=>j=A+1) w6 w9:=(Kept.of_below H8.out.2.1 _).trans H9.out.2
 obtain ⟨⟨d0,d1,d2,d3,d4⟩,-⟩:=H9.out.1.five
 have g22:=(HN6.out.1.kept k69 (by have:=H6.out;omega)).str.1
 obtain ⟨w10,hw10⟩:∃ w10,w10=w9.alloc (.cells #[.int .i64 (seated t nn).id,.int .i64 (seated t nn).wid,.int .i64 (seated t nn).sts,.int .i64 (seated t nn).sin,.int .i64 (seated t nn).unt] 36):=⟨_,rfl⟩
 have B10:Below w9.heap.size w9 w10:=by rw [hw10];exact alloc_below _ _
 have T10:Blk w10 w9.heap.size 36 (tkA (seated t nn)):=by rw [hw10];exact Blk.new _ _ _
 have k610:Kept (fun j=>j=A+1) w6 w10:=k69.trans (Kept.of_below B10 _)
 have HT10:Hd (SlR w10 (some ⟨w9.heap.size,0,none⟩) 1 [seated t nn]∧OwnT w10 B2 (.slice ar4 m cr4) s.run∧B2≤w10.heap.size∧Kept (fun j=>j=A+1) w6 w10∧Blk w10 qb 34 (stB s (.slice a4 n c4) (.slice ar4 m cr4))):=⟨one_sl T10,H6.out.2.2.2.2.2.2.2.2.2.1.kept k610 (fun j hj e=>by have:=H6.out;omega),by have:=k610.size;have:=H6.out;omega,k610,HN6.out.1.kept k610 (by have:=H6.out;omega)⟩
 clear T10 B10 k610 k69
 go_upto_region 18 with (at_builtin;rw [←hw10];refine wpl_tks rfl _ _ rfl B2 _ s.run [seated t nn] rfl HT10.out.2.1 (some ⟨w9.heap.size,0,none⟩) 1 1 rfl rfl HT10.out.1 (by have:=HL.out.2;simp;omega) HT10.out.2.2.1 ?_;intro u11 w11 o11 g11;have K11:=Kept.of_grown g11 (S:=fun j=>(Value.slice ar4 m cr4).ownBlock=some j) (fun k e=>e);have M11:=HT10.out.2.2.2.2.kept K11 (fun e=>by have:=H6.out.2.2.2.2.2.2.2.2.2.2 _ e;omega);obtain ⟨r22,f22⟩:=M11.str;obtain ⟨l11,hl11⟩:∃ l11,l11=(s.run ++ [seated t nn]).length:=⟨_,rfl⟩;obtain ⟨a11,c11,e11,-⟩:=o11.read;rw [←hl11] at e11;subst e11;have HL11:Hd (l11=(s.run ++ [seated t nn]).length):=⟨hl11⟩;clear hl11)
 obtain ⟨Q12,K12⟩:=st_run M11 (s.run ++ [seated t nn]) (.slice a11 l11 c11)
 have HZ:Hd (∀ wf,Kept (fun j=>j=A+1+1) (w11.setCell ⟨qb,22,none⟩ (.slice a11 l11 c11)) wf→StV S wf { s with run:=s.run ++ [seated t nn] } (.agg (stB { s with run:=s.run ++ [seated t nn] } (.slice a4 n c4) (.slice a11 l11 c11)))∧Below A w wf):=⟨fun wf kf=>by
  obtain ⟨h1,h2,h3,h4,h5,h6,h7,h8,h9,h10,h11⟩:=H6.out
  obtain ⟨t1,t2,t3,t4,t5⟩:=HT10.out
  have hlo:∀ j,(Value.slice ar4 m cr4).ownBlock=some j→B2≤j:=fun j e=>(h10.lt j e).1
  have hn11:=HL11.out
  subst hn11
  have kk:Kept (fun j=>j<A+3∨B2≤j) w6 wf:=(((t4.mono (T:=fun j=>j<A+3∨B2≤j) (fun j _ e=>Or.inl (by omega))).trans (K11.mono (fun j _ e=>Or.inr (hlo j e)))).trans (K12.mono (fun j _ e=>Or.inr (by omega)))).trans (kf.mono (fun j _ e=>Or.inl (by omega)))
  have kb:Kept (fun j=>A≤j) w6 wf:=(((t4.mono (T:=fun j=>A≤j) (fun j _ e=>by omega)).trans (K11.mono (fun j _ e=>by have:=hlo j e;omega))).trans (K12.mono (fun j _ e=>by omega))).trans (kf.mono (fun j _ e=>by omega))
  have o12:=o11.keptV K12 (fun j e1 e2=>o11.off6 M11 (by rw [←e2];exact e1))
  obtain ⟨a',c',e',r'⟩:=(o12.kept kf (fun j hj e=>by omega)).ts (S:=S) (fun j hj e=>by have:=HSZ.out j e;omega)
  obtain ⟨rfl,-,rfl⟩:a11=a'∧True∧c11=c':=by injection e' with x1 x2 x3;exact ⟨x1,trivial,x3⟩
  exact ⟨⟨a4,c4,a11,c11,by rw [HL.out.1],h9.stp kk (fun j _ e=>Or.inl (by have:=HSZ.out j e;omega)),r'⟩,h1.trans (kb.below (by omega) (fun j e=>e))⟩⟩
 have HQ2:=Hd.mk (And.intro Q12 (((H6.out.2.2.2.1.kept HT10.out.2.2.2.1 (by omega)).kept K11 (fun e=>by have:=H6.out.2.2.2.2.2.2.2.2.2.1.lt _ e;have:=H6.out;omega)).kept K12 (by have:=H6.out;omega)))
 clear Q12 K12 M11 r22 f22 K11 g11 o11 g22 d0 d1 d2 d3 d4
 generalize w11.setCell ⟨qb,22,none⟩ (.slice a11 l11 c11)=w12 at *
 go_wp2_with (first | (refine wpl_loadSt rfl _ rfl qb rfl _ HQ2.out.1 rfl ?_) | (refine wpl_storeSt rfl _ _ rfl (A+1+1) rfl (stB { s with run:=s.run ++ [seated t nn] } (.slice a4 n c4) (.slice a11 l11 c11)) _ rfl HQ2.out.2 rfl rfl (st_one _ _ _ _ _ _ _) ?_;intro w13 n13 k13))
 refine bodyPost_ret (resSt28 _ _ _ rfl rfl n13) rfl ?_
 obtain ⟨o13,b13⟩:=HZ.out w13 k13
 rw [←HA.out]
 exact ⟨⟨_,rfl,o13⟩,b13⟩
end Go.Proofs.YtlgibnmoogbdcaaGreat
