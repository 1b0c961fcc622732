/-
  Somebody comes to a level, by the program.
  Somebody comes to a level, and fits, by the program.
-/
import Derived.Test.YtlgibnmoogbdcaaGreatR31
namespace Go.Proofs.YtlgibnmoogbdcaaGreat
open Go.RowKit
theorem StO.str {w:World} {B:Nat} {s:St} {v u:Value} (h:StO w B s v u):∃ a c,v=.slice a s.x.F.length c∧StR (fun j=>u.ownBlock=some j∨j<B) w a c s.x.F:=by
 obtain ⟨⟨Z,hZ,ho,hz,-,hd⟩,hr⟩:=h
 have hrow:∀ j,v.ownBlock=some j→¬ (u.ownBlock=some j∨j<B):=fun j e q=>by
  rcases q with q | q
  ·rcases ho.2 with ⟨rfl,-⟩ | ⟨g,cap,cur,rfl,-,hg,-⟩
   ·cases e
   ·rcases hr.2 with ⟨rfl,-⟩ | ⟨g',cap',cur',rfl,-,hg',-⟩
    ·cases q
    ·have e:g=j:=by injection e
     have q:g'=j:=by injection q
     subst e
     subst q
     rw [hg] at hg'
     injection hg' with x
     injection x with x1 x2 x3
     cases x2
  ·have:=(ho.lt j e).1
   omega
 rcases id ho.2 with ⟨rfl,e⟩ | ⟨g,cap,cur,rfl,hb,hg,hc,r⟩
 ·have:s.x.F=[]:=List.eq_nil_of_length_eq_zero e
  refine ⟨none,0,by rw [this];rfl,?_⟩
  rw [this]
  exact StR.nil _ _
 ·refine ⟨some ⟨g,0,none⟩,cap,rfl,hc,(fun e=>by cases e),Z,hZ,fun W k=>⟨fun _=>?_,fun z hzm=>?_⟩⟩
  ·have ho':=ownsRow_kept ho k hrow
   refine ⟨g,0,rfl,(ho'.lt g rfl).2,fun j u hj=>?_⟩
   have:=ho'.cells rfl j u hj
   rw [Go.WideShapes.add_plain] at this
   exact this
  ·have q:OwnT W B z.2 z.1.L:=ownsRow_kept (hz z hzm) k (fun j e q=>by
    rcases q with q | q
    ·exact hd z hzm j e q
    ·have:=((hz z hzm).lt j e).1
     omega)
   exact q.lz
theorem one_sl {w:World} {g:Nat} {t:Tk} (h:Blk w g 36 (tkA t)):SlR w (some ⟨g,0,none⟩) 1 [t] :=
 ⟨Nat.le_refl _,(fun e=>by cases e),fun _=>⟨g,0,rfl,h.lt,fun j u hj=>by
  rw [Nat.zero_add,h.cell]
  simpa [tkCs,tkC,tkA] using hj⟩⟩
theorem ftB_exempt {s:St} (h:s.lv.kind=1) (wd:Int):ftB s wd=true:=if_pos h
set_option maxRecDepth 20000 in
set_option maxHeartbeats 2000000 in
theorem arrive_quiet (s:St) (t:Tk) (ax:Option Addr) (cx:Nat) (ar:Option Addr) (cr:Nat) (ah:Option Addr) (nh ch:Nat) (w:World) (S:Nat→Prop) (hq:s.q=true) :
  Calls Tryz.prog 7 #[.agg (stB s (.slice ax s.x.F.length cx) (.slice ar s.run.length cr)),.agg #[.int .i64 t.id,.int .i64 t.wid,.int .i64 t.sts,.int .i64 t.sin,.int .i64 t.unt],.slice ah nh ch] w fun e w'=>(∃ v,e=.returned (.tuple #[v,.int .i64 (9)])∧StV S w' (sZ) v)∧Below w.heap.size w w':=by
 obtain ⟨w2,hw2⟩:∃ w2,w2=(((w.alloc (.cells (stB s (.slice ax s.x.F.length cx) (.slice ar s.run.length cr)) 34)).alloc (.cells #[.int .i64 t.id,.int .i64 t.wid,.int .i64 t.sts,.int .i64 t.sin,.int .i64 t.unt] 36)).alloc (.cells zsT 34)):=⟨_,rfl⟩
 have BX:=boxes3 w 34 36 34 (stB s (.slice ax s.x.F.length cx) (.slice ar s.run.length cr)) #[.int .i64 t.id,.int .i64 t.wid,.int .i64 t.sts,.int .i64 t.sin,.int .i64 t.unt] zsT
 rw [←hw2] at BX
 obtain ⟨B,N1,N2,N3⟩:=BX
 have hs2:w2.heap.size=w.heap.size+3:=by rw [hw2];simp
 obtain ⟨A,hA⟩:∃ A,A=w.heap.size:=⟨_,rfl⟩
 have HA:Hd (A=w.heap.size):=⟨hA⟩
 rw [←hA] at B N1 N2 N3 hs2
 have hBw:Below w.heap.size w w2:=by rw [←hA];exact B
 have q10:w2.cell? ⟨A,10,none⟩=some (.bool true):=by rw [←hq];exact N1.cellv 10 rfl
 have HE:Hd (∀ w9,Kept (fun j=>j=A+1+1) w2 w9→Below A w w9):=⟨fun w9 k9=>B.trans (k9.below (by omega) (fun j e=>by omega))⟩
 have HB:Hd (Blk w2 A 34 (stB s (.slice ax s.x.F.length cx) (.slice ar s.run.length cr))):=⟨N1⟩
 have M3:Blk w2 (A+1+1) 34 (stB sZ (.slice none 0 0) (.slice none 0 0)):=N3
 clear B N1 N2 N3 hBw
 go_enter Tryz.func7,Tryz.ntmps7
 go_upto_region 1 with fail
 rw [←hw2]
 clear hw2
 rw [←hA]
 clear hA
 go_wp2_with (refine wpl_storeSt rfl _ _ rfl (A+1+1) rfl (stB sZ (.slice none 0 0) (.slice none 0 0)) _ rfl M3 rfl rfl (st_one _ _ _ _ _ _ _) ?_;intro w9 n9 k9)
 refine bodyPost_ret (resSt19 _ _ _ rfl rfl n9) rfl ?_
 have b9:=HE.out w9 k9
 rw [←HA.out]
 exact ⟨⟨_,rfl,sZ_v S w9⟩,b9⟩
set_option maxRecDepth 20000 in
set_option maxHeartbeats 2000000 in
theorem arrive_queue (s:St) (t:Tk) (ax:Option Addr) (cx:Nat) (ar:Option Addr) (cr:Nat) (ah:Option Addr) (nh ch:Nat) (w:World) (S:Nat→Prop) (H0:Nat→Int) (hh:HnR w ah nh H0) (hnh:nh≤1000) (hx:StR S w ax cx s.x.F) (hr:SlR w ar cr s.run) (hl:s.run.length≤1990) (hS:∀ j,S j→j<w.heap.size) (hf:Few s.x.F) (hq:s.q=false) (hk:s.lv.kind=3) :
  Calls Tryz.prog 7 #[.agg (stB s (.slice ax s.x.F.length cx) (.slice ar s.run.length cr)),.agg #[.int .i64 t.id,.int .i64 t.wid,.int .i64 t.sts,.int .i64 t.sin,.int .i64 t.unt],.slice ah nh ch] w fun e w'=>(∃ v,e=.returned (.tuple #[v,.int .i64 (jnE s.x (chF s.x.F s.x.o H0 nh))])∧StV S w' (orZ (jnE s.x (chF s.x.F s.x.o H0 nh)) { s with x:=jnX s.x (chF s.x.F s.x.o H0 nh) (seated t 0) }) v)∧Below w.heap.size w w':=by
 obtain ⟨w2,hw2⟩:∃ w2,w2=(((w.alloc (.cells (stB s (.slice ax s.x.F.length cx) (.slice ar s.run.length cr)) 34)).alloc (.cells #[.int .i64 t.id,.int .i64 t.wid,.int .i64 t.sts,.int .i64 t.sin,.int .i64 t.unt] 36)).alloc (.cells zsT 34)):=⟨_,rfl⟩
 have BX:=boxes3 w 34 36 34 (stB s (.slice ax s.x.F.length cx) (.slice ar s.run.length cr)) #[.int .i64 t.id,.int .i64 t.wid,.int .i64 t.sts,.int .i64 t.sin,.int .i64 t.unt] zsT
 rw [←hw2] at BX
 obtain ⟨B,N1,N2,N3⟩:=BX
 have hs2:w2.heap.size=w.heap.size+3:=by rw [hw2];simp
 obtain ⟨A,hA⟩:∃ A,A=w.heap.size:=⟨_,rfl⟩
 have HA:Hd (A=w.heap.size):=⟨hA⟩
 rw [←hA] at B N1 N2 N3 hs2
 have hBw:Below w.heap.size w w2:=by rw [←hA];exact B
 have q10:w2.cell? ⟨A,10,none⟩=some (.bool false):=by rw [←hq];exact N1.cellv 10 rfl
 have q1:w2.cell? ⟨A,1,none⟩=some (.int .i64 3):=by rw [←hk];exact N1.cellv 1 rfl
 obtain ⟨⟨d0,d1,d2,d3,d4⟩,-⟩:=Blk.five N2
 have hx2:StR (Sx S A (A+3)) w2 ax cx s.x.F:=hx.sx hBw hA
 have WA:=wait_ok s t ax cx ar cr ah nh ch H0 w2 (Sx S A (A+3)) hx2 (hr.carry hBw) (by rw [hs2];exact Sx.lt (by rw [hA];exact hS) (by omega)) hf (by omega) (hh.carry hBw) hnh
 have HB:Hd (Blk w2 A 34 (stB s (.slice ax s.x.F.length cx) (.slice ar s.run.length cr))∧Below A w w2∧w2.heap.size=A+3):=⟨N1,B,hs2⟩
 have M3':Hd (Blk w2 (A+1+1) 34 (stB sZ (.slice none 0 0) (.slice none 0 0))):=⟨N3⟩
 clear B N1 N2 N3 hx hr hh hf hBw hx2
 generalize orZ (jnE s.x (chF s.x.F s.x.o H0 nh)) { s with x:=jnX s.x (chF s.x.F s.x.o H0 nh) (seated t 0) } = y at *
 generalize jnE s.x (chF s.x.F s.x.o H0 nh)=er at *
 go_enter Tryz.func7,Tryz.ntmps7
 go_upto_region 1 with fail
 rw [←hw2]
 clear hw2
 rw [←hA]
 clear hA
 go_wp2_with (refine wpl_loadSt rfl _ rfl A rfl _ HB.out.1 rfl ?_)
 go_at_call 33
 refine WA.mono ?_
 rintro e w5 ⟨⟨v5,rfl,a5,c5,ar5,cr5,rfl,s5,t5⟩,b5⟩
 have M3:Blk w5 (A+1+1) 34 (stB sZ (.slice none 0 0) (.slice none 0 0)):=M3'.out.kept (Kept.of_below b5 (fun _=>False)) id
 have HE:Hd (∀ w9,Kept (fun j=>j=A+1+1) w5 w9→StV S w9 y (.agg (stB y (.slice a5 y.x.F.length c5) (.slice ar5 y.run.length cr5)))∧Below A w w9):=⟨fun w9 k9=>by
  have hs:=HB.out.2.2
  have hs7:=b5.size
  have kk:=k9.mono (T:=Sx S A (A+3)) (fun j _ e=>.inr ⟨by omega,by omega⟩)
  exact ⟨⟨a5,c5,ar5,cr5,rfl,s5.stp kk (T:=S) (fun j _ e=>.inl e),t5.step kk (T:=S) (fun j _ e=>.inl e)⟩,(HB.out.2.1.trans (b5.mono (by omega))).trans (k9.below (by omega) (fun j e=>by omega))⟩⟩
 clear WA s5 t5 b5 d0 d1 d2 d3 d4 q1 q10
 go_wp2_with (refine wpl_storeSt rfl _ _ rfl (A+1+1) rfl (stB y (.slice a5 y.x.F.length c5) (.slice ar5 y.run.length cr5)) _ rfl M3 rfl rfl (st_one _ _ _ _ _ _ _) ?_;intro w9 n9 k9)
 refine bodyPost_ret (resSt19 _ _ _ rfl rfl n9) rfl ?_
 obtain ⟨o9,b9⟩:=HE.out w9 k9
 rw [←HA.out]
 exact ⟨⟨_,rfl,o9⟩,b9⟩
set_option maxRecDepth 20000 in
set_option maxHeartbeats 2000000 in
theorem arrive_waits (s:St) (t:Tk) (ax:Option Addr) (cx:Nat) (ar:Option Addr) (cr:Nat) (ah:Option Addr) (nh ch:Nat) (w:World) (S:Nat→Prop) (hx:StR S w ax cx s.x.F) (hf:Few s.x.F) (hq:s.q=false) (hk:s.lv.kind≠3) (hk1:s.lv.kind≠1) (hw:0<wtA s.x.F) :
  Calls Tryz.prog 7 #[.agg (stB s (.slice ax s.x.F.length cx) (.slice ar s.run.length cr)),.agg #[.int .i64 t.id,.int .i64 t.wid,.int .i64 t.sts,.int .i64 t.sin,.int .i64 t.unt],.slice ah nh ch] w fun e w'=>(∃ v,e=.returned (.tuple #[v,.int .i64 (7)])∧StV S w' (sZ) v)∧Below w.heap.size w w':=by
 obtain ⟨w2,hw2⟩:∃ w2,w2=(((w.alloc (.cells (stB s (.slice ax s.x.F.length cx) (.slice ar s.run.length cr)) 34)).alloc (.cells #[.int .i64 t.id,.int .i64 t.wid,.int .i64 t.sts,.int .i64 t.sin,.int .i64 t.unt] 36)).alloc (.cells zsT 34)):=⟨_,rfl⟩
 have BX:=boxes3 w 34 36 34 (stB s (.slice ax s.x.F.length cx) (.slice ar s.run.length cr)) #[.int .i64 t.id,.int .i64 t.wid,.int .i64 t.sts,.int .i64 t.sin,.int .i64 t.unt] zsT
 rw [←hw2] at BX
 obtain ⟨B,N1,N2,N3⟩:=BX
 have hs2:w2.heap.size=w.heap.size+3:=by rw [hw2];simp
 obtain ⟨A,hA⟩:∃ A,A=w.heap.size:=⟨_,rfl⟩
 have HA:Hd (A=w.heap.size):=⟨hA⟩
 rw [←hA] at B N1 N2 N3 hs2
 have hBw:Below w.heap.size w w2:=by rw [←hA];exact B
 have WT:=waiting_ok s.x.r s.x.g s.x.n s.x.o ax cx s.x.F w2 ((hx.read (Kept.refl _ _)).carry hBw) hf
 obtain ⟨⟨c0,c1,c2,c3,c4⟩,-⟩:=N1.stx
 have q10:w2.cell? ⟨A,10,none⟩=some (.bool false):=by rw [←hq];exact N1.cellv 10 rfl
 have q1:w2.cell? ⟨A,1,none⟩=some (.int .i64 s.lv.kind):=N1.cellv 1 rfl
 have k1:(s.lv.kind == 3)=false:=by simpa using hk
 have k2:(s.lv.kind == 1)=false:=by simpa using hk1
 unfold wtA at hw
 have HB:Hd (Below A w w2∧w2.heap.size=A+3):=⟨B,hs2⟩
 have M3':Hd (Blk w2 (A+1+1) 34 (stB sZ (.slice none 0 0) (.slice none 0 0))):=⟨N3⟩
 have hwt:=wtT_bound hf
 clear B N1 N2 N3 hx hf hBw
 generalize wtT s.x.F s.x.F.length=T at *
 go_enter Tryz.func7,Tryz.ntmps7
 go_upto_region 1 with fail
 rw [←hw2]
 clear hw2
 rw [←hA]
 clear hA
 go_wp2_with (first
  | (go_at_call 34;refine WT.mono ?_;rintro e w5 ⟨rfl,b5⟩;have M3:Blk w5 (A+1+1) 34 (stB sZ (.slice none 0 0) (.slice none 0 0)):=M3'.out.kept (Kept.of_below b5 (fun _=>False)) id)
  | (refine wpl_storeSt rfl _ _ rfl (A+1+1) rfl (stB sZ (.slice none 0 0) (.slice none 0 0)) _ rfl M3 rfl rfl (st_one _ _ _ _ _ _ _) ?_;intro w9 n9 k9))
 refine bodyPost_ret (resSt19 _ _ _ rfl rfl n9) rfl ?_
 have b9:Below A w w9:=(HB.out.1.trans (b5.mono (by have:=HB.out.2;omega))).trans (k9.below (by have:=HB.out.2;have:=b5.size;omega) (fun j e=>by omega))
 rw [←HA.out]
 exact ⟨⟨_,rfl,sZ_v S w9⟩,b9⟩
set_option maxRecDepth 20000 in
set_option maxHeartbeats 2000000 in
theorem arrive_full (s:St) (t:Tk) (ax:Option Addr) (cx:Nat) (ar:Option Addr) (cr:Nat) (ah:Option Addr) (nh ch:Nat) (w:World) (S:Nat→Prop) (hx:StR S w ax cx s.x.F) (hr:SlR w ar cr s.run) (hl:s.run.length≤1990) (hf:Few s.x.F) (hq:s.q=false) (hk:s.lv.kind≠3) (hk1:s.lv.kind≠1) (hw:wtA s.x.F=0) (hb:ftB s t.wid=false) :
  Calls Tryz.prog 7 #[.agg (stB s (.slice ax s.x.F.length cx) (.slice ar s.run.length cr)),.agg #[.int .i64 t.id,.int .i64 t.wid,.int .i64 t.sts,.int .i64 t.sin,.int .i64 t.unt],.slice ah nh ch] w fun e w'=>(∃ v,e=.returned (.tuple #[v,.int .i64 (7)])∧StV S w' (sZ) v)∧Below w.heap.size w w':=by
 obtain ⟨w2,hw2⟩:∃ w2,w2=(((w.alloc (.cells (stB s (.slice ax s.x.F.length cx) (.slice ar s.run.length cr)) 34)).alloc (.cells #[.int .i64 t.id,.int .i64 t.wid,.int .i64 t.sts,.int .i64 t.sin,.int .i64 t.unt] 36)).alloc (.cells zsT 34)):=⟨_,rfl⟩
 have BX:=boxes3 w 34 36 34 (stB s (.slice ax s.x.F.length cx) (.slice ar s.run.length cr)) #[.int .i64 t.id,.int .i64 t.wid,.int .i64 t.sts,.int .i64 t.sin,.int .i64 t.unt] zsT
 rw [←hw2] at BX
 obtain ⟨B,N1,N2,N3⟩:=BX
 have hs2:w2.heap.size=w.heap.size+3:=by rw [hw2];simp
 obtain ⟨A,hA⟩:∃ A,A=w.heap.size:=⟨_,rfl⟩
 have HA:Hd (A=w.heap.size):=⟨hA⟩
 rw [←hA] at B N1 N2 N3 hs2
 have hBw:Below w.heap.size w w2:=by rw [←hA];exact B
 have WT:=waiting_ok s.x.r s.x.g s.x.n s.x.o ax cx s.x.F w2 ((hx.read (Kept.refl _ _)).carry hBw) hf
 obtain ⟨⟨c0,c1,c2,c3,c4⟩,-⟩:=N1.stx
 have FI:∀ W,Below A w W→Calls Tryz.prog 23 #[.agg (stB s (.slice ax s.x.F.length cx) (.slice ar s.run.length cr)),.int .i64 t.wid] W fun e w'=>e=.returned (.tuple #[.int .i64 (ftN s t.wid),.bool (ftB s t.wid)])∧Below W.heap.size W w':=fun W b=>fits_ok s _ ar cr t.wid W (hr.carry (by rw [←hA];exact b)) (by omega)
 rw [hb] at FI
 have HFI:=Hd.mk FI
 have q10:w2.cell? ⟨A,10,none⟩=some (.bool false):=by rw [←hq];exact N1.cellv 10 rfl
 have q1:w2.cell? ⟨A,1,none⟩=some (.int .i64 s.lv.kind):=N1.cellv 1 rfl
 have k1:(s.lv.kind == 3)=false:=by simpa using hk
 have k2:(s.lv.kind == 1)=false:=by simpa using hk1
 unfold wtA at hw
 have HB:Hd (Below A w w2∧w2.heap.size=A+3∧Blk w2 A 34 (stB s (.slice ax s.x.F.length cx) (.slice ar s.run.length cr))∧Blk w2 (A+1) 36 (tkA t)):=⟨B,hs2,N1,N2⟩
 have M3':Hd (Blk w2 (A+1+1) 34 (stB sZ (.slice none 0 0) (.slice none 0 0))):=⟨N3⟩
 clear B N1 N2 N3 hx hr hf hBw FI
 rw [hw] at WT
 clear hw
 go_enter Tryz.func7,Tryz.ntmps7
 go_upto_region 1 with fail
 rw [←hw2]
 clear hw2
 rw [←hA]
 clear hA
 go_upto_region 7 with (go_at_call 34;refine WT.mono ?_;rintro e w5 ⟨rfl,b5⟩)
 have b25:Below A w w5:=HB.out.1.trans (b5.mono (by have:=HB.out.2.1;omega))
 have M3:Blk w5 (A+1+1) 34 (stB sZ (.slice none 0 0) (.slice none 0 0)):=M3'.out.kept (Kept.of_below b5 (fun _=>False)) id
 have M1:Hd (Blk w5 A 34 (stB s (.slice ax s.x.F.length cx) (.slice ar s.run.length cr))):=⟨HB.out.2.2.1.kept (Kept.of_below b5 (fun _=>False)) id⟩
 have M2:Blk w5 (A+1) 36 (tkA t):=HB.out.2.2.2.kept (Kept.of_below b5 (fun _=>False)) id
 obtain ⟨⟨d0,d1,d2,d3,d4⟩,-⟩:=M2.five
 have hs5:=b5.size
 have FI5:=HFI.out w5 b25
 have HB5:Hd (Below A w w5∧A+3≤w5.heap.size):=⟨b25,by have:=HB.out.2.1;omega⟩
 clear c0 c1 c2 c3 c4 q1 q10 WT M2 b25 b5 HFI HB
 go_wp2_with (refine wpl_loadSt rfl _ rfl A rfl _ M1.out rfl ?_)
 go_at_call 23
 refine FI5.mono ?_
 rintro e w6 ⟨rfl,b6⟩
 have M6:=M3.kept (Kept.of_below b6 (fun _=>False)) id
 have HB6:Hd (Below A w w6∧A+3≤w6.heap.size):=⟨HB5.out.1.trans (b6.mono (by have:=HB5.out.2;omega)),by have:=HB5.out.2;have:=b6.size;omega⟩
 clear FI5 b6 d0 d1 d2 d3 d4 M3
 go_wp2_with (refine wpl_storeSt rfl _ _ rfl (A+1+1) rfl (stB sZ (.slice none 0 0) (.slice none 0 0)) _ rfl M6 rfl rfl (st_one _ _ _ _ _ _ _) ?_;intro w9 n9 k9)
 refine bodyPost_ret (resSt19 _ _ _ rfl rfl n9) rfl ?_
 have b9:Below A w w9:=HB6.out.1.trans (k9.below (by have:=HB6.out.2;omega) (fun j e=>by omega))
 rw [←HA.out]
 exact ⟨⟨_,rfl,sZ_v S w9⟩,b9⟩
set_option maxRecDepth 20000 in
set_option maxHeartbeats 2000000 in
theorem arrive_room (s:St) (t:Tk) (ax:Option Addr) (cx:Nat) (ar:Option Addr) (cr:Nat) (ah:Option Addr) (nh ch:Nat) (w:World) (S:Nat→Prop) (hx:StR S w ax cx s.x.F) (hr:SlR w ar cr s.run) (hl:s.run.length≤1990) (hS:∀ j,S j→j<w.heap.size) (hf:Few s.x.F) (hq:s.q=false) (hk:s.lv.kind≠3) (hk1:s.lv.kind≠1) (hw:wtA s.x.F=0) (hb:ftB s t.wid=true) :
  Calls Tryz.prog 7 #[.agg (stB s (.slice ax s.x.F.length cx) (.slice ar s.run.length cr)),.agg #[.int .i64 t.id,.int .i64 t.wid,.int .i64 t.sts,.int .i64 t.sin,.int .i64 t.unt],.slice ah nh ch] w fun e w'=>(∃ v,e=.returned (.tuple #[v,.int .i64 (0)])∧StV S w' ({ s with run:=s.run ++ [seated t (ftN s t.wid)] }) v)∧Below w.heap.size w w':=by
 obtain ⟨w2,hw2⟩:∃ w2,w2=(((w.alloc (.cells (stB s (.slice ax s.x.F.length cx) (.slice ar s.run.length cr)) 34)).alloc (.cells #[.int .i64 t.id,.int .i64 t.wid,.int .i64 t.sts,.int .i64 t.sin,.int .i64 t.unt] 36)).alloc (.cells zsT 34)):=⟨_,rfl⟩
 have BX:=boxes3 w 34 36 34 (stB s (.slice ax s.x.F.length cx) (.slice ar s.run.length cr)) #[.int .i64 t.id,.int .i64 t.wid,.int .i64 t.sts,.int .i64 t.sin,.int .i64 t.unt] zsT
 rw [←hw2] at BX
 obtain ⟨B,N1,N2,N3⟩:=BX
 have hs2:w2.heap.size=w.heap.size+3:=by rw [hw2];simp
 obtain ⟨A,hA⟩:∃ A,A=w.heap.size:=⟨_,rfl⟩
 have HA:Hd (A=w.heap.size):=⟨hA⟩
 rw [←hA] at B N1 N2 N3 hs2
 have hBw:Below w.heap.size w w2:=by rw [←hA];exact B
 have WT:=waiting_ok s.x.r s.x.g s.x.n s.x.o ax cx s.x.F w2 ((hx.read (Kept.refl _ _)).carry hBw) hf
 obtain ⟨⟨c0,c1,c2,c3,c4⟩,-⟩:=N1.stx
 have FI:∀ W,Below A w W→Calls Tryz.prog 23 #[.agg (stB s (.slice ax s.x.F.length cx) (.slice ar s.run.length cr)),.int .i64 t.wid] W fun e w'=>e=.returned (.tuple #[.int .i64 (ftN s t.wid),.bool (ftB s t.wid)])∧Below W.heap.size W w':=fun W b=>fits_ok s _ ar cr t.wid W (hr.carry (by rw [←hA];exact b)) (by omega)
 rw [hb] at FI
 have HFI:=Hd.mk FI
 have HCP:Hd (∀ W,Below A w W→Calls Tryz.prog 35 #[.agg (stB s (.slice ax s.x.F.length cx) (.slice ar s.run.length cr))] W fun e w'=>(∃ v u,e=.returned (.agg (stB s v u))∧StO w' W.heap.size s v u)∧Below W.heap.size W w'):=⟨fun W b=>scopied_ok s ax cx ar cr W ((hx.read (Kept.refl _ _)).carry (by rw [←hA];exact b)) hf (hr.carry (by rw [←hA];exact b)) (by omega)⟩
 have q10:w2.cell? ⟨A,10,none⟩=some (.bool false):=by rw [←hq];exact N1.cellv 10 rfl
 have q1:w2.cell? ⟨A,1,none⟩=some (.int .i64 s.lv.kind):=N1.cellv 1 rfl
 have k1:(s.lv.kind == 3)=false:=by simpa using hk
 have k2:(s.lv.kind == 1)=false:=by simpa using hk1
 unfold wtA at hw
 have HSA:Hd (∀ j,S j→j<A):=⟨fun j e=>by rw [hA];exact hS j e⟩
 have HB:Hd (Below A w w2∧w2.heap.size=A+3∧Blk w2 A 34 (stB s (.slice ax s.x.F.length cx) (.slice ar s.run.length cr))∧Blk w2 (A+1) 36 (tkA t)∧Blk w2 (A+1+1) 34 (stB sZ (.slice none 0 0) (.slice none 0 0))):=⟨B,hs2,N1,N2,N3⟩
 clear B N1 N2 N3 hx hr hf hBw FI
 obtain ⟨nn,hnn⟩:∃ nn,nn=ftN s t.wid:=⟨_,rfl⟩
 rw [←hnn] at HFI ⊢
 clear hnn hb
 rw [hw] at WT
 clear hw
 go_enter Tryz.func7,Tryz.ntmps7
 go_upto_region 1 with fail
 rw [←hw2]
 clear hw2
 rw [←hA]
 clear hA
 go_upto_region 7 with (go_at_call 34;refine WT.mono ?_;rintro e w5 ⟨rfl,b5⟩)
 clear c0 c1 c2 c3 c4 WT
 have b25:Below A w w5:=HB.out.1.trans (b5.mono (by have:=HB.out.2.1;omega))
 have M1:Hd (Blk w5 A 34 (stB s (.slice ax s.x.F.length cx) (.slice ar s.run.length cr))):=⟨HB.out.2.2.1.kept (Kept.of_below b5 (fun _=>False)) id⟩
 have M2:Blk w5 (A+1) 36 (tkA t):=HB.out.2.2.2.1.kept (Kept.of_below b5 (fun _=>False)) id
 have M3:Blk w5 (A+1+1) 34 (stB sZ (.slice none 0 0) (.slice none 0 0)):=HB.out.2.2.2.2.kept (Kept.of_below b5 (fun _=>False)) id
 obtain ⟨⟨d0,d1,d2,d3,d4⟩,-⟩:=M2.five
 have hs5:=b5.size
 have FI5:=HFI.out w5 b25
 have HB5:Hd (Below A w w5∧A+3≤w5.heap.size):=⟨b25,by have:=HB.out.2.1;omega⟩
 clear q1 q10 b25 b5 HFI HB hs5
 go_wp2_with (refine wpl_loadSt rfl _ rfl A rfl _ M1.out rfl ?_)
 go_at_call 23
 refine FI5.mono ?_
 rintro e w6 ⟨rfl,b6⟩
 have P1:=M1.out.kept (Kept.of_below b6 (fun _=>False)) id
 have P2:=M2.kept (Kept.of_below b6 (fun _=>False)) id
 have P3:=M3.kept (Kept.of_below b6 (fun _=>False)) id
 have HB6:Hd (Below A w w6∧A+3≤w6.heap.size):=⟨HB5.out.1.trans (b6.mono (by have:=HB5.out.2;omega)),by have:=HB5.out.2;have:=b6.size;omega⟩
 clear FI5 b6 d0 d1 d2 d3 d4 M1 M2 M3 HB5
 -- the seats
 have k7:Kept (fun j=>j=A+1) w6 (w6.setCell ⟨A+1,2,none⟩ (.int .i64 nn)):=(Kept.refl _ _).setCell _ _ (.inl rfl)
 have Q2:Blk (w6.setCell ⟨A+1,2,none⟩ (.int .i64 nn)) (A+1) 36 (tkA (seated t nn)):=P2.set 2 (.int .i64 nn)
 obtain ⟨⟨d0,d1,d2,d3,d4⟩,-,-,f2,-⟩:=P2.five
 have Q1:=P1.kept k7 (by omega)
 have Q3:=P3.kept k7 (by omega)
 have HB7:Hd (Below A w (w6.setCell ⟨A+1,2,none⟩ (.int .i64 nn))∧A+3≤(w6.setCell ⟨A+1,2,none⟩ (.int .i64 nn)).heap.size):=⟨HB6.out.1.trans (k7.below (by have:=HB6.out.2;omega) (fun j e=>by omega)),by have:=HB6.out.2;have:=k7.size;omega⟩
 have CP:=HCP.out _ HB7.out.1
 have H7:Hd (Blk (w6.setCell ⟨A+1,2,none⟩ (.int .i64 nn)) A 34 (stB s (.slice ax s.x.F.length cx) (.slice ar s.run.length cr))):=⟨Q1⟩
 clear P1 P2 P3 HB6 HCP k7 Q1
 go_upto_region 11 with fail
 clear d0 d1 d2 d3 d4 f2
 generalize w6.setCell ⟨A+1,2,none⟩ (.int .i64 nn)=w7 at *
 go_wp2_with (refine wpl_loadSt rfl _ rfl A rfl _ H7.out rfl ?_)
 go_at_call 35
 refine CP.mono ?_
 rintro e w8 ⟨⟨v8,u8,rfl,o8⟩,b8⟩
 obtain ⟨a8,c8,rfl,s8⟩:=o8.str
 obtain ⟨ar8,cr8,e8,r8⟩:=o8.run.read
 have P1:Blk w8 A 34 (stB s (.slice ax s.x.F.length cx) (.slice ar s.run.length cr)):=H7.out.kept (Kept.of_below b8 (fun _=>False)) id
 have P2:=Q2.kept (Kept.of_below b8 (fun _=>False)) id
 have P3:=Q3.kept (Kept.of_below b8 (fun _=>False)) id
 have OR:=o8.run
 have HB8:Hd (Below A w w8∧A+3≤w7.heap.size∧w7.heap.size≤w8.heap.size):=⟨HB7.out.1.trans (b8.mono (by have:=HB7.out.2;omega)),HB7.out.2,b8.size⟩
 subst e8
 clear CP b8 Q2 Q3 HB7 H7 o8 r8
 have HS8:Hd (StR (fun j=>(Value.slice ar8 s.run.length cr8).ownBlock=some j∨j<w7.heap.size) w8 a8 c8 s.x.F):=⟨s8⟩
 have HOR:Hd (OwnT w8 w7.heap.size (.slice ar8 s.run.length cr8) s.run):=⟨OR⟩
 clear s8 OR
 go_upto_region 12 with (refine wpl_storeSt rfl _ _ rfl A rfl (stB s (.slice a8 s.x.F.length c8) (.slice ar8 s.run.length cr8)) _ rfl P1 rfl rfl (st_one _ _ _ _ _ _ _) ?_;intro w9 n9 k9)
 have P2':=P2.kept k9 (by omega)
 have P3':=P3.kept k9 (by omega)
 have OR9:=HOR.out.kept k9 (fun j hj e=>by have:=HB8.out.2.1;omega)
 obtain ⟨w10,hw10⟩:∃ w10,w10=w9.alloc (.cells #[.int .i64 (seated t nn).id,.int .i64 (seated t nn).wid,.int .i64 (seated t nn).sts,.int .i64 (seated t nn).sin,.int .i64 (seated t nn).unt] 36):=⟨_,rfl⟩
 have B10:Below w9.heap.size w9 w10:=by rw [hw10];exact alloc_below _ _
 have T10:Blk w10 w9.heap.size 36 (tkA (seated t nn)):=by rw [hw10];exact Blk.new _ _ _
 have hs10:w9.heap.size<w10.heap.size:=T10.lt
 have OR10:Hd (OwnT w10 w7.heap.size (.slice ar8 s.run.length cr8) s.run∧SlR w10 (some ⟨w9.heap.size,0,none⟩) 1 [seated t nn]):=⟨OR9.kept (Kept.of_below B10 (fun _=>False)) (fun _ _ h=>h),one_sl T10⟩
 have HK9:Hd (Kept (fun j=>j=A) w8 w9∧Below w9.heap.size w9 w10∧Blk w10 A 34 (stB s (.slice a8 s.x.F.length c8) (.slice ar8 s.run.length cr8))∧Blk w10 (A+1+1) 34 (stB sZ (.slice none 0 0) (.slice none 0 0))∧w8.heap.size≤w9.heap.size):=⟨k9,B10,n9.kept (Kept.of_below B10 (fun _=>False)) id,P3'.kept (Kept.of_below B10 (fun _=>False)) id,k9.size⟩
 have g22:=n9.str.1
 obtain ⟨⟨d0,d1,d2,d3,d4⟩,-⟩:=P2'.five
 clear T10 OR9 P1 P2 P3 P2' P3' k9 B10 HOR
 go_upto_region 13 with (at_builtin;rw [←hw10];refine wpl_tks rfl _ _ rfl w7.heap.size _ s.run [seated t nn] rfl OR10.out.1 (some ⟨w9.heap.size,0,none⟩) 1 1 rfl rfl OR10.out.2 (by simp;omega) (by have:=HB8.out.2.2;have:=HK9.out.2.2.2.2;omega) ?_;intro u11 w11 o11 g11;have K11:=Kept.of_grown g11 (S:=fun j=>(Value.slice ar8 s.run.length cr8).ownBlock=some j) (fun k e=>e);have hlo:∀ j,(Value.slice ar8 s.run.length cr8).ownBlock=some j→w7.heap.size≤j:=fun j e=>(OR10.out.1.lt j e).1;have M11:=HK9.out.2.2.1.kept K11 (fun e=>by have:=hlo _ e;have:=HB8.out.2.1;omega);obtain ⟨r22,f22⟩:=M11.str;obtain ⟨l11,hl11⟩:∃ l11,l11=(s.run ++ [seated t nn]).length:=⟨_,rfl⟩;obtain ⟨a11,c11,e11,-⟩:=o11.read;rw [←hl11] at e11;subst e11;have HL:Hd (l11=(s.run ++ [seated t nn]).length):=⟨hl11⟩;clear hl11)
 obtain ⟨Q12,K12⟩:=st_run M11 (s.run ++ [seated t nn]) (.slice a11 l11 c11)
 have M12:=(HK9.out.2.2.2.1.kept K11 (fun e=>by have:=hlo _ e;have:=HB8.out.2.1;omega)).kept K12 (by omega)
 have O12:=o11.kept K12 (fun j hj e=>by have:=HB8.out.2.1;omega)
 have KT:Kept (fun j=>(Value.slice ar8 s.run.length cr8).ownBlock=some j∨j<w7.heap.size) w8 (w11.setCell ⟨A,22,none⟩ (.slice a11 l11 c11)):=by
  have h1:=HB8.out
  have h2:=HK9.out
  exact (((h2.1.mono (fun j _ e=>.inr (by omega))).trans (Kept.of_below h2.2.1 _)).trans (K11.mono (fun j _ e=>.inl e))).trans (K12.mono (fun j _ e=>.inr (by omega)))
 have KB:Kept (fun j=>A≤j) w8 (w11.setCell ⟨A,22,none⟩ (.slice a11 l11 c11)):=by
  have h1:=HB8.out
  have h2:=HK9.out
  exact (((h2.1.mono (fun j _ e=>by omega)).trans (Kept.of_below h2.2.1 _)).trans (K11.mono (fun j _ e=>by have:=hlo j e;omega))).trans (K12.mono (fun j _ e=>by omega))
 have hs12:w7.heap.size≤(w11.setCell ⟨A,22,none⟩ (.slice a11 l11 c11)).heap.size:=by have:=KT.size;have:=HB8.out.2.2;omega
 have HZ:Hd (∀ w13,Kept (fun j=>j=A+1+1) (w11.setCell ⟨A,22,none⟩ (.slice a11 l11 c11)) w13→StV S w13 { s with run:=s.run ++ [seated t nn] } (.agg (stB { s with run:=s.run ++ [seated t nn] } (.slice a8 s.x.F.length c8) (.slice a11 l11 c11)))∧Below A w w13):=⟨fun w13 k13=>by
  have h1:=HB8.out
  have kk:=KT.trans (k13.mono (fun j _ e=>.inr (by omega)))
  have kb:=KB.trans (k13.mono (fun j _ e=>by omega))
  have hl11:=HL.out
  subst hl11
  refine ⟨⟨a8,c8,a11,c11,rfl,HS8.out.stp kk (T:=S) (fun j _ e=>.inr (by have:=HSA.out j e;omega)),?_⟩,h1.1.trans (kb.below (by omega) (fun j e=>e))⟩
  obtain ⟨a',c',e',r'⟩:=(O12.kept k13 (fun j hj e=>by omega)).ts (S:=S) (fun j hj e=>by have:=HSA.out j e;omega)
  obtain ⟨rfl,-,rfl⟩:a11=a'∧True∧c11=c':=by injection e' with x1 x2 x3;exact ⟨x1,trivial,x3⟩
  exact r'⟩
 have HQ:Hd (Blk (w11.setCell ⟨A,22,none⟩ (.slice a11 l11 c11)) A 34 (stB { s with run:=s.run ++ [seated t nn] } (.slice a8 s.x.F.length c8) (.slice a11 l11 c11))∧Blk (w11.setCell ⟨A,22,none⟩ (.slice a11 l11 c11)) (A+1+1) 34 (stB sZ (.slice none 0 0) (.slice none 0 0))):=⟨Q12,M12⟩
 clear Q12 K12 M12 O12 KT KB hs12 HL M11 r22 f22 K11 g11 o11 hlo HS8 HK9 OR10 g22 d0 d1 d2 d3 d4
 generalize w11.setCell ⟨A,22,none⟩ (.slice a11 l11 c11)=w12 at *
 go_wp2_with (first | (refine wpl_loadSt rfl _ rfl A rfl _ HQ.out.1 rfl ?_) | (refine wpl_storeSt rfl _ _ rfl (A+1+1) rfl (stB { s with run:=s.run ++ [seated t nn] } (.slice a8 s.x.F.length c8) (.slice a11 l11 c11)) _ rfl HQ.out.2 rfl rfl (st_one _ _ _ _ _ _ _) ?_;intro w13 n13 k13))
 refine bodyPost_ret (resSt19 _ _ _ rfl rfl n13) rfl ?_
 obtain ⟨o13,b13⟩:=HZ.out w13 k13
 rw [←HA.out]
 exact ⟨⟨_,rfl,o13⟩,b13⟩
set_option maxRecDepth 20000 in
set_option maxHeartbeats 2000000 in
theorem arrive_exempt (s:St) (t:Tk) (ax:Option Addr) (cx:Nat) (ar:Option Addr) (cr:Nat) (ah:Option Addr) (nh ch:Nat) (w:World) (S:Nat→Prop) (hx:StR S w ax cx s.x.F) (hr:SlR w ar cr s.run) (hl:s.run.length≤1990) (hS:∀ j,S j→j<w.heap.size) (hf:Few s.x.F) (hq:s.q=false) (hk1:s.lv.kind=1) (hb:ftB s t.wid=true) :
  Calls Tryz.prog 7 #[.agg (stB s (.slice ax s.x.F.length cx) (.slice ar s.run.length cr)),.agg #[.int .i64 t.id,.int .i64 t.wid,.int .i64 t.sts,.int .i64 t.sin,.int .i64 t.unt],.slice ah nh ch] w fun e w'=>(∃ v,e=.returned (.tuple #[v,.int .i64 (0)])∧StV S w' ({ s with run:=s.run ++ [seated t (ftN s t.wid)] }) v)∧Below w.heap.size w w':=by
 obtain ⟨w2,hw2⟩:∃ w2,w2=(((w.alloc (.cells (stB s (.slice ax s.x.F.length cx) (.slice ar s.run.length cr)) 34)).alloc (.cells #[.int .i64 t.id,.int .i64 t.wid,.int .i64 t.sts,.int .i64 t.sin,.int .i64 t.unt] 36)).alloc (.cells zsT 34)):=⟨_,rfl⟩
 have BX:=boxes3 w 34 36 34 (stB s (.slice ax s.x.F.length cx) (.slice ar s.run.length cr)) #[.int .i64 t.id,.int .i64 t.wid,.int .i64 t.sts,.int .i64 t.sin,.int .i64 t.unt] zsT
 rw [←hw2] at BX
 obtain ⟨B,N1,N2,N3⟩:=BX
 have hs2:w2.heap.size=w.heap.size+3:=by rw [hw2];simp
 obtain ⟨A,hA⟩:∃ A,A=w.heap.size:=⟨_,rfl⟩
 have HA:Hd (A=w.heap.size):=⟨hA⟩
 rw [←hA] at B N1 N2 N3 hs2
 have hBw:Below w.heap.size w w2:=by rw [←hA];exact B
 have FI:∀ W,Below A w W→Calls Tryz.prog 23 #[.agg (stB s (.slice ax s.x.F.length cx) (.slice ar s.run.length cr)),.int .i64 t.wid] W fun e w'=>e=.returned (.tuple #[.int .i64 (ftN s t.wid),.bool (ftB s t.wid)])∧Below W.heap.size W w':=fun W b=>fits_ok s _ ar cr t.wid W (hr.carry (by rw [←hA];exact b)) (by omega)
 rw [hb] at FI
 have HFI:=Hd.mk FI
 have HCP:Hd (∀ W,Below A w W→Calls Tryz.prog 35 #[.agg (stB s (.slice ax s.x.F.length cx) (.slice ar s.run.length cr))] W fun e w'=>(∃ v u,e=.returned (.agg (stB s v u))∧StO w' W.heap.size s v u)∧Below W.heap.size W w'):=⟨fun W b=>scopied_ok s ax cx ar cr W ((hx.read (Kept.refl _ _)).carry (by rw [←hA];exact b)) hf (hr.carry (by rw [←hA];exact b)) (by omega)⟩
 have q10:w2.cell? ⟨A,10,none⟩=some (.bool false):=by rw [←hq];exact N1.cellv 10 rfl
 have q1:w2.cell? ⟨A,1,none⟩=some (.int .i64 1):=by rw [←hk1];exact N1.cellv 1 rfl
 have HSA:Hd (∀ j,S j→j<A):=⟨fun j e=>by rw [hA];exact hS j e⟩
 have HB:Hd (Below A w w2∧w2.heap.size=A+3∧Blk w2 A 34 (stB s (.slice ax s.x.F.length cx) (.slice ar s.run.length cr))∧Blk w2 (A+1) 36 (tkA t)∧Blk w2 (A+1+1) 34 (stB sZ (.slice none 0 0) (.slice none 0 0))):=⟨B,hs2,N1,N2,N3⟩
 clear B N1 N2 N3 hx hr hf hBw FI
 obtain ⟨nn,hnn⟩:∃ nn,nn=ftN s t.wid:=⟨_,rfl⟩
 rw [←hnn] at HFI ⊢
 clear hnn hb
 go_enter Tryz.func7,Tryz.ntmps7
 go_upto_region 1 with fail
 rw [←hw2]
 clear hw2
 rw [←hA]
 clear hA
 obtain ⟨w5,hw5⟩:∃ w5,w5=w2:=⟨_,rfl⟩
 have b5:Below w2.heap.size w2 w5:=by rw [hw5];exact Below.refl _ _
 go_upto_region 7 with fail
 rw [←hw5]
 clear hw5
 have b25:Below A w w5:=HB.out.1.trans (b5.mono (by have:=HB.out.2.1;omega))
 have M1:Hd (Blk w5 A 34 (stB s (.slice ax s.x.F.length cx) (.slice ar s.run.length cr))):=⟨HB.out.2.2.1.kept (Kept.of_below b5 (fun _=>False)) id⟩
 have M2:Blk w5 (A+1) 36 (tkA t):=HB.out.2.2.2.1.kept (Kept.of_below b5 (fun _=>False)) id
 have M3:Blk w5 (A+1+1) 34 (stB sZ (.slice none 0 0) (.slice none 0 0)):=HB.out.2.2.2.2.kept (Kept.of_below b5 (fun _=>False)) id
 obtain ⟨⟨d0,d1,d2,d3,d4⟩,-⟩:=M2.five
 have hs5:=b5.size
 have FI5:=HFI.out w5 b25
 have HB5:Hd (Below A w w5∧A+3≤w5.heap.size):=⟨b25,by have:=HB.out.2.1;omega⟩
 clear q1 q10 b25 b5 HFI HB hs5
 go_wp2_with (refine wpl_loadSt rfl _ rfl A rfl _ M1.out rfl ?_)
 go_at_call 23
 refine FI5.mono ?_
 rintro e w6 ⟨rfl,b6⟩
 have P1:=M1.out.kept (Kept.of_below b6 (fun _=>False)) id
 have P2:=M2.kept (Kept.of_below b6 (fun _=>False)) id
 have P3:=M3.kept (Kept.of_below b6 (fun _=>False)) id
 have HB6:Hd (Below A w w6∧A+3≤w6.heap.size):=⟨HB5.out.1.trans (b6.mono (by have:=HB5.out.2;omega)),by have:=HB5.out.2;have:=b6.size;omega⟩
 clear FI5 b6 d0 d1 d2 d3 d4 M1 M2 M3 HB5
 -- the seats
 have k7:Kept (fun j=>j=A+1) w6 (w6.setCell ⟨A+1,2,none⟩ (.int .i64 nn)):=(Kept.refl _ _).setCell _ _ (.inl rfl)
 have Q2:Blk (w6.setCell ⟨A+1,2,none⟩ (.int .i64 nn)) (A+1) 36 (tkA (seated t nn)):=P2.set 2 (.int .i64 nn)
 obtain ⟨⟨d0,d1,d2,d3,d4⟩,-,-,f2,-⟩:=P2.five
 have Q1:=P1.kept k7 (by omega)
 have Q3:=P3.kept k7 (by omega)
 have HB7:Hd (Below A w (w6.setCell ⟨A+1,2,none⟩ (.int .i64 nn))∧A+3≤(w6.setCell ⟨A+1,2,none⟩ (.int .i64 nn)).heap.size):=⟨HB6.out.1.trans (k7.below (by have:=HB6.out.2;omega) (fun j e=>by omega)),by have:=HB6.out.2;have:=k7.size;omega⟩
 have CP:=HCP.out _ HB7.out.1
 have H7:Hd (Blk (w6.setCell ⟨A+1,2,none⟩ (.int .i64 nn)) A 34 (stB s (.slice ax s.x.F.length cx) (.slice ar s.run.length cr))):=⟨Q1⟩
 clear P1 P2 P3 HB6 HCP k7 Q1
 go_upto_region 11 with fail
 clear d0 d1 d2 d3 d4 f2
 generalize w6.setCell ⟨A+1,2,none⟩ (.int .i64 nn)=w7 at *
 go_wp2_with (refine wpl_loadSt rfl _ rfl A rfl _ H7.out rfl ?_)
 go_at_call 35
 refine CP.mono ?_
 rintro e w8 ⟨⟨v8,u8,rfl,o8⟩,b8⟩
 obtain ⟨a8,c8,rfl,s8⟩:=o8.str
 obtain ⟨ar8,cr8,e8,r8⟩:=o8.run.read
 have P1:Blk w8 A 34 (stB s (.slice ax s.x.F.length cx) (.slice ar s.run.length cr)):=H7.out.kept (Kept.of_below b8 (fun _=>False)) id
 have P2:=Q2.kept (Kept.of_below b8 (fun _=>False)) id
 have P3:=Q3.kept (Kept.of_below b8 (fun _=>False)) id
 have OR:=o8.run
 have HB8:Hd (Below A w w8∧A+3≤w7.heap.size∧w7.heap.size≤w8.heap.size):=⟨HB7.out.1.trans (b8.mono (by have:=HB7.out.2;omega)),HB7.out.2,b8.size⟩
 subst e8
 clear CP b8 Q2 Q3 HB7 H7 o8 r8
 have HS8:Hd (StR (fun j=>(Value.slice ar8 s.run.length cr8).ownBlock=some j∨j<w7.heap.size) w8 a8 c8 s.x.F):=⟨s8⟩
 have HOR:Hd (OwnT w8 w7.heap.size (.slice ar8 s.run.length cr8) s.run):=⟨OR⟩
 clear s8 OR
 go_upto_region 12 with (refine wpl_storeSt rfl _ _ rfl A rfl (stB s (.slice a8 s.x.F.length c8) (.slice ar8 s.run.length cr8)) _ rfl P1 rfl rfl (st_one _ _ _ _ _ _ _) ?_;intro w9 n9 k9)
 have P2':=P2.kept k9 (by omega)
 have P3':=P3.kept k9 (by omega)
 have OR9:=HOR.out.kept k9 (fun j hj e=>by have:=HB8.out.2.1;omega)
 obtain ⟨w10,hw10⟩:∃ w10,w10=w9.alloc (.cells #[.int .i64 (seated t nn).id,.int .i64 (seated t nn).wid,.int .i64 (seated t nn).sts,.int .i64 (seated t nn).sin,.int .i64 (seated t nn).unt] 36):=⟨_,rfl⟩
 have B10:Below w9.heap.size w9 w10:=by rw [hw10];exact alloc_below _ _
 have T10:Blk w10 w9.heap.size 36 (tkA (seated t nn)):=by rw [hw10];exact Blk.new _ _ _
 have hs10:w9.heap.size<w10.heap.size:=T10.lt
 have OR10:Hd (OwnT w10 w7.heap.size (.slice ar8 s.run.length cr8) s.run∧SlR w10 (some ⟨w9.heap.size,0,none⟩) 1 [seated t nn]):=⟨OR9.kept (Kept.of_below B10 (fun _=>False)) (fun _ _ h=>h),one_sl T10⟩
 have HK9:Hd (Kept (fun j=>j=A) w8 w9∧Below w9.heap.size w9 w10∧Blk w10 A 34 (stB s (.slice a8 s.x.F.length c8) (.slice ar8 s.run.length cr8))∧Blk w10 (A+1+1) 34 (stB sZ (.slice none 0 0) (.slice none 0 0))∧w8.heap.size≤w9.heap.size):=⟨k9,B10,n9.kept (Kept.of_below B10 (fun _=>False)) id,P3'.kept (Kept.of_below B10 (fun _=>False)) id,k9.size⟩
 have g22:=n9.str.1
 obtain ⟨⟨d0,d1,d2,d3,d4⟩,-⟩:=P2'.five
 clear T10 OR9 P1 P2 P3 P2' P3' k9 B10 HOR
 go_upto_region 13 with (at_builtin;rw [←hw10];refine wpl_tks rfl _ _ rfl w7.heap.size _ s.run [seated t nn] rfl OR10.out.1 (some ⟨w9.heap.size,0,none⟩) 1 1 rfl rfl OR10.out.2 (by simp;omega) (by have:=HB8.out.2.2;have:=HK9.out.2.2.2.2;omega) ?_;intro u11 w11 o11 g11;have K11:=Kept.of_grown g11 (S:=fun j=>(Value.slice ar8 s.run.length cr8).ownBlock=some j) (fun k e=>e);have hlo:∀ j,(Value.slice ar8 s.run.length cr8).ownBlock=some j→w7.heap.size≤j:=fun j e=>(OR10.out.1.lt j e).1;have M11:=HK9.out.2.2.1.kept K11 (fun e=>by have:=hlo _ e;have:=HB8.out.2.1;omega);obtain ⟨r22,f22⟩:=M11.str;obtain ⟨l11,hl11⟩:∃ l11,l11=(s.run ++ [seated t nn]).length:=⟨_,rfl⟩;obtain ⟨a11,c11,e11,-⟩:=o11.read;rw [←hl11] at e11;subst e11;have HL:Hd (l11=(s.run ++ [seated t nn]).length):=⟨hl11⟩;clear hl11)
 obtain ⟨Q12,K12⟩:=st_run M11 (s.run ++ [seated t nn]) (.slice a11 l11 c11)
 have M12:=(HK9.out.2.2.2.1.kept K11 (fun e=>by have:=hlo _ e;have:=HB8.out.2.1;omega)).kept K12 (by omega)
 have O12:=o11.kept K12 (fun j hj e=>by have:=HB8.out.2.1;omega)
 have KT:Kept (fun j=>(Value.slice ar8 s.run.length cr8).ownBlock=some j∨j<w7.heap.size) w8 (w11.setCell ⟨A,22,none⟩ (.slice a11 l11 c11)):=by
  have h1:=HB8.out
  have h2:=HK9.out
  exact (((h2.1.mono (fun j _ e=>.inr (by omega))).trans (Kept.of_below h2.2.1 _)).trans (K11.mono (fun j _ e=>.inl e))).trans (K12.mono (fun j _ e=>.inr (by omega)))
 have KB:Kept (fun j=>A≤j) w8 (w11.setCell ⟨A,22,none⟩ (.slice a11 l11 c11)):=by
  have h1:=HB8.out
  have h2:=HK9.out
  exact (((h2.1.mono (fun j _ e=>by omega)).trans (Kept.of_below h2.2.1 _)).trans (K11.mono (fun j _ e=>by have:=hlo j e;omega))).trans (K12.mono (fun j _ e=>by omega))
 have hs12:w7.heap.size≤(w11.setCell ⟨A,22,none⟩ (.slice a11 l11 c11)).heap.size:=by have:=KT.size;have:=HB8.out.2.2;omega
 have HZ:Hd (∀ w13,Kept (fun j=>j=A+1+1) (w11.setCell ⟨A,22,none⟩ (.slice a11 l11 c11)) w13→StV S w13 { s with run:=s.run ++ [seated t nn] } (.agg (stB { s with run:=s.run ++ [seated t nn] } (.slice a8 s.x.F.length c8) (.slice a11 l11 c11)))∧Below A w w13):=⟨fun w13 k13=>by
  have h1:=HB8.out
  have kk:=KT.trans (k13.mono (fun j _ e=>.inr (by omega)))
  have kb:=KB.trans (k13.mono (fun j _ e=>by omega))
  have hl11:=HL.out
  subst hl11
  refine ⟨⟨a8,c8,a11,c11,rfl,HS8.out.stp kk (T:=S) (fun j _ e=>.inr (by have:=HSA.out j e;omega)),?_⟩,h1.1.trans (kb.below (by omega) (fun j e=>e))⟩
  obtain ⟨a',c',e',r'⟩:=(O12.kept k13 (fun j hj e=>by omega)).ts (S:=S) (fun j hj e=>by have:=HSA.out j e;omega)
  obtain ⟨rfl,-,rfl⟩:a11=a'∧True∧c11=c':=by injection e' with x1 x2 x3;exact ⟨x1,trivial,x3⟩
  exact r'⟩
 have HQ:Hd (Blk (w11.setCell ⟨A,22,none⟩ (.slice a11 l11 c11)) A 34 (stB { s with run:=s.run ++ [seated t nn] } (.slice a8 s.x.F.length c8) (.slice a11 l11 c11))∧Blk (w11.setCell ⟨A,22,none⟩ (.slice a11 l11 c11)) (A+1+1) 34 (stB sZ (.slice none 0 0) (.slice none 0 0))):=⟨Q12,M12⟩
 clear Q12 K12 M12 O12 KT KB hs12 HL M11 r22 f22 K11 g11 o11 hlo HS8 HK9 OR10 g22 d0 d1 d2 d3 d4
 generalize w11.setCell ⟨A,22,none⟩ (.slice a11 l11 c11)=w12 at *
 go_wp2_with (first | (refine wpl_loadSt rfl _ rfl A rfl _ HQ.out.1 rfl ?_) | (refine wpl_storeSt rfl _ _ rfl (A+1+1) rfl (stB { s with run:=s.run ++ [seated t nn] } (.slice a8 s.x.F.length c8) (.slice a11 l11 c11)) _ rfl HQ.out.2 rfl rfl (st_one _ _ _ _ _ _ _) ?_;intro w13 n13 k13))
 refine bodyPost_ret (resSt19 _ _ _ rfl rfl n13) rfl ?_
 obtain ⟨o13,b13⟩:=HZ.out w13 k13
 rw [←HA.out]
 exact ⟨⟨_,rfl,o13⟩,b13⟩
end Go.Proofs.YtlgibnmoogbdcaaGreat
