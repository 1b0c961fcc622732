/-
  Somebody comes to a level, and fits, by the program.
  Somebody comes to a level, by the program, whatever comes of it.
  One who waits goes, by the program.
-/
import Derived.Test.YtlgibnmoogbdcaaR28
namespace Go.Proofs.Ytlgibnmoogbdcaa
open Go.RowKit
set_option maxRecDepth 20000 in
set_option maxHeartbeats 2000000 in
theorem arrive_room (s:St) (t:Tk) (ax:Option Addr) (cx:Nat) (ar:Option Addr) (cr:Nat) (ah:Option Addr) (nh ch:Nat) (w:World) (S:Nat→Prop) (hx:StR S w ax cx s.x.F) (hr:SlR w ar cr s.run) (hl:s.run.length≤1990) (hS:∀ j,S j→j<w.heap.size) (hf:Few s.x.F) (hq:s.q=false) (hk:s.lv.kind≠3) (hk1:s.lv.kind≠1) (hw:wtA s.x.F=0) (hb:ftB s t.wid=true) :
  Calls Try.prog 19 #[.agg (stB s (.slice ax s.x.F.length cx) (.slice ar s.run.length cr)),.agg #[.int .i64 t.id,.int .i64 t.wid,.int .i64 t.sts,.int .i64 t.sin,.int .i64 t.unt],.slice ah nh ch] w fun e w'=>(∃ v,e=.returned (.tuple #[v,.int .i64 (0)])∧StV S w' ({ s with run:=s.run ++ [seated t (ftN s t.wid)] }) v)∧Below w.heap.size w w':=by
 obtain ⟨w2,hw2⟩:∃ w2,w2=(((w.alloc (.cells (stB s (.slice ax s.x.F.length cx) (.slice ar s.run.length cr)) 36)).alloc (.cells #[.int .i64 t.id,.int .i64 t.wid,.int .i64 t.sts,.int .i64 t.sin,.int .i64 t.unt] 42)).alloc (.cells zsT 36)):=⟨_,rfl⟩
 have BX:=boxes3 w 36 42 36 (stB s (.slice ax s.x.F.length cx) (.slice ar s.run.length cr)) #[.int .i64 t.id,.int .i64 t.wid,.int .i64 t.sts,.int .i64 t.sin,.int .i64 t.unt] zsT
 rw [←hw2] at BX
 obtain ⟨B,N1,N2,N3⟩:=BX
 have hs2:w2.heap.size=w.heap.size+3:=by rw [hw2];simp
 obtain ⟨A,hA⟩:∃ A,A=w.heap.size:=⟨_,rfl⟩
 have HA:Hd (A=w.heap.size):=⟨hA⟩
 rw [←hA] at B N1 N2 N3 hs2
 have hBw:Below w.heap.size w w2:=by rw [←hA];exact B
 have WT:=waiting_ok s.x.r s.x.g s.x.n s.x.o ax cx s.x.F w2 ((hx.read (Kept.refl _ _)).carry hBw) hf
 obtain ⟨⟨c0,c1,c2,c3,c4⟩,-⟩:=N1.stx
 have FI:∀ W,Below A w W→Calls Try.prog 16 #[.agg (stB s (.slice ax s.x.F.length cx) (.slice ar s.run.length cr)),.int .i64 t.wid] W fun e w'=>e=.returned (.tuple #[.int .i64 (ftN s t.wid),.bool (ftB s t.wid)])∧Below W.heap.size W w':=fun W b=>fits_ok s _ ar cr t.wid W (hr.carry (by rw [←hA];exact b)) (by omega)
 rw [hb] at FI
 have HFI:=Hd.mk FI
 have HCP:Hd (∀ W,Below A w W→Calls Try.prog 39 #[.agg (stB s (.slice ax s.x.F.length cx) (.slice ar s.run.length cr))] W fun e w'=>(∃ v u,e=.returned (.agg (stB s v u))∧StO w' W.heap.size s v u)∧Below W.heap.size W w'):=⟨fun W b=>scopied_ok s ax cx ar cr W ((hx.read (Kept.refl _ _)).carry (by rw [←hA];exact b)) hf (hr.carry (by rw [←hA];exact b)) (by omega)⟩
 have q10:w2.cell? ⟨A,10,none⟩=some (.bool false):=by rw [←hq];exact N1.cellv 10 rfl
 have q1:w2.cell? ⟨A,1,none⟩=some (.int .i64 s.lv.kind):=N1.cellv 1 rfl
 have k1:(s.lv.kind == 3)=false:=by simpa using hk
 have k2:(s.lv.kind == 1)=false:=by simpa using hk1
 unfold wtA at hw
 have HSA:Hd (∀ j,S j→j<A):=⟨fun j e=>by rw [hA];exact hS j e⟩
 have HB:Hd (Below A w w2∧w2.heap.size=A+3∧Blk w2 A 36 (stB s (.slice ax s.x.F.length cx) (.slice ar s.run.length cr))∧Blk w2 (A+1) 42 (tkA t)∧Blk w2 (A+1+1) 36 (stB sZ (.slice none 0 0) (.slice none 0 0))):=⟨B,hs2,N1,N2,N3⟩
 clear B N1 N2 N3 hx hr hf hBw FI
 obtain ⟨nn,hnn⟩:∃ nn,nn=ftN s t.wid:=⟨_,rfl⟩
 rw [←hnn] at HFI ⊢
 clear hnn hb
 rw [hw] at WT
 clear hw
 go_enter Try.func19,Try.ntmps19
 go_upto_region 1 with fail
 rw [←hw2]
 clear hw2
 rw [←hA]
 clear hA
 go_upto_region 7 with (go_at_call 37;refine WT.mono ?_;rintro e w5 ⟨rfl,b5⟩)
 clear c0 c1 c2 c3 c4 WT
 have b25:Below A w w5:=HB.out.1.trans (b5.mono (by have:=HB.out.2.1;omega))
 have M1:Hd (Blk w5 A 36 (stB s (.slice ax s.x.F.length cx) (.slice ar s.run.length cr))):=⟨HB.out.2.2.1.kept (Kept.of_below b5 (fun _=>False)) id⟩
 have M2:Blk w5 (A+1) 42 (tkA t):=HB.out.2.2.2.1.kept (Kept.of_below b5 (fun _=>False)) id
 have M3:Blk w5 (A+1+1) 36 (stB sZ (.slice none 0 0) (.slice none 0 0)):=HB.out.2.2.2.2.kept (Kept.of_below b5 (fun _=>False)) id
 obtain ⟨⟨d0,d1,d2,d3,d4⟩,-⟩:=M2.five
 have hs5:=b5.size
 have FI5:=HFI.out w5 b25
 have HB5:Hd (Below A w w5∧A+3≤w5.heap.size):=⟨b25,by have:=HB.out.2.1;omega⟩
 clear q1 q10 b25 b5 HFI HB hs5
 go_wp2_with (refine wpl_loadSt rfl _ rfl A rfl _ M1.out rfl ?_)
 go_at_call 16
 refine FI5.mono ?_
 rintro e w6 ⟨rfl,b6⟩
 have P1:=M1.out.kept (Kept.of_below b6 (fun _=>False)) id
 have P2:=M2.kept (Kept.of_below b6 (fun _=>False)) id
 have P3:=M3.kept (Kept.of_below b6 (fun _=>False)) id
 have HB6:Hd (Below A w w6∧A+3≤w6.heap.size):=⟨HB5.out.1.trans (b6.mono (by have:=HB5.out.2;omega)),by have:=HB5.out.2;have:=b6.size;omega⟩
 clear FI5 b6 d0 d1 d2 d3 d4 M1 M2 M3 HB5
 -- the seats
 have k7:Kept (fun j=>j=A+1) w6 (w6.setCell ⟨A+1,2,none⟩ (.int .i64 nn)):=(Kept.refl _ _).setCell _ _ (.inl rfl)
 have Q2:Blk (w6.setCell ⟨A+1,2,none⟩ (.int .i64 nn)) (A+1) 42 (tkA (seated t nn)):=P2.set 2 (.int .i64 nn)
 obtain ⟨⟨d0,d1,d2,d3,d4⟩,-,-,f2,-⟩:=P2.five
 have Q1:=P1.kept k7 (by omega)
 have Q3:=P3.kept k7 (by omega)
 have HB7:Hd (Below A w (w6.setCell ⟨A+1,2,none⟩ (.int .i64 nn))∧A+3≤(w6.setCell ⟨A+1,2,none⟩ (.int .i64 nn)).heap.size):=⟨HB6.out.1.trans (k7.below (by have:=HB6.out.2;omega) (fun j e=>by omega)),by have:=HB6.out.2;have:=k7.size;omega⟩
 have CP:=HCP.out _ HB7.out.1
 have H7:Hd (Blk (w6.setCell ⟨A+1,2,none⟩ (.int .i64 nn)) A 36 (stB s (.slice ax s.x.F.length cx) (.slice ar s.run.length cr))):=⟨Q1⟩
 clear P1 P2 P3 HB6 HCP k7 Q1
 go_upto_region 11 with fail
 clear d0 d1 d2 d3 d4 f2
 generalize w6.setCell ⟨A+1,2,none⟩ (.int .i64 nn)=w7 at *
 go_wp2_with (refine wpl_loadSt rfl _ rfl A rfl _ H7.out rfl ?_)
 go_at_call 39
 refine CP.mono ?_
 rintro e w8 ⟨⟨v8,u8,rfl,o8⟩,b8⟩
 obtain ⟨a8,c8,rfl,s8⟩:=o8.str
 obtain ⟨ar8,cr8,e8,r8⟩:=o8.run.read
 have P1:Blk w8 A 36 (stB s (.slice ax s.x.F.length cx) (.slice ar s.run.length cr)):=H7.out.kept (Kept.of_below b8 (fun _=>False)) id
 have P2:=Q2.kept (Kept.of_below b8 (fun _=>False)) id
 have P3:=Q3.kept (Kept.of_below b8 (fun _=>False)) id
 have OR:=o8.run
 have HB8:Hd (Below A w w8∧A+3≤w7.heap.size∧w7.heap.size≤w8.heap.size):=⟨HB7.out.1.trans (b8.mono (by have:=HB7.out.2;omega)),HB7.out.2,b8.size⟩
 subst e8
 clear CP b8 Q2 Q3 HB7 H7 o8 r8
 have HS8:Hd (StR (fun j=>(Value.slice ar8 s.run.length cr8).ownBlock=some j∨j<w7.heap.size) w8 a8 c8 s.x.F):=⟨s8⟩
 have HOR:Hd (OwnT w8 w7.heap.size (.slice ar8 s.run.length cr8) s.run):=⟨OR⟩
 clear s8 OR
 go_upto_region 12 with (refine wpl_storeSt rfl _ _ rfl A rfl (stB s (.slice a8 s.x.F.length c8) (.slice ar8 s.run.length cr8)) _ rfl P1 rfl rfl (st_one _ _ _ _ _ _ _) ?_;intro w9 n9 k9)
 have P2':=P2.kept k9 (by omega)
 have P3':=P3.kept k9 (by omega)
 have OR9:=HOR.out.kept k9 (fun j hj e=>by have:=HB8.out.2.1;omega)
 obtain ⟨w10,hw10⟩:∃ w10,w10=w9.alloc (.cells #[.int .i64 (seated t nn).id,.int .i64 (seated t nn).wid,.int .i64 (seated t nn).sts,.int .i64 (seated t nn).sin,.int .i64 (seated t nn).unt] 42):=⟨_,rfl⟩
 have B10:Below w9.heap.size w9 w10:=by rw [hw10];exact alloc_below _ _
 have T10:Blk w10 w9.heap.size 42 (tkA (seated t nn)):=by rw [hw10];exact Blk.new _ _ _
 have hs10:w9.heap.size<w10.heap.size:=T10.lt
 have OR10:Hd (OwnT w10 w7.heap.size (.slice ar8 s.run.length cr8) s.run∧SlR w10 (some ⟨w9.heap.size,0,none⟩) 1 [seated t nn]):=⟨OR9.kept (Kept.of_below B10 (fun _=>False)) (fun _ _ h=>h),one_sl T10⟩
 have HK9:Hd (Kept (fun j=>j=A) w8 w9∧Below w9.heap.size w9 w10∧Blk w10 A 36 (stB s (.slice a8 s.x.F.length c8) (.slice ar8 s.run.length cr8))∧Blk w10 (A+1+1) 36 (stB sZ (.slice none 0 0) (.slice none 0 0))∧w8.heap.size≤w9.heap.size):=⟨k9,B10,n9.kept (Kept.of_below B10 (fun _=>False)) id,P3'.kept (Kept.of_below B10 (fun _=>False)) id,k9.size⟩
 have g22:=n9.str.1
 obtain ⟨⟨d0,d1,d2,d3,d4⟩,-⟩:=P2'.five
 clear T10 OR9 P1 P2 P3 P2' P3' k9 B10 HOR
 go_upto_region 13 with (at_builtin;rw [←hw10];refine wpl_tks rfl _ _ rfl w7.heap.size _ s.run [seated t nn] rfl OR10.out.1 (some ⟨w9.heap.size,0,none⟩) 1 1 rfl rfl OR10.out.2 (by simp;omega) (by have:=HB8.out.2.2;have:=HK9.out.2.2.2.2;omega) ?_;intro u11 w11 o11 g11;have K11:=Kept.of_grown g11 (S:=fun j=>(Value.slice ar8 s.run.length cr8).ownBlock=some j) (fun k e=>e);have hlo:∀ j,(Value.slice ar8 s.run.length cr8).ownBlock=some j→w7.heap.size≤j:=fun j e=>(OR10.out.1.lt j e).1;have M11:=HK9.out.2.2.1.kept K11 (fun e=>by have:=hlo _ e;have:=HB8.out.2.1;omega);obtain ⟨r22,f22⟩:=M11.str;obtain ⟨l11,hl11⟩:∃ l11,l11=(s.run ++ [seated t nn]).length:=⟨_,rfl⟩;obtain ⟨a11,c11,e11,-⟩:=o11.read;rw [←hl11] at e11;subst e11;have HL:Hd (l11=(s.run ++ [seated t nn]).length):=⟨hl11⟩;clear hl11)
 obtain ⟨Q12,K12⟩:=st_run M11 (s.run ++ [seated t nn]) (.slice a11 l11 c11)
 have M12:=(HK9.out.2.2.2.1.kept K11 (fun e=>by have:=hlo _ e;have:=HB8.out.2.1;omega)).kept K12 (by omega)
 have O12:=o11.kept K12 (fun j hj e=>by have:=HB8.out.2.1;omega)
 have KT:Kept (fun j=>(Value.slice ar8 s.run.length cr8).ownBlock=some j∨j<w7.heap.size) w8 (w11.setCell ⟨A,22,none⟩ (.slice a11 l11 c11)):=by
  have h1:=HB8.out
  have h2:=HK9.out
  exact (((h2.1.mono (fun j _ e=>.inr (by omega))).trans (Kept.of_below h2.2.1 _)).trans (K11.mono (fun j _ e=>.inl e))).trans (K12.mono (fun j _ e=>.inr (by omega)))
 have KB:Kept (fun j=>A≤j) w8 (w11.setCell ⟨A,22,none⟩ (.slice a11 l11 c11)):=by
  have h1:=HB8.out
  have h2:=HK9.out
  exact (((h2.1.mono (fun j _ e=>by omega)).trans (Kept.of_below h2.2.1 _)).trans (K11.mono (fun j _ e=>by have:=hlo j e;omega))).trans (K12.mono (fun j _ e=>by omega))
 have hs12:w7.heap.size≤(w11.setCell ⟨A,22,none⟩ (.slice a11 l11 c11)).heap.size:=by have:=KT.size;have:=HB8.out.2.2;omega
 have HZ:Hd (∀ w13,Kept (fun j=>j=A+1+1) (w11.setCell ⟨A,22,none⟩ (.slice a11 l11 c11)) w13→StV S w13 { s with run:=s.run ++ [seated t nn] } (.agg (stB { s with run:=s.run ++ [seated t nn] } (.slice a8 s.x.F.length c8) (.slice a11 l11 c11)))∧Below A w w13):=⟨fun w13 k13=>by
  have h1:=HB8.out
  have kk:=KT.trans (k13.mono (fun j _ e=>.inr (by omega)))
  have kb:=KB.trans (k13.mono (fun j _ e=>by omega))
  have hl11:=HL.out
  subst hl11
  refine ⟨⟨a8,c8,a11,c11,rfl,HS8.out.stp kk (T:=S) (fun j _ e=>.inr (by have:=HSA.out j e;omega)),?_⟩,h1.1.trans (kb.below (by omega) (fun j e=>e))⟩
  obtain ⟨a',c',e',r'⟩:=(O12.kept k13 (fun j hj e=>by omega)).ts (S:=S) (fun j hj e=>by have:=HSA.out j e;omega)
  obtain ⟨rfl,-,rfl⟩:a11=a'∧True∧c11=c':=by injection e' with x1 x2 x3;exact ⟨x1,trivial,x3⟩
  exact r'⟩
 have HQ:Hd (Blk (w11.setCell ⟨A,22,none⟩ (.slice a11 l11 c11)) A 36 (stB { s with run:=s.run ++ [seated t nn] } (.slice a8 s.x.F.length c8) (.slice a11 l11 c11))∧Blk (w11.setCell ⟨A,22,none⟩ (.slice a11 l11 c11)) (A+1+1) 36 (stB sZ (.slice none 0 0) (.slice none 0 0))):=⟨Q12,M12⟩
 clear Q12 K12 M12 O12 KT KB hs12 HL M11 r22 f22 K11 g11 o11 hlo HS8 HK9 OR10 g22 d0 d1 d2 d3 d4
 generalize w11.setCell ⟨A,22,none⟩ (.slice a11 l11 c11)=w12 at *
 go_wp2_with (first | (refine wpl_loadSt rfl _ rfl A rfl _ HQ.out.1 rfl ?_) | (refine wpl_storeSt rfl _ _ rfl (A+1+1) rfl (stB { s with run:=s.run ++ [seated t nn] } (.slice a8 s.x.F.length c8) (.slice a11 l11 c11)) _ rfl HQ.out.2 rfl rfl (st_one _ _ _ _ _ _ _) ?_;intro w13 n13 k13))
 refine bodyPost_ret (resSt19 _ _ _ rfl rfl n13) rfl ?_
 obtain ⟨o13,b13⟩:=HZ.out w13 k13
 rw [←HA.out]
 exact ⟨⟨_,rfl,o13⟩,b13⟩
set_option maxRecDepth 20000 in
set_option maxHeartbeats 2000000 in
theorem arrive_exempt (s:St) (t:Tk) (ax:Option Addr) (cx:Nat) (ar:Option Addr) (cr:Nat) (ah:Option Addr) (nh ch:Nat) (w:World) (S:Nat→Prop) (hx:StR S w ax cx s.x.F) (hr:SlR w ar cr s.run) (hl:s.run.length≤1990) (hS:∀ j,S j→j<w.heap.size) (hf:Few s.x.F) (hq:s.q=false) (hk1:s.lv.kind=1) (hb:ftB s t.wid=true) :
  Calls Try.prog 19 #[.agg (stB s (.slice ax s.x.F.length cx) (.slice ar s.run.length cr)),.agg #[.int .i64 t.id,.int .i64 t.wid,.int .i64 t.sts,.int .i64 t.sin,.int .i64 t.unt],.slice ah nh ch] w fun e w'=>(∃ v,e=.returned (.tuple #[v,.int .i64 (0)])∧StV S w' ({ s with run:=s.run ++ [seated t (ftN s t.wid)] }) v)∧Below w.heap.size w w':=by
 obtain ⟨w2,hw2⟩:∃ w2,w2=(((w.alloc (.cells (stB s (.slice ax s.x.F.length cx) (.slice ar s.run.length cr)) 36)).alloc (.cells #[.int .i64 t.id,.int .i64 t.wid,.int .i64 t.sts,.int .i64 t.sin,.int .i64 t.unt] 42)).alloc (.cells zsT 36)):=⟨_,rfl⟩
 have BX:=boxes3 w 36 42 36 (stB s (.slice ax s.x.F.length cx) (.slice ar s.run.length cr)) #[.int .i64 t.id,.int .i64 t.wid,.int .i64 t.sts,.int .i64 t.sin,.int .i64 t.unt] zsT
 rw [←hw2] at BX
 obtain ⟨B,N1,N2,N3⟩:=BX
 have hs2:w2.heap.size=w.heap.size+3:=by rw [hw2];simp
 obtain ⟨A,hA⟩:∃ A,A=w.heap.size:=⟨_,rfl⟩
 have HA:Hd (A=w.heap.size):=⟨hA⟩
 rw [←hA] at B N1 N2 N3 hs2
 have hBw:Below w.heap.size w w2:=by rw [←hA];exact B
 have FI:∀ W,Below A w W→Calls Try.prog 16 #[.agg (stB s (.slice ax s.x.F.length cx) (.slice ar s.run.length cr)),.int .i64 t.wid] W fun e w'=>e=.returned (.tuple #[.int .i64 (ftN s t.wid),.bool (ftB s t.wid)])∧Below W.heap.size W w':=fun W b=>fits_ok s _ ar cr t.wid W (hr.carry (by rw [←hA];exact b)) (by omega)
 rw [hb] at FI
 have HFI:=Hd.mk FI
 have HCP:Hd (∀ W,Below A w W→Calls Try.prog 39 #[.agg (stB s (.slice ax s.x.F.length cx) (.slice ar s.run.length cr))] W fun e w'=>(∃ v u,e=.returned (.agg (stB s v u))∧StO w' W.heap.size s v u)∧Below W.heap.size W w'):=⟨fun W b=>scopied_ok s ax cx ar cr W ((hx.read (Kept.refl _ _)).carry (by rw [←hA];exact b)) hf (hr.carry (by rw [←hA];exact b)) (by omega)⟩
 have q10:w2.cell? ⟨A,10,none⟩=some (.bool false):=by rw [←hq];exact N1.cellv 10 rfl
 have q1:w2.cell? ⟨A,1,none⟩=some (.int .i64 1):=by rw [←hk1];exact N1.cellv 1 rfl
 have HSA:Hd (∀ j,S j→j<A):=⟨fun j e=>by rw [hA];exact hS j e⟩
 have HB:Hd (Below A w w2∧w2.heap.size=A+3∧Blk w2 A 36 (stB s (.slice ax s.x.F.length cx) (.slice ar s.run.length cr))∧Blk w2 (A+1) 42 (tkA t)∧Blk w2 (A+1+1) 36 (stB sZ (.slice none 0 0) (.slice none 0 0))):=⟨B,hs2,N1,N2,N3⟩
 clear B N1 N2 N3 hx hr hf hBw FI
 obtain ⟨nn,hnn⟩:∃ nn,nn=ftN s t.wid:=⟨_,rfl⟩
 rw [←hnn] at HFI ⊢
 clear hnn hb
 go_enter Try.func19,Try.ntmps19
 go_upto_region 1 with fail
 rw [←hw2]
 clear hw2
 rw [←hA]
 clear hA
 obtain ⟨w5,hw5⟩:∃ w5,w5=w2:=⟨_,rfl⟩
 have b5:Below w2.heap.size w2 w5:=by rw [hw5];exact Below.refl _ _
 go_upto_region 7 with fail
 rw [←hw5]
 clear hw5
 have b25:Below A w w5:=HB.out.1.trans (b5.mono (by have:=HB.out.2.1;omega))
 have M1:Hd (Blk w5 A 36 (stB s (.slice ax s.x.F.length cx) (.slice ar s.run.length cr))):=⟨HB.out.2.2.1.kept (Kept.of_below b5 (fun _=>False)) id⟩
 have M2:Blk w5 (A+1) 42 (tkA t):=HB.out.2.2.2.1.kept (Kept.of_below b5 (fun _=>False)) id
 have M3:Blk w5 (A+1+1) 36 (stB sZ (.slice none 0 0) (.slice none 0 0)):=HB.out.2.2.2.2.kept (Kept.of_below b5 (fun _=>False)) id
 obtain ⟨⟨d0,d1,d2,d3,d4⟩,-⟩:=M2.five
 have hs5:=b5.size
 have FI5:=HFI.out w5 b25
 have HB5:Hd (Below A w w5∧A+3≤w5.heap.size):=⟨b25,by have:=HB.out.2.1;omega⟩
 clear q1 q10 b25 b5 HFI HB hs5
 go_wp2_with (refine wpl_loadSt rfl _ rfl A rfl _ M1.out rfl ?_)
 go_at_call 16
 refine FI5.mono ?_
 rintro e w6 ⟨rfl,b6⟩
 have P1:=M1.out.kept (Kept.of_below b6 (fun _=>False)) id
 have P2:=M2.kept (Kept.of_below b6 (fun _=>False)) id
 have P3:=M3.kept (Kept.of_below b6 (fun _=>False)) id
 have HB6:Hd (Below A w w6∧A+3≤w6.heap.size):=⟨HB5.out.1.trans (b6.mono (by have:=HB5.out.2;omega)),by have:=HB5.out.2;have:=b6.size;omega⟩
 clear FI5 b6 d0 d1 d2 d3 d4 M1 M2 M3 HB5
 -- the seats
 have k7:Kept (fun j=>j=A+1) w6 (w6.setCell ⟨A+1,2,none⟩ (.int .i64 nn)):=(Kept.refl _ _).setCell _ _ (.inl rfl)
 have Q2:Blk (w6.setCell ⟨A+1,2,none⟩ (.int .i64 nn)) (A+1) 42 (tkA (seated t nn)):=P2.set 2 (.int .i64 nn)
 obtain ⟨⟨d0,d1,d2,d3,d4⟩,-,-,f2,-⟩:=P2.five
 have Q1:=P1.kept k7 (by omega)
 have Q3:=P3.kept k7 (by omega)
 have HB7:Hd (Below A w (w6.setCell ⟨A+1,2,none⟩ (.int .i64 nn))∧A+3≤(w6.setCell ⟨A+1,2,none⟩ (.int .i64 nn)).heap.size):=⟨HB6.out.1.trans (k7.below (by have:=HB6.out.2;omega) (fun j e=>by omega)),by have:=HB6.out.2;have:=k7.size;omega⟩
 have CP:=HCP.out _ HB7.out.1
 have H7:Hd (Blk (w6.setCell ⟨A+1,2,none⟩ (.int .i64 nn)) A 36 (stB s (.slice ax s.x.F.length cx) (.slice ar s.run.length cr))):=⟨Q1⟩
 clear P1 P2 P3 HB6 HCP k7 Q1
 go_upto_region 11 with fail
 clear d0 d1 d2 d3 d4 f2
 generalize w6.setCell ⟨A+1,2,none⟩ (.int .i64 nn)=w7 at *
 go_wp2_with (refine wpl_loadSt rfl _ rfl A rfl _ H7.out rfl ?_)
 go_at_call 39
 refine CP.mono ?_
 rintro e w8 ⟨⟨v8,u8,rfl,o8⟩,b8⟩
 obtain ⟨a8,c8,rfl,s8⟩:=o8.str
 obtain ⟨ar8,cr8,e8,r8⟩:=o8.run.read
 have P1:Blk w8 A 36 (stB s (.slice ax s.x.F.length cx) (.slice ar s.run.length cr)):=H7.out.kept (Kept.of_below b8 (fun _=>False)) id
 have P2:=Q2.kept (Kept.of_below b8 (fun _=>False)) id
 have P3:=Q3.kept (Kept.of_below b8 (fun _=>False)) id
 have OR:=o8.run
 have HB8:Hd (Below A w w8∧A+3≤w7.heap.size∧w7.heap.size≤w8.heap.size):=⟨HB7.out.1.trans (b8.mono (by have:=HB7.out.2;omega)),HB7.out.2,b8.size⟩
 subst e8
 clear CP b8 Q2 Q3 HB7 H7 o8 r8
 have HS8:Hd (StR (fun j=>(Value.slice ar8 s.run.length cr8).ownBlock=some j∨j<w7.heap.size) w8 a8 c8 s.x.F):=⟨s8⟩
 have HOR:Hd (OwnT w8 w7.heap.size (.slice ar8 s.run.length cr8) s.run):=⟨OR⟩
 clear s8 OR
 go_upto_region 12 with (refine wpl_storeSt rfl _ _ rfl A rfl (stB s (.slice a8 s.x.F.length c8) (.slice ar8 s.run.length cr8)) _ rfl P1 rfl rfl (st_one _ _ _ _ _ _ _) ?_;intro w9 n9 k9)
 have P2':=P2.kept k9 (by omega)
 have P3':=P3.kept k9 (by omega)
 have OR9:=HOR.out.kept k9 (fun j hj e=>by have:=HB8.out.2.1;omega)
 obtain ⟨w10,hw10⟩:∃ w10,w10=w9.alloc (.cells #[.int .i64 (seated t nn).id,.int .i64 (seated t nn).wid,.int .i64 (seated t nn).sts,.int .i64 (seated t nn).sin,.int .i64 (seated t nn).unt] 42):=⟨_,rfl⟩
 have B10:Below w9.heap.size w9 w10:=by rw [hw10];exact alloc_below _ _
 have T10:Blk w10 w9.heap.size 42 (tkA (seated t nn)):=by rw [hw10];exact Blk.new _ _ _
 have hs10:w9.heap.size<w10.heap.size:=T10.lt
 have OR10:Hd (OwnT w10 w7.heap.size (.slice ar8 s.run.length cr8) s.run∧SlR w10 (some ⟨w9.heap.size,0,none⟩) 1 [seated t nn]):=⟨OR9.kept (Kept.of_below B10 (fun _=>False)) (fun _ _ h=>h),one_sl T10⟩
 have HK9:Hd (Kept (fun j=>j=A) w8 w9∧Below w9.heap.size w9 w10∧Blk w10 A 36 (stB s (.slice a8 s.x.F.length c8) (.slice ar8 s.run.length cr8))∧Blk w10 (A+1+1) 36 (stB sZ (.slice none 0 0) (.slice none 0 0))∧w8.heap.size≤w9.heap.size):=⟨k9,B10,n9.kept (Kept.of_below B10 (fun _=>False)) id,P3'.kept (Kept.of_below B10 (fun _=>False)) id,k9.size⟩
 have g22:=n9.str.1
 obtain ⟨⟨d0,d1,d2,d3,d4⟩,-⟩:=P2'.five
 clear T10 OR9 P1 P2 P3 P2' P3' k9 B10 HOR
 go_upto_region 13 with (at_builtin;rw [←hw10];refine wpl_tks rfl _ _ rfl w7.heap.size _ s.run [seated t nn] rfl OR10.out.1 (some ⟨w9.heap.size,0,none⟩) 1 1 rfl rfl OR10.out.2 (by simp;omega) (by have:=HB8.out.2.2;have:=HK9.out.2.2.2.2;omega) ?_;intro u11 w11 o11 g11;have K11:=Kept.of_grown g11 (S:=fun j=>(Value.slice ar8 s.run.length cr8).ownBlock=some j) (fun k e=>e);have hlo:∀ j,(Value.slice ar8 s.run.length cr8).ownBlock=some j→w7.heap.size≤j:=fun j e=>(OR10.out.1.lt j e).1;have M11:=HK9.out.2.2.1.kept K11 (fun e=>by have:=hlo _ e;have:=HB8.out.2.1;omega);obtain ⟨r22,f22⟩:=M11.str;obtain ⟨l11,hl11⟩:∃ l11,l11=(s.run ++ [seated t nn]).length:=⟨_,rfl⟩;obtain ⟨a11,c11,e11,-⟩:=o11.read;rw [←hl11] at e11;subst e11;have HL:Hd (l11=(s.run ++ [seated t nn]).length):=⟨hl11⟩;clear hl11)
 obtain ⟨Q12,K12⟩:=st_run M11 (s.run ++ [seated t nn]) (.slice a11 l11 c11)
 have M12:=(HK9.out.2.2.2.1.kept K11 (fun e=>by have:=hlo _ e;have:=HB8.out.2.1;omega)).kept K12 (by omega)
 have O12:=o11.kept K12 (fun j hj e=>by have:=HB8.out.2.1;omega)
 have KT:Kept (fun j=>(Value.slice ar8 s.run.length cr8).ownBlock=some j∨j<w7.heap.size) w8 (w11.setCell ⟨A,22,none⟩ (.slice a11 l11 c11)):=by
  have h1:=HB8.out
  have h2:=HK9.out
  exact (((h2.1.mono (fun j _ e=>.inr (by omega))).trans (Kept.of_below h2.2.1 _)).trans (K11.mono (fun j _ e=>.inl e))).trans (K12.mono (fun j _ e=>.inr (by omega)))
 have KB:Kept (fun j=>A≤j) w8 (w11.setCell ⟨A,22,none⟩ (.slice a11 l11 c11)):=by
  have h1:=HB8.out
  have h2:=HK9.out
  exact (((h2.1.mono (fun j _ e=>by omega)).trans (Kept.of_below h2.2.1 _)).trans (K11.mono (fun j _ e=>by have:=hlo j e;omega))).trans (K12.mono (fun j _ e=>by omega))
 have hs12:w7.heap.size≤(w11.setCell ⟨A,22,none⟩ (.slice a11 l11 c11)).heap.size:=by have:=KT.size;have:=HB8.out.2.2;omega
 have HZ:Hd (∀ w13,Kept (fun j=>j=A+1+1) (w11.setCell ⟨A,22,none⟩ (.slice a11 l11 c11)) w13→StV S w13 { s with run:=s.run ++ [seated t nn] } (.agg (stB { s with run:=s.run ++ [seated t nn] } (.slice a8 s.x.F.length c8) (.slice a11 l11 c11)))∧Below A w w13):=⟨fun w13 k13=>by
  have h1:=HB8.out
  have kk:=KT.trans (k13.mono (fun j _ e=>.inr (by omega)))
  have kb:=KB.trans (k13.mono (fun j _ e=>by omega))
  have hl11:=HL.out
  subst hl11
  refine ⟨⟨a8,c8,a11,c11,rfl,HS8.out.stp kk (T:=S) (fun j _ e=>.inr (by have:=HSA.out j e;omega)),?_⟩,h1.1.trans (kb.below (by omega) (fun j e=>e))⟩
  obtain ⟨a',c',e',r'⟩:=(O12.kept k13 (fun j hj e=>by omega)).ts (S:=S) (fun j hj e=>by have:=HSA.out j e;omega)
  obtain ⟨rfl,-,rfl⟩:a11=a'∧True∧c11=c':=by injection e' with x1 x2 x3;exact ⟨x1,trivial,x3⟩
  exact r'⟩
 have HQ:Hd (Blk (w11.setCell ⟨A,22,none⟩ (.slice a11 l11 c11)) A 36 (stB { s with run:=s.run ++ [seated t nn] } (.slice a8 s.x.F.length c8) (.slice a11 l11 c11))∧Blk (w11.setCell ⟨A,22,none⟩ (.slice a11 l11 c11)) (A+1+1) 36 (stB sZ (.slice none 0 0) (.slice none 0 0))):=⟨Q12,M12⟩
 clear Q12 K12 M12 O12 KT KB hs12 HL M11 r22 f22 K11 g11 o11 hlo HS8 HK9 OR10 g22 d0 d1 d2 d3 d4
 generalize w11.setCell ⟨A,22,none⟩ (.slice a11 l11 c11)=w12 at *
 go_wp2_with (first | (refine wpl_loadSt rfl _ rfl A rfl _ HQ.out.1 rfl ?_) | (refine wpl_storeSt rfl _ _ rfl (A+1+1) rfl (stB { s with run:=s.run ++ [seated t nn] } (.slice a8 s.x.F.length c8) (.slice a11 l11 c11)) _ rfl HQ.out.2 rfl rfl (st_one _ _ _ _ _ _ _) ?_;intro w13 n13 k13))
 refine bodyPost_ret (resSt19 _ _ _ rfl rfl n13) rfl ?_
 obtain ⟨o13,b13⟩:=HZ.out w13 k13
 rw [←HA.out]
 exact ⟨⟨_,rfl,o13⟩,b13⟩
theorem wtA_lo (F:List Ln):0≤wtA F:=wtT_lo F F.length
theorem arrive_st (s:St) (t:Tk) (ax:Option Addr) (cx:Nat) (ar:Option Addr) (cr:Nat) (ah:Option Addr) (nh ch:Nat) (w:World) (S:Nat→Prop) (H0:Nat→Int) (hx:StR S w ax cx s.x.F) (hr:SlR w ar cr s.run) (hl:s.run.length≤1990) (hS:∀ j,S j→j<w.heap.size) (hf:Few s.x.F) (hh:HnR w ah nh H0) (hnh:nh≤1000) :
  Calls Try.prog 19 #[.agg (stB s (.slice ax s.x.F.length cx) (.slice ar s.run.length cr)),.agg #[.int .i64 t.id,.int .i64 t.wid,.int .i64 t.sts,.int .i64 t.sin,.int .i64 t.unt],.slice ah nh ch] w fun e w'=>(∃ v,e=.returned (.tuple #[v,.int .i64 (arE s t (chF s.x.F s.x.o H0 nh))])∧StV S w' (orZ (arE s t (chF s.x.F s.x.o H0 nh)) (arX s t (chF s.x.F s.x.o H0 nh))) v)∧Below w.heap.size w w':=by
 unfold arE
 by_cases hq:s.q=true
 ·rw [if_pos hq,orZ_no (by decide)]
  exact arrive_quiet s t ax cx ar cr ah nh ch w S hq
 ·rw [if_neg hq]
  have hq:s.q=false:=by simpa using hq
  by_cases hk:s.lv.kind=3
  ·rw [if_pos hk]
   have e:arX s t (chF s.x.F s.x.o H0 nh)={ s with x:=jnX s.x (chF s.x.F s.x.o H0 nh) (seated t 0) }:=if_pos hk
   rw [e]
   exact arrive_queue s t ax cx ar cr ah nh ch w S H0 hh hnh hx hr hl hS hf hq hk
  ·rw [if_neg hk]
   have e:arX s t (chF s.x.F s.x.o H0 nh)={ s with run:=s.run ++ [seated t (ftN s t.wid)] }:=if_neg hk
   rw [e]
   by_cases hw:s.lv.kind≠1∧0<wtA s.x.F
   ·rw [if_pos hw,orZ_no (by decide)]
    exact arrive_waits s t ax cx ar cr ah nh ch w S hx hf hq hk hw.1 hw.2
   ·rw [if_neg hw]
    by_cases hb:ftB s t.wid=true
    ·rw [if_pos hb,orZ_yes]
     by_cases k1:s.lv.kind=1
     ·exact arrive_exempt s t ax cx ar cr ah nh ch w S hx hr hl hS hf hq k1 hb
     ·exact arrive_room s t ax cx ar cr ah nh ch w S hx hr hl hS hf hq hk k1 (by have:=wtA_lo s.x.F;have:¬ 0<wtA s.x.F:=fun q=>hw ⟨k1,q⟩;omega) hb
    ·rw [if_neg hb,orZ_no (by decide)]
     have hb:ftB s t.wid=false:=by simpa using hb
     have k1:s.lv.kind≠1:=fun k=>by rw [ftB_exempt k] at hb;cases hb
     exact arrive_full s t ax cx ar cr ah nh ch w S hx hr hl hf hq hk k1 (by have:=wtA_lo s.x.F;have:¬ 0<wtA s.x.F:=fun q=>hw ⟨k1,q⟩;omega) hb
def dpE (x:Fa) (d:Int):Int:=if dpO x d=true then 0 else 6
set_option maxRecDepth 20000 in
set_option maxHeartbeats 2000000 in
theorem sdrop_st (s:St) (d:Int) (ax:Option Addr) (cx:Nat) (ar:Option Addr) (cr:Nat) (w:World) (S:Nat→Prop) (hx:StR S w ax cx s.x.F) (hr:SlR w ar cr s.run) (hl:s.run.length≤1990) (hS:∀ j,S j→j<w.heap.size) (hf:Few s.x.F) :
  Calls Try.prog 25 #[.agg (stB s (.slice ax s.x.F.length cx) (.slice ar s.run.length cr)),.int .i64 d] w fun e w'=>(∃ v,e=.returned (.tuple #[v,.agg #[.int .i64 (dpT s.x d).id,.int .i64 (dpT s.x d).wid,.int .i64 (dpT s.x d).sts,.int .i64 (dpT s.x d).sin,.int .i64 (dpT s.x d).unt],.int .i64 (dpE s.x d)])∧StV S w' (orZ (dpE s.x d) { s with x:=dpX s.x d }) v)∧Below w.heap.size w w':=by
 obtain ⟨w2,hw2⟩:∃ w2,w2=(((w.alloc (.cells (stB s (.slice ax s.x.F.length cx) (.slice ar s.run.length cr)) 36)).alloc (.cells zsT 36)).alloc (.cells #[.int .i64 0,.int .i64 0,.int .i64 0,.int .i64 0,.int .i64 0] 42)):=⟨_,rfl⟩
 have BX:=boxes3 w 36 36 42 (stB s (.slice ax s.x.F.length cx) (.slice ar s.run.length cr)) zsT #[.int .i64 0,.int .i64 0,.int .i64 0,.int .i64 0,.int .i64 0]
 rw [←hw2] at BX
 obtain ⟨B,N1,N2,N3⟩:=BX
 have hs2:w2.heap.size=w.heap.size+3:=by rw [hw2];simp
 obtain ⟨A,hA⟩:∃ A,A=w.heap.size:=⟨_,rfl⟩
 have HA:Hd (A=w.heap.size):=⟨hA⟩
 rw [←hA] at B N1 N2 N3 hs2
 have hBw:Below w.heap.size w w2:=by rw [←hA];exact B
 have hx2:StR (Sx S A (A+3)) w2 ax cx s.x.F:=hx.sx hBw hA
 have DR:=drop_st s.x ax cx w2 (Sx S A (A+3)) hx2 (by rw [hs2];exact Sx.lt (by rw [hA];exact hS) (by omega)) hf d
 have HW:Hd (∀ W (y:Fa) av nv cv,Below A w W→Calls Try.prog 49 #[.agg (stB s (.slice ax s.x.F.length cx) (.slice ar s.run.length cr)),.agg #[.int .u64 y.r,.int .i64 y.g,.int .i64 y.n,.int .i64 y.o,.slice av nv cv]] W fun e w'=>(∃ u,e=.returned (.agg (stB { s with x:=y } (.slice av nv cv) u))∧OwnT w' (W.heap.size+3) u s.run)∧Below W.heap.size W w'):=⟨fun W y av nv cv b=>swith_ok s _ ar cr y av nv cv W (hr.carry (by rw [←hA];exact b)) (by omega)⟩
 have HSZ:Hd (∀ j,S j→j<A):=⟨fun j e=>by rw [hA];exact hS j e⟩
 have HM:Hd (Below A w w2∧w2.heap.size=A+3):=⟨B,hs2⟩
 obtain ⟨⟨c0,c1,c2,c3,c4⟩,-⟩:=N1.stx
 have HB:Hd (Blk w2 A 36 (stB s (.slice ax s.x.F.length cx) (.slice ar s.run.length cr))∧Blk w2 (A+1) 36 (stB sZ (.slice none 0 0) (.slice none 0 0))∧Blk w2 (A+1+1) 42 (tkA tkZ)):=⟨N1,N2,N3⟩
 clear N1 N2 N3 B hx hx2 hr hf hs2 hS hBw
 have HZ:Hd ((dpO s.x d=false→dpE s.x d=6∧dpT s.x d=tkZ)∧(dpO s.x d=true→dpE s.x d=0)):=⟨fun h=>⟨by unfold dpE;rw [h];rfl,if_neg (of_decide_eq_false h)⟩,fun h=>if_pos h⟩
 generalize dpE s.x d=er at *
 generalize s.run.length=m at *
 generalize s.x.F.length=n at *
 generalize dpX s.x d=y at *
 generalize dpT s.x d=z at *
 generalize dpO s.x d=ok at *
 go_enter Try.func25,Try.ntmps25
 go_upto_region 1 with fail
 rw [←hw2]
 clear hw2
 rw [←hA]
 clear hA
 go_wp2_with fail
 go_at_call 48
 refine DR.mono ?_
 rintro e w5 ⟨⟨v5,rfl,a5,c5,rfl,s5⟩,b5⟩
 clear DR c0 c1 c2 c3 c4
 obtain ⟨l5,hl5⟩:∃ l5,l5=y.F.length:=⟨_,rfl⟩
 have HL5:Hd (l5=y.F.length):=⟨hl5⟩
 rw [←hl5]
 clear hl5
 obtain ⟨w6,hw6⟩:∃ w6,w6=(w5.alloc (.cells #[.int .u64 y.r,.int .i64 y.g,.int .i64 y.n,.int .i64 y.o,.slice a5 l5 c5] 33)).alloc (.cells #[.int .i64 z.id,.int .i64 z.wid,.int .i64 z.sts,.int .i64 z.sin,.int .i64 z.unt] 42):=⟨_,rfl⟩
 have BX:=boxes w5 33 42 #[.int .u64 y.r,.int .i64 y.g,.int .i64 y.n,.int .i64 y.o,.slice a5 l5 c5] #[.int .i64 z.id,.int .i64 z.wid,.int .i64 z.sts,.int .i64 z.sin,.int .i64 z.unt]
 rw [←hw6] at BX
 obtain ⟨B6,N6,T6⟩:=BX
 have b36:Below w2.heap.size w2 w6:=b5.trans (B6.mono b5.size)
 have hb5:=b5.size
 have HB6:Hd (Below A w w6∧Blk w6 A 36 (stB s (.slice ax n cx) (.slice ar m cr))∧Blk w6 (A+1) 36 (stB sZ (.slice none 0 0) (.slice none 0 0))∧Blk w6 (A+1+1) 42 (tkA tkZ)∧A+3≤w6.heap.size):=⟨HM.out.1.trans (b36.mono (by have:=HM.out.2;omega)),HB.out.1.kept (Kept.of_below b36 (fun _=>False)) id,HB.out.2.1.kept (Kept.of_below b36 (fun _=>False)) id,HB.out.2.2.kept (Kept.of_below b36 (fun _=>False)) id,by have:=HM.out.2;have:=b36.size;omega⟩
 have HS6:Hd (StR (Sx S A (A+3)) w6 a5 c5 y.F):=⟨s5.high B6 (fun _ _ h=>h)⟩
 have HF6:Hd (Blk w6 w5.heap.size 33 (faA y.r y.g y.n y.o (.slice a5 l5 c5))∧Blk w6 (w5.heap.size+1) 42 (tkA z)):=⟨N6,T6⟩
 have hA5:Hd (A+3≤w5.heap.size):=⟨by have:=HM.out.2;omega⟩
 clear s5 b5 B6 N6 T6 b36 HB HM hb5
 cases ok with
 | false =>
  obtain ⟨rfl,rfl⟩:=HZ.out.1 rfl
  clear HW HS6 HZ
  go_upto_region 3 with fail
  rw [←hw6]
  clear hw6
  have K9:Hd (∀ w9,Kept (fun j=>j=A+1) w6 w9→Blk w9 (A+1+1) 42 (tkA tkZ)):=⟨fun w9 k=>HB6.out.2.2.2.1.kept k (by omega)⟩
  go_wp2_with (refine wpl_storeSt rfl _ _ rfl (A+1) rfl (stB sZ (.slice none 0 0) (.slice none 0 0)) _ rfl HB6.out.2.2.1 rfl rfl (st_one _ _ _ _ _ _ _) ?_;intro w9 n9 k9;obtain ⟨⟨e0,e1,e2,e3,e4⟩,g0,g1,g2,g3,g4⟩:=Blk.five (K9.out w9 k9))
  obtain ⟨Q1,Q2⟩:=five_set (K9.out w9 k9) tkZ
  refine bodyPost_ret (resSt25 _ _ _ _ rfl rfl rfl rfl (n9.kept Q2 (by omega)) Q1) rfl ?_
  have b9:=HB6.out.1.trans (((k9.mono (T:=fun j=>A≤j) (fun j _ e=>by omega)).trans (Q2.mono (fun j _ e=>by omega))).below (by have:=HB6.out.2.2.2.2;omega) (fun j e=>e))
  rw [←HA.out]
  exact ⟨⟨_,rfl,by rw [orZ_no (by decide)];exact sZ_v S _⟩,b9⟩
 | true =>
  obtain rfl:=HZ.out.2 rfl
  clear HZ
  obtain ⟨F6,T6⟩:=HF6.out
  have HW6:=HW.out w6.drew y a5 l5 c5 HB6.out.1.drew
  obtain ⟨g8,hg8⟩:∃ g8,g8=w5.heap.size+1:=⟨_,rfl⟩
  have T0:Hd (Blk w6.drew A 36 (stB s (.slice ax n cx) (.slice ar m cr))∧Blk w6.drew w5.heap.size 33 (faA y.r y.g y.n y.o (.slice a5 l5 c5))∧Blk w6.drew g8 42 (tkA z)):=⟨HB6.out.2.1,F6,by rw [hg8];exact T6⟩
  have M6:Hd (Below A w w6.drew∧Blk w6.drew (A+1) 36 (stB sZ (.slice none 0 0) (.slice none 0 0))∧Blk w6.drew (A+1+1) 42 (tkA tkZ)∧A+3≤w6.drew.heap.size∧A+3≤w5.heap.size∧A+3≤g8∧StR (Sx S A (A+3)) w6.drew a5 c5 y.F):=⟨HB6.out.1.drew,HB6.out.2.2.1,HB6.out.2.2.2.1,HB6.out.2.2.2.2,hA5.out,by have:=hA5.out;omega,HS6.out.high (Below.refl _ _).drew (fun _ _ h=>h)⟩
  clear F6 T6 HW HF6 HB6 HS6 hA5
  go_upto_region 4 with fail
  rw [←hw6,← hg8]
  clear hw6 hg8
  refine AnyG.start (T:=fun W=>Blk W A 36 (stB s (.slice ax n cx) (.slice ar m cr))∧Blk W w5.heap.size 33 (faA y.r y.g y.n y.o (.slice a5 l5 c5))∧Blk W g8 42 (tkA z)) (U:=fun _=>True) (j0:=2) (by kernel_rfl) ?_
  generalize w6.drew=w6 at *
  generalize w5.heap.size=g7 at *
  refine .tq (v:=.agg (stB s (.slice ax n cx) (.slice ar m cr))) 0 22 T0.out ?_ (hy:=fun w hSw=>exec_loadSt _ rfl A rfl _ hSw.1 rfl);simp only [oqA,oqB,oqC]
  refine .tq (v:=.agg #[.int .u64 y.r,.int .i64 y.g,.int .i64 y.n,.int .i64 y.o,.slice a5 l5 c5]) 1 23 T0.out ?_ (hy:=fun w hSw=>by obtain ⟨c0,c1,c2,c3,c4⟩:=(Blk.fair hSw.2.1).1;go_simp);simp only [oqA,oqB,oqC]
  refine .tq (v:=.agg #[.int .i64 z.id,.int .i64 z.wid,.int .i64 z.sts,.int .i64 z.sin,.int .i64 z.unt]) 3 25 T0.out ?_ (hy:=fun w hSw=>by obtain ⟨c0,c1,c2,c3,c4⟩:=(Blk.five hSw.2.2).1;go_simp);simp only [oqA,oqB,oqC]
  refine AnyG.ready (rs:=[2]) (by kernel_rfl) (by simp) ?_
  refine AllG.cons rfl (fun K hK=>?_) AllG.nil
  go_simp
  refine HW6.mono ?_
  rintro e w7 ⟨⟨u7,rfl,o7⟩,b7⟩
  obtain ⟨a7,c7,e7,-⟩:=o7.read
  obtain ⟨m7,hm7⟩:∃ m7,m7=s.run.length:=⟨_,rfl⟩
  rw [←hm7] at e7
  subst e7
  have k67:Kept (fun _=>False) w6 w7:=Kept.of_below b7 _
  have T7:Blk w7 A 36 (stB s (.slice ax n cx) (.slice ar m cr))∧Blk w7 g7 33 (faA y.r y.g y.n y.o (.slice a5 l5 c5))∧Blk w7 g8 42 (tkA z):=⟨T0.out.1.kept k67 id,T0.out.2.1.kept k67 id,T0.out.2.2.kept k67 id⟩
  have M7:Blk w7 (A+1) 36 (stB sZ (.slice none 0 0) (.slice none 0 0)):=M6.out.2.1.kept k67 id
  have M8:Hd (Blk w7 (A+1+1) 42 (tkA tkZ)):=⟨M6.out.2.2.1.kept k67 id⟩
  have HE:Hd (∀ w9,Kept (fun j=>j=A+1∨j=A+1+1) w7 w9→StV S w9 { s with x:=y } (.agg (stB { s with x:=y } (.slice a5 l5 c5) (.slice a7 m7 c7)))∧Below A w w9):=⟨fun w9 k9=>by
   obtain ⟨h1,h2,h3,h4,h5,h6,h7⟩:=M6.out
   have hs7:=b7.size
   refine ⟨⟨a5,c5,a7,c7,by rw [HL5.out,hm7],?_,?_⟩,(h1.trans (b7.mono (by omega))).trans (k9.below (by omega) (fun j e=>by omega))⟩
   ·exact (h7.high b7 (T:=Sx S A (A+3)) (fun _ _ h=>h)).stp (k9.mono (T:=Sx S A (A+3)) (fun j _ e=>.inr ⟨by omega,by omega⟩)) (T:=S) (fun j _ e=>.inl e)
   ·have q:=(o7.kept k9 (fun j hj e=>by omega)).ts (S:=S) (fun j hj e=>by have:=HSZ.out j e;omega)
    obtain ⟨a',c',e',r'⟩:=q
    obtain ⟨rfl,-,rfl⟩:a7=a'∧True∧c7=c':=by injection e' with x1 x2 x3;exact ⟨x1,trivial,x3⟩
    exact r'⟩
  have HG:Hd (A+3≤g7∧A+3≤g8):=⟨M6.out.2.2.2.2.1,M6.out.2.2.2.2.2.1⟩
  refine hK.out _ _ ⟨T7,fun _=>trivial⟩ ?_
  clear hK K T0 M6 hm7 o7 k67 b7 HW6
  refine AnyG.ready (rs:=[4]) (by kernel_rfl) (by simp) ?_
  refine AllG.cons rfl (fun K hK=>?_) AllG.nil
  refine step_storeSt rfl _ _ rfl (A+1) rfl (stB { s with x:=y } (.slice a5 l5 c5) (.slice a7 m7 c7)) _ rfl M7 rfl rfl (st_one _ _ _ _ _ _ _) ?_
  intro w9 n9 k9
  have T9:Blk w9 A 36 (stB s (.slice ax n cx) (.slice ar m cr))∧Blk w9 g7 33 (faA y.r y.g y.n y.o (.slice a5 l5 c5))∧Blk w9 g8 42 (tkA z):=⟨T7.1.kept k9 (by omega),T7.2.1.kept k9 (by have:=HG.out;omega),T7.2.2.kept k9 (by have:=HG.out;omega)⟩
  have P9:=M8.out.kept k9 (by omega)
  refine hK.out _ _ ⟨T9,fun _=>trivial⟩ ?_
  clear hK K T7 M7 M8
  refine AnyG.ready (rs:=[5]) (by kernel_rfl) (by simp) ?_
  refine AllG.cons rfl (fun K hK=>?_) AllG.nil
  obtain ⟨⟨e0,e1,e2,e3,e4⟩,g0,g1,g2,g3,g4⟩:=Blk.five P9
  go_simp
  obtain ⟨Q1,Q2⟩:=five_set P9 z
  refine hK.out _ _ ⟨⟨T9.1.kept Q2 (by omega),T9.2.1.kept Q2 (by have:=HG.out;omega),T9.2.2.kept Q2 (by have:=HG.out;omega)⟩,fun _=>trivial⟩ ?_
  clear hK K
  refine AnyG.ready (rs:=[6]) (by kernel_rfl) (by simp) ?_
  refine AllG.cons rfl (fun K hK=>?_) AllG.nil
  go_simp
  refine hK.out _ _ ⟨⟨T9.1.kept Q2 (by omega),T9.2.1.kept Q2 (by have:=HG.out;omega),T9.2.2.kept Q2 (by have:=HG.out;omega)⟩,fun _=>trivial⟩ ?_
  refine AnyG.done (by kernel_rfl) ?_ _
  have n10:=n9.kept Q2 (by omega)
  obtain ⟨o9,b9⟩:=HE.out _ ((k9.mono (T:=fun j=>j=A+1∨j=A+1+1) (fun j _ e=>.inl e)).trans (Q2.mono (fun j _ e=>.inr e)))
  clear hK K T9 P9 e0 e1 e2 e3 e4 g0 g1 g2 g3 g4
  generalize (((((w9.setCell ⟨A+1+1,0,none⟩ (.int .i64 z.id)).setCell ⟨A+1+1,1,none⟩ (.int .i64 z.wid)).setCell ⟨A+1+1,2,none⟩ (.int .i64 z.sts)).setCell ⟨A+1+1,3,none⟩ (.int .i64 z.sin)).setCell ⟨A+1+1,4,none⟩ (.int .i64 z.unt))=w10 at *
  go_wp2_with fail
  refine bodyPost_ret (resSt25 _ _ _ _ rfl rfl rfl rfl n10 Q1) rfl ?_
  rw [←HA.out]
  exact ⟨⟨_,rfl,by rw [orZ_yes];exact o9⟩,b9⟩
end Go.Proofs.Ytlgibnmoogbdcaa
