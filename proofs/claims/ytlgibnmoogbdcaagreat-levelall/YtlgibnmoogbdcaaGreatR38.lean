/-
  A level that is copied, by the reference.
  A level is turned to other numbers, by the reference.
-/
import Derived.Test.YtlgibnmoogbdcaaGreatR37
namespace Go.Proofs.YtlgibnmoogbdcaaGreat
open Go.RowKit
structure StQ (w:World) (A:Nat) (s:St) (v u:Value):Prop where
 own:OwL w A v s.x.F
 ex:∃ B2,(A≤B2∧B2≤w.heap.size)∧(∃ a c,v=.slice a s.x.F.length c∧StR (fun j=>j<A∨B2≤j) w a c s.x.F)∧OwnT w B2 u s.run
theorem OwL.kept0 {S:Nat→Prop} {w w':World} {B:Nat} {v:Value} {F:List Ln} (h:OwL w B v F) (k:Kept S w w') (hS:∀ j,B≤j→j<w.heap.size→¬ S j):OwL w' B v F:=by
 obtain ⟨Z,h1,h2,h3⟩:=h
 exact ⟨Z,h1,ownsRow_kept h2 k (fun j e=>hS j (h2.lt j e).1 (h2.lt j e).2),fun z hz=>(h3 z hz).keptV k (fun j e=>hS j ((h3 z hz).lt j e).1 ((h3 z hz).lt j e).2)⟩
theorem OwL.low0 {w:World} {B B':Nat} {v:Value} {F:List Ln} (h:OwL w B v F) (hB:B'≤B):OwL w B' v F:=by
 obtain ⟨Z,h1,h2,h3⟩:=h
 exact ⟨Z,h1,⟨h2.1,h2.2.imp id (fun ⟨g,cap,cur,e,hb,r⟩=>⟨g,cap,cur,e,Nat.le_trans hB hb,r⟩)⟩,fun z hz=>(h3 z hz).low hB⟩
set_option maxRecDepth 20000 in
set_option maxHeartbeats 2000000 in
theorem scopyr_ok (s:St) (ax:Option Addr) (cx:Nat) (ar:Option Addr) (cr:Nat) (w:World) (hx:LsR w ax cx s.x.F) (hf:Few s.x.F) (hr:SlR w ar cr s.run) (hl:s.run.length≤2000) :
  Calls Tryz.prog 6 #[.agg (stB s (.slice ax s.x.F.length cx) (.slice ar s.run.length cr))] w fun e w'=>(∃ v u,e=.returned (.agg (stB s v u))∧StQ w' w.heap.size s v u)∧Below w.heap.size w w':=by
 obtain ⟨w2,hw2⟩:∃ w2,w2=((w.alloc (.cells (stB s (.slice ax s.x.F.length cx) (.slice ar s.run.length cr)) 34)).alloc (.cells zsT 34)):=⟨_,rfl⟩
 have BX:=boxes w 34 34 (stB s (.slice ax s.x.F.length cx) (.slice ar s.run.length cr)) zsT
 rw [←hw2] at BX
 obtain ⟨B,N1,N2⟩:=BX
 have hs2:w2.heap.size=w.heap.size+2:=by rw [hw2];simp
 obtain ⟨A,hA⟩:∃ A,A=w.heap.size:=⟨_,rfl⟩
 have HA:Hd (A=w.heap.size):=⟨hA⟩
 rw [←hA] at B N1 N2 hs2
 have hBw:Below w.heap.size w w2:=by rw [←hA];exact B
 have RC:=rcopy_ok s.x.r s.x.g s.x.n s.x.o ax cx s.x.F w2 (hx.carry hBw) hf
 obtain ⟨⟨c0,c1,c2,c3,c4⟩,-⟩:=N1.stx
 have HB:=Hd.mk (And.intro B (And.intro hs2 (And.intro N1 (And.intro N2 (fun (W:World) (b:Below A w W)=>hr.carry (w':=W) (by rw [←hA];exact b))))))
 obtain ⟨n,hn⟩:∃ n,n=s.x.F.length:=⟨_,rfl⟩
 obtain ⟨m,hm⟩:∃ m,m=s.run.length:=⟨_,rfl⟩
 have HL:=Hd.mk (And.intro hn (And.intro hm hl))
 rw [←hn,← hm] at HB
 rw [←hn] at RC c4
 rw [←hn,← hm] at hw2
 rw [←hn,← hm]
 clear hn hm N1 N2 B hx hr hs2 hBw hl
 go_enter Tryz.func6,Tryz.ntmps6
 go_upto_region 1 with fail
 rw [←hw2]
 clear hw2
 rw [←hA]
 clear hA
 go_wp2_with fail
 go_at_call 32
 refine RC.mono ?_
 rintro e w5 ⟨⟨v5,rfl,u5,rfl,o5⟩,b5⟩
 clear RC c0 c1 c2 c3 c4
 obtain ⟨a5,c5,rfl,r5⟩:=o5.read
 rw [←HL.out.1] at o5 ⊢
 have k5:Kept (fun _=>False) w2 w5:=Kept.of_below b5 _
 have P5:=HB.out.2.2.1.kept k5 id
 obtain ⟨⟨x0,x1,x2,x3,x4⟩,f0,f1,f2,f3,f4⟩:=P5.stx
 obtain ⟨Q6,K6⟩:=st_fair P5 s.x (.slice a5 n c5)
 obtain ⟨w6,hw6⟩:∃ w6,w6=(((((w5.setCell ⟨A,17,none⟩ (.int .u64 s.x.r)).setCell ⟨A,18,none⟩ (.int .i64 s.x.g)).setCell ⟨A,19,none⟩ (.int .i64 s.x.n)).setCell ⟨A,20,none⟩ (.int .i64 s.x.o)).setCell ⟨A,21,none⟩ (.slice a5 n c5)):=⟨_,rfl⟩
 rw [←hw6] at Q6 K6
 have Q6:Blk w6 A 34 (stB s (.slice a5 n c5) (.slice ar m cr)):=Q6
 have hs5:=b5.size
 have hs6:=K6.size
 have OL:Hd (OwL w5 w2.heap.size (.slice a5 n c5) s.x.F):=⟨o5⟩
 have H6:=Hd.mk (And.intro Q6 (And.intro (HB.out.2.2.2.1.kept k5 id |>.kept K6 (by omega)) (And.intro b5 K6)))
 clear k5 P5 Q6 K6 o5 r5 b5
 go_upto_region 2 with fail
 rw [←hw6]
 clear hw6 x0 x1 x2 x3 x4 f0 f1 f2 f3 f4
 obtain ⟨w7,hw7⟩:∃ w7,w7=w6.alloc (.cells #[] 36):=⟨_,rfl⟩
 have B7:Below w6.heap.size w6 w7:=by rw [hw7];exact alloc_below _ _
 have O7:OwnT w7 w6.heap.size (.slice (some ⟨w6.heap.size,0,none⟩) 0 0) []:=by rw [hw7];exact OwnT.lit w6 _ (Nat.le_refl _)
 have g22:w7.cell? ⟨A,22,none⟩=some (.slice ar m cr):=(H6.out.1.kept (Kept.of_below B7 (fun _=>False)) id).str.1
 have g22':=g22
 rw [hw7] at g22'
 have bw7:Below A w w7:=by
  have h1:=HB.out
  have h6:=H6.out
  exact (((h1.1.trans (h6.2.2.1.mono (by omega))).trans (h6.2.2.2.below (by have:=h6.2.2.1.size;omega) (fun j e=>by omega))).trans (B7.mono (by have:=h6.2.2.2.size;have:=h6.2.2.1.size;omega)))
 have HR7:Hd (SlR w7 ar cr s.run):=⟨HB.out.2.2.2.2 w7 bw7⟩
 have HO7:=Hd.mk (And.intro O7 (And.intro B7 bw7))
 have hA6:A+2≤w6.heap.size:=by have:=HB.out.2.1;omega
 clear O7 B7 bw7
 go_upto_region 3 with (at_builtin;rw [←hw7];refine wpl_tks rfl _ _ rfl w6.heap.size _ [] s.run rfl HO7.out.1 ar m cr HL.out.2.1.symm rfl HR7.out (by have:=HL.out.2.2;simp;omega) HO7.out.2.1.size ?_;intro v8 w8 o8 g8;have K8:=Kept.of_grown g8 (S:=fun j=>j=w6.heap.size) (fun j e=>by injection e with e;exact e.symm);have P8:=(H6.out.1.kept (Kept.of_below HO7.out.2.1 (fun _=>False)) id).kept K8 (by omega);obtain ⟨r22,f22⟩:=P8.str;obtain ⟨a8,c8,e8,-⟩:=o8.read;obtain ⟨l8,hl8⟩:∃ l8,l8=([]++s.run:List Tk).length:=⟨_,rfl⟩;rw [←hl8] at e8;subst e8;have HL8:=Hd.mk hl8;clear hl8)
 obtain ⟨Q9,K9⟩:=st_run P8 s.run (.slice a8 l8 c8)
 have HE:Hd (∀ w10,Kept (fun j=>j=A+1) (w8.setCell ⟨A,22,none⟩ (.slice a8 l8 c8)) w10→StQ w10 A s (.slice a5 n c5) (.slice a8 l8 c8)∧Below A w w10):=⟨fun w10 k10=>by
  obtain ⟨Q6,Z6,b5,K6⟩:=H6.out
  have h2:=HB.out.2.1
  have z1:=b5.size
  have z2:=K6.size
  have z3:=HO7.out.2.1.size
  have z4:=K8.size
  have z5:=K9.size
  have b67:=HO7.out.2.1
  have kk:=(((K6.mono (T:=fun j=>j<w2.heap.size∨w5.heap.size≤j) (fun j _ e=>.inl (by omega))).trans (Kept.of_below b67 _)).trans (K8.mono (fun j _ e=>.inr (by omega)))).trans ((K9.mono (T:=fun j=>j<w2.heap.size∨w5.heap.size≤j) (fun j _ e=>.inl (by omega))).trans (k10.mono (fun j _ e=>.inl (by omega))))
  obtain ⟨a',c',e',s'⟩:=OL.out.st (S:=fun j=>j<w2.heap.size) (fun j h1 h2=>by omega)
  have hnn:=HL.out.1
  obtain ⟨rfl,rfl⟩:a5=a'∧c5=c':=by injection e' with x1 x2 x3;exact ⟨x1,x3⟩
  have s5:StR (fun j=>j<w2.heap.size∨w5.heap.size≤j) w5 a5 c5 s.x.F:=s'.stp (Kept.refl _ _) (fun j hj e=>e.elim id (fun e=>absurd e (by omega)))
  have oR:OwnT w10 w5.heap.size (.slice a8 l8 c8) s.run:=by
   rw [List.nil_append] at o8
   exact (((o8.low (by omega:w5.heap.size≤w6.heap.size)).kept K9 (fun j hj e=>by omega))).kept k10 (fun j hj e=>by omega)
  refine ⟨⟨(OL.out.kept0 kk (fun j h1 h2 e=>e.elim (fun e=>by omega) (fun e=>by omega))).low0 (by omega),w5.heap.size,⟨by omega,by have:=kk.size;omega⟩,⟨a5,c5,by rw [hnn],s5.stp kk (fun j _ e=>e.elim (fun e=>.inl (by omega)) .inr)⟩,oR⟩,?_⟩
  exact ((HO7.out.2.2.trans (K8.below (by omega) (fun j e=>by omega))).trans (K9.below (by omega) (fun j e=>by omega))).trans (k10.below (by omega) (fun j e=>by omega))⟩
 have HM:=Hd.mk (And.intro Q9 (((H6.out.2.1.kept (Kept.of_below HO7.out.2.1 (fun _=>False)) id).kept K8 (by omega)).kept K9 (by omega)))
 clear K8 P8 Q9 K9 o8 g8 r22 f22 g22 g22'
 generalize w8.setCell ⟨A,22,none⟩ (.slice a8 l8 c8)=w9 at *
 go_wp2_with (first | (refine wpl_loadSt rfl _ rfl A rfl _ HM.out.1 rfl ?_) | (refine wpl_storeSt rfl _ _ rfl (A+1) rfl (stB s (.slice a5 n c5) (.slice a8 l8 c8)) _ rfl HM.out.2 rfl rfl (st_one _ _ _ _ _ _ _) ?_;intro w10 n10 k10))
 refine bodyPost_ret (resSt9 _ _ _ rfl rfl n10) rfl ?_
 obtain ⟨o9,b9⟩:=HE.out w10 k10
 rw [←HA.out]
 exact ⟨⟨_,_,rfl,o9⟩,b9⟩
theorem StQ.ln {S:Nat→Prop} {w:World} {A:Nat} {s:St} {v u:Value} (h:StQ w A s v u) (hS:∀ j,S j→j<A):∃ a c,v=.slice a s.x.F.length c∧StR S w a c s.x.F:=by
 obtain ⟨B2,hB,⟨a,c,e,r⟩,-⟩:=h.ex
 exact ⟨a,c,e,r.stp (Kept.refl _ _) (fun j _ e=>.inl (hS j e))⟩
theorem StQ.tk {S:Nat→Prop} {w:World} {A:Nat} {s:St} {v u:Value} (h:StQ w A s v u) (hS:∀ j,S j→j<A):∃ a c,u=.slice a s.run.length c∧TkS S w a c s.run:=by
 obtain ⟨B2,hB,-,o⟩:=h.ex
 exact o.ts (fun j h1 h2=>by have:=hS j h2;omega)
def Sq (S:Nat→Prop) (A B q:Nat) (W:World) (j:Nat):Prop:=Sx S A B j∨(q≤j∧j<W.heap.size)
set_option maxRecDepth 20000 in
set_option maxHeartbeats 2000000 in
theorem rturn_shape (s:St) (l:Lv) (q:Bool) (ax:Option Addr) (cx:Nat) (ar:Option Addr) (cr:Nat) (w:World) (S:Nat→Prop) (hx:StR S w ax cx s.x.F) (hr:SlR w ar cr s.run) (hl:s.run.length≤1990) (hS:∀ j,S j→j<w.heap.size) (hf:Few s.x.F) (h3:Hd (l.kind=3)) (hq:Hd (q=false)) (he:nwE l.queues l.guess l.length=0) :
  Calls Tryz.prog 22 #[.agg (stB s (.slice ax s.x.F.length cx) (.slice ar s.run.length cr)),.agg #[.string l.name,.int .i64 l.kind,.int .i64 l.shares,.int .i64 l.lend,.int .i64 l.borrow,.int .i64 l.queues,.int .i64 l.hand,.int .i64 l.length,.int .i64 l.wait,.int .i64 l.guess],.bool q] w fun e w'=>(∃ v,e=.returned v∧StV S w' { s with lv:=l,q:=q,x:=shX s.x l.queues l.guess l.length } v)∧Below w.heap.size w w':=by
 obtain ⟨w2,hw2⟩:∃ w2,w2=(((w.alloc (.cells (stB s (.slice ax s.x.F.length cx) (.slice ar s.run.length cr)) 34)).alloc (.cells #[.string l.name,.int .i64 l.kind,.int .i64 l.shares,.int .i64 l.lend,.int .i64 l.borrow,.int .i64 l.queues,.int .i64 l.hand,.int .i64 l.length,.int .i64 l.wait,.int .i64 l.guess] 23)).alloc (.cells zsT 34)):=⟨_,rfl⟩
 have BX:=boxes3 w 34 23 34 (stB s (.slice ax s.x.F.length cx) (.slice ar s.run.length cr)) #[.string l.name,.int .i64 l.kind,.int .i64 l.shares,.int .i64 l.lend,.int .i64 l.borrow,.int .i64 l.queues,.int .i64 l.hand,.int .i64 l.length,.int .i64 l.wait,.int .i64 l.guess] zsT
 rw [←hw2] at BX
 obtain ⟨B,N1,N2,N3⟩:=BX
 have hs2:w2.heap.size=w.heap.size+3:=by rw [hw2];simp
 obtain ⟨A,hA⟩:∃ A,A=w.heap.size:=⟨_,rfl⟩
 have HA:Hd (A=w.heap.size):=⟨hA⟩
 rw [←hA] at B N1 N2 N3 hs2
 have W0:Blk w2 (A+1) 23 (lvA l):=N2
 have hBw:Below w.heap.size w w2:=by rw [←hA];exact B
 have HSZ:Hd (∀ j,S j→j<A):=⟨fun j e=>by rw [hA];exact hS j e⟩
 have RC:=scopyr_ok s ax cx ar cr w2 ((hx.read (Kept.refl _ _)).carry hBw) hf (hr.carry hBw) (by omega)
 have HB:=Hd.mk (And.intro B (And.intro hs2 (And.intro N1 (And.intro W0 (And.intro N3 (fun (W:World) (b:Below A w W)=>hx.sx (w2:=W) (B:=A+3) (by rw [←hA];exact b) hA))))))
 have HFW:=Hd.mk hf
 obtain ⟨n,hn⟩:∃ n,n=s.x.F.length:=⟨_,rfl⟩
 obtain ⟨m,hm⟩:∃ m,m=s.run.length:=⟨_,rfl⟩
 have HL:=Hd.mk (And.intro hn hm)
 rw [←hn,← hm] at HB
 rw [←hn,← hm] at hw2 RC
 rw [←hn,← hm]
 clear hn hm N1 N2 N3 W0 B hx hr hs2 hBw hl hS hf
 go_enter Tryz.func22,Tryz.ntmps22
 go_upto_region 1 with fail
 rw [←hw2]
 clear hw2
 rw [←hA]
 clear hA
 go_wp2_with (refine wpl_loadSt rfl _ rfl A rfl _ HB.out.2.2.1 rfl ?_)
 go_at_call 6
 refine RC.mono ?_
 rintro e w4 ⟨⟨v4,u4,rfl,o4⟩,b4⟩
 clear RC
 have hSx4:∀ j,Sx S A (A+3) j→j<w2.heap.size:=fun j e=>by have:=Sx.lt HSZ.out (by omega) j e (B:=A+3);have:=HB.out.2.1;omega
 obtain ⟨a4,c4,rfl,s4⟩:=o4.ln hSx4
 obtain ⟨ar4,cr4,rfl,t4⟩:=o4.tk hSx4
 rw [←HL.out.1,← HL.out.2]
 obtain ⟨w5,hw5⟩:∃ w5,w5=w4.alloc (.cells zsT 34):=⟨_,rfl⟩
 have B5:Below w4.heap.size w4 w5:=by rw [hw5];exact alloc_below _ _
 obtain ⟨qb,hqb⟩:∃ qb,qb=w4.heap.size:=⟨_,rfl⟩
 have P5:Blk w5 qb 34 (stB sZ (.slice none 0 0) (.slice none 0 0)):=by rw [hw5,hqb];exact Blk.new _ _ _
 have sx4:StR (Sx S A (A+3)) w4 ax cx s.x.F:=HB.out.2.2.2.2.2 w4 (HB.out.1.trans (b4.mono (by have:=HB.out.2.1;omega)))
 have H5:=Hd.mk (And.intro b4 (And.intro B5 (And.intro t4 (And.intro sx4 hqb))))
 clear b4 B5 s4 t4 o4 hSx4 sx4
 go_upto_region 2 with (rw [←hw5,← hqb];refine wpl_storeSt rfl _ _ rfl qb rfl (stB s (.slice a4 n c4) (.slice ar4 m cr4)) _ rfl P5 rfl rfl (st_one _ _ _ _ _ _ _) ?_;intro w6 n6 k6)
 have HQ:=Hd.mk hqb
 clear hw5 hqb P5
 have H6:Hd (Below A w w6∧Blk w6 A 34 (stB s (.slice ax n cx) (.slice ar m cr))∧Blk w6 (A+1) 23 (lvA l)∧Blk w6 (A+1+1) 34 (stB sZ (.slice none 0 0) (.slice none 0 0))∧A+3≤qb∧qb<w6.heap.size∧TkS (fun j=>Sx S A (A+3) j∨qb≤j) w6 ar4 cr4 s.run∧StR (fun j=>Sx S A (A+3) j∨qb≤j) w6 ax cx s.x.F):=by
  obtain ⟨b4,B5,t4,sx4,hqb⟩:=H5.out
  obtain ⟨h1,h2,h3,h4,h5,-⟩:=HB.out
  have z4:=b4.size
  have z5:=B5.size
  have bel:Below A w w6:=((h1.trans (b4.mono (by omega))).trans (B5.mono (by omega))).trans (k6.below (by omega) (fun j e=>by omega))
  have k26:Kept (fun j=>A+3≤j) w2 w6:=((Kept.of_below b4 _).trans (Kept.of_below B5 _)).trans (k6.mono (fun j _ e=>by omega))
  exact ⟨bel,h3.kept k26 (by omega),h4.kept k26 (by omega),h5.kept k26 (by omega),by omega,n6.lt,(t4.step (Kept.of_below B5 _) (T:=fun j=>Sx S A (A+3) j∨qb≤j) (fun j hj e=>e.elim id (fun e=>absurd e (by omega)))).step (k6.mono (fun j _ e=>.inr (by omega))) (fun _ _ e=>e),(sx4.stp (Kept.of_below B5 _) (T:=fun j=>Sx S A (A+3) j∨qb≤j) (fun j hj e=>e.elim id (fun e=>absurd e (by omega)))).stp (k6.mono (fun j _ e=>.inr (by omega))) (fun _ _ e=>e)⟩
 obtain ⟨c0,c1,c2,c3,c4',c5,c6',c7,c8,c9⟩:=H6.out.2.2.1.lv
 obtain ⟨Q7,K7⟩:=st_lv n6 l q
 have f0:=n6.frozen 0
 have f1:=n6.frozen 1
 have f2:=n6.frozen 2
 have f3:=n6.frozen 3
 have f4:=n6.frozen 4
 have f5:=n6.frozen 5
 have f6:=n6.frozen 6
 have f7:=n6.frozen 7
 have f8:=n6.frozen 8
 have f9:=n6.frozen 9
 have f10:=n6.frozen 10
 have g0:w6.cell? ⟨qb,0,none⟩=some (.string s.lv.name):=n6.cellv 0 rfl
 have g1:w6.cell? ⟨qb,1,none⟩=some (.int .i64 s.lv.kind):=n6.cellv 1 rfl
 have g2:w6.cell? ⟨qb,2,none⟩=some (.int .i64 s.lv.shares):=n6.cellv 2 rfl
 have g3:w6.cell? ⟨qb,3,none⟩=some (.int .i64 s.lv.lend):=n6.cellv 3 rfl
 have g4:w6.cell? ⟨qb,4,none⟩=some (.int .i64 s.lv.borrow):=n6.cellv 4 rfl
 have g5:w6.cell? ⟨qb,5,none⟩=some (.int .i64 s.lv.queues):=n6.cellv 5 rfl
 have g6:w6.cell? ⟨qb,6,none⟩=some (.int .i64 s.lv.hand):=n6.cellv 6 rfl
 have g7:w6.cell? ⟨qb,7,none⟩=some (.int .i64 s.lv.length):=n6.cellv 7 rfl
 have g8:w6.cell? ⟨qb,8,none⟩=some (.int .i64 s.lv.wait):=n6.cellv 8 rfl
 have g9:w6.cell? ⟨qb,9,none⟩=some (.int .i64 s.lv.guess):=n6.cellv 9 rfl
 have g10:w6.cell? ⟨qb,10,none⟩=some (.bool s.q):=n6.cellv 10 rfl
 obtain ⟨w7,hw7⟩:∃ w7,w7=(((((((((((w6.setCell ⟨qb,0,none⟩ (.string l.name)).setCell ⟨qb,1,none⟩ (.int .i64 l.kind)).setCell ⟨qb,2,none⟩ (.int .i64 l.shares)).setCell ⟨qb,3,none⟩ (.int .i64 l.lend)).setCell ⟨qb,4,none⟩ (.int .i64 l.borrow)).setCell ⟨qb,5,none⟩ (.int .i64 l.queues)).setCell ⟨qb,6,none⟩ (.int .i64 l.hand)).setCell ⟨qb,7,none⟩ (.int .i64 l.length)).setCell ⟨qb,8,none⟩ (.int .i64 l.wait)).setCell ⟨qb,9,none⟩ (.int .i64 l.guess)).setCell ⟨qb,10,none⟩ (.bool q)):=⟨_,rfl⟩
 rw [←hw7] at Q7 K7
 have H7:Hd (Below A w w7∧Blk w7 A 34 (stB s (.slice ax n cx) (.slice ar m cr))∧Blk w7 (A+1) 23 (lvA l)∧Blk w7 (A+1+1) 34 (stB sZ (.slice none 0 0) (.slice none 0 0))∧A+3≤qb∧qb<w7.heap.size∧TkS (fun j=>Sx S A (A+3) j∨qb≤j) w7 ar4 cr4 s.run∧Blk w7 qb 34 (stB ⟨l,q,s.lim,s.b0,s.b1,s.b2,s.d0,s.d1,s.x,s.run⟩ (.slice a4 n c4) (.slice ar4 m cr4))∧StR (fun j=>Sx S A (A+3) j∨qb≤j) w7 ax cx s.x.F):=by
  obtain ⟨h1,h2,h3,h4,h5,h6,h7,h8⟩:=H6.out
  have z:=K7.size
  exact ⟨h1.trans (K7.below (by omega) (fun j e=>by omega)),h2.kept K7 (by omega),h3.kept K7 (by omega),h4.kept K7 (by omega),h5,by omega,h7.step (K7.mono (fun j _ e=>.inr (by omega))) (fun _ _ e=>e),Q7,h8.stp (K7.mono (fun j _ e=>.inr (by omega))) (fun _ _ e=>e)⟩
 clear Q7 K7 n6 k6 H5 H6
 go_upto_region 3 with fail
 (try rw [←HQ.out])
 rw [←hw7]
 clear hw7 c0 c1 c2 c3 c4' c5 c6' c7 c8 c9 f0 f1 f2 f3 f4 f5 f6 f7 f8 f9 f10 g0 g1 g2 g3 g4 g5 g6 g7 g8 g9 g10
 obtain ⟨d0,d1,d2,d3,d4,d5,d6,d7,d8,d9⟩:=H7.out.2.2.1.lv
 obtain ⟨⟨x0,x1,x2,x3,x4⟩,-⟩:=H7.out.2.1.stx
 have hSq:∀ (W:World),A+3≤W.heap.size→∀ j,Sq S A (A+3) qb W j→j<W.heap.size:=fun W h j e=>e.elim (fun e=>by have:=Sx.lt HSZ.out (by omega) j e (B:=A+3);omega) (fun e=>e.2)
 have SH:=rshape_st s.x ax cx w7 (Sq S A (A+3) qb w7) (H7.out.2.2.2.2.2.2.2.2.stp (Kept.refl _ _) (fun j _ e=>e.imp id (fun e=>e.1))) (hSq w7 (by have:=H7.out;omega)) HFW.out l.queues l.guess l.length
 rw [he] at SH
 rw [h3.out] at d1
 clear he
 obtain ⟨y,hy⟩:∃ y,y=shX s.x l.queues l.guess l.length:=⟨_,rfl⟩
 have HY:=Hd.mk hy
 rw [←hy] at SH
 clear hy
 rw [←HL.out.1] at SH
 go_wp2_with fail
 go_at_call 59
 refine SH.mono ?_
 rintro e w8 ⟨⟨v8,rfl,a6,c6,rfl,s6⟩,b8⟩
 clear SH x0 x1 x2 x3 x4 d5 d7 d9
 obtain ⟨l6,hl6⟩:∃ l6,l6=y.F.length:=⟨_,rfl⟩
 have HL6:=Hd.mk hl6
 rw [←hl6]
 clear hl6
 obtain ⟨w9,hw9⟩:∃ w9,w9=w8.alloc (.cells #[.int .u64 y.r,.int .i64 y.g,.int .i64 y.n,.int .i64 y.o,.slice a6 l6 c6] 31):=⟨_,rfl⟩
 have N9:Blk w9 w8.heap.size 31 (faA y.r y.g y.n y.o (.slice a6 l6 c6)):=by rw [hw9];exact Blk.new _ _ _
 have B9:Below w8.heap.size w8 w9:=by rw [hw9];exact alloc_below _ _
 have HZ:Hd (Blk w9 w8.heap.size 31 (faA y.r y.g y.n y.o (.slice a6 l6 c6))∧Blk w9 qb 34 (stB ⟨l,q,s.lim,s.b0,s.b1,s.b2,s.d0,s.d1,s.x,s.run⟩ (.slice a4 n c4) (.slice ar4 m cr4))∧Blk w9 (A+1+1) 34 (stB sZ (.slice none 0 0) (.slice none 0 0))∧(A+3≤qb∧qb<w9.heap.size)∧Below A w w9∧StR (fun j=>Sx S A (A+3) j∨j=qb) w9 a6 c6 y.F∧TkS (fun j=>Sx S A (A+3) j∨j=qb) w9 ar4 cr4 s.run):=⟨by
  obtain ⟨h1,h2,h3,h4,h5,h6,h7,h8,h9⟩:=H7.out
  have z8:=b8.size
  have z9:=B9.size
  have b79:Below w7.heap.size w7 w9:=b8.trans (B9.mono z8)
  exact ⟨N9,h8.kept (Kept.of_below b79 (fun _=>False)) id,h4.kept (Kept.of_below b79 (fun _=>False)) id,⟨h5,by omega⟩,h1.trans (b79.mono (by omega)),s6.stp (Kept.of_below B9 _) (fun j hj e=>by
   rcases e with e | e
   ·exact Or.inl e
   ·exact Or.inr ⟨by omega,by omega⟩),h7.step (Kept.of_below b79 _) (fun j hj e=>by
   rcases e with e | e
   ·exact Or.inl e
   ·exact Or.inr (by omega))⟩⟩
 have dk:w9.cell? ⟨A+1,1,none⟩=some (.int .i64 3):=by
  have z8:=b8.size
  rw [←h3.out]
  exact (H7.out.2.2.1.kept (Kept.of_below (b8.trans (B9.mono z8)) (fun _=>False)) id).cellv 1 rfl
 clear N9 B9 s6 b8
 go_upto_region 4 with fail
 rw [←hw9]
 clear hw9
 generalize w8.heap.size=g8 at *
 have hqq:=hq.out
 subst hqq
 go_upto_region 6 with fail
 obtain ⟨⟨y0,y1,y2,y3,y4⟩,-⟩:=HZ.out.1.fair
 obtain ⟨⟨x0,x1,x2,x3,x4⟩,f0,f1,f2,f3,f4⟩:=HZ.out.2.1.stx
 obtain ⟨Q11,K11⟩:=st_fair HZ.out.2.1 y (.slice a6 l6 c6)
 obtain ⟨w11,hw11⟩:∃ w11,w11=(((((w9.setCell ⟨qb,17,none⟩ (.int .u64 y.r)).setCell ⟨qb,18,none⟩ (.int .i64 y.g)).setCell ⟨qb,19,none⟩ (.int .i64 y.n)).setCell ⟨qb,20,none⟩ (.int .i64 y.o)).setCell ⟨qb,21,none⟩ (.slice a6 l6 c6)):=⟨_,rfl⟩
 rw [←hw11] at Q11 K11
 have HM:=Hd.mk (And.intro Q11 (HZ.out.2.2.1.kept K11 (by have:=HZ.out.2.2.2.1;omega)))
 have HE:Hd (∀ wf,Kept (fun j=>j=A+1+1) w11 wf→StV S wf { s with lv:=l,q:=false,x:=y } (.agg (stB ⟨l,false,s.lim,s.b0,s.b1,s.b2,s.d0,s.d1,y,s.run⟩ (.slice a6 l6 c6) (.slice ar4 m cr4)))∧Below A w wf):=⟨fun wf k9=>by
  obtain ⟨z1,z2,z3,z4,z5,z6,z7⟩:=HZ.out
  have kk:Kept (fun j=>Sx S A (A+3) j∨j=qb) w9 wf:=(K11.mono (T:=fun j=>Sx S A (A+3) j∨j=qb) (fun j _ e=>Or.inr e)).trans (k9.mono (fun j _ e=>Or.inl (Or.inr ⟨by omega,by omega⟩)))
  have zs:=K11.size
  exact ⟨⟨a6,c6,ar4,cr4,by rw [HL6.out,HL.out.2],z6.stp kk (fun j _ e=>.inl (.inl e)),z7.step kk (fun j _ e=>.inl (.inl e))⟩,(z5.trans (K11.below (by omega) (fun j e=>by omega))).trans (k9.below (by omega) (fun j e=>by omega))⟩⟩
 clear Q11 K11
 go_upto_region 7 with fail
 rw [←hw11]
 clear hw11 y0 y1 y2 y3 y4 x0 x1 x2 x3 x4 f0 f1 f2 f3 f4
 go_wp2_with (first | (refine wpl_loadSt rfl _ rfl qb rfl _ HM.out.1 rfl ?_) | (refine wpl_storeSt rfl _ _ rfl (A+1+1) rfl (stB ⟨l,false,s.lim,s.b0,s.b1,s.b2,s.d0,s.d1,y,s.run⟩ (.slice a6 l6 c6) (.slice ar4 m cr4)) _ rfl HM.out.2 rfl rfl (st_one _ _ _ _ _ _ _) ?_;intro w9 n9 k9))
 refine bodyPost_ret (resSt33 _ _ _ rfl rfl n9) rfl ?_
 obtain ⟨o9,b9⟩:=HE.out w9 k9
 rw [←HA.out,← HY.out]
 exact ⟨⟨_,rfl,o9⟩,b9⟩
set_option maxRecDepth 20000 in
set_option maxHeartbeats 2000000 in
theorem rturn_shut (s:St) (l:Lv) (q:Bool) (ax:Option Addr) (cx:Nat) (ar:Option Addr) (cr:Nat) (w:World) (S:Nat→Prop) (hx:StR S w ax cx s.x.F) (hr:SlR w ar cr s.run) (hl:s.run.length≤1990) (hS:∀ j,S j→j<w.heap.size) (hf:Few s.x.F) (hc:Hd (l.kind≠3∨q=true∨nwE l.queues l.guess l.length≠0)) :
  Calls Tryz.prog 22 #[.agg (stB s (.slice ax s.x.F.length cx) (.slice ar s.run.length cr)),.agg #[.string l.name,.int .i64 l.kind,.int .i64 l.shares,.int .i64 l.lend,.int .i64 l.borrow,.int .i64 l.queues,.int .i64 l.hand,.int .i64 l.length,.int .i64 l.wait,.int .i64 l.guess],.bool q] w fun e w'=>(∃ v,e=.returned v∧StV S w' { s with lv:=l,q:=q,x:=suX s.x } v)∧Below w.heap.size w w':=by
 obtain ⟨w2,hw2⟩:∃ w2,w2=(((w.alloc (.cells (stB s (.slice ax s.x.F.length cx) (.slice ar s.run.length cr)) 34)).alloc (.cells #[.string l.name,.int .i64 l.kind,.int .i64 l.shares,.int .i64 l.lend,.int .i64 l.borrow,.int .i64 l.queues,.int .i64 l.hand,.int .i64 l.length,.int .i64 l.wait,.int .i64 l.guess] 23)).alloc (.cells zsT 34)):=⟨_,rfl⟩
 have BX:=boxes3 w 34 23 34 (stB s (.slice ax s.x.F.length cx) (.slice ar s.run.length cr)) #[.string l.name,.int .i64 l.kind,.int .i64 l.shares,.int .i64 l.lend,.int .i64 l.borrow,.int .i64 l.queues,.int .i64 l.hand,.int .i64 l.length,.int .i64 l.wait,.int .i64 l.guess] zsT
 rw [←hw2] at BX
 obtain ⟨B,N1,N2,N3⟩:=BX
 have hs2:w2.heap.size=w.heap.size+3:=by rw [hw2];simp
 obtain ⟨A,hA⟩:∃ A,A=w.heap.size:=⟨_,rfl⟩
 have HA:Hd (A=w.heap.size):=⟨hA⟩
 rw [←hA] at B N1 N2 N3 hs2
 have W0:Blk w2 (A+1) 23 (lvA l):=N2
 have hBw:Below w.heap.size w w2:=by rw [←hA];exact B
 have HSZ:Hd (∀ j,S j→j<A):=⟨fun j e=>by rw [hA];exact hS j e⟩
 have RC:=scopyr_ok s ax cx ar cr w2 ((hx.read (Kept.refl _ _)).carry hBw) hf (hr.carry hBw) (by omega)
 have HB:=Hd.mk (And.intro B (And.intro hs2 (And.intro N1 (And.intro W0 (And.intro N3 (fun (W:World) (b:Below A w W)=>hx.sx (w2:=W) (B:=A+3) (by rw [←hA];exact b) hA))))))
 have HFW:=Hd.mk hf
 obtain ⟨n,hn⟩:∃ n,n=s.x.F.length:=⟨_,rfl⟩
 obtain ⟨m,hm⟩:∃ m,m=s.run.length:=⟨_,rfl⟩
 have HL:=Hd.mk (And.intro hn hm)
 rw [←hn,← hm] at HB
 rw [←hn,← hm] at hw2 RC
 rw [←hn,← hm]
 clear hn hm N1 N2 N3 W0 B hx hr hs2 hBw hl hS hf
 go_enter Tryz.func22,Tryz.ntmps22
 go_upto_region 1 with fail
 rw [←hw2]
 clear hw2
 rw [←hA]
 clear hA
 go_wp2_with (refine wpl_loadSt rfl _ rfl A rfl _ HB.out.2.2.1 rfl ?_)
 go_at_call 6
 refine RC.mono ?_
 rintro e w4 ⟨⟨v4,u4,rfl,o4⟩,b4⟩
 clear RC
 have hSx4:∀ j,Sx S A (A+3) j→j<w2.heap.size:=fun j e=>by have:=Sx.lt HSZ.out (by omega) j e (B:=A+3);have:=HB.out.2.1;omega
 obtain ⟨a4,c4,rfl,s4⟩:=o4.ln hSx4
 obtain ⟨ar4,cr4,rfl,t4⟩:=o4.tk hSx4
 rw [←HL.out.1,← HL.out.2]
 obtain ⟨w5,hw5⟩:∃ w5,w5=w4.alloc (.cells zsT 34):=⟨_,rfl⟩
 have B5:Below w4.heap.size w4 w5:=by rw [hw5];exact alloc_below _ _
 obtain ⟨qb,hqb⟩:∃ qb,qb=w4.heap.size:=⟨_,rfl⟩
 have P5:Blk w5 qb 34 (stB sZ (.slice none 0 0) (.slice none 0 0)):=by rw [hw5,hqb];exact Blk.new _ _ _
 have sx4:StR (Sx S A (A+3)) w4 ax cx s.x.F:=HB.out.2.2.2.2.2 w4 (HB.out.1.trans (b4.mono (by have:=HB.out.2.1;omega)))
 have H5:=Hd.mk (And.intro b4 (And.intro B5 (And.intro t4 (And.intro sx4 hqb))))
 clear b4 B5 s4 t4 o4 hSx4 sx4
 go_upto_region 2 with (rw [←hw5,← hqb];refine wpl_storeSt rfl _ _ rfl qb rfl (stB s (.slice a4 n c4) (.slice ar4 m cr4)) _ rfl P5 rfl rfl (st_one _ _ _ _ _ _ _) ?_;intro w6 n6 k6)
 have HQ:=Hd.mk hqb
 clear hw5 hqb P5
 have H6:Hd (Below A w w6∧Blk w6 A 34 (stB s (.slice ax n cx) (.slice ar m cr))∧Blk w6 (A+1) 23 (lvA l)∧Blk w6 (A+1+1) 34 (stB sZ (.slice none 0 0) (.slice none 0 0))∧A+3≤qb∧qb<w6.heap.size∧TkS (fun j=>Sx S A (A+3) j∨qb≤j) w6 ar4 cr4 s.run∧StR (fun j=>Sx S A (A+3) j∨qb≤j) w6 ax cx s.x.F):=by
  obtain ⟨b4,B5,t4,sx4,hqb⟩:=H5.out
  obtain ⟨h1,h2,h3,h4,h5,-⟩:=HB.out
  have z4:=b4.size
  have z5:=B5.size
  have bel:Below A w w6:=((h1.trans (b4.mono (by omega))).trans (B5.mono (by omega))).trans (k6.below (by omega) (fun j e=>by omega))
  have k26:Kept (fun j=>A+3≤j) w2 w6:=((Kept.of_below b4 _).trans (Kept.of_below B5 _)).trans (k6.mono (fun j _ e=>by omega))
  exact ⟨bel,h3.kept k26 (by omega),h4.kept k26 (by omega),h5.kept k26 (by omega),by omega,n6.lt,(t4.step (Kept.of_below B5 _) (T:=fun j=>Sx S A (A+3) j∨qb≤j) (fun j hj e=>e.elim id (fun e=>absurd e (by omega)))).step (k6.mono (fun j _ e=>.inr (by omega))) (fun _ _ e=>e),(sx4.stp (Kept.of_below B5 _) (T:=fun j=>Sx S A (A+3) j∨qb≤j) (fun j hj e=>e.elim id (fun e=>absurd e (by omega)))).stp (k6.mono (fun j _ e=>.inr (by omega))) (fun _ _ e=>e)⟩
 obtain ⟨c0,c1,c2,c3,c4',c5,c6',c7,c8,c9⟩:=H6.out.2.2.1.lv
 obtain ⟨Q7,K7⟩:=st_lv n6 l q
 have f0:=n6.frozen 0
 have f1:=n6.frozen 1
 have f2:=n6.frozen 2
 have f3:=n6.frozen 3
 have f4:=n6.frozen 4
 have f5:=n6.frozen 5
 have f6:=n6.frozen 6
 have f7:=n6.frozen 7
 have f8:=n6.frozen 8
 have f9:=n6.frozen 9
 have f10:=n6.frozen 10
 have g0:w6.cell? ⟨qb,0,none⟩=some (.string s.lv.name):=n6.cellv 0 rfl
 have g1:w6.cell? ⟨qb,1,none⟩=some (.int .i64 s.lv.kind):=n6.cellv 1 rfl
 have g2:w6.cell? ⟨qb,2,none⟩=some (.int .i64 s.lv.shares):=n6.cellv 2 rfl
 have g3:w6.cell? ⟨qb,3,none⟩=some (.int .i64 s.lv.lend):=n6.cellv 3 rfl
 have g4:w6.cell? ⟨qb,4,none⟩=some (.int .i64 s.lv.borrow):=n6.cellv 4 rfl
 have g5:w6.cell? ⟨qb,5,none⟩=some (.int .i64 s.lv.queues):=n6.cellv 5 rfl
 have g6:w6.cell? ⟨qb,6,none⟩=some (.int .i64 s.lv.hand):=n6.cellv 6 rfl
 have g7:w6.cell? ⟨qb,7,none⟩=some (.int .i64 s.lv.length):=n6.cellv 7 rfl
 have g8:w6.cell? ⟨qb,8,none⟩=some (.int .i64 s.lv.wait):=n6.cellv 8 rfl
 have g9:w6.cell? ⟨qb,9,none⟩=some (.int .i64 s.lv.guess):=n6.cellv 9 rfl
 have g10:w6.cell? ⟨qb,10,none⟩=some (.bool s.q):=n6.cellv 10 rfl
 obtain ⟨w7,hw7⟩:∃ w7,w7=(((((((((((w6.setCell ⟨qb,0,none⟩ (.string l.name)).setCell ⟨qb,1,none⟩ (.int .i64 l.kind)).setCell ⟨qb,2,none⟩ (.int .i64 l.shares)).setCell ⟨qb,3,none⟩ (.int .i64 l.lend)).setCell ⟨qb,4,none⟩ (.int .i64 l.borrow)).setCell ⟨qb,5,none⟩ (.int .i64 l.queues)).setCell ⟨qb,6,none⟩ (.int .i64 l.hand)).setCell ⟨qb,7,none⟩ (.int .i64 l.length)).setCell ⟨qb,8,none⟩ (.int .i64 l.wait)).setCell ⟨qb,9,none⟩ (.int .i64 l.guess)).setCell ⟨qb,10,none⟩ (.bool q)):=⟨_,rfl⟩
 rw [←hw7] at Q7 K7
 have H7:Hd (Below A w w7∧Blk w7 A 34 (stB s (.slice ax n cx) (.slice ar m cr))∧Blk w7 (A+1) 23 (lvA l)∧Blk w7 (A+1+1) 34 (stB sZ (.slice none 0 0) (.slice none 0 0))∧A+3≤qb∧qb<w7.heap.size∧TkS (fun j=>Sx S A (A+3) j∨qb≤j) w7 ar4 cr4 s.run∧Blk w7 qb 34 (stB ⟨l,q,s.lim,s.b0,s.b1,s.b2,s.d0,s.d1,s.x,s.run⟩ (.slice a4 n c4) (.slice ar4 m cr4))∧StR (fun j=>Sx S A (A+3) j∨qb≤j) w7 ax cx s.x.F):=by
  obtain ⟨h1,h2,h3,h4,h5,h6,h7,h8⟩:=H6.out
  have z:=K7.size
  exact ⟨h1.trans (K7.below (by omega) (fun j e=>by omega)),h2.kept K7 (by omega),h3.kept K7 (by omega),h4.kept K7 (by omega),h5,by omega,h7.step (K7.mono (fun j _ e=>.inr (by omega))) (fun _ _ e=>e),Q7,h8.stp (K7.mono (fun j _ e=>.inr (by omega))) (fun _ _ e=>e)⟩
 clear Q7 K7 n6 k6 H5 H6
 go_upto_region 3 with fail
 (try rw [←HQ.out])
 rw [←hw7]
 clear hw7 c0 c1 c2 c3 c4' c5 c6' c7 c8 c9 f0 f1 f2 f3 f4 f5 f6 f7 f8 f9 f10 g0 g1 g2 g3 g4 g5 g6 g7 g8 g9 g10
 obtain ⟨d0,d1,d2,d3,d4,d5,d6,d7,d8,d9⟩:=H7.out.2.2.1.lv
 obtain ⟨⟨x0,x1,x2,x3,x4⟩,-⟩:=H7.out.2.1.stx
 have hSq:∀ (W:World),A+3≤W.heap.size→∀ j,Sq S A (A+3) qb W j→j<W.heap.size:=fun W h j e=>e.elim (fun e=>by have:=Sx.lt HSZ.out (by omega) j e (B:=A+3);omega) (fun e=>e.2)
 have SH:=rshape_st s.x ax cx w7 (Sq S A (A+3) qb w7) (H7.out.2.2.2.2.2.2.2.2.stp (Kept.refl _ _) (fun j _ e=>e.imp id (fun e=>e.1))) (hSq w7 (by have:=H7.out;omega)) HFW.out l.queues l.guess l.length
 obtain ⟨er,her⟩:∃ er,er=nwE l.queues l.guess l.length:=⟨_,rfl⟩
 have hcc:=hc.out
 rw [←her] at SH hcc
 clear her hc
 obtain ⟨z,hz⟩:∃ z,z=shX s.x l.queues l.guess l.length:=⟨_,rfl⟩
 rw [←hz] at SH
 clear hz
 have HCC:=Hd.mk hcc
 clear hcc
 rw [←HL.out.1] at SH
 go_wp2_with fail
 go_at_call 59
 refine SH.mono ?_
 rintro e w8 ⟨⟨v8,rfl,a6,c6,rfl,s6⟩,b8⟩
 clear SH x0 x1 x2 x3 x4 d5 d7 d9
 obtain ⟨l8,hl8⟩:∃ l8,l8=z.F.length:=⟨_,rfl⟩
 rw [←hl8]
 clear hl8
 obtain ⟨w9,hw9⟩:∃ w9,w9=w8.alloc (.cells #[.int .u64 z.r,.int .i64 z.g,.int .i64 z.n,.int .i64 z.o,.slice a6 l8 c6] 31):=⟨_,rfl⟩
 have N9:Blk w9 w8.heap.size 31 (faA z.r z.g z.n z.o (.slice a6 l8 c6)):=by rw [hw9];exact Blk.new _ _ _
 have B9:Below w8.heap.size w8 w9:=by rw [hw9];exact alloc_below _ _
 obtain ⟨g8,hg8⟩:∃ g8,g8=w8.heap.size:=⟨_,rfl⟩
 rw [←hg8] at N9
 have dk:w9.cell? ⟨A+1,1,none⟩=some (.int .i64 l.kind):=by
  have z8:=b8.size
  exact (H7.out.2.2.1.kept (Kept.of_below (b8.trans (B9.mono z8)) (fun _=>False)) id).cellv 1 rfl
 have H9:Hd (Blk w9 g8 31 (faA z.r z.g z.n z.o (.slice a6 l8 c6))∧Below w7.heap.size w7 w9∧w7.heap.size≤g8∧g8<w9.heap.size):=⟨N9,b8.trans (B9.mono b8.size),by rw [hg8];exact b8.size,N9.lt⟩
 clear N9 B9 s6 b8
 go_upto_region 4 with fail
 rw [←hw9]
 clear hw9
 (try rw [←hg8])
 clear hg8
 go_cut [37] (fun s37 wx=>s37=.bool true∧wx=w9)
 case first =>
  rcases HCC.out with h | h | h
  ·have h4:(l.kind != 3)=true:=by simpa using h
   clear h
   go_wp2_with fail
   go_meet
   exact ⟨rfl,rfl⟩
  ·subst h
   by_cases h4:l.kind=3
   ·have h5:(l.kind != 3)=false:=by simp [h4]
    clear h4
    go_wp2_with fail
    go_meet
    exact ⟨rfl,rfl⟩
   ·have h5:(l.kind != 3)=true:=by simpa using h4
    clear h4
    go_wp2_with fail
    go_meet
    exact ⟨rfl,rfl⟩
  ·have h6:(er != 0)=true:=by simpa using h
   clear h
   by_cases h4:l.kind=3
   ·have h5:(l.kind != 3)=false:=by simp [h4]
    clear h4
    cases q
    ·go_wp2_with fail
     go_meet
     exact ⟨rfl,rfl⟩
    ·go_wp2_with fail
     go_meet
     exact ⟨rfl,rfl⟩
   ·have h5:(l.kind != 3)=true:=by simpa using h4
    clear h4
    go_wp2_with fail
    go_meet
    exact ⟨rfl,rfl⟩
 case rest =>
  obtain ⟨rfl,rfl⟩:=hcut
  generalize wc=w9 at *
  clear d0 d1 d2 d3 d4 d6 d8 dk
  have k79:=Kept.of_below H9.out.2.1 (fun _=>False)
  obtain ⟨⟨x0,x1,x2,x3,x4⟩,-⟩:=(H7.out.2.1.kept k79 id).stx
  obtain ⟨⟨y0,y1,y2,y3,y4⟩,f0,f1,f2,f3,f4⟩:=H9.out.1.fair
  have RS:=rshut_ok s.x.r s.x.g s.x.n s.x.o ax cx s.x.F w9 (H7.out.2.2.2.2.2.2.2.2.read (Kept.of_below H9.out.2.1 _)) HFW.out
  rw [←HL.out.1] at RS
  clear k79
  go_wp2_with fail
  go_at_call 60
  refine RS.mono ?_
  rintro e w10 ⟨⟨v10,rfl,a6,c6,rfl,s6⟩,b10⟩
  clear RS x0 x1 x2 x3 x4 y0 y1 y2 y3 y4 f0 f1 f2 f3 f4
  obtain ⟨y,hy⟩:∃ y,y=suX s.x:=⟨_,rfl⟩
  have e0:y.r=s.x.r∧y.g=s.x.g∧y.n=s.x.n∧y.o=0∧y.F=trm s.x.F 0:=by rw [hy];exact ⟨rfl,rfl,rfl,rfl,rfl⟩
  have HY:=Hd.mk hy
  obtain ⟨e1,e2,e3,e4,e5⟩:=e0
  rw [←e5] at s6 ⊢
  rw [←e1,← e2,← e3,← e4]
  clear hy
  obtain ⟨l6,hl6⟩:∃ l6,l6=y.F.length:=⟨_,rfl⟩
  have HL6:=Hd.mk hl6
  rw [←hl6]
  clear hl6 e1 e2 e3 e4 e5
  have N10:=H9.out.1.kept (Kept.of_below b10 (fun _=>False)) id
  obtain ⟨⟨y0,y1,y2,y3,y4⟩,f0,f1,f2,f3,f4⟩:=N10.fair
  obtain ⟨N12,K12⟩:=fair_set N10 y.r y.g y.n y.o (.slice a6 l6 c6)
  obtain ⟨w12,hw12⟩:∃ w12,w12=(((((w10.setCell ⟨g8,0,none⟩ (.int .u64 y.r)).setCell ⟨g8,1,none⟩ (.int .i64 y.g)).setCell ⟨g8,2,none⟩ (.int .i64 y.n)).setCell ⟨g8,3,none⟩ (.int .i64 y.o)).setCell ⟨g8,4,none⟩ (.slice a6 l6 c6)):=⟨_,rfl⟩
  rw [←hw12] at N12 K12
  have HZ:Hd (Blk w12 g8 31 (faA y.r y.g y.n y.o (.slice a6 l6 c6))∧Blk w12 qb 34 (stB ⟨l,q,s.lim,s.b0,s.b1,s.b2,s.d0,s.d1,s.x,s.run⟩ (.slice a4 n c4) (.slice ar4 m cr4))∧Blk w12 (A+1+1) 34 (stB sZ (.slice none 0 0) (.slice none 0 0))∧(A+3≤qb∧qb<w12.heap.size)∧Below A w w12∧StR (fun j=>Sx S A (A+3) j∨j=qb) w12 a6 c6 y.F∧TkS (fun j=>Sx S A (A+3) j∨j=qb) w12 ar4 cr4 s.run):=⟨by
   obtain ⟨h1,h2,h3,h4,h5,h6,h7,h8,h9⟩:=H7.out
   obtain ⟨g1,g2,g3,g4⟩:=H9.out
   have z10:=b10.size
   have z12:=K12.size
   have k7:Kept (fun j=>qb<j) w7 w12:=((Kept.of_below g2 _).trans (Kept.of_below b10 _)).trans (K12.mono (fun j _ e=>by omega))
   exact ⟨N12,h8.kept k7 (by omega),h4.kept k7 (by omega),⟨h5,by omega⟩,h1.trans (k7.below (by omega) (fun j e=>by omega)),(s6.stp (Kept.refl _ _) (T:=fun j=>(Sx S A (A+3) j∨j=qb)∨j=g8) (fun j hj e=>by
    rcases e with (e | e) | e
    ·have:=Sx.lt HSZ.out (by omega) j e (B:=A+3);omega
    ·omega
    ·omega)).stp (K12.mono (fun j _ e=>.inr e)) (fun j _ e=>.inl e),(h7.step (k7.mono (T:=fun j=>Sx S A (A+3) j∨qb≤j) (fun j _ e=>.inr (by omega))) (fun j _ e=>by
    rcases e with e | e
    ·exact Or.inl e
    ·exact Or.inr (by omega)))⟩⟩
  clear N10 N12 K12 s6 b10
  go_upto_region 6 with fail
  rw [←hw12]
  clear hw12 y0 y1 y2 y3 y4 f0 f1 f2 f3 f4
  obtain ⟨⟨y0,y1,y2,y3,y4⟩,-⟩:=HZ.out.1.fair
  obtain ⟨⟨x0,x1,x2,x3,x4⟩,f0,f1,f2,f3,f4⟩:=HZ.out.2.1.stx
  obtain ⟨Q11,K11⟩:=st_fair HZ.out.2.1 y (.slice a6 l6 c6)
  obtain ⟨w11,hw11⟩:∃ w11,w11=(((((w12.setCell ⟨qb,17,none⟩ (.int .u64 y.r)).setCell ⟨qb,18,none⟩ (.int .i64 y.g)).setCell ⟨qb,19,none⟩ (.int .i64 y.n)).setCell ⟨qb,20,none⟩ (.int .i64 y.o)).setCell ⟨qb,21,none⟩ (.slice a6 l6 c6)):=⟨_,rfl⟩
  rw [←hw11] at Q11 K11
  have HM:=Hd.mk (And.intro Q11 (HZ.out.2.2.1.kept K11 (by have:=HZ.out.2.2.2.1;omega)))
  have HE:Hd (∀ wf,Kept (fun j=>j=A+1+1) w11 wf→StV S wf { s with lv:=l,q:=q,x:=y } (.agg (stB ⟨l,q,s.lim,s.b0,s.b1,s.b2,s.d0,s.d1,y,s.run⟩ (.slice a6 l6 c6) (.slice ar4 m cr4)))∧Below A w wf):=⟨fun wf k9=>by
   obtain ⟨z1,z2,z3,z4,z5,z6,z7⟩:=HZ.out
   have kk:Kept (fun j=>Sx S A (A+3) j∨j=qb) w12 wf:=(K11.mono (T:=fun j=>Sx S A (A+3) j∨j=qb) (fun j _ e=>Or.inr e)).trans (k9.mono (fun j _ e=>Or.inl (Or.inr ⟨by omega,by omega⟩)))
   have zs:=K11.size
   exact ⟨⟨a6,c6,ar4,cr4,by rw [HL6.out,HL.out.2],z6.stp kk (fun j _ e=>.inl (.inl e)),z7.step kk (fun j _ e=>.inl (.inl e))⟩,(z5.trans (K11.below (by omega) (fun j e=>by omega))).trans (k9.below (by omega) (fun j e=>by omega))⟩⟩
  clear Q11 K11
  go_upto_region 7 with fail
  rw [←hw11]
  clear hw11 y0 y1 y2 y3 y4 x0 x1 x2 x3 x4 f0 f1 f2 f3 f4
  go_wp2_with (first | (refine wpl_loadSt rfl _ rfl qb rfl _ HM.out.1 rfl ?_) | (refine wpl_storeSt rfl _ _ rfl (A+1+1) rfl (stB ⟨l,q,s.lim,s.b0,s.b1,s.b2,s.d0,s.d1,y,s.run⟩ (.slice a6 l6 c6) (.slice ar4 m cr4)) _ rfl HM.out.2 rfl rfl (st_one _ _ _ _ _ _ _) ?_;intro w9 n9 k9))
  refine bodyPost_ret (resSt33 _ _ _ rfl rfl n9) rfl ?_
  obtain ⟨o9,b9⟩:=HE.out w9 k9
  rw [←HA.out,← HY.out]
  exact ⟨⟨_,rfl,o9⟩,b9⟩
theorem rturn_st (s:St) (l:Lv) (q:Bool) (ax:Option Addr) (cx:Nat) (ar:Option Addr) (cr:Nat) (w:World) (S:Nat→Prop) (hx:StR S w ax cx s.x.F) (hr:SlR w ar cr s.run) (hl:s.run.length≤1990) (hS:∀ j,S j→j<w.heap.size) (hf:Few s.x.F) :
  Calls Tryz.prog 22 #[.agg (stB s (.slice ax s.x.F.length cx) (.slice ar s.run.length cr)),.agg #[.string l.name,.int .i64 l.kind,.int .i64 l.shares,.int .i64 l.lend,.int .i64 l.borrow,.int .i64 l.queues,.int .i64 l.hand,.int .i64 l.length,.int .i64 l.wait,.int .i64 l.guess],.bool q] w fun e w'=>(∃ v,e=.returned v∧StV S w' (tuS s l q) v)∧Below w.heap.size w w':=by
 unfold tuS tuF
 by_cases h3:l.kind=3
 ·cases q with
  | true =>
   rw [if_neg (by unfold tuC;simp)]
   exact rturn_shut s l true ax cx ar cr w S hx hr hl hS hf ⟨.inr (.inl rfl)⟩
  | false =>
   by_cases he:nwE l.queues l.guess l.length=0
   ·rw [if_pos (by unfold tuC;rw [decide_eq_true h3,decide_eq_true he];rfl)]
    exact rturn_shape s l false ax cx ar cr w S hx hr hl hS hf ⟨h3⟩ ⟨rfl⟩ he
   ·rw [if_neg (by unfold tuC;rw [decide_eq_false he];simp)]
    exact rturn_shut s l false ax cx ar cr w S hx hr hl hS hf ⟨.inr (.inr he)⟩
 ·rw [if_neg (by unfold tuC;rw [decide_eq_false h3];simp)]
  exact rturn_shut s l q ax cx ar cr w S hx hr hl hS hf ⟨.inl h3⟩
end Go.Proofs.YtlgibnmoogbdcaaGreat
