/-
  One that runs is through, by the program.
  What a dispatch leaves step by step: a level's box, who runs and who was taken in two rows of the call's own.
  Who has waited too long waits no more, by the program.
-/
import Derived.Test.YtlgibnmoogbdcaaGreatR33
namespace Go.Proofs.YtlgibnmoogbdcaaGreat
open Go.RowKit
def dnO (s:St) (d:Int):Bool:=decide (fnd d s.run<s.run.length)
def dnE (s:St) (d:Int):Int:=if dnO s d=true then 0 else 6
def dnT (s:St) (d:Int):Tk:=drT d s.run
theorem Rw.ts {S:Nat→Prop} {w:World} {g z:Nat} {L:List Tk} (h:Rw w g z L) (hS:¬ S g):TkS S w (some ⟨g,0,none⟩) z L :=
 ⟨h.sl.1,h.sl.2.1,fun _ k=>(h.kept k hS).sl.2.2⟩
set_option maxRecDepth 20000 in
set_option maxHeartbeats 2000000 in
theorem done_none (s:St) (d:Int) (ax:Option Addr) (cx:Nat) (ar:Option Addr) (cr:Nat) (w:World) (S:Nat→Prop) (hr:SlR w ar cr s.run) (hl:s.run.length≤1990) (h:¬ fnd d s.run<s.run.length) :
  Calls Tryz.prog 15 #[.agg (stB s (.slice ax s.x.F.length cx) (.slice ar s.run.length cr)),.int .i64 d] w fun e w'=>(∃ v,e=.returned (.tuple #[v,.agg #[.int .i64 0,.int .i64 0,.int .i64 0,.int .i64 0,.int .i64 0],.int .i64 6])∧StV S w' sZ v)∧Below w.heap.size w w':=by
 obtain ⟨w2,hw2⟩:∃ w2,w2=((((w.alloc (.cells (stB s (.slice ax s.x.F.length cx) (.slice ar s.run.length cr)) 34)).alloc (.cells #[.int .i64 d] 3)).alloc (.cells zsT 34)).alloc (.cells #[.int .i64 0,.int .i64 0,.int .i64 0,.int .i64 0,.int .i64 0] 36)):=⟨_,rfl⟩
 have BX:=boxes4 w 34 3 34 36 (stB s (.slice ax s.x.F.length cx) (.slice ar s.run.length cr)) #[.int .i64 d] zsT #[.int .i64 0,.int .i64 0,.int .i64 0,.int .i64 0,.int .i64 0]
 rw [←hw2] at BX
 obtain ⟨B,N1,N2,N3,N4⟩:=BX
 have hs2:w2.heap.size=w.heap.size+4:=by rw [hw2];simp
 obtain ⟨A,hA⟩:∃ A,A=w.heap.size:=⟨_,rfl⟩
 have HA:Hd (A=w.heap.size):=⟨hA⟩
 rw [←hA] at B N1 N2 N3 N4 hs2
 have hBw:Below w.heap.size w w2:=by rw [←hA];exact B
 have IX:=indexD_ok ar cr s.run d (A+1) w2 (hr.carry hBw).2.2 (by omega) N2
 obtain ⟨c22,-⟩:=N1.str
 have e1:ixI d s.run=-1:=if_neg h
 rw [e1] at IX
 clear h e1
 have HB:Hd (Below A w w2∧w2.heap.size=A+4∧Blk w2 (A+1+1) 34 (stB sZ (.slice none 0 0) (.slice none 0 0))∧Blk w2 (A+1+1+1) 36 (tkA tkZ)):=⟨B,hs2,N3,N4⟩
 clear N1 N2 N3 N4 B hr hs2 hBw
 generalize s.run.length=m at *
 generalize s.x.F.length=n at *
 go_enter Tryz.func15,Tryz.ntmps15
 go_upto_region 1 with fail
 rw [←hw2]
 clear hw2
 rw [←hA]
 clear hA
 go_wp2_with fail
 go_at_call 44
 refine IX.mono ?_
 rintro e w6 ⟨rfl,b6⟩
 clear IX c22
 have H6:Hd (Below A w w6∧Blk w6 (A+1+1) 34 (stB sZ (.slice none 0 0) (.slice none 0 0))∧Blk w6 (A+1+1+1) 36 (tkA tkZ)∧A+4≤w6.heap.size):=⟨HB.out.1.trans (b6.mono (by have:=HB.out.2.1;omega)),HB.out.2.2.1.kept (Kept.of_below b6 (fun _=>False)) id,HB.out.2.2.2.kept (Kept.of_below b6 (fun _=>False)) id,by have:=HB.out.2.1;have:=b6.size;omega⟩
 clear HB b6
 have K9:Hd (∀ w9,Kept (fun j=>j=A+1+1) w6 w9→Blk w9 (A+1+1+1) 36 (tkA tkZ)):=⟨fun w9 k=>H6.out.2.2.1.kept k (by omega)⟩
 go_wp2_with (refine wpl_storeSt rfl _ _ rfl (A+1+1) rfl (stB sZ (.slice none 0 0) (.slice none 0 0)) _ rfl H6.out.2.1 rfl rfl (st_one _ _ _ _ _ _ _) ?_;intro w9 n9 k9;obtain ⟨⟨e0,e1,e2,e3,e4⟩,g0,g1,g2,g3,g4⟩:=Blk.five (K9.out w9 k9))
 obtain ⟨Q1,Q2⟩:=five_set (K9.out w9 k9) tkZ
 refine bodyPost_ret (resSt24 _ _ _ _ rfl rfl rfl rfl (n9.kept Q2 (by omega)) Q1) rfl ?_
 have b9:=H6.out.1.trans (((k9.mono (T:=fun j=>A≤j) (fun j _ e=>by omega)).trans (Q2.mono (fun j _ e=>by omega))).below (by have:=H6.out.2.2.2;omega) (fun j e=>e))
 rw [←HA.out]
 exact ⟨⟨_,rfl,sZ_v S _⟩,b9⟩
set_option maxRecDepth 20000 in
set_option maxHeartbeats 2000000 in
theorem done_some (s:St) (d:Int) (k:Nat) (ax:Option Addr) (cx:Nat) (ar:Option Addr) (cr:Nat) (w:World) (S:Nat→Prop) (hx:StR S w ax cx s.x.F) (hr:SlR w ar cr s.run) (hl:s.run.length≤1990) (hS:∀ j,S j→j<w.heap.size) (hf:Few s.x.F) (hk:k=fnd d s.run) (h:k<s.run.length) :
  Calls Tryz.prog 15 #[.agg (stB s (.slice ax s.x.F.length cx) (.slice ar s.run.length cr)),.int .i64 d] w fun e w'=>(∃ v,e=.returned (.tuple #[v,.agg #[.int .i64 (dnT s d).id,.int .i64 (dnT s d).wid,.int .i64 (dnT s d).sts,.int .i64 (dnT s d).sin,.int .i64 (dnT s d).unt],.int .i64 0])∧StV S w' { s with run:=drL d s.run } v)∧Below w.heap.size w w':=by
 obtain ⟨b1,o1,rfl,-⟩:=hr.2.2.at h
 obtain ⟨w2,hw2⟩:∃ w2,w2=((((w.alloc (.cells (stB s (.slice ax s.x.F.length cx) (.slice (some ⟨b1,o1,none⟩) s.run.length cr)) 34)).alloc (.cells #[.int .i64 d] 3)).alloc (.cells zsT 34)).alloc (.cells #[.int .i64 0,.int .i64 0,.int .i64 0,.int .i64 0,.int .i64 0] 36)):=⟨_,rfl⟩
 have BX:=boxes4 w 34 3 34 36 (stB s (.slice ax s.x.F.length cx) (.slice (some ⟨b1,o1,none⟩) s.run.length cr)) #[.int .i64 d] zsT #[.int .i64 0,.int .i64 0,.int .i64 0,.int .i64 0,.int .i64 0]
 rw [←hw2] at BX
 obtain ⟨B,N1,N2,N3,N4⟩:=BX
 have hs2:w2.heap.size=w.heap.size+4:=by rw [hw2];simp
 obtain ⟨A,hA⟩:∃ A,A=w.heap.size:=⟨_,rfl⟩
 have HA:Hd (A=w.heap.size):=⟨hA⟩
 rw [←hA] at B N1 N2 N3 N4 hs2
 have hBw:Below w.heap.size w w2:=by rw [←hA];exact B
 have IX:=indexD_ok (some ⟨b1,o1,none⟩) cr s.run d (A+1) w2 (hr.carry hBw).2.2 (by omega) N2
 obtain ⟨c22,-⟩:=N1.str
 have e1:ixI d s.run=(k:Int):=by unfold ixI;rw [←hk,if_pos h]
 rw [e1] at IX
 obtain ⟨z,hz⟩:∃ z,z=gt s.run k:=⟨_,rfl⟩
 have e2:dnT s d=z:=by rw [hz,hk];rfl
 have HDL:Hd ((drL d s.run).length=s.run.length - 1∧drL d s.run=s.run.take k++s.run.drop (k+1)):=⟨by unfold drL;rw [←hk,List.length_append,List.length_take,List.length_drop];omega,by rw [hk];rfl⟩
 rw [e2]
 have HT:Hd (∀ W,Below A w W→W.cell? ⟨b1,o1+k*5,none⟩=some (.int .i64 z.id)∧W.cell? ⟨b1,o1+k*5+1,none⟩=some (.int .i64 z.wid)∧W.cell? ⟨b1,o1+k*5+2,none⟩=some (.int .i64 z.sts)∧W.cell? ⟨b1,o1+k*5+3,none⟩=some (.int .i64 z.sin)∧W.cell? ⟨b1,o1+k*5+4,none⟩=some (.int .i64 z.unt)):=⟨fun W b=>by
  obtain ⟨b2,o2,e,-,r⟩:=(hr.carry (by rw [←hA];exact b)).2.2.at h
  cases e
  rw [hz]
  exact r⟩
 have HCP:Hd (∀ W,Below A w W→Calls Tryz.prog 35 #[.agg (stB s (.slice ax s.x.F.length cx) (.slice (some ⟨b1,o1,none⟩) s.run.length cr))] W fun e w'=>(∃ v u,e=.returned (.agg (stB s v u))∧StO w' W.heap.size s v u)∧Below W.heap.size W w'):=⟨fun W b=>scopied_ok s ax cx (some ⟨b1,o1,none⟩) cr W ((hx.read (Kept.refl _ _)).carry (by rw [←hA];exact b)) hf (hr.carry (by rw [←hA];exact b)) (by omega)⟩
 have HSZ:Hd (∀ j,S j→j<A):=⟨fun j e=>by rw [hA];exact hS j e⟩
 have HB:Hd (Below A w w2∧w2.heap.size=A+4∧Blk w2 A 34 (stB s (.slice ax s.x.F.length cx) (.slice (some ⟨b1,o1,none⟩) s.run.length cr))∧Blk w2 (A+1+1) 34 (stB sZ (.slice none 0 0) (.slice none 0 0))∧Blk w2 (A+1+1+1) 36 (tkA tkZ)):=⟨B,hs2,N1,N3,N4⟩
 clear N1 N2 N3 N4 B hr hx hf hS hs2 hBw e1 e2 hk hz
 obtain ⟨m,hm⟩:∃ m,m=s.run.length:=⟨_,rfl⟩
 have HMM:Hd (m=s.run.length):=⟨hm⟩
 rw [←hm] at h hl IX HCP HB HDL c22 hw2 ⊢
 clear hm
 have i1:(k:Int)<(m:Int):=by omega
 go_enter Tryz.func15,Tryz.ntmps15
 go_upto_region 1 with fail
 rw [←hw2]
 clear hw2
 rw [←hA]
 clear hA
 go_wp2_with fail
 go_at_call 44
 refine IX.mono ?_
 rintro e w3 ⟨rfl,b3⟩
 have B3:Below A w w3:=HB.out.1.trans (b3.mono (by have:=HB.out.2.1;omega))
 have P1:Blk w3 A 34 _:=HB.out.2.2.1.kept (Kept.of_below b3 (fun _=>False)) id
 obtain ⟨d22,-⟩:=P1.str
 obtain ⟨t0,t1,t2,t3,t4⟩:=HT.out w3 B3
 obtain ⟨w4,hw4⟩:∃ w4,w4=w3.alloc (.cells #[.int .i64 z.id,.int .i64 z.wid,.int .i64 z.sts,.int .i64 z.sin,.int .i64 z.unt] 36):=⟨_,rfl⟩
 have B4:Below w3.heap.size w3 w4:=by rw [hw4];exact alloc_below _ _
 have N4:Blk w4 w3.heap.size 36 (tkA z):=by rw [hw4];exact Blk.new _ _ _
 have b24:Below w2.heap.size w2 w4:=b3.trans (B4.mono b3.size)
 have H4:Hd (Below A w w4∧Blk w4 A 34 (stB s (.slice ax s.x.F.length cx) (.slice (some ⟨b1,o1,none⟩) m cr))∧Blk w4 (A+1+1) 34 (stB sZ (.slice none 0 0) (.slice none 0 0))∧Blk w4 (A+1+1+1) 36 (tkA tkZ)∧Blk w4 w3.heap.size 36 (tkA z)∧A+4≤w3.heap.size∧w3.heap.size<w4.heap.size):=⟨B3.trans (B4.mono (by have:=HB.out.2.1;have:=b3.size;omega)),HB.out.2.2.1.kept (Kept.of_below b24 (fun _=>False)) id,HB.out.2.2.2.1.kept (Kept.of_below b24 (fun _=>False)) id,HB.out.2.2.2.2.kept (Kept.of_below b24 (fun _=>False)) id,N4,by have:=HB.out.2.1;have:=b3.size;omega,N4.lt⟩
 have CP:=HCP.out w4 H4.out.1
 clear IX c22 HT HCP HB b3 B3 P1 B4 N4 b24
 go_upto_region 5 with fail
 rw [←hw4]
 clear hw4 d22 t0 t1 t2 t3 t4
 generalize w3.heap.size=g4 at *
 go_wp2_with (refine wpl_loadSt rfl _ rfl A rfl _ H4.out.2.1 rfl ?_)
 go_at_call 35
 refine CP.mono ?_
 rintro e w5 ⟨⟨v5,u5,rfl,o5⟩,b5⟩
 obtain ⟨a5,c5,rfl,s5⟩:=o5.str
 obtain ⟨g,c,rfl,hc,hB,R⟩:=o5.run.rw (by rw [←HMM.out];omega)
 rw [←HMM.out] at hc s5 ⊢
 have K5:Kept (fun _=>False) w4 w5:=Kept.of_below b5 _
 have P5:=H4.out.2.1.kept K5 id
 have H5:Hd (Below A w w5∧Blk w5 (A+1+1) 34 (stB sZ (.slice none 0 0) (.slice none 0 0))∧Blk w5 (A+1+1+1) 36 (tkA tkZ)∧Blk w5 g4 36 (tkA z)∧(A+4≤g4∧g4<g∧g<w5.heap.size∧w4.heap.size≤g)):=⟨H4.out.1.trans (b5.mono (by have:=H4.out.2.2.2.2.2;omega)),H4.out.2.2.1.kept K5 id,H4.out.2.2.2.1.kept K5 id,H4.out.2.2.2.2.1.kept K5 id,by have:=H4.out.2.2.2.2.2;have:=R.lt;omega⟩
 have HS5:Hd (StR (fun j=>j=g∨j<w4.heap.size) w5 a5 c5 s.x.F):=⟨s5.stp (Kept.refl _ _) (fun j _ e=>e.imp (fun e=>by rw [e];rfl) id)⟩
 have HR:Hd (Rw w5 g c s.run):=⟨R⟩
 have HA4:Hd (A+4≤w4.heap.size):=⟨by have:=H4.out.2.2.2.2.2;omega⟩
 clear CP o5 s5 b5 K5 H4 R hB
 go_upto_region 6 with (refine wpl_storeSt rfl _ _ rfl A rfl (stB s (.slice a5 s.x.F.length c5) (.slice (some ⟨g,0,none⟩) m c)) _ rfl P5 rfl rfl (st_one _ _ _ _ _ _ _) ?_;intro w6 n6 k6)
 have R6:=HR.out.kept k6 (by have:=H5.out.2.2.2.2;omega)
 have DE:=delete_ok g k m c s.run w6 R6 HMM.out.symm h (by omega) hc.1 hc.2
 obtain ⟨c22,-⟩:=n6.str
 clear P5 HR R6
 go_wp2_with fail
 go_at_call 46
 refine DE.mono ?_
 rintro e w7 ⟨rfl,R7,k7⟩
 have hg:=H5.out.2.2.2.2
 have P7:=n6.kept k7 (by omega)
 obtain ⟨d22,f22⟩:=P7.str
 rw [←HDL.out.2] at R7
 obtain ⟨q,hq⟩:∃ q,q=m - 1:=⟨_,rfl⟩
 have HQ:Hd (q=(drL d s.run).length):=⟨by rw [HDL.out.1,hq]⟩
 rw [←hq]
 clear hq
 obtain ⟨Q8,K8⟩:=st_run P7 (drL d s.run) (.slice (some ⟨g,0,none⟩) q c)
 have T8:Hd (Blk (w7.setCell ⟨A,22,none⟩ (.slice (some ⟨g,0,none⟩) q c)) A 34 (stB { s with run:=drL d s.run } (.slice a5 s.x.F.length c5) (.slice (some ⟨g,0,none⟩) q c))∧Blk (w7.setCell ⟨A,22,none⟩ (.slice (some ⟨g,0,none⟩) q c)) g4 36 (tkA z)):=⟨Q8,((H5.out.2.2.2.1.kept k6 (by omega)).kept k7 (by omega)).kept K8 (by omega)⟩
 have M8:Hd (Blk (w7.setCell ⟨A,22,none⟩ (.slice (some ⟨g,0,none⟩) q c)) (A+1+1) 34 (stB sZ (.slice none 0 0) (.slice none 0 0))∧Blk (w7.setCell ⟨A,22,none⟩ (.slice (some ⟨g,0,none⟩) q c)) (A+1+1+1) 36 (tkA tkZ)):=⟨((H5.out.2.1.kept k6 (by omega)).kept k7 (by omega)).kept K8 (by omega),((H5.out.2.2.1.kept k6 (by omega)).kept k7 (by omega)).kept K8 (by omega)⟩
 have HE:Hd (∀ w9,Kept (fun j=>j=A+1+1∨j=A+1+1+1) (w7.setCell ⟨A,22,none⟩ (.slice (some ⟨g,0,none⟩) q c)) w9→StV S w9 { s with run:=drL d s.run } (.agg (stB { s with run:=drL d s.run } (.slice a5 s.x.F.length c5) (.slice (some ⟨g,0,none⟩) q c)))∧Below A w w9):=⟨fun w9 k9=>by
  have h4:=HA4.out
  have hq:=HQ.out
  subst hq
  have kk:=(((k6.mono (T:=fun j=>j=g∨j<w4.heap.size) (fun j _ e=>.inr (by omega))).trans (k7.mono (fun j _ e=>.inl e))).trans (K8.mono (fun j _ e=>.inr (by omega)))).trans (k9.mono (fun j _ e=>.inr (by omega)))
  have kb:=(((k6.mono (T:=fun j=>A≤j) (fun j _ e=>by omega)).trans (k7.mono (fun j _ e=>by omega))).trans (K8.mono (fun j _ e=>by omega))).trans (k9.mono (fun j _ e=>by omega))
  refine ⟨⟨a5,c5,some ⟨g,0,none⟩,c,rfl,HS5.out.stp kk (T:=S) (fun j _ e=>.inr (by have:=HSZ.out j e;omega)),?_⟩,H5.out.1.trans (kb.below (by omega) (fun j e=>e))⟩
  exact Rw.ts ((R7.kept K8 (by omega)).kept k9 (by omega)) (fun e=>by have:=HSZ.out g e;omega)⟩
 have HG:Hd (A+4≤g4):=⟨by omega⟩
 clear DE c22 n6 k6 R7 k7 hg P7 Q8 K8 H5 HS5 HA4
 go_upto_region 7 with fail
 clear d22 f22
 generalize w7.setCell ⟨A,22,none⟩ (.slice (some ⟨g,0,none⟩) q c)=w8 at *
 have T9:Blk w8.drew A 34 (stB { s with run:=drL d s.run } (.slice a5 s.x.F.length c5) (.slice (some ⟨g,0,none⟩) q c))∧Blk w8.drew g4 36 (tkA z):=T8.out
 have M9:Blk w8.drew (A+1+1) 34 (stB sZ (.slice none 0 0) (.slice none 0 0))∧Blk w8.drew (A+1+1+1) 36 (tkA tkZ):=M8.out
 have HE9:Hd (∀ w9,Kept (fun j=>j=A+1+1∨j=A+1+1+1) w8.drew w9→StV S w9 { s with run:=drL d s.run } (.agg (stB { s with run:=drL d s.run } (.slice a5 s.x.F.length c5) (.slice (some ⟨g,0,none⟩) q c)))∧Below A w w9):=⟨fun w9 k9=>HE.out w9 ((Kept.of_below (Below.refl _ _).drew _).trans k9)⟩
 clear T8 M8 HE
 refine AnyG.start (T:=fun W=>Blk W A 34 (stB { s with run:=drL d s.run } (.slice a5 s.x.F.length c5) (.slice (some ⟨g,0,none⟩) q c))∧Blk W g4 36 (tkA z)) (U:=fun _=>True) (j0:=4) (by kernel_rfl) ?_
 generalize w8.drew=w8 at *
 refine .tq (v:=.agg (stB { s with run:=drL d s.run } (.slice a5 s.x.F.length c5) (.slice (some ⟨g,0,none⟩) q c))) 0 31 T9 ?_ (hy:=fun w hSw=>exec_loadSt _ rfl A rfl _ hSw.1 rfl);simp only [oqA,oqB,oqC]
 refine .tq (v:=.agg #[.int .i64 z.id,.int .i64 z.wid,.int .i64 z.sts,.int .i64 z.sin,.int .i64 z.unt]) 1 32 T9 ?_ (hy:=fun w hSw=>by obtain ⟨c0,c1,c2,c3,c4⟩:=(Blk.five hSw.2).1;go_simp);simp only [oqA,oqB,oqC]
 refine AnyG.ready (rs:=[2]) (by kernel_rfl) (by simp) ?_
 refine AllG.cons rfl (fun K hK=>?_) AllG.nil
 refine step_storeSt rfl _ _ rfl (A+1+1) rfl (stB { s with run:=drL d s.run } (.slice a5 s.x.F.length c5) (.slice (some ⟨g,0,none⟩) q c)) _ rfl M9.1 rfl rfl (st_one _ _ _ _ _ _ _) ?_
 intro w9 n9 k9
 have U9:=And.intro (T9.1.kept k9 (by omega)) (T9.2.kept k9 (by have:=HG.out;omega))
 have P9:=M9.2.kept k9 (by omega)
 refine hK.out _ _ ⟨U9,fun _=>trivial⟩ ?_
 clear hK K T9 M9
 refine AnyG.ready (rs:=[3]) (by kernel_rfl) (by simp) ?_
 refine AllG.cons rfl (fun K hK=>?_) AllG.nil
 obtain ⟨⟨e0,e1,e2,e3,e4⟩,g0,g1,g2,g3,g5⟩:=Blk.five P9
 go_simp
 obtain ⟨Q1,Q2⟩:=five_set P9 z
 have U10:=And.intro (U9.1.kept Q2 (by omega)) (U9.2.kept Q2 (by have:=HG.out;omega))
 refine hK.out _ _ ⟨U10,fun _=>trivial⟩ ?_
 clear hK K
 refine AnyG.ready (rs:=[4]) (by kernel_rfl) (by simp) ?_
 refine AllG.cons rfl (fun K hK=>?_) AllG.nil
 go_simp
 refine hK.out _ _ ⟨U10,fun _=>trivial⟩ ?_
 refine AnyG.done (by kernel_rfl) ?_ _
 have n10:=n9.kept Q2 (by omega)
 obtain ⟨o9,b9⟩:=HE9.out _ ((k9.mono (T:=fun j=>j=A+1+1∨j=A+1+1+1) (fun j _ e=>.inl e)).trans (Q2.mono (fun j _ e=>.inr e)))
 clear hK K U9 U10 P9 e0 e1 e2 e3 e4 g0 g1 g2 g3 g5
 generalize (((((w9.setCell ⟨A+1+1+1,0,none⟩ (.int .i64 z.id)).setCell ⟨A+1+1+1,1,none⟩ (.int .i64 z.wid)).setCell ⟨A+1+1+1,2,none⟩ (.int .i64 z.sts)).setCell ⟨A+1+1+1,3,none⟩ (.int .i64 z.sin)).setCell ⟨A+1+1+1,4,none⟩ (.int .i64 z.unt))=w10 at *
 go_wp2_with fail
 refine bodyPost_ret (resSt24 _ _ _ _ rfl rfl rfl rfl n10 Q1) rfl ?_
 rw [←HA.out]
 exact ⟨⟨_,rfl,o9⟩,b9⟩
theorem done_st (s:St) (d:Int) (ax:Option Addr) (cx:Nat) (ar:Option Addr) (cr:Nat) (w:World) (S:Nat→Prop) (hx:StR S w ax cx s.x.F) (hr:SlR w ar cr s.run) (hl:s.run.length≤1990) (hS:∀ j,S j→j<w.heap.size) (hf:Few s.x.F) :
  Calls Tryz.prog 15 #[.agg (stB s (.slice ax s.x.F.length cx) (.slice ar s.run.length cr)),.int .i64 d] w fun e w'=>(∃ v,e=.returned (.tuple #[v,.agg #[.int .i64 (dnT s d).id,.int .i64 (dnT s d).wid,.int .i64 (dnT s d).sts,.int .i64 (dnT s d).sin,.int .i64 (dnT s d).unt],.int .i64 (dnE s d)])∧StV S w' (orZ (dnE s d) { s with run:=drL d s.run }) v)∧Below w.heap.size w w':=by
 by_cases h:fnd d s.run<s.run.length
 ·have e:dnE s d=0:=if_pos (decide_eq_true h)
  rw [e,orZ_yes]
  exact done_some s d _ ax cx ar cr w S hx hr hl hS hf rfl h
 ·have e:dnE s d=6:=if_neg (by unfold dnO;rw [decide_eq_false h];decide)
  have e2:dnT s d=tkZ:=drT_no h
  rw [e,orZ_no (by decide),e2]
  exact done_none s d ax cx ar cr w S hr hl h
def MvD (S:Nat→Prop) (A B:Nat) (u tv:Value) (j:Nat):Prop:=S j∨(A≤j∧j<B)∨u.ownBlock=some j∨tv.ownBlock=some j
structure D8 (w0:World) (S:Nat→Prop) (A B:Nat) (cs:Array Value) (F:List Ln) (a7:Option Addr) (c7:Nat) (R K:List Tk) (u tv:Value) (W:World):Prop where
 bel:Below A w0 W
 lA:A+2≤B
 hB:B≤W.heap.size
 box:Blk W A 34 cs
 zero:Blk W (A+1) 34 (stB sZ (.slice none 0 0) (.slice none 0 0))
 lanes:StR (MvD S A B u tv) W a7 c7 F
 run:OwnT W B u R
 tak:OwnT W B tv K
 ap:∀ j,u.ownBlock=some j→tv.ownBlock=some j→False
section
variable {w0 W W':World} {S:Nat→Prop} {A B:Nat} {cs:Array Value} {F:List Ln} {a7:Option Addr} {c7:Nat} {R K:List Tk} {u tv:Value}
theorem D8.mv (h:D8 w0 S A B cs F a7 c7 R K u tv W) (hS:∀ j,S j→j<A):∀ j,MvD S A B u tv j→j<W.heap.size:=fun j e=>by
 have h1:=h.lA
 have h2:=h.hB
 rcases e with e | e | e | e
 ·have:=hS j e;omega
 ·omega
 ·exact (h.run.lt j e).2
 ·exact (h.tak.lt j e).2
theorem D8.carry (h:D8 w0 S A B cs F a7 c7 R K u tv W) (b:Below W.heap.size W W'):D8 w0 S A B cs F a7 c7 R K u tv W':=by
 have h1:=h.lA
 have h2:=h.hB
 have k:Kept (fun _=>False) W W':=Kept.of_below b _
 exact ⟨h.bel.trans (b.mono (by omega)),h1,Nat.le_trans h2 b.size,h.box.kept k id,h.zero.kept k id,h.lanes.high b (fun _ _ e=>e),h.run.keptV k (fun _ _ e=>e),h.tak.keptV k (fun _ _ e=>e),h.ap⟩
theorem D8.pushU (h:D8 w0 S A B cs F a7 c7 R K u tv W) {t:Tk} {g n cap:Nat} (ho:OwnT W' B (.slice (some ⟨g,0,none⟩) n cap) (R ++ [t])) (gr:W.grownBy W' u.ownBlock) (hg:u.ownBlock=some g∨g=W.heap.size):D8 w0 S A B cs F a7 c7 (R ++ [t]) K (.slice (some ⟨g,0,none⟩) n cap) tv W':=by
 have h1:=h.lA
 have h2:=h.hB
 have k:Kept (fun j=>u.ownBlock=some j) W W':=Kept.of_grown gr (fun _ e=>e)
 have hlo:∀ j,u.ownBlock=some j→B≤j:=fun j e=>(h.run.lt j e).1
 refine ⟨h.bel.trans (k.below (by omega) (fun j e=>by have:=hlo j e;omega)),h1,Nat.le_trans h2 k.size,h.box.kept k (fun e=>by have:=hlo _ e;omega),h.zero.kept k (fun e=>by have:=hlo _ e;omega),h.lanes.stp (k.mono (fun j _ e=>.inr (.inr (.inl e)))) (fun j hj e=>?_),ho,h.tak.keptV k (fun j e1 e2=>h.ap j e2 e1),fun j e1 e2=>?_⟩
 ·rcases e with e | e | e | e
  ·exact .inl e
  ·exact .inr (.inl e)
  ·have e:g=j:=by injection e
   subst e
   rcases hg with c | c
   ·exact .inr (.inr (.inl c))
   ·omega
  ·exact .inr (.inr (.inr e))
 ·have e1:g=j:=by injection e1
  subst e1
  rcases hg with c | c
  ·exact h.ap g c e2
  ·have:=(h.tak.lt g e2).2
   omega
theorem D8.pushT (h:D8 w0 S A B cs F a7 c7 R K u tv W) {t:Tk} {g n cap:Nat} (ho:OwnT W' B (.slice (some ⟨g,0,none⟩) n cap) (K ++ [t])) (gr:W.grownBy W' tv.ownBlock) (hg:tv.ownBlock=some g∨g=W.heap.size):D8 w0 S A B cs F a7 c7 R (K ++ [t]) u (.slice (some ⟨g,0,none⟩) n cap) W':=by
 have h1:=h.lA
 have h2:=h.hB
 have k:Kept (fun j=>tv.ownBlock=some j) W W':=Kept.of_grown gr (fun _ e=>e)
 have hlo:∀ j,tv.ownBlock=some j→B≤j:=fun j e=>(h.tak.lt j e).1
 refine ⟨h.bel.trans (k.below (by omega) (fun j e=>by have:=hlo j e;omega)),h1,Nat.le_trans h2 k.size,h.box.kept k (fun e=>by have:=hlo _ e;omega),h.zero.kept k (fun e=>by have:=hlo _ e;omega),h.lanes.stp (k.mono (fun j _ e=>.inr (.inr (.inr e)))) (fun j hj e=>?_),h.run.keptV k (fun j e1 e2=>h.ap j e1 e2),ho,fun j e1 e2=>?_⟩
 ·rcases e with e | e | e | e
  ·exact .inl e
  ·exact .inr (.inl e)
  ·exact .inr (.inr (.inl e))
  ·have e:g=j:=by injection e
   subst e
   rcases hg with c | c
   ·exact .inr (.inr (.inr c))
   ·omega
 ·have e2:g=j:=by injection e2
  subst e2
  rcases hg with c | c
  ·exact h.ap g e1 c
  ·have:=(h.run.lt g e1).2
   omega
theorem D8.put (h:D8 w0 S A B cs F a7 c7 R K u tv W) {ds:Array Value} (k:Kept (fun j=>j=A) W W') (hb:Blk W' A 34 ds):D8 w0 S A B ds F a7 c7 R K u tv W':=by
 have h1:=h.lA
 have h2:=h.hB
 exact ⟨h.bel.trans (k.below (by omega) (fun j e=>by omega)),h1,Nat.le_trans h2 k.size,hb,h.zero.kept k (by omega),h.lanes.stp (k.mono (fun j _ e=>.inr (.inl (by omega)))) (fun _ _ e=>e),h.run.keptV k (fun j e1 e2=>by have:=(h.run.lt j e1).1;omega),h.tak.keptV k (fun j e1 e2=>by have:=(h.tak.lt j e1).1;omega),h.ap⟩
theorem D8.turn (h:D8 w0 S A B cs F a7 c7 R K u tv W) {G:List Ln} {a9:Option Addr} {c9:Nat} (hl:StR (MvD S A B u tv) W a9 c9 G):D8 w0 S A B cs G a9 c9 R K u tv W:=⟨h.bel,h.lA,h.hB,h.box,h.zero,hl,h.run,h.tak,h.ap⟩
end
structure DsI (w0:World) (S:Nat→Prop) (A B:Nat) (s0 s:St) (L:List Tk) (tv:Value) (W:World):Prop where
 mem:∃ a c u,D8 w0 S A B (stB s (.slice a s.x.F.length c) u) s.x.F a c s.run L u tv W
 ev:dsR (dsN s) s L=dsA s0
 few:Few s.x.F
 cnt:(allT s).length≤1800
 num:L.length≤s.run.length
set_option maxRecDepth 20000 in
set_option maxHeartbeats 4000000 in
theorem late_st (s:St) (now:Int) (ax:Option Addr) (cx:Nat) (ar:Option Addr) (cr:Nat) (w:World) (S:Nat→Prop) (hx:StR S w ax cx s.x.F) (hr:SlR w ar cr s.run) (hS:∀ j,S j→j<w.heap.size) (hf:Few s.x.F) (hl:s.run.length≤1990) (hw:(flt s.x.F).length≤1800) :
  Calls Tryz.prog 19 #[.agg (stB s (.slice ax s.x.F.length cx) (.slice ar s.run.length cr)),.int .i64 now] w fun e w'=>(∃ v u,e=.returned (.tuple #[v,u])∧StV S w' (ltX now s) v∧∃ a c,u=.slice a (srt (ltA now s.x.F)).length c∧TkS S w' a c (srt (ltA now s.x.F)))∧Below w.heap.size w w':=by
 obtain ⟨w2,hw2⟩:∃ w2,w2=((w.alloc (.cells (stB s (.slice ax s.x.F.length cx) (.slice ar s.run.length cr)) 34)).alloc (.cells #[.int .i64 now] 3)).alloc (.cells zsT 34):=⟨_,rfl⟩
 have BX:=boxes3 w 34 3 34 (stB s (.slice ax s.x.F.length cx) (.slice ar s.run.length cr)) #[.int .i64 now] zsT
 rw [←hw2] at BX
 obtain ⟨B,N1,N2,N3⟩:=BX
 have hs2:w2.heap.size=w.heap.size+3:=by rw [hw2];simp
 obtain ⟨A,hA⟩:∃ A,A=w.heap.size:=⟨_,rfl⟩
 have HA:Hd (A=w.heap.size):=⟨hA⟩
 rw [←hA] at B N1 N2 N3 hs2
 have HSZ:Hd (∀ j,S j→j<A):=⟨fun j e=>by rw [hA];exact hS j e⟩
 have hBw:Below w.heap.size w w2:=by rw [←hA];exact B
 have CP:=scopied_ok s ax cx ar cr w2 ((hx.read (Kept.refl _ _)).carry hBw) hf (hr.carry hBw) (by omega)
 have HF:Hd (Few s.x.F∧(flt s.x.F).length≤1800):=⟨hf,hw⟩
 have hln:=hf.len
 have HB:Hd (Below A w w2∧w2.heap.size=A+3∧Blk w2 A 34 (stB s (.slice ax s.x.F.length cx) (.slice ar s.run.length cr))∧Blk w2 (A+1) 3 #[.int .i64 now]∧Blk w2 (A+1+1) 34 (stB sZ (.slice none 0 0) (.slice none 0 0))):=⟨B,hs2,N1,N2,N3⟩
 clear N1 N2 N3 B hx hr hf hs2 hS hBw hl hw
 go_enter Tryz.func19,Tryz.ntmps19
 go_upto_region 1 with fail
 rw [←hw2]
 clear hw2
 rw [←hA]
 clear hA
 go_wp2_with (refine wpl_loadSt rfl _ rfl A rfl _ HB.out.2.2.1 rfl ?_)
 go_at_call 35
 refine CP.mono ?_
 rintro e w3 ⟨⟨v,u,rfl,o3⟩,b3⟩
 have hb3:=b3.size
 have o3':=o3.low (Nat.le_of_eq HB.out.2.1.symm)
 have k3:Kept (fun _=>False) w2 w3:=Kept.of_below b3 _
 have P3:=HB.out.2.2.1.kept k3 id
 obtain ⟨av,cv,eu,cu,rfl,rfl,-,-⟩:=o3.shape
 have HO:=Hd.mk (And.intro o3' (And.intro (HB.out.1.trans (b3.mono (by rw [HB.out.2.1];omega))) (And.intro (HB.out.2.2.2.1.kept k3 id) (And.intro (HB.out.2.2.2.2.kept k3 id) (show A+3≤w3.heap.size by have:=HB.out.2.1;omega)))))
 clear CP o3 o3' b3 k3 hb3 HB
 go_upto_region 2 with (refine wpl_storeSt rfl _ _ rfl A rfl (stB s (.slice av s.x.F.length cv) (.slice eu s.run.length cu)) _ rfl P3 rfl rfl (st_one _ _ _ _ _ _ _) ?_;intro w4 n4 k4)
 have hI0:LtR w A (A+3) w4.heap.size (stB s (.slice av s.x.F.length cv) (.slice eu s.run.length cu)) s now (.slice av s.x.F.length cv) (.slice eu s.run.length cu) 0 (.slice none 0 0) w4 :=
  LtR.start (HO.out.2.1.trans (k4.below (by have:=HO.out.2.2.2.2;omega) (fun j e=>by omega))) ⟨n4,HO.out.2.2.1.kept k4 (by omega),HO.out.2.2.2.1.kept k4 (by omega)⟩ (Nat.le_refl _) rfl (by have:=HO.out.2.2.2.2;have:=k4.size;omega) (HO.out.1.kept k4 (fun j hj e=>by omega))
 obtain ⟨B2,hB2⟩:∃ B2,B2=w4.heap.size:=⟨_,rfl⟩
 rw [←hB2] at hI0
 clear P3 k4 HO hB2
 obtain ⟨n,hn⟩:∃ n,n=s.x.F.length:=⟨_,rfl⟩
 obtain ⟨m,hm⟩:∃ m,m=s.run.length:=⟨_,rfl⟩
 have HL:=Hd.mk (And.intro hn hm)
 rw [←hn,← hm] at hI0 n4
 rw [←hn] at hln
 rw [←hn,← hm]
 clear hn hm
 have HI0:=Hd.mk hI0
 have c21:w4.cell? ⟨A,21,none⟩=some (.slice av n cv):=n4.cellv 21 rfl
 clear hI0 n4
 go_wp2_with fail
 clear c21
 go_loopw [6,15] (fun v6 vi wr=>∃ k:Nat,k≤n∧vi=.int .i64 k∧Hd (LtR w A (A+3) B2 (stB s (.slice av n cv) (.slice eu m cu)) s now (.slice av n cv) (.slice eu m cu) k v6 wr)) (fun _ vi _=>n - (intOf vi).toNat)
 case atStart=>exact ⟨0,Nat.zero_le _,rfl,HI0⟩
 case round =>
  obtain ⟨k,hk,rfl,hI⟩:=hrel
  clear HI0
  by_cases hlt:k<n
  ·obtain ⟨g,cap,vk,e1,⟨c0,c1⟩,ovk,hg,NX⟩:=hI.out.next (by rw [←HL.out.1];exact hlt)
   rw [←HL.out.1] at e1
   obtain ⟨rfl,rfl⟩:av=some ⟨g,0,none⟩∧cv=cap:=by injection e1 with x1 x2 x3;exact ⟨x1,x3⟩
   obtain ⟨alv,clv,rfl,slv⟩:=hI.out.late.read
   obtain ⟨ak,ck,rfl,slk⟩:=ovk.read
   have hzs:=hI.out.sz
   obtain ⟨w5,hw5⟩:∃ w5,w5=wr.alloc (.cells #[.int .u64 (gl s.x.F k).s,.slice ak (gl s.x.F k).L.length ck] 62):=⟨_,rfl⟩
   have B5:Below wr.heap.size wr w5:=by rw [hw5];exact alloc_below _ _
   have M5:Blk w5 wr.heap.size 62 (lnA (gl s.x.F k).s (.slice ak (gl s.x.F k).L.length ck)):=by rw [hw5];exact Blk.new _ _ _
   have hkl:=(HF.out.1.at k).2
   have LT:=llate_ok (gl s.x.F k).s ak ck (gl s.x.F k).L now w5 (slk.carry B5).2.2 (by omega)
   have W1:Blk w5 (A+1) 3 #[.int .i64 now]:=hI.out.box.2.1.kept (Kept.of_below B5 (fun _=>False)) id
   have x0:w5.cell? ⟨A+1,0,none⟩=some (.int .i64 now):=W1.cellv 0 rfl
   have HI:=Hd.mk hI.out
   have HNX:=Hd.mk NX
   have HVK0:=Hd.mk ovk
   have HM5:=Hd.mk (And.intro B5 (And.intro M5 (And.intro hg hzs)))
   obtain ⟨⟨y0,y1⟩,-⟩:=M5.lane
   have HKL:Hd ((gl s.x.F k).L.length≤1000∧(ltA now (s.x.F.take k)).length≤1800):=⟨hkl,by
    refine Nat.le_trans ?_ HF.out.2
    unfold ltA
    refine Nat.le_trans (List.length_filter_le _ _) ?_
    have e:=congrArg List.length (congrArg flt (List.take_append_drop k s.x.F))
    rw [flt_app,List.length_append] at e
    omega⟩
   have HLA:Hd (ltA now (s.x.F.take (k+1))=ltA now (s.x.F.take k)++lateTo now (gl s.x.F k).L (gl s.x.F k).L.length∧(lateTo now (gl s.x.F k).L (gl s.x.F k).L.length).length≤1000):=⟨ltA_take (by rw [←HL.out.1];exact hlt),Nat.le_trans (lateTo_len _ _ _) hkl⟩
   have hlv:OwnT w5 B2 (.slice alv (ltA now (s.x.F.take k)).length clv) (ltA now (s.x.F.take k)):=hI.out.late.keptV (Kept.of_below B5 (fun _=>False)) (fun _ _ e=>e)
   have HLV:=Hd.mk hlv
   clear hI NX e1 ovk hg slv slk hzs B5 M5 hkl W1 hlv
   generalize hLL:(gl s.x.F k).L=LL at *
   generalize (gl s.x.F k).s=sk at *
   generalize ltA now (s.x.F.take (k+1))=LA1 at *
   generalize ltA now (s.x.F.take k)=LA0 at *
   generalize lateTo now LL LL.length=LT0 at *
   have HLL:Hd (∃ L':List Tk,L'=LL∧L'.length≤1000):=⟨LL,rfl,by rw [←hLL];exact (HF.out.1.at k).2⟩
   clear hLL
   generalize LL.length=ll at *
   obtain ⟨l0,hl0⟩:∃ l0,LA0.length=l0:=⟨_,rfl⟩
   have HL0:=Hd.mk hl0
   rw [hl0] at HLV HKL HI HNX ⊢
   clear hl0
   go_upto_region 6 with fail
   rw [←hw5]
   clear hw5 c0 c1
   obtain ⟨g8,hg8⟩:∃ g8,g8=wr.heap.size:=⟨_,rfl⟩
   rw [←hg8] at HM5 y0 y1 ⊢
   have HG8:=Hd.mk hg8
   clear hg8
   go_wp2_with fail
   go_at_call 50
   refine LT.mono ?_
   rintro e w6 ⟨v6,rfl,o6,b6⟩
   obtain ⟨a6,c6,rfl,s6⟩:=o6.read
   have hb6:=b6.size
   have HS6:=Hd.mk (And.intro s6 (HLV.out.keptV (Kept.of_below b6 (fun _=>False)) (fun _ _ e=>e)))
   have HZ6:Hd (B2≤w6.heap.size):=⟨by have:=HM5.out;have:=HM5.out.1.size;have:=HG8.out;omega⟩
   obtain ⟨lt0,hlt0⟩:∃ lt0,lt0=LT0.length:=⟨_,rfl⟩
   have HLT0:=Hd.mk hlt0
   rw [←hlt0]
   clear LT s6 hlt0 o6
   go_upto_region 7 with (at_builtin;refine wpl_tks rfl _ _ rfl B2 _ LA0 LT0 rfl HS6.out.2 a6 lt0 c6 HLT0.out.symm rfl HS6.out.1 (by have:=HKL.out;have:=HLA.out.2;have:=HL0.out;omega) HZ6.out ?_;intro v7 w7 o7 g7)
   have HI7:=Hd.mk (HNX.out w7.drew v7 ((((Kept.of_below (by have:=HM5.out.1;rw [HG8.out] at this;exact this) _).trans (Kept.of_below b6 _)).trans (Kept.of_grown g7 (fun _ e=>e))).trans (Kept.of_below (Below.refl _ _).drew _)) (by rw [HLA.out.1];exact o7))
   have hlvB:∀ j,(Value.slice alv l0 clv).ownBlock=some j→B2≤j∧j<g8:=fun j e=>by
    have h1:=HI.out.late.lt j e
    rw [HG8.out]
    exact h1
   have M7:Blk w7 g8 62 (lnA sk (.slice ak ll ck)):=(HM5.out.2.1.kept (Kept.of_below b6 (fun _=>False)) id).kept (Kept.of_grown g7 (S:=fun j=>(Value.slice alv l0 clv).ownBlock=some j) (fun _ e=>e)) (fun e=>by have:=hlvB _ e;omega)
   have hTN:Blk w7.drew A 34 (stB s (.slice (some ⟨g,0,none⟩) n cv) (.slice eu m cu))∧Blk w7.drew g8 62 (lnA sk (.slice ak ll ck)):=⟨HI7.out.2.1,M7⟩
   have DF:=delF_own (A+3) (.slice ak ll ck) LL now (A+1) w7.drew HI7.out.1 (by obtain ⟨L',e,h⟩:=HLL.out;rw [←e];omega) HI7.out.2.2.1
   have HVK:Hd (∀ j,(Value.slice ak ll ck).ownBlock=some j→A+3≤j∧j<g8):=⟨fun j e=>⟨(HI7.out.1.lt j e).1,by rw [HG8.out];exact (HVK0.out.lt j e).2⟩⟩
   clear b6 HS6 o7 g7 hlvB M7 HLV HNX
   refine AnyG.start (T:=fun W=>Blk W A 34 (stB s (.slice (some ⟨g,0,none⟩) n cv) (.slice eu m cu))∧Blk W g8 62 (lnA sk (.slice ak ll ck))) (U:=fun _=>True) (j0:=10) (by kernel_rfl) ?_
   generalize w7.drew=w8 at *
   refine .tq 0 25 hTN ?_;simp only [oqA,oqB,oqC]
   refine .tq 1 26 hTN ?_;simp only [oqA,oqB,oqC]
   refine .tq (v:=.slice (some ⟨g,0,none⟩) n cv) 2 27 hTN ?_ (hy:=fun w hSw=>by have s:=(Blk.stx hSw.1).1.2.2.2.2;go_simp);simp only [oqA,oqB,oqC]
   refine .tq 3 28 hTN ?_;simp only [oqA,oqB,oqC]
   refine .tq 4 29 hTN ?_;simp only [oqA,oqB,oqC]
   refine .tq (v:=.slice ak ll ck) 5 30 hTN ?_ (hy:=fun w hSw=>by have s:=(Blk.lane hSw.2).1.2;go_simp);simp only [oqA,oqB,oqC]
   refine .tq 6 31 hTN ?_;simp only [oqA,oqB,oqC]
   refine AnyG.ready (rs:=[7]) (by kernel_rfl) (by simp) ?_
   refine AllG.cons rfl (fun K hK=>?_) (AllG.nil)
   go_simp
   refine DF.mono ?_
   rintro e w9 ⟨v9,rfl,o9,e9,k9⟩
   obtain ⟨a9,c9,e9',-⟩:=o9.read
   obtain ⟨l9,hl9⟩:∃ l9,l9=(kpF now LL).length:=⟨_,rfl⟩
   rw [←hl9] at e9'
   subst e9'
   clear hl9
   obtain ⟨⟨c1,f1⟩,P9,HI9⟩:=HI7.out.2.2.2 w9 _ o9 e9 k9
   have T9:Blk w9 A 34 (stB s (.slice (some ⟨g,0,none⟩) n cv) (.slice eu m cu))∧Blk w9 g8 62 (lnA sk (.slice ak ll ck)):=⟨P9,hTN.2.kept k9 (fun e=>by have:=HVK.out _ e;omega)⟩
   refine hK.out _ _ ⟨T9,fun _=>trivial⟩ ?_
   have i1:(k:Int)<(n:Int):=by omega
   clear hK K hTN DF k9 P9
   refine .tq (v:=.pointer (some ⟨g,k*2,none⟩)) 8 33 T9 ?_ (hy:=fun w hSw=>by go_simp);simp only [oqA,oqB,oqC]
   refine .tq 9 34 T9 ?_;simp only [oqA,oqB,oqC]
   refine AnyG.ready (rs:=[10]) (by kernel_rfl) (by simp) ?_
   refine AllG.cons rfl (fun K hK=>?_) (AllG.nil)
   go_simp
   have K10:Kept (fun j=>j=g) w9 (w9.setCell ⟨g,k*2+1,none⟩ (.slice a9 l9 c9)):=(Kept.refl _ _).setCell _ _ (.inl rfl)
   refine hK.out _ _ ⟨⟨T9.1.kept K10 (by have:=HM5.out.2.2;omega),T9.2.kept K10 (by have:=HM5.out.2.2;have:=HG8.out;omega)⟩,fun _=>trivial⟩ ?_
   refine AnyG.done (by kernel_rfl) ?_ _
   have HI10:=Hd.mk HI9
   clear hK K c1 f1 T9 K10 HI9 HI7 HI
   go_wp2_with fail
   go_roundw
   case rel=>exact ⟨k+1,by omega,by go_num,HI10⟩
   case measure=>simp [intOf];omega
  ·have hkn:k=n:=by omega
   rw [hkn] at hI ⊢
   clear hk hlt hkn
   obtain ⟨⟨a',c',e1,lan⟩,hlt,hrn⟩:=LtR.fin (by have:=hI.out;rw [HL.out.1] at this;exact this)
   obtain ⟨rfl,rfl⟩:av=a'∧cv=c':=by injection e1 with x1 x2 x3;exact ⟨x1,x3⟩
   obtain ⟨alv,clv,rfl,slv⟩:=hlt.read
   have hrn:OwnT wr (A+3) (.slice eu m cu) s.run:=hrn
   have HU:Hd (∀ j,(Value.slice eu m cu).ownBlock=some j→A+3≤j∧j<B2):=⟨fun j e=>⟨(hrn.lt j e).1,hI.out.ult j e⟩⟩
   have HI:=Hd.mk (And.intro hI.out.bel (And.intro hI.out.box (And.intro hI.out.sz (And.intro lan (And.intro hlt hrn)))))
   have HX:Hd (ltA now s.x.F=[] ↔ (ltA now s.x.F).length=0):=⟨List.length_eq_zero_iff.symm⟩
   have HSL:Hd ((srt (ltA now s.x.F)).length=(ltA now s.x.F).length∧(ltA now s.x.F).length≤1800):=⟨(srt_perm _).length_eq,Nat.le_trans (List.length_filter_le _ _) HF.out.2⟩
   clear hI slv lan hlt hrn e1
   obtain ⟨l,hl⟩:∃ l,l=(ltA now s.x.F).length:=⟨_,rfl⟩
   have HLl:=Hd.mk hl
   rw [←hl] at HI HX HSL ⊢
   clear hl
   by_cases h0:l=0
   ·subst h0
    have e0:ltX now s=s:=by unfold ltX;rw [if_pos (HX.out.2 rfl)]
    have HE1:Hd (ltA now s.x.F=[]):=⟨HX.out.2 rfl⟩
    have SN:=sort_none alv clv wr
    go_wp2_with (first | (go_at_call 54;refine SN.mono ?_;rintro e w8 ⟨rfl,h8⟩;have HW8:=Hd.mk h8;clear h8 SN;replace HI:=Hd.mk (HW8.out.symm ▸ HI.out)) | (refine wpl_loadSt rfl _ rfl A rfl _ HI.out.2.1.1 rfl ?_) | (refine wpl_storeSt rfl _ _ rfl (A+1+1) rfl (stB s (.slice av n cv) (.slice eu m cu)) _ rfl HI.out.2.1.2.2 rfl rfl (st_one _ _ _ _ _ _ _) ?_;intro w9 n9 k9))
    refine bodyPost_ret (resSt26 _ _ _ rfl rfl n9) rfl ?_
    obtain ⟨bel,box,sz,lan,hlt,hrn⟩:=HI.out
    rw [e0,← HA.out]
    have e1:=HE1.out
    have e2:ltK now s.x.F=s.x.F:=ltK_none e1
    rw [e2] at lan
    rw [e1]
    have lan9:=lan.stp (k9.mono (T:=fun j=>j<A+3∨B2≤j) (fun j _ e=>.inl (by omega))) (T:=S) (fun j _ e=>.inl (by have:=HSZ.out j e;omega))
    obtain ⟨a',c',e',r'⟩:=(hrn.kept k9 (fun j hj e=>by omega)).ts (S:=S) (fun j hj e=>by have:=HSZ.out j e;omega)
    obtain ⟨rfl,hm',rfl⟩:eu=a'∧m=s.run.length∧cu=c':=by injection e' with x1 x2 x3;exact ⟨x1,x2,x3⟩
    obtain ⟨a'',c'',e'',r''⟩:=(hlt.kept k9 (fun j hj e=>by omega)).ts (S:=S) (fun j hj e=>by have:=HSZ.out j e;omega)
    obtain ⟨rfl,-,rfl⟩:alv=a''∧True∧clv=c'':=by injection e'' with x1 x2 x3;exact ⟨x1,trivial,x3⟩
    rw [e1] at r''
    exact ⟨⟨_,_,rfl,⟨av,cv,eu,cu,by rw [←HL.out.1,← hm'],lan9,r'⟩,⟨alv,clv,rfl,r''⟩⟩,bel.trans (k9.below (by omega) (fun j e=>by omega))⟩
   ·have h1:(0:Int)<(l:Int):=by omega
    have e0:ltX now s={ s with x:=⟨s.x.r,s.x.g,s.x.n,s.x.o,trm (ltK now s.x.F) s.x.o⟩ }:=by unfold ltX;rw [if_neg (fun e=>h0 (HX.out.1 e))]
    obtain ⟨g,c',eg,hc',hBg,R⟩:=HI.out.2.2.2.2.1.rw (by rw [←HLl.out];omega)
    obtain ⟨rfl,-,rfl⟩:alv=some ⟨g,0,none⟩∧True∧clv=c':=by injection eg with x1 x2 x3;exact ⟨x1,trivial,x3⟩
    have TR:=ltrimmed_ok (fun j=>j<A+3∨B2≤j) s.x.r s.x.g s.x.n s.x.o av cv (ltK now s.x.F) wr HI.out.2.2.2.1 (ltK_few HF.out.1 now)
    rw [ltK_len,← HL.out.1] at TR
    obtain ⟨⟨x0,x1,x2,x3,x4⟩,-⟩:=HI.out.2.1.1.stx
    have HR:=Hd.mk (And.intro R hBg)
    clear R hBg eg hc'
    go_wp2_with fail
    go_at_call 53
    refine TR.mono ?_
    rintro e w5 ⟨⟨v5,rfl,a5,c5,rfl,s5⟩,b5⟩
    clear TR x0 x1 x2 x3 x4
    obtain ⟨l5,hl5⟩:∃ l5,l5=(trm (ltK now s.x.F) s.x.o).length:=⟨_,rfl⟩
    have HL5:=Hd.mk hl5
    rw [←hl5]
    clear hl5
    have K5:Kept (fun _=>False) wr w5:=Kept.of_below b5 _
    have P5:=HI.out.2.1.1.kept K5 id
    obtain ⟨⟨x0,x1,x2,x3,x4⟩,f0,f1,f2,f3,f4⟩:=P5.stx
    obtain ⟨Q6,K6⟩:=st_fair P5 ⟨s.x.r,s.x.g,s.x.n,s.x.o,trm (ltK now s.x.F) s.x.o⟩ (.slice a5 l5 c5)
    obtain ⟨w6,hw6⟩:∃ w6,w6=(((((w5.setCell ⟨A,17,none⟩ (.int .u64 s.x.r)).setCell ⟨A,18,none⟩ (.int .i64 s.x.g)).setCell ⟨A,19,none⟩ (.int .i64 s.x.n)).setCell ⟨A,20,none⟩ (.int .i64 s.x.o)).setCell ⟨A,21,none⟩ (.slice a5 l5 c5)):=⟨_,rfl⟩
    have Q6:Blk w6 A 34 (stB { s with x:=⟨s.x.r,s.x.g,s.x.n,s.x.o,trm (ltK now s.x.F) s.x.o⟩ } (.slice a5 l5 c5) (.slice eu m cu)):=by rw [hw6];exact Q6
    have K6:Kept (fun j=>j=A) w5 w6:=by rw [hw6];exact K6
    have hsz:=HI.out.2.2.1
    have R6:=(HR.out.1.kept K5 id).kept K6 (by have:=HR.out.2;omega)
    have SO:=sort_ok g clv l clv (ltA now s.x.F) w6 R6 HLl.out.symm (by have:=HSL.out.2;omega)
    have H6:=Hd.mk (And.intro K5 (And.intro K6 (And.intro Q6 (And.intro s5 (And.intro b5 (HI.out.2.1.2.2.kept K5 id |>.kept K6 (by omega)))))))
    clear K5 P5 Q6 K6 hsz R6 s5 b5
    go_upto_region 11 with fail
    rw [←hw6]
    clear hw6 x0 x1 x2 x3 x4 f0 f1 f2 f3 f4
    go_wp2_with fail
    go_at_call 54
    refine SO.mono ?_
    rintro e w7 ⟨rfl,R7,k7⟩
    clear SO
    have hsz:=HI.out.2.2.1
    have P7:=H6.out.2.2.1.kept k7 (by have:=HR.out.2;omega)
    have Z7:=H6.out.2.2.2.2.2.kept k7 (by have:=HR.out.2;omega)
    have H7:=Hd.mk (And.intro R7 (And.intro k7 (And.intro P7 Z7)))
    clear R7 k7 P7 Z7 hsz
    go_wp2_with (first | (refine wpl_loadSt rfl _ rfl A rfl _ H7.out.2.2.1 rfl ?_) | (refine wpl_storeSt rfl _ _ rfl (A+1+1) rfl (stB { s with x:=⟨s.x.r,s.x.g,s.x.n,s.x.o,trm (ltK now s.x.F) s.x.o⟩ } (.slice a5 l5 c5) (.slice eu m cu)) _ rfl H7.out.2.2.2 rfl rfl (st_one _ _ _ _ _ _ _) ?_;intro w9 n9 k9))
    refine bodyPost_ret (resSt26 _ _ _ rfl rfl n9) rfl ?_
    obtain ⟨bel,box,sz,lan,hlt,hrn⟩:=HI.out
    obtain ⟨K5,K6,-,s5,b5,-⟩:=H6.out
    obtain ⟨R7,k7,-,-⟩:=H7.out
    have hB2:=HR.out.2
    rw [e0,← HA.out]
    have lan9:=s5.stp (((K6.mono (T:=fun j=>j<A+3∨B2≤j) (fun j _ e=>.inl (by omega))).trans (k7.mono (fun j _ e=>.inr (by omega)))).trans (k9.mono (fun j _ e=>.inl (by omega)))) (T:=S) (fun j _ e=>.inl (by have:=HSZ.out j e;omega))
    have o7:=((hrn.keptV K5 (fun _ _ e=>e)).keptV K6 (fun j e1 e2=>by have:=HU.out j e1;omega)).keptV k7 (fun j e1 e2=>by have:=HU.out j e1;omega)
    obtain ⟨a',c',e',r'⟩:=(o7.kept k9 (fun j hj e=>by omega)).ts (S:=S) (fun j hj e=>by have:=HSZ.out j e;omega)
    obtain ⟨rfl,hm',rfl⟩:eu=a'∧m=s.run.length∧cu=c':=by injection e' with x1 x2 x3;exact ⟨x1,x2,x3⟩
    have t9:=Rw.ts (S:=S) (R7.kept k9 (by omega)) (fun e=>by have:=HSZ.out g e;omega)
    have hwr:=b5.size
    have hw5:=K6.size
    have hw7:=k7.size
    exact ⟨⟨_,_,rfl,⟨a5,c5,eu,cu,by rw [HL5.out,← hm'],lan9,r'⟩,⟨some ⟨g,0,none⟩,clv,by rw [HSL.out.1];rfl,t9⟩⟩,(((bel.trans (b5.mono (by omega))).trans (K6.below (by omega) (fun j e=>by omega))).trans (k7.below (by omega) (fun j e=>by omega))).trans (k9.below (by omega) (fun j e=>by omega))⟩
end Go.Proofs.YtlgibnmoogbdcaaGreat
