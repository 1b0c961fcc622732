/-
  One that runs is through, by the reference.
  What lies in memory while the reference takes late ones out, one by one.
-/
import Derived.Test.YtlgibnmoogbdcaaGreatR41
namespace Go.Proofs.YtlgibnmoogbdcaaGreat
open Go.RowKit
structure DnW (w0:World) (S:Nat→Prop) (A q B:Nat) (s:St) (n m:Nat) (ax:Option Addr) (cx:Nat) (ar:Option Addr) (cr:Nat) (a5:Option Addr) (c5:Nat) (u0 u:Value) (X:List Tk) (W:World):Prop where
 bel:Below A w0 W
 lA:A+3≤q∧q<B
 hB:B≤W.heap.size
 box:Blk W q 34 (stB s (.slice a5 n c5) u0)
 ar:Blk W A 34 (stB s (.slice ax n cx) (.slice ar m cr))
 z1:Blk W (A+1) 34 (stB sZ (.slice none 0 0) (.slice none 0 0))
 z2:Blk W (A+1+1) 36 (tkA tkZ)
 lanes:StR (fun j=>Sx S A (A+3) j∨j=q∨B≤j) W a5 c5 s.x.F
 own:OwnT W B u X
section
variable {w0 W W':World} {S:Nat→Prop} {A q B:Nat} {s:St} {n m:Nat} {ax:Option Addr} {cx:Nat} {ar:Option Addr} {cr:Nat} {a5:Option Addr} {c5:Nat} {u0 u:Value} {X:List Tk}
theorem DnW.carry (h:DnW w0 S A q B s n m ax cx ar cr a5 c5 u0 u X W) (b:Below W.heap.size W W'):DnW w0 S A q B s n m ax cx ar cr a5 c5 u0 u X W':=by
 have h1:=h.lA
 have h2:=h.hB
 have k:Kept (fun _=>False) W W':=Kept.of_below b _
 exact ⟨h.bel.trans (b.mono (by omega)),h1,Nat.le_trans h2 b.size,h.box.kept k id,h.ar.kept k id,h.z1.kept k id,h.z2.kept k id,h.lanes.high b (fun _ _ e=>e),h.own.keptV k (fun _ _ e=>e)⟩
theorem DnW.next (h:DnW w0 S A q B s n m ax cx ar cr a5 c5 u0 u X W) {v':Value} {X':List Tk} (o:OwnT W' B v' X') (gr:W.grownBy W' u.ownBlock) :
  Blk W' q 34 (stB s (.slice a5 n c5) u0)∧DnW w0 S A q B s n m ax cx ar cr a5 c5 v' v' X' (W'.setCell ⟨q,22,none⟩ v'):=by
 have h1:=h.lA
 have h2:=h.hB
 have k:Kept (fun j=>u.ownBlock=some j) W W':=Kept.of_grown gr (fun _ e=>e)
 have hlo:∀ j,u.ownBlock=some j→B≤j:=fun j e=>(h.own.lt j e).1
 have z:=k.size
 have kk:Kept (fun j=>B≤j) W W':=k.mono (fun j _ e=>hlo j e)
 have P:=h.box.kept k (fun e=>by have:=hlo _ e;omega)
 obtain ⟨Q1,K1⟩:=st_run P s.run v'
 have Q1:Blk (W'.setCell ⟨q,22,none⟩ v') q 34 (stB s (.slice a5 n c5) v'):=Q1
 have k2:Kept (fun j=>j=q∨B≤j) W (W'.setCell ⟨q,22,none⟩ v'):=(kk.mono (fun j _ e=>.inr e)).trans (K1.mono (fun j _ e=>.inl e))
 refine ⟨P,h.bel.trans (k2.below (by omega) (fun j e=>by omega)),h1,by have:=K1.size;omega,Q1,h.ar.kept k2 (by omega),h.z1.kept k2 (by omega),h.z2.kept k2 (by omega),h.lanes.stp (k2.mono (fun j _ e=>.inr e)) (fun _ _ e=>e),o.kept K1 (fun j hj e=>by omega)⟩
theorem DnW.fin {a8:Option Addr} {m8 c8:Nat} {d:Int} (h:DnW w0 S A q B s n m ax cx ar cr a5 c5 (.slice a8 m8 c8) (.slice a8 m8 c8) (drL d s.run) W) (hn:n=s.x.F.length) (hS:∀ j,S j→j<A) (k:Kept (fun j=>j=A+1∨j=A+1+1) W W') :
  StV S W' { s with run:=drL d s.run } (.agg (stB { s with run:=drL d s.run } (.slice a5 n c5) (.slice a8 m8 c8)))∧Below A w0 W':=by
 have h1:=h.lA
 have h2:=h.hB
 subst hn
 have lan:=h.lanes.stp (k.mono (T:=fun j=>Sx S A (A+3) j∨j=q∨B≤j) (fun j _ e=>.inl (.inr ⟨by omega,by omega⟩))) (T:=S) (fun j _ e=>.inl (.inl e))
 obtain ⟨a',c',e',r'⟩:=(h.own.kept k (fun j hj e=>by omega)).ts (S:=S) (fun j hj e=>by have:=hS j e;omega)
 obtain ⟨rfl,rfl,rfl⟩:a8=a'∧m8=(drL d s.run).length∧c8=c':=by injection e' with x1 x2 x3;exact ⟨x1,x2,x3⟩
 exact ⟨⟨a5,c5,a8,c8,rfl,lan,r'⟩,h.bel.trans (k.below (by omega) (fun j e=>by omega))⟩
end
set_option maxRecDepth 20000 in
set_option maxHeartbeats 4000000 in
theorem rdone_st (s:St) (d:Int) (ax:Option Addr) (cx:Nat) (ar:Option Addr) (cr:Nat) (w:World) (S:Nat→Prop) (hx:StR S w ax cx s.x.F) (hr:SlR w ar cr s.run) (hl:s.run.length≤1990) (hS:∀ j,S j→j<w.heap.size) (hf:Few s.x.F) :
  Calls Tryz.prog 16 #[.agg (stB s (.slice ax s.x.F.length cx) (.slice ar s.run.length cr)),.int .i64 d] w fun e w'=>(∃ v,e=.returned (.tuple #[v,.agg #[.int .i64 (dnT s d).id,.int .i64 (dnT s d).wid,.int .i64 (dnT s d).sts,.int .i64 (dnT s d).sin,.int .i64 (dnT s d).unt],.int .i64 (dnE s d)])∧StV S w' (orZ (dnE s d) { s with run:=drL d s.run }) v)∧Below w.heap.size w w':=by
 obtain ⟨w2,hw2⟩:∃ w2,w2=(((w.alloc (.cells (stB s (.slice ax s.x.F.length cx) (.slice ar s.run.length cr)) 34)).alloc (.cells zsT 34)).alloc (.cells #[.int .i64 0,.int .i64 0,.int .i64 0,.int .i64 0,.int .i64 0] 36)):=⟨_,rfl⟩
 have BX:=boxes3 w 34 34 36 (stB s (.slice ax s.x.F.length cx) (.slice ar s.run.length cr)) zsT #[.int .i64 0,.int .i64 0,.int .i64 0,.int .i64 0,.int .i64 0]
 rw [←hw2] at BX
 obtain ⟨B,N1,N2,N3⟩:=BX
 have hs2:w2.heap.size=w.heap.size+3:=by rw [hw2];simp
 obtain ⟨A,hA⟩:∃ A,A=w.heap.size:=⟨_,rfl⟩
 have HA:Hd (A=w.heap.size):=⟨hA⟩
 rw [←hA] at B N1 N2 N3 hs2
 have hBw:Below w.heap.size w w2:=by rw [←hA];exact B
 have HSZ:Hd (∀ j,S j→j<A):=⟨fun j e=>by rw [hA];exact hS j e⟩
 have CP:=scopyr_ok s ax cx ar cr w2 ((hx.read (Kept.refl _ _)).carry hBw) hf (hr.carry hBw) (by omega)
 have HRS:Hd (∀ W,Below A w W→SlR W ar cr s.run):=⟨fun W b=>hr.carry (by rw [←hA];exact b)⟩
 have HB:=Hd.mk (And.intro B (And.intro hs2 (And.intro N1 (And.intro N2 N3))))
 have g22:=N1.str.1
 obtain ⟨n,hn⟩:∃ n,n=s.x.F.length:=⟨_,rfl⟩
 obtain ⟨m,hm⟩:∃ m,m=s.run.length:=⟨_,rfl⟩
 have HL:=Hd.mk (And.intro hn (And.intro hm hl))
 have HX:Hd ((∀ k,k<m→(gt s.run k).id=d→(∀ j,j<k→(gt s.run j).id≠d)→fnd d s.run=k)∧((∀ j,j<m→(gt s.run j).id≠d)→¬ fnd d s.run<s.run.length)):=⟨fun k hk e hno=>fnd_at d s.run k (by omega) e hno,fun hno=>by rw [fnd_none d s.run (fun j hj=>hno j (by omega))];omega⟩
 rw [←hn,← hm] at HB CP
 rw [←hm] at g22 hl
 rw [←hn,← hm] at hw2
 rw [←hn,← hm]
 have HAT:Hd (∀ k,k<m→∃ b o,ar=some ⟨b,o,none⟩∧b<A∧∀ W,Below A w W→(W.cell? ⟨b,o+k*5,none⟩=some (.int .i64 (gt s.run k).id)∧W.cell? ⟨b,o+k*5+1,none⟩=some (.int .i64 (gt s.run k).wid)∧W.cell? ⟨b,o+k*5+2,none⟩=some (.int .i64 (gt s.run k).sts)∧W.cell? ⟨b,o+k*5+3,none⟩=some (.int .i64 (gt s.run k).sin)∧W.cell? ⟨b,o+k*5+4,none⟩=some (.int .i64 (gt s.run k).unt))):=⟨fun k hk=>by
  obtain ⟨b,o,e,hb,-⟩:=hr.2.2.at (k:=k) (by omega)
  refine ⟨b,o,e,by rw [hA];exact hb,fun W bl=>?_⟩
  obtain ⟨b',o',e',-,r⟩:=(HRS.out W bl).2.2.at (k:=k) (by omega)
  rw [e] at e'
  cases e'
  exact r⟩
 have hcr:=hr.1
 rw [←hm] at hcr
 clear hn hm N1 N2 N3 B hx hr hs2 hBw hS hf
 go_enter Tryz.func16,Tryz.ntmps16
 go_upto_region 1 with fail
 rw [←hw2]
 clear hw2
 rw [←hA]
 clear hA
 go_wp2_with fail
 go_loopw [7] (fun i wr=>∃ k:Nat,k≤m∧i=.int .i64 k∧Hd (∀ j,j<k→(gt s.run j).id≠d)∧wr=w2) (fun i _=>m - (intOf i).toNat)
 case atStart=>exact ⟨0,Nat.zero_le _,rfl,⟨fun j h=>absurd h (Nat.not_lt_zero _)⟩,rfl⟩
 case round =>
  obtain ⟨k,hk,rfl,hno,rfl⟩:=hrel
  by_cases hlt:k<m
  ·obtain ⟨b,off,ea,hb,hce⟩:=HAT.out k hlt
   have d0:=(hce wr HB.out.1).1
   have HCE:=Hd.mk hce
   clear hce
   by_cases e:(gt s.run k).id=d
   ·have hf:=HX.out.1 k hlt e hno.out
    have KT:Hd (dnT s d=gt s.run k∧dnE s d=0∧drL d s.run=s.run.take k++s.run.drop (k+1)):=⟨by unfold dnT drT;rw [hf],if_pos (decide_eq_true (by rw [hf];have:=HL.out;omega)),by unfold drL;rw [hf]⟩
    subst ea
    rw [e] at d0
    have HXX:=HX
    clear HX hno hf e HAT HXX
    go_upto_region 5 with fail
    clear d0
    go_wp2_with (refine wpl_loadSt rfl _ rfl A rfl _ HB.out.2.2.1 rfl ?_)
    go_at_call 6
    refine CP.mono ?_
    rintro e w3 ⟨⟨v3,u3,rfl,o3⟩,b3⟩
    obtain ⟨B2,hB2,⟨a5,c5,rfl,s3⟩,oR⟩:=o3.ex
    obtain ⟨ar3,cr3,rfl,-⟩:=oR.read
    rw [←HL.out.1,← HL.out.2.1]
    obtain ⟨w5,hw5⟩:∃ w5,w5=w3.alloc (.cells zsT 34):=⟨_,rfl⟩
    have B5:Below w3.heap.size w3 w5:=by rw [hw5];exact alloc_below _ _
    obtain ⟨q,hq⟩:∃ q,q=w3.heap.size:=⟨_,rfl⟩
    have P5:Blk w5 q 34 (stB sZ (.slice none 0 0) (.slice none 0 0)):=by rw [hw5,hq];exact Blk.new _ _ _
    have hs5:w5.heap.size=q+1:=by rw [hw5,hq];simp
    have H5:=Hd.mk (And.intro b3 (And.intro B5 (And.intro s3 (And.intro hB2 (And.intro hq hs5)))))
    clear CP o3 s3 oR b3 B5 hB2 hs5
    go_upto_region 6 with (rw [←hw5,← hq];refine wpl_storeSt rfl _ _ rfl q rfl (stB s (.slice a5 n c5) (.slice ar3 m cr3)) _ rfl P5 rfl rfl (st_one _ _ _ _ _ _ _) ?_;intro w4 n4 k4)
    clear hw5 hq
    obtain ⟨w6,hw6⟩:∃ w6,w6=w4.alloc (.cells #[] 36):=⟨_,rfl⟩
    obtain ⟨g4,hg4⟩:∃ g4,g4=w4.heap.size:=⟨_,rfl⟩
    have hq4:q<g4:=by rw [hg4];exact n4.lt
    have D6:DnW w S A q g4 s n m ax cx (some ⟨b,off,none⟩) cr a5 c5 (.slice ar3 m cr3) (.slice (some ⟨g4,0,none⟩) 0 0) [] w6:=by
     obtain ⟨b3,B5,s3,hB2,hq,hs5⟩:=H5.out
     obtain ⟨h1,h2,h3,h4,h5⟩:=HB.out
     have z3:=b3.size
     have z5:=B5.size
     have B6:Below w4.heap.size w4 w6:=by rw [hw6];exact alloc_below _ _
     have k26:Kept (fun j=>j=q) wr w6:=((Kept.of_below b3 _).trans (Kept.of_below B5 _)).trans (k4.trans (Kept.of_below B6 _))
     refine ⟨h1.trans (k26.below (by omega) (fun j e=>by omega)),by omega,by have:=B6.size;omega,n4.kept (Kept.of_below B6 (fun _=>False)) id,h3.kept k26 (by omega),h4.kept k26 (by omega),h5.kept k26 (by omega),(s3.stp ((Kept.of_below B5 (fun j=>j<wr.heap.size∨B2≤j)).trans ((k4.mono (fun j _ e=>.inr (by omega))).trans (Kept.of_below B6 _))) (fun j hj e=>?_)),?_⟩
     ·rcases e with e | e | e
      ·exact .inl (by have:=Sx.lt HSZ.out (by omega) j e (B:=A+3);omega)
      ·exact .inr (by omega)
      ·exact .inr (by omega)
     ·rw [hw6,hg4]
      exact OwnT.lit w4 _ (Nat.le_refl _)
    have HD6:=Hd.mk D6
    have TA:Hd (SlR w6 (some ⟨b,off,none⟩) cr (s.run.take k)):=⟨(HRS.out w6 D6.bel).take k⟩
    have TL:Hd ((s.run.take k).length=k∧(s.run.drop (k+1)).length=m - (k+1)):=⟨by have:=HL.out;simp;omega,by have:=HL.out;simp;omega⟩
    have q22:=D6.box.str.1
    have a22:=D6.ar.str.1
    have q22':=q22
    have a22':=a22
    rw [hw6] at q22' a22'
    have hkc:k≤cr:=by omega
    clear D6 n4 k4 P5 H5 HB g22
    go_upto_region 7 with (at_builtin;rw [←hw6,← hg4];refine wpl_tks rfl _ _ rfl g4 _ [] (s.run.take k) rfl HD6.out.own (some ⟨b,off,none⟩) k cr TL.out.1 rfl TA.out (by have:=TL.out.1;have:=HL.out;simp;omega) HD6.out.hB ?_;intro v7 w7 o7 g7;obtain ⟨a7,c7,e7,-⟩:=o7.read;rw [List.nil_append,TL.out.1] at e7;subst e7;obtain ⟨L7,D7⟩:=HD6.out.next o7 g7;have HD7:=Hd.mk D7;clear q22 a22 q22' a22';obtain ⟨q22,fq⟩:=L7.str;clear L7 g7 o7 D7)
    clear hw6 hg4 q22 fq HD6 TA
    generalize w7.setCell ⟨q,22,none⟩ (.slice a7 k c7)=w8 at *
    have D8:=HD7.out.carry (W':=w8.drew) (Below.refl _ _).drew
    rw [List.nil_append] at D8
    have HD8:=Hd.mk D8
    have TB:Hd (SlR w8.drew (some (if cr=k+1 then ⟨b,off,none⟩ else ⟨b,off+(k+1)*5,none⟩)) (cr - (k+1)) (s.run.drop (k+1))):=⟨(HRS.out _ D8.bel).drop (k+1) (by have:=HL.out;omega)⟩
    clear D8 HD7
    obtain ⟨x2,hx2⟩:∃ x2,x2=(if cr=k+1 then (⟨b,off,none⟩:Addr) else ⟨b,off+(k+1)*5,none⟩):=⟨_,rfl⟩
    rw [←hx2] at TB
    have hx3:(if cr=k+1 then some (⟨b,off,none⟩:Addr) else some ⟨b,off+(k+1)*5,none⟩)=some x2:=by rw [hx2];split <;> rfl
    clear hx2
    have hwr:IntKind.i64.wrap ((k:Int)+1)=(k:Int)+1:=by rw [IntKind.wrap_i64];omega
    have hk1:(k:Int)+1≤(m:Int):=by omega
    have hk0:(0:Int)≤(k:Int)+1:=by omega
    refine region_tail 7 (by kernel_rfl) ?_
    simp only [List.take_succ_cons,List.take_zero,List.drop_succ_cons,List.drop_zero]
    generalize w8.drew=w9 at *
    obtain ⟨q22,fq⟩:=HD8.out.box.str
    have a22:=HD8.out.ar.str.1
    repeat still_step
    refine wpStill_nil ?_
    go_wp2_with (at_builtin;refine wpl_tks rfl _ _ rfl g4 _ (s.run.take k) (s.run.drop (k+1)) rfl HD8.out.own (some x2) (m - (k+1)) (cr - (k+1)) TL.out.2 rfl TB.out (by have:=TL.out.1;have:=TL.out.2;omega) HD8.out.hB ?_;intro v8 wa o8 g8;obtain ⟨m8,hm8⟩:∃ m8,m8=(s.run.take k++s.run.drop (k+1)).length:=⟨_,rfl⟩;obtain ⟨a8,c8,e8,-⟩:=o8.read;rw [←hm8] at e8;subst e8;obtain ⟨L8,D8⟩:=HD8.out.next o8 g8;have HD9:=Hd.mk D8;clear q22 fq a22;obtain ⟨q22,fq⟩:=L8.str;clear L8 g8 o8 D8 hm8)
    clear q22 fq HD8 TB hx3 hwr hk1 hk0 hkc
    generalize wa.setCell ⟨q,22,none⟩ (.slice a8 m8 c8)=wb at *
    have D9:=HD9.out.carry (W':=wb.drew) (Below.refl _ _).drew
    clear HD9
    have HEE:Hd (dnT s d=gt s.run k∧dnE s d=0∧s.run.take k++s.run.drop (k+1)=drL d s.run):=⟨KT.out.1,KT.out.2.1,KT.out.2.2.symm⟩
    rw [HEE.out.2.2] at D9
    obtain ⟨t,ht⟩:∃ t,t=gt s.run k:=⟨_,rfl⟩
    have HT:=Hd.mk ht
    rw [←ht] at HCE
    clear KT TL ht
    go_upto_region 8 with fail
    refine AnyG.start (T:=fun W=>Kept (fun j=>j=A+1∨j=A+1+1) wb.drew W) (U:=fun _=>True) (j0:=100) (by kernel_rfl) ?_
    generalize wb.drew=wc at *
    have R:Kept (fun j=>j=A+1∨j=A+1+1) wc wc:=Kept.refl _ _
    have X0:Hd (∀ W,Kept (fun j=>j=A+1∨j=A+1+1) wc W→Blk W q 34 (stB s (.slice a5 n c5) (.slice a8 m8 c8))):=⟨fun W k=>D9.box.kept k (by have:=D9.lA;omega)⟩
    have X1:Hd (∀ W,Kept (fun j=>j=A+1∨j=A+1+1) wc W→W.cell? ⟨A,22,none⟩=some (.slice (some ⟨b,off,none⟩) m cr)):=⟨fun W k=>(D9.ar.kept k (by omega)).str.1⟩
    have X2:=Hd.mk (fun (W:World) (kk:Kept (fun j=>j=A+1∨j=A+1+1) wc W)=>HCE.out W (D9.bel.trans (kk.below (by have:=D9.lA;have:=D9.hB;omega) (fun j e=>by omega))))
    have M9:=And.intro D9.z1 D9.z2
    have HD9:=Hd.mk D9
    clear D9 HCE
    refine .tq (v:=.agg (stB s (.slice a5 n c5) (.slice a8 m8 c8))) 0 42 R ?_ (hy:=fun w hSw=>exec_loadSt _ rfl q rfl _ (X0.out w hSw) rfl);simp only [oqA,oqB,oqC]
    refine .tq 1 43 R ?_;simp only [oqA,oqB,oqC]
    refine .tq (v:=.slice (some ⟨b,off,none⟩) m cr) 2 44 R ?_ (hy:=fun w hSw=>by have s:=X1.out w hSw;go_simp);simp only [oqA,oqB,oqC]
    refine .tq 3 45 R ?_;simp only [oqA,oqB,oqC]
    refine .tq 4 46 R ?_;simp only [oqA,oqB,oqC]
    refine .tq (v:=.agg #[.int .i64 t.id,.int .i64 t.wid,.int .i64 t.sts,.int .i64 t.sin,.int .i64 t.unt]) 5 47 R ?_ (hy:=fun w hSw=>by have s:=X2.out w hSw;go_simp);simp only [oqA,oqB,oqC]
    refine AnyG.ready (rs:=[6]) (by kernel_rfl) (by simp) ?_
    refine AllG.cons rfl (fun K hK=>?_) AllG.nil
    refine step_storeSt rfl _ _ rfl (A+1) rfl (stB s (.slice a5 n c5) (.slice a8 m8 c8)) _ rfl M9.1 rfl rfl (st_one _ _ _ _ _ _ _) ?_
    intro wd nd kd
    have Pd:=M9.2.kept kd (by omega)
    refine hK.out _ _ ⟨kd.mono (fun j _ e=>.inl e),fun _=>trivial⟩ ?_
    clear hK K M9
    refine AnyG.ready (rs:=[7]) (by kernel_rfl) (by simp) ?_
    refine AllG.cons rfl (fun K hK=>?_) AllG.nil
    obtain ⟨⟨e0,e1,e2,e3,e4⟩,g0,g1,g2,g3,g5⟩:=Blk.five Pd
    go_simp
    obtain ⟨Q1,Q2⟩:=five_set Pd t
    have U10:=(kd.mono (T:=fun j=>j=A+1∨j=A+1+1) (fun j _ e=>.inl e)).trans (Q2.mono (fun j _ e=>.inr e))
    refine hK.out _ _ ⟨U10,fun _=>trivial⟩ ?_
    clear hK K
    refine AnyG.ready (rs:=[8]) (by kernel_rfl) (by simp) ?_
    refine AllG.cons rfl (fun K hK=>?_) AllG.nil
    go_simp
    refine hK.out _ _ ⟨U10,fun _=>trivial⟩ ?_
    clear hK K
    refine AnyG.done (by kernel_rfl) ?_ _
    have n10:=nd.kept Q2 (by omega)
    obtain ⟨o9,b9⟩:=HD9.out.fin HL.out.1 HSZ.out U10
    clear U10 Pd e0 e1 e2 e3 e4 g0 g1 g2 g3 g5 X0 X1 X2 R HD9
    generalize (((((wd.setCell ⟨A+1+1,0,none⟩ (.int .i64 t.id)).setCell ⟨A+1+1,1,none⟩ (.int .i64 t.wid)).setCell ⟨A+1+1,2,none⟩ (.int .i64 t.sts)).setCell ⟨A+1+1,3,none⟩ (.int .i64 t.sin)).setCell ⟨A+1+1,4,none⟩ (.int .i64 t.unt))=we at *
    go_wp2_with fail
    refine bodyPost_ret (resSt30 _ _ _ _ rfl rfl rfl rfl n10 Q1) rfl ?_
    rw [←HA.out,HEE.out.1,HEE.out.2.1,orZ_yes,← HT.out]
    exact ⟨⟨_,rfl,o9⟩,b9⟩
   ·have A1:Hd (∀ j,j<k+1→(gt s.run j).id≠d):=⟨fun j hj=>by
     rcases Nat.lt_or_eq_of_le (Nat.le_of_lt_succ hj) with h1 | h1
     ·exact hno.out j h1
     ·subst h1;exact e⟩
    have e':((gt s.run k).id == d)=false:=by simpa using e
    subst ea
    clear hno e HCE
    generalize (gt s.run k).id=z at *
    go_wp2_with fail
    go_roundw
    case rel=>exact ⟨k+1,by omega,by go_num,A1,by trivial⟩
    case measure=>simp [intOf];omega
  ·obtain rfl:k=m:=by omega
   have hf:=HX.out.2 hno.out
   have KT:Hd (dnT s d=tkZ∧dnE s d=6):=⟨drT_no hf,if_neg (by unfold dnO;rw [decide_eq_false hf];decide)⟩
   have hlt':¬ (k:Int)<(k:Int):=Int.lt_irrefl _
   clear hlt hf HX CP HAT
   have K9:Hd (∀ w9,Kept (fun j=>j=A+1) wr w9→Blk w9 (A+1+1) 36 (tkA tkZ)):=⟨fun w9 k=>HB.out.2.2.2.2.kept k (by omega)⟩
   go_wp2_with (refine wpl_storeSt rfl _ _ rfl (A+1) rfl (stB sZ (.slice none 0 0) (.slice none 0 0)) _ rfl HB.out.2.2.2.1 rfl rfl (st_one _ _ _ _ _ _ _) ?_;intro w9 n9 k9;obtain ⟨⟨e0,e1,e2,e3,e4⟩,g0,g1,g2,g3,g4⟩:=Blk.five (K9.out w9 k9))
   obtain ⟨Q1,Q2⟩:=five_set (K9.out w9 k9) tkZ
   refine bodyPost_ret (resSt30 _ _ _ _ rfl rfl rfl rfl (n9.kept Q2 (by omega)) Q1) rfl ?_
   have b9:=HB.out.1.trans (((k9.mono (T:=fun j=>A≤j) (fun j _ e=>by omega)).trans (Q2.mono (fun j _ e=>by omega))).below (by have:=HB.out.2.1;omega) (fun j e=>e))
   rw [←HA.out,KT.out.1,KT.out.2,orZ_no (by decide)]
   exact ⟨⟨_,rfl,sZ_v S _⟩,b9⟩
theorem OwnT.tsV {S:Nat→Prop} {w:World} {B:Nat} {v:Value} {L:List Tk} (h:OwnT w B v L) (hS:∀ j,v.ownBlock=some j→¬ S j):∃ a c,v=.slice a L.length c∧TkS S w a c L:=by
 obtain ⟨a,c,e,r⟩:=h.read
 refine ⟨a,c,e,r.1,r.2.1,fun W k=>?_⟩
 obtain ⟨a',c',e',r'⟩:=(h.keptV k hS).read
 rw [e] at e'
 injection e' with x1 x2 x3
 subst x1
 exact r'.2.2
theorem row_off {w:World} {B t m n g t':Nat} {v:Value} {cs:List Value} {ds:Array Value} (h:w.ownsRow B t m v n cs) (k:Blk w g t' ds) (ht:t'≠t):v.ownBlock≠some g:=by
 rcases id h.2 with ⟨rfl,-⟩ | ⟨q,cap,cur,rfl,hb,hg,r⟩
 ·intro e;cases e
 ·intro e
  injection e with e
  have e:q=g:=e
  subst e
  exact k.ne' hg ht rfl
theorem row_two {w:World} {B B' t t' m m' n n':Nat} {v v':Value} {cs cs':List Value} (h:w.ownsRow B t m v n cs) (h':w.ownsRow B' t' m' v' n' cs') (ht:t'≠t):∀ j,v.ownBlock=some j→v'.ownBlock≠some j:=by
 intro j e
 rcases id h.2 with ⟨rfl,-⟩ | ⟨q,cap,cur,rfl,hb,hg,r⟩
 ·cases e
 ·have e:q=j:=by injection e
  subst e
  exact row_off h' (ds:=cur) (t':=t) hg (Ne.symm ht)
theorem row_read {w:World} {B n:Nat} {v:Value} {Z:List Lz} (h:w.ownsRow B 62 2 v n (zCs Z)) (hn:Z.length=n):∃ a c,v=.slice a n c∧n≤c∧(a=none→c=0)∧RowR w a (zCs Z):=by
 rcases id h.2 with ⟨rfl,e⟩ | ⟨g,cap,cur,rfl,hb,hg,hc,r⟩
 ·subst e
  have:Z=[]:=List.eq_nil_of_length_eq_zero hn
  subst this
  exact ⟨none,0,rfl,Nat.le_refl _,fun _=>rfl,fun h=>absurd rfl h⟩
 ·refine ⟨some ⟨g,0,none⟩,cap,rfl,hc,(fun e=>by cases e),fun _=>⟨g,0,rfl,(h.lt g rfl).2,fun j u hj=>?_⟩⟩
  have:=h.cells rfl j u hj
  rw [Go.WideShapes.add_plain] at this
  exact this
theorem RowR.take {w:World} {a:Option Addr} {Z:List Lz} (h:RowR w a (zCs Z)) (k:Nat):RowR w a (zCs (Z.take k)):=by
 intro hn
 rw [←zCs_take] at hn ⊢
 obtain ⟨b,off,e,hb,hc⟩:=h (by intro e;rw [e] at hn;simp at hn)
 refine ⟨b,off,e,hb,fun j u hj=>hc j u ?_⟩
 rw [List.getElem?_take] at hj
 split at hj
 ·exact hj
 ·cases hj
def LzT (S:Nat→Prop) (w:World) (z:Lz):Prop:=∃ a c,z.2=.slice a z.1.L.length c∧TkS S w a c z.1.L
theorem LzT.lz {S:Nat→Prop} {w W:World} {z:Lz} (h:LzT S w z) (k:Kept S w W):LzR W z:=by
 obtain ⟨a,c,e,t⟩:=h
 exact ⟨a,c,e,t.read k⟩
theorem LzT.step {S T:Nat→Prop} {w w2:World} {z:Lz} (h:LzT S w z) (k:Kept S w w2) (e:∀ j,j<w.heap.size→T j→S j):LzT T w2 z:=by
 obtain ⟨a,c,e1,t⟩:=h
 exact ⟨a,c,e1,t.step k e⟩
def MvL (S:Nat→Prop) (A q:Nat) (v tv:Value) (j:Nat):Prop:=Sx S A (A+2) j∨j=q∨v.ownBlock=some j∨tv.ownBlock=some j
structure DL (w0:World) (S:Nat→Prop) (A q:Nat) (s:St) (F:List Ln) (v:Value) (aru:Option Addr) (m cru:Nat) (L:List Tk) (tv:Value) (W:World):Prop where
 bel:Below A w0 W
 lA:A+2≤q
 box:Blk W q 34 (stB s v (.slice aru m cru))
 zero:Blk W (A+1) 34 (stB sZ (.slice none 0 0) (.slice none 0 0))
 row:∃ Z:List Lz,Z.map Prod.fst=F∧W.ownsRow (A+2) 62 2 v F.length (zCs Z)∧∀ z∈Z,LzT (MvL S A q v tv) W z
 run:TkS (MvL S A q v tv) W aru cru s.run
 tak:OwnT W (A+2) tv L
section
variable {w0 W W':World} {S:Nat→Prop} {A q:Nat} {s:St} {F:List Ln} {v:Value} {aru:Option Addr} {m cru:Nat} {L:List Tk} {tv:Value}
theorem DL.start {w3:World} {u:Value} (o:StQ w3 (A+2) s v u) (bel:Below A w0 W) (zero:Blk W (A+1) 34 (stB sZ (.slice none 0 0) (.slice none 0 0))) (hq:w3.heap.size≤q) (hA:A+2≤w3.heap.size) (k:Kept (fun j=>w3.heap.size≤j) w3 W) (n4:Blk W q 34 (stB s v u)) (hS:∀ j,S j→j<A) (hu:u=.slice aru m cru) :
  DL w0 S A q s s.x.F v aru m cru [] (.slice none 0 0) W:=by
 subst hu
 obtain ⟨⟨Z,hZ,ho,hz⟩,B2,hB2,-,oR⟩:=o
 have hown:∀ {x:Value} {K:List Tk} {B:Nat},A+2≤B→OwnT w3 B x K→∀ j,x.ownBlock=some j→¬ MvL S A q v (.slice none 0 0) j:=fun hB h j e c=>by
  have hl:=h.lt j e
  rcases c with c | c | c | c
  ·have:=Sx.lt hS (by omega) j c (B:=A+2);omega
  ·omega
  ·exact row_two h ho (by decide) j e c
  ·cases c
 have kv:∀ {x:Value} {K:List Tk} {B:Nat},OwnT w3 B x K→OwnT W B x K:=fun h=>h.keptV k (fun j e c=>by have:=(h.lt j e).2;omega)
 refine ⟨bel,by omega,n4,zero,⟨Z,hZ,ownsRow_kept ho k (fun j e c=>by have:=(ho.lt j e).2;omega),fun z hm=>?_⟩,?_,World.ownsRow_nil _ _ _ _⟩
 ·exact (kv (hz z hm)).tsV (hown (Nat.le_refl _) (hz z hm))
 ·obtain ⟨a',c',e',r'⟩:=(kv oR).tsV (hown hB2.1 oR)
  injection e' with x1 x2 x3
  subst x1 x3
  exact r'
theorem DL.szA (h:DL w0 S A q s F v aru m cru L tv W):A+2≤W.heap.size:=by have:=h.box.lt;have:=h.lA;omega
theorem DL.mv (h:DL w0 S A q s F v aru m cru L tv W) (hS:∀ j,S j→j<A):∀ j,MvL S A q v tv j→j<W.heap.size:=fun j e=>by
 have h2:=h.szA
 have h3:=h.box.lt
 obtain ⟨Z,-,ho,-⟩:=h.row
 rcases e with e | e | e | e
 ·have:=Sx.lt hS (by omega) j e (B:=A+2);omega
 ·omega
 ·exact (ho.lt j e).2
 ·exact (h.tak.lt j e).2
theorem DL.carry (h:DL w0 S A q s F v aru m cru L tv W) (b:Below W.heap.size W W'):DL w0 S A q s F v aru m cru L tv W':=by
 have h2:=h.szA
 have k:Kept (fun _=>False) W W':=Kept.of_below b _
 obtain ⟨Z,hZ,ho,hz⟩:=h.row
 exact ⟨h.bel.trans (b.mono (by omega)),h.lA,h.box.kept k id,h.zero.kept k id,⟨Z,hZ,ownsRow_kept ho k (fun _ _ e=>e),fun z hm=>(hz z hm).step (Kept.of_below b _) (fun _ _ e=>e)⟩,h.run.step (Kept.of_below b _) (fun _ _ e=>e),h.tak.keptV k (fun _ _ e=>e)⟩
theorem DL.read (h:DL w0 S A q s F v aru m cru L tv W):∃ a c,v=.slice a F.length c∧LsR W a c F:=by
 obtain ⟨Z,hZ,ho,hz⟩:=h.row
 have hl:Z.length=F.length:=by rw [←hZ,List.length_map]
 obtain ⟨a,c,e,r⟩:=LsR.of_own ho (fun z hm=>(hz z hm).lz (Kept.refl _ _)) hl
 exact ⟨a,c,e,by rw [←hZ];exact r⟩
theorem DL.push (h:DL w0 S A q s F v aru m cru L tv W) {t:Tk} {g n cap:Nat} (ho:OwnT W' (A+2) (.slice (some ⟨g,0,none⟩) n cap) (L ++ [t])) (gr:W.grownBy W' tv.ownBlock) (hg:tv.ownBlock=some g∨g=W.heap.size) :
  DL w0 S A q s F v aru m cru (L ++ [t]) (.slice (some ⟨g,0,none⟩) n cap) W':=by
 have h1:=h.lA
 have h2:=h.szA
 obtain ⟨Z,hZ,hro,hz⟩:=h.row
 have k:Kept (fun j=>tv.ownBlock=some j) W W':=Kept.of_grown gr (fun _ e=>e)
 have hlo:∀ j,tv.ownBlock=some j→A+2≤j:=fun j e=>(h.tak.lt j e).1
 have kM:Kept (MvL S A q v tv) W W':=k.mono (fun j _ e=>.inr (.inr (.inr e)))
 have down:∀ j,j<W.heap.size→MvL S A q v (.slice (some ⟨g,0,none⟩) n cap) j→MvL S A q v tv j:=fun j hj e=>by
  rcases e with e | e | e | e
  ·exact .inl e
  ·exact .inr (.inl e)
  ·exact .inr (.inr (.inl e))
  ·have e:g=j:=by injection e
   subst e
   rcases hg with c | c
   ·exact .inr (.inr (.inr c))
   ·omega
 exact ⟨h.bel.trans (k.below (by omega) (fun j e=>by have:=hlo j e;omega)),h1,h.box.kept k (fun e=>h.tak.off6 h.box e),h.zero.kept k (fun e=>by have:=hlo _ e;omega),⟨Z,hZ,ownsRow_kept hro k (fun j e1 e2=>row_two hro h.tak (by decide) j e1 e2),fun z hm=>(hz z hm).step kM down⟩,h.run.step kM down,ho⟩
theorem DL.put (h:DL w0 S A q s F v aru m cru L tv W) {l:Nat} (hl:l<F.length) :
  ∃ g cap y,v=.slice (some ⟨g,0,none⟩) F.length cap∧(W.cell? ⟨g,l*2+1,none⟩=some y∧W.frozen? ⟨g,l*2+1,none⟩=false)∧Kept (fun j=>j=g) W (W.setCell ⟨g,l*2+1,none⟩ y) ∧
  ∀ {B:Nat} {u:Value} {K:List Tk},OwnT W B u K→(∀ j,u.ownBlock=some j→¬ MvL S A q v tv j)→DL w0 S A q s (F.set l ⟨(gl F l).s,K⟩) v aru m cru L tv (W.setCell ⟨g,l*2+1,none⟩ u):=by
 have h1:=h.lA
 have h2:=h.szA
 obtain ⟨Z,hZ,hro,hz⟩:=h.row
 have lZ:Z.length=F.length:=by rw [←hZ,List.length_map]
 obtain ⟨vk,hX⟩:=map_fst_get hZ hl
 obtain ⟨g,cap,cur,e,hB,hblk,hcell,PUT⟩:=row_put hro lZ hX
 refine ⟨g,cap,vk,e,⟨hcell.2,hblk.frozen _⟩,(Kept.refl (fun j=>j=g) W).setCell _ _ (.inl rfl),fun {B u K} oK hu=>?_⟩
 obtain ⟨P1,P2⟩:=PUT u ⟨(gl F l).s,K⟩ rfl
 have hvg:v.ownBlock=some g:=by rw [e];rfl
 have kM:Kept (MvL S A q v tv) W (W.setCell ⟨g,l*2+1,none⟩ u):=P2.mono (fun j _ e=>.inr (.inr (.inl (by rw [e];exact hvg))))
 have hne:∀ {t:Nat} {ds:Array Value} {b:Nat},Blk W b t ds→t≠62→¬ b=g:=fun hb ht e=>row_off hro hb ht (by rw [e];exact hvg)
 refine ⟨h.bel.trans (P2.below (by omega) (fun j e=>by omega)),h1,h.box.kept P2 (hne h.box (by decide)),h.zero.kept P2 (hne h.zero (by decide)),⟨Z.set l (⟨(gl F l).s,K⟩,u),by rw [List.map_set,hZ],by rw [List.length_set];exact P1,fun z hm=>?_⟩,h.run.step kM (fun _ _ e=>e),h.tak.other hblk P2⟩
 rcases List.mem_or_eq_of_mem_set hm with c | c
 ·exact (hz z c).step kM (fun _ _ e=>e)
 ·rw [c]
  obtain ⟨a',c',e',r'⟩:=oK.tsV hu
  exact ⟨a',c',e',r'.step kM (fun _ _ e=>e)⟩
theorem DL.lane (h:DL w0 S A q s F v aru m cru L tv W) {l:Nat} (hl:l<F.length):∃ g cap a c,v=.slice (some ⟨g,0,none⟩) F.length cap∧W.cell? ⟨g,l*2+1,none⟩=some (.slice a (gl F l).L.length c)∧TkS (MvL S A q v tv) W a c (gl F l).L:=by
 obtain ⟨Z,hZ,hro,hz⟩:=h.row
 have lZ:Z.length=F.length:=by rw [←hZ,List.length_map]
 obtain ⟨vk,hX⟩:=map_fst_get hZ hl
 obtain ⟨g,cap,cur,e,-,-,hcell,-⟩:=row_put hro lZ hX
 obtain ⟨a,c,e2,t⟩:=hz _ (List.mem_of_getElem? hX)
 have e2:vk=.slice a (gl F l).L.length c:=e2
 exact ⟨g,cap,a,c,e,by rw [←e2];exact hcell.2,t⟩
theorem DL.trim (h:DL w0 S A q s F v aru m cru L tv W) {k:Nat} (hk:k≤F.length) :
  ∃ M:List Lz,M.map Prod.fst=F.take k∧M.length=k∧(∀ z∈M,∃ a n c,z.2=.slice a n c)∧(∃ a c,v=.slice a F.length c∧F.length≤c∧(a=none→c=0)∧RowR W a (zCs M)) ∧
  ∀ (w7:World) (v7:Value),w7.ownsRow W.heap.size 62 2 v7 (0+k) (zCs ([]++M))→Below W.heap.size W w7 →
   (∃ a c,v7=.slice a k c)∧w7.cell? ⟨q,21,none⟩=some v∧w7.frozen? ⟨q,21,none⟩=false∧DL w0 S A q s (F.take k) v7 aru m cru L tv (w7.setCell ⟨q,21,none⟩ v7):=by
 have h1:=h.lA
 have h2:=h.szA
 have hqw:=h.box.lt
 obtain ⟨Z,hZ,hro,hz⟩:=h.row
 have lZ:Z.length=F.length:=by rw [←hZ,List.length_map]
 have hml:(Z.take k).length=k:=by rw [List.length_take];omega
 obtain ⟨a,c,e,hc1,hc2,hr⟩:=row_read hro lZ
 refine ⟨Z.take k,by rw [List.map_take,hZ],hml,fun z hm=>by obtain ⟨a,c,e,-⟩:=hz z (List.mem_of_mem_take hm);exact ⟨a,_,c,e⟩,⟨a,c,e,hc1,hc2,hr.take k⟩,fun w7 v7 ho b7=>?_⟩
 rw [List.nil_append,Nat.zero_add] at ho
 obtain ⟨a7,c7,e7,-⟩:=row_read ho hml
 have D7:=h.carry b7
 obtain ⟨Q8,K8⟩:=st_lanes D7.box F v7
 have Q8:Blk (w7.setCell ⟨q,21,none⟩ v7) q 34 (stB s v7 (.slice aru m cru)):=Q8
 have z7:=b7.size
 have hv7:∀ j,v7.ownBlock=some j→W.heap.size≤j:=fun j e=>(ho.lt j e).1
 have down:∀ j,j<W.heap.size→MvL S A q v7 tv j→MvL S A q v tv j:=fun j hj e=>by
  rcases e with e | e | e | e
  ·exact .inl e
  ·exact .inr (.inl e)
  ·have:=hv7 j e;omega
  ·exact .inr (.inr (.inr e))
 have kM:Kept (MvL S A q v tv) W (w7.setCell ⟨q,21,none⟩ v7):=(Kept.of_below b7 _).trans (K8.mono (fun j _ e=>.inr (.inl e)))
 refine ⟨⟨a7,c7,e7⟩,D7.box.cellv 21 rfl,D7.box.frozen 21,D7.bel.trans (K8.below (by omega) (fun j e=>by omega)),h1,Q8,D7.zero.kept K8 (by omega),⟨Z.take k,by rw [List.map_take,hZ],?_,fun z hm=>(hz z (List.mem_of_mem_take hm)).step kM down⟩,h.run.step kM down,D7.tak.keptV K8 (fun j e1 e2=>D7.tak.off6 D7.box (by rw [←e2];exact e1))⟩
 have ho8:=ownsRow_kept ho K8 (fun j e1 e2=>by have:=hv7 j e1;omega)
 have el:(F.take k).length=k:=by rw [List.length_take];omega
 rw [el]
 exact ⟨ho8.1,ho8.2.imp id (fun ⟨g,cap,cur,e,hb,r⟩=>⟨g,cap,cur,e,by omega,r⟩)⟩
theorem DL.fin (h:DL w0 S A q s F v aru m cru L tv W) (hS:∀ j,S j→j<A) (k:Kept (fun j=>j=A+1) W W') {s':St} (eF:s'.x.F=F) (er:s'.run=s.run) (eb:∀ v u,stB s v u=stB s' v u) (hm:m=s.run.length) :
  StV S W' s' (.agg (stB s v (.slice aru m cru)))∧(∃ a c,tv=.slice a L.length c∧TkS S W' a c L)∧Below A w0 W':=by
 have h1:=h.lA
 have h2:=h.szA
 obtain ⟨Z,hZ,hro,hz⟩:=h.row
 have lZ:Z.length=F.length:=by rw [←hZ,List.length_map]
 have kM:Kept (MvL S A q v tv) W W':=k.mono (fun j _ e=>.inl (.inr ⟨by omega,by omega⟩))
 have hro':=ownsRow_kept hro k (fun j e1 e2=>by have:=(hro.lt j e1).1;omega)
 obtain ⟨a,c,e,hc1,hc2,-⟩:=row_read hro' lZ
 have hSM:∀ j,j<W.heap.size→S j→MvL S A q v tv j:=fun j _ e=>.inl (.inl e)
 refine ⟨⟨a,c,aru,cru,by rw [eb,e,hm,eF,er],?_,by rw [er];exact h.run.step kM hSM⟩,(h.tak.kept k (fun j hj e=>by omega)).ts (S:=S) (fun j hj e=>by have:=hS j e;omega),h.bel.trans (k.below (by omega) (fun j e=>by omega))⟩
 rw [eF]
 refine ⟨hc1,hc2,Z,hZ,fun W2 k2=>?_⟩
 have ho2:=ownsRow_kept hro' k2 (fun j e1 e2=>by have:=(hro'.lt j e1).1;have:=hS j e2;omega)
 obtain ⟨a2,c2,e2,-,-,r2⟩:=row_read ho2 lZ
 obtain ⟨rfl,-⟩:a=a2∧True:=by rw [e] at e2;injection e2 with x1 x2 x3;exact ⟨x1,trivial⟩
 exact ⟨r2,fun z hm=>((hz z hm).step kM hSM).lz k2⟩
end
structure LQ (w0:World) (S:Nat→Prop) (A q:Nat) (s:St) (now:Int) (F:List Ln) (aru:Option Addr) (m cru:Nat) (L:List Tk) (tv:Value) (W:World):Prop where
 mem:∃ v,DL w0 S A q s F v aru m cru L tv W
 ev:LtI now s.x.o s.x.F L F
 few:Few F
 cnt:L.length+(flt F).length≤1800
theorem stB_ltX (now:Int) (s:St):∀ v u,stB s v u=stB (ltX now s) v u:=fun v u=>by
 unfold ltX
 split <;> rfl
theorem cutL_few {F:List Ln} (h:Few F) (l a:Nat):Few (cutL F l a):=by
 refine h.set ⟨(h.at l).1,?_⟩
 have:=(h.at l).2
 simp only [List.length_append,List.length_take,List.length_drop]
 omega
def TrI (G:List Ln) (o:Int) (F:List Ln):Prop:=F.length≤G.length∧F=G.take F.length∧trN G o G.length=trN G o F.length
theorem TrI.start (G:List Ln) (o:Int):TrI G o G:=⟨Nat.le_refl _,(List.take_length).symm,rfl⟩
theorem TrI.step {G F:List Ln} {o:Int} {j:Nat} (h:TrI G o F) (hj:F.length=j+1) (ho:o<(j:Int)+1) (hl:(gl F j).L.length=0):TrI G o (F.take j):=by
 obtain ⟨h1,h2,h3⟩:=h
 have e:gl F j=gl G j:=by rw [h2];exact gl_take (by omega)
 have el:(F.take j).length=j:=by rw [List.length_take];omega
 have hg:(gl G j).L=[]:=by rw [←e];exact List.eq_nil_of_length_eq_zero hl
 refine ⟨by omega,?_,?_⟩
 ·rw [el]
  conv=>lhs;rw [h2]
  rw [List.take_take]
  congr 1
  omega
 ·rw [el,h3,hj]
  exact trN_yes ⟨by omega,hg⟩
theorem TrI.fin {G F:List Ln} {o:Int} (h:TrI G o F) (hs:∀ j,F.length=j+1→¬ (o<(j:Int)+1∧(gl F j).L=[])):F=trm G o:=by
 obtain ⟨h1,h2,h3⟩:=h
 have e:trN G o F.length=F.length:=by
  cases hn:F.length with
  | zero=>rfl
  | succ j =>
   refine trN_no (fun c=>hs j hn ⟨c.1,?_⟩)
   have e:gl F j=gl G j:=by rw [h2];exact gl_take (by omega)
   rw [e]
   exact c.2
 unfold trm
 rw [h3,e]
 exact h2
theorem LQ.next {w0 W:World} {S:Nat→Prop} {A q:Nat} {s:St} {now:Int} {F G:List Ln} {v:Value} {aru:Option Addr} {m cru:Nat} {L:List Tk} {tv:Value} {l a:Nat} (ev:LtI now s.x.o s.x.F L F) (few:Few F) (cnt:L.length+(flt F).length≤1800) (hi:IsL now F (flt F) (l:Int) (a:Int))
  (hd:DL w0 S A q s G v aru m cru (L ++ [gt (gl F l).L a]) tv W) (hG:G=trm (cutL F l a) s.x.o):LQ w0 S A q s now G aru m cru (L ++ [gt (gl F l).L a]) tv W:=by
 obtain ⟨h1,h2,h3⟩:=ev.step hi
 have h4:=late_less (o:=s.x.o) h1 h2
 subst hG
 exact ⟨⟨v,hd⟩,h3,(cutL_few few l a).trm _,by rw [List.length_append,List.length_singleton];omega⟩
theorem IsL.two {now:Int} {F:List Ln} {P:List Tk} {ln at':Int} (h:IsL now F P ln at'):at'=-1∨∃ l a:Nat,ln=l∧at'=a∧l<F.length∧a<(gl F l).L.length:=by
 rcases h with ⟨h,-⟩ | ⟨l,a,B,h1,h2,h3,h4,-⟩
 ·exact .inl h
 ·exact .inr ⟨l,a,h1,h2,h3,h4⟩
theorem flt_next {F:List Ln} {k:Nat} (h:k<F.length):flt (F.take (k+1))=flt (F.take k)++(gl F k).L.take (gl F k).L.length:=by
 have e:F.take (k+1)=F.take k ++ [gl F k]:=by rw [List.take_add_one,gl_get h];rfl
 rw [e,flt_app,List.take_length,flt_cons]
 show _++((gl F k).L ++ [])=_
 rw [List.append_nil]
end Go.Proofs.YtlgibnmoogbdcaaGreat
