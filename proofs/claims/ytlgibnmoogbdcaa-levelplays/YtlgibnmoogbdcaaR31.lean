/-
  Who has waited too long waits no more, by the program.
-/
import Derived.Test.YtlgibnmoogbdcaaR30
namespace Go.Proofs.Ytlgibnmoogbdcaa
open Go.RowKit
set_option maxRecDepth 20000 in
set_option maxHeartbeats 4000000 in
theorem late_st (s:St) (now:Int) (ax:Option Addr) (cx:Nat) (ar:Option Addr) (cr:Nat) (w:World) (S:Nat→Prop) (hx:StR S w ax cx s.x.F) (hr:SlR w ar cr s.run) (hS:∀ j,S j→j<w.heap.size) (hf:Few s.x.F) (hl:s.run.length≤1990) (hw:(flt s.x.F).length≤1800) :
  Calls Try.prog 26 #[.agg (stB s (.slice ax s.x.F.length cx) (.slice ar s.run.length cr)),.int .i64 now] w fun e w'=>(∃ v u,e=.returned (.tuple #[v,u])∧StV S w' (ltX now s) v∧∃ a c,u=.slice a (srt (ltA now s.x.F)).length c∧TkS S w' a c (srt (ltA now s.x.F)))∧Below w.heap.size w w':=by
 obtain ⟨w2,hw2⟩:∃ w2,w2=((w.alloc (.cells (stB s (.slice ax s.x.F.length cx) (.slice ar s.run.length cr)) 36)).alloc (.cells #[.int .i64 now] 3)).alloc (.cells zsT 36):=⟨_,rfl⟩
 have BX:=boxes3 w 36 3 36 (stB s (.slice ax s.x.F.length cx) (.slice ar s.run.length cr)) #[.int .i64 now] zsT
 rw [←hw2] at BX
 obtain ⟨B,N1,N2,N3⟩:=BX
 have hs2:w2.heap.size=w.heap.size+3:=by rw [hw2];simp
 obtain ⟨A,hA⟩:∃ A,A=w.heap.size:=⟨_,rfl⟩
 have HA:Hd (A=w.heap.size):=⟨hA⟩
 rw [←hA] at B N1 N2 N3 hs2
 have HSZ:Hd (∀ j,S j→j<A):=⟨fun j e=>by rw [hA];exact hS j e⟩
 have hBw:Below w.heap.size w w2:=by rw [←hA];exact B
 have CP:=scopied_ok s ax cx ar cr w2 ((hx.read (Kept.refl _ _)).carry hBw) hf (hr.carry hBw) (by omega)
 have HF:Hd (Few s.x.F∧(flt s.x.F).length≤1800):=⟨hf,hw⟩
 have hln:=hf.len
 have HB:Hd (Below A w w2∧w2.heap.size=A+3∧Blk w2 A 36 (stB s (.slice ax s.x.F.length cx) (.slice ar s.run.length cr))∧Blk w2 (A+1) 3 #[.int .i64 now]∧Blk w2 (A+1+1) 36 (stB sZ (.slice none 0 0) (.slice none 0 0))):=⟨B,hs2,N1,N2,N3⟩
 clear N1 N2 N3 B hx hr hf hs2 hS hBw hl hw
 go_enter Try.func26,Try.ntmps26
 go_upto_region 1 with fail
 rw [←hw2]
 clear hw2
 rw [←hA]
 clear hA
 go_wp2_with (refine wpl_loadSt rfl _ rfl A rfl _ HB.out.2.2.1 rfl ?_)
 go_at_call 39
 refine CP.mono ?_
 rintro e w3 ⟨⟨v,u,rfl,o3⟩,b3⟩
 have hb3:=b3.size
 have o3':=o3.low (Nat.le_of_eq HB.out.2.1.symm)
 have k3:Kept (fun _=>False) w2 w3:=Kept.of_below b3 _
 have P3:=HB.out.2.2.1.kept k3 id
 obtain ⟨av,cv,eu,cu,rfl,rfl,-,-⟩:=o3.shape
 have HO:=Hd.mk (And.intro o3' (And.intro (HB.out.1.trans (b3.mono (by rw [HB.out.2.1];omega))) (And.intro (HB.out.2.2.2.1.kept k3 id) (And.intro (HB.out.2.2.2.2.kept k3 id) (show A+3≤w3.heap.size by have:=HB.out.2.1;omega)))))
 clear CP o3 o3' b3 k3 hb3 HB
 go_upto_region 2 with (refine wpl_storeSt rfl _ _ rfl A rfl (stB s (.slice av s.x.F.length cv) (.slice eu s.run.length cu)) _ rfl P3 rfl rfl (st_one _ _ _ _ _ _ _) ?_;intro w4 n4 k4)
 have hI0:LtR w A (A+3) w4.heap.size (stB s (.slice av s.x.F.length cv) (.slice eu s.run.length cu)) s now (.slice av s.x.F.length cv) (.slice eu s.run.length cu) 0 (.slice none 0 0) w4 :=
  LtR.start (HO.out.2.1.trans (k4.below (by have:=HO.out.2.2.2.2;omega) (fun j e=>by omega))) ⟨n4,HO.out.2.2.1.kept k4 (by omega),HO.out.2.2.2.1.kept k4 (by omega)⟩ (Nat.le_refl _) rfl (by have:=HO.out.2.2.2.2;have:=k4.size;omega) (HO.out.1.kept k4 (fun j hj e=>by omega))
 obtain ⟨B2,hB2⟩:∃ B2,B2=w4.heap.size:=⟨_,rfl⟩
 rw [←hB2] at hI0
 clear P3 k4 HO hB2
 obtain ⟨n,hn⟩:∃ n,n=s.x.F.length:=⟨_,rfl⟩
 obtain ⟨m,hm⟩:∃ m,m=s.run.length:=⟨_,rfl⟩
 have HL:=Hd.mk (And.intro hn hm)
 rw [←hn,← hm] at hI0 n4
 rw [←hn] at hln
 rw [←hn,← hm]
 clear hn hm
 have HI0:=Hd.mk hI0
 have c21:w4.cell? ⟨A,21,none⟩=some (.slice av n cv):=n4.cellv 21 rfl
 clear hI0 n4
 go_wp2_with fail
 clear c21
 go_loopw [6,15] (fun v6 vi wr=>∃ k:Nat,k≤n∧vi=.int .i64 k∧Hd (LtR w A (A+3) B2 (stB s (.slice av n cv) (.slice eu m cu)) s now (.slice av n cv) (.slice eu m cu) k v6 wr)) (fun _ vi _=>n - (intOf vi).toNat)
 case atStart=>exact ⟨0,Nat.zero_le _,rfl,HI0⟩
 case round =>
  obtain ⟨k,hk,rfl,hI⟩:=hrel
  clear HI0
  by_cases hlt:k<n
  ·obtain ⟨g,cap,vk,e1,⟨c0,c1⟩,ovk,hg,NX⟩:=hI.out.next (by rw [←HL.out.1];exact hlt)
   rw [←HL.out.1] at e1
   obtain ⟨rfl,rfl⟩:av=some ⟨g,0,none⟩∧cv=cap:=by injection e1 with x1 x2 x3;exact ⟨x1,x3⟩
   obtain ⟨alv,clv,rfl,slv⟩:=hI.out.late.read
   obtain ⟨ak,ck,rfl,slk⟩:=ovk.read
   have hzs:=hI.out.sz
   obtain ⟨w5,hw5⟩:∃ w5,w5=wr.alloc (.cells #[.int .u64 (gl s.x.F k).s,.slice ak (gl s.x.F k).L.length ck] 55):=⟨_,rfl⟩
   have B5:Below wr.heap.size wr w5:=by rw [hw5];exact alloc_below _ _
   have M5:Blk w5 wr.heap.size 55 (lnA (gl s.x.F k).s (.slice ak (gl s.x.F k).L.length ck)):=by rw [hw5];exact Blk.new _ _ _
   have hkl:=(HF.out.1.at k).2
   have LT:=llate_ok (gl s.x.F k).s ak ck (gl s.x.F k).L now w5 (slk.carry B5).2.2 (by omega)
   have W1:Blk w5 (A+1) 3 #[.int .i64 now]:=hI.out.box.2.1.kept (Kept.of_below B5 (fun _=>False)) id
   have x0:w5.cell? ⟨A+1,0,none⟩=some (.int .i64 now):=W1.cellv 0 rfl
   have HI:=Hd.mk hI.out
   have HNX:=Hd.mk NX
   have HVK0:=Hd.mk ovk
   have HM5:=Hd.mk (And.intro B5 (And.intro M5 (And.intro hg hzs)))
   obtain ⟨⟨y0,y1⟩,-⟩:=M5.lane
   have HKL:Hd ((gl s.x.F k).L.length≤1000∧(ltA now (s.x.F.take k)).length≤1800):=⟨hkl,by
    refine Nat.le_trans ?_ HF.out.2
    unfold ltA
    refine Nat.le_trans (List.length_filter_le _ _) ?_
    have e:=congrArg List.length (congrArg flt (List.take_append_drop k s.x.F))
    rw [flt_app,List.length_append] at e
    omega⟩
   have HLA:Hd (ltA now (s.x.F.take (k+1))=ltA now (s.x.F.take k)++lateTo now (gl s.x.F k).L (gl s.x.F k).L.length∧(lateTo now (gl s.x.F k).L (gl s.x.F k).L.length).length≤1000):=⟨ltA_take (by rw [←HL.out.1];exact hlt),Nat.le_trans (lateTo_len _ _ _) hkl⟩
   have hlv:OwnT w5 B2 (.slice alv (ltA now (s.x.F.take k)).length clv) (ltA now (s.x.F.take k)):=hI.out.late.keptV (Kept.of_below B5 (fun _=>False)) (fun _ _ e=>e)
   have HLV:=Hd.mk hlv
   clear hI NX e1 ovk hg slv slk hzs B5 M5 hkl W1 hlv
   generalize hLL:(gl s.x.F k).L=LL at *
   generalize (gl s.x.F k).s=sk at *
   generalize ltA now (s.x.F.take (k+1))=LA1 at *
   generalize ltA now (s.x.F.take k)=LA0 at *
   generalize lateTo now LL LL.length=LT0 at *
   have HLL:Hd (∃ L':List Tk,L'=LL∧L'.length≤1000):=⟨LL,rfl,by rw [←hLL];exact (HF.out.1.at k).2⟩
   clear hLL
   generalize LL.length=ll at *
   obtain ⟨l0,hl0⟩:∃ l0,LA0.length=l0:=⟨_,rfl⟩
   have HL0:=Hd.mk hl0
   rw [hl0] at HLV HKL HI HNX ⊢
   clear hl0
   go_upto_region 6 with fail
   rw [←hw5]
   clear hw5 c0 c1
   obtain ⟨g8,hg8⟩:∃ g8,g8=wr.heap.size:=⟨_,rfl⟩
   rw [←hg8] at HM5 y0 y1 ⊢
   have HG8:=Hd.mk hg8
   clear hg8
   go_wp2_with fail
   go_at_call 50
   refine LT.mono ?_
   rintro e w6 ⟨v6,rfl,o6,b6⟩
   obtain ⟨a6,c6,rfl,s6⟩:=o6.read
   have hb6:=b6.size
   have HS6:=Hd.mk (And.intro s6 (HLV.out.keptV (Kept.of_below b6 (fun _=>False)) (fun _ _ e=>e)))
   have HZ6:Hd (B2≤w6.heap.size):=⟨by have:=HM5.out;have:=HM5.out.1.size;have:=HG8.out;omega⟩
   obtain ⟨lt0,hlt0⟩:∃ lt0,lt0=LT0.length:=⟨_,rfl⟩
   have HLT0:=Hd.mk hlt0
   rw [←hlt0]
   clear LT s6 hlt0 o6
   go_upto_region 7 with (at_builtin;refine wpl_tks rfl _ _ rfl B2 _ LA0 LT0 rfl HS6.out.2 a6 lt0 c6 HLT0.out.symm rfl HS6.out.1 (by have:=HKL.out;have:=HLA.out.2;have:=HL0.out;omega) HZ6.out ?_;intro v7 w7 o7 g7)
   have HI7:=Hd.mk (HNX.out w7.drew v7 ((((Kept.of_below (by have:=HM5.out.1;rw [HG8.out] at this;exact this) _).trans (Kept.of_below b6 _)).trans (Kept.of_grown g7 (fun _ e=>e))).trans (Kept.of_below (Below.refl _ _).drew _)) (by rw [HLA.out.1];exact o7))
   have hlvB:∀ j,(Value.slice alv l0 clv).ownBlock=some j→B2≤j∧j<g8:=fun j e=>by
    have h1:=HI.out.late.lt j e
    rw [HG8.out]
    exact h1
   have M7:Blk w7 g8 55 (lnA sk (.slice ak ll ck)):=(HM5.out.2.1.kept (Kept.of_below b6 (fun _=>False)) id).kept (Kept.of_grown g7 (S:=fun j=>(Value.slice alv l0 clv).ownBlock=some j) (fun _ e=>e)) (fun e=>by have:=hlvB _ e;omega)
   have hTN:Blk w7.drew A 36 (stB s (.slice (some ⟨g,0,none⟩) n cv) (.slice eu m cu))∧Blk w7.drew g8 55 (lnA sk (.slice ak ll ck)):=⟨HI7.out.2.1,M7⟩
   have DF:=delF_own (A+3) (.slice ak ll ck) LL now (A+1) w7.drew HI7.out.1 (by obtain ⟨L',e,h⟩:=HLL.out;rw [←e];omega) HI7.out.2.2.1
   have HVK:Hd (∀ j,(Value.slice ak ll ck).ownBlock=some j→A+3≤j∧j<g8):=⟨fun j e=>⟨(HI7.out.1.lt j e).1,by rw [HG8.out];exact (HVK0.out.lt j e).2⟩⟩
   clear b6 HS6 o7 g7 hlvB M7 HLV HNX
   refine AnyG.start (T:=fun W=>Blk W A 36 (stB s (.slice (some ⟨g,0,none⟩) n cv) (.slice eu m cu))∧Blk W g8 55 (lnA sk (.slice ak ll ck))) (U:=fun _=>True) (j0:=10) (by kernel_rfl) ?_
   generalize w7.drew=w8 at *
   refine .tq 0 25 hTN ?_;simp only [oqA,oqB,oqC]
   refine .tq 1 26 hTN ?_;simp only [oqA,oqB,oqC]
   refine .tq (v:=.slice (some ⟨g,0,none⟩) n cv) 2 27 hTN ?_ (hy:=fun w hSw=>by have s:=(Blk.stx hSw.1).1.2.2.2.2;go_simp);simp only [oqA,oqB,oqC]
   refine .tq 3 28 hTN ?_;simp only [oqA,oqB,oqC]
   refine .tq 4 29 hTN ?_;simp only [oqA,oqB,oqC]
   refine .tq (v:=.slice ak ll ck) 5 30 hTN ?_ (hy:=fun w hSw=>by have s:=(Blk.lane hSw.2).1.2;go_simp);simp only [oqA,oqB,oqC]
   refine .tq 6 31 hTN ?_;simp only [oqA,oqB,oqC]
   refine AnyG.ready (rs:=[7]) (by kernel_rfl) (by simp) ?_
   refine AllG.cons rfl (fun K hK=>?_) (AllG.nil)
   go_simp
   refine DF.mono ?_
   rintro e w9 ⟨v9,rfl,o9,e9,k9⟩
   obtain ⟨a9,c9,e9',-⟩:=o9.read
   obtain ⟨l9,hl9⟩:∃ l9,l9=(kpF now LL).length:=⟨_,rfl⟩
   rw [←hl9] at e9'
   subst e9'
   clear hl9
   obtain ⟨⟨c1,f1⟩,P9,HI9⟩:=HI7.out.2.2.2 w9 _ o9 e9 k9
   have T9:Blk w9 A 36 (stB s (.slice (some ⟨g,0,none⟩) n cv) (.slice eu m cu))∧Blk w9 g8 55 (lnA sk (.slice ak ll ck)):=⟨P9,hTN.2.kept k9 (fun e=>by have:=HVK.out _ e;omega)⟩
   refine hK.out _ _ ⟨T9,fun _=>trivial⟩ ?_
   have i1:(k:Int)<(n:Int):=by omega
   clear hK K hTN DF k9 P9
   refine .tq (v:=.pointer (some ⟨g,k*2,none⟩)) 8 33 T9 ?_ (hy:=fun w hSw=>by go_simp);simp only [oqA,oqB,oqC]
   refine .tq 9 34 T9 ?_;simp only [oqA,oqB,oqC]
   refine AnyG.ready (rs:=[10]) (by kernel_rfl) (by simp) ?_
   refine AllG.cons rfl (fun K hK=>?_) (AllG.nil)
   go_simp
   have K10:Kept (fun j=>j=g) w9 (w9.setCell ⟨g,k*2+1,none⟩ (.slice a9 l9 c9)):=(Kept.refl _ _).setCell _ _ (.inl rfl)
   refine hK.out _ _ ⟨⟨T9.1.kept K10 (by have:=HM5.out.2.2;omega),T9.2.kept K10 (by have:=HM5.out.2.2;have:=HG8.out;omega)⟩,fun _=>trivial⟩ ?_
   refine AnyG.done (by kernel_rfl) ?_ _
   have HI10:=Hd.mk HI9
   clear hK K c1 f1 T9 K10 HI9 HI7 HI
   go_wp2_with fail
   go_roundw
   case rel=>exact ⟨k+1,by omega,by go_num,HI10⟩
   case measure=>simp [intOf];omega
  ·have hkn:k=n:=by omega
   rw [hkn] at hI ⊢
   clear hk hlt hkn
   obtain ⟨⟨a',c',e1,lan⟩,hlt,hrn⟩:=LtR.fin (by have:=hI.out;rw [HL.out.1] at this;exact this)
   obtain ⟨rfl,rfl⟩:av=a'∧cv=c':=by injection e1 with x1 x2 x3;exact ⟨x1,x3⟩
   obtain ⟨alv,clv,rfl,slv⟩:=hlt.read
   have hrn:OwnT wr (A+3) (.slice eu m cu) s.run:=hrn
   have HU:Hd (∀ j,(Value.slice eu m cu).ownBlock=some j→A+3≤j∧j<B2):=⟨fun j e=>⟨(hrn.lt j e).1,hI.out.ult j e⟩⟩
   have HI:=Hd.mk (And.intro hI.out.bel (And.intro hI.out.box (And.intro hI.out.sz (And.intro lan (And.intro hlt hrn)))))
   have HX:Hd (ltA now s.x.F=[] ↔ (ltA now s.x.F).length=0):=⟨List.length_eq_zero_iff.symm⟩
   have HSL:Hd ((srt (ltA now s.x.F)).length=(ltA now s.x.F).length∧(ltA now s.x.F).length≤1800):=⟨(srt_perm _).length_eq,Nat.le_trans (List.length_filter_le _ _) HF.out.2⟩
   clear hI slv lan hlt hrn e1
   obtain ⟨l,hl⟩:∃ l,l=(ltA now s.x.F).length:=⟨_,rfl⟩
   have HLl:=Hd.mk hl
   rw [←hl] at HI HX HSL ⊢
   clear hl
   by_cases h0:l=0
   ·subst h0
    have e0:ltX now s=s:=by unfold ltX;rw [if_pos (HX.out.2 rfl)]
    have HE1:Hd (ltA now s.x.F=[]):=⟨HX.out.2 rfl⟩
    have SN:=sort_none alv clv wr
    go_wp2_with (first | (go_at_call 54;refine SN.mono ?_;rintro e w8 ⟨rfl,h8⟩;have HW8:=Hd.mk h8;clear h8 SN;replace HI:=Hd.mk (HW8.out.symm ▸ HI.out)) | (refine wpl_loadSt rfl _ rfl A rfl _ HI.out.2.1.1 rfl ?_) | (refine wpl_storeSt rfl _ _ rfl (A+1+1) rfl (stB s (.slice av n cv) (.slice eu m cu)) _ rfl HI.out.2.1.2.2 rfl rfl (st_one _ _ _ _ _ _ _) ?_;intro w9 n9 k9))
    refine bodyPost_ret (resSt26 _ _ _ rfl rfl n9) rfl ?_
    obtain ⟨bel,box,sz,lan,hlt,hrn⟩:=HI.out
    rw [e0,← HA.out]
    have e1:=HE1.out
    have e2:ltK now s.x.F=s.x.F:=ltK_none e1
    rw [e2] at lan
    rw [e1]
    have lan9:=lan.stp (k9.mono (T:=fun j=>j<A+3∨B2≤j) (fun j _ e=>.inl (by omega))) (T:=S) (fun j _ e=>.inl (by have:=HSZ.out j e;omega))
    obtain ⟨a',c',e',r'⟩:=(hrn.kept k9 (fun j hj e=>by omega)).ts (S:=S) (fun j hj e=>by have:=HSZ.out j e;omega)
    obtain ⟨rfl,hm',rfl⟩:eu=a'∧m=s.run.length∧cu=c':=by injection e' with x1 x2 x3;exact ⟨x1,x2,x3⟩
    obtain ⟨a'',c'',e'',r''⟩:=(hlt.kept k9 (fun j hj e=>by omega)).ts (S:=S) (fun j hj e=>by have:=HSZ.out j e;omega)
    obtain ⟨rfl,-,rfl⟩:alv=a''∧True∧clv=c'':=by injection e'' with x1 x2 x3;exact ⟨x1,trivial,x3⟩
    rw [e1] at r''
    exact ⟨⟨_,_,rfl,⟨av,cv,eu,cu,by rw [←HL.out.1,← hm'],lan9,r'⟩,⟨alv,clv,rfl,r''⟩⟩,bel.trans (k9.below (by omega) (fun j e=>by omega))⟩
   ·have h1:(0:Int)<(l:Int):=by omega
    have e0:ltX now s={ s with x:=⟨s.x.r,s.x.g,s.x.n,s.x.o,trm (ltK now s.x.F) s.x.o⟩ }:=by unfold ltX;rw [if_neg (fun e=>h0 (HX.out.1 e))]
    obtain ⟨g,c',eg,hc',hBg,R⟩:=HI.out.2.2.2.2.1.rw (by rw [←HLl.out];omega)
    obtain ⟨rfl,-,rfl⟩:alv=some ⟨g,0,none⟩∧True∧clv=c':=by injection eg with x1 x2 x3;exact ⟨x1,trivial,x3⟩
    have TR:=ltrimmed_ok (fun j=>j<A+3∨B2≤j) s.x.r s.x.g s.x.n s.x.o av cv (ltK now s.x.F) wr HI.out.2.2.2.1 (ltK_few HF.out.1 now)
    rw [ltK_len,← HL.out.1] at TR
    obtain ⟨⟨x0,x1,x2,x3,x4⟩,-⟩:=HI.out.2.1.1.stx
    have HR:=Hd.mk (And.intro R hBg)
    clear R hBg eg hc'
    go_wp2_with fail
    go_at_call 53
    refine TR.mono ?_
    rintro e w5 ⟨⟨v5,rfl,a5,c5,rfl,s5⟩,b5⟩
    clear TR x0 x1 x2 x3 x4
    obtain ⟨l5,hl5⟩:∃ l5,l5=(trm (ltK now s.x.F) s.x.o).length:=⟨_,rfl⟩
    have HL5:=Hd.mk hl5
    rw [←hl5]
    clear hl5
    have K5:Kept (fun _=>False) wr w5:=Kept.of_below b5 _
    have P5:=HI.out.2.1.1.kept K5 id
    obtain ⟨⟨x0,x1,x2,x3,x4⟩,f0,f1,f2,f3,f4⟩:=P5.stx
    obtain ⟨Q6,K6⟩:=st_fair P5 ⟨s.x.r,s.x.g,s.x.n,s.x.o,trm (ltK now s.x.F) s.x.o⟩ (.slice a5 l5 c5)
    obtain ⟨w6,hw6⟩:∃ w6,w6=(((((w5.setCell ⟨A,17,none⟩ (.int .u64 s.x.r)).setCell ⟨A,18,none⟩ (.int .i64 s.x.g)).setCell ⟨A,19,none⟩ (.int .i64 s.x.n)).setCell ⟨A,20,none⟩ (.int .i64 s.x.o)).setCell ⟨A,21,none⟩ (.slice a5 l5 c5)):=⟨_,rfl⟩
    have Q6:Blk w6 A 36 (stB { s with x:=⟨s.x.r,s.x.g,s.x.n,s.x.o,trm (ltK now s.x.F) s.x.o⟩ } (.slice a5 l5 c5) (.slice eu m cu)):=by rw [hw6];exact Q6
    have K6:Kept (fun j=>j=A) w5 w6:=by rw [hw6];exact K6
    have hsz:=HI.out.2.2.1
    have R6:=(HR.out.1.kept K5 id).kept K6 (by have:=HR.out.2;omega)
    have SO:=sort_ok g clv l clv (ltA now s.x.F) w6 R6 HLl.out.symm (by have:=HSL.out.2;omega)
    have H6:=Hd.mk (And.intro K5 (And.intro K6 (And.intro Q6 (And.intro s5 (And.intro b5 (HI.out.2.1.2.2.kept K5 id |>.kept K6 (by omega)))))))
    clear K5 P5 Q6 K6 hsz R6 s5 b5
    go_upto_region 11 with fail
    rw [←hw6]
    clear hw6 x0 x1 x2 x3 x4 f0 f1 f2 f3 f4
    go_wp2_with fail
    go_at_call 54
    refine SO.mono ?_
    rintro e w7 ⟨rfl,R7,k7⟩
    clear SO
    have hsz:=HI.out.2.2.1
    have P7:=H6.out.2.2.1.kept k7 (by have:=HR.out.2;omega)
    have Z7:=H6.out.2.2.2.2.2.kept k7 (by have:=HR.out.2;omega)
    have H7:=Hd.mk (And.intro R7 (And.intro k7 (And.intro P7 Z7)))
    clear R7 k7 P7 Z7 hsz
    go_wp2_with (first | (refine wpl_loadSt rfl _ rfl A rfl _ H7.out.2.2.1 rfl ?_) | (refine wpl_storeSt rfl _ _ rfl (A+1+1) rfl (stB { s with x:=⟨s.x.r,s.x.g,s.x.n,s.x.o,trm (ltK now s.x.F) s.x.o⟩ } (.slice a5 l5 c5) (.slice eu m cu)) _ rfl H7.out.2.2.2 rfl rfl (st_one _ _ _ _ _ _ _) ?_;intro w9 n9 k9))
    refine bodyPost_ret (resSt26 _ _ _ rfl rfl n9) rfl ?_
    obtain ⟨bel,box,sz,lan,hlt,hrn⟩:=HI.out
    obtain ⟨K5,K6,-,s5,b5,-⟩:=H6.out
    obtain ⟨R7,k7,-,-⟩:=H7.out
    have hB2:=HR.out.2
    rw [e0,← HA.out]
    have lan9:=s5.stp (((K6.mono (T:=fun j=>j<A+3∨B2≤j) (fun j _ e=>.inl (by omega))).trans (k7.mono (fun j _ e=>.inr (by omega)))).trans (k9.mono (fun j _ e=>.inl (by omega)))) (T:=S) (fun j _ e=>.inl (by have:=HSZ.out j e;omega))
    have o7:=((hrn.keptV K5 (fun _ _ e=>e)).keptV K6 (fun j e1 e2=>by have:=HU.out j e1;omega)).keptV k7 (fun j e1 e2=>by have:=HU.out j e1;omega)
    obtain ⟨a',c',e',r'⟩:=(o7.kept k9 (fun j hj e=>by omega)).ts (S:=S) (fun j hj e=>by have:=HSZ.out j e;omega)
    obtain ⟨rfl,hm',rfl⟩:eu=a'∧m=s.run.length∧cu=c':=by injection e' with x1 x2 x3;exact ⟨x1,x2,x3⟩
    have t9:=Rw.ts (S:=S) (R7.kept k9 (by omega)) (fun e=>by have:=HSZ.out g e;omega)
    have hwr:=b5.size
    have hw5:=K6.size
    have hw7:=k7.size
    exact ⟨⟨_,_,rfl,⟨a5,c5,eu,cu,by rw [HL5.out,← hm'],lan9,r'⟩,⟨some ⟨g,0,none⟩,clv,by rw [HSL.out.1];rfl,t9⟩⟩,(((bel.trans (b5.mono (by omega))).trans (K6.below (by omega) (fun j e=>by omega))).trans (k7.below (by omega) (fun j e=>by omega))).trans (k9.below (by omega) (fun j e=>by omega))⟩
end Go.Proofs.Ytlgibnmoogbdcaa
