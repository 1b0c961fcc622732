/-
  'Check' of the reference.
-/
import Derived.Test.YthkdbphgiobcdaaGreatDoorE47
namespace Go.Proofs.YthkdbphgiobcdaaGreatDoor
open Go.RowKit
set_option maxRecDepth 20000 in
set_option maxHeartbeats 16000000 in
theorem rcheck_ok (v:Value) (C0:Cf) (w:World) (h:CfR w v C0) (g:Wfc C0) (nm:Nms C0) (hb:Bnd 900 C0) :
  Calls Tryz.prog 28 #[v] w fun e w'=>e=.returned (.tuple #[.int .i64 (chk C0).1,.string (chk C0).2])∧Below w.heap.size w w':=by
 have HFM:Hd (∀ W,Below w.heap.size w W→Calls Tryz.prog 63 #[v] W fun e w'=>e=.returned (.bool (formed C0))∧Below W.heap.size W w'):=⟨fun W b=>rformed_ok v C0 W (h.carry b) g nm hb⟩
 have HNM:Hd (Nms C0):=⟨nm⟩
 obtain ⟨aL,cL,aS,cS,V0,rfl,-,-,hLv,hV0,hSc,hRl⟩:=h.ex
 obtain ⟨nl,ns⟩:=h.sz
 have HLV:Hd (∀ W,Below w.heap.size w W→LvR W aL C0.levels):=⟨fun W b=>hLv.carry b⟩
 have HSV:Hd (V0.length=C0.schemas.length∧∀ W,Below w.heap.size w W→ScR W aS C0.schemas V0∧∀ k (h:k<C0.schemas.length) (h':k<V0.length),RlR W V0[k] C0.schemas[k].rules):=⟨hV0,fun W b=>⟨hSc.carry b,fun k h1 h2=>(hRl k h1 h2).carry b⟩⟩
 clear h g nm hb hLv hV0 hSc hRl
 obtain ⟨x0,x1,x2,x3,L,S⟩:=C0
 simp only at HFM HLV HSV nl ns ⊢
 have HQ:Hd ((formed ⟨x0,x1,x2,x3,L,S⟩=false→chk ⟨x0,x1,x2,x3,L,S⟩=(2,⟨#[]⟩))∧(formed ⟨x0,x1,x2,x3,L,S⟩=true→(x0=0→chk ⟨x0,x1,x2,x3,L,S⟩=(12,tTotal))∧(x0≠0→(x1=0→chk ⟨x0,x1,x2,x3,L,S⟩=(12,tPeriod))∧(x1≠0→(x2=0→chk ⟨x0,x1,x2,x3,L,S⟩=(12,tSeats))∧(x2≠0 →
   ((firstL L).1≠0→chk ⟨x0,x1,x2,x3,L,S⟩=firstL L)∧((firstL L).1=0→((firstS L S).1≠0→chk ⟨x0,x1,x2,x3,L,S⟩=firstS L S)∧((firstS L S).1=0→chk ⟨x0,x1,x2,x3,L,S⟩=(if lackP ⟨x0,x1,x2,x3,L,S⟩=⟨#[]⟩ then (0,⟨#[]⟩) else (12,lackP ⟨x0,x1,x2,x3,L,S⟩))))))))):=⟨by
  refine ⟨fun h=>by unfold chk;rw [h];rfl,fun h=>⟨fun h0=>?_,fun h0=>⟨fun h1=>?_,fun h1=>⟨fun h2=>?_,fun h2=>?_⟩⟩⟩⟩
  ·have e:lackN ⟨x0,x1,x2,x3,L,S⟩=tTotal:=by unfold lackN;exact if_pos h0
   unfold chk;rw [h,e];rfl
  ·have e:lackN ⟨x0,x1,x2,x3,L,S⟩=tPeriod:=by unfold lackN;rw [if_neg h0];exact if_pos h1
   unfold chk;rw [h,e];rfl
  ·have e:lackN ⟨x0,x1,x2,x3,L,S⟩=tSeats:=by unfold lackN;rw [if_neg h0,if_neg h1];exact if_pos h2
   unfold chk;rw [h,e];rfl
  ·have e:lackN ⟨x0,x1,x2,x3,L,S⟩=⟨#[]⟩:=lackN_zero.2 ⟨h0,h1,h2⟩
   refine ⟨fun h3=>?_,fun h3=>⟨fun h4=>?_,fun h4=>?_⟩⟩
   ·unfold chk;rw [if_pos h,if_pos e];exact if_neg h3
   ·unfold chk;rw [if_pos h,if_pos e];exact (if_pos h3).trans (if_neg h4)
   ·unfold chk;rw [if_pos h,if_pos e];exact (if_pos h3).trans (if_pos h4)⟩
 have HLP:Hd (lackP ⟨x0,x1,x2,x3,L,S⟩=if anyL L tExempt then if anyL L tCatch then if anyS S tExempt then if anyS S tCatch then ⟨#[]⟩ else scT tCatch else scT tExempt else lvT tCatch else lvT tExempt):=⟨rfl⟩
 generalize lackP ⟨x0,x1,x2,x3,L,S⟩=lp at *
 generalize chk ⟨x0,x1,x2,x3,L,S⟩=Q at *
 generalize formed ⟨x0,x1,x2,x3,L,S⟩=fb at *
 have HNM2:Hd ((∀ k (h:k<L.length),L[k].name.size≤1000)∧∀ k (h:k<S.length),S[k].name.size≤1000):=⟨fun k h=>HNM.out.lv _ (List.getElem_mem h),fun k h=>(HNM.out.sc _ (List.getElem_mem h)).1⟩
 clear HNM
 obtain ⟨n,hn⟩:∃ n,n=L.length:=⟨_,rfl⟩
 obtain ⟨m,hm⟩:∃ m,m=S.length:=⟨_,rfl⟩
 have HN:Hd (n=L.length∧m=S.length):=⟨hn,hm⟩
 rw [←hn] at nl HFM
 rw [←hm] at ns HFM
 rw [←hn,← hm]
 clear hn hm
 have AL1:=alloc_below w (.cells #[.int .i64 x0,.int .i64 x1,.int .i64 x2,.int .i64 x3,.slice aL n cL,.slice aS m cS] 25)
 have NB1:=Blk.new w 25 #[.int .i64 x0,.int .i64 x1,.int .i64 x2,.int .i64 x3,.slice aL n cL,.slice aS m cS]
 go_enter Tryz.func28,Tryz.ntmps28
 go_upto_region 1 with fail
 generalize w.alloc (.cells #[.int .i64 x0,.int .i64 x1,.int .i64 x2,.int .i64 x3,.slice aL n cL,.slice aS m cS] 25)=w1 at *
 obtain ⟨A,hA⟩:∃ A,A=w.heap.size:=⟨_,rfl⟩
 rw [←hA] at NB1 ⊢
 have HA:Hd (w.heap.size≤A):=⟨by omega⟩
 clear hA
 obtain ⟨⟨c0,c1,c2,c3,c4,c5⟩,-⟩:=NB1.six
 cases fb with
 | false =>
  have q:=HQ.out.1 rfl
  have HQ9:Hd (Q=(2,⟨#[]⟩)):=⟨q⟩
  clear HQ q
  go_wp2_with (go_at_call 63;refine (HFM.out _ AL1).mono ?_;rintro e w2 ⟨rfl,b2⟩)
  go_ret2
  exact ⟨by rw [HQ9.out];rfl,AL1.trans (b2.mono AL1.size)⟩
 | true =>
  have HQ1:Hd _:=⟨HQ.out.2 rfl⟩
  clear HQ
  by_cases z0:x0=0
  ·have HQ9:Hd (Q=(12,tTotal)):=⟨HQ1.out.1 z0⟩
   have q0:(x0 == 0)=true:=by simp [z0]
   clear HQ1 z0
   go_wp2_with (go_at_call 63;refine (HFM.out _ AL1).mono ?_;rintro e w2 ⟨rfl,b2⟩;have NB2:=NB1.kept (Kept.of_below b2 (fun _=>False)) id;obtain ⟨⟨d0,d1,d2,d3,d4,d5⟩,-⟩:=NB2.six)
   go_ret2
   exact ⟨by rw [HQ9.out];rfl,AL1.trans (b2.mono AL1.size)⟩
  have q0:(x0 == 0)=false:=by simp [z0]
  by_cases z1:x1=0
  ·have HQ9:Hd (Q=(12,tPeriod)):=⟨(HQ1.out.2 z0).1 z1⟩
   have q1:(x1 == 0)=true:=by simp [z1]
   clear HQ1 z1
   go_wp2_with (go_at_call 63;refine (HFM.out _ AL1).mono ?_;rintro e w2 ⟨rfl,b2⟩;have NB2:=NB1.kept (Kept.of_below b2 (fun _=>False)) id;obtain ⟨⟨d0,d1,d2,d3,d4,d5⟩,-⟩:=NB2.six)
   go_ret2
   exact ⟨by rw [HQ9.out];rfl,AL1.trans (b2.mono AL1.size)⟩
  have q1:(x1 == 0)=false:=by simp [z1]
  by_cases z2:x2=0
  ·have HQ9:Hd (Q=(12,tSeats)):=⟨((HQ1.out.2 z0).2 z1).1 z2⟩
   have q2:(x2 == 0)=true:=by simp [z2]
   clear HQ1 z2
   go_wp2_with (go_at_call 63;refine (HFM.out _ AL1).mono ?_;rintro e w2 ⟨rfl,b2⟩;have NB2:=NB1.kept (Kept.of_below b2 (fun _=>False)) id;obtain ⟨⟨d0,d1,d2,d3,d4,d5⟩,-⟩:=NB2.six)
   go_ret2
   exact ⟨by rw [HQ9.out];rfl,AL1.trans (b2.mono AL1.size)⟩
  have q2:(x2 == 0)=false:=by simp [z2]
  have HQ2:Hd _:=⟨(((HQ1.out.2 z0).2 z1).2 z2)⟩
  clear HQ1 z0 z1 z2
  go_wp2_with (first | (go_at_call 63;refine (HFM.out _ AL1).mono ?_;rintro e w2 ⟨rfl,b2⟩;have NB2:=NB1.kept (Kept.of_below b2 (fun _=>False)) id;obtain ⟨⟨d0,d1,d2,d3,d4,d5⟩,-⟩:=NB2.six;have B2:=AL1.trans (b2.mono AL1.size)) | fail)
  have AL3:=alloc_below w2 (.cells #[.bool false,.bool false] 98)
  have AL4:=alloc_below (w2.alloc (.cells #[.bool false,.bool false] 98)) (.cells #[.bool false,.bool false] 98)
  have N3:=(Blk.new w2 98 #[.bool false,.bool false]).kept (Kept.of_below AL4 (fun _=>False)) id
  have N4:=Blk.new (w2.alloc (.cells #[.bool false,.bool false] 98)) 98 #[.bool false,.bool false]
  have sz:(w2.alloc (.cells #[.bool false,.bool false] 98)).heap.size=w2.heap.size+1:=by simp
  rw [sz] at N4
  have S0:Hd (CkS w ((w2.alloc (.cells #[.bool false,.bool false] 98)).alloc (.cells #[.bool false,.bool false] 98)) A w2.heap.size (w2.heap.size+1) #[.int .i64 x0,.int .i64 x1,.int .i64 x2,.int .i64 x3,.slice aL n cL,.slice aS m cS] false false false false):=⟨⟨B2.trans ((AL3.trans (AL4.mono AL3.size)).mono B2.size),HA.out,(NB2.kept (Kept.of_below AL3 (fun _=>False)) id).kept (Kept.of_below AL4 (fun _=>False)) id,N3,N4,by omega,B2.size,Nat.le_succ_of_le B2.size⟩⟩
  clear AL3 AL4 N3 N4 sz B2 b2 NB2 NB1 AL1 c0 c1 c2 c3 c4 c5 d0 d1 d2 d3 d4 d5 q0 q1 q2 HFM
  generalize (w2.alloc (.cells #[.bool false,.bool false] 98)).alloc (.cells #[.bool false,.bool false] 98)=w3 at *
  generalize w2.heap.size+1=G2 at *
  generalize w2.heap.size=G1 at *
  clear w2 w1
  go_loopw [6,7,8,9] (fun i _ _ _ wr=>∃ (k:Nat) (l0 l1:Bool),k≤n∧i=.int .i64 k∧Hd (CkS w wr A G1 G2 #[.int .i64 x0,.int .i64 x1,.int .i64 x2,.int .i64 x3,.slice aL n cL,.slice aS m cS] l0 l1 false false∧firstL L=firstL (L.drop k)∧l0=anyL (L.take k) tExempt∧l1=anyL (L.take k) tCatch)) (fun i _ _ _ _=>n - (intOf i).toNat)
  case atStart=>exact ⟨0,false,false,Nat.zero_le _,rfl,⟨S0.out,rfl,rfl,rfl⟩⟩
  case round =>
   obtain ⟨k,l0,l1,hk,rfl,hI⟩:=hrel
   clear S0
   have e4:=hI.out.1.bx.cellv (v:=.slice aL n cL) 4 rfl
   by_cases hlt:k<n
   ·have hkL:k<L.length:=by rw [←HN.out.1];exact hlt
    obtain ⟨b,off,rfl,hbl,Kc⟩:=HLV.out wr hI.out.1.bel (by omega)
    have u0:wr.cell? ⟨b,off+k*10,none⟩=some (.string L[k].name):=Kc k hkL 0 (by decide)
    have u1:wr.cell? ⟨b,off+k*10+1,none⟩=some (.int .i64 L[k].kind):=Kc k hkL 1 (by decide)
    have u2:wr.cell? ⟨b,off+k*10+2,none⟩=some (.int .i64 L[k].shares):=Kc k hkL 2 (by decide)
    have u3:wr.cell? ⟨b,off+k*10+3,none⟩=some (.int .i64 L[k].lend):=Kc k hkL 3 (by decide)
    have u4:wr.cell? ⟨b,off+k*10+4,none⟩=some (.int .i64 L[k].borrow):=Kc k hkL 4 (by decide)
    have u5:wr.cell? ⟨b,off+k*10+5,none⟩=some (.int .i64 L[k].queues):=Kc k hkL 5 (by decide)
    have u6:wr.cell? ⟨b,off+k*10+6,none⟩=some (.int .i64 L[k].hand):=Kc k hkL 6 (by decide)
    have u7:wr.cell? ⟨b,off+k*10+7,none⟩=some (.int .i64 L[k].length):=Kc k hkL 7 (by decide)
    have u8:wr.cell? ⟨b,off+k*10+8,none⟩=some (.int .i64 L[k].wait):=Kc k hkL 8 (by decide)
    have u9:wr.cell? ⟨b,off+k*10+9,none⟩=some (.int .i64 L[k].guess):=Kc k hkL 9 (by decide)
    have hz:=HNM2.out.1 k hkL
    have HER:Hd (lvErr L[k]≠0→Q=(lvErr L[k],lvT L[k].name)):=⟨fun h=>by
     have e:=hI.out.2.1
     rw [firstL_cut hkL,if_neg h] at e
     rw [HQ2.out.1 (by rw [e];exact h),e]⟩
    have HNX:Hd (lvErr L[k]=0→firstL L=firstL (L.drop (k+1))):=⟨fun h=>by
     have e:=hI.out.2.1
     rw [firstL_cut hkL,if_pos h] at e
     exact e⟩
    have HT0:Hd (anyL (L.take (k+1)) tExempt=(l0 || decide (L[k].name=tExempt))):=⟨by rw [anyL_take hkL,← hI.out.2.2.1]⟩
    have HT1:Hd (anyL (L.take (k+1)) tCatch=(l1 || decide (L[k].name=tCatch))):=⟨by rw [anyL_take hkL,← hI.out.2.2.2]⟩
    have HK:Hd (k<n):=⟨hlt⟩
    have AL5:=alloc_below wr (.cells #[.string L[k].name,.int .i64 L[k].kind,.int .i64 L[k].shares,.int .i64 L[k].lend,.int .i64 L[k].borrow,.int .i64 L[k].queues,.int .i64 L[k].hand,.int .i64 L[k].length,.int .i64 L[k].wait,.int .i64 L[k].guess] 43)
    have N5:=Blk.new wr 43 #[.string L[k].name,.int .i64 L[k].kind,.int .i64 L[k].shares,.int .i64 L[k].lend,.int .i64 L[k].borrow,.int .i64 L[k].queues,.int .i64 L[k].hand,.int .i64 L[k].length,.int .i64 L[k].wait,.int .i64 L[k].guess]
    have S5:Hd (CkS w (wr.alloc (.cells #[.string L[k].name,.int .i64 L[k].kind,.int .i64 L[k].shares,.int .i64 L[k].lend,.int .i64 L[k].borrow,.int .i64 L[k].queues,.int .i64 L[k].hand,.int .i64 L[k].length,.int .i64 L[k].wait,.int .i64 L[k].guess] 43)) A G1 G2 #[.int .i64 x0,.int .i64 x1,.int .i64 x2,.int .i64 x3,.slice (some ⟨b,off,none⟩) n cL,.slice aS m cS] l0 l1 false false):=⟨hI.out.1.grown AL5⟩
    clear hI Kc AL5
    generalize L[k]=l at *
    clear hkL
    go_upto_region 14 with fail
    clear u0 u1 u2 u3 u4 u5 u6 u7 u8 u9 e4
    generalize wr.alloc (.cells #[.string l.name,.int .i64 l.kind,.int .i64 l.shares,.int .i64 l.lend,.int .i64 l.borrow,.int .i64 l.queues,.int .i64 l.hand,.int .i64 l.length,.int .i64 l.wait,.int .i64 l.guess] 43)=wk at *
    generalize wr.heap.size=g4 at *
    have s0:=N5.cellv (v:=.string l.name) 0 rfl
    have s1:=N5.cellv (v:=.int .i64 l.kind) 1 rfl
    have s2:=N5.cellv (v:=.int .i64 l.shares) 2 rfl
    have s5:=N5.cellv (v:=.int .i64 l.queues) 5 rfl
    have s6:=N5.cellv (v:=.int .i64 l.hand) 6 rfl
    have t0:=S5.out.b1.cellv (v:=.bool l0) 0 rfl
    have t1:=S5.out.b1.cellv (v:=.bool l1) 1 rfl
    have f0:=S5.out.b1.frozen 0
    have f1:=S5.out.b1.frozen 1
    have p0:(l.name.toList == [101,120,101,109,112,116])=decide (l.name=tExempt):=by
     have:=name_eq l.name tExempt
     rw [ByteArray.toList_eq tExempt] at this
     exact this
    have p1:(l.name.toList == [99,97,116,99,104,45,97,108,108])=decide (l.name=tCatch):=by
     have:=name_eq l.name tCatch
     rw [ByteArray.toList_eq tCatch] at this
     exact this
    have NE:tExempt≠tCatch:=by decide
    have HPB:Hd (Below w.heap.size w wk):=⟨S5.out.bel⟩
    have M0:Blk (wk.setCell ⟨G1,0,none⟩ (.bool true)) g4 43 _:=N5.kept ((Kept.refl (fun q=>q=G1) wk).setCell ⟨G1,0,none⟩ (.bool true) (.inl rfl)) (N5.ne S5.out.b1 (by decide))
    have M1:Blk (wk.setCell ⟨G1,1,none⟩ (.bool true)) g4 43 _:=N5.kept ((Kept.refl (fun q=>q=G1) wk).setCell ⟨G1,1,none⟩ (.bool true) (.inl rfl)) (N5.ne S5.out.b1 (by decide))
    have m00:=M0.cellv (v:=.string l.name) 0 rfl
    have m01:=M0.cellv (v:=.int .i64 l.kind) 1 rfl
    have m11:=M1.cellv (v:=.int .i64 l.kind) 1 rfl
    have m12:=M1.cellv (v:=.int .i64 l.shares) 2 rfl
    clear N5 M0 M1
    have S6b:Hd _:=S5
    by_cases k3:l.kind=3
    ·have r3:(l.kind == 3)=true:=by simp [k3]
     by_cases kr:refH l.queues l.hand=0
     ·have RH:=rhands_ok l.queues l.hand wk
      rw [kr] at RH
      by_cases e0:l.name=tExempt
      ·have e1:¬ l.name=tCatch:=fun h=>NE (e0.symm.trans h)
       rw [decide_eq_true e0] at p0
       rw [decide_eq_false e1] at p1
       have nmE:=e0
       have k1:¬ l.kind=1:=by rw [k3];decide
       have r1:(l.kind != 1)=true:=by simp [k1]
       have hE:lvErr l=11:=by simp [lvErr,lvFit,e0,k3,kr]
       have HQ9:Hd (Q=(11,lvT tExempt)):=⟨by rw [HER.out (by rw [hE];decide),hE];rw [nmE]⟩
       clear hE HER HNX HT0 HT1 S5 NE e0 e1 k1 k3 kr nmE
       go_wp2_with (go_at_call 64;refine RH.mono ?_;rintro e w6 ⟨pp,rfl,rfl⟩)
       go_ret2
       exact ⟨by rw [HQ9.out];rfl,S6b.out.setL0.bel⟩
      ·by_cases e1:l.name=tCatch
       ·rw [decide_eq_false e0] at p0
        rw [decide_eq_true e1] at p1
        have nmE:=e1
        have k1:¬ l.kind=1:=by rw [k3];decide
        have r1:(l.kind == 1)=false:=by simp [k1]
        by_cases k2:l.shares=0
        ·have r2:(l.shares == 0)=true:=by simp [k2]
         have hE:lvErr l=11:=by simp [lvErr,lvFit,e1,k2,NE.symm,k3,kr]
         have HQ9:Hd (Q=(11,lvT tCatch)):=⟨by rw [HER.out (by rw [hE];decide),hE];rw [nmE]⟩
         clear hE HER HNX HT0 HT1 S5 NE e0 e1 k1 k2 k3 kr nmE
         go_wp2_with (go_at_call 64;refine RH.mono ?_;rintro e w6 ⟨pp,rfl,rfl⟩)
         go_ret2
         exact ⟨by rw [HQ9.out];rfl,S6b.out.setL1.bel⟩
        ·have r2:(l.shares == 0)=false:=by simp [k2]
         have hE:lvErr l=0:=by simp [lvErr,lvFit,e1,k2,NE.symm,k3,kr]
         have HG:Hd _:=⟨HNX.out hE⟩
         have HT0b:Hd (l0=anyL (L.take (k+1)) tExempt):=⟨by rw [HT0.out];simp [e1,NE.symm]⟩
         have HT1b:Hd (true=anyL (L.take (k+1)) tCatch):=⟨by rw [HT1.out];simp [e1]⟩
         have S6:Hd _:=⟨S5.out.setL1⟩
         clear hE HER HNX HT0 HT1 S5 NE e0 e1 k1 k2 k3 kr nmE
         go_wp2_with (go_at_call 64;refine RH.mono ?_;rintro e w6 ⟨pp,rfl,rfl⟩)
         go_roundw
         case rel=>exact ⟨k+1,l0,true,HK.out,by go_num,⟨S6.out,HG.out,HT0b.out,HT1b.out⟩⟩
         case measure=>have:=HK.out;simp [intOf];omega
       ·rw [decide_eq_false e0] at p0
        rw [decide_eq_false e1] at p1
        have hE:lvErr l=0:=by simp [lvErr,lvFit,e0,e1,k3,kr]
        have HG:Hd _:=⟨HNX.out hE⟩
        have HT0b:Hd (l0=anyL (L.take (k+1)) tExempt):=⟨by rw [HT0.out];simp [e0]⟩
        have HT1b:Hd (l1=anyL (L.take (k+1)) tCatch):=⟨by rw [HT1.out];simp [e1]⟩
        have S6:Hd _:=⟨S5.out⟩
        clear hE HER HNX HT0 HT1 S5 NE e0 e1 k3 kr
        go_wp2_with (go_at_call 64;refine RH.mono ?_;rintro e w6 ⟨pp,rfl,rfl⟩)
        go_roundw
        case rel=>exact ⟨k+1,l0,l1,HK.out,by go_num,⟨S6.out,HG.out,HT0b.out,HT1b.out⟩⟩
        case measure=>have:=HK.out;simp [intOf];omega
     ·have RH:=rhands_ok l.queues l.hand wk
      have hE:lvErr l=refH l.queues l.hand:=by simp [lvErr,k3,kr]
      have HQ9:Hd (Q=(refH l.queues l.hand,lvT l.name)):=⟨by rw [HER.out (by rw [hE];exact kr),hE]⟩
      have r4:(refH l.queues l.hand != 0)=true:=by simp [kr]
      clear hE HER HNX HT0 HT1 S5 S6b kr
      generalize refH l.queues l.hand=rr at *
      go_wp2_with (go_at_call 64;refine RH.mono ?_;rintro e w6 ⟨pp,rfl,rfl⟩)
      go_quiet (fail)
      go_wp2
      go_ret2
      exact ⟨by rw [HQ9.out];rfl,HPB.out.trans ⟨rfl,rfl,rfl,Nat.le_refl _,fun _ _=>rfl⟩⟩
    ·have r3:(l.kind == 3)=false:=by simp [k3]
     by_cases e0:l.name=tExempt
     ·have e1:¬ l.name=tCatch:=fun h=>NE (e0.symm.trans h)
      rw [decide_eq_true e0] at p0
      rw [decide_eq_false e1] at p1
      have nmE:=e0
      by_cases k1:l.kind=1
      ·have r1:(l.kind != 1)=false:=by simp [k1]
       have hE:lvErr l=0:=by simp [lvErr,lvFit,e0,k1]
       have HG:Hd _:=⟨HNX.out hE⟩
       have HT0b:Hd (true=anyL (L.take (k+1)) tExempt):=⟨by rw [HT0.out];simp [e0]⟩
       have HT1b:Hd (l1=anyL (L.take (k+1)) tCatch):=⟨by rw [HT1.out];simp [e0,NE]⟩
       have S6:Hd _:=⟨S5.out.setL0⟩
       clear hE HER HNX HT0 HT1 S5 NE e0 e1 k1 k3 nmE
       go_wp2_with (fail)
       go_roundw
       case rel=>exact ⟨k+1,true,l1,HK.out,by go_num,⟨S6.out,HG.out,HT0b.out,HT1b.out⟩⟩
       case measure=>have:=HK.out;simp [intOf];omega
      ·have r1:(l.kind != 1)=true:=by simp [k1]
       have hE:lvErr l=11:=by simp [lvErr,lvFit,e0,k1,k3]
       have HQ9:Hd (Q=(11,lvT tExempt)):=⟨by rw [HER.out (by rw [hE];decide),hE];rw [nmE]⟩
       clear hE HER HNX HT0 HT1 S5 NE e0 e1 k1 k3 nmE
       go_wp2_with (fail)
       go_ret2
       exact ⟨by rw [HQ9.out];rfl,S6b.out.setL0.bel⟩
     ·by_cases e1:l.name=tCatch
      ·rw [decide_eq_false e0] at p0
       rw [decide_eq_true e1] at p1
       have nmE:=e1
       by_cases k1:l.kind=1
       ·have r1:(l.kind == 1)=true:=by simp [k1]
        have hE:lvErr l=11:=by simp [lvErr,lvFit,e1,k1,NE.symm]
        have HQ9:Hd (Q=(11,lvT tCatch)):=⟨by rw [HER.out (by rw [hE];decide),hE];rw [nmE]⟩
        clear hE HER HNX HT0 HT1 S5 NE e0 e1 k1 k3 nmE
        go_wp2_with (fail)
        go_ret2
        exact ⟨by rw [HQ9.out];rfl,S6b.out.setL1.bel⟩
       have r1:(l.kind == 1)=false:=by simp [k1]
       by_cases k2:l.shares=0
       ·have r2:(l.shares == 0)=true:=by simp [k2]
        have hE:lvErr l=11:=by simp [lvErr,lvFit,e1,k2,NE.symm,k3]
        have HQ9:Hd (Q=(11,lvT tCatch)):=⟨by rw [HER.out (by rw [hE];decide),hE];rw [nmE]⟩
        clear hE HER HNX HT0 HT1 S5 NE e0 e1 k1 k2 k3 nmE
        go_wp2_with (fail)
        go_ret2
        exact ⟨by rw [HQ9.out];rfl,S6b.out.setL1.bel⟩
       ·have r2:(l.shares == 0)=false:=by simp [k2]
        have hE:lvErr l=0:=by simp [lvErr,lvFit,e1,k1,k2,NE.symm,k3]
        have HG:Hd _:=⟨HNX.out hE⟩
        have HT0b:Hd (l0=anyL (L.take (k+1)) tExempt):=⟨by rw [HT0.out];simp [e1,NE.symm]⟩
        have HT1b:Hd (true=anyL (L.take (k+1)) tCatch):=⟨by rw [HT1.out];simp [e1]⟩
        have S6:Hd _:=⟨S5.out.setL1⟩
        clear hE HER HNX HT0 HT1 S5 NE e0 e1 k1 k2 k3 nmE
        go_wp2_with (fail)
        go_roundw
        case rel=>exact ⟨k+1,l0,true,HK.out,by go_num,⟨S6.out,HG.out,HT0b.out,HT1b.out⟩⟩
        case measure=>have:=HK.out;simp [intOf];omega
      ·rw [decide_eq_false e0] at p0
       rw [decide_eq_false e1] at p1
       have hE:lvErr l=0:=by simp [lvErr,lvFit,e0,e1,k3]
       have HG:Hd _:=⟨HNX.out hE⟩
       have HT0b:Hd (l0=anyL (L.take (k+1)) tExempt):=⟨by rw [HT0.out];simp [e0]⟩
       have HT1b:Hd (l1=anyL (L.take (k+1)) tCatch):=⟨by rw [HT1.out];simp [e1]⟩
       have S6:Hd _:=⟨S5.out⟩
       clear hE HER HNX HT0 HT1 S5 NE e0 e1 k3
       go_wp2_with (fail)
       go_roundw
       case rel=>exact ⟨k+1,l0,l1,HK.out,by go_num,⟨S6.out,HG.out,HT0b.out,HT1b.out⟩⟩
       case measure=>have:=HK.out;simp [intOf];omega
   ·obtain rfl:k=n:=by omega
    have FL:(firstL L).1=0:=by rw [hI.out.2.1,List.drop_eq_nil_of_le (by rw [←HN.out.1];exact Nat.le_refl _)];rfl
    have HL0:Hd (l0=anyL L tExempt∧l1=anyL L tCatch):=⟨by have:=hI.out.2.2.1;rwa [HN.out.1,List.take_length] at this,by have:=hI.out.2.2.2;rwa [HN.out.1,List.take_length] at this⟩
    have HQ3:Hd _:=⟨HQ2.out.2 FL⟩
    have S7:Hd (CkS w wr A G1 G2 #[.int .i64 x0,.int .i64 x1,.int .i64 x2,.int .i64 x3,.slice aL k cL,.slice aS m cS] l0 l1 false false):=⟨hI.out.1⟩
    clear hI FL HQ2
    go_wp2_with fail
    clear e4
    go_loopw [10,11,12,13,14,15,16] (fun i _ _ _ _ _ _ wr=>∃ (j:Nat) (s0 s1:Bool),j≤m∧i=.int .i64 j∧Hd (CkS w wr A G1 G2 #[.int .i64 x0,.int .i64 x1,.int .i64 x2,.int .i64 x3,.slice aL k cL,.slice aS m cS] l0 l1 s0 s1∧firstS L S=firstS L (S.drop j)∧s0=anyS (S.take j) tExempt∧s1=anyS (S.take j) tCatch)) (fun i _ _ _ _ _ _ _=>m - (intOf i).toNat)
    case atStart=>exact ⟨0,false,false,Nat.zero_le _,rfl,⟨S7.out,rfl,rfl,rfl⟩⟩
    case round =>
     obtain ⟨j,s0,s1,hj,rfl,hU⟩:=hrel
     clear S7
     have e5:=hU.out.1.bx.cellv (v:=.slice aS m cS) 5 rfl
     by_cases hlt:j<m
     ·have hjS:j<S.length:=by rw [←HN.out.2];exact hlt
      have hj1:j<V0.length:=by rw [HSV.out.1];exact hjS
      obtain ⟨hsc,hrl⟩:=HSV.out.2 wr hU.out.1.bel
      obtain ⟨b,off,rfl,hbl,Kc⟩:=hsc (by omega)
      have R1:=hrl j hjS hj1
      obtain ⟨ar,cr,er⟩:∃ a c,V0[j]=.slice a S[j].rules.length c:=by obtain ⟨a,c,e,_⟩:=R1;exact ⟨a,c,e⟩
      rw [er] at R1
      have u0:wr.cell? ⟨b,off+j*5,none⟩=some (.string S[j].name):=Kc j hjS hj1 0 (by decide)
      have u1:wr.cell? ⟨b,off+j*5+1,none⟩=some (.string S[j].level):=Kc j hjS hj1 1 (by decide)
      have u2:wr.cell? ⟨b,off+j*5+2,none⟩=some (.int .i64 S[j].rank):=Kc j hjS hj1 2 (by decide)
      have u3:wr.cell? ⟨b,off+j*5+3,none⟩=some (.int .i64 S[j].way):=Kc j hjS hj1 3 (by decide)
      have u4:wr.cell? ⟨b,off+j*5+4,none⟩=some (.slice ar S[j].rules.length cr):=(Kc j hjS hj1 4 (by decide)).trans (congrArg some er)
      have hz:=HNM2.out.2 j hjS
      have HER:Hd (scErr L S[j]≠0→Q=(scErr L S[j],scT S[j].name)):=⟨fun h=>by
       have e:=hU.out.2.1
       rw [firstS_cut hjS,if_neg h] at e
       rw [HQ3.out.1 (by rw [e];exact h),e]⟩
      have HNX:Hd (scErr L S[j]=0→firstS L S=firstS L (S.drop (j+1))):=⟨fun h=>by
       have e:=hU.out.2.1
       rw [firstS_cut hjS,if_pos h] at e
       exact e⟩
      have HT0:Hd (anyS (S.take (j+1)) tExempt=(s0 || decide (S[j].name=tExempt))):=⟨by rw [anyS_take hjS,← hU.out.2.2.1]⟩
      have HT1:Hd (anyS (S.take (j+1)) tCatch=(s1 || decide (S[j].name=tCatch))):=⟨by rw [anyS_take hjS,← hU.out.2.2.2]⟩
      have HJ:Hd (j<m):=⟨hlt⟩
      have AL5:=alloc_below wr (.cells #[.string S[j].name,.string S[j].level,.int .i64 S[j].rank,.int .i64 S[j].way,.slice ar S[j].rules.length cr] 47)
      have N5:=Blk.new wr 47 #[.string S[j].name,.string S[j].level,.int .i64 S[j].rank,.int .i64 S[j].way,.slice ar S[j].rules.length cr]
      have S5:Hd (CkS w (wr.alloc (.cells #[.string S[j].name,.string S[j].level,.int .i64 S[j].rank,.int .i64 S[j].way,.slice ar S[j].rules.length cr] 47)) A G1 G2 #[.int .i64 x0,.int .i64 x1,.int .i64 x2,.int .i64 x3,.slice aL k cL,.slice (some ⟨b,off,none⟩) m cS] l0 l1 s0 s1):=⟨hU.out.1.grown AL5⟩
      have HRR:Hd (∀ W,Below w.heap.size w W→RlR W (.slice ar S[j].rules.length cr) S[j].rules):=⟨fun W bb=>by have h9:=(HSV.out.2 W bb).2 j hjS hj1;rw [er] at h9;exact h9⟩
      clear hU Kc AL5 R1 er hsc hrl
      generalize S[j]=s at *
      clear hjS hj1
      go_upto_region 30 with fail
      clear u0 u1 u2 u3 u4 e5
      generalize wr.alloc (.cells #[.string s.name,.string s.level,.int .i64 s.rank,.int .i64 s.way,.slice ar s.rules.length cr] 47)=wk at *
      generalize wr.heap.size=g4 at *
      have S8:Hd (CkS w wk A G1 G2 #[.int .i64 x0,.int .i64 x1,.int .i64 x2,.int .i64 x3,.slice aL k cL,.slice (some ⟨b,off,none⟩) m cS] l0 l1 s0 s1∧Blk wk g4 47 #[.string s.name,.string s.level,.int .i64 s.rank,.int .i64 s.way,.slice ar s.rules.length cr]):=⟨S5.out,N5⟩
      clear S5 N5
      go_wp2_with fail
      go_loopw [12,13] (fun th q W=>∃ t:Nat,t≤k∧q=.int .i64 t∧th=.bool (anyL (L.take t) s.level)∧Hd ((∃ c,W=wk.drewN c)∧CkS w W A G1 G2 #[.int .i64 x0,.int .i64 x1,.int .i64 x2,.int .i64 x3,.slice aL k cL,.slice (some ⟨b,off,none⟩) m cS] l0 l1 s0 s1∧Blk W g4 47 #[.string s.name,.string s.level,.int .i64 s.rank,.int .i64 s.way,.slice ar s.rules.length cr])) (fun _ q _=>k - (intOf q).toNat)
      case atStart=>exact ⟨0,Nat.zero_le _,rfl,rfl,⟨⟨0,rfl⟩,S8.out.1,S8.out.2⟩⟩
      case round =>
       obtain ⟨t,ht,rfl,rfl,hW⟩:=hrel
       clear S8
       have e4:=hW.out.2.1.bx.cellv (v:=.slice aL k cL) 4 rfl
       have y1:=hW.out.2.2.cellv (v:=.string s.level) 1 rfl
       by_cases hlt2:t<k
       ·have htL:t<L.length:=by rw [←HN.out.1];exact hlt2
        obtain ⟨bL,oL,rfl,hbL,KL⟩:=HLV.out _ hW.out.2.1.bel (by omega)
        have lv0:wr.cell? ⟨bL,oL+t*10,none⟩=some (.string L[t].name):=KL t htL 0 (by decide)
        have HTK:Hd (anyL (L.take (t+1)) s.level=(anyL (L.take t) s.level || decide (L[t].name=s.level))):=⟨anyL_take htL _⟩
        have nq:=name_eq L[t].name s.level
        have HT:Hd (t<k):=⟨hlt2⟩
        have HWG:Hd (∀ q,(∃ c,wr.drewN q=wk.drewN c)∧CkS w (wr.drewN q) A G1 G2 #[.int .i64 x0,.int .i64 x1,.int .i64 x2,.int .i64 x3,.slice (some ⟨bL,oL,none⟩) k cL,.slice (some ⟨b,off,none⟩) m cS] l0 l1 s0 s1∧Blk (wr.drewN q) g4 47 #[.string s.name,.string s.level,.int .i64 s.rank,.int .i64 s.way,.slice ar s.rules.length cr]):=⟨fun q=>⟨by obtain ⟨c,rfl⟩:=hW.out.1;exact ⟨c+q,by rw [World.drewN_drewN]⟩,hW.out.2.1.grown (below_drew _ _),hW.out.2.2.kept (Kept.of_below (below_drew _ _) (fun _=>False)) id⟩⟩
        clear hW KL
        generalize anyL (L.take t) s.level=th at *
        generalize L[t].name=nm at *
        generalize decide (nm=s.level)=dd at *
        clear htL
        cases th with
        | true =>
         go_wp2_with fail
         go_big_quiet (fail)
         go_wp2
         go_roundw
         case rel=>exact ⟨t+1,HT.out,by go_num,by rw [HTK.out];rfl,⟨HWG.out _⟩⟩
         case measure=>have:=HT.out;simp [intOf];omega
        | false =>
         rw [Bool.false_or] at HTK
         go_wp2_with fail
         go_big_quiet (fail)
         go_wp2
         go_roundw
         case rel=>exact ⟨t+1,HT.out,by go_num,by rw [HTK.out],⟨HWG.out _⟩⟩
         case measure=>have:=HT.out;simp [intOf];omega
       ·obtain rfl:t=k:=by omega
        have HTH:Hd (anyL (L.take t) s.level=anyL L s.level):=⟨by rw [HN.out.1,List.take_length]⟩
        have HSL:Hd _:=HTH
        rw [HTH.out]
        have S9:Hd (CkS w wr A G1 G2 #[.int .i64 x0,.int .i64 x1,.int .i64 x2,.int .i64 x3,.slice aL t cL,.slice (some ⟨b,off,none⟩) m cS] l0 l1 s0 s1):=⟨hW.out.2.1⟩
        have N9:=hW.out.2.2
        have HB9:Hd (Below wk.heap.size wk wr):=⟨by obtain ⟨c,rfl⟩:=hW.out.1;exact below_drew _ _⟩
        clear hW HTH y1
        have y0:=N9.cellv (v:=.string s.name) 0 rfl
        have y1:=N9.cellv (v:=.string s.level) 1 rfl
        have y2:=N9.cellv (v:=.int .i64 s.rank) 2 rfl
        have y4:=N9.cellv (v:=.slice ar s.rules.length cr) 4 rfl
        have t0:=S9.out.b2.cellv (v:=.bool s0) 0 rfl
        have t1:=S9.out.b2.cellv (v:=.bool s1) 1 rfl
        have f0:=S9.out.b2.frozen 0
        have f1:=S9.out.b2.frozen 1
        have p0:(s.name.toList == [101,120,101,109,112,116])=decide (s.name=tExempt):=by
         have:=name_eq s.name tExempt
         rw [ByteArray.toList_eq tExempt] at this
         exact this
        have p1:(s.name.toList == [99,97,116,99,104,45,97,108,108])=decide (s.name=tCatch):=by
         have:=name_eq s.name tCatch
         rw [ByteArray.toList_eq tCatch] at this
         exact this
        have p2:(s.level.toList == [101,120,101,109,112,116])=decide (s.level=tExempt):=by
         have:=name_eq s.level tExempt
         rw [ByteArray.toList_eq tExempt] at this
         exact this
        have p3:(s.level.toList == [99,97,116,99,104,45,97,108,108])=decide (s.level=tCatch):=by
         have:=name_eq s.level tCatch
         rw [ByteArray.toList_eq tCatch] at this
         exact this
        have NE:tExempt≠tCatch:=by decide
        have M0:Blk (wr.setCell ⟨G2,0,none⟩ (.bool true)) g4 47 _:=N9.kept ((Kept.refl (fun q=>q=G2) wr).setCell ⟨G2,0,none⟩ (.bool true) (.inl rfl)) (N9.ne S9.out.b2 (by decide))
        have M1:Blk (wr.setCell ⟨G2,1,none⟩ (.bool true)) g4 47 _:=N9.kept ((Kept.refl (fun q=>q=G2) wr).setCell ⟨G2,1,none⟩ (.bool true) (.inl rfl)) (N9.ne S9.out.b2 (by decide))
        have m00:=M0.cellv (v:=.string s.name) 0 rfl
        have m01:=M0.cellv (v:=.string s.level) 1 rfl
        have m02:=M0.cellv (v:=.int .i64 s.rank) 2 rfl
        have HM1:Hd _:=⟨M1⟩
        clear M0 M1 N9
        cases hth:anyL L s.level with
        | false =>
         have hE:scErr L s=6:=by simp [scErr,hth]
         have HQ9:Hd (Q=(6,scT s.name)):=⟨by rw [HER.out (by rw [hE];decide),hE]⟩
         clear hE HER HNX HT0 HT1 NE hth HSL
         go_wp2_with fail
         go_quiet (fail)
         go_wp2
         go_ret2
         exact ⟨by rw [HQ9.out];rfl,S9.out.bel.trans ⟨rfl,rfl,rfl,Nat.le_refl _,fun _ _=>rfl⟩⟩
        | true =>
         by_cases e0:s.name=tExempt
         ·have e1:¬ s.name=tCatch:=fun h=>NE (e0.symm.trans h)
          rw [decide_eq_true e0] at p0
          rw [decide_eq_false e1] at p1
          by_cases k1:s.level=tExempt
          ·rw [decide_eq_true k1] at p2
           by_cases k2:s.rank=1
           ·have r2:(s.rank != 1)=false:=by simp [k2]
            have hE:scErr L s=0:=by unfold scErr;rw [hth];simp [scFit,e0,k1,k2]
            have HG:Hd _:=⟨HNX.out hE⟩
            have HT0b:Hd (true=anyS (S.take (j+1)) tExempt):=⟨by rw [HT0.out];simp [e0]⟩
            have HT1b:Hd (s1=anyS (S.take (j+1)) tCatch):=⟨by rw [HT1.out];simp [e1]⟩
            have S6:Hd _:=⟨S9.out.setS0⟩
            clear hE HER HNX HT0 HT1 NE hth e0 e1 k1 k2 HSL p3
            go_wp2_with fail
            go_roundw
            case rel=>exact ⟨j+1,true,s1,HJ.out,by go_num,⟨S6.out,HG.out,HT0b.out,HT1b.out⟩⟩
            case measure=>have:=HJ.out;simp [intOf];omega
           ·have r2:(s.rank != 1)=true:=by simp [k2]
            have hE:scErr L s=11:=by unfold scErr;rw [hth];simp [scFit,e0,k1,k2]
            have HQ9:Hd (Q=(11,scT tExempt)):=⟨by rw [HER.out (by rw [hE];decide),hE,e0]⟩
            clear hE HER HNX HT0 HT1 NE hth e0 e1 k1 k2 HSL p3
            go_wp2_with fail
            go_ret2
            exact ⟨by rw [HQ9.out];rfl,S9.out.setS0.bel⟩
          ·rw [decide_eq_false k1] at p2
           have hE:scErr L s=11:=by unfold scErr;rw [hth];simp [scFit,e0,k1]
           have HQ9:Hd (Q=(11,scT tExempt)):=⟨by rw [HER.out (by rw [hE];decide),hE,e0]⟩
           clear hE HER HNX HT0 HT1 NE hth e0 e1 k1 HSL p3
           go_wp2_with fail
           go_ret2
           exact ⟨by rw [HQ9.out];rfl,S9.out.setS0.bel⟩
         ·rw [decide_eq_false e0] at p0
          by_cases e1:s.name=tCatch
          ·rw [decide_eq_true e1] at p1
           have S6:Hd (CkS w (wr.setCell ⟨G2,1,none⟩ (.bool true)) A G1 G2 #[.int .i64 x0,.int .i64 x1,.int .i64 x2,.int .i64 x3,.slice aL t cL,.slice (some ⟨b,off,none⟩) m cS] l0 l1 s0 true∧Blk (wr.setCell ⟨G2,1,none⟩ (.bool true)) g4 47 #[.string s.name,.string s.level,.int .i64 s.rank,.int .i64 s.way,.slice ar s.rules.length cr]):=⟨S9.out.setS1,HM1.out⟩
           have HEF:Hd (∀ ab:Bool,s.rules.any rlAll=ab→scErr L s=if (decide (s.level=tCatch) && (s.rank == 10000 && ab))=true then 0 else 11):=⟨fun ab h=>by unfold scErr;rw [hth];simp [scFit,e1,NE.symm,h]⟩
           have HT0b:Hd (s0=anyS (S.take (j+1)) tExempt):=⟨by rw [HT0.out];simp [e0]⟩
           have HT1b:Hd (true=anyS (S.take (j+1)) tCatch):=⟨by rw [HT1.out];simp [e1]⟩
           have HE1:Hd (s.name=tCatch):=⟨e1⟩
           clear e0 e1 hth HSL NE HT0 HT1 p2 S9 HM1
           go_upto_region 43 with fail
           clear y0 y1 y2 y4 t0 t1 f0 f1 m00 m01 m02 p0 p1 HB9
           generalize wr.setCell ⟨G2,1,none⟩ (.bool true)=wm at *
           go_wp2_with fail
           go_loopw [14,15,16] (fun al q _ W=>∃ u:Nat,u≤s.rules.length∧q=.int .i64 u∧al=.bool ((s.rules.take u).any rlAll)∧Hd (CkS w W A G1 G2 #[.int .i64 x0,.int .i64 x1,.int .i64 x2,.int .i64 x3,.slice aL t cL,.slice (some ⟨b,off,none⟩) m cS] l0 l1 s0 true∧Blk W g4 47 #[.string s.name,.string s.level,.int .i64 s.rank,.int .i64 s.way,.slice ar s.rules.length cr])) (fun _ q _ _=>s.rules.length - (intOf q).toNat)
           case atStart=>exact ⟨0,Nat.zero_le _,rfl,rfl,⟨S6.out.1,S6.out.2⟩⟩
           case round =>
            obtain ⟨u,hu,rfl,rfl,hY⟩:=hrel
            clear S6
            have y4:=hY.out.2.cellv (v:=.slice ar s.rules.length cr) 4 rfl
            by_cases hlt3:u<s.rules.length
            ·obtain ⟨a',c',e',hl',R⟩:=HRR.out wr hY.out.1.bel
             obtain ⟨rfl,rfl⟩:ar=a'∧cr=c':=by injection e' with h1 _ h3;exact ⟨h1,h3⟩
             obtain ⟨b3,o3,rfl,hb3,K3⟩:=R (by omega)
             obtain ⟨v0,v1,v2,v3,v4,⟨w0,w1,w2,w3,w4⟩,d0,d1,d2,d3,d4⟩:=K3 u hlt3
             obtain ⟨a0,m0,k0,rfl⟩:∃ a m c,v0=.slice a m c:=by obtain ⟨a,c,e,_⟩:=d0;exact ⟨a,_,c,e⟩
             obtain ⟨a1,m1,k1,rfl⟩:∃ a m c,v1=.slice a m c:=by obtain ⟨a,c,e,_⟩:=d1;exact ⟨a,_,c,e⟩
             obtain ⟨a2,m2,k2,rfl⟩:∃ a m c,v2=.slice a m c:=by obtain ⟨a,c,e,_⟩:=d2;exact ⟨a,_,c,e⟩
             obtain ⟨a3,m3,k3,rfl⟩:∃ a m c,v3=.slice a m c:=by obtain ⟨a,c,e,_⟩:=d3;exact ⟨a,_,c,e⟩
             obtain ⟨a4,m4,k4,rfl⟩:∃ a m c,v4=.slice a m c:=by obtain ⟨a,c,e,_⟩:=d4;exact ⟨a,_,c,e⟩
             have AL6:=alloc_below wr (.cells #[.slice a0 m0 k0,.slice a1 m1 k1,.slice a2 m2 k2,.slice a3 m3 k3,.slice a4 m4 k4] 54)
             have NR:=Blk.new wr 54 #[.slice a0 m0 k0,.slice a1 m1 k1,.slice a2 m2 k2,.slice a3 m3 k3,.slice a4 m4 k4]
             have C0:=rstar_ok _ _ _ (d0.carry AL6)
             have C2:=rstar_ok _ _ _ (d2.carry AL6)
             have C3:=rstar_ok _ _ _ (d3.carry AL6)
             have C4:=rstar_ok _ _ _ (d4.carry AL6)
             have HYN:Hd (CkS w (wr.alloc (.cells #[.slice a0 m0 k0,.slice a1 m1 k1,.slice a2 m2 k2,.slice a3 m3 k3,.slice a4 m4 k4] 54)) A G1 G2 #[.int .i64 x0,.int .i64 x1,.int .i64 x2,.int .i64 x3,.slice aL t cL,.slice (some ⟨b,off,none⟩) m cS] l0 l1 s0 true∧Blk (wr.alloc (.cells #[.slice a0 m0 k0,.slice a1 m1 k1,.slice a2 m2 k2,.slice a3 m3 k3,.slice a4 m4 k4] 54)) g4 47 #[.string s.name,.string s.level,.int .i64 s.rank,.int .i64 s.way,.slice (some ⟨b3,o3,none⟩) s.rules.length cr]):=⟨⟨hY.out.1.grown AL6,hY.out.2.kept (Kept.of_below AL6 (fun _=>False)) id⟩⟩
             have HAK:Hd ((s.rules.take (u+1)).any rlAll=((s.rules.take u).any rlAll || (isStar s.rules[u].users && (isStar s.rules[u].verbs && (isStar s.rules[u].resources && isStar s.rules[u].spaces))))):=⟨anyR_take hlt3⟩
             have HU3:Hd (u<s.rules.length):=⟨hlt3⟩
             clear hY R K3 d0 d1 d2 d3 d4 AL6 e'
             generalize isStar s.rules[u].users=i0 at *
             generalize isStar s.rules[u].verbs=i2 at *
             generalize isStar s.rules[u].resources=i3 at *
             generalize isStar s.rules[u].spaces=i4 at *
             generalize (s.rules.take u).any rlAll=al at *
             go_upto_region 48 with fail
             clear w0 w1 w2 w3 w4 y4
             generalize wr.alloc (.cells #[.slice a0 m0 k0,.slice a1 m1 k1,.slice a2 m2 k2,.slice a3 m3 k3,.slice a4 m4 k4] 54)=wn at *
             generalize wr.heap.size=g6 at *
             have c0:=NR.cellv (v:=.slice a0 m0 k0) 0 rfl
             have c2:=NR.cellv (v:=.slice a2 m2 k2) 2 rfl
             have c3:=NR.cellv (v:=.slice a3 m3 k3) 3 rfl
             have c4:=NR.cellv (v:=.slice a4 m4 k4) 4 rfl
             clear NR
             cases al with
             | true =>
              go_wp2_with (first | (go_at_call 65;with_reducible refine C0.mono ?_;rintro e w5 ⟨rfl,rfl⟩) | (go_at_call 65;with_reducible refine C2.mono ?_;rintro e w5 ⟨rfl,rfl⟩) | (go_at_call 65;with_reducible refine C3.mono ?_;rintro e w5 ⟨rfl,rfl⟩) | (go_at_call 65;with_reducible refine C4.mono ?_;rintro e w5 ⟨rfl,rfl⟩))
              go_roundw
              case rel=>exact ⟨u+1,HU3.out,by go_num,by rw [HAK.out];rfl,⟨HYN.out⟩⟩
              case measure=>have:=HU3.out;simp [intOf];omega
             | false =>
              cases i0 with
              | false =>
               go_wp2_with (first | (go_at_call 65;with_reducible refine C0.mono ?_;rintro e w5 ⟨rfl,rfl⟩) | (go_at_call 65;with_reducible refine C2.mono ?_;rintro e w5 ⟨rfl,rfl⟩) | (go_at_call 65;with_reducible refine C3.mono ?_;rintro e w5 ⟨rfl,rfl⟩) | (go_at_call 65;with_reducible refine C4.mono ?_;rintro e w5 ⟨rfl,rfl⟩))
               go_roundw
               case rel=>exact ⟨u+1,HU3.out,by go_num,by rw [HAK.out];rfl,⟨HYN.out⟩⟩
               case measure=>have:=HU3.out;simp [intOf];omega
              | true =>
               cases i2 with
               | false =>
                go_wp2_with (first | (go_at_call 65;with_reducible refine C0.mono ?_;rintro e w5 ⟨rfl,rfl⟩) | (go_at_call 65;with_reducible refine C2.mono ?_;rintro e w5 ⟨rfl,rfl⟩) | (go_at_call 65;with_reducible refine C3.mono ?_;rintro e w5 ⟨rfl,rfl⟩) | (go_at_call 65;with_reducible refine C4.mono ?_;rintro e w5 ⟨rfl,rfl⟩))
                go_roundw
                case rel=>exact ⟨u+1,HU3.out,by go_num,by rw [HAK.out];rfl,⟨HYN.out⟩⟩
                case measure=>have:=HU3.out;simp [intOf];omega
               | true =>
                cases i3 with
                | false =>
                 go_wp2_with (first | (go_at_call 65;with_reducible refine C0.mono ?_;rintro e w5 ⟨rfl,rfl⟩) | (go_at_call 65;with_reducible refine C2.mono ?_;rintro e w5 ⟨rfl,rfl⟩) | (go_at_call 65;with_reducible refine C3.mono ?_;rintro e w5 ⟨rfl,rfl⟩) | (go_at_call 65;with_reducible refine C4.mono ?_;rintro e w5 ⟨rfl,rfl⟩))
                 go_roundw
                 case rel=>exact ⟨u+1,HU3.out,by go_num,by rw [HAK.out];rfl,⟨HYN.out⟩⟩
                 case measure=>have:=HU3.out;simp [intOf];omega
                | true =>
                 cases i4 with
                 | false =>
                  go_wp2_with (first | (go_at_call 65;with_reducible refine C0.mono ?_;rintro e w5 ⟨rfl,rfl⟩) | (go_at_call 65;with_reducible refine C2.mono ?_;rintro e w5 ⟨rfl,rfl⟩) | (go_at_call 65;with_reducible refine C3.mono ?_;rintro e w5 ⟨rfl,rfl⟩) | (go_at_call 65;with_reducible refine C4.mono ?_;rintro e w5 ⟨rfl,rfl⟩))
                  go_roundw
                  case rel=>exact ⟨u+1,HU3.out,by go_num,by rw [HAK.out];rfl,⟨HYN.out⟩⟩
                  case measure=>have:=HU3.out;simp [intOf];omega
                 | true =>
                  go_wp2_with (first | (go_at_call 65;with_reducible refine C0.mono ?_;rintro e w5 ⟨rfl,rfl⟩) | (go_at_call 65;with_reducible refine C2.mono ?_;rintro e w5 ⟨rfl,rfl⟩) | (go_at_call 65;with_reducible refine C3.mono ?_;rintro e w5 ⟨rfl,rfl⟩) | (go_at_call 65;with_reducible refine C4.mono ?_;rintro e w5 ⟨rfl,rfl⟩))
                  go_roundw
                  case rel=>exact ⟨u+1,HU3.out,by go_num,by rw [HAK.out];rfl,⟨HYN.out⟩⟩
                  case measure=>have:=HU3.out;simp [intOf];omega
            ·have hue:u=s.rules.length:=by omega
             have HAB:Hd ((s.rules.take u).any rlAll=s.rules.any rlAll):=⟨by rw [hue,List.take_length]⟩
             rw [HAB.out]
             have HX:=HEF.out _ rfl
             have S11:Hd (CkS w wr A G1 G2 #[.int .i64 x0,.int .i64 x1,.int .i64 x2,.int .i64 x3,.slice aL t cL,.slice (some ⟨b,off,none⟩) m cS] l0 l1 s0 true):=⟨hY.out.1⟩
             have y1:=hY.out.2.cellv (v:=.string s.level) 1 rfl
             have y2:=hY.out.2.cellv (v:=.int .i64 s.rank) 2 rfl
             clear hY HEF HAB HRR
             generalize s.rules.any rlAll=ab at *
             rw [←hue] at y4
             rw [←hue] at hlt3
             have hult:¬ u<u:=hlt3
             clear hlt3 hue hu
             by_cases k1:s.level=tCatch
             ·rw [decide_eq_true k1] at p3
              by_cases k2:s.rank=10000
              ·have r2:(s.rank != 10000)=false:=by simp [k2]
               cases ab with
               | true =>
                have hE:scErr L s=0:=by rw [HX];simp [k1,k2]
                have HG:Hd _:=⟨HNX.out hE⟩
                clear hE HER HNX HX k1 k2
                go_wp2_with fail
                go_roundw
                case rel=>exact ⟨j+1,s0,true,HJ.out,by go_num,⟨S11.out,HG.out,HT0b.out,HT1b.out⟩⟩
                case measure=>have:=HJ.out;simp [intOf];omega
               | false =>
                have hE:scErr L s=11:=by rw [HX];simp [k1,k2]
                have HQ9:Hd (Q=(11,scT tCatch)):=⟨by rw [HER.out (by rw [hE];decide),hE,HE1.out]⟩
                clear hE HER HNX HX k1 k2
                go_wp2_with fail
                go_ret2
                exact ⟨by rw [HQ9.out];rfl,S11.out.bel⟩
              ·have r2:(s.rank != 10000)=true:=by simp [k2]
               have hE:scErr L s=11:=by rw [HX];simp [k1,k2]
               have HQ9:Hd (Q=(11,scT tCatch)):=⟨by rw [HER.out (by rw [hE];decide),hE,HE1.out]⟩
               clear hE HER HNX HX k1 k2
               go_wp2_with fail
               go_ret2
               exact ⟨by rw [HQ9.out];rfl,S11.out.bel⟩
             ·rw [decide_eq_false k1] at p3
              have hE:scErr L s=11:=by rw [HX];simp [k1]
              have HQ9:Hd (Q=(11,scT tCatch)):=⟨by rw [HER.out (by rw [hE];decide),hE,HE1.out]⟩
              clear hE HER HNX HX k1
              go_wp2_with fail
              go_ret2
              exact ⟨by rw [HQ9.out];rfl,S11.out.bel⟩
          ·rw [decide_eq_false e1] at p1
           have hE:scErr L s=0:=by simp [scErr,scFit,hth,e0,e1]
           have HG:Hd _:=⟨HNX.out hE⟩
           have HT0b:Hd (s0=anyS (S.take (j+1)) tExempt):=⟨by rw [HT0.out];simp [e0]⟩
           have HT1b:Hd (s1=anyS (S.take (j+1)) tCatch):=⟨by rw [HT1.out];simp [e1]⟩
           clear hE HER HNX HT0 HT1 NE hth e0 e1 HSL p3
           go_wp2_with fail
           go_roundw
           case rel=>exact ⟨j+1,s0,s1,HJ.out,by go_num,⟨S9.out,HG.out,HT0b.out,HT1b.out⟩⟩
           case measure=>have:=HJ.out;simp [intOf];omega
     ·obtain rfl:j=m:=by omega
      have FS:(firstS L S).1=0:=by rw [hU.out.2.1,List.drop_eq_nil_of_le (by rw [←HN.out.2];exact Nat.le_refl _)];rfl
      have HS0:s0=anyS S tExempt∧s1=anyS S tCatch:=⟨by have:=hU.out.2.2.1;rwa [HN.out.2,List.take_length] at this,by have:=hU.out.2.2.2;rwa [HN.out.2,List.take_length] at this⟩
      have HQ4:=HQ3.out.2 FS
      have hlp:=HLP.out
      rw [←HL0.out.1,← HL0.out.2,← HS0.1,← HS0.2] at hlp
      have HQ5:Hd (Q=if l0 then if l1 then if s0 then if s1 then (0,⟨#[]⟩) else (12,scT tCatch) else (12,scT tExempt) else (12,lvT tCatch) else (12,lvT tExempt)):=⟨by
       rw [HQ4,hlp]
       cases l0 <;> cases l1 <;> cases s0 <;> cases s1 <;> simp [lvT_ne,scT_ne]⟩
      have AL7:=alloc_below wr (.cells #[.string ⟨#[101,120,101,109,112,116]⟩,.string ⟨#[99,97,116,99,104,45,97,108,108]⟩] 102)
      have N7:=Blk.new wr 102 #[.string ⟨#[101,120,101,109,112,116]⟩,.string ⟨#[99,97,116,99,104,45,97,108,108]⟩]
      have S12:Hd (CkS w (wr.alloc (.cells #[.string ⟨#[101,120,101,109,112,116]⟩,.string ⟨#[99,97,116,99,104,45,97,108,108]⟩] 102)) A G1 G2 #[.int .i64 x0,.int .i64 x1,.int .i64 x2,.int .i64 x3,.slice aL k cL,.slice aS j cS] l0 l1 s0 s1):=⟨hU.out.1.grown AL7⟩
      clear HQ4 hlp HS0 FS hU AL7 HQ3 HLP HL0 HSV HLV HNM2
      go_upto_region 52 with fail
      generalize wr.alloc (.cells #[.string ⟨#[101,120,101,109,112,116]⟩,.string ⟨#[99,97,116,99,104,45,97,108,108]⟩] 102)=wz at *
      generalize wr.heap.size=g7 at *
      have HZ:Hd (CkS w wz A G1 G2 #[.int .i64 x0,.int .i64 x1,.int .i64 x2,.int .i64 x3,.slice aL k cL,.slice aS j cS] l0 l1 s0 s1∧Blk wz g7 102 #[.string ⟨#[101,120,101,109,112,116]⟩,.string ⟨#[99,97,116,99,104,45,97,108,108]⟩]):=⟨S12.out,N7⟩
      clear S12 N7 e5
      have hz6:(⟨#[101,120,101,109,112,116]⟩:ByteArray).size≤1000:=by decide
      have hz9:(⟨#[99,97,116,99,104,45,97,108,108]⟩:ByteArray).size≤1000:=by decide
      go_wp2_with fail
      go_loopw [18] (fun i W=>∃ q:Nat,q≤2∧i=.int .i64 q∧Hd ((0<q→l0=true)∧(1<q→l1=true)∧CkS w W A G1 G2 #[.int .i64 x0,.int .i64 x1,.int .i64 x2,.int .i64 x3,.slice aL k cL,.slice aS j cS] l0 l1 s0 s1∧Blk W g7 102 #[.string ⟨#[101,120,101,109,112,116]⟩,.string ⟨#[99,97,116,99,104,45,97,108,108]⟩])) (fun i _=>2 - (intOf i).toNat)
      case atStart=>exact ⟨0,Nat.zero_le _,rfl,⟨fun h=>absurd h (Nat.not_lt_zero _),fun h=>absurd h (Nat.not_lt_zero _),HZ.out.1,HZ.out.2⟩⟩
      case round =>
       obtain ⟨q,hq,rfl,hH⟩:=hrel
       clear HZ
       have c0:=hH.out.2.2.1.b1.cellv (v:=.bool l0) 0 rfl
       have c1:=hH.out.2.2.1.b1.cellv (v:=.bool l1) 1 rfl
       have n0:=hH.out.2.2.2.cellv (v:=.string ⟨#[101,120,101,109,112,116]⟩) 0 rfl
       have n1:=hH.out.2.2.2.cellv (v:=.string ⟨#[99,97,116,99,104,45,97,108,108]⟩) 1 rfl
       have HBZ:Hd (Below w.heap.size w wr):=⟨hH.out.2.2.1.bel⟩
       match q,hq with
       | 0,_ =>
        cases l0 with
        | false =>
         have HQ9:Hd (Q=(12,lvT tExempt)):=⟨by rw [HQ5.out];rfl⟩
         clear HQ5
         go_wp2_with fail
         go_quiet (fail)
         go_wp2
         go_ret2
         exact ⟨by rw [HQ9.out];rfl,HBZ.out.trans ⟨rfl,rfl,rfl,Nat.le_refl _,fun _ _=>rfl⟩⟩
        | true =>
         go_wp2_with fail
         go_roundw
         case rel=>exact ⟨1,by omega,by go_num,⟨fun _=>(by first | rfl | trivial),fun h=>absurd h (by omega),hH.out.2.2.1,hH.out.2.2.2⟩⟩
         case measure=>simp [intOf]
       | 1,_ =>
        obtain rfl:=hH.out.1 (by omega)
        cases l1 with
        | false =>
         have HQ9:Hd (Q=(12,lvT tCatch)):=⟨by rw [HQ5.out];rfl⟩
         clear HQ5
         go_wp2_with fail
         go_quiet (fail)
         go_wp2
         go_ret2
         exact ⟨by rw [HQ9.out];rfl,HBZ.out.trans ⟨rfl,rfl,rfl,Nat.le_refl _,fun _ _=>rfl⟩⟩
        | true =>
         go_wp2_with fail
         go_roundw
         case rel=>exact ⟨2,by omega,by go_num,⟨fun _=>(by first | rfl | trivial),fun _=>(by first | rfl | trivial),hH.out.2.2.1,hH.out.2.2.2⟩⟩
         case measure=>simp [intOf]
       | 2,_ =>
        obtain rfl:=hH.out.1 (by omega)
        obtain rfl:=hH.out.2.1 (by omega)
        have HZ:Hd _:=⟨hH.out.2.2⟩
        clear hH c0 c1 n0 n1
        go_wp2_with fail
        go_loopw [19] (fun i W=>∃ q:Nat,q≤2∧i=.int .i64 q∧Hd ((0<q→s0=true)∧(1<q→s1=true)∧CkS w W A G1 G2 #[.int .i64 x0,.int .i64 x1,.int .i64 x2,.int .i64 x3,.slice aL k cL,.slice aS j cS] true true s0 s1∧Blk W g7 102 #[.string ⟨#[101,120,101,109,112,116]⟩,.string ⟨#[99,97,116,99,104,45,97,108,108]⟩])) (fun i _=>2 - (intOf i).toNat)
        case atStart=>exact ⟨0,Nat.zero_le _,rfl,⟨fun h=>absurd h (Nat.not_lt_zero _),fun h=>absurd h (Nat.not_lt_zero _),HZ.out.1,HZ.out.2⟩⟩
        case round =>
         obtain ⟨q,hq,rfl,hH⟩:=hrel
         clear HZ
         have c0:=hH.out.2.2.1.b2.cellv (v:=.bool s0) 0 rfl
         have c1:=hH.out.2.2.1.b2.cellv (v:=.bool s1) 1 rfl
         have n0:=hH.out.2.2.2.cellv (v:=.string ⟨#[101,120,101,109,112,116]⟩) 0 rfl
         have n1:=hH.out.2.2.2.cellv (v:=.string ⟨#[99,97,116,99,104,45,97,108,108]⟩) 1 rfl
         have HBZ:Hd (Below w.heap.size w wr):=⟨hH.out.2.2.1.bel⟩
         match q,hq with
         | 0,_ =>
          cases s0 with
          | false =>
           have HQ9:Hd (Q=(12,scT tExempt)):=⟨by rw [HQ5.out];rfl⟩
           clear HQ5
           go_wp2_with fail
           go_quiet (fail)
           go_wp2
           go_ret2
           exact ⟨by rw [HQ9.out];rfl,HBZ.out.trans ⟨rfl,rfl,rfl,Nat.le_refl _,fun _ _=>rfl⟩⟩
          | true =>
           go_wp2_with fail
           go_roundw
           case rel=>exact ⟨1,by omega,by go_num,⟨fun _=>(by first | rfl | trivial),fun h=>absurd h (by omega),hH.out.2.2.1,hH.out.2.2.2⟩⟩
           case measure=>simp [intOf]
         | 1,_ =>
          obtain rfl:=hH.out.1 (by omega)
          cases s1 with
          | false =>
           have HQ9:Hd (Q=(12,scT tCatch)):=⟨by rw [HQ5.out];rfl⟩
           clear HQ5
           go_wp2_with fail
           go_quiet (fail)
           go_wp2
           go_ret2
           exact ⟨by rw [HQ9.out];rfl,HBZ.out.trans ⟨rfl,rfl,rfl,Nat.le_refl _,fun _ _=>rfl⟩⟩
          | true =>
           go_wp2_with fail
           go_roundw
           case rel=>exact ⟨2,by omega,by go_num,⟨fun _=>(by first | rfl | trivial),fun _=>(by first | rfl | trivial),hH.out.2.2.1,hH.out.2.2.2⟩⟩
           case measure=>simp [intOf]
         | 2,_ =>
          obtain rfl:=hH.out.1 (by omega)
          obtain rfl:=hH.out.2.1 (by omega)
          have HQ9:Hd (Q=(0,⟨#[]⟩)):=⟨by rw [HQ5.out];rfl⟩
          clear HQ5 hH c0 c1 n0 n1
          go_wp2_with fail
          go_ret2
          exact ⟨by rw [HQ9.out];rfl,HBZ.out⟩
end Go.Proofs.YthkdbphgiobcdaaGreatDoor
