/-
  Who has waited too long waits no more, by the reference.
  Two states that are the same, by the reference.
  A first look at a program.
-/
import Derived.Test.YtlgibnmoogbdcaaGreatR42
import Derived.Test.YtlgibnmoogbdcaaGreatR37
import Derived.Test.YtlgibnmoogbdcaaGreatR19
namespace Go.Proofs.YtlgibnmoogbdcaaGreat
open Go.RowKit
set_option maxRecDepth 20000 in
set_option maxHeartbeats 4000000 in
theorem rlate_st (s:St) (now:Int) (ax:Option Addr) (cx:Nat) (ar:Option Addr) (cr:Nat) (w:World) (S:Nat→Prop) (hx:StR S w ax cx s.x.F) (hr:SlR w ar cr s.run) (hS:∀ j,S j→j<w.heap.size) (hf:Few s.x.F) (hl:s.run.length≤1990) (hw:(flt s.x.F).length≤1800) :
  Calls Tryz.prog 20 #[.agg (stB s (.slice ax s.x.F.length cx) (.slice ar s.run.length cr)),.int .i64 now] w fun e w'=>(∃ v u,e=.returned (.tuple #[v,u])∧StV S w' (ltX now s) v∧∃ a c,u=.slice a (srt (ltA now s.x.F)).length c∧TkS S w' a c (srt (ltA now s.x.F)))∧Below w.heap.size w w':=by
 obtain ⟨i0,hi,hz0,hz1,hz2⟩:=info_parts Tryz.info36
 obtain ⟨w2,hw2⟩:∃ w2,w2=((w.alloc (.cells (stB s (.slice ax s.x.F.length cx) (.slice ar s.run.length cr)) 34)).alloc (.cells zsT 34)):=⟨_,rfl⟩
 have BX:=boxes w 34 34 (stB s (.slice ax s.x.F.length cx) (.slice ar s.run.length cr)) zsT
 rw [←hw2] at BX
 obtain ⟨B,N1,N2⟩:=BX
 have hs2:w2.heap.size=w.heap.size+2:=by rw [hw2];simp
 obtain ⟨A,hA⟩:∃ A,A=w.heap.size:=⟨_,rfl⟩
 have HA:Hd (A=w.heap.size):=⟨hA⟩
 rw [←hA] at B N1 N2 hs2
 have HSZ:Hd (∀ j,S j→j<A):=⟨fun j e=>by rw [hA];exact hS j e⟩
 have hBw:Below w.heap.size w w2:=by rw [←hA];exact B
 have CP:=scopyr_ok s ax cx ar cr w2 ((hx.read (Kept.refl _ _)).carry hBw) hf (hr.carry hBw) (by omega)
 have HF:Hd (Few s.x.F∧(flt s.x.F).length≤1800):=⟨hf,hw⟩
 have HB:=Hd.mk (And.intro B (And.intro hs2 (And.intro N1 N2)))
 clear N1 N2 B hx hr hf hs2 hS hBw hl hw
 go_enter Tryz.func20,Tryz.ntmps20
 go_upto_region 1 with fail
 rw [←hw2]
 clear hw2
 rw [←hA]
 clear hA
 go_wp2_with (refine wpl_loadSt rfl _ rfl A rfl _ HB.out.2.2.1 rfl ?_)
 go_at_call 6
 refine CP.mono ?_
 rintro e w3 ⟨⟨v3,u3,rfl,o3⟩,b3⟩
 obtain ⟨B2,hB2,⟨a3,c3,rfl,-⟩,oR⟩:=id o3.ex
 obtain ⟨ar3,cr3,rfl,-⟩:=oR.read
 rw [HB.out.2.1] at o3
 obtain ⟨w5,hw5⟩:∃ w5,w5=w3.alloc (.cells zsT 34):=⟨_,rfl⟩
 have B5:Below w3.heap.size w3 w5:=by rw [hw5];exact alloc_below _ _
 obtain ⟨q,hq⟩:∃ q,q=w3.heap.size:=⟨_,rfl⟩
 have P5:Blk w5 q 34 (stB sZ (.slice none 0 0) (.slice none 0 0)):=by rw [hw5,hq];exact Blk.new _ _ _
 have HQ0:=Hd.mk (And.intro o3 (And.intro b3 (And.intro B5 hq)))
 clear CP o3 oR b3 B5 hB2
 go_upto_region 2 with (rw [←hw5,← hq];refine wpl_storeSt rfl _ _ rfl q rfl (stB s (.slice a3 s.x.F.length c3) (.slice ar3 s.run.length cr3)) _ rfl P5 rfl rfl (st_one _ _ _ _ _ _ _) ?_;intro w4 n4 k4)
 clear hw5 hq P5
 obtain ⟨m,hm⟩:∃ m,m=s.run.length:=⟨_,rfl⟩
 have HM:=Hd.mk hm
 rw [←hm]
 have HI0:Hd (LQ w S A q s now s.x.F ar3 m cr3 [] (.slice none 0 0) w4):=by
  obtain ⟨o3,b3,B5,hq⟩:=HQ0.out
  obtain ⟨h1,h2,h3,h4⟩:=HB.out
  have z3:=b3.size
  have z5:=B5.size
  have k34:Kept (fun j=>w3.heap.size≤j) w3 w4:=(Kept.of_below B5 _).trans (k4.mono (fun j _ e=>by omega))
  have k24:Kept (fun j=>w3.heap.size≤j) w2 w4:=(Kept.of_below b3 _).trans k34
  exact ⟨⟨_,DL.start o3 (h1.trans (k24.below (by omega) (fun j e=>by omega))) (h4.kept k24 (by omega)) (by omega) (by omega) k34 n4 HSZ.out (by rw [hm])⟩,LtI.start _ _ _,HF.out.1,by have:=HF.out.2;simpa using this⟩
 clear hm n4 k4 HQ0 HB
 go_wp2_with fail
 go_loopw [7] (fun v7 wr=>∃ F L,Hd (LQ w S A q s now F ar3 m cr3 L v7 wr)) (fun v7 _=>2000 - slN v7)
 case atStart=>exact ⟨_,[],HI0⟩
 case round =>
  obtain ⟨F,L,hI⟩:=hrel
  clear HI0
  obtain ⟨⟨v,hD⟩,ev,few,cnt⟩:=hI.out
  obtain ⟨a,c,rfl,hls⟩:=hD.read
  obtain ⟨at4,ct4,rfl,slt⟩:=hD.tak.read
  have HE:=Hd.mk (And.intro ev (And.intro few cnt))
  obtain ⟨n,hn⟩:∃ n,n=F.length:=⟨_,rfl⟩
  obtain ⟨tl,htl⟩:∃ tl,tl=L.length:=⟨_,rfl⟩
  have HL:=Hd.mk (And.intro hn htl)
  have hn200:n≤200:=by rw [hn];exact few.len
  rw [←hn,← htl] at hD
  rw [←htl]
  generalize wr=w6 at *
  have HD:=Hd.mk hD
  have HQ:Hd (∀ W,Below w6.heap.size w6 W→W.cell? ⟨q,21,none⟩=some (.slice a n c)):=⟨fun W b=>(HD.out.box.kept (Kept.of_below b (fun _=>False)) id).cellv 21 rfl⟩
  have HK:Hd (∀ k,k<n→∃ b o ak ck,a=some ⟨b,o,none⟩∧(∀ W,Below w6.heap.size w6 W→W.cell? ⟨b,o+k*2+1,none⟩=some (.slice ak (gl F k).L.length ck))∧(gl F k).L.length≤ck∧(∀ i,i<(gl F k).L.length→∃ b2 o2,ak=some ⟨b2,o2,none⟩∧∀ W,Below w6.heap.size w6 W→(W.cell? ⟨b2,o2+i*5,none⟩=some (.int .i64 (gt (gl F k).L i).id)∧W.cell? ⟨b2,o2+i*5+1,none⟩=some (.int .i64 (gt (gl F k).L i).wid)∧W.cell? ⟨b2,o2+i*5+2,none⟩=some (.int .i64 (gt (gl F k).L i).sts)∧W.cell? ⟨b2,o2+i*5+3,none⟩=some (.int .i64 (gt (gl F k).L i).sin)∧W.cell? ⟨b2,o2+i*5+4,none⟩=some (.int .i64 (gt (gl F k).L i).unt)))):=⟨fun k hk=>by
   obtain ⟨b,o,ak,ck,e,hb,-,d1,sl⟩:=hls.at (k:=k) (by rw [←hn];exact hk)
   refine ⟨b,o,ak,ck,e,fun W bl=>(bl.cell (p:=⟨b,o+k*2+1,none⟩) hb).trans d1,sl.1,fun i hi=>?_⟩
   obtain ⟨b2,o2,e2,-,r⟩:=sl.2.2.at (k:=i) hi
   refine ⟨b2,o2,e2,fun W bl=>?_⟩
   obtain ⟨b2',o2',e2',-,r'⟩:=(sl.carry bl).2.2.at (k:=i) hi
   rw [e2] at e2'
   cases e2'
   exact r'⟩
  clear hI hD hls slt ev few cnt hn htl
  go_wp2_with fail
  go_loopw [8,9,10] (fun v8 v9 v10 wx=>∃ (ln at':Int) (k:Nat),k≤n∧v8=.int .i64 ln∧v9=.int .i64 at'∧v10=.int .i64 k∧Hd (IsL now F (flt (F.take k)) ln at'∧Below w6.heap.size w6 wx)) (fun _ _ v10 _=>n - (intOf v10).toNat)
  case atStart=>exact ⟨-1,-1,0,Nat.zero_le _,rfl,rfl,rfl,⟨IsL.start _ _ _,Below.refl _ _⟩⟩
  case round =>
   obtain ⟨ln,at',k,hk,rfl,rfl,rfl,hIS⟩:=hrel
   by_cases hlt:k<n
   ·obtain ⟨b1,o1,ak,ck,rfl,hd1,hck,hti⟩:=HK.out k hlt
    have HK1:=Hd.mk (And.intro hd1 hti)
    have d1:=hd1 wr hIS.out.2
    have HI2:=Hd.mk hIS.out.1
    have q21:=HQ.out wr hIS.out.2
    have hbl:=hIS.out.2
    obtain ⟨lk,hlk⟩:∃ lk,lk=(gl F k).L.length:=⟨_,rfl⟩
    have HLK:=Hd.mk hlk
    have hlk1:lk≤1000:=by rw [hlk];exact (HE.out.2.1.at k).2
    rw [←hlk] at d1 hck
    have HBL:=Hd.mk hbl
    have i1:(k:Int)<(n:Int):=by omega
    clear hd1 hti hIS hlk hbl
    generalize wr=w7 at *
    go_wp2_with fail
    clear q21 d1
    go_loopw [8,9,12] (fun v8 v9 v12 wx=>∃ (ln at':Int) (i:Nat),i≤lk∧v8=.int .i64 ln∧v9=.int .i64 at'∧v12=.int .i64 i∧Hd (IsL now F (flt (F.take k)++(gl F k).L.take i) ln at'∧Below w6.heap.size w6 wx)) (fun _ _ v12 _=>lk - (intOf v12).toNat)
    case atStart=>exact ⟨ln,at',0,Nat.zero_le _,rfl,rfl,rfl,⟨by rw [List.take_zero,List.append_nil];exact HI2.out,HBL.out⟩⟩
    case round =>
     obtain ⟨ln,at',i,hil,rfl,rfl,rfl,hIS⟩:=hrel
     by_cases hi2:i<lk
     ·obtain ⟨b2,o2,rfl,ht2⟩:=HK1.out.2 i (by rw [←HLK.out];exact hi2)
      have i2:(i:Int)<(lk:Int):=by omega
      have MORE:=hIS.out.1.more (k:=k) (i:=i) (by rw [←HL.out.1];exact hlt) (by rw [←HLK.out];exact hi2)
      have HMO:=Hd.mk (And.intro MORE hIS.out.2)
      have two:=hIS.out.1.two
      have HT2:Hd (∀ W,Below w6.heap.size w6 W→W.cell? ⟨b2,o2+i*5,none⟩=some (.int .i64 (gt (gl F k).L i).id)∧W.cell? ⟨b2,o2+i*5+4,none⟩=some (.int .i64 (gt (gl F k).L i).unt)):=⟨fun W b=>⟨(ht2 W b).1,(ht2 W b).2.2.2.2⟩⟩
      have HBL2:=Hd.mk hIS.out.2
      clear MORE ht2 hIS
      have HLT:Hd (∀ l:Nat,l<F.length→l<n):=⟨fun l h=>by rw [HL.out.1];exact h⟩
      obtain ⟨t,ht⟩:∃ t,t=gt (gl F k).L i:=⟨_,rfl⟩
      rw [←ht] at HMO HT2
      clear ht
      obtain ⟨t0,t4⟩:=HT2.out wr HBL2.out
      have q2:=HQ.out wr HBL2.out
      by_cases c1:t.unt≤now
      ·have hu:decide (t.unt≤now)=true:=decide_eq_true c1
       have hltB:Hd (ltB now t=true):=⟨hu⟩
       rcases two with rfl | ⟨l,aa,rfl,rfl,hlF,haa⟩
       ·have c2:decide ((-1:Int)<0)=true:=by decide
        have HRES:Hd (IsL now F (flt (F.take k)++(gl F k).L.take (i+1)) (k:Int) (i:Int)∧Below w6.heap.size w6 wr):=⟨by
         have:=HMO.out.1
         rw [if_pos ⟨hltB.out,.inl (by decide)⟩,if_pos ⟨hltB.out,.inl (by decide)⟩] at this
         exact this,HMO.out.2⟩
        clear HMO hltB c1
        go_upto_region 11 with fail
        go_quiet (fail)
        go_wp2_with fail
        go_roundw
        case rel=>exact ⟨k,i,i+1,by omega,rfl,rfl,by go_num,⟨HRES.out.1,⟨HRES.out.2.os,HRES.out.2.tape,HRES.out.2.output,HRES.out.2.size,HRES.out.2.block⟩⟩⟩
        case measure=>simp [intOf];omega
       ·have hln:=HLT.out l hlF
        obtain ⟨b3,o3,al,cl,e3,dl,hcl,htl⟩:=HK.out l hln
        obtain ⟨rfl,rfl⟩:b1=b3∧o1=o3:=by cases e3;exact ⟨rfl,rfl⟩
        obtain ⟨b4,o4,rfl,hta⟩:=htl aa haa
        have i3:(l:Int)<(n:Int):=by omega
        have i4:(aa:Int)<((gl F l).L.length:Int):=by omega
        have dl':=dl wr HBL2.out
        have ta:=(hta wr HBL2.out).1
        have c2:decide ((aa:Int)<0)=false:=decide_eq_false (by omega)
        have HC:Hd (gt (gl F ((l:Int).toNat)).L ((aa:Int).toNat)=gt (gl F l).L aa):=⟨rfl⟩
        have haL:aa<(gl F l).L.length:=haa
        clear e3 dl htl hta haa hlF
        obtain ⟨zid,hzid⟩:∃ zid,zid=(gt (gl F l).L aa).id:=⟨_,rfl⟩
        have HZ:=Hd.mk hzid
        rw [←hzid] at ta
        obtain ⟨ll,hll⟩:∃ ll,ll=(gl F l).L.length:=⟨_,rfl⟩
        rw [←hll] at dl' i4 hcl haL
        clear hzid hll
        by_cases c3:t.id<zid
        ·have c4:decide (t.id<zid)=true:=decide_eq_true c3
         have HRES:Hd (IsL now F (flt (F.take k)++(gl F k).L.take (i+1)) (k:Int) (i:Int)∧Below w6.heap.size w6 wr):=⟨by
          have:=HMO.out.1
          have hc:ltB now t=true∧((aa:Int)<0∨t.id<(gt (gl F ((l:Int).toNat)).L ((aa:Int).toNat)).id):=⟨hltB.out,.inr (by rw [HC.out,← HZ.out];exact c3)⟩
          rw [if_pos hc,if_pos hc] at this
          exact this,HMO.out.2⟩
         clear HMO hltB c1 c3 HC HZ
         go_upto_region 11 with fail
         go_quiet (fail)
         go_wp2_with fail
         go_roundw
         case rel=>exact ⟨k,i,i+1,by omega,rfl,rfl,by go_num,⟨HRES.out.1,⟨HRES.out.2.os,HRES.out.2.tape,HRES.out.2.output,HRES.out.2.size,HRES.out.2.block⟩⟩⟩
         case measure=>simp [intOf];omega
        ·have c4:decide (t.id<zid)=false:=decide_eq_false c3
         have HRES:Hd (IsL now F (flt (F.take k)++(gl F k).L.take (i+1)) (l:Int) (aa:Int)∧Below w6.heap.size w6 wr):=⟨by
          have:=HMO.out.1
          have hc:¬ (ltB now t=true∧((aa:Int)<0∨t.id<(gt (gl F ((l:Int).toNat)).L ((aa:Int).toNat)).id)):=fun h=>h.2.elim (fun h=>by omega) (fun h=>c3 (by rw [HC.out,← HZ.out] at h;exact h))
          rw [if_neg hc,if_neg hc] at this
          exact this,HMO.out.2⟩
         clear HMO hltB c1 c3 HC HZ
         go_upto_region 11 with fail
         go_quiet (fail)
         go_wp2_with fail
         go_roundw
         case rel=>exact ⟨l,aa,i+1,by omega,rfl,rfl,by go_num,⟨HRES.out.1,⟨HRES.out.2.os,HRES.out.2.tape,HRES.out.2.output,HRES.out.2.size,HRES.out.2.block⟩⟩⟩
         case measure=>simp [intOf];omega
      ·have hu:decide (t.unt≤now)=false:=decide_eq_false c1
       have HRES:Hd (IsL now F (flt (F.take k)++(gl F k).L.take (i+1)) ln at'∧Below w6.heap.size w6 wr):=⟨by
        have:=HMO.out.1
        have hc:∀ p:Prop,¬ (ltB now t=true∧p):=fun p h=>by have:=of_decide_eq_true h.1;exact c1 this
        rw [if_neg (hc _),if_neg (hc _)] at this
        exact this,HMO.out.2⟩
       clear HMO c1 two
       go_upto_region 11 with fail
       go_quiet (fail)
       go_wp2_with fail
       go_roundw
       case rel=>exact ⟨ln,at',i+1,by omega,rfl,rfl,by go_num,⟨HRES.out.1,⟨HRES.out.2.os,HRES.out.2.tape,HRES.out.2.output,HRES.out.2.size,HRES.out.2.block⟩⟩⟩
       case measure=>simp [intOf];omega
     ·obtain rfl:i=lk:=by omega
      have HRES:Hd (IsL now F (flt (F.take (k+1))) ln at'∧Below w6.heap.size w6 wr):=⟨by
       rw [flt_next (by rw [←HL.out.1];exact hlt),← HLK.out];exact hIS.out.1,hIS.out.2⟩
      clear hIS
      go_wp2_with fail
      go_roundw
      case rel=>exact ⟨ln,at',k+1,by omega,rfl,rfl,by go_num,HRES⟩
      case measure=>simp [intOf];omega
   ·obtain rfl:k=n:=by omega
    have HIS:Hd (IsL now F (flt F) ln at'):=⟨by have:=hIS.out.1;rw [HL.out.1,List.take_length] at this;exact this⟩
    have two:=HIS.out.two
    have HDx:=Hd.mk (HD.out.carry hIS.out.2)
    have q21:=HQ.out wr hIS.out.2
    have HBL:=Hd.mk hIS.out.2
    clear hlt hk hIS
    rcases two with rfl | ⟨l,aa,rfl,rfl,hlF,haa⟩
    ·have FIN:=HE.out.1.fin HIS.out
     have HFIN:=Hd.mk FIN
     clear FIN HK HQ
     go_wp2_with (first | (refine wpl_loadSt rfl _ rfl q rfl _ HDx.out.box rfl ?_) | (refine wpl_storeSt rfl _ _ rfl (A+1) rfl (stB s (.slice a k c) (.slice ar3 m cr3)) _ rfl HDx.out.zero rfl rfl (st_one _ _ _ _ _ _ _) ?_;intro w9 n9 k9))
     refine bodyPost_ret (resSt32 _ _ _ rfl rfl n9) rfl ?_
     obtain ⟨f1,⟨a9,c9,f2,f3⟩,f4⟩:=HDx.out.fin HSZ.out k9 (s':=ltX now s) (by rw [HFIN.out.2];unfold ltX;split <;> rfl) rfl (stB_ltX now s) HM.out
     rw [←HA.out]
     rw [←HL.out.2] at f2
     refine ⟨⟨_,_,rfl,f1,⟨a9,c9,?_,?_⟩⟩,f4⟩
     ·rw [←HFIN.out.1,← HL.out.2];exact f2
     ·rw [←HFIN.out.1];exact f3
    ·obtain ⟨g,cap,al,cl,ev,dl,tkl⟩:=HDx.out.lane hlF
     rw [←HL.out.1] at ev
     obtain ⟨rfl,rfl⟩:a=some ⟨g,0,none⟩∧c=cap:=by injection ev with x1 x2 x3;exact ⟨x1,x3⟩
     have sl:=tkl.read (Kept.refl _ _)
     have hcl:=sl.1
     obtain ⟨b2,o2,rfl,hb2,ta0,ta1,ta2,ta3,ta4⟩:=sl.2.2.at (k:=aa) haa
     have i1:(l:Int)<(k:Int):=by have:=HL.out.1;omega
     have c1:¬ ((aa:Int)<0):=by omega
     obtain ⟨ll,hll⟩:∃ ll,ll=(gl F l).L.length:=⟨_,rfl⟩
     have i2:(aa:Int)<(ll:Int):=by omega
     obtain ⟨t,ht⟩:∃ t,t=gt (gl F l).L aa:=⟨_,rfl⟩
     rw [←ht] at ta0 ta1 ta2 ta3 ta4
     have hl1000:ll≤1000:=by rw [hll];exact (HE.out.2.1.at l).2
     rw [←hll] at dl hcl
     have HLA:=Hd.mk (And.intro hll (And.intro ht (And.intro hlF haa)))
     have HTK:=Hd.mk tkl
     have hkc:aa≤cl:=by omega
     have hal:aa<ll:=by omega
     clear ev sl hll ht tkl hlF haa hb2 HK HQ HBL
     go_upto_region 16 with fail
     clear q21 dl
     obtain ⟨w7,hw7⟩:∃ w7,w7=wr.alloc (.cells #[.int .i64 t.id,.int .i64 t.wid,.int .i64 t.sts,.int .i64 t.sin,.int .i64 t.unt] 36):=⟨_,rfl⟩
     have B7:Below wr.heap.size wr w7:=by rw [hw7];exact alloc_below _ _
     have T7:Blk w7 wr.heap.size 36 (tkA t):=by rw [hw7];exact Blk.new _ _ _
     have HD7:=Hd.mk (And.intro (HDx.out.carry B7) (And.intro T7 (HTK.out.step (Kept.of_below B7 _) (fun _ _ e=>e))))
     have HSA:Hd (A+2≤w7.heap.size∧tl≤1800):=⟨HD7.out.1.szA,by have:=HL.out.2;have:=HE.out.2.2;omega⟩
     clear B7 T7
     go_upto_region 17 with (at_builtin;rw [←hw7];refine wpList_append_lies _ rfl _ _ 32 rfl (A+2) 36 i0 (.agg #[.int .i64 0,.int .i64 0,.int .i64 0,.int .i64 0,.int .i64 0]) 5 40 Tryz.underlying32 hi hz0 hz1 hz2 rfl (by decide) _ tl (tkCs L) rfl (OwnT.row HD7.out.1.tak HL.out.2) ⟨wr.heap.size,0,none⟩ 1 1 (tkC t) rfl rfl (fun j u hj=>by rw [Go.WideShapes.add_plain,Nat.zero_add,HD7.out.2.1.cell];simpa [tkA,tkC] using hj) (one_cellK _) (by decide) (by have:=HSA.out;unfold maxLen;omega) (by have:=HSA.out;omega) HSA.out.1 _ rfl ?_;intro gv cv w8 hown hgr hat hgl;have HD8:=Hd.mk (And.intro (HD7.out.1.push (OwnT.mk HL.out.2.symm hown) hgr hat) (HD7.out.2.2.read (Kept.of_grown hgr (fun _ e=>.inr (.inr (.inr e))))));clear hown hgr hat hgl)
     clear hw7 ta0 ta1 ta2 ta3 ta4
     obtain ⟨w9,hw9⟩:∃ w9,w9=w8.alloc (.cells #[] 36):=⟨_,rfl⟩
     have B9:Below w8.heap.size w8 w9:=by rw [hw9];exact alloc_below _ _
     obtain ⟨g9,hg9⟩:∃ g9,g9=w8.heap.size:=⟨_,rfl⟩
     have O9:OwnT w9 g9 (.slice (some ⟨g9,0,none⟩) 0 0) []:=by rw [hw9,hg9];exact OwnT.lit w8 _ (Nat.le_refl _)
     have TL:Hd (((gl F l).L.take aa).length=aa∧((gl F l).L.drop (aa+1)).length=ll - (aa+1)∧ll=(gl F l).L.length):=⟨by have:=HLA.out;simp;omega,by have:=HLA.out;simp;omega,HLA.out.1⟩
     have HO9:=Hd.mk (And.intro O9 (And.intro (HD8.out.2.carry B9) (And.intro B9 hg9)))
     have TA:Hd (SlR w9 (some ⟨b2,o2,none⟩) cl ((gl F l).L.take aa)):=⟨HO9.out.2.1.take aa⟩
     have HZ9:Hd (g9≤w9.heap.size):=⟨by rw [hg9];exact B9.size⟩
     clear O9 B9
     go_upto_region 18 with (at_builtin;rw [←hw9,← hg9];refine wpl_tks rfl _ _ rfl g9 _ [] ((gl F l).L.take aa) rfl HO9.out.1 (some ⟨b2,o2,none⟩) aa cl TL.out.1 rfl TA.out (by have:=TL.out.1;simp;omega) HZ9.out ?_;intro v10 w10 o10 gr10;obtain ⟨a10,c10,e10,-⟩:=o10.read;rw [List.nil_append,TL.out.1] at e10;subst e10)
     have b10:Below w8.heap.size w8 w10:=HO9.out.2.2.1.grown gr10 (by rw [←HO9.out.2.2.2];exact HZ9.out) (fun j e=>by injection e with e;rw [←HO9.out.2.2.2,← e];exact Nat.le_refl _)
     have b11:Below w8.heap.size w8 w10.drew:=b10.drew
     have HB11:=Hd.mk (And.intro b11 HO9.out.2.2.2)
     rw [List.nil_append] at o10
     have o11:OwnT w10.drew g9 (.slice a10 aa c10) ((gl F l).L.take aa):=o10
     have HD11:=Hd.mk (And.intro (HD8.out.1.carry b11) (And.intro (HD8.out.2.carry b11) o11))
     clear hw9 hg9 TA HO9 b10 o10 gr10 b11 o11 HD7 HTK
     have TB:Hd (SlR w10.drew (some (if cl=aa+1 then ⟨b2,o2,none⟩ else ⟨b2,o2+(aa+1)*5,none⟩)) (cl - (aa+1)) ((gl F l).L.drop (aa+1))):=⟨HD11.out.2.1.drop (aa+1) (by have:=TL.out.2.2;omega)⟩
     obtain ⟨x2,hx2⟩:∃ x2,x2=(if cl=aa+1 then (⟨b2,o2,none⟩:Addr) else ⟨b2,o2+(aa+1)*5,none⟩):=⟨_,rfl⟩
     rw [←hx2] at TB
     have hx3:(if cl=aa+1 then some (⟨b2,o2,none⟩:Addr) else some ⟨b2,o2+(aa+1)*5,none⟩)=some x2:=by rw [hx2];split <;> rfl
     clear hx2
     have hwr:IntKind.i64.wrap ((aa:Int)+1)=(aa:Int)+1:=by rw [IntKind.wrap_i64];omega
     have hk1:(aa:Int)+1≤(ll:Int):=by omega
     have hk0:(0:Int)≤(aa:Int)+1:=by omega
     refine AnyG.start (T:=fun W=>Blk W q 34 (stB s (.slice (some ⟨g,0,none⟩) k c) (.slice ar3 m cr3))) (U:=fun _=>True) (j0:=100) (by kernel_rfl) ?_
     generalize w10.drew=w11 at *
     have R:Blk w11 q 34 (stB s (.slice (some ⟨g,0,none⟩) k c) (.slice ar3 m cr3)):=HD11.out.1.box
     refine .tq 0 94 R ?_;simp only [oqA,oqB,oqC]
     refine .tq 1 95 R ?_;simp only [oqA,oqB,oqC]
     refine .tq (v:=.slice (some ⟨g,0,none⟩) k c) 2 96 R ?_ (hy:=fun w hSw=>by have s:=(Blk.stx hSw).1.2.2.2.2;go_simp);simp only [oqA,oqB,oqC]
     refine .tq 3 97 R ?_;simp only [oqA,oqB,oqC]
     refine .tq 4 98 R ?_;simp only [oqA,oqB,oqC]
     refine .tq 5 99 R ?_;simp only [oqA,oqB,oqC]
     refine .tq 6 100 R ?_;simp only [oqA,oqB,oqC]
     refine .tq (v:=.int .i64 ((aa:Int)+1)) 7 101 R ?_ (hy:=fun w hSw=>by go_simp);simp only [oqA,oqB,oqC]
     refine .tq (v:=.slice (some x2) (ll - (aa+1)) (cl - (aa+1))) 8 102 R ?_ (hy:=fun w hSw=>by go_simp);simp only [oqA,oqB,oqC]
     refine AnyG.ready (rs:=[9]) (by kernel_rfl) (by simp) ?_
     refine AllG.cons rfl (fun K hK=>?_) AllG.nil
     refine step_tks rfl _ _ rfl g9 _ ((gl F l).L.take aa) ((gl F l).L.drop (aa+1)) rfl HD11.out.2.2 (some x2) (ll - (aa+1)) (cl - (aa+1)) TL.out.2.1 rfl TB.out (by have:=TL.out;omega) (by have:=HB11.out.1.size;have:=HB11.out.2;omega) ?_
     intro v12 w12 o12 gr12
     have b12:Below w8.heap.size w8 w12:=HB11.out.1.grown gr12 HB11.out.1.size (fun j e=>by have:=(HD11.out.2.2.lt j e).1;rw [←HB11.out.2];exact this)
     have HD12:=Hd.mk (And.intro (HD8.out.1.carry b12) o12)
     refine hK.out _ _ ⟨HD12.out.1.box,fun _=>trivial⟩ ?_
     clear hK K
     obtain ⟨m12,hm12⟩:∃ m12,m12=((gl F l).L.take aa++(gl F l).L.drop (aa+1)).length:=⟨_,rfl⟩
     obtain ⟨a12,c12,e12,-⟩:=o12.read
     rw [←hm12] at e12
     subst e12
     clear hm12
     have R12:=HD12.out.1.box
     obtain ⟨g',cap',y,ev',⟨cy,fy⟩,-,PUT⟩:=HD12.out.1.put (l:=l) HLA.out.2.2.1
     rw [←HL.out.1] at ev'
     obtain rfl:g=g':=by injection ev' with x1;injection x1 with x1;injection x1
     have HD13:=Hd.mk (PUT HD12.out.2 (fun j e h=>by
      have h1:=(HD12.out.2.lt j e).1
      have h2:=HD8.out.1.mv HSZ.out j h
      have h3:=HB11.out.2
      omega))
     clear PUT o12 gr12 b12 ev' TB hx3 hwr hk1 hk0
     refine .tq (v:=.pointer (some ⟨g,l*2,none⟩)) 10 104 R12 ?_ (hy:=fun w hSw=>by go_simp)
     refine .tq (v:=.pointer (some ⟨g,l*2+1,none⟩)) 11 105 R12 ?_ (hy:=fun w hSw=>by go_simp)
     refine AnyG.ready (rs:=[12]) (by kernel_rfl) (by simp) ?_
     refine AllG.cons rfl (fun K hK=>?_) AllG.nil
     go_simp
     refine hK.out _ _ ⟨HD13.out.box,fun _=>trivial⟩ ?_
     clear hK K
     refine AnyG.done (by kernel_rfl) ?_ _
     clear R R12 cy fy HD12 HD11 HB11
     generalize w12.setCell ⟨g,l*2+1,none⟩ (.slice a12 m12 c12)=w13 at *
     obtain ⟨G0,hG0⟩:∃ G0,G0=cutL F l aa:=⟨_,rfl⟩
     have HG0:=Hd.mk hG0
     have HLG:Hd (G0.length=k):=⟨by rw [hG0];unfold cutL;rw [List.length_set];exact HL.out.1.symm⟩
     have HDG:Hd (DL w S A q s G0 (.slice (some ⟨g,0,none⟩) k c) ar3 m cr3 (L ++ [t]) (.slice (some ⟨gv,0,none⟩) (tl+1) cv) w13):=⟨by rw [hG0];exact HD13.out⟩
     clear HD13 hG0
     have q21:w13.cell? ⟨q,21,none⟩=some (.slice (some ⟨g,0,none⟩) k c):=HDG.out.box.cellv 21 rfl
     go_wp2_with fail
     clear q21
     go_loopw [15] (fun v15 wx=>∃ G:List Ln,v15=.int .i64 (G.length:Int)∧Hd (TrI G0 s.x.o G∧∃ v,DL w S A q s G v ar3 m cr3 (L ++ [t]) (.slice (some ⟨gv,0,none⟩) (tl+1) cv) wx)) (fun v15 _=>(intOf v15).toNat)
     case atStart=>exact ⟨G0,by rw [HLG.out],⟨TrI.start _ _,_,HDG.out⟩⟩
     case round =>
      obtain ⟨G,rfl,hT⟩:=hrel
      obtain ⟨hTr,v,hDG⟩:=hT.out
      have HEX:Hd (G=trm G0 s.x.o→LQ w S A q s now G ar3 m cr3 (L ++ [t]) (.slice (some ⟨gv,0,none⟩) (tl+1) cv) wr):=⟨fun hG=>by
       rw [HLA.out.2.1]
       refine LQ.next HE.out.1 HE.out.2.1 HE.out.2.2 HIS.out (v:=v) ?_ (by rw [←HG0.out];exact hG)
       rw [←HLA.out.2.1]
       exact hDG⟩
      have FIN:=Hd.mk hTr.fin
      have HTR:=Hd.mk hTr
      obtain ⟨kk,hkk⟩:∃ kk,kk=G.length:=⟨_,rfl⟩
      have HKK:=Hd.mk hkk
      have hk200:kk≤200:=by have:=hTr.1;have:=HLG.out;omega
      obtain ⟨x0,x1⟩:=hDG.box.stx
      have x3:=x0.2.2.2.1
      have x4:=x0.2.2.2.2
      clear x0 x1
      rw [←hkk]
      by_cases e0:kk=0
      ·have HF2:Hd (LQ w S A q s now G ar3 m cr3 (L ++ [t]) (.slice (some ⟨gv,0,none⟩) (tl+1) cv) wr):=⟨HEX.out (FIN.out (fun j e=>by have:=HKK.out;omega))⟩
       subst e0
       clear hT hTr hDG hkk x3 x4 HEX FIN
       go_wp2_with fail
       go_roundw
       case rel=>exact ⟨G,L ++ [t],HF2⟩
       case measure=>have:=HSA.out;simp [slN];omega
      ·obtain ⟨j,rfl⟩:∃ j,kk=j+1:=⟨kk - 1,by omega⟩
       have PN:IntKind.i64.wrap ((j:Int)+1 - 1)=j:=by rw [show (j:Int)+1 - 1=j by omega,IntKind.wrap_i64] <;> omega
       obtain ⟨g7,c7,a1,c1',ev7,d1,-⟩:=hDG.lane (l:=j) (by omega)
       rw [←hkk] at ev7
       have hTRIM:=hDG.trim (k:=j) (by omega)
       subst ev7
       have HE0:Hd ((gl G j).L=[]→(gl G j).L.length=0):=⟨fun e=>by rw [e];rfl⟩
       by_cases e1:s.x.o<(j:Int)+1
       ·by_cases e2:(gl G j).L.length=0
        ·rw [e2] at d1
         obtain ⟨M,hM1,hM2,hM3,⟨a',c',ev8,hc1,hc2,hr⟩,TRIM⟩:=hTRIM
         rw [←hkk] at ev8
         obtain ⟨rfl,rfl⟩:a'=some ⟨g7,0,none⟩∧c'=c7:=by injection ev8 with x1 x2 x3;exact ⟨x1.symm,x3.symm⟩
         have HST:Hd (TrI G0 s.x.o (G.take j)∧(G.take j).length=j):=⟨hTr.step hkk.symm e1 e2,by rw [List.length_take];omega⟩
         obtain ⟨wa,hwa⟩:∃ wa,wa=wr.alloc (.cells #[] 62):=⟨_,rfl⟩
         have Ba:Below wr.heap.size wr wa:=by rw [hwa];exact alloc_below _ _
         have Oa:wa.ownsRow wr.heap.size 62 2 (.slice (some ⟨wr.heap.size,0,none⟩) 0 0) 0 []:=by rw [hwa];exact World.ownsRow_made wr #[] 0 (Nat.le_refl _) (Nat.zero_le _) rfl
         have HRA:=Hd.mk (And.intro Oa (And.intro (hr.carry Ba) (And.intro hM3 (And.intro Ba (And.intro hM2 TRIM)))))
         have hjc:j+1≤c':=by omega
         have x4a:wa.cell? ⟨q,21,none⟩=some (.slice (some ⟨g7,0,none⟩) (j+1) c'):=(hDG.box.kept (Kept.of_below Ba (fun _=>False)) id).cellv 21 rfl
         have x4b:=x4a
         rw [hwa] at x4b
         clear hT hTr hDG hkk HEX FIN hr hM1 hM2 hM3 ev8 hc1 hc2 TRIM Ba Oa e2 HE0
         go_wp2_with (at_builtin;rw [←hwa];refine wpl_lzs rfl _ _ rfl wr.heap.size _ [] M rfl HRA.out.1 (some ⟨g7,0,none⟩) j c' HRA.out.2.2.2.2.1 rfl (by omega) (fun e=>by cases e) HRA.out.2.1 HRA.out.2.2.1 (by have:=HRA.out.2.2.2.2.1;simp;omega) HRA.out.2.2.2.1.size ?_;intro v7 w7 o7 gr7;have b7:Below wr.heap.size wr w7:=HRA.out.2.2.2.1.grown gr7 HRA.out.2.2.2.1.size (fun j e=>by injection e with e;have e:wr.heap.size=j:=e;omega);obtain ⟨⟨a9,c9,rfl⟩,cz,fz,D9⟩:=HRA.out.2.2.2.2.2 w7 v7 o7 b7;have HD9:=Hd.mk D9;have y21:=D9.box.cellv (v:=.slice a9 j c9) 21 rfl;clear x3 x4 x4a x4b d1 D9 o7 gr7 b7)
         go_roundw
         case rel=>exact ⟨G.take j,by rw [HST.out.2],⟨HST.out.1,_,HD9.out⟩⟩
         case measure=>simp [intOf]
        ·have HF2:Hd (LQ w S A q s now G ar3 m cr3 (L ++ [t]) (.slice (some ⟨gv,0,none⟩) (tl+1) cv) wr):=⟨HEX.out (FIN.out (fun i e h=>by
          have:=HKK.out
          obtain rfl:i=j:=by omega
          exact e2 (HE0.out h.2)))⟩
         clear hT hTr hDG hkk HEX FIN hTRIM
         generalize (gl G j).L.length=lj at *
         go_wp2_with fail
         go_roundw
         case rel=>exact ⟨G,L ++ [t],HF2⟩
         case measure=>have:=HSA.out;simp [slN];omega
       ·have HF2:Hd (LQ w S A q s now G ar3 m cr3 (L ++ [t]) (.slice (some ⟨gv,0,none⟩) (tl+1) cv) wr):=⟨HEX.out (FIN.out (fun i e h=>by
         have:=HKK.out
         obtain rfl:i=j:=by omega
         exact e1 h.1))⟩
        clear hT hTr hDG hkk HEX FIN hTRIM
        go_wp2_with fail
        go_roundw
        case rel=>exact ⟨G,L ++ [t],HF2⟩
        case measure=>have:=HSA.out;simp [slN];omega
set_option maxRecDepth 20000 in
set_option maxHeartbeats 4000000 in
theorem same23_ok (s:St) (ax:Option Addr) (cx:Nat) (ar:Option Addr) (cr:Nat) (ay:Option Addr) (cy:Nat) (az:Option Addr) (cz:Nat) (w:World) (h1:LsR w ax cx s.x.F) (h2:SlR w ar cr s.run) (h3:LsR w ay cy s.x.F) (h4:SlR w az cz s.run) (hf:Few s.x.F) (hl:s.run.length≤2000) :
  Calls Tryz.prog 9 #[.agg (stB s (.slice ax s.x.F.length cx) (.slice ar s.run.length cr)),.agg (stB s (.slice ay s.x.F.length cy) (.slice az s.run.length cz))] w fun e w'=>e=.returned (.bool true)∧Below w.heap.size w w':=by
 obtain ⟨w2,hw2⟩:∃ w2,w2=((w.alloc (.cells (stB s (.slice ax s.x.F.length cx) (.slice ar s.run.length cr)) 34)).alloc (.cells (stB s (.slice ay s.x.F.length cy) (.slice az s.run.length cz)) 34)):=⟨_,rfl⟩
 have BX:=boxes w 34 34 (stB s (.slice ax s.x.F.length cx) (.slice ar s.run.length cr)) (stB s (.slice ay s.x.F.length cy) (.slice az s.run.length cz))
 rw [←hw2] at BX
 obtain ⟨B,N1,N2⟩:=BX
 obtain ⟨A,hA⟩:∃ A,A=w.heap.size:=⟨_,rfl⟩
 have HA:Hd (A=w.heap.size):=⟨hA⟩
 have S22:Hd (∀ W,Below w2.heap.size w2 W→Calls Tryz.prog 37 #[.agg #[.int .u64 s.x.r,.int .i64 s.x.g,.int .i64 s.x.n,.int .i64 s.x.o,.slice ax s.x.F.length cx],.agg #[.int .u64 s.x.r,.int .i64 s.x.g,.int .i64 s.x.n,.int .i64 s.x.o,.slice ay s.x.F.length cy]] W fun e w'=>e=.returned (.bool true)∧Below W.heap.size W w'):=⟨fun W b=>same22_ok _ _ _ _ _ _ _ _ s.x.F W ((h1.carry B).carry b) ((h3.carry B).carry b) hf⟩
 have S21:Hd (∀ W,Below w2.heap.size w2 W→Calls Tryz.prog 14 #[.slice ar s.run.length cr,.slice az s.run.length cz] W fun e w'=>e=.returned (.bool true)∧Below W.heap.size W w'):=⟨fun W b=>same_ok _ _ _ _ s.run W ((h2.carry B).carry b).2.2 ((h4.carry B).carry b).2.2 hl⟩
 rw [←hA] at B N1 N2
 have HN:=Hd.mk (And.intro N1 (And.intro N2 B))
 obtain ⟨⟨x0,x1,x2,x3,x4,x5,x6,x7,x8,x9,x10,x11,x12,x13,x14,x15,x16,x17,x18,x19,x20,x21,x22⟩,-⟩:=N1.state
 obtain ⟨⟨y0,y1,y2,y3,y4,y5,y6,y7,y8,y9,y10,y11,y12,y13,y14,y15,y16,y17,y18,y19,y20,y21,y22⟩,-⟩:=N2.state
 have X17:Hd (∀ W,Below w2.heap.size w2 W→(W.cell? ⟨A,22,none⟩=some (.slice ar s.run.length cr)∧W.cell? ⟨A+1,22,none⟩=some (.slice az s.run.length cz))):=⟨fun W b=>⟨(HN.out.1.kept (Kept.of_below b (fun _=>False)) id).cellv 22 rfl,(HN.out.2.1.kept (Kept.of_below b (fun _=>False)) id).cellv 22 rfl⟩⟩
 clear N1 N2 B h1 h2 h3 h4 hf hl
 generalize s.x.F.length=n at *
 generalize s.run.length=m at *
 go_enter Tryz.func9,Tryz.ntmps9
 go_upto_region 1 with fail
 rw [←hw2]
 clear hw2
 rw [←hA]
 clear hA
 go_wp2_with (first | (go_at_call 37;refine (S22.out _ (Below.refl _ _)).mono ?_;rintro e w4 ⟨rfl,b4⟩;clear x0 x1 x2 x3 x4 x5 x6 x7 x8 x9 x10 x11 x12 x13 x14 x15 x16 x17 x18 x19 x20 x21 x22 y0 y1 y2 y3 y4 y5 y6 y7 y8 y9 y10 y11 y12 y13 y14 y15 y16 y17 y18 y19 y20 y21 y22;obtain ⟨x22,y22⟩:=X17.out w4 b4) | (go_at_call 14;refine (S21.out _ b4).mono ?_;rintro e w5 ⟨rfl,b5⟩))
 go_ret
 have hs:=HN.out.1.lt
 exact ⟨rfl,by rw [←HA.out];exact (HN.out.2.2.trans (b4.mono (by omega))).trans (b5.mono (by have:=b4.size;omega))⟩
def l0:Lv:=⟨⟨#[]⟩,3,0,0,0,1,0,5,0,1⟩
def k0:Tk:=⟨7,5,0,0,0⟩
def p1:St:={ opS l0 with lim:=3 }
def c1:Int:=chF p1.x.F p1.x.o (fun _=>0) 1
def p2:St:=arX p1 k0 c1
theorem p1_few:Few p1.x.F:=(IvL.start l0).few
theorem c1_is:c1=-1∨Vld p1.x.F p1.x.o c1:=(chF_is p1.x.F p1.x.o _ 1).rng
theorem p2_e:arE p1 k0 c1=0:=by decide
theorem p2_iv:IvL 1 p2:=((IvL.start l0).lim 3).arrive (by decide) p2_e c1_is
theorem p3_a:(dsA p2).2.length=1:=by decide
theorem p3_b:(gt (dsA p2).2 0).sts=3:=by decide
theorem p3_c:(dsA p2).1.run.length=1:=by decide
theorem hn_one {w:World} {q:Nat} (h:Blk w q 3 #[.int .i64 0]):HnR w (some ⟨q,0,none⟩) 1 (fun _=>0):=fun _=>⟨q,0,rfl,h.lt,fun k hk=>by
 obtain rfl:k=0:=by omega
 exact h.cellv 0 rfl⟩
set_option maxRecDepth 20000 in
set_option maxHeartbeats 2000000 in
theorem awake_ok (w:World):Calls Tryz.prog 4 #[] w fun e w'=>e=.returned (.bool true)∧Below w.heap.size w w':=by
 have OP:=open_st l0 w (fun _=>False) (fun _ h=>h.elim)
 unfold l0 at OP
 simp only at OP
 have HOP:Hd (opS ⟨⟨#[]⟩,3,0,0,0,1,0,5,0,1⟩=opS l0):=⟨rfl⟩
 rw [HOP.out] at OP
 have HPO:Hd (p1={ opS l0 with lim:=3 }):=⟨rfl⟩
 generalize opS l0=p0 at *
 go_enter Tryz.func4,Tryz.ntmps4
 go_wp2_with fail
 go_at_call 10
 refine OP.mono ?_
 rintro e w1 ⟨⟨v1,rfl,v1e⟩,b1⟩
 obtain ⟨a1,d1,ar1,dr1,rfl,s1,t1⟩:=v1e
 obtain ⟨n1,hn1⟩:∃ n1,n1=p0.x.F.length:=⟨_,rfl⟩
 obtain ⟨m1,hm1⟩:∃ m1,m1=p0.run.length:=⟨_,rfl⟩
 have HL:=Hd.mk (And.intro hn1 hm1)
 rw [←hn1,← hm1]
 clear hn1 hm1 OP HOP
 obtain ⟨w2,hw2⟩:∃ w2,w2=w1.alloc (.cells zsT 34):=⟨_,rfl⟩
 have P2:Blk w2 w1.heap.size 34 (stB sZ (.slice none 0 0) (.slice none 0 0)):=by rw [hw2];exact Blk.new _ _ _
 have B2:Below w1.heap.size w1 w2:=by rw [hw2];exact alloc_below _ _
 have HB:=Hd.mk (And.intro b1 (And.intro B2 (And.intro s1 t1)))
 clear b1 B2 s1 t1
 go_upto_region 2 with (rw [←hw2];refine wpl_storeSt rfl _ _ rfl w1.heap.size rfl (stB p0 (.slice a1 n1 d1) (.slice ar1 m1 dr1)) _ rfl P2 rfl rfl (st_one _ _ _ _ _ _ _) ?_;intro w3 n3 k3)
 clear hw2 P2
 obtain ⟨g,hg⟩:∃ g,g=w1.heap.size:=⟨_,rfl⟩
 have HG:=Hd.mk hg
 rw [←hg] at n3 k3 ⊢
 clear hg
 have c11:w3.cell? ⟨g,11,none⟩=some (.int .i64 p0.lim):=n3.cellv 11 rfl
 have f11:=n3.frozen 11
 obtain ⟨Q4,K4⟩:=st_lim n3 3
 have Q4:Blk (w3.setCell ⟨g,11,none⟩ (.int .i64 3)) g 34 (stB p1 (.slice a1 n1 d1) (.slice ar1 m1 dr1)):=by rw [HPO.out];exact Q4
 have H4:Hd (Kept (fun j=>j=g) w2 (w3.setCell ⟨g,11,none⟩ (.int .i64 3))∧Blk (w3.setCell ⟨g,11,none⟩ (.int .i64 3)) g 34 (stB p1 (.slice a1 n1 d1) (.slice ar1 m1 dr1))):=⟨k3.trans K4,Q4⟩
 clear n3 k3 Q4 K4
 go_upto_region 3 with fail
 clear c11 f11
 generalize w3.setCell ⟨g,11,none⟩ (.int .i64 3)=w4 at *
 obtain ⟨w5,hw5⟩:∃ w5,w5=w4.alloc (.cells #[.int .i64 0] 3):=⟨_,rfl⟩
 have N5:Blk w5 w4.heap.size 3 #[.int .i64 0]:=by rw [hw5];exact Blk.new _ _ _
 have B5:Below w4.heap.size w4 w5:=by rw [hw5];exact alloc_below _ _
 have h12:=HB.out
 have kA:Kept (fun j=>g≤j) w1 w5:=((Kept.of_below h12.2.1 _).trans (H4.out.1.mono (fun j _ e=>by omega))).trans (Kept.of_below B5 _)
 have s5:StR (fun j=>j=g) w5 a1 d1 p1.x.F:=by
  rw [HPO.out]
  exact (h12.2.2.1.stp (Kept.of_below h12.2.1 _) (T:=fun j=>j=g) (fun j hj e=>by have:=HG.out;omega)).stp (H4.out.1.trans (Kept.of_below B5 _)) (fun _ _ e=>e)
 have t5:TkS (fun j=>j=g) w5 ar1 dr1 p1.run:=by
  rw [HPO.out]
  exact (h12.2.2.2.step (Kept.of_below h12.2.1 _) (T:=fun j=>j=g) (fun j hj e=>by have:=HG.out;omega)).step (H4.out.1.trans (Kept.of_below B5 _)) (fun _ _ e=>e)
 have P5:=H4.out.2.kept (Kept.of_below B5 (fun _=>False)) id
 have en:n1=p1.x.F.length:=by rw [HPO.out];exact HL.out.1
 have em:m1=p1.run.length:=by rw [HPO.out];exact HL.out.2
 have AR:Calls Tryz.prog 7 #[.agg (stB p1 (.slice a1 n1 d1) (.slice ar1 m1 dr1)),.agg #[.int .i64 7,.int .i64 5,.int .i64 0,.int .i64 0,.int .i64 0],.slice (some ⟨w4.heap.size,0,none⟩) 1 1] w5 fun e w'=>(∃ v,e=.returned (.tuple #[v,.int .i64 0])∧StV (fun j=>j=g) w' p2 v)∧Below w5.heap.size w5 w':=by
  have A:=arrive_st p1 k0 a1 d1 ar1 dr1 (some ⟨w4.heap.size,0,none⟩) 1 1 w5 (fun j=>j=g) (fun _=>0) s5 (t5.read (Kept.refl _ _)) (show p1.run.length≤1990 by decide) (fun j e=>by rw [e];exact P5.lt) p1_few (hn_one N5) (by decide)
  have e1:arE p1 k0 (chF p1.x.F p1.x.o (fun _=>0) 1)=0:=p2_e
  rw [e1] at A
  rw [en,em]
  exact A
 have H5:=Hd.mk (And.intro P5 (And.intro kA (And.intro h12.1 (show w1.heap.size≤g by have:=HG.out;omega))))
 clear kA s5 t5 P5 N5 B5 h12 en em
 go_wp2_with (refine wpl_loadSt rfl _ rfl g rfl _ H4.out.2 rfl ?_)
 rw [←hw5]
 clear hw5
 go_at_call 7
 refine AR.mono ?_
 rintro e w6 ⟨⟨v6,rfl,v6e⟩,b6⟩
 clear AR
 obtain ⟨a6,d6,ar6,dr6,rfl,s6,t6⟩:=v6e
 obtain ⟨n6,hn6⟩:∃ n6,n6=p2.x.F.length:=⟨_,rfl⟩
 obtain ⟨m6,hm6⟩:∃ m6,m6=p2.run.length:=⟨_,rfl⟩
 have HL6:=Hd.mk (And.intro hn6 hm6)
 rw [←hn6,← hm6]
 clear hn6 hm6
 have P6:=H5.out.1.kept (Kept.of_below b6 (fun _=>False)) id
 have H6:=Hd.mk (And.intro b6 (And.intro s6 t6))
 clear b6 s6 t6
 go_upto_region 4 with (refine wpl_storeSt rfl _ _ rfl g rfl (stB p2 (.slice a6 n6 d6) (.slice ar6 m6 dr6)) _ rfl P6 rfl rfl (st_one _ _ _ _ _ _ _) ?_;intro w7 n7 k7)
 have DS:=dispatch_st p2 a6 d6 ar6 dr6 w7 (fun j=>j=g) (H6.out.2.1.stp k7 (fun _ _ e=>e)) ((H6.out.2.2.step k7 (T:=fun j=>j=g) (fun _ _ e=>e)).read (Kept.refl _ _)) (fun j e=>by rw [e];exact n7.lt) p2_iv.few (Nat.le_trans p2_iv.cnt (by decide))
 rw [←HL6.out.1,← HL6.out.2,p3_a] at DS
 have H7:=Hd.mk (And.intro n7 (And.intro k7 H6.out.1))
 clear n7 k7 P6 H6
 go_wp2_with (refine wpl_loadSt rfl _ rfl g rfl _ H7.out.1 rfl ?_)
 go_at_call 12
 refine DS.mono ?_
 rintro e w8 ⟨⟨v8,u8,rfl,v8e,a9,c9,rfl,t9⟩,b8⟩
 clear DS
 obtain ⟨a8,d8,ar8,dr8,rfl,s8,t8⟩:=v8e
 rw [p3_c]
 obtain ⟨n8,hn8⟩:∃ n8,n8=(dsA p2).1.x.F.length:=⟨_,rfl⟩
 rw [←hn8]
 clear hn8 s8 t8
 have P8:=H7.out.1.kept (Kept.of_below b8 (fun _=>False)) id
 have H8:=Hd.mk (And.intro b8 t9)
 clear b8 t9
 go_upto_region 7 with (refine wpl_storeSt rfl _ _ rfl g rfl (stB (dsA p2).1 (.slice a8 n8 d8) (.slice ar8 1 dr8)) _ rfl P8 rfl rfl (st_one _ _ _ _ _ _ _) ?_;intro w10 n10 k10)
 obtain ⟨b,off,rfl,-,-,-,x2,-,-⟩:=(H8.out.2.read k10).2.2.at (k:=0) (by rw [p3_a];decide)
 rw [p3_b] at x2
 have c22:=n10.str.1
 have HE:Hd (Below w.heap.size w w10):=⟨by
  have h5:=H5.out
  have h7:=H7.out
  have h8:=H8.out
  have z1:=h5.2.1.size
  have z2:=h7.2.2.size
  have z3:=h7.2.1.size
  have z4:=h8.1.size
  have z0:=h5.2.2.1.size
  exact ((((h5.2.2.1.trans (h5.2.1.below z0 (fun j e=>by omega))).trans (h7.2.2.mono (by omega))).trans (h7.2.1.below (by omega) (fun j e=>by omega))).trans (h8.1.mono (by omega))).trans (k10.below (by omega) (fun j e=>by omega))⟩
 clear P8 n10 k10
 simp only [Nat.zero_mul,Nat.add_zero] at x2
 go_wp2
 go_ret
 exact ⟨rfl,HE.out⟩
end Go.Proofs.YtlgibnmoogbdcaaGreat
