/-
  The lines that the reference writes of a configuration.
-/
import Derived.Test.YthkdbphgiobcdaaGreatDoorE41
import Derived.Test.YthkdbphgiobcdaaGreatDoorE42
import Derived.Test.YthkdbphgiobcdaaGreatDoorE8
import Derived.Test.YthkdbphgiobcdaaGreatDoorE30
import Derived.Deep.CutBlock
import Derived.Deep.DeepCutAuto
namespace Go.Proofs.YthkdbphgiobcdaaGreatDoor
open Go.RowKit Go.Lib
theorem own_ne {B b t:Nat} {w:World} {v:Value} {L:List ByteArray} {cs:Array Value} (h:Blk w b t cs) (o:OwnT B w v L) (ht:t≠9) (e:v.ownBlock=some b):False:=by
 obtain ⟨cur,hb⟩:=owns_type o e
 exact h.ne hb ht rfl
theorem own_gone {B:Nat} {w w':World} {v:Value} {L:List ByteArray} (h:OwnT B w v L) (b:Below w.heap.size w w'):OwnT B w' v L:=owns_kept h (Kept.of_below b (fun _=>False)) (fun _ _=>id)
theorem by_ix0 (w:World):(Instr.index 160 (.agg #[.string ⟨#[110,111,110,101]⟩,.string ⟨#[117,115,101,114]⟩,.string ⟨#[115,112,97,99,101]⟩]) (.int .i64 0)).run Tryz.prog w=.ok (.string ⟨#[110,111,110,101]⟩) w:=by kernel_rfl
theorem by_ix1 (w:World):(Instr.index 160 (.agg #[.string ⟨#[110,111,110,101]⟩,.string ⟨#[117,115,101,114]⟩,.string ⟨#[115,112,97,99,101]⟩]) (.int .i64 1)).run Tryz.prog w=.ok (.string ⟨#[117,115,101,114]⟩) w:=by kernel_rfl
theorem by_ix2 (w:World):(Instr.index 160 (.agg #[.string ⟨#[110,111,110,101]⟩,.string ⟨#[117,115,101,114]⟩,.string ⟨#[115,112,97,99,101]⟩]) (.int .i64 2)).run Tryz.prog w=.ok (.string ⟨#[115,112,97,99,101]⟩) w:=by kernel_rfl
structure StL (w:World) (gc:Nat) (cf:Array Value) (L:List ByteArray) (v:Value) (W:World):Prop where
 bx:Blk W gc 25 cf
 own:OwnT w.heap.size W v L
 bel:Below w.heap.size w W
theorem StL.grown {w W W':World} {gc:Nat} {cf:Array Value} {L:List ByteArray} {v:Value} (h:StL w gc cf L v W) (b:Below W.heap.size W W'):StL w gc cf L v W' :=
 ⟨h.bx.kept (Kept.of_below b (fun _=>False)) id,own_gone h.own b,h.bel.trans (b.mono h.bel.size)⟩
theorem StL.put {w W W2:World} {gc:Nat} {cf:Array Value} {L:List ByteArray} {v v2:Value} {x:ByteArray} (h:StL w gc cf L v W) (o:W2.ownsRow w.heap.size 9 1 v2 (L.length+1) (L.map Value.string ++ [.string x])) (g:W.grownBy W2 v.ownBlock):StL w gc cf (L ++ [x]) v2 W2 :=
 ⟨h.bx.kept (Kept.of_grown (S:=fun k=>Value.ownBlock v=some k) g (fun _ e=>e)) (fun e=>own_ne h.bx h.own (by decide) e),OwnT.put o,h.bel.grown g h.bel.size (fun j hj=>(h.own.lt j hj).1)⟩
set_option maxRecDepth 20000 in
set_option maxHeartbeats 16000000 in
theorem rlines_ok (v:Value) (C:Cf) (w:World) (h:CfR w v C) (g:Wfc C) (nm:Nms C) (hb:Bnd 900 C) :
 Calls Tryz.prog 66 #[v] w fun e w'=>∃ u,e=.returned u∧OwnT w.heap.size w' u (rLines C)∧Below w.heap.size w w':=by
 obtain ⟨i0,hi,hz0,hz1,hz2⟩:=info_parts info9
 have HC:Hd (∀ W,Below w.heap.size w W→CfR W v C):=⟨fun W b=>h.carry b⟩
 obtain ⟨aL,cL,aS,cS,V0,rfl,-,-,-,hV0,hSc0,hRl0⟩:=h.ex
 have HSV:Hd (V0.length=C.schemas.length∧∀ W,Below w.heap.size w W→ScR W aS C.schemas V0∧∀ k (h:k<C.schemas.length) (h':k<V0.length),RlR W V0[k] C.schemas[k].rules):=⟨hV0,fun W b=>⟨hSc0.carry b,fun k h1 h2=>(hRl0 k h1 h2).carry b⟩⟩
 clear h hV0 hSc0 hRl0
 have HR:Hd (rLines C=rNum C++(C.levels.map lnLevel++C.schemas.flatMap rScL)):=⟨rfl⟩
 have HB:Hd (C.levels.length≤900∧C.schemas.length≤900∧∀ s∈C.schemas,s.rules.length≤900):=⟨hb.lv,hb.sc,fun s hs=>(hb.rl s hs).1⟩
 have HG:Hd (Wfc C∧Nms C):=⟨g,nm⟩
 clear hb
 have D0:=fun W=>rdig_ok C.total W g.t
 have D1:=fun W=>rdig_ok C.period W g.p
 have D2:=fun W=>rdig_ok C.perSeat W g.s
 have D3:=fun W=>rdig_ok C.most W g.m
 have k0:=dig_le C.total g.t
 have k1:=dig_le C.period g.p
 have k2:=dig_le C.perSeat g.s
 have k3:=dig_le C.most g.m
 clear g nm
 obtain ⟨x0,x1,x2,x3,L,S⟩:=C
 simp only at HC HB HSV D0 D1 D2 D3 k0 k1 k2 k3 ⊢
 have HNum:Hd (rNum ⟨x0,x1,x2,x3,L,S⟩=(if x0=0 then [] else [lnTotal x0])++((if x1=0 then [] else [lnPeriod x1])++(if x2=0∧x3=0 then [] else [lnSeats x2 x3]))):=⟨rfl⟩
 have e0:lnTotal x0=⟨#[116,111,116,97,108,32]⟩++digR x0:=rfl
 have e1:lnPeriod x1=⟨#[112,101,114,105,111,100,32]⟩++digR x1:=rfl
 have e2:lnSeats x2 x3=((⟨#[115,101,97,116,115,32]⟩++digR x2) ++ ⟨#[32]⟩)++digR x3:=rfl
 have HE:Hd (lnTotal x0=⟨#[116,111,116,97,108,32]⟩++digR x0∧lnPeriod x1=⟨#[112,101,114,105,111,100,32]⟩++digR x1∧lnSeats x2 x3=((⟨#[115,101,97,116,115,32]⟩++digR x2) ++ ⟨#[32]⟩)++digR x3):=⟨e0,e1,e2⟩
 clear e0 e1 e2
 generalize digR x0=g0 at *
 generalize digR x1=g1 at *
 generalize digR x2=g2 at *
 generalize digR x3=g3 at *
 obtain ⟨nL,hnL⟩:∃ n,n=L.length:=⟨_,rfl⟩
 obtain ⟨nS,hnS⟩:∃ n,n=S.length:=⟨_,rfl⟩
 have HN:Hd (nL=L.length∧nS=S.length):=⟨hnL,hnS⟩
 have nL9:nL≤900:=by rw [hnL];exact HB.out.1
 have nS9:nS≤900:=by rw [hnS];exact HB.out.2.1
 rw [←hnL,← hnS] at HC ⊢
 clear hnL hnS
 have AL:=alloc_below w (.cells #[.int .i64 x0,.int .i64 x1,.int .i64 x2,.int .i64 x3,.slice aL nL cL,.slice aS nS cS] 25)
 have NB:=Blk.new w 25 #[.int .i64 x0,.int .i64 x1,.int .i64 x2,.int .i64 x3,.slice aL nL cL,.slice aS nS cS]
 go_enter Tryz.func66,Tryz.ntmps66
 go_upto_region 1 with fail
 generalize w.alloc _=w1 at *
 have S0:Hd (StL w w.heap.size #[.int .i64 x0,.int .i64 x1,.int .i64 x2,.int .i64 x3,.slice aL nL cL,.slice aS nS cS] [] (.slice none 0 0) w1):=⟨NB,World.ownsRow_nil _ _ _ _,AL⟩
 clear AL NB
 obtain ⟨gc,hgc⟩:∃ gc,gc=w.heap.size:=⟨_,rfl⟩
 rw [←hgc] at S0 ⊢
 clear hgc
 have y0:(⟨#[116,111,116,97,108,32]⟩:ByteArray).size=6:=rfl
 have y1:(⟨#[112,101,114,105,111,100,32]⟩:ByteArray).size=7:=rfl
 have y2:(⟨#[115,101,97,116,115,32]⟩:ByteArray).size=6:=rfl
 have ys:(⟨#[32]⟩:ByteArray).size=1:=rfl
 have c0:=S0.out.bx.cellv (v:=.int .i64 x0) 0 rfl
 go_upto_if 16 with fail
 go_cut [3] from 14 to 23 (fun s3 wx=>Hd (StL w gc #[.int .i64 x0,.int .i64 x1,.int .i64 x2,.int .i64 x3,.slice aL nL cL,.slice aS nS cS] (if x0=0 then [] else [lnTotal x0]) s3 wx))
 case first =>
  by_cases z:x0=0
  ·have zb:(x0 != 0)=false:=by simp [z]
   have G:Hd (StL w gc #[.int .i64 x0,.int .i64 x1,.int .i64 x2,.int .i64 x3,.slice aL nL cL,.slice aS nS cS] (if x0=0 then [] else [lnTotal x0]) (.slice none 0 0) w1):=⟨by rw [if_pos z];exact S0.out⟩
   clear z
   go_wp2_with fail
   go_meet
   exact G
  ·have zb:(x0 != 0)=true:=by simp [z]
   have HZ:Hd ((if x0=0 then [] else [lnTotal x0])=([]:List ByteArray) ++ [⟨#[116,111,116,97,108,32]⟩++g0]):=⟨by rw [if_neg z,HE.out.1];rfl⟩
   clear z
   go_wp2_with fail
   go_at_call 121
   refine (D0 _).mono ?_
   rintro e wa ⟨rfl,ba⟩
   have SA:Hd (StL w gc #[.int .i64 x0,.int .i64 x1,.int .i64 x2,.int .i64 x3,.slice aL nL cL,.slice aS nS cS] [] (.slice none 0 0) wa):=⟨S0.out.grown ba⟩
   have sz:=SA.out.bel.size
   clear ba c0
   go_wp2_with (at_builtin;refine wpList_append_own _ rfl _ _ 52 rfl w.heap.size 9 i0 (.string ByteArray.empty) 1 16 Tryz.underlying52 hi hz0 hz1 hz2 rfl (by decide) _ _ _ rfl (SA.out.own.alloc _) ⟨wa.heap.size,0,none⟩ 1 1 [.string (⟨#[116,111,116,97,108,32]⟩++g0)] rfl rfl (one_newT _ _) (one_cellT _) (by unfold maxLen;first | omega | (simp;done) | (simp;omega)) (by first | omega | (simp;done) | (simp;omega)) (by simp;omega) ?_;intro vd1 wd1 hown1 hgrow1 _;have P1:Hd (StL w gc #[.int .i64 x0,.int .i64 x1,.int .i64 x2,.int .i64 x3,.slice aL nL cL,.slice aS nS cS] (([]:List ByteArray) ++ [⟨#[116,111,116,97,108,32]⟩++g0]) vd1 wd1):=⟨(SA.out.grown (alloc_below _ _)).put hown1 hgrow1⟩)
   go_meet
   exact ⟨by rw [HZ.out];exact P1.out⟩
 case rest =>
  clear c0 S0 D0 k0 y0
  obtain ⟨vA,rfl⟩:∃ vA:Value,vA=u3:=⟨_,rfl⟩
  obtain ⟨wA,rfl⟩:∃ wA:World,wA=wc:=⟨_,rfl⟩
  obtain ⟨L1,hL1⟩:∃ L1,L1=(if x0=0 then ([]:List ByteArray) else [lnTotal x0]):=⟨_,rfl⟩
  have l1:L1.length≤1:=by rw [hL1];split <;> simp
  have HL1:Hd (L1=if x0=0 then ([]:List ByteArray) else [lnTotal x0]):=⟨hL1⟩
  rw [←hL1] at hcut
  have SA:=hcut
  clear hL1 hcut
  have c1:=SA.out.bx.cellv (v:=.int .i64 x1) 1 rfl
  go_upto_if 26 with fail
  go_cut [3] from 24 to 33 (fun s3 wx=>Hd (StL w gc #[.int .i64 x0,.int .i64 x1,.int .i64 x2,.int .i64 x3,.slice aL nL cL,.slice aS nS cS] (L1++(if x1=0 then [] else [lnPeriod x1])) s3 wx))
  case first =>
   by_cases z:x1=0
   ·have zb:(x1 != 0)=false:=by simp [z]
    have G:Hd (StL w gc #[.int .i64 x0,.int .i64 x1,.int .i64 x2,.int .i64 x3,.slice aL nL cL,.slice aS nS cS] (L1++(if x1=0 then [] else [lnPeriod x1])) vA wA):=⟨by rw [if_pos z,List.append_nil];exact SA.out⟩
    clear z
    go_wp2_with fail
    go_meet
    exact G
   ·have zb:(x1 != 0)=true:=by simp [z]
    have HZ:Hd ((L1++(if x1=0 then [] else [lnPeriod x1]))=L1 ++ [⟨#[112,101,114,105,111,100,32]⟩++g1]):=⟨by rw [if_neg z,HE.out.2.1]⟩
    clear z
    go_wp2_with fail
    go_at_call 121
    refine (D1 _).mono ?_
    rintro e wb ⟨rfl,ba⟩
    have SB:Hd (StL w gc #[.int .i64 x0,.int .i64 x1,.int .i64 x2,.int .i64 x3,.slice aL nL cL,.slice aS nS cS] L1 vA wb):=⟨SA.out.grown ba⟩
    have sz:=SB.out.bel.size
    clear ba c1
    go_wp2_with (at_builtin;refine wpList_append_own _ rfl _ _ 52 rfl w.heap.size 9 i0 (.string ByteArray.empty) 1 16 Tryz.underlying52 hi hz0 hz1 hz2 rfl (by decide) _ _ _ rfl (SB.out.own.alloc _) ⟨wb.heap.size,0,none⟩ 1 1 [.string (⟨#[112,101,114,105,111,100,32]⟩++g1)] rfl rfl (one_newT _ _) (one_cellT _) (by unfold maxLen;first | omega | (simp;done) | (simp;omega)) (by first | omega | (simp;done) | (simp;omega)) (by simp;omega) ?_;intro vd2 wd2 hown2 hgrow2 _;have P2:Hd (StL w gc #[.int .i64 x0,.int .i64 x1,.int .i64 x2,.int .i64 x3,.slice aL nL cL,.slice aS nS cS] (L1 ++ [⟨#[112,101,114,105,111,100,32]⟩++g1]) vd2 wd2):=⟨(SB.out.grown (alloc_below _ _)).put hown2 hgrow2⟩)
    go_meet
    exact ⟨by rw [HZ.out];exact P2.out⟩
  case rest =>
   clear c1 SA D1 k1 y1
   obtain ⟨vB,rfl⟩:∃ vB:Value,vB=u3:=⟨_,rfl⟩
   obtain ⟨wB,rfl⟩:∃ wB:World,wB=wc:=⟨_,rfl⟩
   obtain ⟨L2,hL2⟩:∃ L2,L2=L1++(if x1=0 then ([]:List ByteArray) else [lnPeriod x1]):=⟨_,rfl⟩
   have l2:L2.length≤2:=by rw [hL2,List.length_append];split <;> simp <;> omega
   have HL2:Hd (L2=(if x0=0 then ([]:List ByteArray) else [lnTotal x0])++(if x1=0 then [] else [lnPeriod x1])):=⟨by rw [hL2,HL1.out]⟩
   rw [←hL2] at hcut
   have SB:=hcut
   clear hL2 hcut HL1 l1
   have c2:=SB.out.bx.cellv (v:=.int .i64 x2) 2 rfl
   have c3:=SB.out.bx.cellv (v:=.int .i64 x3) 3 rfl
   obtain ⟨bz,hbz⟩:∃ bz:Bool,bz=!decide (x2=0∧x3=0):=⟨_,rfl⟩
   have HBZ:Hd (bz=!decide (x2=0∧x3=0)):=⟨hbz⟩
   clear hbz
   go_upto_region 6 with fail
   go_cut [41] from 34 to 40 (fun s41 wx=>s41=.bool bz∧wx=wB)
   case first =>
    by_cases a:x2=0
    ·have zb:(x2 != 0)=false:=by simp [a]
     by_cases c:x3=0
     ·have zc:(x3 != 0)=false:=by simp [c]
      have E:bz=false:=by rw [HBZ.out,decide_eq_true ⟨a,c⟩];rfl
      subst E
      clear a c HBZ
      go_wp2_with fail
      go_meet
      exact ⟨rfl,rfl⟩
     ·have zc:(x3 != 0)=true:=by simp [c]
      have E:bz=true:=by rw [HBZ.out,decide_eq_false (fun q=>c q.2)];rfl
      subst E
      clear a c HBZ
      go_wp2_with fail
      go_meet
      exact ⟨rfl,rfl⟩
    ·have zb:(x2 != 0)=true:=by simp [a]
     have E:bz=true:=by rw [HBZ.out,decide_eq_false (fun q=>a q.1)];rfl
     subst E
     clear a HBZ
     go_wp2_with fail
     go_meet
     exact ⟨rfl,rfl⟩
   case rest =>
    obtain ⟨rfl,rfl⟩:=hcut
    go_upto_if 41 with fail
    go_cut [3] from 42 to 53 (fun s3 wx=>Hd (StL w gc #[.int .i64 x0,.int .i64 x1,.int .i64 x2,.int .i64 x3,.slice aL nL cL,.slice aS nS cS] (L2++(if x2=0∧x3=0 then [] else [lnSeats x2 x3])) s3 wx))
    case first =>
     cases bz with
     | false =>
      have z:x2=0∧x3=0:=by
       have h:=HBZ.out
       by_cases q:x2=0∧x3=0
       ·exact q
       ·rw [decide_eq_false q] at h;cases h
      have G:Hd (StL w gc #[.int .i64 x0,.int .i64 x1,.int .i64 x2,.int .i64 x3,.slice aL nL cL,.slice aS nS cS] (L2++(if x2=0∧x3=0 then [] else [lnSeats x2 x3])) vB wc):=⟨by rw [if_pos z,List.append_nil];exact SB.out⟩
      clear z HBZ
      go_wp2_with fail
      go_meet
      exact G
     | true =>
      have z:¬ (x2=0∧x3=0):=fun q=>by
       have h:=HBZ.out
       rw [decide_eq_true q] at h;cases h
      have HZ:Hd ((L2++(if x2=0∧x3=0 then [] else [lnSeats x2 x3]))=L2 ++ [((⟨#[115,101,97,116,115,32]⟩++g2) ++ ⟨#[32]⟩)++g3]):=⟨by rw [if_neg z,HE.out.2.2]⟩
      clear z HBZ
      go_upto_region 7 with fail
      have DR:Below wc.heap.size wc wc.drew:=⟨rfl,rfl,rfl,Nat.le_refl _,fun _ _=>rfl⟩
      have SD:Hd (StL w gc #[.int .i64 x0,.int .i64 x1,.int .i64 x2,.int .i64 x3,.slice aL nL cL,.slice aS nS cS] L2 vB wc.drew):=⟨SB.out.grown DR⟩
      have A0:=SD.out.bx
      refine AnyG.start (T:=fun w'=>Blk w' gc 25 #[.int .i64 x0,.int .i64 x1,.int .i64 x2,.int .i64 x3,.slice aL nL cL,.slice aS nS cS]) (U:=fun _=>True) (j0:=100) (by kernel_rfl) ?_
      clear DR c2 c3 SB
      generalize wc.drew=w0 at *
      refine .tq 0 42 A0 ?_;simp only [tkA,tkB,tkC]
      refine .tq 1 43 A0 ?_;simp only [tkA,tkB,tkC]
      refine .tq 2 44 A0 ?_ (hy:=fun w hSw=>by have s4:=hSw.cellv (v:=.int .i64 x2) 2 rfl;go_simp;rfl);simp only [tkA,tkB,tkC]
      refine .tq 6 48 A0 ?_;simp only [tkA,tkB,tkC]
      refine .tq 7 49 A0 ?_ (hy:=fun w hSw=>by have s4:=hSw.cellv (v:=.int .i64 x3) 3 rfl;go_simp;rfl);simp only [tkA,tkB,tkC]
      refine AnyG.ready (rs:=[3]) (by kernel_rfl) (by simp) ?_
      refine AllG.cons rfl (fun K hK=>?_) AllG.nil
      go_simp
      refine (D2 _).mono ?_
      rintro e wk1 ⟨rfl,bk1⟩
      have Ak1:=A0.kept (Kept.of_below bk1 (fun _=>False)) id
      have Sk1:Hd (StL w gc #[.int .i64 x0,.int .i64 x1,.int .i64 x2,.int .i64 x3,.slice aL nL cL,.slice aS nS cS] L2 vB wk1):=⟨SD.out.grown bk1⟩
      refine hK.out _ _ ⟨Ak1,fun _=>trivial⟩ ?_
      clear hK K bk1 A0 SD
      refine .tq 4 46 Ak1 ?_;simp only [tkA,tkB,tkC]
      refine .tq 5 47 Ak1 ?_;simp only [tkA,tkB,tkC]
      refine AnyG.ready (rs:=[8]) (by kernel_rfl) (by simp) ?_
      refine AllG.cons rfl (fun K hK=>?_) AllG.nil
      go_simp
      refine (D3 _).mono ?_
      rintro e wk2 ⟨rfl,bk2⟩
      have Ak2:=Ak1.kept (Kept.of_below bk2 (fun _=>False)) id
      have Sk2:Hd (StL w gc #[.int .i64 x0,.int .i64 x1,.int .i64 x2,.int .i64 x3,.slice aL nL cL,.slice aS nS cS] L2 vB wk2):=⟨Sk1.out.grown bk2⟩
      refine hK.out _ _ ⟨Ak2,fun _=>trivial⟩ ?_
      clear hK K bk2 Ak1 Sk1
      refine .tq 9 51 Ak2 ?_;simp only [tkA,tkB,tkC]
      refine AnyG.ready (rs:=[10]) (by kernel_rfl) (by simp) ?_
      refine AllG.cons rfl (fun K hK=>?_) AllG.nil
      go_simp
      have AL3:=alloc_below wk2 (.cells #[.string (((⟨#[115,101,97,116,115,32]⟩++g2) ++ ⟨#[32]⟩)++g3)] 9)
      have Ak3:=Ak2.kept (Kept.of_below AL3 (fun _=>False)) id
      have Sk3:Hd (StL w gc #[.int .i64 x0,.int .i64 x1,.int .i64 x2,.int .i64 x3,.slice aL nL cL,.slice aS nS cS] L2 vB (wk2.alloc (.cells #[.string (((⟨#[115,101,97,116,115,32]⟩++g2) ++ ⟨#[32]⟩)++g3)] 9))):=⟨Sk2.out.grown AL3⟩
      have NW3:=one_newT wk2 (((⟨#[115,101,97,116,115,32]⟩++g2) ++ ⟨#[32]⟩)++g3)
      refine hK.out _ _ ⟨Ak3,fun _=>trivial⟩ ?_
      clear hK K AL3 Ak2 Sk2
      generalize wk2.alloc (.cells #[.string (((⟨#[115,101,97,116,115,32]⟩++g2) ++ ⟨#[32]⟩)++g3)] 9)=wk3 at *
      generalize wk2.heap.size=gk3 at *
      refine AnyG.ready (rs:=[11]) (by kernel_rfl) (by simp) ?_
      refine AllG.cons rfl (fun K hK=>?_) AllG.nil
      have szk:=Sk3.out.bel.size
      refine step_append_lies wk3 rfl (.tmp 42) (.tmp 52) 52 rfl w.heap.size 9 i0 (.string ByteArray.empty) 1 16 Tryz.underlying52 hi hz0 hz1 hz2 rfl (by decide) _ _ _ (by simp [Act.eval]) Sk3.out.own ⟨gk3,0,none⟩ 1 1 [.string (((⟨#[115,101,97,116,115,32]⟩++g2) ++ ⟨#[32]⟩)++g3)] (by simp [Act.eval]) rfl NW3 (one_cellT _) (by decide) (by unfold maxLen;first | omega | (simp;done) | (simp;omega)) (by first | omega | (simp;done) | (simp;omega)) szk _ rfl ?_
      intro q8 cap8 w8 hown hgrow hat hlt
      have S8:Hd (StL w gc #[.int .i64 x0,.int .i64 x1,.int .i64 x2,.int .i64 x3,.slice aL nL cL,.slice aS nS cS] (L2 ++ [((⟨#[115,101,97,116,115,32]⟩++g2) ++ ⟨#[32]⟩)++g3]) (.slice (some ⟨q8,0,none⟩) (L2.length+1) cap8) w8):=⟨Sk3.out.put hown hgrow⟩
      have A8:=Ak3.kept (Kept.of_grown (S:=fun k=>Value.ownBlock vB=some k) hgrow (fun k e=>e)) (fun e=>own_ne Ak3 Sk3.out.own (by decide) e)
      refine hK.out _ _ ⟨A8,fun _=>trivial⟩ ?_
      clear hK K
      refine AnyG.putAt 53 rfl ?_
      simp only [List.setIfInBounds_toArray,List.set_cons_zero,List.set_cons_succ]
      refine .tq 12 3 A8 ?_;simp only [tkA,tkB,tkC]
      refine AnyG.done (by kernel_rfl) ?_ _
      go_wp2_with fail
      go_meet
      exact ⟨by rw [HZ.out];exact S8.out⟩
    case rest =>
     clear c2 c3 SB D2 D3 k2 k3 y2
     obtain ⟨vC,rfl⟩:∃ vC:Value,vC=u3:=⟨_,rfl⟩
     obtain ⟨wC,rfl⟩:∃ wC:World,wC=wc:=⟨_,rfl⟩
     obtain ⟨L3,hL3⟩:∃ L3,L3=L2++(if x2=0∧x3=0 then ([]:List ByteArray) else [lnSeats x2 x3]):=⟨_,rfl⟩
     have l3:L3.length≤3:=by rw [hL3,List.length_append];split <;> simp <;> omega
     have HL3:Hd (L3=rNum ⟨x0,x1,x2,x3,L,S⟩):=⟨by rw [hL3,HL2.out,HNum.out,List.append_assoc]⟩
     rw [←hL3] at hcut
     have SC:=hcut
     clear hL3 hcut HL2 l2 HNum HE HBZ
     go_wp2_with fail
     go_loopw [3,4,5,6,7,8] (fun s3 s4 _ _ _ _ wr=>∃ (k:Nat) (M:List ByteArray),k≤nL∧s4=.int .i64 k∧M.length≤3+k∧Hd (M=L3++(L.take k).map lnLevel∧StL w gc #[.int .i64 x0,.int .i64 x1,.int .i64 x2,.int .i64 x3,.slice aL nL cL,.slice aS nS cS] M s3 wr)) (fun _ s4 _ _ _ _ _=>nL - (intOf s4).toNat)
     case atStart=>exact ⟨0,L3,Nat.zero_le _,rfl,by omega,⟨by simp,SC.out⟩⟩
     case round =>
      obtain ⟨k,M,hk,rfl,hM,hI⟩:=hrel
      clear SC
      have c4:=hI.out.2.bx.cellv (v:=.slice aL nL cL) 4 rfl
      by_cases hlt:k<nL
      ·have hkL:k<L.length:=by rw [←HN.out.1];exact hlt
       obtain ⟨aL',cL',aS',cS',V,e',-,-,hLv,-⟩:=(HC.out wr hI.out.2.bel).ex
       obtain ⟨b,off,rfl,hb,hcs⟩:∃ b off,aL=some ⟨b,off,none⟩∧b<wr.heap.size∧∀ k (h:k<L.length),∀ j,j<10→wr.cell? ⟨b,off+k*10+j,none⟩=(lvC L[k])[j]?:=by
        injection e' with e'
        simp only [Array.mk.injEq,List.cons.injEq,Value.slice.injEq,and_true] at e'
        obtain ⟨-,-,-,-,⟨rfl,-⟩,-⟩:=e'
        exact hLv (by show 0<L.length;omega)
       have cs:=hcs k hkL
       have GL:=HG.out.1.lv L[k] (List.getElem_mem hkL)
       have n0:=HG.out.2.lv L[k] (List.getElem_mem hkL)
       have E2:=fun W=>rdig_ok L[k].shares W GL.i2
       have m2:=dig_le L[k].shares GL.i2
       have E3:=fun W=>rdig_ok L[k].lend W GL.i3
       have m3:=dig_le L[k].lend GL.i3
       have E4:=fun W=>rdig_ok L[k].borrow W GL.i4
       have m4:=dig_le L[k].borrow GL.i4
       have E5:=fun W=>rdig_ok L[k].queues W GL.i5
       have m5:=dig_le L[k].queues GL.i5
       have E6:=fun W=>rdig_ok L[k].hand W GL.i6
       have m6:=dig_le L[k].hand GL.i6
       have E7:=fun W=>rdig_ok L[k].length W GL.i7
       have m7:=dig_le L[k].length GL.i7
       have E8:=fun W=>rdig_ok L[k].wait W GL.i8
       have m8:=dig_le L[k].wait GL.i8
       have E9:=fun W=>rdig_ok L[k].guess W GL.i9
       have m9:=dig_le L[k].guess GL.i9
       have mb:=bor_le L[k].borrow GL.i4
       have HBo:Hd (borR L[k].borrow=if L[k].borrow=-1 then tAll else digR L[k].borrow):=⟨rfl⟩
       have HLm:Hd (lims L[k]=((((⟨#[32]⟩++digR L[k].shares) ++ ⟨#[32]⟩)++digR L[k].lend) ++ ⟨#[32]⟩)++borR L[k].borrow):=⟨rfl⟩
       have HLn:Hd (lnLevel L[k]=if L[k].kind=1 then (⟨#[108,101,118,101,108,32]⟩++L[k].name) ++ ⟨#[32,101,120,101,109,112,116]⟩ else if L[k].kind=2 then (⟨#[108,101,118,101,108,32]⟩++L[k].name)++(lims L[k] ++ ⟨#[32,114,101,106,101,99,116]⟩) else if L[k].kind=3 then (⟨#[108,101,118,101,108,32]⟩++L[k].name)++((((((((((lims L[k] ++ ⟨#[32,113,117,101,117,101,32]⟩)++digR L[k].queues) ++ ⟨#[32]⟩)++digR L[k].hand) ++ ⟨#[32]⟩)++digR L[k].length) ++ ⟨#[32]⟩)++digR L[k].wait) ++ ⟨#[32]⟩)++digR L[k].guess) else ⟨#[108,101,118,101,108,32]⟩++L[k].name):=⟨rfl⟩
       have HNX:Hd (M ++ [lnLevel L[k]]=L3++(L.take (k+1)).map lnLevel):=⟨by rw [hI.out.1,List.append_assoc,List.take_succ_eq_append_getElem hkL,List.map_append];rfl⟩
       have z0:wr.cell? ⟨b,off+k*10,none⟩=some (.string L[k].name):=cs 0 (by decide)
       have z1:wr.cell? ⟨b,off+k*10+1,none⟩=some (.int .i64 L[k].kind):=cs 1 (by decide)
       have z2:wr.cell? ⟨b,off+k*10+2,none⟩=some (.int .i64 L[k].shares):=cs 2 (by decide)
       have z3:wr.cell? ⟨b,off+k*10+3,none⟩=some (.int .i64 L[k].lend):=cs 3 (by decide)
       have z4:wr.cell? ⟨b,off+k*10+4,none⟩=some (.int .i64 L[k].borrow):=cs 4 (by decide)
       have z5:wr.cell? ⟨b,off+k*10+5,none⟩=some (.int .i64 L[k].queues):=cs 5 (by decide)
       have z6:wr.cell? ⟨b,off+k*10+6,none⟩=some (.int .i64 L[k].hand):=cs 6 (by decide)
       have z7:wr.cell? ⟨b,off+k*10+7,none⟩=some (.int .i64 L[k].length):=cs 7 (by decide)
       have z8:wr.cell? ⟨b,off+k*10+8,none⟩=some (.int .i64 L[k].wait):=cs 8 (by decide)
       have z9:wr.cell? ⟨b,off+k*10+9,none⟩=some (.int .i64 L[k].guess):=cs 9 (by decide)
       have AL:=alloc_below wr (.cells (lvA L[k]) 43)
       have NL:=Blk.new wr 43 (lvA L[k])
       have S4:Hd (StL w gc #[.int .i64 x0,.int .i64 x1,.int .i64 x2,.int .i64 x3,.slice (some ⟨b,off,none⟩) nL cL,.slice aS nS cS] M u3 (wr.alloc (.cells (lvA L[k]) 43))):=⟨hI.out.2.grown AL⟩
       have HK:Hd (k<nL):=⟨hlt⟩
       clear hI hcs cs hLv e' hb AL GL
       unfold lvA at S4 NL
       generalize L[k]=l at *
       clear hkL
       have i1:(k:Int)<(nL:Int):=by omega
       go_upto_region 12 with fail
       generalize wr.alloc _=w4 at *
       generalize wr.heap.size=g4 at *
       clear z0 z1 z2 z3 z4 z5 z6 z7 z8 z9 c4
       have d0:=NL.cellv (v:=.string l.name) 0 rfl
       have d1:=NL.cellv (v:=.int .i64 l.kind) 1 rfl
       have d2:=NL.cellv (v:=.int .i64 l.shares) 2 rfl
       have d3:=NL.cellv (v:=.int .i64 l.lend) 3 rfl
       have d4:=NL.cellv (v:=.int .i64 l.borrow) 4 rfl
       have d5:=NL.cellv (v:=.int .i64 l.queues) 5 rfl
       have d6:=NL.cellv (v:=.int .i64 l.hand) 6 rfl
       have d7:=NL.cellv (v:=.int .i64 l.length) 7 rfl
       have d8:=NL.cellv (v:=.int .i64 l.wait) 8 rfl
       have d9:=NL.cellv (v:=.int .i64 l.guess) 9 rfl
       have yl:(⟨#[108,101,118,101,108,32]⟩:ByteArray).size=6:=rfl
       have ye:(⟨#[32,101,120,101,109,112,116]⟩:ByteArray).size=7:=rfl
       have yr:(⟨#[32,114,101,106,101,99,116]⟩:ByteArray).size=7:=rfl
       have yq:(⟨#[32,113,117,101,117,101,32]⟩:ByteArray).size=7:=rfl
       have zb:(⟨#[108,101,118,101,108,32]⟩++l.name).size≤1006:=by rw [cat_size];omega
       go_upto_region 13 with fail
       generalize ⟨#[108,101,118,101,108,32]⟩++l.name=bs at *
       generalize digR l.shares=h2 at *
       generalize digR l.lend=h3 at *
       generalize digR l.borrow=h4 at *
       generalize digR l.queues=h5 at *
       generalize digR l.hand=h6 at *
       generalize digR l.length=h7 at *
       generalize digR l.wait=h8 at *
       generalize digR l.guess=h9 at *
       go_wp2_with fail
       go_at_call 121
       refine (E4 _).mono ?_
       rintro e w5 ⟨rfl,b5⟩
       have S5:Hd (StL w gc #[.int .i64 x0,.int .i64 x1,.int .i64 x2,.int .i64 x3,.slice (some ⟨b,off,none⟩) nL cL,.slice aS nS cS] M u3 w5):=⟨S4.out.grown b5⟩
       have N5:=NL.kept (Kept.of_below b5 (fun _=>False)) id
       clear b5 S4 NL E4 d0 d1 d2 d3 d4 d5 d6 d7 d8 d9
       have d4:=N5.cellv (v:=.int .i64 l.borrow) 4 rfl
       go_upto_if 74 with fail
       go_cut [7] from 54 to 132 (fun s7 wx=>s7=.string (borR l.borrow)∧wx=w5)
       case first =>
        by_cases z:l.borrow=-1
        ·have zb':(l.borrow == -1)=true:=by simp [z]
         have E:Hd (borR l.borrow=⟨#[97,108,108]⟩):=⟨by rw [HBo.out,if_pos z];rfl⟩
         clear z
         go_wp2_with fail
         go_meet
         exact ⟨by rw [E.out],rfl⟩
        ·have zb':(l.borrow == -1)=false:=by simpa using z
         have E:Hd (borR l.borrow=h4):=⟨by rw [HBo.out,if_neg z]⟩
         clear z
         go_wp2_with fail
         go_meet
         exact ⟨by rw [E.out],rfl⟩
       case rest =>
        obtain ⟨rfl,rfl⟩:=hcut
        clear d4 HBo m4
        generalize borR l.borrow=hb4 at *
        go_upto_region 16 with fail
        have DR:Below wc.heap.size wc wc.drew:=⟨rfl,rfl,rfl,Nat.le_refl _,fun _ _=>rfl⟩
        have SD:Hd (StL w gc #[.int .i64 x0,.int .i64 x1,.int .i64 x2,.int .i64 x3,.slice (some ⟨b,off,none⟩) nL cL,.slice aS nS cS] M u3 wc.drew):=⟨S5.out.grown DR⟩
        have A0:=N5.kept (Kept.of_below DR (fun _=>False)) id
        refine AnyG.start (T:=fun w'=>Blk w' g4 43 #[.string l.name,.int .i64 l.kind,.int .i64 l.shares,.int .i64 l.lend,.int .i64 l.borrow,.int .i64 l.queues,.int .i64 l.hand,.int .i64 l.length,.int .i64 l.wait,.int .i64 l.guess]) (U:=fun _=>True) (j0:=100) (by kernel_rfl) ?_
        clear DR S5 N5
        generalize wc.drew=w0 at *
        refine .tq 0 75 A0 ?_;simp only [tkA,tkB,tkC]
        refine .tq 1 76 A0 ?_ (hy:=fun w hSw=>by have s4:=hSw.cellv (v:=.int .i64 l.shares) 2 rfl;go_simp;rfl);simp only [tkA,tkB,tkC]
        refine .tq 5 80 A0 ?_;simp only [tkA,tkB,tkC]
        refine .tq 6 81 A0 ?_ (hy:=fun w hSw=>by have s4:=hSw.cellv (v:=.int .i64 l.lend) 3 rfl;go_simp;rfl);simp only [tkA,tkB,tkC]
        refine .tq 10 85 A0 ?_;simp only [tkA,tkB,tkC]
        refine AnyG.ready (rs:=[2]) (by kernel_rfl) (by simp) ?_
        refine AllG.cons rfl (fun K hK=>?_) AllG.nil
        go_simp
        refine (E2 _).mono ?_
        rintro e wk1 ⟨rfl,bk1⟩
        have Ak1:=A0.kept (Kept.of_below bk1 (fun _=>False)) id
        have Sk1:Hd (StL w gc #[.int .i64 x0,.int .i64 x1,.int .i64 x2,.int .i64 x3,.slice (some ⟨b,off,none⟩) nL cL,.slice aS nS cS] M u3 wk1):=⟨SD.out.grown bk1⟩
        refine hK.out _ _ ⟨Ak1,fun _=>trivial⟩ ?_
        clear hK K bk1 A0 SD
        refine .tq 3 78 Ak1 ?_;simp only [tkA,tkB,tkC]
        refine .tq 4 79 Ak1 ?_;simp only [tkA,tkB,tkC]
        refine AnyG.ready (rs:=[7]) (by kernel_rfl) (by simp) ?_
        refine AllG.cons rfl (fun K hK=>?_) AllG.nil
        go_simp
        refine (E3 _).mono ?_
        rintro e wk2 ⟨rfl,bk2⟩
        have Ak2:=Ak1.kept (Kept.of_below bk2 (fun _=>False)) id
        have Sk2:Hd (StL w gc #[.int .i64 x0,.int .i64 x1,.int .i64 x2,.int .i64 x3,.slice (some ⟨b,off,none⟩) nL cL,.slice aS nS cS] M u3 wk2):=⟨Sk1.out.grown bk2⟩
        refine hK.out _ _ ⟨Ak2,fun _=>trivial⟩ ?_
        clear hK K bk2 Ak1 Sk1
        refine .tq 8 83 Ak2 ?_;simp only [tkA,tkB,tkC]
        refine .tq 9 84 Ak2 ?_;simp only [tkA,tkB,tkC]
        refine .tq 11 86 Ak2 ?_;simp only [tkA,tkB,tkC]
        refine .tq 12 8 Ak2 ?_;simp only [tkA,tkB,tkC]
        refine AnyG.done (by kernel_rfl) ?_ _
        have S6:=Sk2
        have N6:=Ak2
        have w6e:wk2=wk2:=rfl
        have lz:(((((⟨#[32]⟩++h2) ++ ⟨#[32]⟩)++h3) ++ ⟨#[32]⟩)++hb4).size≤70:=by simp only [cat_size];omega
        rw [←HLm.out] at lz
        go_upto_region 17 with fail
        rw [←HLm.out]
        clear HLm
        generalize lims l=lm at *
        have d1:=N6.cellv (v:=.int .i64 l.kind) 1 rfl
        have sz:=S6.out.bel.size
        by_cases k1:l.kind=1
        ·have kb1:(l.kind == 1)=true:=by simp [k1]
         have HLX:Hd (lnLevel l=bs ++ ⟨#[32,101,120,101,109,112,116]⟩):=⟨by rw [HLn.out,if_pos k1]⟩
         clear k1 HLn
         go_wp2_with (at_builtin;refine wpList_append_own _ rfl _ _ 52 rfl w.heap.size 9 i0 (.string ByteArray.empty) 1 16 Tryz.underlying52 hi hz0 hz1 hz2 rfl (by decide) _ _ _ rfl (S6.out.own.alloc _) ⟨wk2.heap.size,0,none⟩ 1 1 [.string (bs ++ ⟨#[32,101,120,101,109,112,116]⟩)] rfl rfl (one_newT _ _) (one_cellT _) (by unfold maxLen;first | omega | (simp;done) | (simp;omega)) (by first | omega | (simp;done) | (simp;omega)) (by simp;omega) ?_;intro vd11 wd11 hown11 hgrow11 _;have P11:Hd (StL w gc #[.int .i64 x0,.int .i64 x1,.int .i64 x2,.int .i64 x3,.slice (some ⟨b,off,none⟩) nL cL,.slice aS nS cS] (M ++ [bs ++ ⟨#[32,101,120,101,109,112,116]⟩]) vd11 wd11):=⟨(S6.out.grown (alloc_below _ _)).put hown11 hgrow11⟩)
         go_roundw
         case rel =>
          first
           | exact ⟨k+1,_,HK.out,by go_num,by simp;omega,⟨by rw [←HNX.out,HLX.out],P11.out⟩⟩
           | ((repeat apply Exists.intro);exact ⟨⟨k+1,_,HK.out,by go_num,by simp;omega,⟨by rw [←HNX.out,HLX.out],P11.out⟩⟩,rfl⟩)
         case measure=>have:=HK.out;simp [intOf];omega
        have kb1:(l.kind == 1)=false:=by simpa using k1
        by_cases k2:l.kind=2
        ·have kb2:(l.kind == 2)=true:=by simp [k2]
         have HLX:Hd (lnLevel l=bs++(lm ++ ⟨#[32,114,101,106,101,99,116]⟩)):=⟨by rw [HLn.out,if_neg k1,if_pos k2]⟩
         clear k1 k2 HLn
         go_wp2_with (at_builtin;refine wpList_append_own _ rfl _ _ 52 rfl w.heap.size 9 i0 (.string ByteArray.empty) 1 16 Tryz.underlying52 hi hz0 hz1 hz2 rfl (by decide) _ _ _ rfl (S6.out.own.alloc _) ⟨wk2.heap.size,0,none⟩ 1 1 [.string (bs++(lm ++ ⟨#[32,114,101,106,101,99,116]⟩))] rfl rfl (one_newT _ _) (one_cellT _) (by unfold maxLen;first | omega | (simp;done) | (simp;omega)) (by first | omega | (simp;done) | (simp;omega)) (by simp;omega) ?_;intro vd12 wd12 hown12 hgrow12 _;have P12:Hd (StL w gc #[.int .i64 x0,.int .i64 x1,.int .i64 x2,.int .i64 x3,.slice (some ⟨b,off,none⟩) nL cL,.slice aS nS cS] (M ++ [bs++(lm ++ ⟨#[32,114,101,106,101,99,116]⟩)]) vd12 wd12):=⟨(S6.out.grown (alloc_below _ _)).put hown12 hgrow12⟩)
         go_roundw
         case rel =>
          first
           | exact ⟨k+1,_,HK.out,by go_num,by simp;omega,⟨by rw [←HNX.out,HLX.out],P12.out⟩⟩
           | ((repeat apply Exists.intro);exact ⟨⟨k+1,_,HK.out,by go_num,by simp;omega,⟨by rw [←HNX.out,HLX.out],P12.out⟩⟩,rfl⟩)
         case measure=>have:=HK.out;simp [intOf];omega
        have kb2:(l.kind == 2)=false:=by simpa using k2
        by_cases k3:l.kind=3
        ·have kb3:(l.kind == 3)=true:=by simp [k3]
         have HLX:Hd (lnLevel l=bs++((((((((((lm ++ ⟨#[32,113,117,101,117,101,32]⟩)++h5) ++ ⟨#[32]⟩)++h6) ++ ⟨#[32]⟩)++h7) ++ ⟨#[32]⟩)++h8) ++ ⟨#[32]⟩)++h9)):=⟨by rw [HLn.out,if_neg k1,if_neg k2,if_pos k3]⟩
         clear k1 k2 k3 HLn
         go_upto_region 23 with fail
         clear d1
         have DR:Below wk2.heap.size wk2 wk2.drew:=⟨rfl,rfl,rfl,Nat.le_refl _,fun _ _=>rfl⟩
         have SD:Hd (StL w gc #[.int .i64 x0,.int .i64 x1,.int .i64 x2,.int .i64 x3,.slice (some ⟨b,off,none⟩) nL cL,.slice aS nS cS] M u3 wk2.drew):=⟨S6.out.grown DR⟩
         have A0:=N6.kept (Kept.of_below DR (fun _=>False)) id
         refine AnyG.start (T:=fun w'=>Blk w' g4 43 #[.string l.name,.int .i64 l.kind,.int .i64 l.shares,.int .i64 l.lend,.int .i64 l.borrow,.int .i64 l.queues,.int .i64 l.hand,.int .i64 l.length,.int .i64 l.wait,.int .i64 l.guess]) (U:=fun _=>True) (j0:=100) (by kernel_rfl) ?_
         clear DR S6 N6 sz
         generalize wk2.drew=w0q at *
         refine .tq 0 101 A0 ?_;simp only [tkA,tkB,tkC]
         refine .tq 1 102 A0 ?_;simp only [tkA,tkB,tkC]
         refine .tq 3 104 A0 ?_;simp only [tkA,tkB,tkC]
         refine .tq 4 105 A0 ?_ (hy:=fun w hSw=>by have s4:=hSw.cellv (v:=.int .i64 l.queues) 5 rfl;go_simp;rfl);simp only [tkA,tkB,tkC]
         refine .tq 8 109 A0 ?_;simp only [tkA,tkB,tkC]
         refine .tq 9 110 A0 ?_ (hy:=fun w hSw=>by have s4:=hSw.cellv (v:=.int .i64 l.hand) 6 rfl;go_simp;rfl);simp only [tkA,tkB,tkC]
         refine .tq 13 114 A0 ?_;simp only [tkA,tkB,tkC]
         refine .tq 14 115 A0 ?_ (hy:=fun w hSw=>by have s4:=hSw.cellv (v:=.int .i64 l.length) 7 rfl;go_simp;rfl);simp only [tkA,tkB,tkC]
         refine .tq 18 119 A0 ?_;simp only [tkA,tkB,tkC]
         refine .tq 19 120 A0 ?_ (hy:=fun w hSw=>by have s4:=hSw.cellv (v:=.int .i64 l.wait) 8 rfl;go_simp;rfl);simp only [tkA,tkB,tkC]
         refine .tq 23 124 A0 ?_;simp only [tkA,tkB,tkC]
         refine .tq 24 125 A0 ?_ (hy:=fun w hSw=>by have s4:=hSw.cellv (v:=.int .i64 l.guess) 9 rfl;go_simp;rfl);simp only [tkA,tkB,tkC]
         refine .tq 2 103 A0 ?_;simp only [tkA,tkB,tkC]
         refine AnyG.ready (rs:=[5]) (by kernel_rfl) (by simp) ?_
         refine AllG.cons rfl (fun K hK=>?_) AllG.nil
         go_simp
         refine (E5 _).mono ?_
         rintro e wq1 ⟨rfl,bk1⟩
         have Ak1:=A0.kept (Kept.of_below bk1 (fun _=>False)) id
         have Sk1:Hd (StL w gc #[.int .i64 x0,.int .i64 x1,.int .i64 x2,.int .i64 x3,.slice (some ⟨b,off,none⟩) nL cL,.slice aS nS cS] M u3 wq1):=⟨SD.out.grown bk1⟩
         refine hK.out _ _ ⟨Ak1,fun _=>trivial⟩ ?_
         clear hK K bk1 A0 SD
         refine .tq 6 107 Ak1 ?_;simp only [tkA,tkB,tkC]
         refine .tq 7 108 Ak1 ?_;simp only [tkA,tkB,tkC]
         refine AnyG.ready (rs:=[10]) (by kernel_rfl) (by simp) ?_
         refine AllG.cons rfl (fun K hK=>?_) AllG.nil
         go_simp
         refine (E6 _).mono ?_
         rintro e wq2 ⟨rfl,bk2⟩
         have Ak2:=Ak1.kept (Kept.of_below bk2 (fun _=>False)) id
         have Sk2:Hd (StL w gc #[.int .i64 x0,.int .i64 x1,.int .i64 x2,.int .i64 x3,.slice (some ⟨b,off,none⟩) nL cL,.slice aS nS cS] M u3 wq2):=⟨Sk1.out.grown bk2⟩
         refine hK.out _ _ ⟨Ak2,fun _=>trivial⟩ ?_
         clear hK K bk2 Ak1 Sk1
         refine .tq 11 112 Ak2 ?_;simp only [tkA,tkB,tkC]
         refine .tq 12 113 Ak2 ?_;simp only [tkA,tkB,tkC]
         refine AnyG.ready (rs:=[15]) (by kernel_rfl) (by simp) ?_
         refine AllG.cons rfl (fun K hK=>?_) AllG.nil
         go_simp
         refine (E7 _).mono ?_
         rintro e wq3 ⟨rfl,bk3⟩
         have Ak3:=Ak2.kept (Kept.of_below bk3 (fun _=>False)) id
         have Sk3:Hd (StL w gc #[.int .i64 x0,.int .i64 x1,.int .i64 x2,.int .i64 x3,.slice (some ⟨b,off,none⟩) nL cL,.slice aS nS cS] M u3 wq3):=⟨Sk2.out.grown bk3⟩
         refine hK.out _ _ ⟨Ak3,fun _=>trivial⟩ ?_
         clear hK K bk3 Ak2 Sk2
         refine .tq 16 117 Ak3 ?_;simp only [tkA,tkB,tkC]
         refine .tq 17 118 Ak3 ?_;simp only [tkA,tkB,tkC]
         refine AnyG.ready (rs:=[20]) (by kernel_rfl) (by simp) ?_
         refine AllG.cons rfl (fun K hK=>?_) AllG.nil
         go_simp
         refine (E8 _).mono ?_
         rintro e wq4 ⟨rfl,bk4⟩
         have Ak4:=Ak3.kept (Kept.of_below bk4 (fun _=>False)) id
         have Sk4:Hd (StL w gc #[.int .i64 x0,.int .i64 x1,.int .i64 x2,.int .i64 x3,.slice (some ⟨b,off,none⟩) nL cL,.slice aS nS cS] M u3 wq4):=⟨Sk3.out.grown bk4⟩
         refine hK.out _ _ ⟨Ak4,fun _=>trivial⟩ ?_
         clear hK K bk4 Ak3 Sk3
         refine .tq 21 122 Ak4 ?_;simp only [tkA,tkB,tkC]
         refine .tq 22 123 Ak4 ?_;simp only [tkA,tkB,tkC]
         refine AnyG.ready (rs:=[25]) (by kernel_rfl) (by simp) ?_
         refine AllG.cons rfl (fun K hK=>?_) AllG.nil
         go_simp
         refine (E9 _).mono ?_
         rintro e wq5 ⟨rfl,bk5⟩
         have Ak5:=Ak4.kept (Kept.of_below bk5 (fun _=>False)) id
         have Sk5:Hd (StL w gc #[.int .i64 x0,.int .i64 x1,.int .i64 x2,.int .i64 x3,.slice (some ⟨b,off,none⟩) nL cL,.slice aS nS cS] M u3 wq5):=⟨Sk4.out.grown bk5⟩
         refine hK.out _ _ ⟨Ak5,fun _=>trivial⟩ ?_
         clear hK K bk5 Ak4 Sk4
         refine .tq 26 127 Ak5 ?_;simp only [tkA,tkB,tkC]
         refine .tq 27 128 Ak5 ?_;simp only [tkA,tkB,tkC]
         refine .tq 28 6 Ak5 ?_;simp only [tkA,tkB,tkC]
         refine AnyG.done (by kernel_rfl) ?_ _
         have S7:=Sk5
         have sz7:=S7.out.bel.size
         generalize bs++((((((((((lm ++ ⟨#[32,113,117,101,117,101,32]⟩)++h5) ++ ⟨#[32]⟩)++h6) ++ ⟨#[32]⟩)++h7) ++ ⟨#[32]⟩)++h8) ++ ⟨#[32]⟩)++h9)=qln at *
         go_wp2_with (at_builtin;refine wpList_append_own _ rfl _ _ 52 rfl w.heap.size 9 i0 (.string ByteArray.empty) 1 16 Tryz.underlying52 hi hz0 hz1 hz2 rfl (by decide) _ _ _ rfl (S7.out.own.alloc _) ⟨wq5.heap.size,0,none⟩ 1 1 [.string (qln)] rfl rfl (one_newT _ _) (one_cellT _) (by unfold maxLen;first | omega | (simp;done) | (simp;omega)) (by first | omega | (simp;done) | (simp;omega)) (by simp;omega) ?_;intro vd13 wd13 hown13 hgrow13 _;have P13:Hd (StL w gc #[.int .i64 x0,.int .i64 x1,.int .i64 x2,.int .i64 x3,.slice (some ⟨b,off,none⟩) nL cL,.slice aS nS cS] (M ++ [qln]) vd13 wd13):=⟨(S7.out.grown (alloc_below _ _)).put hown13 hgrow13⟩)
         go_roundw
         case rel =>
          first
           | exact ⟨k+1,_,HK.out,by go_num,by simp;omega,⟨by rw [←HNX.out,HLX.out],P13.out⟩⟩
           | ((repeat apply Exists.intro);exact ⟨⟨k+1,_,HK.out,by go_num,by simp;omega,⟨by rw [←HNX.out,HLX.out],P13.out⟩⟩,rfl⟩)
         case measure=>have:=HK.out;simp [intOf];omega
        have kb3:(l.kind == 3)=false:=by simpa using k3
        have HLX:Hd (lnLevel l=bs):=⟨by rw [HLn.out,if_neg k1,if_neg k2,if_neg k3]⟩
        clear k1 k2 k3 HLn
        go_wp2_with (at_builtin;refine wpList_append_own _ rfl _ _ 52 rfl w.heap.size 9 i0 (.string ByteArray.empty) 1 16 Tryz.underlying52 hi hz0 hz1 hz2 rfl (by decide) _ _ _ rfl (S6.out.own.alloc _) ⟨wk2.heap.size,0,none⟩ 1 1 [.string (bs)] rfl rfl (one_newT _ _) (one_cellT _) (by unfold maxLen;first | omega | (simp;done) | (simp;omega)) (by first | omega | (simp;done) | (simp;omega)) (by simp;omega) ?_;intro vd14 wd14 hown14 hgrow14 _;have P14:Hd (StL w gc #[.int .i64 x0,.int .i64 x1,.int .i64 x2,.int .i64 x3,.slice (some ⟨b,off,none⟩) nL cL,.slice aS nS cS] (M ++ [bs]) vd14 wd14):=⟨(S6.out.grown (alloc_below _ _)).put hown14 hgrow14⟩)
        go_roundw
        case rel =>
         first
          | exact ⟨k+1,_,HK.out,by go_num,by simp;omega,⟨by rw [←HNX.out,HLX.out],P14.out⟩⟩
          | ((repeat apply Exists.intro);exact ⟨⟨k+1,_,HK.out,by go_num,by simp;omega,⟨by rw [←HNX.out,HLX.out],P14.out⟩⟩,rfl⟩)
        case measure=>have:=HK.out;simp [intOf];omega
      ·obtain rfl:k=nL:=by omega
       have HM2:Hd (M=L3++L.map lnLevel):=⟨by rw [hI.out.1,HN.out.1,List.take_length]⟩
       have SE:Hd (StL w gc #[.int .i64 x0,.int .i64 x1,.int .i64 x2,.int .i64 x3,.slice aL k cL,.slice aS nS cS] M u3 wr):=⟨hI.out.2⟩
       clear hI
       go_wp2_with fail
       clear c4
       have M9:M.length≤903:=by omega
       go_loopw [3,9,10,11,12,13] (fun s3 s9 _ _ _ _ wr=>∃ (j:Nat) (M2:List ByteArray),j≤nS∧s9=.int .i64 j∧M2.length≤1000+1000*j∧Hd (M2=M++(S.take j).flatMap rScL∧StL w gc #[.int .i64 x0,.int .i64 x1,.int .i64 x2,.int .i64 x3,.slice aL k cL,.slice aS nS cS] M2 s3 wr)) (fun _ s9 _ _ _ _ _=>nS - (intOf s9).toNat)
       case atStart=>exact ⟨0,M,Nat.zero_le _,rfl,by omega,⟨by simp,SE.out⟩⟩
       case round =>
        obtain ⟨j,M2,hj,rfl,hM2,hI⟩:=hrel
        clear SE
        obtain ⟨vO,rfl⟩:∃ vO:Value,vO=u3:=⟨_,rfl⟩
        have c5:=hI.out.2.bx.cellv (v:=.slice aS nS cS) 5 rfl
        by_cases hlt2:j<nS
        ·have hjS:j<S.length:=by rw [←HN.out.2];exact hlt2
         obtain ⟨hSc,hRl⟩:=HSV.out.2 wr hI.out.2.bel
         obtain ⟨b,off,rfl,hb,hcs⟩:=hSc (by show 0<S.length;omega)
         have hjV:j<V0.length:=by rw [HSV.out.1];exact hjS
         have cs:=hcs j hjS hjV
         have hrl:RlR wr V0[j] S[j].rules:=hRl j hjS hjV
         have GS:=HG.out.1.sc S[j] (List.getElem_mem hjS)
         obtain ⟨n0,n1⟩:=HG.out.2.sc S[j] (List.getElem_mem hjS)
         have r9:=HB.out.2.2 S[j] (List.getElem_mem hjS)
         have ER:=fun W=>rdig_ok S[j].rank W GS.rk
         have mr:=dig_le S[j].rank GS.rk
         have my:=by_le S[j].way
         have HSn:Hd (lnSchema S[j]=((((((⟨#[115,99,104,101,109,97,32]⟩++S[j].name) ++ ⟨#[32]⟩)++S[j].level) ++ ⟨#[32]⟩)++digR S[j].rank) ++ ⟨#[32]⟩)++byR S[j].way):=⟨rfl⟩
         have HBy:Hd (byR S[j].way=if S[j].way=0 then tNone else if S[j].way=1 then tUser else if S[j].way=2 then tSpace else tQ):=⟨rfl⟩
         have HNX:Hd ((M2 ++ [lnSchema S[j]])++S[j].rules.map lnRule=M++(S.take (j+1)).flatMap rScL):=⟨by
          rw [hI.out.1,List.take_succ_eq_append_getElem hjS,List.flatMap_append,List.append_assoc,List.append_assoc]
          simp [rScL]⟩
         have z0:wr.cell? ⟨b,off+j*5,none⟩=some (.string S[j].name):=cs 0 (by decide)
         have z1:wr.cell? ⟨b,off+j*5+1,none⟩=some (.string S[j].level):=cs 1 (by decide)
         have z2:wr.cell? ⟨b,off+j*5+2,none⟩=some (.int .i64 S[j].rank):=cs 2 (by decide)
         have z3:wr.cell? ⟨b,off+j*5+3,none⟩=some (.int .i64 S[j].way):=cs 3 (by decide)
         have z4:wr.cell? ⟨b,off+j*5+4,none⟩=some V0[j]:=cs 4 (by decide)
         have HRW0:Hd (∀ W,Below w.heap.size w W→RlR W V0[j] S[j].rules):=⟨fun W b=>(HSV.out.2 W b).2 j hjS hjV⟩
         generalize V0[j]=vr at *
         obtain ⟨ra,rc,er,-⟩:=id hrl
         subst er
         obtain ⟨nr,hnr⟩:∃ nr,nr=S[j].rules.length:=⟨_,rfl⟩
         have HNR:Hd (nr=S[j].rules.length):=⟨hnr⟩
         rw [←hnr] at z4 hrl r9 HRW0
         clear hnr
         have AL:=alloc_below wr (.cells #[.string S[j].name,.string S[j].level,.int .i64 S[j].rank,.int .i64 S[j].way,.slice ra nr rc] 47)
         have NL:=Blk.new wr 47 #[.string S[j].name,.string S[j].level,.int .i64 S[j].rank,.int .i64 S[j].way,.slice ra nr rc]
         have S4:Hd (StL w gc #[.int .i64 x0,.int .i64 x1,.int .i64 x2,.int .i64 x3,.slice aL k cL,.slice (some ⟨b,off,none⟩) nS cS] M2 vO (wr.alloc (.cells #[.string S[j].name,.string S[j].level,.int .i64 S[j].rank,.int .i64 S[j].way,.slice ra nr rc] 47))):=⟨hI.out.2.grown AL⟩
         have HK:Hd (j<nS):=⟨hlt2⟩
         clear hI hcs cs hb AL GS hrl hSc hRl
         generalize S[j]=l at *
         clear hjS hjV
         have i1:(j:Int)<(nS:Int):=by omega
         go_upto_region 30 with fail
         generalize hw4:wr.alloc _=w4 at *
         generalize hg4:wr.heap.size=g4 at *
         clear z0 z1 z2 z3 z4 c5 hw4
         have d3:=NL.cellv (v:=.int .i64 l.way) 3 rfl
         obtain ⟨bw,hbw⟩:∃ bw:Bool,bw=(decide (0≤l.way) && decide (l.way<3)):=⟨_,rfl⟩
         have HBW:Hd (bw=(decide (0≤l.way) && decide (l.way<3))):=⟨hbw⟩
         clear hbw
         go_cut [152] from 133 to 151 (fun s152 wx=>s152=.bool bw∧wx=w4)
         case first =>
          by_cases a0:0≤l.way
          ·have za:decide (0≤l.way)=true:=decide_eq_true a0
           by_cases a1:l.way<3
           ·have zb:decide (l.way<3)=true:=decide_eq_true a1
            have E:bw=true:=by rw [HBW.out,za,zb];rfl
            subst E
            clear HBW
            go_wp2_with fail
            go_meet
            exact ⟨rfl,rfl⟩
           ·have zb:decide (l.way<3)=false:=decide_eq_false a1
            have E:bw=false:=by rw [HBW.out,za,zb];rfl
            subst E
            clear HBW
            go_wp2_with fail
            go_meet
            exact ⟨rfl,rfl⟩
          ·have za:decide (0≤l.way)=false:=decide_eq_false a0
           have E:bw=false:=by rw [HBW.out,za];rfl
           subst E
           clear HBW
           go_wp2_with fail
           go_meet
           exact ⟨rfl,rfl⟩
         case rest =>
          obtain ⟨rfl,rfl⟩:=hcut
          go_upto_if 152 with fail
          go_cut [11] from 133 to 213 (fun s11 wx=>s11=.string (byR l.way)∧wx=wc)
          case first =>
           cases bw with
           | false =>
            have E:Hd (byR l.way=⟨#[63]⟩):=⟨by
             have h:=HBW.out
             rw [HBy.out]
             by_cases q0:l.way=0
             ·rw [q0] at h;simp at h
             by_cases q1:l.way=1
             ·rw [q1] at h;simp at h
             by_cases q2:l.way=2
             ·rw [q2] at h;simp at h
             rw [if_neg q0,if_neg q1,if_neg q2];rfl⟩
            clear HBW
            go_wp2_with fail
            go_meet
            exact ⟨by rw [E.out],rfl⟩
           | true =>
            have h3:l.way=0∨l.way=1∨l.way=2:=by
             have h:=HBW.out.symm
             simp only [Bool.and_eq_true,decide_eq_true_eq] at h
             omega
            clear HBW
            rcases h3 with q | q | q
            ·have E:Hd (byR l.way=⟨#[110,111,110,101]⟩):=⟨by rw [HBy.out,q];rfl⟩
             rw [q] at d3
             clear q
             have X0:=by_ix0
             go_wp2_with fail
             go_meet
             exact ⟨by rw [E.out],rfl⟩
            ·have E:Hd (byR l.way=⟨#[117,115,101,114]⟩):=⟨by rw [HBy.out,q];rfl⟩
             rw [q] at d3
             clear q
             have X1:=by_ix1
             go_wp2_with fail
             go_meet
             exact ⟨by rw [E.out],rfl⟩
            ·have E:Hd (byR l.way=⟨#[115,112,97,99,101]⟩):=⟨by rw [HBy.out,q];rfl⟩
             rw [q] at d3
             clear q
             have X2:=by_ix2
             go_wp2_with fail
             go_meet
             exact ⟨by rw [E.out],rfl⟩
          case rest =>
           obtain ⟨rfl,hwc⟩:=hcut
           rw [←hwc] at S4 NL
           clear d3 HBy HBW hwc
           generalize byR l.way=hy at *
           generalize digR l.rank=hr at *
           have yc:(⟨#[115,99,104,101,109,97,32]⟩:ByteArray).size=7:=rfl
           go_upto_region 32 with fail
           have DR:Below wc.heap.size wc wc.drew:=⟨rfl,rfl,rfl,Nat.le_refl _,fun _ _=>rfl⟩
           have SD:Hd (StL w gc #[.int .i64 x0,.int .i64 x1,.int .i64 x2,.int .i64 x3,.slice aL k cL,.slice (some ⟨b,off,none⟩) nS cS] M2 vO wc.drew):=⟨S4.out.grown DR⟩
           have A0:=NL.kept (Kept.of_below DR (fun _=>False)) id
           refine AnyG.start (T:=fun w'=>Blk w' g4 47 #[.string l.name,.string l.level,.int .i64 l.rank,.int .i64 l.way,.slice ra nr rc]) (U:=fun _=>True) (j0:=100) (by kernel_rfl) ?_
           clear DR S4 NL
           generalize wc.drew=w0 at *
           refine .tq 0 157 A0 ?_;simp only [tkA,tkB,tkC]
           refine .tq 1 158 A0 ?_;simp only [tkA,tkB,tkC]
           refine .tq 2 159 A0 ?_ (hy:=fun w hSw=>by have s4:=hSw.cellv (v:=.string l.name) 0 rfl;go_simp;rfl);simp only [tkA,tkB,tkC]
           refine .tq 5 162 A0 ?_;simp only [tkA,tkB,tkC]
           refine .tq 6 163 A0 ?_ (hy:=fun w hSw=>by have s4:=hSw.cellv (v:=.string l.level) 1 rfl;go_simp;rfl);simp only [tkA,tkB,tkC]
           refine .tq 9 166 A0 ?_;simp only [tkA,tkB,tkC]
           refine .tq 10 167 A0 ?_ (hy:=fun w hSw=>by have s4:=hSw.cellv (v:=.int .i64 l.rank) 2 rfl;go_simp;rfl);simp only [tkA,tkB,tkC]
           refine .tq 14 171 A0 ?_;simp only [tkA,tkB,tkC]
           refine .tq 3 160 A0 ?_;simp only [tkA,tkB,tkC]
           refine .tq 4 161 A0 ?_;simp only [tkA,tkB,tkC]
           refine .tq 7 164 A0 ?_;simp only [tkA,tkB,tkC]
           refine .tq 8 165 A0 ?_;simp only [tkA,tkB,tkC]
           refine AnyG.ready (rs:=[11]) (by kernel_rfl) (by simp) ?_
           refine AllG.cons rfl (fun K hK=>?_) AllG.nil
           go_simp
           refine (ER _).mono ?_
           rintro e wk1 ⟨rfl,bk1⟩
           have Ak1:=A0.kept (Kept.of_below bk1 (fun _=>False)) id
           have Sk1:Hd (StL w gc #[.int .i64 x0,.int .i64 x1,.int .i64 x2,.int .i64 x3,.slice aL k cL,.slice (some ⟨b,off,none⟩) nS cS] M2 vO wk1):=⟨SD.out.grown bk1⟩
           refine hK.out _ _ ⟨Ak1,fun _=>trivial⟩ ?_
           clear hK K bk1 A0 SD
           refine .tq 12 169 Ak1 ?_;simp only [tkA,tkB,tkC]
           refine .tq 13 170 Ak1 ?_;simp only [tkA,tkB,tkC]
           refine .tq 15 172 Ak1 ?_;simp only [tkA,tkB,tkC]
           generalize ((((((⟨#[115,99,104,101,109,97,32]⟩++l.name) ++ ⟨#[32]⟩)++l.level) ++ ⟨#[32]⟩)++hr) ++ ⟨#[32]⟩)++hy=sln at *
           refine AnyG.ready (rs:=[16]) (by kernel_rfl) (by simp) ?_
           refine AllG.cons rfl (fun K hK=>?_) AllG.nil
           go_simp
           have AL2:=alloc_below wk1 (.cells #[.string (sln)] 9)
           have Ak2:=Ak1.kept (Kept.of_below AL2 (fun _=>False)) id
           have Sk2:Hd (StL w gc #[.int .i64 x0,.int .i64 x1,.int .i64 x2,.int .i64 x3,.slice aL k cL,.slice (some ⟨b,off,none⟩) nS cS] M2 vO (wk1.alloc (.cells #[.string (sln)] 9))):=⟨Sk1.out.grown AL2⟩
           have NW2:=one_newT wk1 (sln)
           refine hK.out _ _ ⟨Ak2,fun _=>trivial⟩ ?_
           clear hK K AL2 Ak1 Sk1
           generalize wk1.alloc (.cells #[.string (sln)] 9)=wk2 at *
           generalize wk1.heap.size=gk2 at *
           refine AnyG.ready (rs:=[17]) (by kernel_rfl) (by simp) ?_
           refine AllG.cons rfl (fun K hK=>?_) AllG.nil
           have szk:=Sk2.out.bel.size
           refine step_append_lies wk2 rfl (.tmp 157) (.tmp 173) 52 rfl w.heap.size 9 i0 (.string ByteArray.empty) 1 16 Tryz.underlying52 hi hz0 hz1 hz2 rfl (by decide) _ _ _ (by simp [Act.eval]) Sk2.out.own ⟨gk2,0,none⟩ 1 1 [.string (sln)] (by simp [Act.eval]) rfl NW2 (one_cellT _) (by decide) (by unfold maxLen;first | omega | (simp;done) | (simp;omega)) (by first | omega | (simp;done) | (simp;omega)) szk _ rfl ?_
           intro q8 cap8 w8 hown hgrow hat hlt
           have S8:Hd (StL w gc #[.int .i64 x0,.int .i64 x1,.int .i64 x2,.int .i64 x3,.slice aL k cL,.slice (some ⟨b,off,none⟩) nS cS] (M2 ++ [sln]) (.slice (some ⟨q8,0,none⟩) (M2.length+1) cap8) w8):=⟨Sk2.out.put hown hgrow⟩
           have A8:=Ak2.kept (Kept.of_grown (S:=fun k=>Value.ownBlock vO=some k) hgrow (fun k e=>e)) (fun e=>own_ne Ak2 Sk2.out.own (by decide) e)
           refine hK.out _ _ ⟨A8,fun _=>trivial⟩ ?_
           clear hK K
           refine AnyG.putAt 174 rfl ?_
           simp only [List.setIfInBounds_toArray,List.set_cons_zero,List.set_cons_succ]
           refine .tq 18 3 A8 ?_;simp only [tkA,tkB,tkC]
           refine AnyG.done (by kernel_rfl) ?_ _
           have N8:Blk w8 g4 47 #[.string l.name,.string l.level,.int .i64 l.rank,.int .i64 l.way,.slice ra nr rc]:=A8
           have HMs:Hd (lnSchema l=sln):=HSn
           go_wp2_with fail
           clear HSn ER mr my
           go_loopw [3,12,13] (fun s3 s12 _ wr=>∃ (q:Nat) (M3:List ByteArray),q≤nr∧s12=.int .i64 q∧M3.length≤1001+1000*j+q∧Hd (M3=(M2 ++ [lnSchema l])++(l.rules.take q).map lnRule∧StL w gc #[.int .i64 x0,.int .i64 x1,.int .i64 x2,.int .i64 x3,.slice aL k cL,.slice (some ⟨b,off,none⟩) nS cS] M3 s3 wr∧Blk wr g4 47 #[.string l.name,.string l.level,.int .i64 l.rank,.int .i64 l.way,.slice ra nr rc])) (fun _ s12 _ _=>nr - (intOf s12).toNat)
           case atStart=>exact ⟨0,M2 ++ [sln],Nat.zero_le _,rfl,by simp;omega,⟨by rw [HMs.out];simp,S8.out,N8⟩⟩
           case round =>
            obtain ⟨q,M3,hq,rfl,hM3,hI⟩:=hrel
            clear S8 N8 A8
            obtain ⟨vP,rfl⟩:∃ vP:Value,vP=u3:=⟨_,rfl⟩
            have e4:=hI.out.2.2.cellv (v:=.slice ra nr rc) 4 rfl
            by_cases hlt3:q<nr
            ·have hqR:q<l.rules.length:=by rw [←HNR.out];exact hlt3
             obtain ⟨ra',rc',er',-,hrow⟩:=HRW0.out wr hI.out.2.1.bel
             injection er' with er1 er2 er3
             subst er1 er3
             obtain ⟨rb,ro,rfl,hb,hcs⟩:=hrow (by omega)
             obtain ⟨v0,v1,v2,v3,v4,⟨f0,f1,f2,f3,f4⟩,hru⟩:=hcs q hqR
             have HRn:Hd (lnRule l.rules[q]=((((((((⟨#[114,117,108,101,32]⟩++lstR l.rules[q].users) ++ ⟨#[32]⟩)++lstR l.rules[q].groups) ++ ⟨#[32]⟩)++lstR l.rules[q].verbs) ++ ⟨#[32]⟩)++lstR l.rules[q].resources) ++ ⟨#[32]⟩)++lstR l.rules[q].spaces):=⟨rfl⟩
             have HNY:Hd (M3 ++ [lnRule l.rules[q]]=(M2 ++ [lnSchema l])++(l.rules.take (q+1)).map lnRule):=⟨by rw [hI.out.1,List.append_assoc,List.take_succ_eq_append_getElem hqR,List.map_append];rfl⟩
             have t0:=lst_le l.rules[q].users
             have t1:=lst_le l.rules[q].groups
             have t2:=lst_le l.rules[q].verbs
             have t3:=lst_le l.rules[q].resources
             have t4:=lst_le l.rules[q].spaces
             have LL:Hd (∀ W,Below wr.heap.size wr W→(Calls Tryz.prog 122 #[v0] W fun e w'=>e=.returned (.string (lstR l.rules[q].users))∧Below W.heap.size W w')∧(Calls Tryz.prog 122 #[v1] W fun e w'=>e=.returned (.string (lstR l.rules[q].groups))∧Below W.heap.size W w')∧(Calls Tryz.prog 122 #[v2] W fun e w'=>e=.returned (.string (lstR l.rules[q].verbs))∧Below W.heap.size W w')∧(Calls Tryz.prog 122 #[v3] W fun e w'=>e=.returned (.string (lstR l.rules[q].resources))∧Below W.heap.size W w')∧(Calls Tryz.prog 122 #[v4] W fun e w'=>e=.returned (.string (lstR l.rules[q].spaces))∧Below W.heap.size W w')):=⟨fun W bW=>by
              obtain ⟨c0,c1,c2,c3,c4⟩:=hru.carry bW
              exact ⟨rlst_ok _ _ W c0,rlst_ok _ _ W c1,rlst_ok _ _ W c2,rlst_ok _ _ W c3,rlst_ok _ _ W c4⟩⟩
             obtain ⟨⟨q0,p0,e0,-⟩,⟨q1,p1,e1,-⟩,⟨q2,p2,e2,-⟩,⟨q3,p3,e3,-⟩,⟨q4,p4,e4',-⟩⟩:=id hru
             generalize lstR l.rules[q].users=tu at *
             generalize lstR l.rules[q].groups=tg at *
             generalize lstR l.rules[q].verbs=tv at *
             generalize lstR l.rules[q].resources=tr at *
             generalize lstR l.rules[q].spaces=ts at *
             have AL:=alloc_below wr (.cells #[v0,v1,v2,v3,v4] 54)
             have NR:=Blk.new wr 54 #[v0,v1,v2,v3,v4]
             have S5:Hd (StL w gc #[.int .i64 x0,.int .i64 x1,.int .i64 x2,.int .i64 x3,.slice aL k cL,.slice (some ⟨b,off,none⟩) nS cS] M3 vP (wr.alloc (.cells #[v0,v1,v2,v3,v4] 54))):=⟨hI.out.2.1.grown AL⟩
             have NB5:=hI.out.2.2.kept (Kept.of_below AL (fun _=>False)) id
             have HK3:Hd (q<nr):=⟨hlt3⟩
             clear hru hcs hrow hb hI
             generalize l.rules[q]=rl at *
             generalize hn0:rl.users.length=m0 at e0
             generalize hn1:rl.groups.length=m1 at e1
             generalize hn2:rl.verbs.length=m2 at e2
             generalize hn3:rl.resources.length=m3 at e3
             generalize hn4:rl.spaces.length=m4 at e4'
             subst e0 e1 e2 e3 e4'
             clear hn0 hn1 hn2 hn3 hn4 hqR
             have i3:(q:Int)<(nr:Int):=by omega
             have yu:(⟨#[114,117,108,101,32]⟩:ByteArray).size=5:=rfl
             go_upto_region 37 with fail
             clear f0 f1 f2 f3 f4 e4
             have DR:Below (wr.alloc (.cells #[.slice q0 m0 p0,.slice q1 m1 p1,.slice q2 m2 p2,.slice q3 m3 p3,.slice q4 m4 p4] 54)).heap.size (wr.alloc (.cells #[.slice q0 m0 p0,.slice q1 m1 p1,.slice q2 m2 p2,.slice q3 m3 p3,.slice q4 m4 p4] 54)) (wr.alloc (.cells #[.slice q0 m0 p0,.slice q1 m1 p1,.slice q2 m2 p2,.slice q3 m3 p3,.slice q4 m4 p4] 54)).drew:=⟨rfl,rfl,rfl,Nat.le_refl _,fun _ _=>rfl⟩
             have SD:Hd (StL w gc #[.int .i64 x0,.int .i64 x1,.int .i64 x2,.int .i64 x3,.slice aL k cL,.slice (some ⟨b,off,none⟩) nS cS] M3 vP (wr.alloc (.cells #[.slice q0 m0 p0,.slice q1 m1 p1,.slice q2 m2 p2,.slice q3 m3 p3,.slice q4 m4 p4] 54)).drew):=⟨S5.out.grown DR⟩
             have ZD:Hd (Blk (wr.alloc (.cells #[.slice q0 m0 p0,.slice q1 m1 p1,.slice q2 m2 p2,.slice q3 m3 p3,.slice q4 m4 p4] 54)).drew g4 47 #[.string l.name,.string l.level,.int .i64 l.rank,.int .i64 l.way,.slice (some ⟨rb,ro,none⟩) nr rc]):=⟨NB5.kept (Kept.of_below DR (fun _=>False)) id⟩
             have A0:=NR.kept (Kept.of_below DR (fun _=>False)) id
             have X0:Below wr.heap.size wr (wr.alloc (.cells #[.slice q0 m0 p0,.slice q1 m1 p1,.slice q2 m2 p2,.slice q3 m3 p3,.slice q4 m4 p4] 54)).drew:=AL.trans (DR.mono AL.size)
             generalize wr.alloc (.cells #[.slice q0 m0 p0,.slice q1 m1 p1,.slice q2 m2 p2,.slice q3 m3 p3,.slice q4 m4 p4] 54)=w5 at *
             obtain ⟨g5,hg5⟩:∃ g5,g5=wr.heap.size:=⟨_,rfl⟩
             rw [←hg5] at A0 NR ⊢
             refine AnyG.start (T:=fun w'=>Blk w' g5 54 #[.slice q0 m0 p0,.slice q1 m1 p1,.slice q2 m2 p2,.slice q3 m3 p3,.slice q4 m4 p4]) (U:=fun _=>True) (j0:=100) (by kernel_rfl) ?_
             clear DR S5 NR NB5 AL hg5
             generalize w5.drew=w0 at *
             refine .tq 0 187 A0 ?_;simp only [tkA,tkB,tkC]
             refine .tq 1 188 A0 ?_;simp only [tkA,tkB,tkC]
             refine .tq 2 189 A0 ?_ (hy:=fun w hSw=>by have s4:=hSw.cellv (v:=.slice q0 m0 p0) 0 rfl;go_simp;rfl);simp only [tkA,tkB,tkC]
             refine .tq 6 193 A0 ?_;simp only [tkA,tkB,tkC]
             refine .tq 7 194 A0 ?_ (hy:=fun w hSw=>by have s4:=hSw.cellv (v:=.slice q1 m1 p1) 1 rfl;go_simp;rfl);simp only [tkA,tkB,tkC]
             refine .tq 11 198 A0 ?_;simp only [tkA,tkB,tkC]
             refine .tq 12 199 A0 ?_ (hy:=fun w hSw=>by have s4:=hSw.cellv (v:=.slice q2 m2 p2) 2 rfl;go_simp;rfl);simp only [tkA,tkB,tkC]
             refine .tq 16 203 A0 ?_;simp only [tkA,tkB,tkC]
             refine .tq 17 204 A0 ?_ (hy:=fun w hSw=>by have s4:=hSw.cellv (v:=.slice q3 m3 p3) 3 rfl;go_simp;rfl);simp only [tkA,tkB,tkC]
             refine .tq 21 208 A0 ?_;simp only [tkA,tkB,tkC]
             refine .tq 22 209 A0 ?_ (hy:=fun w hSw=>by have s4:=hSw.cellv (v:=.slice q4 m4 p4) 4 rfl;go_simp;rfl);simp only [tkA,tkB,tkC]
             refine AnyG.ready (rs:=[3]) (by kernel_rfl) (by simp) ?_
             refine AllG.cons rfl (fun K hK=>?_) AllG.nil
             go_simp
             refine ((LL.out _ X0).1).mono ?_
             rintro e wk1 ⟨rfl,bk1⟩
             have Ak1:=A0.kept (Kept.of_below bk1 (fun _=>False)) id
             have Sk1:Hd (StL w gc #[.int .i64 x0,.int .i64 x1,.int .i64 x2,.int .i64 x3,.slice aL k cL,.slice (some ⟨b,off,none⟩) nS cS] M3 vP wk1):=⟨SD.out.grown bk1⟩
             have Xk1:Below wr.heap.size wr wk1:=X0.trans (bk1.mono X0.size)
             have Zk1:Hd (Blk wk1 g4 47 #[.string l.name,.string l.level,.int .i64 l.rank,.int .i64 l.way,.slice (some ⟨rb,ro,none⟩) nr rc]):=⟨ZD.out.kept (Kept.of_below bk1 (fun _=>False)) id⟩
             refine hK.out _ _ ⟨Ak1,fun _=>trivial⟩ ?_
             clear hK K bk1 A0 SD X0 ZD
             refine .tq 4 191 Ak1 ?_;simp only [tkA,tkB,tkC]
             refine .tq 5 192 Ak1 ?_;simp only [tkA,tkB,tkC]
             refine AnyG.ready (rs:=[8]) (by kernel_rfl) (by simp) ?_
             refine AllG.cons rfl (fun K hK=>?_) AllG.nil
             go_simp
             refine ((LL.out _ Xk1).2.1).mono ?_
             rintro e wk2 ⟨rfl,bk2⟩
             have Ak2:=Ak1.kept (Kept.of_below bk2 (fun _=>False)) id
             have Sk2:Hd (StL w gc #[.int .i64 x0,.int .i64 x1,.int .i64 x2,.int .i64 x3,.slice aL k cL,.slice (some ⟨b,off,none⟩) nS cS] M3 vP wk2):=⟨Sk1.out.grown bk2⟩
             have Xk2:Below wr.heap.size wr wk2:=Xk1.trans (bk2.mono Xk1.size)
             have Zk2:Hd (Blk wk2 g4 47 #[.string l.name,.string l.level,.int .i64 l.rank,.int .i64 l.way,.slice (some ⟨rb,ro,none⟩) nr rc]):=⟨Zk1.out.kept (Kept.of_below bk2 (fun _=>False)) id⟩
             refine hK.out _ _ ⟨Ak2,fun _=>trivial⟩ ?_
             clear hK K bk2 Ak1 Sk1 Xk1 Zk1
             refine .tq 9 196 Ak2 ?_;simp only [tkA,tkB,tkC]
             refine .tq 10 197 Ak2 ?_;simp only [tkA,tkB,tkC]
             refine AnyG.ready (rs:=[13]) (by kernel_rfl) (by simp) ?_
             refine AllG.cons rfl (fun K hK=>?_) AllG.nil
             go_simp
             refine ((LL.out _ Xk2).2.2.1).mono ?_
             rintro e wk3 ⟨rfl,bk3⟩
             have Ak3:=Ak2.kept (Kept.of_below bk3 (fun _=>False)) id
             have Sk3:Hd (StL w gc #[.int .i64 x0,.int .i64 x1,.int .i64 x2,.int .i64 x3,.slice aL k cL,.slice (some ⟨b,off,none⟩) nS cS] M3 vP wk3):=⟨Sk2.out.grown bk3⟩
             have Xk3:Below wr.heap.size wr wk3:=Xk2.trans (bk3.mono Xk2.size)
             have Zk3:Hd (Blk wk3 g4 47 #[.string l.name,.string l.level,.int .i64 l.rank,.int .i64 l.way,.slice (some ⟨rb,ro,none⟩) nr rc]):=⟨Zk2.out.kept (Kept.of_below bk3 (fun _=>False)) id⟩
             refine hK.out _ _ ⟨Ak3,fun _=>trivial⟩ ?_
             clear hK K bk3 Ak2 Sk2 Xk2 Zk2
             refine .tq 14 201 Ak3 ?_;simp only [tkA,tkB,tkC]
             refine .tq 15 202 Ak3 ?_;simp only [tkA,tkB,tkC]
             refine AnyG.ready (rs:=[18]) (by kernel_rfl) (by simp) ?_
             refine AllG.cons rfl (fun K hK=>?_) AllG.nil
             go_simp
             refine ((LL.out _ Xk3).2.2.2.1).mono ?_
             rintro e wk4 ⟨rfl,bk4⟩
             have Ak4:=Ak3.kept (Kept.of_below bk4 (fun _=>False)) id
             have Sk4:Hd (StL w gc #[.int .i64 x0,.int .i64 x1,.int .i64 x2,.int .i64 x3,.slice aL k cL,.slice (some ⟨b,off,none⟩) nS cS] M3 vP wk4):=⟨Sk3.out.grown bk4⟩
             have Xk4:Below wr.heap.size wr wk4:=Xk3.trans (bk4.mono Xk3.size)
             have Zk4:Hd (Blk wk4 g4 47 #[.string l.name,.string l.level,.int .i64 l.rank,.int .i64 l.way,.slice (some ⟨rb,ro,none⟩) nr rc]):=⟨Zk3.out.kept (Kept.of_below bk4 (fun _=>False)) id⟩
             refine hK.out _ _ ⟨Ak4,fun _=>trivial⟩ ?_
             clear hK K bk4 Ak3 Sk3 Xk3 Zk3
             refine .tq 19 206 Ak4 ?_;simp only [tkA,tkB,tkC]
             refine .tq 20 207 Ak4 ?_;simp only [tkA,tkB,tkC]
             refine AnyG.ready (rs:=[23]) (by kernel_rfl) (by simp) ?_
             refine AllG.cons rfl (fun K hK=>?_) AllG.nil
             go_simp
             refine ((LL.out _ Xk4).2.2.2.2).mono ?_
             rintro e wk5 ⟨rfl,bk5⟩
             have Ak5:=Ak4.kept (Kept.of_below bk5 (fun _=>False)) id
             have Sk5:Hd (StL w gc #[.int .i64 x0,.int .i64 x1,.int .i64 x2,.int .i64 x3,.slice aL k cL,.slice (some ⟨b,off,none⟩) nS cS] M3 vP wk5):=⟨Sk4.out.grown bk5⟩
             have Xk5:Below wr.heap.size wr wk5:=Xk4.trans (bk5.mono Xk4.size)
             have Zk5:Hd (Blk wk5 g4 47 #[.string l.name,.string l.level,.int .i64 l.rank,.int .i64 l.way,.slice (some ⟨rb,ro,none⟩) nr rc]):=⟨Zk4.out.kept (Kept.of_below bk5 (fun _=>False)) id⟩
             refine hK.out _ _ ⟨Ak5,fun _=>trivial⟩ ?_
             clear hK K bk5 Ak4 Sk4 Xk4 Zk4
             refine .tq 24 211 Ak5 ?_;simp only [tkA,tkB,tkC]
             generalize ((((((((⟨#[114,117,108,101,32]⟩++tu) ++ ⟨#[32]⟩)++tg) ++ ⟨#[32]⟩)++tv) ++ ⟨#[32]⟩)++tr) ++ ⟨#[32]⟩)++ts=rln at *
             have ZL:=Zk5
             refine AnyG.ready (rs:=[25]) (by kernel_rfl) (by simp) ?_
             refine AllG.cons rfl (fun K hK=>?_) AllG.nil
             go_simp
             have AL6:=alloc_below wk5 (.cells #[.string (rln)] 9)
             have Ak6:=Ak5.kept (Kept.of_below AL6 (fun _=>False)) id
             have Sk6:Hd (StL w gc #[.int .i64 x0,.int .i64 x1,.int .i64 x2,.int .i64 x3,.slice aL k cL,.slice (some ⟨b,off,none⟩) nS cS] M3 vP (wk5.alloc (.cells #[.string (rln)] 9))):=⟨Sk5.out.grown AL6⟩
             have NW6:=one_newT wk5 (rln)
             refine hK.out _ _ ⟨Ak6,fun _=>trivial⟩ ?_
             have ZL2:Hd (Blk (wk5.alloc (.cells #[.string (rln)] 9)) g4 47 #[.string l.name,.string l.level,.int .i64 l.rank,.int .i64 l.way,.slice (some ⟨rb,ro,none⟩) nr rc]):=⟨ZL.out.kept (Kept.of_below AL6 (fun _=>False)) id⟩
             clear hK K AL6 Ak5 Sk5
             generalize wk5.alloc (.cells #[.string (rln)] 9)=wk6 at *
             generalize wk5.heap.size=gk6 at *
             refine AnyG.ready (rs:=[26]) (by kernel_rfl) (by simp) ?_
             refine AllG.cons rfl (fun K hK=>?_) AllG.nil
             have szk:=Sk6.out.bel.size
             refine step_append_lies wk6 rfl (.tmp 187) (.tmp 212) 52 rfl w.heap.size 9 i0 (.string ByteArray.empty) 1 16 Tryz.underlying52 hi hz0 hz1 hz2 rfl (by decide) _ _ _ (by simp [Act.eval]) Sk6.out.own ⟨gk6,0,none⟩ 1 1 [.string (rln)] (by simp [Act.eval]) rfl NW6 (one_cellT _) (by decide) (by unfold maxLen;first | omega | (simp;done) | (simp;omega)) (by first | omega | (simp;done) | (simp;omega)) szk _ rfl ?_
             intro q8 cap8 w8 hown hgrow hat hlt
             have S8:Hd (StL w gc #[.int .i64 x0,.int .i64 x1,.int .i64 x2,.int .i64 x3,.slice aL k cL,.slice (some ⟨b,off,none⟩) nS cS] (M3 ++ [rln]) (.slice (some ⟨q8,0,none⟩) (M3.length+1) cap8) w8):=⟨Sk6.out.put hown hgrow⟩
             have N9:Hd (Blk w8 g4 47 #[.string l.name,.string l.level,.int .i64 l.rank,.int .i64 l.way,.slice (some ⟨rb,ro,none⟩) nr rc]):=⟨ZL2.out.kept (Kept.of_grown (S:=fun k=>Value.ownBlock vP=some k) hgrow (fun k e=>e)) (fun e=>own_ne ZL2.out Sk6.out.own (by decide) e)⟩
             have A8:=Ak6.kept (Kept.of_grown (S:=fun k=>Value.ownBlock vP=some k) hgrow (fun k e=>e)) (fun e=>own_ne Ak6 Sk6.out.own (by decide) e)
             refine hK.out _ _ ⟨A8,fun _=>trivial⟩ ?_
             clear hK K
             refine AnyG.putAt 213 rfl ?_
             simp only [List.setIfInBounds_toArray,List.set_cons_zero,List.set_cons_succ]
             refine .tq 27 3 A8 ?_;simp only [tkA,tkB,tkC]
             refine AnyG.done (by kernel_rfl) ?_ _
             go_wp2_with fail
             go_roundw
             case rel =>
              first
               | exact ⟨q+1,_,HK3.out,by go_num,by simp;omega,⟨by rw [←HNY.out,HRn.out],S8.out,N9.out⟩⟩
               | ((repeat apply Exists.intro);exact ⟨⟨q+1,_,HK3.out,by go_num,by simp;omega,⟨by rw [←HNY.out,HRn.out],S8.out,N9.out⟩⟩,rfl⟩)
             case measure=>have:=HK3.out;simp [intOf];omega
            ·obtain rfl:q=nr:=by omega
             have HE3:Hd (M3=M++(S.take (j+1)).flatMap rScL):=⟨by rw [hI.out.1,HNR.out,List.take_length];exact HNX.out⟩
             have SF:=hI.out.2.1
             have SG:Hd (StL w gc #[.int .i64 x0,.int .i64 x1,.int .i64 x2,.int .i64 x3,.slice aL k cL,.slice (some ⟨b,off,none⟩) nS cS] M3 vP wr):=⟨SF⟩
             clear hI SF
             go_wp2_with fail
             go_roundw
             case rel =>
              first
               | exact ⟨j+1,M3,HK.out,by go_num,by omega,⟨HE3.out,SG.out⟩⟩
               | ((repeat apply Exists.intro);exact ⟨⟨j+1,M3,HK.out,by go_num,by omega,⟨HE3.out,SG.out⟩⟩,rfl⟩)
             case measure=>have:=HK.out;simp [intOf];omega
        ·obtain rfl:j=nS:=by omega
         have HF:Hd (M2=rLines ⟨x0,x1,x2,x3,L,S⟩):=⟨by rw [hI.out.1,HM2.out,HL3.out,HR.out,HN.out.2,List.take_length,List.append_assoc]⟩
         have SG:Hd (StL w gc #[.int .i64 x0,.int .i64 x1,.int .i64 x2,.int .i64 x3,.slice aL k cL,.slice aS j cS] M2 vO wr):=⟨hI.out.2⟩
         clear hI
         go_wp2_with fail
         go_ret
         exact ⟨_,rfl,by rw [←HF.out];exact SG.out.own,SG.out.bel⟩
end Go.Proofs.YthkdbphgiobcdaaGreatDoor
