/-
  The reference of layers 8 and 10 (RfL3).
-/
import Derived.Test.YthkdbphgiobcdaaGreatDoorE34
import Derived.Test.YthkdbphgiobcdaaGreatDoorE30
import Derived.Test.YthkdbphgiobcdaaGreatDoorE8
namespace Go.Proofs.YthkdbphgiobcdaaGreatDoor
open Go.RowKit Go.Lib
set_option maxRecDepth 20000 in
set_option maxHeartbeats 8000000 in
theorem rlevel_3 {B:Nat} (b off c:Nat) (x1 x2 x3 x4 x5 x6 x7 x8 x9 x10:ByteArray) (w:World) (C:Cf) (vL vS:Value) (V:List Value) (hL:LvOwn B w vL C.levels) (hS:ScOwn B w vS C.schemas V) (hb:b<w.heap.size)
  (h1:w.cell? ⟨b,off+1,none⟩=some (.string x1)) (h2:w.cell? ⟨b,off+2,none⟩=some (.string x2)) (h3:w.cell? ⟨b,off+3,none⟩=some (.string x3)) (h4:w.cell? ⟨b,off+4,none⟩=some (.string x4)) (h5:w.cell? ⟨b,off+5,none⟩=some (.string x5)) (h6:w.cell? ⟨b,off+6,none⟩=some (.string x6)) (h7:w.cell? ⟨b,off+7,none⟩=some (.string x7)) (h8:w.cell? ⟨b,off+8,none⟩=some (.string x8)) (h9:w.cell? ⟨b,off+9,none⟩=some (.string x9)) (h10:w.cell? ⟨b,off+10,none⟩=some (.string x10))
  (z1:x1.size≤65536) (z2:x2.size≤65536) (z3:x3.size≤65536) (z4:x4.size≤65536) (z6:x6.size≤65536) (z7:x7.size≤65536) (z8:x8.size≤65536) (z9:x9.size≤65536) (z10:x10.size≤65536) (hk:x5=tQueue) (hnl:C.levels.length≤16) (hB:B≤w.heap.size) :
  Calls Tryz.prog 154 #[.agg #[.int .i64 C.total,.int .i64 C.period,.int .i64 C.perSeat,.int .i64 C.most,vL,vS],.slice (some ⟨b,off,none⟩) 11 c] w fun e w'=>∃ v,e=.returned (.tuple #[v,.int .i64 (levelE C [x1,x2,x3,x4,x5,x6,x7,x8,x9,x10])])∧Below w.heap.size w w'∧Six v
   ∧ (levelE C [x1,x2,x3,x4,x5,x6,x7,x8,x9,x10]=0→CfV B w' v ⟨C.total,C.period,C.perSeat,C.most,C.levels ++ [levelOf [x1,x2,x3,x4,x5,x6,x7,x8,x9,x10]],C.schemas⟩):=by
 have N1:=fun W=>rname_ok x1 (by omega) W
 have X0:Hd _:=⟨Lx.start hL hS⟩
 obtain ⟨aL,cL,rfl⟩:=own_form hL
 obtain ⟨aS,cS,rfl⟩:=own_form hS.own
 clear hL hS
 have KW:Hd (kindW [x1,x2,x3,x4,x5,x6,x7,x8,x9,x10]=3):=⟨by simp [kindW,gt,hk]⟩
 have tk:=lit_is (l:=[113,117,101,117,101]) hk
 have HK9:Hd (x5=tQueue):=⟨hk⟩
 clear hk
 generalize hE:levelE C [x1,x2,x3,x4,x5,x6,x7,x8,x9,x10]=E
 generalize hO:levelOf [x1,x2,x3,x4,x5,x6,x7,x8,x9,x10]=l
 have HE:Hd (levelE C [x1,x2,x3,x4,x5,x6,x7,x8,x9,x10]=E∧levelOf [x1,x2,x3,x4,x5,x6,x7,x8,x9,x10]=l):=⟨hE,hO⟩
 clear hE hO
 go_enter Tryz.func154,Tryz.ntmps154
 go_upto_region 3 with fail
 generalize hw2:World.alloc _ _=w2
 have X2:Hd (Lx B w w2 C (.slice aL C.levels.length cL) (.slice aS C.schemas.length cS) V (lv0 0)):=⟨by rw [←hw2];exact X0.out⟩
 clear hw2 X0
 have k1:=X2.out.q.cellv (v:=.int .i64 0) 1 rfl
 have k2:=X2.out.q.frozen 1
 have d1:=(X2.out.x.bel.cell (p:=⟨b,off+1,none⟩) hb).trans h1
 have d2:=(X2.out.x.bel.cell (p:=⟨b,off+2,none⟩) hb).trans h2
 have d3:=(X2.out.x.bel.cell (p:=⟨b,off+3,none⟩) hb).trans h3
 have d4:=(X2.out.x.bel.cell (p:=⟨b,off+4,none⟩) hb).trans h4
 have d5:=(X2.out.x.bel.cell (p:=⟨b,off+5,none⟩) hb).trans h5
 have d6:=(X2.out.x.bel.cell (p:=⟨b,off+6,none⟩) hb).trans h6
 have d7:=(X2.out.x.bel.cell (p:=⟨b,off+7,none⟩) hb).trans h7
 have d8:=(X2.out.x.bel.cell (p:=⟨b,off+8,none⟩) hb).trans h8
 have d9:=(X2.out.x.bel.cell (p:=⟨b,off+9,none⟩) hb).trans h9
 have d10:=(X2.out.x.bel.cell (p:=⟨b,off+10,none⟩) hb).trans h10
 go_wp2_with fail
 generalize hw3:World.setCell _ _ _=w3
 have X3:Hd (Lx B w w3 C (.slice aL C.levels.length cL) (.slice aS C.schemas.length cS) V (lv0 3)):=⟨by rw [←hw3];exact X2.out.set 1 _ _ rfl⟩
 clear hw3 X2 k1 k2 d1 d2 d3 d4 d5 d6 d7 d8 d9 d10
 have c1:=(X3.out.x.bel.cell (p:=⟨b,off+1,none⟩) hb).trans h1
 have c2:=(X3.out.x.bel.cell (p:=⟨b,off+2,none⟩) hb).trans h2
 have c3:=(X3.out.x.bel.cell (p:=⟨b,off+3,none⟩) hb).trans h3
 have c4:=(X3.out.x.bel.cell (p:=⟨b,off+4,none⟩) hb).trans h4
 have c5:=(X3.out.x.bel.cell (p:=⟨b,off+5,none⟩) hb).trans h5
 have c6:=(X3.out.x.bel.cell (p:=⟨b,off+6,none⟩) hb).trans h6
 have c7:=(X3.out.x.bel.cell (p:=⟨b,off+7,none⟩) hb).trans h7
 have c8:=(X3.out.x.bel.cell (p:=⟨b,off+8,none⟩) hb).trans h8
 have c9:=(X3.out.x.bel.cell (p:=⟨b,off+9,none⟩) hb).trans h9
 have c10:=(X3.out.x.bel.cell (p:=⟨b,off+10,none⟩) hb).trans h10
 have HB:Hd (b<w.heap.size∧w.cell? ⟨b,off+1,none⟩=some (.string x1)∧w.cell? ⟨b,off+2,none⟩=some (.string x2)∧w.cell? ⟨b,off+3,none⟩=some (.string x3)∧w.cell? ⟨b,off+4,none⟩=some (.string x4)∧w.cell? ⟨b,off+5,none⟩=some (.string x5)∧w.cell? ⟨b,off+6,none⟩=some (.string x6)∧w.cell? ⟨b,off+7,none⟩=some (.string x7)∧w.cell? ⟨b,off+8,none⟩=some (.string x8)∧w.cell? ⟨b,off+9,none⟩=some (.string x9)∧w.cell? ⟨b,off+10,none⟩=some (.string x10)):=⟨hb,h1,h2,h3,h4,h5,h6,h7,h8,h9,h10⟩
 clear h1 h2 h3 h4 h5 h6 h7 h8 h9 h10 hb
 have m0:=X3.out.q.cellv (v:=.string ⟨#[]⟩) 0 rfl
 have m1:=X3.out.q.cellv (v:=.int .i64 3) 1 rfl
 have g0:=X3.out.q.frozen 0
 cases e1:isName x1 with
 | false =>
  rw [e1] at N1
  go_at_call 175
  refine (N1 _).mono ?_
  rintro e w' ⟨rfl,hw⟩
  obtain rfl:=hw.symm
  obtain ⟨y0,y1,y2,y3,y4,y5⟩:=X3.out.x.reads
  obtain ⟨r0,r1,r2,r3,r4,r5,f0,f1,f2,f3,f4,f5⟩:=X3.out.x.room
  go_wp2_with fail
  have EE:E=4:=by rw [←HE.out.1];simp [levelE,levelW,kindW,gt,mu,ifE,e1,HK9.out,numsE,queueE]
  subst EE
  obtain ⟨q1,q2,q3⟩:=X3.out.x.sets (.int .i64 C.total) (.int .i64 C.period) (.int .i64 C.perSeat) (.int .i64 C.most) (.slice aL C.levels.length cL) (.slice aS C.schemas.length cS)
  refine bodyPost_ret (resC36 _ _ _ _ _ _ _ _ _ _ rfl rfl q1) rfl ?_
  exact ⟨_,rfl,q2,⟨_,_,_,_,_,_,_,_,_,_,rfl⟩,fun h=>absurd h (by decide)⟩
 | true =>
  rw [e1] at N1
  go_at_call 175
  refine (N1 _).mono ?_
  rintro e w' ⟨rfl,hw⟩
  obtain rfl:=hw.symm
  have HN1:Hd (isName x1=true):=⟨e1⟩
  clear e1 N1
  go_wp2_with fail
  generalize hw4:World.setCell _ _ _=w4
  have X4:Hd (Lx B w w4 C (.slice aL C.levels.length cL) (.slice aS C.schemas.length cS) V ⟨x1,3,0,0,0,0,0,0,0,0⟩):=⟨by rw [←hw4];exact X3.out.set 0 _ ⟨x1,3,0,0,0,0,0,0,0,0⟩ rfl⟩
  clear hw4 X3 m0 m1 g0 c1 c2 c3 c4 c5 c6 c7 c8 c9 c10
  have N2:=fun W=>rnumber_ok x2 0 10000 (by omega) W
  go_at_call 174
  refine (N2 _).mono ?_
  rintro e w12 ⟨rfl,b12⟩
  have X12:Hd (Lx B w w12 C (.slice aL C.levels.length cL) (.slice aS C.schemas.length cS) V ⟨x1,3,0,0,0,0,0,0,0,0⟩):=⟨X4.out.grown b12⟩
  clear N2 X4 b12
  have c3:=(X12.out.x.bel.cell (p:=⟨b,off+3,none⟩) HB.out.1).trans (HB.out.2.2.2.1)
  generalize hv2:numOf x2 0 10000=n2
  go_wp2_with fail
  have N3:=fun W=>rnumber_ok x3 0 100 (by omega) W
  go_at_call 174
  refine (N3 _).mono ?_
  rintro e w13 ⟨rfl,b13⟩
  have X13:Hd (Lx B w w13 C (.slice aL C.levels.length cL) (.slice aS C.schemas.length cS) V ⟨x1,3,0,0,0,0,0,0,0,0⟩):=⟨X12.out.grown b13⟩
  clear N3 X12 b13 c3
  have c4:=(X13.out.x.bel.cell (p:=⟨b,off+4,none⟩) HB.out.1).trans (HB.out.2.2.2.2.1)
  generalize hv3:numOf x3 0 100=n3
  go_wp2_with fail
  have N4:=fun W=>rnumber_ok x4 0 1000 (by omega) W
  go_at_call 174
  refine (N4 _).mono ?_
  rintro e w14 ⟨rfl,b14⟩
  have X14:Hd (Lx B w w14 C (.slice aL C.levels.length cL) (.slice aS C.schemas.length cS) V ⟨x1,3,0,0,0,0,0,0,0,0⟩):=⟨X13.out.grown b14⟩
  clear N4 X13 b14 c4
  have c4:=(X14.out.x.bel.cell (p:=⟨b,off+4,none⟩) HB.out.1).trans (HB.out.2.2.2.2.1)
  generalize hv4:numOf x4 0 1000=n4
  have HV:Hd (numOf x2 0 10000=n2∧numOf x3 0 100=n3∧numOf x4 0 1000=n4):=⟨hv2,hv3,hv4⟩
  clear hv2 hv3 hv4
  obtain ⟨y0,y1,y2,y3,y4,y5⟩:=X14.out.x.reads
  obtain ⟨r0,r1,r2,r3,r4,r5,f0,f1,f2,f3,f4,f5⟩:=X14.out.x.room
  have m1:=X14.out.q.cellv (v:=.int .i64 3) 1 rfl
  have m2:=X14.out.q.cellv (v:=.int .i64 0) 2 rfl
  have g2:=X14.out.q.frozen 2
  have m3:=X14.out.q.cellv (v:=.int .i64 0) 3 rfl
  have g3:=X14.out.q.frozen 3
  have m4:=X14.out.q.cellv (v:=.int .i64 0) 4 rfl
  have g4:=X14.out.q.frozen 4
  cases a2:numIn x2 0 10000 with
  | false =>
   by_cases hall:x4=tAll
   case' pos =>
    have ta:=lit_is (l:=[97,108,108]) hall
   case' neg =>
    have ta:=lit_isnt (l:=[97,108,108]) hall
   all_goals
    clear hall
    go_wp2_with fail
    have EE:E=8:=by rw [←HE.out.1];simp [levelE,levelW,kindW,gt,mu,ifE,numsE,queueE,HK9.out,HN1.out,a2]
    subst EE
    obtain ⟨q1,q2,q3⟩:=X14.out.x.sets (.int .i64 C.total) (.int .i64 C.period) (.int .i64 C.perSeat) (.int .i64 C.most) (.slice aL C.levels.length cL) (.slice aS C.schemas.length cS)
    refine bodyPost_ret (resC36 _ _ _ _ _ _ _ _ _ _ rfl rfl q1) rfl ?_
    exact ⟨_,rfl,q2,⟨_,_,_,_,_,_,_,_,_,_,rfl⟩,fun h=>absurd h (by decide)⟩
  | true =>
   cases a3:numIn x3 0 100 with
   | false =>
    by_cases hall:x4=tAll
    case' pos =>
     have ta:=lit_is (l:=[97,108,108]) hall
    case' neg =>
     have ta:=lit_isnt (l:=[97,108,108]) hall
    all_goals
     clear hall
     go_wp2_with fail
     have EE:E=8:=by rw [←HE.out.1];simp [levelE,levelW,kindW,gt,mu,ifE,numsE,queueE,HK9.out,HN1.out,a2,a3]
     subst EE
     obtain ⟨q1,q2,q3⟩:=X14.out.x.sets (.int .i64 C.total) (.int .i64 C.period) (.int .i64 C.perSeat) (.int .i64 C.most) (.slice aL C.levels.length cL) (.slice aS C.schemas.length cS)
     refine bodyPost_ret (resC36 _ _ _ _ _ _ _ _ _ _ rfl rfl q1) rfl ?_
     exact ⟨_,rfl,q2,⟨_,_,_,_,_,_,_,_,_,_,rfl⟩,fun h=>absurd h (by decide)⟩
   | true =>
    cases a4:borrowOk x4 with
    | false =>
     have hall:x4≠tAll:=fun e=>by unfold borrowOk at a4;rw [if_pos e] at a4;cases a4
     have hn4:numIn x4 0 1000=false:=by unfold borrowOk at a4;rw [if_neg hall] at a4;exact a4
     have ta:=lit_isnt (l:=[97,108,108]) hall
     rw [hn4]
     go_wp2_with fail
     have EE:E=8:=by rw [←HE.out.1];simp [levelE,levelW,kindW,gt,mu,ifE,numsE,queueE,HK9.out,HN1.out,a2,a3,a4]
     subst EE
     obtain ⟨q1,q2,q3⟩:=X14.out.x.sets (.int .i64 C.total) (.int .i64 C.period) (.int .i64 C.perSeat) (.int .i64 C.most) (.slice aL C.levels.length cL) (.slice aS C.schemas.length cS)
     refine bodyPost_ret (resC36 _ _ _ _ _ _ _ _ _ _ rfl rfl q1) rfl ?_
     exact ⟨_,rfl,q2,⟨_,_,_,_,_,_,_,_,_,_,rfl⟩,fun h=>absurd h (by decide)⟩
    | true =>
     have HA:Hd (numIn x2 0 10000=true∧numIn x3 0 100=true∧borrowOk x4=true):=⟨a2,a3,a4⟩
     by_cases hall:x4=tAll
     case' pos =>
      have ta:=lit_is (l:=[97,108,108]) hall
      obtain ⟨bo,hbo⟩:∃ bo:Int,bo=-1:=⟨_,rfl⟩
      have BO:Hd (borrowOf x4=bo):=⟨by unfold borrowOf;rw [if_pos hall,hbo]⟩
      clear hall
      go_upto_region 22 with fail
      rw [←hbo]
      clear hbo
     case' neg =>
      have ta:=lit_isnt (l:=[97,108,108]) hall
      have hn4:numIn x4 0 1000=true:=by unfold borrowOk at a4;rw [if_neg hall] at a4;exact a4
      rw [hn4]
      obtain ⟨bo,hbo⟩:∃ bo:Int,bo=n4:=⟨_,rfl⟩
      have BO:Hd (borrowOf x4=bo):=⟨by unfold borrowOf;rw [if_neg hall,hbo,HV.out.2.2]⟩
      clear hall
      go_upto_region 22 with fail
      rw [←hbo]
      clear hbo hn4
     all_goals
      generalize hw5:World.setCell _ _ _=w5
      have X5:Hd (Lx B w w5 C (.slice aL C.levels.length cL) (.slice aS C.schemas.length cS) V ⟨x1,3,n2,n3,bo,0,0,0,0,0⟩):=⟨by rw [←hw5];exact ((X14.out.set 2 _ ⟨x1,3,n2,0,0,0,0,0,0,0⟩ rfl).set 3 _ ⟨x1,3,n2,n3,0,0,0,0,0,0⟩ rfl).set 4 _ ⟨x1,3,n2,n3,bo,0,0,0,0,0⟩ rfl⟩
      clear hw5 X14 m1 m2 m3 m4 g2 g3 g4 y0 y1 y2 y3 y4 y5 r0 r1 r2 r3 r4 r5 f0 f1 f2 f3 f4 f5 c4 a2 a3 a4 ta
      have HC:Hd (∀ k,k<5→w.cell? ⟨b,off+(6+k),none⟩=some (.string (gt [x1,x2,x3,x4,x5,x6,x7,x8,x9,x10] (5+k)))∧(gt [x1,x2,x3,x4,x5,x6,x7,x8,x9,x10] (5+k)).size≤65536):=⟨fun k hk=>by
       match k,hk with
       | 0,_=>exact ⟨HB.out.2.2.2.2.2.2.1,z6⟩
       | 1,_=>exact ⟨HB.out.2.2.2.2.2.2.2.1,z7⟩
       | 2,_=>exact ⟨HB.out.2.2.2.2.2.2.2.2.1,z8⟩
       | 3,_=>exact ⟨HB.out.2.2.2.2.2.2.2.2.2.1,z9⟩
       | 4,_=>exact ⟨HB.out.2.2.2.2.2.2.2.2.2.2,z10⟩⟩
      have HQ0:Hd (∀ k,k<5→numIn (gt [x1,x2,x3,x4,x5,x6,x7,x8,x9,x10] (5+k)) 1 (mo5 k)=false→E=8):=⟨fun k hk h=>by rw [←HE.out.1];unfold levelE;rw [level_queue KW.out HN1.out HA.out.1 HA.out.2.1 HA.out.2.2,queue_bad hk h,mu_keep (e:=8) (by decide),mu_keep (e:=8) (by decide)]⟩
      have HQ1:Hd ((∀ k,k<5→numIn (gt [x1,x2,x3,x4,x5,x6,x7,x8,x9,x10] (5+k)) 1 (mo5 k)=true)→numIn x6 1 64=true∧numIn x7 1 8=true∧numIn x8 1 64=true∧numIn x9 1 1000=true∧numIn x10 1 1000=true):=⟨fun h=>⟨h 0 (by decide),h 1 (by decide),h 2 (by decide),h 3 (by decide),h 4 (by decide)⟩⟩
      have HT:Hd (∀ W g,Blk W g 205 (nvA [x1,x2,x3,x4,x5,x6,x7,x8,x9,x10] 5)→Blk W g 205 #[.int .i64 (numOf x6 1 64),.int .i64 (numOf x7 1 8),.int .i64 (numOf x8 1 64),.int .i64 (numOf x9 1 1000),.int .i64 (numOf x10 1 1000)]):=⟨fun W g h=>h⟩
      obtain ⟨ws,hws⟩:∃ ws,ws=[x1,x2,x3,x4,x5,x6,x7,x8,x9,x10]:=⟨_,rfl⟩
      rw [←hws] at HC HQ0 HQ1 HT
      clear hws
      go_upto_region 24 with fail
      generalize hw6:World.alloc _ _=w6
      have F6:Hd (L5 B w w6 C (.slice aL C.levels.length cL) (.slice aS C.schemas.length cS) V ⟨x1,3,n2,n3,bo,0,0,0,0,0⟩ w5.heap.size ws 0):=⟨by rw [←hw6];exact X5.out.five ws⟩
      clear hw6 X5
      generalize w5.heap.size=g1 at *
      go_wp2_with fail
      go_loopw [15,16,17] (fun i k16 k17 wr=>∃ k:Nat,k≤5∧i=.int .i64 k∧Hd (L5 B w wr C (.slice aL C.levels.length cL) (.slice aS C.schemas.length cS) V ⟨x1,3,n2,n3,bo,0,0,0,0,0⟩ g1 ws k)) (fun i _ _ _=>5 - (intOf i).toNat)
      case atStart=>exact ⟨0,Nat.zero_le _,rfl,F6⟩
      case round =>
       obtain ⟨k,hk,rfl,hF⟩:=hrel
       clear F6
       by_cases hlt:k<5
       ·have hcell:=(hF.out.lx.x.bel.cell (p:=⟨b,off+(6+k),none⟩) HB.out.1).trans (HC.out k hlt).1
        have hsz:=(HC.out k hlt).2
        have c2:=hF.out.a2.cellv k (moA_at k hlt)
        have RN:=fun W=>rnumber_ok (gt ws (5+k)) 1 (mo5 k) (by omega) W
        have HK:Hd (k<5):=⟨hlt⟩
        have S1:b<wr.heap.size:=Nat.lt_of_lt_of_le HB.out.1 hF.out.lx.x.bel.size
        have S2:g1+1<wr.heap.size:=hF.out.a2.lt
        have i1:6+(k:Int)<11:=by omega
        have i2:(k:Int)<5:=by omega
        have i3:IntKind.i64.wrap (6+(k:Int))=6+(k:Int):=by rw [IntKind.wrap_i64];omega
        have HB8:Hd (numIn (gt ws (5+k)) 1 (mo5 k)=false→E=8):=⟨HQ0.out k hlt⟩
        have HF2:Hd (∀ W,L5 B w W C (.slice aL C.levels.length cL) (.slice aS C.schemas.length cS) V ⟨x1,3,n2,n3,bo,0,0,0,0,0⟩ g1 ws k→numIn (gt ws (5+k)) 1 (mo5 k)=true→L5 B w (W.setCell ⟨g1,k,none⟩ (.int .i64 (numOf (gt ws (5+k)) 1 (mo5 k)))) C (.slice aL C.levels.length cL) (.slice aS C.schemas.length cS) V ⟨x1,3,n2,n3,bo,0,0,0,0,0⟩ g1 ws (k+1)):=⟨fun W h hn=>h.next HK.out hn⟩
        have HF3:Hd (∀ W,L5 B w W C (.slice aL C.levels.length cL) (.slice aS C.schemas.length cS) V ⟨x1,3,n2,n3,bo,0,0,0,0,0⟩ g1 ws k→W.cell? ⟨g1,k,none⟩=some (.int .i64 0)∧W.frozen? ⟨g1,k,none⟩=false):=⟨fun W h=>⟨h.a1.cellv k (nvA_at ws k HK.out),h.a1.frozen k⟩⟩
        generalize gt ws (5+k)=x at *
        generalize mo5 k=h0 at *
        generalize numOf x 1 h0=nv at *
        generalize hnb:numIn x 1 h0=nb at *
        go_wp2_with fail
        go_region_held (fun w'=>w'.cell? ⟨b,off+(6+k),none⟩=some (.string x)∧w'.cell? ⟨g1+1,k,none⟩=some (.int .i64 h0)) (first | exact ⟨s1,s2⟩ | exact ⟨hcell,c2⟩)
         (first | (go_at_call 174;refine (RN _).mono ?_;rintro e w3 ⟨rfl,b3⟩;have s1:=(b3.cell (p:=⟨b,off+(6+k),none⟩) S1).trans hcell;have s2:=(b3.cell (p:=⟨g1+1,k,none⟩) S2).trans c2))
        have F3:Hd (L5 B w w3 C (.slice aL C.levels.length cL) (.slice aS C.schemas.length cS) V ⟨x1,3,n2,n3,bo,0,0,0,0,0⟩ g1 ws k):=⟨(hF.out.grown (w':=wr.drew) ⟨rfl,rfl,rfl,Nat.le_refl _,fun _ _=>rfl⟩).grown b3⟩
        clear s1 s2 b3 hF hcell c2 RN
        cases nb with
        | false =>
         obtain ⟨y0,y1,y2,y3,y4,y5⟩:=F3.out.lx.x.reads
         obtain ⟨r0,r1,r2,r3,r4,r5,f0,f1,f2,f3,f4,f5⟩:=F3.out.lx.x.room
         go_wp2_with fail
         have EE:E=8:=HB8.out (by first | exact rfl | trivial)
         subst EE
         obtain ⟨q1,q2,q3⟩:=F3.out.lx.x.sets (.int .i64 C.total) (.int .i64 C.period) (.int .i64 C.perSeat) (.int .i64 C.most) (.slice aL C.levels.length cL) (.slice aS C.schemas.length cS)
         refine bodyPost_ret (resC36 _ _ _ _ _ _ _ _ _ _ rfl rfl q1) rfl ?_
         exact ⟨_,rfl,q2,⟨_,_,_,_,_,_,_,_,_,_,rfl⟩,fun h=>absurd h (by decide)⟩
        | true =>
         obtain ⟨p1,p2⟩:=HF3.out w3 F3.out
         go_wp2_with fail
         have F4:Hd _:=⟨HF2.out w3 F3.out (by first | exact rfl | trivial)⟩
         go_roundw
         case rel=>exact ⟨k+1,HK.out,by go_num,F4⟩
         case measure=>have:=HK.out;simp [intOf];omega
       ·obtain rfl:k=5:=by omega
        obtain ⟨o6,o7,o8,o9,o10⟩:=HQ1.out hF.out.ok
        have HO:Hd (numIn x6 1 64=true∧numIn x7 1 8=true∧numIn x8 1 64=true∧numIn x9 1 1000=true∧numIn x10 1 1000=true):=⟨⟨o6,o7,o8,o9,o10⟩⟩
        have A5:=HT.out wr g1 hF.out.a1
        have LX5:=hF.out.lx
        have GL:=hF.out.le
        clear hF o6 o7 o8 o9 o10 HT HQ1 HQ0 HC
        generalize hv6:numOf x6 1 64=n6 at *
        generalize hv7:numOf x7 1 8=n7 at *
        generalize hv8:numOf x8 1 64=n8 at *
        generalize hv9:numOf x9 1 1000=n9 at *
        generalize hv10:numOf x10 1 1000=n10 at *
        have HV2:Hd (numOf x6 1 64=n6∧numOf x7 1 8=n7∧numOf x8 1 64=n8∧numOf x9 1 1000=n9∧numOf x10 1 1000=n10):=⟨⟨hv6,hv7,hv8,hv9,hv10⟩⟩
        clear hv6 hv7 hv8 hv9 hv10
        have HG:Hd (g1≠w.heap.size+1+1):=⟨A5.ne LX5.q (by decide)⟩
        go_wp2_with fail
        have DR:Below wr.heap.size wr wr.drew:=⟨rfl,rfl,rfl,Nat.le_refl _,fun _ _=>rfl⟩
        have A6:=A5.kept (Kept.of_below DR (fun _=>False)) id
        have X6:=LX5.grown DR
        clear A5 LX5
        refine AnyG.start (T:=fun w'=>Blk w' g1 205 #[.int .i64 n6,.int .i64 n7,.int .i64 n8,.int .i64 n9,.int .i64 n10]) (U:=fun _=>True) (j0:=100) (by kernel_rfl) ?_
        clear DR
        generalize wr.drew=w0 at *
        refine .tq 0 134 A6 ?_;simp only [tkA,tkB,tkC]
        refine .tq 1 135 A6 ?_ (hy:=fun w hSw=>by have s0:=hSw.cellv (v:=.int .i64 n6) 0 rfl;go_simp;rfl);simp only [tkA,tkB,tkC]
        refine .tq 2 136 A6 ?_;simp only [tkA,tkB,tkC]
        refine .tq 3 137 A6 ?_ (hy:=fun w hSw=>by have s0:=hSw.cellv (v:=.int .i64 n7) 1 rfl;go_simp;rfl);simp only [tkA,tkB,tkC]
        refine .tq 4 138 A6 ?_;simp only [tkA,tkB,tkC]
        refine .tq 5 139 A6 ?_ (hy:=fun w hSw=>by have s0:=hSw.cellv (v:=.int .i64 n8) 2 rfl;go_simp;rfl);simp only [tkA,tkB,tkC]
        refine .tq 6 140 A6 ?_;simp only [tkA,tkB,tkC]
        refine .tq 7 141 A6 ?_ (hy:=fun w hSw=>by have s0:=hSw.cellv (v:=.int .i64 n9) 3 rfl;go_simp;rfl);simp only [tkA,tkB,tkC]
        refine .tq 8 142 A6 ?_;simp only [tkA,tkB,tkC]
        refine .tq 9 143 A6 ?_ (hy:=fun w hSw=>by have s0:=hSw.cellv (v:=.int .i64 n10) 4 rfl;go_simp;rfl);simp only [tkA,tkB,tkC]
        refine .tq 10 144 A6 ?_;simp only [tkA,tkB,tkC]
        refine AnyG.ready (rs:=[11]) (by kernel_rfl) (by simp) ?_
        refine AllG.cons rfl (fun K hK=>?_) AllG.nil
        have p0:=X6.q.cellv (v:=.int .i64 0) 5 rfl
        have pf0:=X6.q.frozen 5
        go_simp
        have A7:=A6.other (p:=⟨w.heap.size+1+1,5,none⟩) HG.out (.int .i64 n6)
        have X7:=X6.set 5 (.int .i64 n6) ⟨x1,3,n2,n3,bo,n6,0,0,0,0⟩ rfl
        refine hK.out _ _ ⟨A7,fun _=>trivial⟩ ?_
        clear hK K p0 pf0 A6 X6
        generalize w0.setCell _ _=w20 at *
        refine .tq 12 145 A7 ?_;simp only [tkA,tkB,tkC]
        refine AnyG.ready (rs:=[13]) (by kernel_rfl) (by simp) ?_
        refine AllG.cons rfl (fun K hK=>?_) AllG.nil
        have p1:=X7.q.cellv (v:=.int .i64 0) 6 rfl
        have pf1:=X7.q.frozen 6
        go_simp
        have A8:=A7.other (p:=⟨w.heap.size+1+1,6,none⟩) HG.out (.int .i64 n7)
        have X8:=X7.set 6 (.int .i64 n7) ⟨x1,3,n2,n3,bo,n6,n7,0,0,0⟩ rfl
        refine hK.out _ _ ⟨A8,fun _=>trivial⟩ ?_
        clear hK K p1 pf1 A7 X7
        generalize w20.setCell _ _=w21 at *
        refine .tq 14 146 A8 ?_;simp only [tkA,tkB,tkC]
        refine AnyG.ready (rs:=[15]) (by kernel_rfl) (by simp) ?_
        refine AllG.cons rfl (fun K hK=>?_) AllG.nil
        have p2:=X8.q.cellv (v:=.int .i64 0) 7 rfl
        have pf2:=X8.q.frozen 7
        go_simp
        have A9:=A8.other (p:=⟨w.heap.size+1+1,7,none⟩) HG.out (.int .i64 n8)
        have X9:=X8.set 7 (.int .i64 n8) ⟨x1,3,n2,n3,bo,n6,n7,n8,0,0⟩ rfl
        refine hK.out _ _ ⟨A9,fun _=>trivial⟩ ?_
        clear hK K p2 pf2 A8 X8
        generalize w21.setCell _ _=w22 at *
        refine .tq 16 147 A9 ?_;simp only [tkA,tkB,tkC]
        refine AnyG.ready (rs:=[17]) (by kernel_rfl) (by simp) ?_
        refine AllG.cons rfl (fun K hK=>?_) AllG.nil
        have p3:=X9.q.cellv (v:=.int .i64 0) 8 rfl
        have pf3:=X9.q.frozen 8
        go_simp
        have A10:=A9.other (p:=⟨w.heap.size+1+1,8,none⟩) HG.out (.int .i64 n9)
        have X10:=X9.set 8 (.int .i64 n9) ⟨x1,3,n2,n3,bo,n6,n7,n8,n9,0⟩ rfl
        refine hK.out _ _ ⟨A10,fun _=>trivial⟩ ?_
        clear hK K p3 pf3 A9 X9
        generalize w22.setCell _ _=w23 at *
        refine .tq 18 148 A10 ?_;simp only [tkA,tkB,tkC]
        refine AnyG.ready (rs:=[19]) (by kernel_rfl) (by simp) ?_
        refine AllG.cons rfl (fun K hK=>?_) AllG.nil
        have p4:=X10.q.cellv (v:=.int .i64 0) 9 rfl
        have pf4:=X10.q.frozen 9
        go_simp
        have A11:=A10.other (p:=⟨w.heap.size+1+1,9,none⟩) HG.out (.int .i64 n10)
        have X11:=X10.set 9 (.int .i64 n10) ⟨x1,3,n2,n3,bo,n6,n7,n8,n9,n10⟩ rfl
        refine hK.out _ _ ⟨A11,fun _=>trivial⟩ ?_
        clear hK K p4 pf4 A10 X10
        generalize w23.setCell _ _=w24 at *
        refine AnyG.done (by kernel_rfl) ?_ _
        have HL0:Hd (l=⟨x1,3,n2,n3,bo,n6,n7,n8,n9,n10⟩):=⟨by rw [←HE.out.2];unfold levelOf;simp [KW.out,gt,HV.out.1,HV.out.2.1,BO.out,HV2.out.1,HV2.out.2.1,HV2.out.2.2.1,HV2.out.2.2.2.1,HV2.out.2.2.2.2]⟩
        have H0:Hd (levelE C [x1,x2,x3,x4,x5,x6,x7,x8,x9,x10]=mu (ifE (!hasLv C l.name) 5) (ifE (decide ((C.levels.length:Int)<16)) 3)):=⟨by rw [HL0.out];simp [levelE,levelW,KW.out,gt,HN1.out,mu,ifE,HA.out.1,HA.out.2.1,HA.out.2.2,numsE,queueE,HO.out.1,HO.out.2.1,HO.out.2.2.1,HO.out.2.2.2.1,HO.out.2.2.2.2]⟩
        obtain ⟨n,hn⟩:∃ n,n=C.levels.length:=⟨_,rfl⟩
        have HN:Hd (n=C.levels.length∧n≤16):=⟨hn,by omega⟩
        have hY:Hd (Lx B w w24 C (.slice aL n cL) (.slice aS C.schemas.length cS) V l):=⟨by rw [hn,HL0.out];exact X11⟩
        rw [←hn]
        clear hn HL0
        clear X11 A11
        go_wp2_with fail
        go_loopw [18] (fun i wr=>∃ j:Nat,j≤n∧i=.int .i64 j∧Hd ((∀ q (h:q<C.levels.length),q<j→C.levels[q].name≠l.name)∧Lx B w wr C (.slice aL n cL) (.slice aS C.schemas.length cS) V l)) (fun i _=>n - (intOf i).toNat)
        case atStart=>exact ⟨0,Nat.zero_le _,rfl,⟨fun _ _ h=>absurd h (Nat.not_lt_zero _),hY.out⟩⟩
        case round =>
         obtain ⟨j,hj,rfl,hJ⟩:=hrel
         obtain ⟨y0,y1,y2,y3,y4,y5⟩:=hJ.out.2.x.reads
         have cq:wr.cell? ⟨w.heap.size+1+1,0,none⟩=some (.string l.name):=hJ.out.2.q.cellv 0 rfl
         by_cases hlt:j<n
         ·have hjL:j<C.levels.length:=by rw [←HN.out.1];exact hlt
          have hs:=hJ.out.2.x.l
          rw [HN.out.1] at hs
          obtain ⟨g1,rfl,hg1,C1⟩:=lv_rd hs (by omega)
          have cn:wr.cell? ⟨g1,j*10,none⟩=some (.string C.levels[j].name):=C1 j hjL 0 (by decide)
          have HK:Hd (j<n):=⟨hlt⟩
          have n32:=HN.out.2
          have i1:(j:Int)<(n:Int):=by omega
          by_cases hxy:C.levels[j].name=l.name
          ·have E5:E=5:=by rw [←HE.out.1,H0.out];simp [hasLv_yes hjL hxy,mu,ifE]
           subst E5
           rw [hxy] at cn
           clear hxy hjL C1 hs
           generalize l.name=x1 at *
           have ee:(x1.toList == x1.toList)=true:=by simp
           go_wp2_with fail
           go_big_quiet (fail)
           generalize hwd:wr.drewN _=wd
           have hZ:Lx B w wd C (.slice (some ⟨g1,0,none⟩) n cL) (.slice aS C.schemas.length cS) V l:=by rw [←hwd];exact hJ.out.2.grown (below_drew _ _)
           clear hwd cn cq
           obtain ⟨y0,y1,y2,y3,y4,y5⟩:=hZ.x.reads
           obtain ⟨r0,r1,r2,r3,r4,r5,f0,f1,f2,f3,f4,f5⟩:=hZ.x.room
           go_wp2_with fail
           obtain ⟨q1,q2,q3⟩:=hZ.x.sets (.int .i64 C.total) (.int .i64 C.period) (.int .i64 C.perSeat) (.int .i64 C.most) (.slice (some ⟨g1,0,none⟩) n cL) (.slice aS C.schemas.length cS)
           refine bodyPost_ret (resC36 _ _ _ _ _ _ _ _ _ _ rfl rfl q1) rfl ?_
           exact ⟨_,rfl,q2,⟨_,_,_,_,_,_,_,_,_,_,rfl⟩,fun h=>absurd h (by decide)⟩
          ·have HQ:Hd (∀ q (h:q<C.levels.length),q<j+1→C.levels[q].name≠l.name):=⟨fun q hq h=>by
            rcases Nat.lt_or_eq_of_le (Nat.le_of_lt_succ h) with h' | h'
            ·exact hJ.out.1 q hq h'
            ·subst h';exact hxy⟩
           have ee:=str_ne hxy
           generalize C.levels[j].name=y at *
           clear hxy hjL C1 hs
           go_wp2_with fail
           go_big_quiet (fail)
           go_wp2
           go_roundw
           case rel=>exact ⟨j+1,HK.out,by go_num,⟨HQ.out,hJ.out.2.grown (below_drew _ _)⟩⟩
           case measure=>have:=HK.out;simp [intOf];omega
         ·obtain rfl:j=n:=by omega
          have hno:=hasLv_no (C:=C) (x:=l.name) (fun q h=>hJ.out.1 q h (by rw [HN.out.1];exact h))
          have HS0:Hd (E=ifE (decide ((C.levels.length:Int)<16)) 3):=⟨by rw [←HE.out.1,H0.out];simp [hno,mu,ifE]⟩
          by_cases h32:j=16
          ·obtain ⟨r0,r1,r2,r3,r4,r5,f0,f1,f2,f3,f4,f5⟩:=hJ.out.2.x.room
           have E3:E=3:=by rw [HS0.out,← HN.out.1,h32];decide
           subst E3
           have gg:decide ((j:Int) ≥ 16)=true:=by rw [h32];decide
           clear h32
           go_wp2_with fail
           obtain ⟨q1,q2,q3⟩:=hJ.out.2.x.sets (.int .i64 C.total) (.int .i64 C.period) (.int .i64 C.perSeat) (.int .i64 C.most) (.slice aL j cL) (.slice aS C.schemas.length cS)
           refine bodyPost_ret (resC36 _ _ _ _ _ _ _ _ _ _ rfl rfl q1) rfl ?_
           exact ⟨_,rfl,q2,⟨_,_,_,_,_,_,_,_,_,_,rfl⟩,fun h=>absurd h (by decide)⟩
          ·have gg:decide ((j:Int) ≥ 16)=false:=by have:=HN.out.2;simp;omega
           have HJ:Hd (j<16):=⟨by have:=HN.out.2;omega⟩
           clear h32 hno
           go_wp2_with fail
           clear gg
           have aW:w.heap.size<wr.heap.size:=hJ.out.2.x.c.lt
           have TT:∀ W,Below wr.heap.size wr W→Blk W (w.heap.size+1+1) 43 (lvA l)∧W.cell? ⟨w.heap.size,4,none⟩=some (.slice aL j cL):=fun W hW=>⟨hJ.out.2.q.kept (Kept.of_below hW (fun _=>False)) id,(hW.cell (p:=⟨w.heap.size,4,none⟩) aW).trans y4⟩
           have OWN:∀ W,Below wr.heap.size wr W→W.ownsRow B 43 10 (.slice aL j cL) j (lvCs C.levels):=fun W hW=>by
            have h1:wr.ownsRow B 43 10 _ _ _:=hJ.out.2.x.l
            rw [←HN.out.1] at h1
            exact owns_kept h1 (Kept.of_below hW (fun _=>False)) (fun _ _=>id)
           have ONES:=lvCs_ones C.levels
           have BW:B≤wr.heap.size:=Nat.le_trans hB (Nat.le_of_lt aW)
           have j32:=HJ.out
           obtain ⟨i0,hi,hz0,hz1,hz2⟩:=info_parts info39
           have ONE:∀ u∈([.string l.name,.int .i64 l.kind,.int .i64 l.shares,.int .i64 l.lend,.int .i64 l.borrow,.int .i64 l.queues,.int .i64 l.hand,.int .i64 l.length,.int .i64 l.wait,.int .i64 l.guess]:List Value),u.oneCell'=true:=lvC_ones l
           have FIN:Hd (∀ q cap W,W.ownsRow B 43 10 (.slice (some ⟨q,0,none⟩) (j+1) cap) (j+1) (lvCs C.levels ++ [.string l.name,.int .i64 l.kind,.int .i64 l.shares,.int .i64 l.lend,.int .i64 l.borrow,.int .i64 l.queues,.int .i64 l.hand,.int .i64 l.length,.int .i64 l.wait,.int .i64 l.guess])→Below wr.heap.size wr W→Bx B w (W.setCell ⟨w.heap.size,4,none⟩ (.slice (some ⟨q,0,none⟩) (j+1) cap)) ⟨C.total,C.period,C.perSeat,C.most,C.levels ++ [l],C.schemas⟩ (.slice (some ⟨q,0,none⟩) (j+1) cap) (.slice aS C.schemas.length cS) V):=⟨fun q cap W hO hW=>by
            rw [HN.out.1] at hO ⊢
            exact Bx.lv (hJ.out.2.x.grown hW) hO⟩
           have ROOM:Hd (∀ W,Below wr.heap.size wr W→W.cell? ⟨w.heap.size,4,none⟩=some (.slice aL j cL)∧W.frozen? ⟨w.heap.size,4,none⟩=false):=⟨fun W hW=>⟨(TT W hW).2,(hJ.out.2.x.grown hW).c.frozen 4⟩⟩
           have hbA:w.heap.size+1+1≠w.heap.size:=by omega
           have HEND:Hd (∀ (v:Value) (W W':World),Blk W' (w.heap.size+1) 25 #[.int .i64 C.total,.int .i64 C.period,.int .i64 C.perSeat,.int .i64 C.most,v,.slice aS C.schemas.length cS]→Below w.heap.size w W'→Kept (fun k=>k=w.heap.size+1) W W'→Bx B w W ⟨C.total,C.period,C.perSeat,C.most,C.levels ++ [l],C.schemas⟩ v (.slice aS C.schemas.length cS) V →
             ∃ v',Ending.returned (.tuple #[.agg #[.int .i64 C.total,.int .i64 C.period,.int .i64 C.perSeat,.int .i64 C.most,v,.slice aS C.schemas.length cS],.int .i64 0])=Ending.returned (.tuple #[v',.int .i64 E])∧Below w.heap.size w W'∧Six v'∧(E=0→CfV B W' v' ⟨C.total,C.period,C.perSeat,C.most,C.levels ++ [l],C.schemas⟩)):=⟨fun v W W' _ q2 q3 X9=>by
            have E0:E=0:=by rw [HS0.out,← HN.out.1];have:=HJ.out;simp [ifE];omega
            subst E0
            have cf:CfV B W' (.agg #[.int .i64 C.total,.int .i64 C.period,.int .i64 C.perSeat,.int .i64 C.most,v,.slice aS C.schemas.length cS]) ⟨C.total,C.period,C.perSeat,C.most,C.levels ++ [l],C.schemas⟩:=⟨_,_,V,rfl,X9.l.off q3 (off_blkR X9.r (by decide)),X9.s.off q3 (off_blkR X9.r (by decide)) (off_blkR X9.r (by decide)) (off_blkR X9.r (by decide))⟩
            exact ⟨_,rfl,q2,cf.six,fun _=>cf⟩⟩
           refine AnyG.start (T:=fun w'=>Blk w' (w.heap.size+1+1) 43 (lvA l)) (U:=fun w'=>w'.cell? ⟨w.heap.size,4,none⟩=some (.slice aL j cL)) (j0:=3) (by kernel_rfl) ?_
           have bel0:Below wr.heap.size wr wr.drew:=⟨rfl,rfl,rfl,Nat.le_refl _,fun _ _=>rfl⟩
           generalize wr.drew=w0 at *
           have h0:=TT w0 bel0
           refine .tr 1 172 ⟨h0.1,fun _=>h0.2⟩ ?_;simp only [tkA,tkB,tkC]
           refine .er 2 173 ⟨h0.1,fun _=>h0.2⟩ ?_ (hy:=fun w hSw=>by obtain ⟨s1,s3⟩:=hSw;go_simp;rfl);simp only [tkA,tkB,tkC]
           refine .tr 4 175 ⟨h0.1,fun _=>h0.2⟩ ?_ (hy:=fun w hSw=>by have s0:=hSw.cellv (v:=.string l.name) 0 rfl;have s1:=hSw.cellv (v:=.int .i64 l.kind) 1 rfl;have s2:=hSw.cellv (v:=.int .i64 l.shares) 2 rfl;have s3:=hSw.cellv (v:=.int .i64 l.lend) 3 rfl;have s4:=hSw.cellv (v:=.int .i64 l.borrow) 4 rfl;have s5:=hSw.cellv (v:=.int .i64 l.queues) 5 rfl;have s6:=hSw.cellv (v:=.int .i64 l.hand) 6 rfl;have s7:=hSw.cellv (v:=.int .i64 l.length) 7 rfl;have s8:=hSw.cellv (v:=.int .i64 l.wait) 8 rfl;have s9:=hSw.cellv (v:=.int .i64 l.guess) 9 rfl;go_simp;rfl);simp only [tkA,tkB,tkC]
           refine AnyG.ready (rs:=[0,5]) (by kernel_rfl) (by simp) ?_
           refine AllG.cons rfl (fun K hK=>?_) (AllG.cons rfl (fun K hK=>?_) AllG.nil)
           ·skip
            go_simp
            have bn1:Below wr.heap.size wr (w0.alloc (.cells #[] 43)):=bel0.alloc bel0.size _
            refine hK.out _ _ ⟨(TT _ bn1).1,fun _=>(TT _ bn1).2⟩ ?_
            clear hK K
            have hn1:Blk (w0.alloc (.cells #[] 43)) w0.heap.size 43 #[]:=Blk.new w0 43 _
            have hb1:wr.heap.size≤w0.heap.size:=bel0.size
            generalize w0.alloc (.cells #[] 43)=wa1 at *
            generalize w0.heap.size=qa1 at *
            refine AnyG.ready (rs:=[3,5]) (by kernel_rfl) (by simp) ?_
            refine AllG.cons rfl (fun K hK=>?_) (AllG.cons rfl (fun K hK=>?_) AllG.nil)
            ·skip
             refine step_copy rfl (.tmp 171) (.tmp 173) 22 rfl wr.heap.size 43 i0 (.agg #[.string ⟨#[]⟩,.int .i64 0,.int .i64 0,.int .i64 0,.int .i64 0,.int .i64 0,.int .i64 0,.int .i64 0,.int .i64 0,.int .i64 0]) 10 88 Tryz.underlying22 hi hz0 hz1 hz2 rfl (by decide) qa1 (by simp [Act.eval]) hn1 hb1 B aL j cL (by simp [Act.eval]) (lvCs C.levels) (OWN _ bn1) ONES (by unfold maxLen;omega) (by omega) ?_
             intro g2 cap2 wc2 own2 gr2 lt2
             have bc2:Below wr.heap.size wr wc2:=bn1.grown gr2 bn1.size (fun k hk=>by injection hk with hk;have:=hb1;omega)
             refine hK.out _ _ ⟨(TT _ bc2).1,fun _=>(TT _ bc2).2⟩ ?_
             clear hK K
             refine AnyG.putAt 174 rfl ?_
             simp only [List.setIfInBounds_toArray,List.set_cons_zero,List.set_cons_succ]
             refine AnyG.ready (rs:=[5]) (by kernel_rfl) (by simp) ?_
             refine AllG.cons rfl (fun K hK=>?_) AllG.nil
             go_simp
             have bn3:Below wr.heap.size wr (wc2.alloc (.cells #[.string l.name,.int .i64 l.kind,.int .i64 l.shares,.int .i64 l.lend,.int .i64 l.borrow,.int .i64 l.queues,.int .i64 l.hand,.int .i64 l.length,.int .i64 l.wait,.int .i64 l.guess] 43)):=bc2.alloc bc2.size _
             refine hK.out _ _ ⟨(TT _ bn3).1,fun _=>(TT _ bn3).2⟩ ?_
             clear hK K
             have hn3:Blk (wc2.alloc (.cells #[.string l.name,.int .i64 l.kind,.int .i64 l.shares,.int .i64 l.lend,.int .i64 l.borrow,.int .i64 l.queues,.int .i64 l.hand,.int .i64 l.length,.int .i64 l.wait,.int .i64 l.guess] 43)) wc2.heap.size 43 #[.string l.name,.int .i64 l.kind,.int .i64 l.shares,.int .i64 l.lend,.int .i64 l.borrow,.int .i64 l.queues,.int .i64 l.hand,.int .i64 l.length,.int .i64 l.wait,.int .i64 l.guess]:=Blk.new wc2 43 _
             have hb3:wr.heap.size≤wc2.heap.size:=bc2.size
             have ho3:=World.ownsRow.alloc own2 (.cells #[.string l.name,.int .i64 l.kind,.int .i64 l.shares,.int .i64 l.lend,.int .i64 l.borrow,.int .i64 l.queues,.int .i64 l.hand,.int .i64 l.length,.int .i64 l.wait,.int .i64 l.guess] 43)
             generalize wc2.alloc (.cells #[.string l.name,.int .i64 l.kind,.int .i64 l.shares,.int .i64 l.lend,.int .i64 l.borrow,.int .i64 l.queues,.int .i64 l.hand,.int .i64 l.length,.int .i64 l.wait,.int .i64 l.guess] 43)=wa3 at *
             generalize wc2.heap.size=pa3 at *
             refine AnyG.ready (rs:=[6]) (by kernel_rfl) (by simp) ?_
             refine AllG.cons rfl (fun K hK=>?_) AllG.nil
             refine step_append_lies wa3 rfl (.tmp 174) (.tmp 176) 22 rfl wr.heap.size 43 i0 (.agg #[.string ⟨#[]⟩,.int .i64 0,.int .i64 0,.int .i64 0,.int .i64 0,.int .i64 0,.int .i64 0,.int .i64 0,.int .i64 0,.int .i64 0]) 10 88 Tryz.underlying22 hi hz0 hz1 hz2 rfl (by decide) _ j (lvCs C.levels) (by simp [Act.eval]) ho3 ⟨pa3,0,none⟩ 1 1 [.string l.name,.int .i64 l.kind,.int .i64 l.shares,.int .i64 l.lend,.int .i64 l.borrow,.int .i64 l.queues,.int .i64 l.hand,.int .i64 l.length,.int .i64 l.wait,.int .i64 l.guess] (by simp [Act.eval]) rfl (World.news_of_block hn3) ONE (by decide) (by unfold maxLen;omega) (by omega) bn3.size _ rfl ?_
             intro q8 cap8 w8 hown hgrow hat hlt
             have b8:Below wr.heap.size wr w8:=bn3.grown hgrow bn3.size (fun k hk=>(ho3.lt k hk).1)
             refine hK.out _ _ ⟨(TT _ b8).1,fun _=>(TT _ b8).2⟩ ?_
             clear hK K
             refine AnyG.putAt 177 rfl ?_
             simp only [List.setIfInBounds_toArray,List.set_cons_zero,List.set_cons_succ]
             have h8:=TT w8 b8
             refine .tr 7 178 ⟨h8.1,fun _=>h8.2⟩ ?_;simp only [tkA,tkB,tkC]
             refine AnyG.ready (rs:=[8]) (by kernel_rfl) (by simp) ?_
             refine AllG.cons rfl (fun K hK=>?_) AllG.nil
             obtain ⟨e8,f8⟩:=ROOM.out w8 b8
             have X9:=FIN.out q8 cap8 w8 (owns_mono hown BW) b8
             go_simp
             refine hK.out _ _ ⟨h8.1.other hbA _,fun h=>by cases h⟩ ?_
             clear hK K
             refine AnyG.done (by kernel_rfl) ?_ _
             generalize w8.setCell _ _=w9 at *
             obtain ⟨y0,y1,y2,y3,y4,y5⟩:=X9.reads
             obtain ⟨r0,r1,r2,r3,r4,r5,f0,f1,f2,f3,f4,f5⟩:=X9.room
             clear TT OWN ONES ROOM FIN h8 e8 f8 hown hgrow
             go_wp2_with fail
             obtain ⟨q1,q2,q3⟩:=X9.sets (.int .i64 C.total) (.int .i64 C.period) (.int .i64 C.perSeat) (.int .i64 C.most) (.slice (some ⟨q8,0,none⟩) (j+1) cap8) (.slice aS C.schemas.length cS)
             refine bodyPost_ret (resC36 _ _ _ _ _ _ _ _ _ _ rfl rfl q1) rfl ?_
             exact HEND.out _ _ _ q1 q2 q3 X9
            ·skip
             go_simp
             have bn4:Below wr.heap.size wr (wa1.alloc (.cells #[.string l.name,.int .i64 l.kind,.int .i64 l.shares,.int .i64 l.lend,.int .i64 l.borrow,.int .i64 l.queues,.int .i64 l.hand,.int .i64 l.length,.int .i64 l.wait,.int .i64 l.guess] 43)):=bn1.alloc bn1.size _
             refine hK.out _ _ ⟨(TT _ bn4).1,fun _=>(TT _ bn4).2⟩ ?_
             clear hK K
             have hn4:Blk (wa1.alloc (.cells #[.string l.name,.int .i64 l.kind,.int .i64 l.shares,.int .i64 l.lend,.int .i64 l.borrow,.int .i64 l.queues,.int .i64 l.hand,.int .i64 l.length,.int .i64 l.wait,.int .i64 l.guess] 43)) wa1.heap.size 43 #[.string l.name,.int .i64 l.kind,.int .i64 l.shares,.int .i64 l.lend,.int .i64 l.borrow,.int .i64 l.queues,.int .i64 l.hand,.int .i64 l.length,.int .i64 l.wait,.int .i64 l.guess]:=Blk.new wa1 43 _
             have hb4:wr.heap.size≤wa1.heap.size:=bn1.size
             have hc4:=hn1.kept (Kept.of_below ((Below.refl wa1.heap.size wa1).alloc (Nat.le_refl _) (.cells #[.string l.name,.int .i64 l.kind,.int .i64 l.shares,.int .i64 l.lend,.int .i64 l.borrow,.int .i64 l.queues,.int .i64 l.hand,.int .i64 l.length,.int .i64 l.wait,.int .i64 l.guess] 43)) (fun _=>False)) id
             generalize wa1.alloc (.cells #[.string l.name,.int .i64 l.kind,.int .i64 l.shares,.int .i64 l.lend,.int .i64 l.borrow,.int .i64 l.queues,.int .i64 l.hand,.int .i64 l.length,.int .i64 l.wait,.int .i64 l.guess] 43)=wa4 at *
             generalize wa1.heap.size=pa4 at *
             refine AnyG.ready (rs:=[3]) (by kernel_rfl) (by simp) ?_
             refine AllG.cons rfl (fun K hK=>?_) AllG.nil
             refine step_copy rfl (.tmp 171) (.tmp 173) 22 rfl wr.heap.size 43 i0 (.agg #[.string ⟨#[]⟩,.int .i64 0,.int .i64 0,.int .i64 0,.int .i64 0,.int .i64 0,.int .i64 0,.int .i64 0,.int .i64 0,.int .i64 0]) 10 88 Tryz.underlying22 hi hz0 hz1 hz2 rfl (by decide) qa1 (by simp [Act.eval]) hc4 hb1 B aL j cL (by simp [Act.eval]) (lvCs C.levels) (OWN _ bn4) ONES (by unfold maxLen;omega) (by omega) ?_
             intro g5 cap5 wc5 own5 gr5 lt5
             have bc5:Below wr.heap.size wr wc5:=bn4.grown gr5 bn4.size (fun k hk=>by injection hk with hk;have:=hb1;omega)
             refine hK.out _ _ ⟨(TT _ bc5).1,fun _=>(TT _ bc5).2⟩ ?_
             clear hK K
             refine AnyG.putAt 174 rfl ?_
             simp only [List.setIfInBounds_toArray,List.set_cons_zero,List.set_cons_succ]
             have hd5:=hn4.kept (Kept.of_grown (S:=fun k=>k=qa1) gr5 (fun k e=>(Option.some.inj e).symm)) (fun e=>by rw [e] at hn4;have h:=hn4.symm.trans hc4;simp at h)
             refine AnyG.ready (rs:=[6]) (by kernel_rfl) (by simp) ?_
             refine AllG.cons rfl (fun K hK=>?_) AllG.nil
             refine step_append_lies wc5 rfl (.tmp 174) (.tmp 176) 22 rfl wr.heap.size 43 i0 (.agg #[.string ⟨#[]⟩,.int .i64 0,.int .i64 0,.int .i64 0,.int .i64 0,.int .i64 0,.int .i64 0,.int .i64 0,.int .i64 0,.int .i64 0]) 10 88 Tryz.underlying22 hi hz0 hz1 hz2 rfl (by decide) _ j (lvCs C.levels) (by simp [Act.eval]) own5 ⟨pa4,0,none⟩ 1 1 [.string l.name,.int .i64 l.kind,.int .i64 l.shares,.int .i64 l.lend,.int .i64 l.borrow,.int .i64 l.queues,.int .i64 l.hand,.int .i64 l.length,.int .i64 l.wait,.int .i64 l.guess] (by simp [Act.eval]) rfl (World.news_of_block hd5) ONE (by decide) (by unfold maxLen;omega) (by omega) bc5.size _ rfl ?_
             intro q8 cap8 w8 hown hgrow hat hlt
             have b8:Below wr.heap.size wr w8:=bc5.grown hgrow bc5.size (fun k hk=>(own5.lt k hk).1)
             refine hK.out _ _ ⟨(TT _ b8).1,fun _=>(TT _ b8).2⟩ ?_
             clear hK K
             refine AnyG.putAt 177 rfl ?_
             simp only [List.setIfInBounds_toArray,List.set_cons_zero,List.set_cons_succ]
             have h8:=TT w8 b8
             refine .tr 7 178 ⟨h8.1,fun _=>h8.2⟩ ?_;simp only [tkA,tkB,tkC]
             refine AnyG.ready (rs:=[8]) (by kernel_rfl) (by simp) ?_
             refine AllG.cons rfl (fun K hK=>?_) AllG.nil
             obtain ⟨e8,f8⟩:=ROOM.out w8 b8
             have X9:=FIN.out q8 cap8 w8 (owns_mono hown BW) b8
             go_simp
             refine hK.out _ _ ⟨h8.1.other hbA _,fun h=>by cases h⟩ ?_
             clear hK K
             refine AnyG.done (by kernel_rfl) ?_ _
             generalize w8.setCell _ _=w9 at *
             obtain ⟨y0,y1,y2,y3,y4,y5⟩:=X9.reads
             obtain ⟨r0,r1,r2,r3,r4,r5,f0,f1,f2,f3,f4,f5⟩:=X9.room
             clear TT OWN ONES ROOM FIN h8 e8 f8 hown hgrow
             go_wp2_with fail
             obtain ⟨q1,q2,q3⟩:=X9.sets (.int .i64 C.total) (.int .i64 C.period) (.int .i64 C.perSeat) (.int .i64 C.most) (.slice (some ⟨q8,0,none⟩) (j+1) cap8) (.slice aS C.schemas.length cS)
             refine bodyPost_ret (resC36 _ _ _ _ _ _ _ _ _ _ rfl rfl q1) rfl ?_
             exact HEND.out _ _ _ q1 q2 q3 X9
           ·skip
            go_simp
            have bn6:Below wr.heap.size wr (w0.alloc (.cells #[.string l.name,.int .i64 l.kind,.int .i64 l.shares,.int .i64 l.lend,.int .i64 l.borrow,.int .i64 l.queues,.int .i64 l.hand,.int .i64 l.length,.int .i64 l.wait,.int .i64 l.guess] 43)):=bel0.alloc bel0.size _
            refine hK.out _ _ ⟨(TT _ bn6).1,fun _=>(TT _ bn6).2⟩ ?_
            clear hK K
            have hn6:Blk (w0.alloc (.cells #[.string l.name,.int .i64 l.kind,.int .i64 l.shares,.int .i64 l.lend,.int .i64 l.borrow,.int .i64 l.queues,.int .i64 l.hand,.int .i64 l.length,.int .i64 l.wait,.int .i64 l.guess] 43)) w0.heap.size 43 #[.string l.name,.int .i64 l.kind,.int .i64 l.shares,.int .i64 l.lend,.int .i64 l.borrow,.int .i64 l.queues,.int .i64 l.hand,.int .i64 l.length,.int .i64 l.wait,.int .i64 l.guess]:=Blk.new w0 43 _
            have hb6:wr.heap.size≤w0.heap.size:=bel0.size
            generalize w0.alloc (.cells #[.string l.name,.int .i64 l.kind,.int .i64 l.shares,.int .i64 l.lend,.int .i64 l.borrow,.int .i64 l.queues,.int .i64 l.hand,.int .i64 l.length,.int .i64 l.wait,.int .i64 l.guess] 43)=wa6 at *
            generalize w0.heap.size=pa6 at *
            refine AnyG.ready (rs:=[0]) (by kernel_rfl) (by simp) ?_
            refine AllG.cons rfl (fun K hK=>?_) AllG.nil
            go_simp
            have bn7:Below wr.heap.size wr (wa6.alloc (.cells #[] 43)):=bn6.alloc bn6.size _
            refine hK.out _ _ ⟨(TT _ bn7).1,fun _=>(TT _ bn7).2⟩ ?_
            clear hK K
            have hn7:Blk (wa6.alloc (.cells #[] 43)) wa6.heap.size 43 #[]:=Blk.new wa6 43 _
            have hb7:wr.heap.size≤wa6.heap.size:=bn6.size
            have hc7:=hn6.kept (Kept.of_below ((Below.refl wa6.heap.size wa6).alloc (Nat.le_refl _) (.cells #[] 43)) (fun _=>False)) id
            generalize wa6.alloc (.cells #[] 43)=wa7 at *
            generalize wa6.heap.size=qa7 at *
            refine AnyG.ready (rs:=[3]) (by kernel_rfl) (by simp) ?_
            refine AllG.cons rfl (fun K hK=>?_) AllG.nil
            refine step_copy rfl (.tmp 171) (.tmp 173) 22 rfl wr.heap.size 43 i0 (.agg #[.string ⟨#[]⟩,.int .i64 0,.int .i64 0,.int .i64 0,.int .i64 0,.int .i64 0,.int .i64 0,.int .i64 0,.int .i64 0,.int .i64 0]) 10 88 Tryz.underlying22 hi hz0 hz1 hz2 rfl (by decide) qa7 (by simp [Act.eval]) hn7 hb7 B aL j cL (by simp [Act.eval]) (lvCs C.levels) (OWN _ bn7) ONES (by unfold maxLen;omega) (by omega) ?_
            intro g8 cap8 wc8 own8 gr8 lt8
            have bc8:Below wr.heap.size wr wc8:=bn7.grown gr8 bn7.size (fun k hk=>by injection hk with hk;have:=hb7;omega)
            refine hK.out _ _ ⟨(TT _ bc8).1,fun _=>(TT _ bc8).2⟩ ?_
            clear hK K
            refine AnyG.putAt 174 rfl ?_
            simp only [List.setIfInBounds_toArray,List.set_cons_zero,List.set_cons_succ]
            have hd8:=hc7.kept (Kept.of_grown (S:=fun k=>k=qa7) gr8 (fun k e=>(Option.some.inj e).symm)) (fun e=>by rw [e] at hc7;have h:=hc7.symm.trans hn7;simp at h)
            refine AnyG.ready (rs:=[6]) (by kernel_rfl) (by simp) ?_
            refine AllG.cons rfl (fun K hK=>?_) AllG.nil
            refine step_append_lies wc8 rfl (.tmp 174) (.tmp 176) 22 rfl wr.heap.size 43 i0 (.agg #[.string ⟨#[]⟩,.int .i64 0,.int .i64 0,.int .i64 0,.int .i64 0,.int .i64 0,.int .i64 0,.int .i64 0,.int .i64 0,.int .i64 0]) 10 88 Tryz.underlying22 hi hz0 hz1 hz2 rfl (by decide) _ j (lvCs C.levels) (by simp [Act.eval]) own8 ⟨pa6,0,none⟩ 1 1 [.string l.name,.int .i64 l.kind,.int .i64 l.shares,.int .i64 l.lend,.int .i64 l.borrow,.int .i64 l.queues,.int .i64 l.hand,.int .i64 l.length,.int .i64 l.wait,.int .i64 l.guess] (by simp [Act.eval]) rfl (World.news_of_block hd8) ONE (by decide) (by unfold maxLen;omega) (by omega) bc8.size _ rfl ?_
            intro q8 cap8 w8 hown hgrow hat hlt
            have b8:Below wr.heap.size wr w8:=bc8.grown hgrow bc8.size (fun k hk=>(own8.lt k hk).1)
            refine hK.out _ _ ⟨(TT _ b8).1,fun _=>(TT _ b8).2⟩ ?_
            clear hK K
            refine AnyG.putAt 177 rfl ?_
            simp only [List.setIfInBounds_toArray,List.set_cons_zero,List.set_cons_succ]
            have h8:=TT w8 b8
            refine .tr 7 178 ⟨h8.1,fun _=>h8.2⟩ ?_;simp only [tkA,tkB,tkC]
            refine AnyG.ready (rs:=[8]) (by kernel_rfl) (by simp) ?_
            refine AllG.cons rfl (fun K hK=>?_) AllG.nil
            obtain ⟨e8,f8⟩:=ROOM.out w8 b8
            have X9:=FIN.out q8 cap8 w8 (owns_mono hown BW) b8
            go_simp
            refine hK.out _ _ ⟨h8.1.other hbA _,fun h=>by cases h⟩ ?_
            clear hK K
            refine AnyG.done (by kernel_rfl) ?_ _
            generalize w8.setCell _ _=w9 at *
            obtain ⟨y0,y1,y2,y3,y4,y5⟩:=X9.reads
            obtain ⟨r0,r1,r2,r3,r4,r5,f0,f1,f2,f3,f4,f5⟩:=X9.room
            clear TT OWN ONES ROOM FIN h8 e8 f8 hown hgrow
            go_wp2_with fail
            obtain ⟨q1,q2,q3⟩:=X9.sets (.int .i64 C.total) (.int .i64 C.period) (.int .i64 C.perSeat) (.int .i64 C.most) (.slice (some ⟨q8,0,none⟩) (j+1) cap8) (.slice aS C.schemas.length cS)
            refine bodyPost_ret (resC36 _ _ _ _ _ _ _ _ _ _ rfl rfl q1) rfl ?_
            exact HEND.out _ _ _ q1 q2 q3 X9
end Go.Proofs.YthkdbphgiobcdaaGreatDoor
