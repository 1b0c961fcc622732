/-
  The reference of layers 8 and 10 (RfC).
-/
import Derived.Test.YthkdbphgiobcdaaGreatDoorE32
import Derived.Test.YthkdbphgiobcdaaGreatDoorE8
import Derived.Test.YthkdbphgiobcdaaGreatDoorE31
import Derived.Test.YthkdbphgiobcdaaGreatDoorE30
namespace Go.Proofs.YthkdbphgiobcdaaGreatDoor
open Go.RowKit Go.Lib
def byName:Nat→ByteArray
 | 0=>tNone
 | 1=>tUser
 | _=>tSpace
def byTo (x:ByteArray):Nat→Int
 | 0=>-1
 | k+1=>if x=byName k then (k:Int) else byTo x k
theorem byTo_no {x:ByteArray} (h:byOk x=false):byTo x 3=-1:=by
 unfold byOk at h
 simp only [Bool.or_eq_false_iff,decide_eq_false_iff_not] at h
 simp [byTo,byName,h.1,h.2.1,h.2.2]
theorem byTo_yes {x:ByteArray} (h:byOk x=true):byTo x 3=byOf x:=by
 unfold byOk at h
 simp only [Bool.or_eq_true,decide_eq_true_eq] at h
 rcases h with rfl | rfl | rfl <;> decide
theorem byOf_nonneg (x:ByteArray):0≤byOf x:=by unfold byOf;split <;> (try split) <;> decide
def Nm (w:World) (g:Nat):Prop:=g<w.heap.size∧∀ k,k<3→w.cell? ⟨g,k,none⟩=some (.string (byName k))
theorem Nm.new (w:World):Nm (w.alloc (.cells #[.string ⟨#[110,111,110,101]⟩,.string ⟨#[117,115,101,114]⟩,.string ⟨#[115,112,97,99,101]⟩] 160)) w.heap.size:=by
 have h:=Blk.new w 160 #[.string ⟨#[110,111,110,101]⟩,.string ⟨#[117,115,101,114]⟩,.string ⟨#[115,112,97,99,101]⟩]
 refine ⟨h.lt,fun k hk=>?_⟩
 rw [h.cell k]
 match k,hk with
 | 0,_=>rfl
 | 1,_=>rfl
 | 2,_=>rfl
theorem Nm.grown {w w':World} {g:Nat} (h:Nm w g) (b:Below w.heap.size w w'):Nm w' g:=⟨Nat.lt_of_lt_of_le h.1 b.size,fun k hk=>(b.cell (p:=⟨g,k,none⟩) h.1).trans (h.2 k hk)⟩
theorem hasSc_yes {C:Cf} {x:ByteArray} {j:Nat} (h:j<C.schemas.length) (e:C.schemas[j].name=x):hasSc C x=true :=
 List.any_eq_true.2 ⟨C.schemas[j],List.getElem_mem h,by simp [e]⟩
theorem hasSc_no {C:Cf} {x:ByteArray} (h:∀ q (h:q<C.schemas.length),C.schemas[q].name≠x):hasSc C x=false:=by
 cases hb:hasSc C x with
 | false=>rfl
 | true =>
  obtain ⟨s,hs,e⟩:=List.any_eq_true.1 hb
  obtain ⟨q,hq,rfl⟩:=List.getElem_of_mem hs
  exact absurd (of_decide_eq_true e) (h q hq)
set_option maxRecDepth 20000 in
set_option maxHeartbeats 1000000 in
theorem rschema_no {B:Nat} (a:Option Addr) (c:Nat) (ws:List ByteArray) (w:World) (C:Cf) (vL vS:Value) (V:List Value) (hL:LvOwn B w vL C.levels) (hS:ScOwn B w vS C.schemas V) (hn:ws.length≠5) :
  Calls Tryz.prog 155 #[.agg #[.int .i64 C.total,.int .i64 C.period,.int .i64 C.perSeat,.int .i64 C.most,vL,vS],.slice a ws.length c] w fun e w'=>∃ v,e=.returned (.tuple #[v,.int .i64 2])∧Below w.heap.size w w'∧Six v:=by
 have n1:((ws.length:Int) != 5)=true:=by simp;omega
 obtain ⟨aL,cL,rfl⟩:=own_form hL
 obtain ⟨aS,cS,rfl⟩:=own_form hS.own
 clear hL hS hn
 go_enter Tryz.func155,Tryz.ntmps155
 go_wp2_with fail
 refine bodyPost_ret (resC37 _ _ _ _ _ _ _ _ _ _ rfl rfl (blk_two w _)) rfl ?_
 exact ⟨_,rfl,((Below.refl _ _).alloc (Nat.le_refl _) _).alloc (by simp) _,⟨_,_,_,_,_,_,_,_,_,_,rfl⟩⟩
set_option maxRecDepth 20000 in
set_option maxHeartbeats 1000000 in
theorem rschema_five {B:Nat} (b off c:Nat) (x1 x2 x3 x4:ByteArray) (w:World) (C:Cf) (vL vS:Value) (V:List Value) (hL:LvOwn B w vL C.levels) (hS:ScOwn B w vS C.schemas V) (hb:b<w.heap.size)
  (h1:w.cell? ⟨b,off+1,none⟩=some (.string x1)) (h2:w.cell? ⟨b,off+2,none⟩=some (.string x2)) (h3:w.cell? ⟨b,off+3,none⟩=some (.string x3)) (h4:w.cell? ⟨b,off+4,none⟩=some (.string x4))
  (z1:x1.size≤65536) (z2:x2.size≤65536) (z3:x3.size≤65536) (hns:C.schemas.length≤32) (hB:B≤w.heap.size) :
  Calls Tryz.prog 155 #[.agg #[.int .i64 C.total,.int .i64 C.period,.int .i64 C.perSeat,.int .i64 C.most,vL,vS],.slice (some ⟨b,off,none⟩) 5 c] w fun e w'=>∃ v,e=.returned (.tuple #[v,.int .i64 (schemaE C [x1,x2,x3,x4])])∧Below w.heap.size w w'∧Six v
   ∧ (schemaE C [x1,x2,x3,x4]=0→CfV B w' v ⟨C.total,C.period,C.perSeat,C.most,C.levels,C.schemas ++ [schemaOf [x1,x2,x3,x4]]⟩):=by
 have X:Hd _:=⟨Bx.start hL hS⟩
 have N1:=fun W=>rname_ok x1 (by omega) W
 have N2:=fun W=>rname_ok x2 (by omega) W
 have N3:=fun W=>rnumber_ok x3 1 10000 (by omega) W
 obtain ⟨aL,cL,rfl⟩:=own_form hL
 obtain ⟨aS,cS,rfl⟩:=own_form hS.own
 clear hL hS
 generalize hE:schemaE C [x1,x2,x3,x4]=E
 generalize hO:schemaOf [x1,x2,x3,x4]=O
 have HE:Hd (schemaE C [x1,x2,x3,x4]=E∧schemaOf [x1,x2,x3,x4]=O):=⟨hE,hO⟩
 clear hE hO
 go_enter Tryz.func155,Tryz.ntmps155
 cases e1:isName x1 with
 | false =>
  rw [e1] at N1
  go_wp2_with (go_at_call 175;with_reducible refine (N1 _).mono ?_;rintro e w' ⟨rfl,rfl⟩)
  have E4:E=4:=by rw [←HE.out.1];simp [schemaE,schemaW,gt,e1,mu,ifE]
  subst E4
  refine bodyPost_ret (resC37 _ _ _ _ _ _ _ _ _ _ rfl rfl (blk_two w _)) rfl ?_
  exact ⟨_,rfl,((Below.refl _ _).alloc (Nat.le_refl _) _).alloc (by simp) _,⟨_,_,_,_,_,_,_,_,_,_,rfl⟩,fun h=>absurd h (by decide)⟩
 | true =>
  rw [e1] at N1
  cases e2:isName x2 with
  | false =>
   rw [e2] at N2
   go_wp2_with (first | (go_at_call 175;with_reducible refine (N1 _).mono ?_;rintro e w' ⟨rfl,rfl⟩) | (go_at_call 175;with_reducible refine (N2 _).mono ?_;rintro e w' ⟨rfl,rfl⟩))
   have E4:E=4:=by rw [←HE.out.1];simp [schemaE,schemaW,gt,e1,e2,mu,ifE]
   subst E4
   refine bodyPost_ret (resC37 _ _ _ _ _ _ _ _ _ _ rfl rfl (blk_two w _)) rfl ?_
   exact ⟨_,rfl,((Below.refl _ _).alloc (Nat.le_refl _) _).alloc (by simp) _,⟨_,_,_,_,_,_,_,_,_,_,rfl⟩,fun h=>absurd h (by decide)⟩
  | true =>
   rw [e2] at N2
   have HX:Hd (isName x1=true∧isName x2=true):=⟨e1,e2⟩
   clear e1 e2
   go_wp2_with (first | (go_at_call 175;with_reducible refine (N1 _).mono ?_;rintro e w' ⟨rfl,rfl⟩) | (go_at_call 175;with_reducible refine (N2 _).mono ?_;rintro e w' ⟨rfl,rfl⟩))
   go_at_call 174
   refine (N3 _).mono ?_
   rintro e w4 ⟨rfl,b4⟩
   have X4:Hd (Bx B w w4 C (.slice aL C.levels.length cL) (.slice aS C.schemas.length cS) V):=⟨X.out.grown b4⟩
   have c4:=(X4.out.bel.cell (p:=⟨b,off+4,none⟩) hb).trans h4
   have HB:Hd (b<w.heap.size∧w.cell? ⟨b,off+1,none⟩=some (.string x1)∧w.cell? ⟨b,off+2,none⟩=some (.string x2)∧w.cell? ⟨b,off+4,none⟩=some (.string x4)):=⟨hb,h1,h2,h4⟩
   obtain ⟨y0,y1,y2,y3,y4,y5⟩:=X4.out.reads
   obtain ⟨r0,r1,r2,r3,r4,r5,f0,f1,f2,f3,f4,f5⟩:=X4.out.room
   clear X b4 N1 N2 N3 h1 h2 h3 h4 hb
   generalize hn3:numOf x3 1 10000=n3
   cases e3:numIn x3 1 10000 with
   | false =>
    go_wp2_with fail
    have E8:E=8:=by rw [←HE.out.1];simp [schemaE,schemaW,gt,HX.out.1,HX.out.2,e3,mu,ifE]
    subst E8
    obtain ⟨q1,q2,q3⟩:=X4.out.sets (.int .i64 C.total) (.int .i64 C.period) (.int .i64 C.perSeat) (.int .i64 C.most) (.slice aL C.levels.length cL) (.slice aS C.schemas.length cS)
    refine bodyPost_ret (resC37 _ _ _ _ _ _ _ _ _ _ rfl rfl q1) rfl ?_
    exact ⟨_,rfl,q2,⟨_,_,_,_,_,_,_,_,_,_,rfl⟩,fun h=>absurd h (by decide)⟩
   | true =>
    have HX3:Hd (numIn x3 1 10000=true):=⟨e3⟩
    clear e3 y0 y1 y2 y3 y4 y5 r0 r1 r2 r3 r4 r5 f0 f1 f2 f3 f4 f5
    go_wp2_with fail
    have X5:Hd (Bx B w (w4.alloc (.cells #[.string ⟨#[110,111,110,101]⟩,.string ⟨#[117,115,101,114]⟩,.string ⟨#[115,112,97,99,101]⟩] 160)) C (.slice aL C.levels.length cL) (.slice aS C.schemas.length cS) V∧Nm (w4.alloc (.cells #[.string ⟨#[110,111,110,101]⟩,.string ⟨#[117,115,101,114]⟩,.string ⟨#[115,112,97,99,101]⟩] 160)) w4.heap.size):=⟨X4.out.grown ((Below.refl _ _).alloc (Nat.le_refl _) _),Nm.new w4⟩
    generalize w4.alloc (.cells #[.string ⟨#[110,111,110,101]⟩,.string ⟨#[117,115,101,114]⟩,.string ⟨#[115,112,97,99,101]⟩] 160)=w5 at *
    generalize w4.heap.size=g at *
    clear X4 c4
    go_loopw [8,10] (fun s8 i wr=>∃ k:Nat,k≤3∧i=.int .i64 k∧s8=.int .i64 (byTo x4 k)∧Hd (Bx B w wr C (.slice aL C.levels.length cL) (.slice aS C.schemas.length cS) V∧Nm wr g)) (fun _ i _=>3 - (intOf i).toNat)
    case atStart=>exact ⟨0,Nat.zero_le _,rfl,rfl,X5⟩
    case round =>
     obtain ⟨k,hk,rfl,rfl,hI⟩:=hrel
     by_cases hlt:k<3
     ·have c4:=(hI.out.1.bel.cell (p:=⟨b,off+4,none⟩) HB.out.1).trans HB.out.2.2.2
      have cn:=hI.out.2.2 k hlt
      have HK:Hd (k<3∧byTo x4 (k+1)=if x4=byName k then (k:Int) else byTo x4 k):=⟨hlt,rfl⟩
      have i1:(k:Int)<3:=by omega
      generalize byTo x4 k=t at *
      generalize byName k=y at *
      by_cases hxy:x4=y
      ·subst hxy
       have ee:(x4.toList == x4.toList)=true:=by simp
       go_wp2_with fail
       go_big_quiet (fail)
       go_wp2
       go_roundw
       case rel=>exact ⟨k+1,HK.out.1,by go_num,by rw [HK.out.2];simp,⟨hI.out.1.grown (below_drew _ _),hI.out.2.grown (below_drew _ _)⟩⟩
       case measure=>have:=HK.out.1;simp [intOf];omega
      ·have ee:=str_ne hxy
       have HN:Hd (¬ x4=y):=⟨hxy⟩
       clear hxy
       go_wp2_with fail
       go_big_quiet (fail)
       go_wp2
       go_roundw
       case rel=>exact ⟨k+1,HK.out.1,by go_num,by rw [HK.out.2,if_neg HN.out],⟨hI.out.1.grown (below_drew _ _),hI.out.2.grown (below_drew _ _)⟩⟩
       case measure=>have:=HK.out.1;simp [intOf];omega
     ·obtain rfl:k=3:=by omega
      cases e4:byOk x4 with
      | false =>
       have et:=byTo_no e4
       obtain ⟨y0,y1,y2,y3,y4,y5⟩:=hI.out.1.reads
       obtain ⟨r0,r1,r2,r3,r4,r5,f0,f1,f2,f3,f4,f5⟩:=hI.out.1.room
       have E2:E=2:=by rw [←HE.out.1];simp [schemaE,schemaW,gt,HX.out.1,HX.out.2,HX3.out,e4,mu,ifE]
       subst E2
       rw [et]
       go_wp2_with fail
       obtain ⟨q1,q2,q3⟩:=hI.out.1.sets (.int .i64 C.total) (.int .i64 C.period) (.int .i64 C.perSeat) (.int .i64 C.most) (.slice aL C.levels.length cL) (.slice aS C.schemas.length cS)
       refine bodyPost_ret (resC37 _ _ _ _ _ _ _ _ _ _ rfl rfl q1) rfl ?_
       exact ⟨_,rfl,q2,⟨_,_,_,_,_,_,_,_,_,_,rfl⟩,fun h=>absurd h (by decide)⟩
      | true =>
       have HX4:Hd (byOk x4=true∧byTo x4 3=byOf x4):=⟨e4,byTo_yes e4⟩
       have e5:decide (byTo x4 3<0)=false:=by rw [byTo_yes e4];have:=byOf_nonneg x4;simp;omega
       clear e4
       generalize hby:byTo x4 3=t at *
       obtain ⟨n,hn⟩:∃ n,n=C.schemas.length:=⟨_,rfl⟩
       have HN:Hd (n=C.schemas.length∧n≤32):=⟨hn,by omega⟩
       have hY:Hd (Bx B w wr C (.slice aL C.levels.length cL) (.slice aS n cS) V):=⟨by rw [hn];exact hI.out.1⟩
       clear hI
       go_wp2_with fail
       rw [←hn]
       clear hn
       go_loopw [11] (fun i wr=>∃ j:Nat,j≤n∧i=.int .i64 j∧Hd ((∀ q (h:q<C.schemas.length),q<j→C.schemas[q].name≠x1)∧Bx B w wr C (.slice aL C.levels.length cL) (.slice aS n cS) V)) (fun i _=>n - (intOf i).toNat)
       case atStart=>exact ⟨0,Nat.zero_le _,rfl,⟨fun _ _ h=>absurd h (Nat.not_lt_zero _),hY.out⟩⟩
       case round =>
        obtain ⟨j,hj,rfl,hJ⟩:=hrel
        obtain ⟨y0,y1,y2,y3,y4,y5⟩:=hJ.out.2.reads
        by_cases hlt:j<n
        ·have hjL:j<C.schemas.length:=by rw [←HN.out.1];exact hlt
         have hs:=hJ.out.2.s
         rw [HN.out.1] at hs
         obtain ⟨g1,rfl,hg1,C1⟩:=sc_rd hs (by omega)
         have hV:j<V.length:=by rw [hs.len];exact hjL
         have cn:wr.cell? ⟨g1,j*5,none⟩=some (.string C.schemas[j].name):=C1 j hjL hV 0 (by decide)
         have c1:=(hJ.out.2.bel.cell (p:=⟨b,off+1,none⟩) HB.out.1).trans HB.out.2.1
         have HK:Hd (j<n):=⟨hlt⟩
         have n32:=HN.out.2
         have i1:(j:Int)<(n:Int):=by omega
         by_cases hxy:C.schemas[j].name=x1
         ·have E5:E=5:=by rw [←HE.out.1];simp [schemaE,schemaW,gt,HX.out.1,HX.out.2,HX3.out,HX4.out.1,hasSc_yes hjL hxy,mu,ifE]
          subst E5
          rw [hxy] at cn
          clear hxy hjL hV C1 hs
          have ee:(x1.toList == x1.toList)=true:=by simp
          go_wp2_with fail
          go_big_quiet (fail)
          generalize hwd:wr.drewN _=wd
          have hZ:Bx B w wd C (.slice aL C.levels.length cL) (.slice (some ⟨g1,0,none⟩) n cS) V:=by rw [←hwd];exact hJ.out.2.grown (below_drew _ _)
          clear hwd cn c1
          obtain ⟨y0,y1,y2,y3,y4,y5⟩:=hZ.reads
          obtain ⟨r0,r1,r2,r3,r4,r5,f0,f1,f2,f3,f4,f5⟩:=hZ.room
          go_wp2_with fail
          obtain ⟨q1,q2,q3⟩:=hZ.sets (.int .i64 C.total) (.int .i64 C.period) (.int .i64 C.perSeat) (.int .i64 C.most) (.slice aL C.levels.length cL) (.slice (some ⟨g1,0,none⟩) n cS)
          refine bodyPost_ret (resC37 _ _ _ _ _ _ _ _ _ _ rfl rfl q1) rfl ?_
          exact ⟨_,rfl,q2,⟨_,_,_,_,_,_,_,_,_,_,rfl⟩,fun h=>absurd h (by decide)⟩
         ·have HQ:Hd (∀ q (h:q<C.schemas.length),q<j+1→C.schemas[q].name≠x1):=⟨fun q hq h=>by
           rcases Nat.lt_or_eq_of_le (Nat.le_of_lt_succ h) with h' | h'
           ·exact hJ.out.1 q hq h'
           ·subst h';exact hxy⟩
          have ee:=str_ne hxy
          generalize C.schemas[j].name=y at *
          clear hxy hjL hV C1 hs
          go_wp2_with fail
          go_big_quiet (fail)
          go_wp2
          go_roundw
          case rel=>exact ⟨j+1,HK.out,by go_num,⟨HQ.out,hJ.out.2.grown (below_drew _ _)⟩⟩
          case measure=>have:=HK.out;simp [intOf];omega
        ·obtain rfl:j=n:=by omega
         have hno:=hasSc_no (C:=C) (x:=x1) (fun q h=>hJ.out.1 q h (by rw [HN.out.1];exact h))
         have HS0:Hd (schemaE C [x1,x2,x3,x4]=ifE (decide ((C.schemas.length:Int)<32)) 3):=⟨by simp [schemaE,schemaW,gt,HX.out.1,HX.out.2,HX3.out,HX4.out.1,hno,mu,ifE]⟩
         by_cases h32:j=32
         ·obtain ⟨r0,r1,r2,r3,r4,r5,f0,f1,f2,f3,f4,f5⟩:=hJ.out.2.room
          have E3:E=3:=by rw [←HE.out.1,HS0.out,← HN.out.1,h32];decide
          subst E3
          have gg:decide ((j:Int) ≥ 32)=true:=by rw [h32];decide
          clear h32
          go_wp2_with fail
          obtain ⟨q1,q2,q3⟩:=hJ.out.2.sets (.int .i64 C.total) (.int .i64 C.period) (.int .i64 C.perSeat) (.int .i64 C.most) (.slice aL C.levels.length cL) (.slice aS j cS)
          refine bodyPost_ret (resC37 _ _ _ _ _ _ _ _ _ _ rfl rfl q1) rfl ?_
          exact ⟨_,rfl,q2,⟨_,_,_,_,_,_,_,_,_,_,rfl⟩,fun h=>absurd h (by decide)⟩
         ·have gg:decide ((j:Int) ≥ 32)=false:=by have:=HN.out.2;simp;omega
          have HJ:Hd (j<32):=⟨by have:=HN.out.2;omega⟩
          clear h32 hno
          have c1:=(hJ.out.2.bel.cell (p:=⟨b,off+1,none⟩) HB.out.1).trans HB.out.2.1
          have c2:=(hJ.out.2.bel.cell (p:=⟨b,off+2,none⟩) HB.out.1).trans HB.out.2.2.1
          go_wp2_with fail
          clear gg e5
          have bW:b<wr.heap.size:=Nat.lt_of_lt_of_le HB.out.1 hJ.out.2.bel.size
          have aW:w.heap.size<wr.heap.size:=hJ.out.2.c.lt
          have TT:∀ W,Below wr.heap.size wr W→(W.cell? ⟨b,off+1,none⟩=some (.string x1)∧W.cell? ⟨b,off+2,none⟩=some (.string x2))∧W.cell? ⟨w.heap.size,5,none⟩=some (.slice aS j cS):=fun W hW=>⟨⟨(hW.cell (p:=⟨b,off+1,none⟩) bW).trans c1,(hW.cell (p:=⟨b,off+2,none⟩) bW).trans c2⟩,(hW.cell (p:=⟨w.heap.size,5,none⟩) aW).trans y5⟩
          have OWN:∀ W,Below wr.heap.size wr W→W.ownsRow B 47 5 (.slice aS j cS) j (scCs C.schemas V):=fun W hW=>by
           have h1:=hJ.out.2.s.own
           rw [←HN.out.1] at h1
           exact owns_kept h1 (Kept.of_below hW (fun _=>False)) (fun _ _=>id)
          have ONES:=hJ.out.2.s.ones
          have BW:B≤wr.heap.size:=Nat.le_trans hB (Nat.le_of_lt aW)
          have j32:=HJ.out
          obtain ⟨i0,hi,hz0,hz1,hz2⟩:=info_parts info42
          have ONE:∀ u∈([.string x1,.string x2,.int .i64 n3,.int .i64 t,.slice none 0 0]:List Value),u.oneCell'=true:=by
           intro u hu
           simp only [List.mem_cons,List.not_mem_nil,or_false] at hu
           rcases hu with rfl | rfl | rfl | rfl | rfl <;> rfl
          have FIN:Hd (∀ q cap W,W.ownsRow B 47 5 (.slice (some ⟨q,0,none⟩) (j+1) cap) (j+1) (scCs C.schemas V ++ [.string x1,.string x2,.int .i64 n3,.int .i64 t,.slice none 0 0])→Below wr.heap.size wr W→Bx B w (W.setCell ⟨w.heap.size,5,none⟩ (.slice (some ⟨q,0,none⟩) (j+1) cap)) ⟨C.total,C.period,C.perSeat,C.most,C.levels,C.schemas ++ [⟨x1,x2,n3,t,[]⟩]⟩ (.slice aL C.levels.length cL) (.slice (some ⟨q,0,none⟩) (j+1) cap) (V ++ [.slice none 0 0])):=⟨fun q cap W hO hW=>by
           rw [HN.out.1] at hO ⊢
           exact Bx.sc (s:=⟨x1,x2,n3,t,[]⟩) (hJ.out.2.grown hW) rfl hO⟩
          have ROOM:Hd (∀ W,Below wr.heap.size wr W→W.cell? ⟨w.heap.size,5,none⟩=some (.slice aS j cS)∧W.frozen? ⟨w.heap.size,5,none⟩=false):=⟨fun W hW=>⟨(TT W hW).2,(hJ.out.2.grown hW).c.frozen 5⟩⟩
          have hbA:w.heap.size≠b:=by have:=HB.out.1;omega
          have HEND:Hd (∀ (v:Value) (W W':World) (V':List Value),Blk W' (w.heap.size+1) 25 #[.int .i64 C.total,.int .i64 C.period,.int .i64 C.perSeat,.int .i64 C.most,.slice aL C.levels.length cL,v]→Below w.heap.size w W'→Kept (fun k=>k=w.heap.size+1) W W'→Bx B w W ⟨C.total,C.period,C.perSeat,C.most,C.levels,C.schemas ++ [⟨x1,x2,n3,t,[]⟩]⟩ (.slice aL C.levels.length cL) v V' →
            ∃ v',Ending.returned (.tuple #[.agg #[.int .i64 C.total,.int .i64 C.period,.int .i64 C.perSeat,.int .i64 C.most,.slice aL C.levels.length cL,v],.int .i64 0])=Ending.returned (.tuple #[v',.int .i64 E])∧Below w.heap.size w W'∧Six v'∧(E=0→CfV B W' v' ⟨C.total,C.period,C.perSeat,C.most,C.levels,C.schemas ++ [O]⟩)):=⟨fun v W W' V' _ q2 q3 X9=>by
           have E0:E=0:=by rw [←HE.out.1,HS0.out,← HN.out.1];have:=HJ.out;simp [ifE];omega
           have O0:O=⟨x1,x2,n3,t,[]⟩:=by rw [←HE.out.2];simp [schemaOf,gt,hn3,HX4.out.2]
           subst E0 O0
           exact ⟨_,rfl,q2,CfV.six (C:=⟨C.total,C.period,C.perSeat,C.most,C.levels,C.schemas ++ [⟨x1,x2,n3,t,[]⟩]⟩) ⟨_,_,V',rfl,X9.l.off q3 (off_blkR X9.r (by decide)),X9.s.off q3 (off_blkR X9.r (by decide)) (off_blkR X9.r (by decide)) (off_blkR X9.r (by decide))⟩,fun _=>⟨_,_,V',rfl,X9.l.off q3 (off_blkR X9.r (by decide)),X9.s.off q3 (off_blkR X9.r (by decide)) (off_blkR X9.r (by decide)) (off_blkR X9.r (by decide))⟩⟩⟩
          refine AnyG.start (T:=fun w'=>w'.cell? ⟨b,off+1,none⟩=some (.string x1)∧w'.cell? ⟨b,off+2,none⟩=some (.string x2)) (U:=fun w'=>w'.cell? ⟨w.heap.size,5,none⟩=some (.slice aS j cS)) (j0:=3) (by kernel_rfl) ?_
          have bel0:Below wr.heap.size wr wr.drew:=⟨rfl,rfl,rfl,Nat.le_refl _,fun _ _=>rfl⟩
          generalize wr.drew=w0 at *
          have h0:=TT w0 bel0
          refine .tr 1 79 ⟨h0.1,fun _=>h0.2⟩ ?_;simp only [tkA,tkB,tkC]
          refine .er 2 80 ⟨h0.1,fun _=>h0.2⟩ ?_ (hy:=fun w hSw=>by obtain ⟨⟨s1,s2⟩,s3⟩:=hSw;go_simp;rfl);simp only [tkA,tkB,tkC]
          refine .tr 4 82 ⟨h0.1,fun _=>h0.2⟩ ?_;simp only [tkA,tkB,tkC]
          refine .tr 5 83 ⟨h0.1,fun _=>h0.2⟩ ?_;simp only [tkA,tkB,tkC]
          refine .tr 6 84 ⟨h0.1,fun _=>h0.2⟩ ?_ (hy:=fun w hSw=>by obtain ⟨s1,s2⟩:=hSw;go_simp;rfl);simp only [tkA,tkB,tkC]
          refine .tr 7 85 ⟨h0.1,fun _=>h0.2⟩ ?_;simp only [tkA,tkB,tkC]
          refine .tr 8 86 ⟨h0.1,fun _=>h0.2⟩ ?_;simp only [tkA,tkB,tkC]
          refine .tr 9 87 ⟨h0.1,fun _=>h0.2⟩ ?_ (hy:=fun w hSw=>by obtain ⟨s1,s2⟩:=hSw;go_simp;rfl);simp only [tkA,tkB,tkC]
          refine .tr 10 88 ⟨h0.1,fun _=>h0.2⟩ ?_;simp only [tkA,tkB,tkC]
          refine .tr 11 89 ⟨h0.1,fun _=>h0.2⟩ ?_;simp only [tkA,tkB,tkC]
          refine .tr 12 90 ⟨h0.1,fun _=>h0.2⟩ ?_;simp only [tkA,tkB,tkC]
          refine AnyG.ready (rs:=[0,13]) (by kernel_rfl) (by simp) ?_
          refine AllG.cons rfl (fun K hK=>?_) (AllG.cons rfl (fun K hK=>?_) AllG.nil)
          ·skip
           go_simp
           have bn1:Below wr.heap.size wr (w0.alloc (.cells #[] 47)):=bel0.alloc bel0.size _
           refine hK.out _ _ ⟨(TT _ bn1).1,fun _=>(TT _ bn1).2⟩ ?_
           clear hK K
           have hn1:Blk (w0.alloc (.cells #[] 47)) w0.heap.size 47 #[]:=Blk.new w0 47 _
           have hb1:wr.heap.size≤w0.heap.size:=bel0.size
           generalize w0.alloc (.cells #[] 47)=wa1 at *
           generalize w0.heap.size=qa1 at *
           refine AnyG.ready (rs:=[3,13]) (by kernel_rfl) (by simp) ?_
           refine AllG.cons rfl (fun K hK=>?_) (AllG.cons rfl (fun K hK=>?_) AllG.nil)
           ·skip
            refine step_copy rfl (.tmp 78) (.tmp 80) 23 rfl wr.heap.size 47 i0 (.agg #[.string ⟨#[]⟩,.string ⟨#[]⟩,.int .i64 0,.int .i64 0,.slice none 0 0]) 5 72 Tryz.underlying23 hi hz0 hz1 hz2 rfl (by decide) qa1 (by simp [Act.eval]) hn1 hb1 B aS j cS (by simp [Act.eval]) (scCs C.schemas V) (OWN _ bn1) ONES (by unfold maxLen;omega) (by omega) ?_
            intro g2 cap2 wc2 own2 gr2 lt2
            have bc2:Below wr.heap.size wr wc2:=bn1.grown gr2 bn1.size (fun k hk=>by injection hk with hk;have:=hb1;omega)
            refine hK.out _ _ ⟨(TT _ bc2).1,fun _=>(TT _ bc2).2⟩ ?_
            clear hK K
            refine AnyG.putAt 81 rfl ?_
            simp only [List.setIfInBounds_toArray,List.set_cons_zero,List.set_cons_succ]
            refine AnyG.ready (rs:=[13]) (by kernel_rfl) (by simp) ?_
            refine AllG.cons rfl (fun K hK=>?_) AllG.nil
            go_simp
            have bn3:Below wr.heap.size wr (wc2.alloc (.cells #[.string x1,.string x2,.int .i64 n3,.int .i64 t,.slice none 0 0] 47)):=bc2.alloc bc2.size _
            refine hK.out _ _ ⟨(TT _ bn3).1,fun _=>(TT _ bn3).2⟩ ?_
            clear hK K
            have hn3:Blk (wc2.alloc (.cells #[.string x1,.string x2,.int .i64 n3,.int .i64 t,.slice none 0 0] 47)) wc2.heap.size 47 #[.string x1,.string x2,.int .i64 n3,.int .i64 t,.slice none 0 0]:=Blk.new wc2 47 _
            have hb3:wr.heap.size≤wc2.heap.size:=bc2.size
            have ho3:=World.ownsRow.alloc own2 (.cells #[.string x1,.string x2,.int .i64 n3,.int .i64 t,.slice none 0 0] 47)
            generalize wc2.alloc (.cells #[.string x1,.string x2,.int .i64 n3,.int .i64 t,.slice none 0 0] 47)=wa3 at *
            generalize wc2.heap.size=pa3 at *
            refine AnyG.ready (rs:=[14]) (by kernel_rfl) (by simp) ?_
            refine AllG.cons rfl (fun K hK=>?_) AllG.nil
            refine step_append_lies wa3 rfl (.tmp 81) (.tmp 91) 23 rfl wr.heap.size 47 i0 (.agg #[.string ⟨#[]⟩,.string ⟨#[]⟩,.int .i64 0,.int .i64 0,.slice none 0 0]) 5 72 Tryz.underlying23 hi hz0 hz1 hz2 rfl (by decide) _ j (scCs C.schemas V) (by simp [Act.eval]) ho3 ⟨pa3,0,none⟩ 1 1 [.string x1,.string x2,.int .i64 n3,.int .i64 t,.slice none 0 0] (by simp [Act.eval]) rfl (World.news_of_block hn3) ONE (by decide) (by unfold maxLen;omega) (by omega) bn3.size _ rfl ?_
            intro q8 cap8 w8 hown hgrow hat hlt
            have b8:Below wr.heap.size wr w8:=bn3.grown hgrow bn3.size (fun k hk=>(ho3.lt k hk).1)
            refine hK.out _ _ ⟨(TT _ b8).1,fun _=>(TT _ b8).2⟩ ?_
            clear hK K
            refine AnyG.putAt 92 rfl ?_
            simp only [List.setIfInBounds_toArray,List.set_cons_zero,List.set_cons_succ]
            have h8:=TT w8 b8
            refine .tr 15 93 ⟨h8.1,fun _=>h8.2⟩ ?_;simp only [tkA,tkB,tkC]
            refine AnyG.ready (rs:=[16]) (by kernel_rfl) (by simp) ?_
            refine AllG.cons rfl (fun K hK=>?_) AllG.nil
            obtain ⟨e8,f8⟩:=ROOM.out w8 b8
            have X9:=FIN.out q8 cap8 w8 (owns_mono hown BW) b8
            go_simp
            refine hK.out _ _ ⟨⟨(World.cell?_setCell_far _ _ _ _ hbA).trans h8.1.1,(World.cell?_setCell_far _ _ _ _ hbA).trans h8.1.2⟩,fun h=>by cases h⟩ ?_
            clear hK K
            refine AnyG.done (by kernel_rfl) ?_ _
            generalize w8.setCell _ _=w9 at *
            obtain ⟨y0,y1,y2,y3,y4,y5⟩:=X9.reads
            obtain ⟨r0,r1,r2,r3,r4,r5,f0,f1,f2,f3,f4,f5⟩:=X9.room
            clear TT OWN ONES ROOM FIN h8 e8 f8 hown hgrow
            go_wp2_with fail
            obtain ⟨q1,q2,q3⟩:=X9.sets (.int .i64 C.total) (.int .i64 C.period) (.int .i64 C.perSeat) (.int .i64 C.most) (.slice aL C.levels.length cL) (.slice (some ⟨q8,0,none⟩) (j+1) cap8)
            refine bodyPost_ret (resC37 _ _ _ _ _ _ _ _ _ _ rfl rfl q1) rfl ?_
            exact HEND.out _ _ _ _ q1 q2 q3 X9
           ·skip
            go_simp
            have bn4:Below wr.heap.size wr (wa1.alloc (.cells #[.string x1,.string x2,.int .i64 n3,.int .i64 t,.slice none 0 0] 47)):=bn1.alloc bn1.size _
            refine hK.out _ _ ⟨(TT _ bn4).1,fun _=>(TT _ bn4).2⟩ ?_
            clear hK K
            have hn4:Blk (wa1.alloc (.cells #[.string x1,.string x2,.int .i64 n3,.int .i64 t,.slice none 0 0] 47)) wa1.heap.size 47 #[.string x1,.string x2,.int .i64 n3,.int .i64 t,.slice none 0 0]:=Blk.new wa1 47 _
            have hb4:wr.heap.size≤wa1.heap.size:=bn1.size
            have hc4:=hn1.kept (Kept.of_below ((Below.refl wa1.heap.size wa1).alloc (Nat.le_refl _) (.cells #[.string x1,.string x2,.int .i64 n3,.int .i64 t,.slice none 0 0] 47)) (fun _=>False)) id
            generalize wa1.alloc (.cells #[.string x1,.string x2,.int .i64 n3,.int .i64 t,.slice none 0 0] 47)=wa4 at *
            generalize wa1.heap.size=pa4 at *
            refine AnyG.ready (rs:=[3]) (by kernel_rfl) (by simp) ?_
            refine AllG.cons rfl (fun K hK=>?_) AllG.nil
            refine step_copy rfl (.tmp 78) (.tmp 80) 23 rfl wr.heap.size 47 i0 (.agg #[.string ⟨#[]⟩,.string ⟨#[]⟩,.int .i64 0,.int .i64 0,.slice none 0 0]) 5 72 Tryz.underlying23 hi hz0 hz1 hz2 rfl (by decide) qa1 (by simp [Act.eval]) hc4 hb1 B aS j cS (by simp [Act.eval]) (scCs C.schemas V) (OWN _ bn4) ONES (by unfold maxLen;omega) (by omega) ?_
            intro g5 cap5 wc5 own5 gr5 lt5
            have bc5:Below wr.heap.size wr wc5:=bn4.grown gr5 bn4.size (fun k hk=>by injection hk with hk;have:=hb1;omega)
            refine hK.out _ _ ⟨(TT _ bc5).1,fun _=>(TT _ bc5).2⟩ ?_
            clear hK K
            refine AnyG.putAt 81 rfl ?_
            simp only [List.setIfInBounds_toArray,List.set_cons_zero,List.set_cons_succ]
            have hd5:=hn4.kept (Kept.of_grown (S:=fun k=>k=qa1) gr5 (fun k e=>(Option.some.inj e).symm)) (fun e=>by rw [e] at hn4;have h:=hn4.symm.trans hc4;simp at h)
            refine AnyG.ready (rs:=[14]) (by kernel_rfl) (by simp) ?_
            refine AllG.cons rfl (fun K hK=>?_) AllG.nil
            refine step_append_lies wc5 rfl (.tmp 81) (.tmp 91) 23 rfl wr.heap.size 47 i0 (.agg #[.string ⟨#[]⟩,.string ⟨#[]⟩,.int .i64 0,.int .i64 0,.slice none 0 0]) 5 72 Tryz.underlying23 hi hz0 hz1 hz2 rfl (by decide) _ j (scCs C.schemas V) (by simp [Act.eval]) own5 ⟨pa4,0,none⟩ 1 1 [.string x1,.string x2,.int .i64 n3,.int .i64 t,.slice none 0 0] (by simp [Act.eval]) rfl (World.news_of_block hd5) ONE (by decide) (by unfold maxLen;omega) (by omega) bc5.size _ rfl ?_
            intro q8 cap8 w8 hown hgrow hat hlt
            have b8:Below wr.heap.size wr w8:=bc5.grown hgrow bc5.size (fun k hk=>(own5.lt k hk).1)
            refine hK.out _ _ ⟨(TT _ b8).1,fun _=>(TT _ b8).2⟩ ?_
            clear hK K
            refine AnyG.putAt 92 rfl ?_
            simp only [List.setIfInBounds_toArray,List.set_cons_zero,List.set_cons_succ]
            have h8:=TT w8 b8
            refine .tr 15 93 ⟨h8.1,fun _=>h8.2⟩ ?_;simp only [tkA,tkB,tkC]
            refine AnyG.ready (rs:=[16]) (by kernel_rfl) (by simp) ?_
            refine AllG.cons rfl (fun K hK=>?_) AllG.nil
            obtain ⟨e8,f8⟩:=ROOM.out w8 b8
            have X9:=FIN.out q8 cap8 w8 (owns_mono hown BW) b8
            go_simp
            refine hK.out _ _ ⟨⟨(World.cell?_setCell_far _ _ _ _ hbA).trans h8.1.1,(World.cell?_setCell_far _ _ _ _ hbA).trans h8.1.2⟩,fun h=>by cases h⟩ ?_
            clear hK K
            refine AnyG.done (by kernel_rfl) ?_ _
            generalize w8.setCell _ _=w9 at *
            obtain ⟨y0,y1,y2,y3,y4,y5⟩:=X9.reads
            obtain ⟨r0,r1,r2,r3,r4,r5,f0,f1,f2,f3,f4,f5⟩:=X9.room
            clear TT OWN ONES ROOM FIN h8 e8 f8 hown hgrow
            go_wp2_with fail
            obtain ⟨q1,q2,q3⟩:=X9.sets (.int .i64 C.total) (.int .i64 C.period) (.int .i64 C.perSeat) (.int .i64 C.most) (.slice aL C.levels.length cL) (.slice (some ⟨q8,0,none⟩) (j+1) cap8)
            refine bodyPost_ret (resC37 _ _ _ _ _ _ _ _ _ _ rfl rfl q1) rfl ?_
            exact HEND.out _ _ _ _ q1 q2 q3 X9
          ·skip
           go_simp
           have bn6:Below wr.heap.size wr (w0.alloc (.cells #[.string x1,.string x2,.int .i64 n3,.int .i64 t,.slice none 0 0] 47)):=bel0.alloc bel0.size _
           refine hK.out _ _ ⟨(TT _ bn6).1,fun _=>(TT _ bn6).2⟩ ?_
           clear hK K
           have hn6:Blk (w0.alloc (.cells #[.string x1,.string x2,.int .i64 n3,.int .i64 t,.slice none 0 0] 47)) w0.heap.size 47 #[.string x1,.string x2,.int .i64 n3,.int .i64 t,.slice none 0 0]:=Blk.new w0 47 _
           have hb6:wr.heap.size≤w0.heap.size:=bel0.size
           generalize w0.alloc (.cells #[.string x1,.string x2,.int .i64 n3,.int .i64 t,.slice none 0 0] 47)=wa6 at *
           generalize w0.heap.size=pa6 at *
           refine AnyG.ready (rs:=[0]) (by kernel_rfl) (by simp) ?_
           refine AllG.cons rfl (fun K hK=>?_) AllG.nil
           go_simp
           have bn7:Below wr.heap.size wr (wa6.alloc (.cells #[] 47)):=bn6.alloc bn6.size _
           refine hK.out _ _ ⟨(TT _ bn7).1,fun _=>(TT _ bn7).2⟩ ?_
           clear hK K
           have hn7:Blk (wa6.alloc (.cells #[] 47)) wa6.heap.size 47 #[]:=Blk.new wa6 47 _
           have hb7:wr.heap.size≤wa6.heap.size:=bn6.size
           have hc7:=hn6.kept (Kept.of_below ((Below.refl wa6.heap.size wa6).alloc (Nat.le_refl _) (.cells #[] 47)) (fun _=>False)) id
           generalize wa6.alloc (.cells #[] 47)=wa7 at *
           generalize wa6.heap.size=qa7 at *
           refine AnyG.ready (rs:=[3]) (by kernel_rfl) (by simp) ?_
           refine AllG.cons rfl (fun K hK=>?_) AllG.nil
           refine step_copy rfl (.tmp 78) (.tmp 80) 23 rfl wr.heap.size 47 i0 (.agg #[.string ⟨#[]⟩,.string ⟨#[]⟩,.int .i64 0,.int .i64 0,.slice none 0 0]) 5 72 Tryz.underlying23 hi hz0 hz1 hz2 rfl (by decide) qa7 (by simp [Act.eval]) hn7 hb7 B aS j cS (by simp [Act.eval]) (scCs C.schemas V) (OWN _ bn7) ONES (by unfold maxLen;omega) (by omega) ?_
           intro g8 cap8 wc8 own8 gr8 lt8
           have bc8:Below wr.heap.size wr wc8:=bn7.grown gr8 bn7.size (fun k hk=>by injection hk with hk;have:=hb7;omega)
           refine hK.out _ _ ⟨(TT _ bc8).1,fun _=>(TT _ bc8).2⟩ ?_
           clear hK K
           refine AnyG.putAt 81 rfl ?_
           simp only [List.setIfInBounds_toArray,List.set_cons_zero,List.set_cons_succ]
           have hd8:=hc7.kept (Kept.of_grown (S:=fun k=>k=qa7) gr8 (fun k e=>(Option.some.inj e).symm)) (fun e=>by rw [e] at hc7;have h:=hc7.symm.trans hn7;simp at h)
           refine AnyG.ready (rs:=[14]) (by kernel_rfl) (by simp) ?_
           refine AllG.cons rfl (fun K hK=>?_) AllG.nil
           refine step_append_lies wc8 rfl (.tmp 81) (.tmp 91) 23 rfl wr.heap.size 47 i0 (.agg #[.string ⟨#[]⟩,.string ⟨#[]⟩,.int .i64 0,.int .i64 0,.slice none 0 0]) 5 72 Tryz.underlying23 hi hz0 hz1 hz2 rfl (by decide) _ j (scCs C.schemas V) (by simp [Act.eval]) own8 ⟨pa6,0,none⟩ 1 1 [.string x1,.string x2,.int .i64 n3,.int .i64 t,.slice none 0 0] (by simp [Act.eval]) rfl (World.news_of_block hd8) ONE (by decide) (by unfold maxLen;omega) (by omega) bc8.size _ rfl ?_
           intro q8 cap8 w8 hown hgrow hat hlt
           have b8:Below wr.heap.size wr w8:=bc8.grown hgrow bc8.size (fun k hk=>(own8.lt k hk).1)
           refine hK.out _ _ ⟨(TT _ b8).1,fun _=>(TT _ b8).2⟩ ?_
           clear hK K
           refine AnyG.putAt 92 rfl ?_
           simp only [List.setIfInBounds_toArray,List.set_cons_zero,List.set_cons_succ]
           have h8:=TT w8 b8
           refine .tr 15 93 ⟨h8.1,fun _=>h8.2⟩ ?_;simp only [tkA,tkB,tkC]
           refine AnyG.ready (rs:=[16]) (by kernel_rfl) (by simp) ?_
           refine AllG.cons rfl (fun K hK=>?_) AllG.nil
           obtain ⟨e8,f8⟩:=ROOM.out w8 b8
           have X9:=FIN.out q8 cap8 w8 (owns_mono hown BW) b8
           go_simp
           refine hK.out _ _ ⟨⟨(World.cell?_setCell_far _ _ _ _ hbA).trans h8.1.1,(World.cell?_setCell_far _ _ _ _ hbA).trans h8.1.2⟩,fun h=>by cases h⟩ ?_
           clear hK K
           refine AnyG.done (by kernel_rfl) ?_ _
           generalize w8.setCell _ _=w9 at *
           obtain ⟨y0,y1,y2,y3,y4,y5⟩:=X9.reads
           obtain ⟨r0,r1,r2,r3,r4,r5,f0,f1,f2,f3,f4,f5⟩:=X9.room
           clear TT OWN ONES ROOM FIN h8 e8 f8 hown hgrow
           go_wp2_with fail
           obtain ⟨q1,q2,q3⟩:=X9.sets (.int .i64 C.total) (.int .i64 C.period) (.int .i64 C.perSeat) (.int .i64 C.most) (.slice aL C.levels.length cL) (.slice (some ⟨q8,0,none⟩) (j+1) cap8)
           refine bodyPost_ret (resC37 _ _ _ _ _ _ _ _ _ _ rfl rfl q1) rfl ?_
           exact HEND.out _ _ _ _ q1 q2 q3 X9
theorem rschema_ok {B:Nat} (a:Option Addr) (c:Nat) (ws:List ByteArray) (w:World) (C:Cf) (v:Value) (hv:CfV B w v C) (hr:RowL w a ws) (hl:0<ws.length) (hsz:∀ k,(gt ws k).size≤65536) (hns:C.schemas.length≤32) (hB:B≤w.heap.size) :
  Calls Tryz.prog 155 #[v,.slice a ws.length c] w fun e w'=>∃ v',e=.returned (.tuple #[v',.int .i64 (schemaE C ws.tail)])∧Below w.heap.size w w'∧Six v'
   ∧ (schemaE C ws.tail=0→CfV B w' v' ⟨C.total,C.period,C.perSeat,C.most,C.levels,C.schemas ++ [schemaOf ws.tail]⟩):=by
 obtain ⟨vL,vS,V,rfl,hL,hS⟩:=hv
 by_cases h5:ws.length=5
 ·obtain ⟨b,off,rfl,hb,hc⟩:=hr hl
  match ws,h5,hc,hsz with
  | [x0,x1,x2,x3,x4],_,hc,hsz =>
   exact rschema_five b off c x1 x2 x3 x4 w C vL vS V hL hS hb (hc 1 (by simp)) (hc 2 (by simp)) (hc 3 (by simp)) (hc 4 (by simp)) (hsz 1) (hsz 2) (hsz 3) hns hB
 ·have e2:schemaE C ws.tail=2:=by
   have h4:((ws.tail.length:Int) == 4)=false:=by simp;omega
   unfold schemaE schemaW
   rw [h4,ifE_no,mu_keep (e:=2) (by decide),mu_keep (e:=2) (by decide),mu_keep (e:=2) (by decide),mu_keep (e:=2) (by decide),mu_keep (e:=2) (by decide),mu_keep (e:=2) (by decide)]
  rw [e2]
  refine (rschema_no a c ws w C vL vS V hL hS h5).mono ?_
  rintro e w' ⟨v,rfl,hb,h6⟩
  exact ⟨v,rfl,hb,h6,fun h=>absurd h (by decide)⟩
end Go.Proofs.YthkdbphgiobcdaaGreatDoor
