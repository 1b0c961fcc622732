/-
  'Fill' of the reference.
-/
import Derived.Test.YthkdbphgiobcdaaGreatDoorE28
namespace Go.Proofs.YthkdbphgiobcdaaGreatDoor
open Go.RowKit
theorem res11 (tmps:Array Value) (w:World) (r0:Nat) (v0 v1 v2 v3 v4 v5:Value) (ht:tmps[2]?.getD undef=.pointer (some ⟨r0,0,none⟩)) (h:Blk w r0 25 #[v0,v1,v2,v3,v4,v5]) :
  (results Tryz.f27 tmps).run Tryz.prog w=.ok (.agg #[v0,v1,v2,v3,v4,v5]) w:=by
 have c0:=h.cellv 0 rfl
 have c1:=h.cellv 1 rfl
 have c2:=h.cellv 2 rfl
 have c3:=h.cellv 3 rfl
 have c4:=h.cellv 4 rfl
 have c5:=h.cellv 5 rfl
 simp at c0 c1 c2 c3 c4 c5
 simp [results,Tryz.results27,go_sem,ht,c0,c1,c2,c3,c4,c5]
theorem orU_cond (x u:Int):orU x u=cond (x == 0) u x:=by
 unfold orU
 by_cases h:x=0
 ·simp [h]
 ·have h2:(x == 0)=false:=by simpa using h
  rw [if_neg h,h2]
  rfl
set_option maxRecDepth 20000 in
set_option maxHeartbeats 16000000 in
theorem refFill_ok (v:Value) (C:Cf) (w:World) (h:CfR w v C) (hb:Bnd 900 C):Calls Tryz.prog 27 #[v] w fun e w'=>FCf w (fillC C) e w':=by
 obtain ⟨i1,hi1,hy0,hy1,hy2⟩:=info_parts info37c
 obtain ⟨i4,hi4,hx0,hx1,hx2⟩:=info_parts info40c
 have HC:Hd (∀ W,Below w.heap.size w W→CfR W v C):=⟨fun W b=>h.carry b⟩
 obtain ⟨aL,cL,aS,cS,-,e0,-⟩:=h.ex
 subst e0
 clear h
 obtain ⟨x0,x1,x2,x3,L,S⟩:=C
 have n9:L.length≤900:=hb.lv
 have m9:S.length≤900:=hb.sc
 simp only at HC ⊢
 show Calls Tryz.prog 27 _ w fun e w'=>FCf w ⟨orU x0 100,orU x1 10,orU x2 100,orU x3 10,fillL L,fillS S⟩ e w'
 obtain ⟨n,hn⟩:∃ n,n=L.length:=⟨_,rfl⟩
 obtain ⟨m,hm⟩:∃ m,m=S.length:=⟨_,rfl⟩
 have HN:Hd (n=L.length∧m=S.length):=⟨hn,hm⟩
 rw [←hn,← hm] at HC ⊢
 rw [←hn] at n9
 rw [←hm] at m9
 have T1:Tw w.heap.size (w.heap.size+1) #[.int .i64 x0,.int .i64 x1,.int .i64 x2,.int .i64 x3,.slice aL n cL,.slice aS m cS] #[.int .i64 0,.int .i64 0,.int .i64 0,.int .i64 0,.slice none 0 0,.slice none 0 0] ((w.alloc (.cells #[.int .i64 x0,.int .i64 x1,.int .i64 x2,.int .i64 x3,.slice aL n cL,.slice aS m cS] 25)).alloc (.cells #[.int .i64 0,.int .i64 0,.int .i64 0,.int .i64 0,.slice none 0 0,.slice none 0 0] 25)):=⟨(Blk.new w 25 _).alloc _,alloc_new w _ 25 _⟩
 have AL:Below w.heap.size w ((w.alloc (.cells #[.int .i64 x0,.int .i64 x1,.int .i64 x2,.int .i64 x3,.slice aL n cL,.slice aS m cS] 25)).alloc (.cells #[.int .i64 0,.int .i64 0,.int .i64 0,.int .i64 0,.slice none 0 0,.slice none 0 0] 25)):=((Below.refl _ _).alloc (Nat.le_refl _) _).alloc (by simp) _
 have CP:=copy_ok _ _ _ (HC.out _ AL) hb
 have HFL:Hd (fillL L=putX (anyL L tCatch) (putX (anyL L tExempt) L lvX) lvY∧fillS S=putX (anyS S tCatch) (putX (anyS S tExempt) S scX) scY):=⟨rfl,rfl⟩
 generalize fillL L=RL at *
 generalize fillS S=RS at *
 clear hn hm hb
 go_enter Tryz.func27,Tryz.ntmps27
 go_wp2_with fail
 go_at_call 9
 refine CP.mono ?_
 rintro e w2 ⟨⟨vd,rfl,⟨vL,vS,V,rfl,hL,hS⟩⟩,b2⟩
 obtain ⟨bL,dL,e1,-⟩:=LvW.read hL
 obtain ⟨bS,dS,e2,-⟩:=ScW.read hS
 simp only at e1 e2
 rw [←HN.out.1] at e1
 rw [←HN.out.2] at e2
 subst e1 e2
 have B2:Below w.heap.size w w2:=AL.trans (b2.mono AL.size)
 have T2:=T1.kept (Kept.of_below b2 (fun _=>False)) id
 have HM:Hd (LvW w.heap.size w2 (.slice bL n dL) L∧ScW w.heap.size w2 (.slice bS m dS) S V∧Below w.heap.size w w2):=⟨LvW.mono hL AL.size,ScW.mono hS AL.size,B2⟩
 obtain ⟨g1,hg1⟩:∃ g1,g1=w.heap.size:=⟨_,rfl⟩
 have HT:Hd (Tw g1 (g1+1) #[.int .i64 x0,.int .i64 x1,.int .i64 x2,.int .i64 x3,.slice aL n cL,.slice aS m cS] #[.int .i64 0,.int .i64 0,.int .i64 0,.int .i64 0,.slice none 0 0,.slice none 0 0] w2∧g1=w.heap.size):=⟨by rw [hg1];exact T2,hg1⟩
 have HG1:Hd (g1=w.heap.size):=⟨hg1⟩
 rw [←hg1]
 clear CP T1 AL hL hS b2 B2 T2 hg1
 simp only
 go_upto_if 9 with fail
 generalize hb0:(x0 == 0)=b0 at *
 have HQ0:Hd (orU x0 100=cond b0 100 x0):=⟨by rw [←hb0];exact orU_cond _ _⟩
 clear hb0
 go_cut [] from 10 to 10 (fun wx=>Hd (wx=w2.alloc (.cells #[.int .i64 (orU x0 100),.int .i64 x1,.int .i64 x2,.int .i64 x3,.slice bL n dL,.slice bS m dS] 25)))
 case first =>
  cases b0
  ·go_wp2_with fail
   go_meet
   exact ⟨by rw [HQ0.out];rfl⟩
  ·go_wp2_with fail
   go_meet
   exact ⟨by rw [HQ0.out];rfl⟩
 case rest =>
  obtain rfl:=hcut.out
  go_upto_if 13 with fail
  generalize hb1:(x1 == 0)=b1 at *
  have HQ1:Hd (orU x1 10=cond b1 10 x1):=⟨by rw [←hb1];exact orU_cond _ _⟩
  clear hb1
  go_cut [] from 14 to 14 (fun wx=>Hd (wx=w2.alloc (.cells #[.int .i64 (orU x0 100),.int .i64 (orU x1 10),.int .i64 x2,.int .i64 x3,.slice bL n dL,.slice bS m dS] 25)))
  case first =>
   cases b1
   ·go_wp2_with fail
    go_meet
    exact ⟨by rw [HQ1.out];rfl⟩
   ·go_wp2_with fail
    go_meet
    exact ⟨by rw [HQ1.out];rfl⟩
  case rest =>
   obtain rfl:=hcut.out
   go_upto_if 17 with fail
   generalize hb2:(x2 == 0)=b2 at *
   have HQ2:Hd (orU x2 100=cond b2 100 x2):=⟨by rw [←hb2];exact orU_cond _ _⟩
   clear hb2
   go_cut [] from 18 to 18 (fun wx=>Hd (wx=w2.alloc (.cells #[.int .i64 (orU x0 100),.int .i64 (orU x1 10),.int .i64 (orU x2 100),.int .i64 x3,.slice bL n dL,.slice bS m dS] 25)))
   case first =>
    cases b2
    ·go_wp2_with fail
     go_meet
     exact ⟨by rw [HQ2.out];rfl⟩
    ·go_wp2_with fail
     go_meet
     exact ⟨by rw [HQ2.out];rfl⟩
   case rest =>
    obtain rfl:=hcut.out
    go_upto_if 21 with fail
    generalize hb3:(x3 == 0)=b3 at *
    have HQ3:Hd (orU x3 10=cond b3 10 x3):=⟨by rw [←hb3];exact orU_cond _ _⟩
    clear hb3
    go_cut [] from 22 to 22 (fun wx=>Hd (wx=w2.alloc (.cells #[.int .i64 (orU x0 100),.int .i64 (orU x1 10),.int .i64 (orU x2 100),.int .i64 (orU x3 10),.slice bL n dL,.slice bS m dS] 25)))
    case first =>
     cases b3
     ·go_wp2_with fail
      go_meet
      exact ⟨by rw [HQ3.out];rfl⟩
     ·go_wp2_with fail
      go_meet
      exact ⟨by rw [HQ3.out];rfl⟩
    case rest =>
     obtain rfl:=hcut.out
     have F0:FS w ((w2.alloc (.cells #[.int .i64 (orU x0 100),.int .i64 (orU x1 10),.int .i64 (orU x2 100),.int .i64 (orU x3 10),.slice bL n dL,.slice bS m dS] 25)).alloc (.cells #[.string ⟨#[42]⟩] 9)) g1 (g1+1) w2.heap.size (w2.heap.size+1) #[.int .i64 x0,.int .i64 x1,.int .i64 x2,.int .i64 x3,.slice aL n cL,.slice aS m cS] #[.int .i64 0,.int .i64 0,.int .i64 0,.int .i64 0,.slice none 0 0,.slice none 0 0] (.int .i64 (orU x0 100)) (.int .i64 (orU x1 10)) (.int .i64 (orU x2 100)) (.int .i64 (orU x3 10)) (.slice bL n dL) (.slice bS m dS) L S:=by
      have bA:Below w2.heap.size w2 ((w2.alloc (.cells #[.int .i64 (orU x0 100),.int .i64 (orU x1 10),.int .i64 (orU x2 100),.int .i64 (orU x3 10),.slice bL n dL,.slice bS m dS] 25)).alloc (.cells #[.string ⟨#[42]⟩] 9)):=((Below.refl _ _).alloc (Nat.le_refl _) _).alloc (by simp) _
      have bs:=HM.out.2.2.size
      have t2:=HT.out.1.b2.lt
      exact ⟨HM.out.2.2.trans (bA.mono bs),(HT.out.1.b1.alloc _).alloc _,(HT.out.1.b2.alloc _).alloc _,(Blk.new w2 25 _).alloc _,HM.out.1.grown bA,⟨V,HM.out.2.1.grown bA⟩,alloc_new w2 _ 9 _,by omega,by omega,bs,by omega⟩
     go_upto_region 11 with fail
     generalize (w2.alloc (.cells #[.int .i64 (orU x0 100),.int .i64 (orU x1 10),.int .i64 (orU x2 100),.int .i64 (orU x3 10),.slice bL n dL,.slice bS m dS] 25)).alloc (.cells #[.string ⟨#[42]⟩] 9)=w3 at *
     generalize w2.heap.size+1=gs at *
     generalize w2.heap.size=g3 at *
     have HF:Hd _:=⟨F0⟩
     clear F0 HM HT hcut
     have c0:=HF.out.b1.cellv (v:=.int .i64 x0) 0 rfl
     have c1:=HF.out.b1.cellv (v:=.int .i64 x1) 1 rfl
     have c2:=HF.out.b1.cellv (v:=.int .i64 x2) 2 rfl
     have c3:=HF.out.b1.cellv (v:=.int .i64 x3) 3 rfl
     have c4:=HF.out.b1.cellv (v:=.slice aL n cL) 4 rfl
     have c5:=HF.out.b1.cellv (v:=.slice aS m cS) 5 rfl
     have Q1:=rHasLv _ _ tExempt w3 (HC.out w3 HF.out.bel)
     have HB1:Hd (anyL L tExempt=anyL L tExempt):=⟨rfl⟩
     simp only at Q1
     generalize hbb1:anyL L tExempt=bb1 at Q1
     have HBB1:Hd (anyL L tExempt=bb1):=⟨hbb1⟩
     clear hbb1 HB1
     go_wp2_with fail
     go_at_call 61
     refine Q1.mono ?_
     rintro e y1 ⟨rfl,b11⟩
     have HG1:Hd _:=⟨HF.out.grown b11⟩
     clear Q1 b11 HF c0 c1 c2 c3 c4 c5
     go_upto_if 26 with fail
     go_cut [] from 27 to 32 (fun wx=>∃ (za:Option Addr) (zc:Nat),Hd (FS w wx g1 (g1+1) g3 gs #[.int .i64 x0,.int .i64 x1,.int .i64 x2,.int .i64 x3,.slice aL n cL,.slice aS m cS] #[.int .i64 0,.int .i64 0,.int .i64 0,.int .i64 0,.slice none 0 0,.slice none 0 0] (.int .i64 (orU x0 100)) (.int .i64 (orU x1 10)) (.int .i64 (orU x2 100)) (.int .i64 (orU x3 10)) (.slice za (putX bb1 L lvX).length zc) (.slice bS m dS) (putX bb1 L lvX) S))
     case first =>
      cases bb1 with
      | true =>
       go_wp2_with fail
       go_meet
       have e:=HG1.out
       refine ⟨bL,dL,⟨?_⟩⟩
       rw [show (putX true L lvX).length=n from HN.out.1.symm]
       exact e
      | false =>
       have d4:=HG1.out.b3.cellv (v:=.slice bL n dL) 4 rfl
       have bA:=alloc_below y1 (.cells #[.string ⟨#[101,120,101,109,112,116]⟩,.int .i64 1,.int .i64 0,.int .i64 0,.int .i64 0,.int .i64 0,.int .i64 0,.int .i64 0,.int .i64 0,.int .i64 0] 43)
       have OW:(y1.alloc (.cells #[.string ⟨#[101,120,101,109,112,116]⟩,.int .i64 1,.int .i64 0,.int .i64 0,.int .i64 0,.int .i64 0,.int .i64 0,.int .i64 0,.int .i64 0,.int .i64 0] 43)).ownsRow w.heap.size 43 10 (.slice bL n dL) n (lvCs L):=by have:=LvW.grown HG1.out.lv bA;unfold LvW at this;rw [←HN.out.1] at this;exact this
       have NW:=World.news_of_block (Blk.new y1 43 #[.string ⟨#[101,120,101,109,112,116]⟩,.int .i64 1,.int .i64 0,.int .i64 0,.int .i64 0,.int .i64 0,.int .i64 0,.int .i64 0,.int .i64 0,.int .i64 0])
       have ON:∀ u∈(#[.string ⟨#[101,120,101,109,112,116]⟩,.int .i64 1,.int .i64 0,.int .i64 0,.int .i64 0,.int .i64 0,.int .i64 0,.int .i64 0,.int .i64 0,.int .i64 0]:Array Value).toList,u.oneCell'=true:=lvC_one lvX
       have SZ:w.heap.size≤(y1.alloc (.cells #[.string ⟨#[101,120,101,109,112,116]⟩,.int .i64 1,.int .i64 0,.int .i64 0,.int .i64 0,.int .i64 0,.int .i64 0,.int .i64 0,.int .i64 0,.int .i64 0] 43)).heap.size:=Nat.le_trans HG1.out.bel.size bA.size
       have PUT:Hd (∀ w5 v5,w5.ownsRow w.heap.size 43 10 v5 (L.length+1) (lvCs L++lvC lvX)→(y1.alloc (.cells #[.string ⟨#[101,120,101,109,112,116]⟩,.int .i64 1,.int .i64 0,.int .i64 0,.int .i64 0,.int .i64 0,.int .i64 0,.int .i64 0,.int .i64 0,.int .i64 0] 43)).grownBy w5 (Value.slice bL n dL:Value).ownBlock→_):=⟨fun w5 v5 ho hg=>HG1.out.putL bA ho hg⟩
       have LEN:L.length≤902:=by rw [←HN.out.1];omega
       rw [←HN.out.1] at PUT LEN
       clear bA
       go_wp2_with (at_builtin;go_loud (refine wpList_append_own _ rfl _ _ 22 rfl w.heap.size 43 i1 (.agg #[.string ByteArray.empty,.int .i64 0,.int .i64 0,.int .i64 0,.int .i64 0,.int .i64 0,.int .i64 0,.int .i64 0,.int .i64 0,.int .i64 0]) 10 88 Tryz.underlying22 hi1 hy0 hy1 hy2 rfl (by decide) _ _ _ rfl OW ⟨y1.heap.size,0,none⟩ 1 1 (#[.string ⟨#[101,120,101,109,112,116]⟩,.int .i64 1,.int .i64 0,.int .i64 0,.int .i64 0,.int .i64 0,.int .i64 0,.int .i64 0,.int .i64 0,.int .i64 0]:Array Value).toList rfl rfl NW ON (by unfold maxLen;omega) (by omega) SZ ?_;intro v5 w5 h5 g5 _;obtain ⟨B5,F5⟩:=PUT.out w5 v5 h5 g5;have f4:=B5.frozen 4;have d4':=B5.cellv (v:=.slice bL n dL) 4 rfl;have HX:Hd _:=⟨F5⟩;clear F5 B5;obtain ⟨pa,pc,rfl,-⟩:=owns_read h5))
       go_meet
       have e:=HX.out
       refine ⟨pa,pc,⟨?_⟩⟩
       rw [show (putX false L lvX).length=n+1 from by unfold putX;simp [HN.out.1]]
       exact e
     case rest =>
      obtain ⟨za1,zc1,HF1⟩:=hcut
      clear HG1
      obtain ⟨w21,rfl⟩:∃ wz:World,wz=wc:=⟨_,rfl⟩
      have c0:=HF1.out.b1.cellv (v:=.int .i64 x0) 0 rfl
      have c1:=HF1.out.b1.cellv (v:=.int .i64 x1) 1 rfl
      have c2:=HF1.out.b1.cellv (v:=.int .i64 x2) 2 rfl
      have c3:=HF1.out.b1.cellv (v:=.int .i64 x3) 3 rfl
      have c4:=HF1.out.b1.cellv (v:=.slice aL n cL) 4 rfl
      have c5:=HF1.out.b1.cellv (v:=.slice aS m cS) 5 rfl
      have Q2:=rHasLv _ _ tCatch w21 (HC.out w21 HF1.out.bel)
      have HB2:Hd (anyL L tCatch=anyL L tCatch):=⟨rfl⟩
      simp only at Q2
      generalize hbb2:anyL L tCatch=bb2 at Q2
      have HBB2:Hd (anyL L tCatch=bb2):=⟨hbb2⟩
      clear hbb2 HB2
      go_wp2_with fail
      go_at_call 61
      refine Q2.mono ?_
      rintro e y2 ⟨rfl,b12⟩
      have HG2:Hd _:=⟨HF1.out.grown b12⟩
      clear Q2 b12 HF1 c0 c1 c2 c3 c4 c5
      go_upto_if 35 with fail
      go_cut [] from 36 to 41 (fun wx=>∃ (za:Option Addr) (zc:Nat),Hd (FS w wx g1 (g1+1) g3 gs #[.int .i64 x0,.int .i64 x1,.int .i64 x2,.int .i64 x3,.slice aL n cL,.slice aS m cS] #[.int .i64 0,.int .i64 0,.int .i64 0,.int .i64 0,.slice none 0 0,.slice none 0 0] (.int .i64 (orU x0 100)) (.int .i64 (orU x1 10)) (.int .i64 (orU x2 100)) (.int .i64 (orU x3 10)) (.slice za (putX bb2 (putX bb1 L lvX) lvY).length zc) (.slice bS m dS) (putX bb2 (putX bb1 L lvX) lvY) S))
      case first =>
       cases bb2 with
       | true =>
        go_wp2_with fail
        go_meet
        have e:=HG2.out
        refine ⟨za1,zc1,⟨?_⟩⟩
        rw [show (putX true (putX bb1 L lvX) lvY).length=(putX bb1 L lvX).length from rfl]
        exact e
       | false =>
        have d4:=HG2.out.b3.cellv (v:=.slice za1 (putX bb1 L lvX).length zc1) 4 rfl
        have bA:=alloc_below y2 (.cells #[.string ⟨#[99,97,116,99,104,45,97,108,108]⟩,.int .i64 2,.int .i64 5,.int .i64 0,.int .i64 (-1),.int .i64 0,.int .i64 0,.int .i64 0,.int .i64 0,.int .i64 0] 43)
        have OW:(y2.alloc (.cells #[.string ⟨#[99,97,116,99,104,45,97,108,108]⟩,.int .i64 2,.int .i64 5,.int .i64 0,.int .i64 (-1),.int .i64 0,.int .i64 0,.int .i64 0,.int .i64 0,.int .i64 0] 43)).ownsRow w.heap.size 43 10 (.slice za1 (putX bb1 L lvX).length zc1) (putX bb1 L lvX).length (lvCs (putX bb1 L lvX)):=by have:=LvW.grown HG2.out.lv bA;unfold LvW at this;exact this
        have NW:=World.news_of_block (Blk.new y2 43 #[.string ⟨#[99,97,116,99,104,45,97,108,108]⟩,.int .i64 2,.int .i64 5,.int .i64 0,.int .i64 (-1),.int .i64 0,.int .i64 0,.int .i64 0,.int .i64 0,.int .i64 0])
        have ON:∀ u∈(#[.string ⟨#[99,97,116,99,104,45,97,108,108]⟩,.int .i64 2,.int .i64 5,.int .i64 0,.int .i64 (-1),.int .i64 0,.int .i64 0,.int .i64 0,.int .i64 0,.int .i64 0]:Array Value).toList,u.oneCell'=true:=lvC_one lvY
        have SZ:w.heap.size≤(y2.alloc (.cells #[.string ⟨#[99,97,116,99,104,45,97,108,108]⟩,.int .i64 2,.int .i64 5,.int .i64 0,.int .i64 (-1),.int .i64 0,.int .i64 0,.int .i64 0,.int .i64 0,.int .i64 0] 43)).heap.size:=Nat.le_trans HG2.out.bel.size bA.size
        have PUT:Hd (∀ w5 v5,w5.ownsRow w.heap.size 43 10 v5 ((putX bb1 L lvX).length+1) (lvCs (putX bb1 L lvX)++lvC lvY)→(y2.alloc (.cells #[.string ⟨#[99,97,116,99,104,45,97,108,108]⟩,.int .i64 2,.int .i64 5,.int .i64 0,.int .i64 (-1),.int .i64 0,.int .i64 0,.int .i64 0,.int .i64 0,.int .i64 0] 43)).grownBy w5 (Value.slice za1 (putX bb1 L lvX).length zc1:Value).ownBlock→_):=⟨fun w5 v5 ho hg=>HG2.out.putL bA ho hg⟩
        have LEN:(putX bb1 L lvX).length≤902:=by have:=HN.out.1;unfold putX;split <;> simp <;> omega
        clear bA
        go_wp2_with (at_builtin;go_loud (refine wpList_append_own _ rfl _ _ 22 rfl w.heap.size 43 i1 (.agg #[.string ByteArray.empty,.int .i64 0,.int .i64 0,.int .i64 0,.int .i64 0,.int .i64 0,.int .i64 0,.int .i64 0,.int .i64 0,.int .i64 0]) 10 88 Tryz.underlying22 hi1 hy0 hy1 hy2 rfl (by decide) _ _ _ rfl OW ⟨y2.heap.size,0,none⟩ 1 1 (#[.string ⟨#[99,97,116,99,104,45,97,108,108]⟩,.int .i64 2,.int .i64 5,.int .i64 0,.int .i64 (-1),.int .i64 0,.int .i64 0,.int .i64 0,.int .i64 0,.int .i64 0]:Array Value).toList rfl rfl NW ON (by unfold maxLen;omega) (by omega) SZ ?_;intro v5 w5 h5 g5 _;obtain ⟨B5,F5⟩:=PUT.out w5 v5 h5 g5;have f4:=B5.frozen 4;have d4':=B5.cellv (v:=.slice za1 (putX bb1 L lvX).length zc1) 4 rfl;have HX:Hd _:=⟨F5⟩;clear F5 B5;obtain ⟨pa,pc,rfl,-⟩:=owns_read h5))
        go_meet
        have e:=HX.out
        refine ⟨pa,pc,⟨?_⟩⟩
        rw [show (putX false (putX bb1 L lvX) lvY).length=(putX bb1 L lvX).length+1 from by unfold putX;simp]
        exact e
      case rest =>
       obtain ⟨za2,zc2,HF2⟩:=hcut
       clear HG2
       obtain ⟨w22,rfl⟩:∃ wz:World,wz=wc:=⟨_,rfl⟩
       have c0:=HF2.out.b1.cellv (v:=.int .i64 x0) 0 rfl
       have c1:=HF2.out.b1.cellv (v:=.int .i64 x1) 1 rfl
       have c2:=HF2.out.b1.cellv (v:=.int .i64 x2) 2 rfl
       have c3:=HF2.out.b1.cellv (v:=.int .i64 x3) 3 rfl
       have c4:=HF2.out.b1.cellv (v:=.slice aL n cL) 4 rfl
       have c5:=HF2.out.b1.cellv (v:=.slice aS m cS) 5 rfl
       have Q3:=rHasSc _ _ tExempt w22 (HC.out w22 HF2.out.bel)
       have HB3:Hd (anyS S tExempt=anyS S tExempt):=⟨rfl⟩
       simp only at Q3
       generalize hbb3:anyS S tExempt=bb3 at Q3
       have HBB3:Hd (anyS S tExempt=bb3):=⟨hbb3⟩
       clear hbb3 HB3
       go_wp2_with fail
       go_at_call 62
       refine Q3.mono ?_
       rintro e y3 ⟨rfl,b13⟩
       have HG3:Hd _:=⟨HF2.out.grown b13⟩
       clear Q3 b13 HF2 c0 c1 c2 c3 c4 c5
       go_upto_if 44 with fail
       go_cut [] from 45 to 56 (fun wx=>∃ (za:Option Addr) (zc:Nat),Hd (FS w wx g1 (g1+1) g3 gs #[.int .i64 x0,.int .i64 x1,.int .i64 x2,.int .i64 x3,.slice aL n cL,.slice aS m cS] #[.int .i64 0,.int .i64 0,.int .i64 0,.int .i64 0,.slice none 0 0,.slice none 0 0] (.int .i64 (orU x0 100)) (.int .i64 (orU x1 10)) (.int .i64 (orU x2 100)) (.int .i64 (orU x3 10)) (.slice za2 (putX bb2 (putX bb1 L lvX) lvY).length zc2) (.slice za (putX bb3 S scX).length zc) (putX bb2 (putX bb1 L lvX) lvY) (putX bb3 S scX)))
       case first =>
        cases bb3 with
        | true =>
         go_wp2_with fail
         go_meet
         have e:=HG3.out
         refine ⟨bS,dS,⟨?_⟩⟩
         rw [show (putX true S scX).length=m from HN.out.2.symm]
         exact e
        | false =>
         have d5:=HG3.out.b3.cellv (v:=.slice bS m dS) 5 rfl
         obtain ⟨nb1,nb2,bA,ost,oms⟩:=HG3.out.newS ⟨#[115,121,115,116,101,109,58,109,97,115,116,101,114,115]⟩ #[.slice none 0 0,.slice (some ⟨y3.heap.size,0,none⟩) 1 1,.slice (some ⟨gs,0,none⟩) 1 1,.slice (some ⟨gs,0,none⟩) 1 1,.slice (some ⟨gs,0,none⟩) 1 1] #[.string ⟨#[101,120,101,109,112,116]⟩,.string ⟨#[101,120,101,109,112,116]⟩,.int .i64 1,.int .i64 0,.slice (some ⟨y3.heap.size+1,0,none⟩) 1 1]
         have RL:RlW w.heap.size (((y3.alloc (.cells #[.string ⟨#[115,121,115,116,101,109,58,109,97,115,116,101,114,115]⟩] 9)).alloc (.cells #[.slice none 0 0,.slice (some ⟨y3.heap.size,0,none⟩) 1 1,.slice (some ⟨gs,0,none⟩) 1 1,.slice (some ⟨gs,0,none⟩) 1 1,.slice (some ⟨gs,0,none⟩) 1 1] 54)).alloc (.cells #[.string ⟨#[101,120,101,109,112,116]⟩,.string ⟨#[101,120,101,109,112,116]⟩,.int .i64 1,.int .i64 0,.slice (some ⟨y3.heap.size+1,0,none⟩) 1 1] 47)) (.slice (some ⟨y3.heap.size+1,0,none⟩) 1 1) scX.rules:=one_rl (q:=⟨.slice none 0 0,.slice (some ⟨y3.heap.size,0,none⟩) 1 1,.slice (some ⟨gs,0,none⟩) 1 1,.slice (some ⟨gs,0,none⟩) 1 1,.slice (some ⟨gs,0,none⟩) 1 1⟩) nb2 (by have:=HG3.out.bel.size;omega) ⟨own_nil _ _,oms,ost,ost,ost⟩
         have hf:∀ g,(Value.slice (some ⟨y3.heap.size+1,0,none⟩) 1 1).ownBlock=some g→y3.heap.size≤g:=fun g hg=>by have h2:y3.heap.size+1=g:=Option.some.inj hg;omega
         have NW0:=World.news_of_block (alloc_new2 y3 (.cells #[.string ⟨#[115,121,115,116,101,109,58,109,97,115,116,101,114,115]⟩] 9) (.cells #[.slice none 0 0,.slice (some ⟨y3.heap.size,0,none⟩) 1 1,.slice (some ⟨gs,0,none⟩) 1 1,.slice (some ⟨gs,0,none⟩) 1 1,.slice (some ⟨gs,0,none⟩) 1 1] 54) 47 #[.string ⟨#[101,120,101,109,112,116]⟩,.string ⟨#[101,120,101,109,112,116]⟩,.int .i64 1,.int .i64 0,.slice (some ⟨y3.heap.size+1,0,none⟩) 1 1])
         obtain ⟨V3,hV3⟩:=HG3.out.sc
         have OW:=(hV3.grown bA).own
         rw [←HN.out.2] at OW
         have ON:∀ u∈(#[.string ⟨#[101,120,101,109,112,116]⟩,.string ⟨#[101,120,101,109,112,116]⟩,.int .i64 1,.int .i64 0,.slice (some ⟨y3.heap.size+1,0,none⟩) 1 1]:Array Value).toList,u.oneCell'=true:=scC_one RL scX
         have SZ:w.heap.size≤(((y3.alloc (.cells #[.string ⟨#[115,121,115,116,101,109,58,109,97,115,116,101,114,115]⟩] 9)).alloc (.cells #[.slice none 0 0,.slice (some ⟨y3.heap.size,0,none⟩) 1 1,.slice (some ⟨gs,0,none⟩) 1 1,.slice (some ⟨gs,0,none⟩) 1 1,.slice (some ⟨gs,0,none⟩) 1 1] 54)).alloc (.cells #[.string ⟨#[101,120,101,109,112,116]⟩,.string ⟨#[101,120,101,109,112,116]⟩,.int .i64 1,.int .i64 0,.slice (some ⟨y3.heap.size+1,0,none⟩) 1 1] 47)).heap.size:=Nat.le_trans HG3.out.bel.size bA.size
         have PUT:Hd (∀ w5 v5,w5.ownsRow w.heap.size 47 5 v5 (S.length+1) (scCs S V3++scC scX (.slice (some ⟨y3.heap.size+1,0,none⟩) 1 1))→(((y3.alloc (.cells #[.string ⟨#[115,121,115,116,101,109,58,109,97,115,116,101,114,115]⟩] 9)).alloc (.cells #[.slice none 0 0,.slice (some ⟨y3.heap.size,0,none⟩) 1 1,.slice (some ⟨gs,0,none⟩) 1 1,.slice (some ⟨gs,0,none⟩) 1 1,.slice (some ⟨gs,0,none⟩) 1 1] 54)).alloc (.cells #[.string ⟨#[101,120,101,109,112,116]⟩,.string ⟨#[101,120,101,109,112,116]⟩,.int .i64 1,.int .i64 0,.slice (some ⟨y3.heap.size+1,0,none⟩) 1 1] 47)).grownBy w5 (Value.slice bS m dS:Value).ownBlock→_):=⟨fun w5 v5 ho hg=>HG3.out.putS hV3 bA RL hf ho hg⟩
         have LEN:S.length≤902:=by rw [←HN.out.2];omega
         rw [←HN.out.2] at PUT LEN
         clear bA hV3 RL hf nb2 ost
         go_wp2_with (at_builtin;go_loud (refine wpList_append_own _ rfl _ _ 23 rfl w.heap.size 47 i4 (.agg #[.string ByteArray.empty,.string ByteArray.empty,.int .i64 0,.int .i64 0,.slice none 0 0]) 5 72 Tryz.underlying23 hi4 hx0 hx1 hx2 rfl (by decide) _ _ _ rfl OW ⟨y3.heap.size+1+1,0,none⟩ 1 1 (#[.string ⟨#[101,120,101,109,112,116]⟩,.string ⟨#[101,120,101,109,112,116]⟩,.int .i64 1,.int .i64 0,.slice (some ⟨y3.heap.size+1,0,none⟩) 1 1]:Array Value).toList rfl rfl NW0 ON (by unfold maxLen;omega) (by omega) SZ ?_;intro v5 w5 h5 g5 _;obtain ⟨B5,F5⟩:=PUT.out w5 v5 h5 g5;have f4:=B5.frozen 5;have d4':=B5.cellv (v:=.slice bS m dS) 5 rfl;have HX:Hd _:=⟨F5⟩;clear F5 B5;obtain ⟨pa,pc,rfl,-⟩:=owns_read h5))
         go_meet
         have e:=HX.out
         refine ⟨pa,pc,⟨?_⟩⟩
         rw [show (putX false S scX).length=m+1 from by unfold putX;simp [HN.out.2]]
         exact e
       case rest =>
        obtain ⟨za3,zc3,HF3⟩:=hcut
        clear HG3
        obtain ⟨w23,rfl⟩:∃ wz:World,wz=wc:=⟨_,rfl⟩
        have c0:=HF3.out.b1.cellv (v:=.int .i64 x0) 0 rfl
        have c1:=HF3.out.b1.cellv (v:=.int .i64 x1) 1 rfl
        have c2:=HF3.out.b1.cellv (v:=.int .i64 x2) 2 rfl
        have c3:=HF3.out.b1.cellv (v:=.int .i64 x3) 3 rfl
        have c4:=HF3.out.b1.cellv (v:=.slice aL n cL) 4 rfl
        have c5:=HF3.out.b1.cellv (v:=.slice aS m cS) 5 rfl
        have Q4:=rHasSc _ _ tCatch w23 (HC.out w23 HF3.out.bel)
        have HB4:Hd (anyS S tCatch=anyS S tCatch):=⟨rfl⟩
        simp only at Q4
        generalize hbb4:anyS S tCatch=bb4 at Q4
        have HBB4:Hd (anyS S tCatch=bb4):=⟨hbb4⟩
        clear hbb4 HB4
        go_wp2_with fail
        go_at_call 62
        refine Q4.mono ?_
        rintro e y4 ⟨rfl,b14⟩
        have HG4:Hd _:=⟨HF3.out.grown b14⟩
        clear Q4 b14 HF3 c0 c1 c2 c3 c4 c5
        go_upto_if 59 with fail
        go_cut [] from 60 to 71 (fun wx=>∃ (za:Option Addr) (zc:Nat),Hd (FS w wx g1 (g1+1) g3 gs #[.int .i64 x0,.int .i64 x1,.int .i64 x2,.int .i64 x3,.slice aL n cL,.slice aS m cS] #[.int .i64 0,.int .i64 0,.int .i64 0,.int .i64 0,.slice none 0 0,.slice none 0 0] (.int .i64 (orU x0 100)) (.int .i64 (orU x1 10)) (.int .i64 (orU x2 100)) (.int .i64 (orU x3 10)) (.slice za2 (putX bb2 (putX bb1 L lvX) lvY).length zc2) (.slice za (putX bb4 (putX bb3 S scX) scY).length zc) (putX bb2 (putX bb1 L lvX) lvY) (putX bb4 (putX bb3 S scX) scY)))
        case first =>
         cases bb4 with
         | true =>
          go_wp2_with fail
          go_meet
          have e:=HG4.out
          refine ⟨za3,zc3,⟨?_⟩⟩
          rw [show (putX true (putX bb3 S scX) scY).length=(putX bb3 S scX).length from rfl]
          exact e
         | false =>
          have d5:=HG4.out.b3.cellv (v:=.slice za3 (putX bb3 S scX).length zc3) 5 rfl
          obtain ⟨nb2,bA,ost⟩:=HG4.out.newS2 #[.slice (some ⟨gs,0,none⟩) 1 1,.slice none 0 0,.slice (some ⟨gs,0,none⟩) 1 1,.slice (some ⟨gs,0,none⟩) 1 1,.slice (some ⟨gs,0,none⟩) 1 1] #[.string ⟨#[99,97,116,99,104,45,97,108,108]⟩,.string ⟨#[99,97,116,99,104,45,97,108,108]⟩,.int .i64 10000,.int .i64 1,.slice (some ⟨y4.heap.size,0,none⟩) 1 1]
          have RL:RlW w.heap.size ((y4.alloc (.cells #[.slice (some ⟨gs,0,none⟩) 1 1,.slice none 0 0,.slice (some ⟨gs,0,none⟩) 1 1,.slice (some ⟨gs,0,none⟩) 1 1,.slice (some ⟨gs,0,none⟩) 1 1] 54)).alloc (.cells #[.string ⟨#[99,97,116,99,104,45,97,108,108]⟩,.string ⟨#[99,97,116,99,104,45,97,108,108]⟩,.int .i64 10000,.int .i64 1,.slice (some ⟨y4.heap.size,0,none⟩) 1 1] 47)) (.slice (some ⟨y4.heap.size,0,none⟩) 1 1) scY.rules:=one_rl (q:=⟨.slice (some ⟨gs,0,none⟩) 1 1,.slice none 0 0,.slice (some ⟨gs,0,none⟩) 1 1,.slice (some ⟨gs,0,none⟩) 1 1,.slice (some ⟨gs,0,none⟩) 1 1⟩) nb2 (by have:=HG4.out.bel.size;omega) ⟨ost,own_nil _ _,ost,ost,ost⟩
          have hf:∀ g,(Value.slice (some ⟨y4.heap.size,0,none⟩) 1 1).ownBlock=some g→y4.heap.size≤g:=fun g hg=>by have h2:y4.heap.size=g:=Option.some.inj hg;omega
          have NW0:=World.news_of_block (alloc_new y4 (.cells #[.slice (some ⟨gs,0,none⟩) 1 1,.slice none 0 0,.slice (some ⟨gs,0,none⟩) 1 1,.slice (some ⟨gs,0,none⟩) 1 1,.slice (some ⟨gs,0,none⟩) 1 1] 54) 47 #[.string ⟨#[99,97,116,99,104,45,97,108,108]⟩,.string ⟨#[99,97,116,99,104,45,97,108,108]⟩,.int .i64 10000,.int .i64 1,.slice (some ⟨y4.heap.size,0,none⟩) 1 1])
          obtain ⟨V4,hV4⟩:=HG4.out.sc
          have OW:=(hV4.grown bA).own
          have ON:∀ u∈(#[.string ⟨#[99,97,116,99,104,45,97,108,108]⟩,.string ⟨#[99,97,116,99,104,45,97,108,108]⟩,.int .i64 10000,.int .i64 1,.slice (some ⟨y4.heap.size,0,none⟩) 1 1]:Array Value).toList,u.oneCell'=true:=scC_one RL scY
          have SZ:w.heap.size≤((y4.alloc (.cells #[.slice (some ⟨gs,0,none⟩) 1 1,.slice none 0 0,.slice (some ⟨gs,0,none⟩) 1 1,.slice (some ⟨gs,0,none⟩) 1 1,.slice (some ⟨gs,0,none⟩) 1 1] 54)).alloc (.cells #[.string ⟨#[99,97,116,99,104,45,97,108,108]⟩,.string ⟨#[99,97,116,99,104,45,97,108,108]⟩,.int .i64 10000,.int .i64 1,.slice (some ⟨y4.heap.size,0,none⟩) 1 1] 47)).heap.size:=Nat.le_trans HG4.out.bel.size bA.size
          have PUT:Hd (∀ w5 v5,w5.ownsRow w.heap.size 47 5 v5 ((putX bb3 S scX).length+1) (scCs (putX bb3 S scX) V4++scC scY (.slice (some ⟨y4.heap.size,0,none⟩) 1 1))→((y4.alloc (.cells #[.slice (some ⟨gs,0,none⟩) 1 1,.slice none 0 0,.slice (some ⟨gs,0,none⟩) 1 1,.slice (some ⟨gs,0,none⟩) 1 1,.slice (some ⟨gs,0,none⟩) 1 1] 54)).alloc (.cells #[.string ⟨#[99,97,116,99,104,45,97,108,108]⟩,.string ⟨#[99,97,116,99,104,45,97,108,108]⟩,.int .i64 10000,.int .i64 1,.slice (some ⟨y4.heap.size,0,none⟩) 1 1] 47)).grownBy w5 (Value.slice za3 (putX bb3 S scX).length zc3:Value).ownBlock→_):=⟨fun w5 v5 ho hg=>HG4.out.putS hV4 bA RL hf ho hg⟩
          have LEN:(putX bb3 S scX).length≤902:=by have:=HN.out.2;unfold putX;split <;> simp <;> omega
          clear bA hV4 RL hf nb2 ost
          go_wp2_with (at_builtin;go_loud (refine wpList_append_own _ rfl _ _ 23 rfl w.heap.size 47 i4 (.agg #[.string ByteArray.empty,.string ByteArray.empty,.int .i64 0,.int .i64 0,.slice none 0 0]) 5 72 Tryz.underlying23 hi4 hx0 hx1 hx2 rfl (by decide) _ _ _ rfl OW ⟨y4.heap.size+1,0,none⟩ 1 1 (#[.string ⟨#[99,97,116,99,104,45,97,108,108]⟩,.string ⟨#[99,97,116,99,104,45,97,108,108]⟩,.int .i64 10000,.int .i64 1,.slice (some ⟨y4.heap.size,0,none⟩) 1 1]:Array Value).toList rfl rfl NW0 ON (by unfold maxLen;omega) (by omega) SZ ?_;intro v5 w5 h5 g5 _;obtain ⟨B5,F5⟩:=PUT.out w5 v5 h5 g5;have f4:=B5.frozen 5;have d4':=B5.cellv (v:=.slice za3 (putX bb3 S scX).length zc3) 5 rfl;have HX:Hd _:=⟨F5⟩;clear F5 B5;obtain ⟨pa,pc,rfl,-⟩:=owns_read h5))
          go_meet
          have e:=HX.out
          refine ⟨pa,pc,⟨?_⟩⟩
          rw [show (putX false (putX bb3 S scX) scY).length=(putX bb3 S scX).length+1 from by unfold putX;simp]
          exact e
        case rest =>
         obtain ⟨za4,zc4,HF4⟩:=hcut
         clear HG4
         obtain ⟨w24,rfl⟩:∃ wz:World,wz=wc:=⟨_,rfl⟩
         have M:Hd _:=⟨six_set HF4.out.b2 (.int .i64 (orU x0 100)) (.int .i64 (orU x1 10)) (.int .i64 (orU x2 100)) (.int .i64 (orU x3 10)) (.slice za2 (putX bb2 (putX bb1 L lvX) lvY).length zc2) (.slice za4 (putX bb4 (putX bb3 S scX) scY).length zc4)⟩
         have d0:=HF4.out.b3.cellv (v:=.int .i64 (orU x0 100)) 0 rfl
         have d1:=HF4.out.b3.cellv (v:=.int .i64 (orU x1 10)) 1 rfl
         have d2:=HF4.out.b3.cellv (v:=.int .i64 (orU x2 100)) 2 rfl
         have d3:=HF4.out.b3.cellv (v:=.int .i64 (orU x3 10)) 3 rfl
         have d4:=HF4.out.b3.cellv (v:=.slice za2 (putX bb2 (putX bb1 L lvX) lvY).length zc2) 4 rfl
         have d5:=HF4.out.b3.cellv (v:=.slice za4 (putX bb4 (putX bb3 S scX) scY).length zc4) 5 rfl
         have r0:=HF4.out.b2.cellv (v:=.int .i64 0) 0 rfl
         have s0:=HF4.out.b2.frozen 0
         have r1:=HF4.out.b2.cellv (v:=.int .i64 0) 1 rfl
         have s1:=HF4.out.b2.frozen 1
         have r2:=HF4.out.b2.cellv (v:=.int .i64 0) 2 rfl
         have s2:=HF4.out.b2.frozen 2
         have r3:=HF4.out.b2.cellv (v:=.int .i64 0) 3 rfl
         have s3:=HF4.out.b2.frozen 3
         have r4:=HF4.out.b2.cellv (v:=.slice none 0 0) 4 rfl
         have s4:=HF4.out.b2.frozen 4
         have r5:=HF4.out.b2.cellv (v:=.slice none 0 0) 5 rfl
         have s5:=HF4.out.b2.frozen 5
         go_wp2_with fail
         obtain ⟨m0,k0⟩:=M.out
         obtain ⟨V5,hV5⟩:=HF4.out.sc
         have b2:=HF4.out.b2
         refine bodyPost_ret (res11 _ _ (g1+1) _ _ _ _ _ _ rfl m0) rfl ⟨⟨_,rfl,_,_,V5,rfl,?_,?_⟩,?_⟩
         ·show LvW _ _ _ RL
          rw [HFL.out.1,HBB1.out,HBB2.out]
          exact LvW.off HF4.out.lv k0 (off_blk b2 (by decide))
         ·show ScW _ _ _ RS V5
          rw [HFL.out.2,HBB3.out,HBB4.out]
          exact ScW.off hV5 k0 (off_blk b2 (by decide)) (off_blk b2 (by decide)) (off_blk b2 (by decide))
         ·exact HF4.out.bel.trans (k0.below HF4.out.bel.size (fun t ht=>by have:=HG1.out;omega))
end Go.Proofs.YthkdbphgiobcdaaGreatDoor
