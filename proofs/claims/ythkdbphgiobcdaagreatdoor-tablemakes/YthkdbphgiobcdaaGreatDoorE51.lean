/-
  The fixed answer of layer 14: what Make makes of nothing.
  Worlds that were only drawn from;seven cells of a table;the error of a table.
  The walk of 'TableMakes'.
-/
import Derived.Test.YthkdbphgiobcdaaGreatDoorE28
import Derived.Test.YthkdbphgiobcdaaGreatDoorE17
import Derived.BigQuiet
import Derived.Laws.Cover1
import Derived.Test.YthkdbphgiobcdaaGreatDoorE50
import Derived.Test.YthkdbphgiobcdaaGreatDoorE42
namespace Go.Proofs.YthkdbphgiobcdaaGreatDoor
open Go.RowKit
def cfT:Cf:=⟨100,10,100,10,[lvY,lvX],[scX,scY]⟩
theorem fill0:fillC cf0=⟨100,10,100,10,[lvX,lvY],[scX,scY]⟩:=rfl
theorem tbl0:tblC cf0=cfT:=by
 unfold tblC
 rw [fill0]
 have e1:srtB ltL [lvX,lvY]=[lvY,lvX]:=by kernel_rfl
 have e2:srtB ltS [scX,scY]=[scX,scY]:=by kernel_rfl
 show (⟨100,10,100,10,srtB ltL [lvX,lvY],srtB ltS [scX,scY]⟩:Cf)=_
 rw [e1,e2]
 rfl
theorem chk_t:(chk ⟨100,10,100,10,[lvX,lvY],[scX,scY]⟩).1=0:=by kernel_rfl
theorem prE_t:printE cfT=0:=by
 have e1:formed cfT=true:=by kernel_rfl
 have e2:(decide (65536<(outB cfT).size))=false:=by kernel_rfl
 unfold printE
 rw [if_pos e1,if_neg (of_decide_eq_false e2)]
theorem mkE0:mkE cf0=(0,⟨#[]⟩):=by
 unfold mkE
 rw [fill0,if_pos chk_t,tbl0,prE_t]
theorem mkC0:mkC cf0=cfT:=by
 unfold mkC
 rw [mkE0,if_pos rfl,tbl0]
theorem sum_t:(Fn.sum (outB cfT) == 0)=false:=by decide +kernel
theorem mkD0:mkD cf0=Fn.sum (outB cfT):=by
 unfold mkD
 rw [mkE0,if_pos rfl,tbl0]
theorem bnd0:Bnd 900 cf0:=⟨Nat.zero_le _,Nat.zero_le _,fun s hs=>absurd hs (by intro h;cases h)⟩
set_option maxRecDepth 20000 in
set_option maxHeartbeats 4000000 in
theorem awake_ok (w:World) (hT:Tab w):Calls Tryz.prog 7 #[] w fun e w'=>e=.returned (.bool true)∧Below w.heap.size w w':=by
 have K:=make_ok _ cf0 w (cf0_r w) bnd0 hT
 have HS:Hd (Fn.sum (outB cfT)≠0):=⟨by have:=sum_t;simpa using this⟩
 clear hT
 go_enter Tryz.func7,Tryz.ntmps7
 go_wp2_with fail
 go_at_call 10
 refine K.mono ?_
 rintro e w1 ⟨⟨vL,vS,rfl,hR⟩,b1⟩
 rw [mkC0] at hR
 rw [mkE0,errV_nil,mkD0,mkC0]
 obtain ⟨aL,cL,aS,cS,V,ev,-,-,hL,-,-,-⟩:=hR.ex
 cases ev
 obtain ⟨b,off,rfl,hb,hc⟩:=hL (by decide)
 have n0:w1.cell? ⟨b,off,none⟩=some (.string ⟨#[99,97,116,99,104,45,97,108,108]⟩):=by
  have:=hc 0 (by decide) 0 (by decide)
  rw [Nat.zero_mul,Nat.add_zero] at this
  exact this
 have ln:cfT.levels.length=2:=rfl
 have ls:cfT.schemas.length=2:=rfl
 rw [ln,ls]
 have hd:=HS.out
 generalize Fn.sum (outB cfT)=dg at *
 have hd':(((dg:Nat):Int) != 0)=true:=by simpa using hd
 clear K hL hc hR ln ls hd HS
 have A1:=(b1.trans ((alloc_below w1 (.cells #[.int .i64 cfT.total,.int .i64 cfT.period,.int .i64 cfT.perSeat,.int .i64 cfT.most,.slice (some ⟨b,off,none⟩) 2 cL,.slice aS 2 cS,.int .u64 dg] 31)).mono b1.size))
 have HA:Hd _:=⟨A1⟩
 clear A1 b1
 go_wp2_with fail
 go_ret
 exact ⟨rfl,HA.out⟩
theorem Blk.seven {w:World} {b t:Nat} {v0 v1 v2 v3 v4 v5 v6:Value} (h:Blk w b t #[v0,v1,v2,v3,v4,v5,v6]) :
  w.cell? ⟨b,0,none⟩=some v0∧w.cell? ⟨b,1,none⟩=some v1∧w.cell? ⟨b,2,none⟩=some v2∧w.cell? ⟨b,3,none⟩=some v3∧w.cell? ⟨b,4,none⟩=some v4∧w.cell? ⟨b,5,none⟩=some v5∧w.cell? ⟨b,6,none⟩=some v6 :=
 ⟨h.cellv 0 rfl,h.cellv 1 rfl,h.cellv 2 rfl,h.cellv 3 rfl,h.cellv 4 rfl,h.cellv 5 rfl,h.cellv 6 rfl⟩
theorem errV_zero {p:Int × ByteArray} (h:p.1=0):errV p=.nilIface:=if_pos h
theorem beq_self (x:ByteArray):(x.toList == x.toList)=true:=by simp
theorem mkE_txt {C:Cf} (h:(mkE C).1=0):mkE C=(0,⟨#[]⟩):=by
 obtain ⟨p,q⟩:=mkE_ok h
 unfold mkE
 rw [if_pos (chk_zero.2 p),q]
set_option maxRecDepth 20000 in
set_option maxHeartbeats 16000000 in
theorem makes_ok (v:Value) (C:Cf) (w:World) (h:CfR w v C) (g:Wfc C) (he:ET w) (hT:Tab w):Calls Tryz.prog 3 #[v] w fun e w'=>e=.returned (.bool true)∧Below w.heap.size w w':=by
 have HC:Hd (∀ W,Below w.heap.size w W→CfR W v C):=⟨fun W b=>h.carry b⟩
 have HW:Hd (Wfc C):=⟨g⟩
 have HT:Hd (Tab w):=⟨hT⟩
 have HET:Hd (ET w):=⟨he⟩
 have HFit:Hd (Fits C):=⟨h.fits⟩
 obtain ⟨aL,cL,aS,cS,V,rfl,-,-,-,-,-,-⟩:=h.ex
 clear h hT g he
 obtain ⟨nL,hnL⟩:∃ n,n=C.levels.length:=⟨_,rfl⟩
 obtain ⟨nS,hnS⟩:∃ n,n=C.schemas.length:=⟨_,rfl⟩
 rw [←hnL,← hnS] at HC ⊢
 have HNN:Hd (nL=C.levels.length∧nS=C.schemas.length):=⟨hnL,hnS⟩
 clear hnL hnS
 obtain ⟨x0,hx0⟩:∃ n,n=C.total:=⟨_,rfl⟩
 obtain ⟨x1,hx1⟩:∃ n,n=C.period:=⟨_,rfl⟩
 obtain ⟨x2,hx2⟩:∃ n,n=C.perSeat:=⟨_,rfl⟩
 obtain ⟨x3,hx3⟩:∃ n,n=C.most:=⟨_,rfl⟩
 rw [←hx0,← hx1,← hx2,← hx3] at HC ⊢
 have HX:Hd (x0=C.total∧x1=C.period∧x2=C.perSeat∧x3=C.most):=⟨hx0,hx1,hx2,hx3⟩
 clear hx0 hx1 hx2 hx3
 have B0:Hd (Below w.heap.size w (w.alloc (.cells #[.int .i64 x0,.int .i64 x1,.int .i64 x2,.int .i64 x3,.slice aL nL cL,.slice aS nS cS] 25))):=⟨alloc_below w _⟩
 have F0:Hd (Blk (w.alloc (.cells #[.int .i64 x0,.int .i64 x1,.int .i64 x2,.int .i64 x3,.slice aL nL cL,.slice aS nS cS] 25)) w.heap.size 25 #[.int .i64 x0,.int .i64 x1,.int .i64 x2,.int .i64 x3,.slice aL nL cL,.slice aS nS cS]):=⟨Blk.new w 25 _⟩
 go_enter Tryz.func3,Tryz.ntmps3
 go_wp2_with fail
 generalize w.alloc _=w0 at *
 go_at_call 7
 refine (awake_ok w0 (HT.out.stays B0.out)).mono ?_
 rintro e w1 ⟨rfl,b1⟩
 have B1:Hd (Below w.heap.size w w1):=⟨B0.out.trans (b1.mono B0.out.size)⟩
 have F1:Hd (Blk w1 w.heap.size 25 _):=⟨F0.out.kept (Kept.of_below b1 (fun _=>False)) id⟩
 clear b1 B0 F0
 obtain ⟨⟨l0,l1,l2,l3,l4,l5⟩,-⟩:=F1.out.sixP
 go_wp2_with fail
 go_at_call 8
 refine (small_nm _ C w1 (HC.out w1 B1.out)).mono ?_
 rintro e w2 ⟨⟨b,rfl,hb⟩,b2⟩
 have B2:Hd (Below w.heap.size w w2):=⟨B1.out.trans (b2.mono B1.out.size)⟩
 have F2:Hd (Blk w2 w.heap.size 25 _):=⟨F1.out.kept (Kept.of_below b2 (fun _=>False)) id⟩
 clear l0 l1 l2 l3 l4 l5 b2 B1 F1
 obtain ⟨⟨l0,l1,l2,l3,l4,l5⟩,-⟩:=F2.out.sixP
 cases b with
 | false =>
  clear hb
  go_wp2_with fail
  go_ret
  exact ⟨rfl,B2.out⟩
 | true =>
  have HB:Hd (Bnd 80 C∧Nms C):=⟨hb rfl⟩
  clear hb
  go_wp2_with fail
  go_at_call 9
  refine (copy_ok _ C w2 (HC.out w2 B2.out) (HB.out.1.mono (by omega))).mono ?_
  rintro e w3 ⟨⟨v3,rfl,hcw⟩,b3⟩
  have hcr:=hcw.read HFit.out
  obtain ⟨bL,dL,bS,dS,V3,ev,-,-,-,-,-,-⟩:=hcr.ex
  subst ev
  rw [←HNN.out.1,← HNN.out.2,← HX.out.1,← HX.out.2.1,← HX.out.2.2.1,← HX.out.2.2.2] at hcr ⊢
  have A4:Below w3.heap.size w3 (w3.alloc (.cells #[.int .i64 x0,.int .i64 x1,.int .i64 x2,.int .i64 x3,.slice bL nL dL,.slice bS nS dS] 25)):=alloc_below w3 _
  have B4:Hd (Below w.heap.size w (w3.alloc (.cells #[.int .i64 x0,.int .i64 x1,.int .i64 x2,.int .i64 x3,.slice bL nL dL,.slice bS nS dS] 25))):=⟨(B2.out.trans (b3.mono B2.out.size)).trans (A4.mono (Nat.le_trans B2.out.size b3.size))⟩
  have M4:Hd (Blk (w3.alloc (.cells #[.int .i64 x0,.int .i64 x1,.int .i64 x2,.int .i64 x3,.slice bL nL dL,.slice bS nS dS] 25)) w3.heap.size 25 #[.int .i64 x0,.int .i64 x1,.int .i64 x2,.int .i64 x3,.slice bL nL dL,.slice bS nS dS]):=⟨Blk.new w3 25 _⟩
  have F4:Hd (Blk (w3.alloc (.cells #[.int .i64 x0,.int .i64 x1,.int .i64 x2,.int .i64 x3,.slice bL nL dL,.slice bS nS dS] 25)) w.heap.size 25 #[.int .i64 x0,.int .i64 x1,.int .i64 x2,.int .i64 x3,.slice aL nL cL,.slice aS nS cS]):=⟨(F2.out.kept (Kept.of_below b3 (fun _=>False)) id).kept (Kept.of_below A4 (fun _=>False)) id⟩
  have R4:Hd (CfR (w3.alloc (.cells #[.int .i64 x0,.int .i64 x1,.int .i64 x2,.int .i64 x3,.slice bL nL dL,.slice bS nS dS] 25)) (.agg #[.int .i64 x0,.int .i64 x1,.int .i64 x2,.int .i64 x3,.slice bL nL dL,.slice bS nS dS]) C):=⟨hcr.carry A4⟩
  clear l0 l1 l2 l3 l4 l5 hcw hcr b3 A4 B2 F2
  go_wp2_with fail
  generalize w3.alloc _=w4 at *
  generalize w3.heap.size=gm at *
  go_at_call 10
  refine (make_ok _ C w4 R4.out (HB.out.1.mono (by omega)) (HT.out.stays B4.out)).mono ?_
  rintro e w5 ⟨⟨vL1,vS1,rfl,hR5⟩,b5⟩
  obtain ⟨E,hE⟩:∃ E,E=mkC C:=⟨_,rfl⟩
  obtain ⟨dg,hdg⟩:∃ d,d=mkD C:=⟨_,rfl⟩
  rw [←hE] at hR5 ⊢
  rw [←hdg]
  have HED:Hd (E=mkC C∧dg=mkD C):=⟨hE,hdg⟩
  clear hE hdg
  obtain ⟨a1,b1,a2,b2,V5,ev,-,-,-,-,-,-⟩:=hR5.ex
  cases ev
  have b56:=b5.trans ((alloc_below w5 (.cells #[.int .i64 E.total,.int .i64 E.period,.int .i64 E.perSeat,.int .i64 E.most,.slice a1 E.levels.length b1,.slice a2 E.schemas.length b2,.int .u64 dg] 31)).mono b5.size)
  have B6:Hd (Below w.heap.size w (w5.alloc (.cells #[.int .i64 E.total,.int .i64 E.period,.int .i64 E.perSeat,.int .i64 E.most,.slice a1 E.levels.length b1,.slice a2 E.schemas.length b2,.int .u64 dg] 31))):=⟨B4.out.trans (b56.mono B4.out.size)⟩
  have NA6:Hd (Blk (w5.alloc (.cells #[.int .i64 E.total,.int .i64 E.period,.int .i64 E.perSeat,.int .i64 E.most,.slice a1 E.levels.length b1,.slice a2 E.schemas.length b2,.int .u64 dg] 31)) w5.heap.size 31 #[.int .i64 E.total,.int .i64 E.period,.int .i64 E.perSeat,.int .i64 E.most,.slice a1 E.levels.length b1,.slice a2 E.schemas.length b2,.int .u64 dg]):=⟨Blk.new w5 31 _⟩
  have RA6:Hd (CfR (w5.alloc (.cells #[.int .i64 E.total,.int .i64 E.period,.int .i64 E.perSeat,.int .i64 E.most,.slice a1 E.levels.length b1,.slice a2 E.schemas.length b2,.int .u64 dg] 31)) (.agg #[.int .i64 E.total,.int .i64 E.period,.int .i64 E.perSeat,.int .i64 E.most,.slice a1 E.levels.length b1,.slice a2 E.schemas.length b2]) E):=⟨hR5.carry (alloc_below w5 _)⟩
  have R6:Hd (CfR (w5.alloc (.cells #[.int .i64 E.total,.int .i64 E.period,.int .i64 E.perSeat,.int .i64 E.most,.slice a1 E.levels.length b1,.slice a2 E.schemas.length b2,.int .u64 dg] 31)) (.agg #[.int .i64 x0,.int .i64 x1,.int .i64 x2,.int .i64 x3,.slice bL nL dL,.slice bS nS dS]) C):=⟨R4.out.carry b56⟩
  have M6:Hd (Blk (w5.alloc (.cells #[.int .i64 E.total,.int .i64 E.period,.int .i64 E.perSeat,.int .i64 E.most,.slice a1 E.levels.length b1,.slice a2 E.schemas.length b2,.int .u64 dg] 31)) gm 25 #[.int .i64 x0,.int .i64 x1,.int .i64 x2,.int .i64 x3,.slice bL nL dL,.slice bS nS dS]):=⟨M4.out.kept (Kept.of_below b56 (fun _=>False)) id⟩
  have F6:Hd (Blk (w5.alloc (.cells #[.int .i64 E.total,.int .i64 E.period,.int .i64 E.perSeat,.int .i64 E.most,.slice a1 E.levels.length b1,.slice a2 E.schemas.length b2,.int .u64 dg] 31)) w.heap.size 25 #[.int .i64 x0,.int .i64 x1,.int .i64 x2,.int .i64 x3,.slice aL nL cL,.slice aS nS cS]):=⟨F4.out.kept (Kept.of_below b56 (fun _=>False)) id⟩
  clear b5 b56 hR5 B4 M4 F4 R4
  obtain ⟨⟨l0,l1,l2,l3,l4,l5⟩,-⟩:=F6.out.sixP
  by_cases hz:(mkE C).1=0
  ·rw [errV_zero hz]
   have HM:Hd (mkE C=(0,⟨#[]⟩)):=⟨mkE_txt hz⟩
   clear hz
   go_wp2_with fail
   generalize w5.alloc _=w6 at *
   generalize w5.heap.size=gA at *
   go_at_call 11
   refine (rmake_ok _ C w6 (HC.out w6 B6.out) HW.out HB.out.2 HB.out.1).mono ?_
   rintro e w7 ⟨⟨vL2,vS2,rfl,hR7⟩,b7⟩
   rw [←HED.out.1] at hR7
   rw [←HED.out.1,← HED.out.2,HM.out]
   obtain ⟨a3,b3,a4,b4,V7,ev,-,-,-,-,-,-⟩:=hR7.ex
   cases ev
   have b78:=b7.trans ((alloc_below w7 (.cells #[.int .i64 E.total,.int .i64 E.period,.int .i64 E.perSeat,.int .i64 E.most,.slice a3 E.levels.length b3,.slice a4 E.schemas.length b4,.int .u64 dg] 31)).mono b7.size)
   have B8:Hd (Below w.heap.size w (w7.alloc (.cells #[.int .i64 E.total,.int .i64 E.period,.int .i64 E.perSeat,.int .i64 E.most,.slice a3 E.levels.length b3,.slice a4 E.schemas.length b4,.int .u64 dg] 31))):=⟨B6.out.trans (b78.mono B6.out.size)⟩
   have NB:Hd (Blk (w7.alloc (.cells #[.int .i64 E.total,.int .i64 E.period,.int .i64 E.perSeat,.int .i64 E.most,.slice a3 E.levels.length b3,.slice a4 E.schemas.length b4,.int .u64 dg] 31)) w7.heap.size 31 #[.int .i64 E.total,.int .i64 E.period,.int .i64 E.perSeat,.int .i64 E.most,.slice a3 E.levels.length b3,.slice a4 E.schemas.length b4,.int .u64 dg]):=⟨Blk.new w7 31 _⟩
   have NA:Hd (Blk (w7.alloc (.cells #[.int .i64 E.total,.int .i64 E.period,.int .i64 E.perSeat,.int .i64 E.most,.slice a3 E.levels.length b3,.slice a4 E.schemas.length b4,.int .u64 dg] 31)) gA 31 #[.int .i64 E.total,.int .i64 E.period,.int .i64 E.perSeat,.int .i64 E.most,.slice a1 E.levels.length b1,.slice a2 E.schemas.length b2,.int .u64 dg]):=⟨NA6.out.kept (Kept.of_below b78 (fun _=>False)) id⟩
   have NM:Hd (Blk (w7.alloc (.cells #[.int .i64 E.total,.int .i64 E.period,.int .i64 E.perSeat,.int .i64 E.most,.slice a3 E.levels.length b3,.slice a4 E.schemas.length b4,.int .u64 dg] 31)) gm 25 #[.int .i64 x0,.int .i64 x1,.int .i64 x2,.int .i64 x3,.slice bL nL dL,.slice bS nS dS]):=⟨M6.out.kept (Kept.of_below b78 (fun _=>False)) id⟩
   have NC:Hd (Blk (w7.alloc (.cells #[.int .i64 E.total,.int .i64 E.period,.int .i64 E.perSeat,.int .i64 E.most,.slice a3 E.levels.length b3,.slice a4 E.schemas.length b4,.int .u64 dg] 31)) w.heap.size 25 #[.int .i64 x0,.int .i64 x1,.int .i64 x2,.int .i64 x3,.slice aL nL cL,.slice aS nS cS]):=⟨F6.out.kept (Kept.of_below b78 (fun _=>False)) id⟩
   have SM:Hd (∀ W,Below (w7.alloc (.cells #[.int .i64 E.total,.int .i64 E.period,.int .i64 E.perSeat,.int .i64 E.most,.slice a3 E.levels.length b3,.slice a4 E.schemas.length b4,.int .u64 dg] 31)).heap.size (w7.alloc (.cells #[.int .i64 E.total,.int .i64 E.period,.int .i64 E.perSeat,.int .i64 E.most,.slice a3 E.levels.length b3,.slice a4 E.schemas.length b4,.int .u64 dg] 31)) W→Calls Tryz.prog 14 #[.agg #[.int .i64 E.total,.int .i64 E.period,.int .i64 E.perSeat,.int .i64 E.most,.slice a1 E.levels.length b1,.slice a2 E.schemas.length b2],.agg #[.int .i64 E.total,.int .i64 E.period,.int .i64 E.perSeat,.int .i64 E.most,.slice a3 E.levels.length b3,.slice a4 E.schemas.length b4]] W fun e w'=>e=.returned (.bool true)∧Below W.heap.size W w'):=⟨fun W b=>same_cfr ((RA6.out.carry b78).carry b) ((hR7.carry (alloc_below w7 _)).carry b)⟩
   have SC:Hd (∀ W,Below (w7.alloc (.cells #[.int .i64 E.total,.int .i64 E.period,.int .i64 E.perSeat,.int .i64 E.most,.slice a3 E.levels.length b3,.slice a4 E.schemas.length b4,.int .u64 dg] 31)).heap.size (w7.alloc (.cells #[.int .i64 E.total,.int .i64 E.period,.int .i64 E.perSeat,.int .i64 E.most,.slice a3 E.levels.length b3,.slice a4 E.schemas.length b4,.int .u64 dg] 31)) W→Calls Tryz.prog 14 #[.agg #[.int .i64 x0,.int .i64 x1,.int .i64 x2,.int .i64 x3,.slice bL nL dL,.slice bS nS dS],.agg #[.int .i64 x0,.int .i64 x1,.int .i64 x2,.int .i64 x3,.slice aL nL cL,.slice aS nS cS]] W fun e w'=>e=.returned (.bool true)∧Below W.heap.size W w'):=⟨fun W b=>same_cfr ((R6.out.carry b78).carry b) (HC.out W (B8.out.trans (b.mono B8.out.size)))⟩
   have HETW:Hd (∀ W,Below (w7.alloc (.cells #[.int .i64 E.total,.int .i64 E.period,.int .i64 E.perSeat,.int .i64 E.most,.slice a3 E.levels.length b3,.slice a4 E.schemas.length b4,.int .u64 dg] 31)).heap.size (w7.alloc (.cells #[.int .i64 E.total,.int .i64 E.period,.int .i64 E.perSeat,.int .i64 E.most,.slice a3 E.levels.length b3,.slice a4 E.schemas.length b4,.int .u64 dg] 31)) W→ET W):=⟨fun W b=>ET.stays HET.out (B8.out.trans (b.mono B8.out.size))⟩
   have CD:Hd (∀ W,Below (w7.alloc (.cells #[.int .i64 E.total,.int .i64 E.period,.int .i64 E.perSeat,.int .i64 E.most,.slice a3 E.levels.length b3,.slice a4 E.schemas.length b4,.int .u64 dg] 31)).heap.size (w7.alloc (.cells #[.int .i64 E.total,.int .i64 E.period,.int .i64 E.perSeat,.int .i64 E.most,.slice a3 E.levels.length b3,.slice a4 E.schemas.length b4,.int .u64 dg] 31)) W→Calls Tryz.prog 12 #[.nilIface] W fun e w'=>e=.returned (.int .i64 0)∧Below W.heap.size W w'):=⟨fun W b=>by have:=code_err (mkE C) W (HETW.out W b);rw [HM.out,errV_nil] at this;exact this⟩
   have WH:Hd (∀ W,Below (w7.alloc (.cells #[.int .i64 E.total,.int .i64 E.period,.int .i64 E.perSeat,.int .i64 E.most,.slice a3 E.levels.length b3,.slice a4 E.schemas.length b4,.int .u64 dg] 31)).heap.size (w7.alloc (.cells #[.int .i64 E.total,.int .i64 E.period,.int .i64 E.perSeat,.int .i64 E.most,.slice a3 E.levels.length b3,.slice a4 E.schemas.length b4,.int .u64 dg] 31)) W→Calls Tryz.prog 13 #[.nilIface] W fun e w'=>e=.returned (.string ⟨#[]⟩)∧Below W.heap.size W w'):=⟨fun W b=>by have:=what_err (mkE C) W (HETW.out W b) (fun h=>mkE_txt h);rw [HM.out,errV_nil] at this;exact this⟩
   clear HETW
   clear l0 l1 l2 l3 l4 l5 b7 b78 hR7 B6 NA6 RA6 R6 M6 F6 HC HW HT HFit HB HNN HX HED HET
   go_upto_region 8 with fail
   generalize w7.alloc _=w8 at *
   generalize w7.heap.size=gB at *
   have e0:=beq_self ⟨#[]⟩
   go_wp2_with fail
   go_at_call 12
   refine (CD.out _ (Below.refl _ _)).mono ?_
   rintro e wa ⟨rfl,ba⟩
   have Ta:=(Below.refl w8.heap.size w8).trans ba
   go_wp2_with fail
   go_at_call 13
   refine (WH.out _ Ta).mono ?_
   rintro e wb ⟨rfl,bb⟩
   have Tb:=Ta.trans (bb.mono Ta.size)
   obtain ⟨y0,y1,y2,y3,y4,y5,y6⟩:=(NA.out.kept (Kept.of_below Tb (fun _=>False)) id).seven
   obtain ⟨z0,z1,z2,z3,z4,z5,z6⟩:=(NB.out.kept (Kept.of_below Tb (fun _=>False)) id).seven
   clear ba bb Ta
   go_wp2_with fail
   go_at_call 14
   refine (SM.out _ Tb).mono ?_
   rintro e wc ⟨rfl,bc⟩
   have Tc:=Tb.trans (bc.mono Tb.size)
   clear y0 y1 y2 y3 y4 y5 y6 z0 z1 z2 z3 z4 z5 z6
   obtain ⟨y0,y1,y2,y3,y4,y5,y6⟩:=(NA.out.kept (Kept.of_below Tc (fun _=>False)) id).seven
   obtain ⟨z0,z1,z2,z3,z4,z5,z6⟩:=(NB.out.kept (Kept.of_below Tc (fun _=>False)) id).seven
   obtain ⟨⟨c0,c1,c2,c3,c4,c5⟩,-⟩:=(NC.out.kept (Kept.of_below Tc (fun _=>False)) id).sixP
   obtain ⟨⟨m0,m1,m2,m3,m4,m5⟩,-⟩:=(NM.out.kept (Kept.of_below Tc (fun _=>False)) id).sixP
   clear bc Tb
   go_wp2_with fail
   go_at_call 14
   refine (SC.out _ Tc).mono ?_
   rintro e wd ⟨rfl,bd⟩
   have BF:Hd (Below w.heap.size w wd):=⟨B8.out.trans ((Tc.trans (bd.mono Tc.size)).mono B8.out.size)⟩
   clear y0 y1 y2 y3 y4 y5 y6 z0 z1 z2 z3 z4 z5 z6 c0 c1 c2 c3 c4 c5 m0 m1 m2 m3 m4 m5 bd Tc
   go_wp2_with fail
   go_ret
   exact ⟨rfl,BF.out⟩
  ·obtain ⟨q,hq,hq'⟩:=errV_two (mkE C)
   rw [←hq]
   have HQ:Hd (q=errV (mkE C)):=⟨hq⟩
   have hzn:((mkE C).1 == 0)=false:=by rw [beq_eq_false_iff_ne];exact hz
   rcases hq' with ⟨-,h0⟩ | ⟨sa,sb,rfl,-⟩
   ·exact absurd h0 hz
   clear hq
   go_wp2_with fail
   generalize w5.alloc _=w6 at *
   generalize w5.heap.size=gA at *
   go_at_call 11
   refine (rmake_ok _ C w6 (HC.out w6 B6.out) HW.out HB.out.2 HB.out.1).mono ?_
   rintro e w7 ⟨⟨vL2,vS2,rfl,hR7⟩,b7⟩
   rw [←HED.out.1] at hR7
   rw [←HED.out.1,← HED.out.2]
   obtain ⟨a3,b3,a4,b4,V7,ev,-,-,-,-,-,-⟩:=hR7.ex
   cases ev
   have b78:=b7.trans ((alloc_below w7 (.cells #[.int .i64 E.total,.int .i64 E.period,.int .i64 E.perSeat,.int .i64 E.most,.slice a3 E.levels.length b3,.slice a4 E.schemas.length b4,.int .u64 dg] 31)).mono b7.size)
   have B8:Hd (Below w.heap.size w (w7.alloc (.cells #[.int .i64 E.total,.int .i64 E.period,.int .i64 E.perSeat,.int .i64 E.most,.slice a3 E.levels.length b3,.slice a4 E.schemas.length b4,.int .u64 dg] 31))):=⟨B6.out.trans (b78.mono B6.out.size)⟩
   have NB:Hd (Blk (w7.alloc (.cells #[.int .i64 E.total,.int .i64 E.period,.int .i64 E.perSeat,.int .i64 E.most,.slice a3 E.levels.length b3,.slice a4 E.schemas.length b4,.int .u64 dg] 31)) w7.heap.size 31 #[.int .i64 E.total,.int .i64 E.period,.int .i64 E.perSeat,.int .i64 E.most,.slice a3 E.levels.length b3,.slice a4 E.schemas.length b4,.int .u64 dg]):=⟨Blk.new w7 31 _⟩
   have NA:Hd (Blk (w7.alloc (.cells #[.int .i64 E.total,.int .i64 E.period,.int .i64 E.perSeat,.int .i64 E.most,.slice a3 E.levels.length b3,.slice a4 E.schemas.length b4,.int .u64 dg] 31)) gA 31 #[.int .i64 E.total,.int .i64 E.period,.int .i64 E.perSeat,.int .i64 E.most,.slice a1 E.levels.length b1,.slice a2 E.schemas.length b2,.int .u64 dg]):=⟨NA6.out.kept (Kept.of_below b78 (fun _=>False)) id⟩
   have NM:Hd (Blk (w7.alloc (.cells #[.int .i64 E.total,.int .i64 E.period,.int .i64 E.perSeat,.int .i64 E.most,.slice a3 E.levels.length b3,.slice a4 E.schemas.length b4,.int .u64 dg] 31)) gm 25 #[.int .i64 x0,.int .i64 x1,.int .i64 x2,.int .i64 x3,.slice bL nL dL,.slice bS nS dS]):=⟨M6.out.kept (Kept.of_below b78 (fun _=>False)) id⟩
   have NC:Hd (Blk (w7.alloc (.cells #[.int .i64 E.total,.int .i64 E.period,.int .i64 E.perSeat,.int .i64 E.most,.slice a3 E.levels.length b3,.slice a4 E.schemas.length b4,.int .u64 dg] 31)) w.heap.size 25 #[.int .i64 x0,.int .i64 x1,.int .i64 x2,.int .i64 x3,.slice aL nL cL,.slice aS nS cS]):=⟨F6.out.kept (Kept.of_below b78 (fun _=>False)) id⟩
   have SM:Hd (∀ W,Below (w7.alloc (.cells #[.int .i64 E.total,.int .i64 E.period,.int .i64 E.perSeat,.int .i64 E.most,.slice a3 E.levels.length b3,.slice a4 E.schemas.length b4,.int .u64 dg] 31)).heap.size (w7.alloc (.cells #[.int .i64 E.total,.int .i64 E.period,.int .i64 E.perSeat,.int .i64 E.most,.slice a3 E.levels.length b3,.slice a4 E.schemas.length b4,.int .u64 dg] 31)) W→Calls Tryz.prog 14 #[.agg #[.int .i64 E.total,.int .i64 E.period,.int .i64 E.perSeat,.int .i64 E.most,.slice a1 E.levels.length b1,.slice a2 E.schemas.length b2],.agg #[.int .i64 E.total,.int .i64 E.period,.int .i64 E.perSeat,.int .i64 E.most,.slice a3 E.levels.length b3,.slice a4 E.schemas.length b4]] W fun e w'=>e=.returned (.bool true)∧Below W.heap.size W w'):=⟨fun W b=>same_cfr ((RA6.out.carry b78).carry b) ((hR7.carry (alloc_below w7 _)).carry b)⟩
   have SC:Hd (∀ W,Below (w7.alloc (.cells #[.int .i64 E.total,.int .i64 E.period,.int .i64 E.perSeat,.int .i64 E.most,.slice a3 E.levels.length b3,.slice a4 E.schemas.length b4,.int .u64 dg] 31)).heap.size (w7.alloc (.cells #[.int .i64 E.total,.int .i64 E.period,.int .i64 E.perSeat,.int .i64 E.most,.slice a3 E.levels.length b3,.slice a4 E.schemas.length b4,.int .u64 dg] 31)) W→Calls Tryz.prog 14 #[.agg #[.int .i64 x0,.int .i64 x1,.int .i64 x2,.int .i64 x3,.slice bL nL dL,.slice bS nS dS],.agg #[.int .i64 x0,.int .i64 x1,.int .i64 x2,.int .i64 x3,.slice aL nL cL,.slice aS nS cS]] W fun e w'=>e=.returned (.bool true)∧Below W.heap.size W w'):=⟨fun W b=>same_cfr ((R6.out.carry b78).carry b) (HC.out W (B8.out.trans (b.mono B8.out.size)))⟩
   have HETW:Hd (∀ W,Below (w7.alloc (.cells #[.int .i64 E.total,.int .i64 E.period,.int .i64 E.perSeat,.int .i64 E.most,.slice a3 E.levels.length b3,.slice a4 E.schemas.length b4,.int .u64 dg] 31)).heap.size (w7.alloc (.cells #[.int .i64 E.total,.int .i64 E.period,.int .i64 E.perSeat,.int .i64 E.most,.slice a3 E.levels.length b3,.slice a4 E.schemas.length b4,.int .u64 dg] 31)) W→ET W):=⟨fun W b=>ET.stays HET.out (B8.out.trans (b.mono B8.out.size))⟩
   have CD:Hd (∀ W,Below (w7.alloc (.cells #[.int .i64 E.total,.int .i64 E.period,.int .i64 E.perSeat,.int .i64 E.most,.slice a3 E.levels.length b3,.slice a4 E.schemas.length b4,.int .u64 dg] 31)).heap.size (w7.alloc (.cells #[.int .i64 E.total,.int .i64 E.period,.int .i64 E.perSeat,.int .i64 E.most,.slice a3 E.levels.length b3,.slice a4 E.schemas.length b4,.int .u64 dg] 31)) W→Calls Tryz.prog 12 #[.iface 74 (.agg #[.int .i64 0,.string sa,.iface 38 (.int .i64 sb)])] W fun e w'=>e=.returned (.int .i64 (mkE C).1)∧Below W.heap.size W w'):=⟨fun W b=>by have:=code_err (mkE C) W (HETW.out W b);rw [←HQ.out] at this;exact this⟩
   have WH:Hd (∀ W,Below (w7.alloc (.cells #[.int .i64 E.total,.int .i64 E.period,.int .i64 E.perSeat,.int .i64 E.most,.slice a3 E.levels.length b3,.slice a4 E.schemas.length b4,.int .u64 dg] 31)).heap.size (w7.alloc (.cells #[.int .i64 E.total,.int .i64 E.period,.int .i64 E.perSeat,.int .i64 E.most,.slice a3 E.levels.length b3,.slice a4 E.schemas.length b4,.int .u64 dg] 31)) W→Calls Tryz.prog 13 #[.iface 74 (.agg #[.int .i64 0,.string sa,.iface 38 (.int .i64 sb)])] W fun e w'=>e=.returned (.string (mkE C).2)∧Below W.heap.size W w'):=⟨fun W b=>by have:=what_err (mkE C) W (HETW.out W b) (fun h=>mkE_txt h);rw [←HQ.out] at this;exact this⟩
   clear HETW
   clear l0 l1 l2 l3 l4 l5 b7 b78 hR7 B6 NA6 RA6 R6 M6 F6 HC HW HT HFit HB HNN HX HED HET
   go_upto_region 8 with fail
   generalize w7.alloc _=w8 at *
   generalize w7.heap.size=gB at *
   generalize (mkE C).1=en at *
   generalize (mkE C).2=et at *
   have e0:=beq_self et
   go_wp2_with fail
   go_at_call 12
   refine (CD.out _ (Below.refl _ _)).mono ?_
   rintro e wa ⟨rfl,ba⟩
   have Ta:=(Below.refl w8.heap.size w8).trans ba
   go_wp2_with fail
   go_at_call 13
   refine (WH.out _ Ta).mono ?_
   rintro e wb ⟨rfl,bb⟩
   have Tb:=Ta.trans (bb.mono Ta.size)
   obtain ⟨y0,y1,y2,y3,y4,y5,y6⟩:=(NA.out.kept (Kept.of_below Tb (fun _=>False)) id).seven
   obtain ⟨z0,z1,z2,z3,z4,z5,z6⟩:=(NB.out.kept (Kept.of_below Tb (fun _=>False)) id).seven
   clear ba bb Ta
   go_wp2_with fail
   go_at_call 14
   refine (SM.out _ Tb).mono ?_
   rintro e wc ⟨rfl,bc⟩
   have Tc:=Tb.trans (bc.mono Tb.size)
   clear y0 y1 y2 y3 y4 y5 y6 z0 z1 z2 z3 z4 z5 z6
   obtain ⟨y0,y1,y2,y3,y4,y5,y6⟩:=(NA.out.kept (Kept.of_below Tc (fun _=>False)) id).seven
   obtain ⟨z0,z1,z2,z3,z4,z5,z6⟩:=(NB.out.kept (Kept.of_below Tc (fun _=>False)) id).seven
   obtain ⟨⟨c0,c1,c2,c3,c4,c5⟩,-⟩:=(NC.out.kept (Kept.of_below Tc (fun _=>False)) id).sixP
   obtain ⟨⟨m0,m1,m2,m3,m4,m5⟩,-⟩:=(NM.out.kept (Kept.of_below Tc (fun _=>False)) id).sixP
   clear bc Tb
   go_wp2_with fail
   go_at_call 14
   refine (SC.out _ Tc).mono ?_
   rintro e wd ⟨rfl,bd⟩
   have BF:Hd (Below w.heap.size w wd):=⟨B8.out.trans ((Tc.trans (bd.mono Tc.size)).mono B8.out.size)⟩
   clear y0 y1 y2 y3 y4 y5 y6 z0 z1 z2 z3 z4 z5 z6 c0 c1 c2 c3 c4 c5 m0 m1 m2 m3 m4 m5 bd Tc
   go_wp2_with fail
   go_ret
   exact ⟨rfl,BF.out⟩
end Go.Proofs.YthkdbphgiobcdaaGreatDoor
