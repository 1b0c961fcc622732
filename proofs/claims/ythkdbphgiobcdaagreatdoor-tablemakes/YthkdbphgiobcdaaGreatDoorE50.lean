/-
  What the reference's 'Make' answers.
-/
import Derived.Test.YthkdbphgiobcdaaGreatDoorE26
import Derived.Test.YthkdbphgiobcdaaGreatDoorE28
import Derived.Test.YthkdbphgiobcdaaGreatDoorE29
import Derived.Test.YthkdbphgiobcdaaGreatDoorE48
import Derived.Test.YthkdbphgiobcdaaGreatDoorE49
import Derived.BigQuiet
import Derived.Test.YthkdbphgiobcdaaGreatDoorE8
namespace Go.Proofs.YthkdbphgiobcdaaGreatDoor
open Go.RowKit
structure Iv (w:World) (B gd gR gL gS:Nat) (d6:Array Value) (nL nS:Nat) (P0:List (Sc × Value)) (W:World) (M:List Lv) (P:List (Sc × Value)):Prop where
 b:Below w.heap.size w W
 d:Blk W gd 25 d6
 r:Blk W gR 31 #[.int .i64 0,.int .i64 0,.int .i64 0,.int .i64 0,.slice none 0 0,.slice none 0 0,.int .u64 0]
 l:Wr W gL 43 10 nL nL (lvF M)
 s:Wr W gS 47 5 nS nS (scG P)
 rl:∀ p∈P0,RlW B W p.2 p.1.rules
section
variable {w W W':World} {B gd gR gL gS:Nat} {d6:Array Value} {nL nS:Nat} {P0 P P':List (Sc × Value)} {M M':List Lv}
theorem Iv.drew (h:Iv w B gd gR gL gS d6 nL nS P0 W M P) (n:Nat):Iv w B gd gR gL gS d6 nL nS P0 (W.drewN n) M P :=
 ⟨h.b.trans ⟨rfl,rfl,rfl,Nat.le_refl _,fun _ _=>rfl⟩,h.d,h.r,h.l,h.s,fun p hp=>(h.rl p hp).off (S:=fun _=>False) ⟨rfl,rfl,rfl,Nat.le_refl _,fun _ _ _=>rfl⟩ (Off.none _ _) (Off.none _ _)⟩
theorem Iv.grown (h:Iv w B gd gR gL gS d6 nL nS P0 W M P) (b:Below W.heap.size W W'):Iv w B gd gR gL gS d6 nL nS P0 W' M P:=by
 have K:=Kept.of_below b (fun _=>False)
 exact ⟨h.b.trans (b.mono h.b.size),h.d.kept K id,h.r.kept K id,h.l.kept K id,h.s.kept K id,fun p hp=>(h.rl p hp).off K (Off.none _ _) (Off.none _ _)⟩
theorem Iv.drew1 (h:Iv w B gd gR gL gS d6 nL nS P0 W M P):Iv w B gd gR gL gS d6 nL nS P0 W.drew M P :=
 ⟨h.b.trans ⟨rfl,rfl,rfl,Nat.le_refl _,fun _ _=>rfl⟩,h.d,h.r,h.l,h.s,fun p hp=>(h.rl p hp).off (S:=fun _=>False) ⟨rfl,rfl,rfl,Nat.le_refl _,fun _ _ _=>rfl⟩ (Off.none _ _) (Off.none _ _)⟩
theorem Iv.putL (h:Iv w B gd gR gL gS d6 nL nS P0 W M P) (hB:w.heap.size≤gL) (k:Kept (fun b=>b=gL) W W') (wl:Wr W' gL 43 10 nL nL (lvF M')):Iv w B gd gR gL gS d6 nL nS P0 W' M' P :=
 ⟨h.b.trans (k.below h.b.size (fun j hj=>by rw [hj];exact hB)),h.d.kept k (h.l.off (by decide) gd _ h.d),h.r.kept k (h.l.off (by decide) gR _ h.r),wl,by
  obtain ⟨cur,hb,h1,h2⟩:=h.s
  exact ⟨cur,hb.kept k (h.l.off (by decide) gS cur hb),h1,h2⟩,fun p hp=>(h.rl p hp).off k (h.l.off (by decide)) (h.l.off (by decide))⟩
theorem Iv.putS (h:Iv w B gd gR gL gS d6 nL nS P0 W M P) (hB:w.heap.size≤gS) (k:Kept (fun b=>b=gS) W W') (ws:Wr W' gS 47 5 nS nS (scG P')):Iv w B gd gR gL gS d6 nL nS P0 W' M P' :=
 ⟨h.b.trans (k.below h.b.size (fun j hj=>by rw [hj];exact hB)),h.d.kept k (h.s.off (by decide) gd _ h.d),h.r.kept k (h.s.off (by decide) gR _ h.r),by
  obtain ⟨cur,hb,h1,h2⟩:=h.l
  exact ⟨cur,hb.kept k (h.s.off (by decide) gL cur hb),h1,h2⟩,ws,fun p hp=>(h.rl p hp).off k (h.s.off (by decide)) (h.s.off (by decide))⟩
end
theorem res11m (tmps:Array Value) (w:World) (r0:Nat) (v0 v1 v2 v3 v4 v5 v6 q u:Value) (ht:tmps[2]?.getD undef=.pointer (some ⟨r0,0,none⟩)) (hq:tmps[3]?.getD undef=q) (hu:tmps[4]?.getD undef=u) (h:Blk w r0 31 #[v0,v1,v2,v3,v4,v5,v6]) :
  (results Tryz.f11 tmps).run Tryz.prog w=.ok (.tuple #[.agg #[v0,v1,v2,v3,v4,v5,v6],q,u]) w:=by
 have c0:=h.cellv 0 rfl
 have c1:=h.cellv 1 rfl
 have c2:=h.cellv 2 rfl
 have c3:=h.cellv 3 rfl
 have c4:=h.cellv 4 rfl
 have c5:=h.cellv 5 rfl
 have c6:=h.cellv 6 rfl
 simp at c0 c1 c2 c3 c4 c5 c6
 simp [results,Tryz.results11,go_sem,ht,hq,hu,c0,c1,c2,c3,c4,c5,c6]
theorem Wr.offk {w w':World} {g t z n i:Nat} {F:Nat→List Value} {S:Nat→Prop} (h:Wr w g t z n i F) (k:Kept S w w') (o:Off t S w):Wr w' g t z n i F:=by
 obtain ⟨cur,hb,h1,h2⟩:=h
 exact ⟨cur,hb.kept k (o g cur hb),h1,h2⟩
theorem cfr_of {B gL gS nL nS cL cS:Nat} {W:World} {M:List Lv} {P P0:List (Sc × Value)} {x0 x1 x2 x3:Int} (l:Wr W gL 43 10 nL nL (lvF M)) (s:Wr W gS 47 5 nS nS (scG P)) (rl:∀ p∈P0,RlW B W p.2 p.1.rules) (hM:nL=M.length) (hP:nS=P.length) (pP:P.Perm P0)
  (f:Fits ⟨x0,x1,x2,x3,M,P.map (·.1)⟩) (hc:nL≤cL∧nS≤cS):CfR W (.agg #[.int .i64 x0,.int .i64 x1,.int .i64 x2,.int .i64 x3,.slice (some ⟨gL,0,none⟩) nL cL,.slice (some ⟨gS,0,none⟩) nS cS]) ⟨x0,x1,x2,x3,M,P.map (·.1)⟩:=by
 have e:scG P=scF (P.map (·.1)) (P.map (·.2)):=funext (scG_scF P)
 rw [e] at s
 have hP':nS=(P.map (·.1)).length:=by rw [List.length_map];exact hP
 refine ⟨f.sz,f.nm,some ⟨gL,0,none⟩,cL,some ⟨gS,0,none⟩,cS,P.map (·.2),?_,?_,?_,l.lvr hM,?_,s.scr hP',fun k h1 h2=>?_⟩
 ·show _=Value.agg #[_,_,_,_,.slice (some ⟨gL,0,none⟩) M.length cL,.slice (some ⟨gS,0,none⟩) (P.map (·.1)).length cS]
  rw [←hM,← hP']
 ·show M.length≤cL;omega
 ·show (P.map (·.1)).length≤cS;omega
 ·show (P.map (·.2)).length=(P.map (·.1)).length;rw [List.length_map,List.length_map]
 ·have hk:k<P.length:=by
   have h1':k<(P.map (·.1)).length:=h1
   rw [List.length_map] at h1';exact h1'
  have fr:=f.rl P[k].1 (List.mem_map.2 ⟨P[k],List.getElem_mem hk,rfl⟩)
  have:=(rl P[k] (pP.mem_iff.1 (List.getElem_mem hk))).read fr.1 fr.2
  simp only [List.getElem_map]
  exact this
theorem Wfc.turn {C:Cf} (h:Wfc C) {L:List Lv} {S:List Sc} (hL:L.Perm C.levels) (hS:S.Perm C.schemas):Wfc ⟨C.total,C.period,C.perSeat,C.most,L,S⟩ :=
 ⟨h.t,h.p,h.s,h.m,fun l hl=>h.lv l (hL.mem_iff.1 hl),fun s hs=>h.sc s (hS.mem_iff.1 hs)⟩
theorem Nms.turn {C:Cf} (h:Nms C) {L:List Lv} {S:List Sc} (hL:L.Perm C.levels) (hS:S.Perm C.schemas):Nms ⟨C.total,C.period,C.perSeat,C.most,L,S⟩ :=
 ⟨fun l hl=>h.lv l (hL.mem_iff.1 hl),fun s hs=>h.sc s (hS.mem_iff.1 hs)⟩
structure Rk (w:World) (C:Cf) (e:Ending) (w':World):Prop where
 ex:∃ vL vS,e=.returned (.tuple #[.agg #[.int .i64 (mkC C).total,.int .i64 (mkC C).period,.int .i64 (mkC C).perSeat,.int .i64 (mkC C).most,vL,vS,.int .u64 (mkD C:Nat)],.int .i64 (mkE C).1,.string (mkE C).2])∧CfR w' (.agg #[.int .i64 (mkC C).total,.int .i64 (mkC C).period,.int .i64 (mkC C).perSeat,.int .i64 (mkC C).most,vL,vS]) (mkC C)
 bel:Below w.heap.size w w'
set_option maxRecDepth 20000 in
set_option maxHeartbeats 32000000 in
theorem rmake_ok (v:Value) (C:Cf) (w:World) (h:CfR w v C) (g:Wfc C) (nm:Nms C) (hb:Bnd 80 C):Calls Tryz.prog 11 #[v] w fun e w'=>Rk w C e w':=by
 have HF:Hd (∀ W,Below w.heap.size w W→Calls Tryz.prog 27 #[v] W fun e w'=>FCf W (fillC C) e w'):=⟨fun W b=>refFill_ok v C W (h.carry b) (hb.mono (by omega))⟩
 have HFit:Hd (Fits (fillC C)):=⟨fillC_fits h.fits hb (by omega)⟩
 have HB:Hd (Bnd 82 (fillC C)):=⟨fillC_bnd hb⟩
 have HG:Hd (Wfc (fillC C)∧Nms (fillC C)):=⟨g.fill,nm.fill⟩
 have HP:Hd (0<(fillC C).levels.length∧0<(fillC C).schemas.length):=⟨fillL_pos _,fillS_pos _⟩
 obtain ⟨aL,kL,aS,kS,V,rfl,-,-,-,-,-,-⟩:=h.ex
 clear h hb g nm
 have HD:Hd (mkE C=(if (chk (fillC C)).1=0 then (printE (tblC C),⟨#[]⟩) else chk (fillC C))∧mkC C=(if (mkE C).1=0 then tblC C else cf0)∧mkD C=(if (mkE C).1=0 then Fn.sum (outB (tblC C)) else 0)):=⟨rfl,rfl,rfl⟩
 have HT:Hd (tblC C=⟨(fillC C).total,(fillC C).period,(fillC C).perSeat,(fillC C).most,srtB ltL (fillC C).levels,srtB ltS (fillC C).schemas⟩):=⟨rfl⟩
 have HPT:Hd (Passes (fillC C)→printE (tblC C)=if 65536<(outB (tblC C)).size then 3 else 0):=⟨fun h=>printE_passes h.tbl⟩
 have HPS:Hd (printS (tblC C)=if printE (tblC C)=0 then outB (tblC C) else ⟨#[]⟩):=⟨rfl⟩
 generalize fillC C=D at *
 generalize C.levels.length=nL at *
 generalize C.schemas.length=nS at *
 generalize C.total=x0 at *
 generalize C.period=x1 at *
 generalize C.perSeat=x2 at *
 generalize C.most=x3 at *
 have B0:Hd (Below w.heap.size w ((w.alloc (.cells #[.int .i64 x0,.int .i64 x1,.int .i64 x2,.int .i64 x3,.slice aL nL kL,.slice aS nS kS] 25)).alloc (.cells #[.int .i64 0,.int .i64 0,.int .i64 0,.int .i64 0,.slice none 0 0,.slice none 0 0,.int .u64 0] 31))):=⟨((Below.refl _ _).alloc (Nat.le_refl _) _).alloc (by simp) _⟩
 have R0:Hd (Blk ((w.alloc (.cells #[.int .i64 x0,.int .i64 x1,.int .i64 x2,.int .i64 x3,.slice aL nL kL,.slice aS nS kS] 25)).alloc (.cells #[.int .i64 0,.int .i64 0,.int .i64 0,.int .i64 0,.slice none 0 0,.slice none 0 0,.int .u64 0] 31)) (w.heap.size+1) 31 #[.int .i64 0,.int .i64 0,.int .i64 0,.int .i64 0,.slice none 0 0,.slice none 0 0,.int .u64 0]):=⟨alloc_new w _ 31 _⟩
 go_enter Tryz.func11,Tryz.ntmps11
 go_wp2_with fail
 generalize (w.alloc _).alloc _=w0 at *
 go_at_call 27
 refine (HF.out w0 B0.out).mono ?_
 rintro e w1 ⟨⟨v1,rfl,hC⟩,b1⟩
 obtain ⟨vL,vS,V1,rfl,hLv,hSc⟩:=hC.ex
 obtain ⟨gL,cL,rfl,hcL,hBL,hWL⟩:=hLv.wr HP.out.1
 obtain ⟨gS,cS,rfl,hcS,hBS,hWS⟩:=hSc.wr HP.out.2
 obtain ⟨P0,hP0⟩:∃ P0,P0=D.schemas.zip V1:=⟨_,rfl⟩
 have HP0:Hd (P0.map (·.1)=D.schemas∧P0.length=D.schemas.length):=⟨by rw [hP0];exact ⟨List.map_fst_zip (Nat.le_of_eq hSc.len.symm),by rw [List.length_zip,hSc.len];omega⟩⟩
 have hRl:∀ p∈P0,RlW w0.heap.size w1 p.2 p.1.rules:=fun p hp=>by
  rw [hP0] at hp
  obtain ⟨k,hk,rfl⟩:=List.getElem_of_mem hp
  rw [List.getElem_zip]
  rw [List.length_zip] at hk
  exact hSc.rls k (by omega) (by omega)
 rw [←hP0] at hWS
 clear hP0
 have HCap:Hd (D.levels.length≤cL∧D.schemas.length≤cS∧w.heap.size≤gL∧w.heap.size≤gS):=⟨hcL,hcS,Nat.le_trans B0.out.size hBL,Nat.le_trans B0.out.size hBS⟩
 have A2:Below w1.heap.size w1 (w1.alloc (.cells #[.int .i64 D.total,.int .i64 D.period,.int .i64 D.perSeat,.int .i64 D.most,.slice (some ⟨gL,0,none⟩) D.levels.length cL,.slice (some ⟨gS,0,none⟩) D.schemas.length cS] 25)):=alloc_below w1 _
 have K2:=Kept.of_below A2 (fun _=>False)
 have I2:Hd (Iv w w0.heap.size w1.heap.size (w.heap.size+1) gL gS #[.int .i64 D.total,.int .i64 D.period,.int .i64 D.perSeat,.int .i64 D.most,.slice (some ⟨gL,0,none⟩) D.levels.length cL,.slice (some ⟨gS,0,none⟩) D.schemas.length cS] D.levels.length D.schemas.length P0 (w1.alloc (.cells #[.int .i64 D.total,.int .i64 D.period,.int .i64 D.perSeat,.int .i64 D.most,.slice (some ⟨gL,0,none⟩) D.levels.length cL,.slice (some ⟨gS,0,none⟩) D.schemas.length cS] 25)) D.levels P0) :=
  ⟨(B0.out.trans (b1.mono B0.out.size)).trans (A2.mono (Nat.le_trans B0.out.size b1.size)),Blk.new w1 25 _,(R0.out.kept (Kept.of_below b1 (fun _=>False)) id).kept K2 id,hWL.kept K2 id,hWS.kept K2 id,fun p hp=>(hRl p hp).off K2 (Off.none _ _) (Off.none _ _)⟩
 have HC2:Hd (CfW w0.heap.size (w1.alloc (.cells #[.int .i64 D.total,.int .i64 D.period,.int .i64 D.perSeat,.int .i64 D.most,.slice (some ⟨gL,0,none⟩) D.levels.length cL,.slice (some ⟨gS,0,none⟩) D.schemas.length cS] 25)) (.agg #[.int .i64 D.total,.int .i64 D.period,.int .i64 D.perSeat,.int .i64 D.most,.slice (some ⟨gL,0,none⟩) D.levels.length cL,.slice (some ⟨gS,0,none⟩) D.schemas.length cS]) D):=⟨hC.grown A2⟩
 clear hC hLv hSc hWL hWS hcL hcS hBL hBS hRl A2 K2 b1 B0 R0 HF
 go_wp2_with fail
 generalize w1.alloc _=w2 at *
 generalize w1.heap.size=gF at *
 go_at_call 28
 refine (rcheck_ok _ D w2 (HC2.out.read HFit.out) HG.out.1 HG.out.2 (HB.out.mono (by omega))).mono ?_
 rintro e w3 ⟨rfl,b3⟩
 have K3:=Kept.of_below b3 (fun _=>False)
 have I3:Hd (Iv w w0.heap.size gF (w.heap.size+1) gL gS #[.int .i64 D.total,.int .i64 D.period,.int .i64 D.perSeat,.int .i64 D.most,.slice (some ⟨gL,0,none⟩) D.levels.length cL,.slice (some ⟨gS,0,none⟩) D.schemas.length cS] D.levels.length D.schemas.length P0 w3 D.levels P0):=⟨I2.out.b.trans (b3.mono I2.out.b.size),I2.out.d.kept K3 id,I2.out.r.kept K3 id,I2.out.l.kept K3 id,I2.out.s.kept K3 id,fun p hp=>(I2.out.rl p hp).off K3 (Off.none _ _) (Off.none _ _)⟩
 clear b3 K3 I2 HC2
 by_cases hz:(chk D).1=0
 ·have HS:Hd (Passes D):=⟨chk_zero.1 hz⟩
  have HZ:Hd ((chk D).1=0):=⟨hz⟩
  rw [hz]
  clear hz
  have hn1:D.levels.length≤100:=by have:=HB.out.lv;omega
  have hn2:D.schemas.length≤100:=by have:=HB.out.sc;omega
  have c4:=I3.out.d.cellv (v:=.slice (some ⟨gL,0,none⟩) D.levels.length cL) 4 rfl
  have c5:=I3.out.d.cellv (v:=.slice (some ⟨gS,0,none⟩) D.schemas.length cS) 5 rfl
  go_upto_region 5 with fail
  go_quiet (fail)
  have J3:Hd (∀ n,Iv w w0.heap.size gF (w.heap.size+1) gL gS #[.int .i64 D.total,.int .i64 D.period,.int .i64 D.perSeat,.int .i64 D.most,.slice (some ⟨gL,0,none⟩) D.levels.length cL,.slice (some ⟨gS,0,none⟩) D.schemas.length cS] D.levels.length D.schemas.length P0 (w3.drewN n) D.levels P0):=⟨fun n=>I3.out.drew n⟩
  clear c4 c5 I3
  go_wp2_with fail
  go_loopw [10] (fun s wr=>∃ i:Nat,i≤D.levels.length∧s=.int .i64 i∧Hd (∃ M,Iv w w0.heap.size gF (w.heap.size+1) gL gS #[.int .i64 D.total,.int .i64 D.period,.int .i64 D.perSeat,.int .i64 D.most,.slice (some ⟨gL,0,none⟩) D.levels.length cL,.slice (some ⟨gS,0,none⟩) D.schemas.length cS] D.levels.length D.schemas.length P0 wr M P0∧M.Perm D.levels∧Xs ltL M i (i+1))) (fun s _=>D.levels.length - (intOf s).toNat)
  case atStart=>exact ⟨0,Nat.zero_le _,rfl,⟨_,J3.out _,List.Perm.refl _,Xs.zero _⟩⟩
  case round =>
   obtain ⟨i,hi,rfl,hI⟩:=hrel
   clear J3
   by_cases hlt:i<D.levels.length
   ·have i0:(i:Int)<(D.levels.length:Int):=by omega
    have q3:(((i+1:Nat):Int))=(i:Int)+1:=by omega
    go_wp2_with fail
    go_loopw [11] (fun s wr=>∃ k:Nat,i+1≤k∧k≤D.levels.length∧s=.int .i64 k∧Hd (∃ M,Iv w w0.heap.size gF (w.heap.size+1) gL gS #[.int .i64 D.total,.int .i64 D.period,.int .i64 D.perSeat,.int .i64 D.most,.slice (some ⟨gL,0,none⟩) D.levels.length cL,.slice (some ⟨gS,0,none⟩) D.schemas.length cS] D.levels.length D.schemas.length P0 wr M P0∧M.Perm D.levels∧Xs ltL M i k)) (fun s _=>D.levels.length - (intOf s).toNat)
    case atStart=>exact ⟨i+1,Nat.le_refl _,hlt,by go_num,hI⟩
    case round =>
     obtain ⟨k,hik,hk,rfl,hJ⟩:=hrel
     clear hI
     by_cases hlk:k<D.levels.length
     ·obtain ⟨M,hM,pM,xM⟩:=hJ.out
      have lM:M.length=D.levels.length:=pM.length_eq
      have hiM:i<M.length:=by omega
      have hkM:k<M.length:=by omega
      have gi:M[i]?=some M[i]:=List.getElem?_eq_getElem hiM
      have gk:M[k]?=some M[k]:=List.getElem?_eq_getElem hkM
      have Ei:=hM.l.e10 (k:=i) (l:=M[i]) hlt (lvF_at hiM)
      have Ek:=hM.l.e10 (k:=k) (l:=M[k]) hlk (lvF_at hkM)
      have ni:=Ei.c0
      have nk:=Ek.c0
      have k0:(k:Int)<(D.levels.length:Int):=by omega
      have HK:Hd (i<k∧k<D.levels.length):=⟨by omega,hlk⟩
      cases hc:ltL M[k] M[i] with
      | false =>
       have bl:Op.bytesLess M[k].name.toList M[i].name.toList=false:=by rw [txLt_of];exact hc
       have HN:Hd (∀ n,∃ M,Iv w w0.heap.size gF (w.heap.size+1) gL gS #[.int .i64 D.total,.int .i64 D.period,.int .i64 D.perSeat,.int .i64 D.most,.slice (some ⟨gL,0,none⟩) D.levels.length cL,.slice (some ⟨gS,0,none⟩) D.schemas.length cS] D.levels.length D.schemas.length P0 (wr.drewN n) M P0∧M.Perm D.levels∧Xs ltL M i (k+1)):=⟨fun n=>⟨M,hM.drew n,pM,xM.stay gi gk hc⟩⟩
       clear hJ hM pM xM lM gi gk Ei Ek hc
       generalize M[i].name=m1 at *
       generalize M[k].name=m2 at *
       clear hiM hkM
       go_wp2_with fail
       go_big_quiet (fail)
       go_wp2_with fail
       go_roundw
       case rel=>exact ⟨k+1,by omega,HK.out.2,by go_num,⟨HN.out _⟩⟩
       case measure=>have:=HK.out;simp [intOf];omega
      | true =>
       have bl:Op.bytesLess M[k].name.toList M[i].name.toList=true:=by rw [txLt_of];exact hc
       have HX:Hd (∀ W',Iv w w0.heap.size gF (w.heap.size+1) gL gS #[.int .i64 D.total,.int .i64 D.period,.int .i64 D.perSeat,.int .i64 D.most,.slice (some ⟨gL,0,none⟩) D.levels.length cL,.slice (some ⟨gS,0,none⟩) D.schemas.length cS] D.levels.length D.schemas.length P0 W' (swX M i k) P0→∃ M,Iv w w0.heap.size gF (w.heap.size+1) gL gS #[.int .i64 D.total,.int .i64 D.period,.int .i64 D.perSeat,.int .i64 D.most,.slice (some ⟨gL,0,none⟩) D.levels.length cL,.slice (some ⟨gS,0,none⟩) D.schemas.length cS] D.levels.length D.schemas.length P0 W' M P0∧M.Perm D.levels∧Xs ltL M i (k+1)):=⟨fun W' h=>⟨_,h,(swX_perm M i k).trans pM,xM.swap strictL (by omega) hkM gi gk hc⟩⟩
       have HSW:Hd (lvF (swX M i k) i=lvC M[k]∧lvF (swX M i k) k=lvC M[i]∧∀ x,x≠i→x≠k→lvF (swX M i k) x=lvF M x):=⟨by
        obtain ⟨e1,e2,e3⟩:=lvF_swX hiM hkM
        rw [if_neg (by omega)] at e1
        exact ⟨e1,e2,e3⟩⟩
       have HM:Hd (Iv w w0.heap.size gF (w.heap.size+1) gL gS #[.int .i64 D.total,.int .i64 D.period,.int .i64 D.perSeat,.int .i64 D.most,.slice (some ⟨gL,0,none⟩) D.levels.length cL,.slice (some ⟨gS,0,none⟩) D.schemas.length cS] D.levels.length D.schemas.length P0 wr M P0):=⟨hM⟩
       have HEq:Hd (lvF M i=lvC M[i]∧lvF M k=lvC M[k]):=⟨lvF_at hiM,lvF_at hkM⟩
       clear hJ hM pM xM lM gi gk Ei Ek hc
       generalize M[i]=la at *
       generalize M[k]=lb at *
       clear hiM hkM
       go_wp2_with fail
       go_big_quiet (fail)
       go_upto_region 13 with fail
       refine AnyG.start (T:=fun _=>True) (U:=fun W=>E10 W gL i la∧E10 W gL k lb) (j0:=13) (by kernel_rfl) ?_
       generalize hwd:World.drew (World.drewN wr _)=wd
       have ID:Hd (Iv w w0.heap.size gF (w.heap.size+1) gL gS #[.int .i64 D.total,.int .i64 D.period,.int .i64 D.perSeat,.int .i64 D.most,.slice (some ⟨gL,0,none⟩) D.levels.length cL,.slice (some ⟨gS,0,none⟩) D.schemas.length cS] D.levels.length D.schemas.length P0 wd M P0):=⟨by rw [←hwd];exact (HM.out.drew _).drew1⟩
       have W0:=ID.out.l
       have U0:E10 wd gL i la∧E10 wd gL k lb:=⟨W0.e10 hlt HEq.out.1,W0.e10 hlk HEq.out.2⟩
       clear hwd HM HEq
       refine .tr 0 57 ⟨trivial,fun _=>U0⟩ ?_;simp only [tkA,tkB,tkC]
       refine .tr 1 58 ⟨trivial,fun _=>U0⟩ ?_;simp only [tkA,tkB,tkC]
       refine .tr 2 59 ⟨trivial,fun _=>U0⟩ ?_;simp only [tkA,tkB,tkC]
       refine .tr 3 60 ⟨trivial,fun _=>U0⟩ ?_;simp only [tkA,tkB,tkC]
       refine .tr 4 61 ⟨trivial,fun _=>U0⟩ ?_;simp only [tkA,tkB,tkC]
       refine .tr 5 62 ⟨trivial,fun _=>U0⟩ ?_;simp only [tkA,tkB,tkC]
       refine .tr 6 63 ⟨trivial,fun _=>U0⟩ ?_;simp only [tkA,tkB,tkC]
       refine .tr 8 65 ⟨trivial,fun _=>U0⟩ ?_;simp only [tkA,tkB,tkC]
       refine .tr 9 66 ⟨trivial,fun _=>U0⟩ ?_;simp only [tkA,tkB,tkC]
       refine .tr 10 67 ⟨trivial,fun _=>U0⟩ ?_;simp only [tkA,tkB,tkC]
       refine .er 7 64 ⟨trivial,fun _=>U0⟩ ?_ (hy:=fun w hSw=>by obtain ⟨-,-,⟨c0,c1,c2,c3,c4,c5,c6,c7,c8,c9⟩⟩:=hSw;go_simp;rfl);simp only [tkA,tkB,tkC]
       refine .er 11 68 ⟨trivial,fun _=>U0⟩ ?_ (hy:=fun w hSw=>by obtain ⟨-,⟨c0,c1,c2,c3,c4,c5,c6,c7,c8,c9⟩,-⟩:=hSw;go_simp;rfl);simp only [tkA,tkB,tkC]
       refine .tr 12 69 ⟨trivial,fun _=>U0⟩ ?_;simp only [tkA,tkB,tkC]
       refine AnyG.ready (rs:=[13]) (by kernel_rfl) (by simp) ?_
       refine AllG.cons rfl (fun K hK=>?_) AllG.nil
       obtain ⟨⟨ar0,am0⟩,an0⟩:=W0.room (q:=i*10) (by omega)
       obtain ⟨⟨ar1,am1⟩,an1⟩:=W0.room (q:=i*10+1) (by omega)
       obtain ⟨⟨ar2,am2⟩,an2⟩:=W0.room (q:=i*10+2) (by omega)
       obtain ⟨⟨ar3,am3⟩,an3⟩:=W0.room (q:=i*10+3) (by omega)
       obtain ⟨⟨ar4,am4⟩,an4⟩:=W0.room (q:=i*10+4) (by omega)
       obtain ⟨⟨ar5,am5⟩,an5⟩:=W0.room (q:=i*10+5) (by omega)
       obtain ⟨⟨ar6,am6⟩,an6⟩:=W0.room (q:=i*10+6) (by omega)
       obtain ⟨⟨ar7,am7⟩,an7⟩:=W0.room (q:=i*10+7) (by omega)
       obtain ⟨⟨ar8,am8⟩,an8⟩:=W0.room (q:=i*10+8) (by omega)
       obtain ⟨⟨ar9,am9⟩,an9⟩:=W0.room (q:=i*10+9) (by omega)
       have P1:=W0.at10 (i:=i) (F':=fun x=>if x=i then lvC lb else lvF M x) hlt (.string lb.name) (.int .i64 lb.kind) (.int .i64 lb.shares) (.int .i64 lb.lend) (.int .i64 lb.borrow) (.int .i64 lb.queues) (.int .i64 lb.hand) (.int .i64 lb.length) (.int .i64 lb.wait) (.int .i64 lb.guess) (if_pos rfl) (fun x hx=>if_neg hx)
       go_simp
       refine hK.out _ _ ⟨trivial,fun h=>by cases h⟩ ?_
       clear hK K U0 ar0 am0 an0 ar1 am1 an1 ar2 am2 an2 ar3 am3 an3 ar4 am4 an4 ar5 am5 an5 ar6 am6 an6 ar7 am7 an7 ar8 am8 an8 ar9 am9 an9
       generalize ((((((((((wd.setCell ⟨gL,i*10,none⟩ (.string lb.name)).setCell ⟨gL,i*10+1,none⟩ (.int .i64 lb.kind)).setCell ⟨gL,i*10+2,none⟩ (.int .i64 lb.shares)).setCell ⟨gL,i*10+3,none⟩ (.int .i64 lb.lend)).setCell ⟨gL,i*10+4,none⟩ (.int .i64 lb.borrow)).setCell ⟨gL,i*10+5,none⟩ (.int .i64 lb.queues)).setCell ⟨gL,i*10+6,none⟩ (.int .i64 lb.hand)).setCell ⟨gL,i*10+7,none⟩ (.int .i64 lb.length)).setCell ⟨gL,i*10+8,none⟩ (.int .i64 lb.wait)).setCell ⟨gL,i*10+9,none⟩ (.int .i64 lb.guess))=w6 at *
       refine .tr 14 70 ⟨trivial,fun h=>by cases h⟩ ?_;simp only [tkA,tkB,tkC]
       refine AnyG.ready (rs:=[15]) (by kernel_rfl) (by simp) ?_
       refine AllG.cons rfl (fun K hK=>?_) AllG.nil
       obtain ⟨⟨br0,bm0⟩,bn0⟩:=P1.1.room (q:=k*10) (by omega)
       obtain ⟨⟨br1,bm1⟩,bn1⟩:=P1.1.room (q:=k*10+1) (by omega)
       obtain ⟨⟨br2,bm2⟩,bn2⟩:=P1.1.room (q:=k*10+2) (by omega)
       obtain ⟨⟨br3,bm3⟩,bn3⟩:=P1.1.room (q:=k*10+3) (by omega)
       obtain ⟨⟨br4,bm4⟩,bn4⟩:=P1.1.room (q:=k*10+4) (by omega)
       obtain ⟨⟨br5,bm5⟩,bn5⟩:=P1.1.room (q:=k*10+5) (by omega)
       obtain ⟨⟨br6,bm6⟩,bn6⟩:=P1.1.room (q:=k*10+6) (by omega)
       obtain ⟨⟨br7,bm7⟩,bn7⟩:=P1.1.room (q:=k*10+7) (by omega)
       obtain ⟨⟨br8,bm8⟩,bn8⟩:=P1.1.room (q:=k*10+8) (by omega)
       obtain ⟨⟨br9,bm9⟩,bn9⟩:=P1.1.room (q:=k*10+9) (by omega)
       have P2:=P1.1.at10 (i:=k) (F':=lvF (swX M i k)) hlk (.string la.name) (.int .i64 la.kind) (.int .i64 la.shares) (.int .i64 la.lend) (.int .i64 la.borrow) (.int .i64 la.queues) (.int .i64 la.hand) (.int .i64 la.length) (.int .i64 la.wait) (.int .i64 la.guess) (by rw [HSW.out.2.1];rfl) (fun x hx=>by
        by_cases c:x=i
        ·subst c;rw [HSW.out.1,if_pos rfl]
        ·rw [HSW.out.2.2 x c hx,if_neg c])
       go_simp
       refine hK.out _ _ ⟨trivial,fun h=>by cases h⟩ ?_
       clear hK K br0 bm0 bn0 br1 bm1 bn1 br2 bm2 bn2 br3 bm3 bn3 br4 bm4 bn4 br5 bm5 bn5 br6 bm6 bn6 br7 bm7 bn7 br8 bm8 bn8 br9 bm9 bn9
       generalize ((((((((((w6.setCell ⟨gL,k*10,none⟩ (.string la.name)).setCell ⟨gL,k*10+1,none⟩ (.int .i64 la.kind)).setCell ⟨gL,k*10+2,none⟩ (.int .i64 la.shares)).setCell ⟨gL,k*10+3,none⟩ (.int .i64 la.lend)).setCell ⟨gL,k*10+4,none⟩ (.int .i64 la.borrow)).setCell ⟨gL,k*10+5,none⟩ (.int .i64 la.queues)).setCell ⟨gL,k*10+6,none⟩ (.int .i64 la.hand)).setCell ⟨gL,k*10+7,none⟩ (.int .i64 la.length)).setCell ⟨gL,k*10+8,none⟩ (.int .i64 la.wait)).setCell ⟨gL,k*10+9,none⟩ (.int .i64 la.guess))=wz at *
       refine AnyG.done (by kernel_rfl) ?_ _
       have HZ:Hd (∃ M,Iv w w0.heap.size gF (w.heap.size+1) gL gS #[.int .i64 D.total,.int .i64 D.period,.int .i64 D.perSeat,.int .i64 D.most,.slice (some ⟨gL,0,none⟩) D.levels.length cL,.slice (some ⟨gS,0,none⟩) D.schemas.length cS] D.levels.length D.schemas.length P0 wz M P0∧M.Perm D.levels∧Xs ltL M i (k+1)):=⟨HX.out _ (ID.out.putL HCap.out.2.2.1 (P1.2.trans P2.2) P2.1)⟩
       clear P1 P2 W0 ID HX HSW ni nk bl
       go_wp2_with fail
       go_roundw
       case rel=>exact ⟨k+1,by omega,HK.out.2,by go_num,HZ⟩
       case measure=>have:=HK.out;simp [intOf];omega
     ·have k0:¬ ((k:Int)<(D.levels.length:Int)):=by omega
      have HN:Hd (∃ M,Iv w w0.heap.size gF (w.heap.size+1) gL gS #[.int .i64 D.total,.int .i64 D.period,.int .i64 D.perSeat,.int .i64 D.most,.slice (some ⟨gL,0,none⟩) D.levels.length cL,.slice (some ⟨gS,0,none⟩) D.schemas.length cS] D.levels.length D.schemas.length P0 wr M P0∧M.Perm D.levels∧Xs ltL M (i+1) (i+1+1)):=⟨by
       obtain ⟨M,hM,pM,xM⟩:=hJ.out
       exact ⟨M,hM,pM,xM.next (by rw [pM.length_eq];omega)⟩⟩
      have HI:Hd (i<D.levels.length):=⟨hlt⟩
      clear hJ
      go_wp2_with fail
      go_roundw
      case rel=>exact ⟨i+1,HI.out,by go_num,HN⟩
      case measure=>have:=HI.out;simp [intOf];omega
   ·have k1:¬ ((i:Int)<(D.levels.length:Int)):=by omega
    obtain ⟨M,hM,pM,xM⟩:=hI.out
    have eM:M=srtB ltL D.levels:=srtB_one strictL HS.out.aptL pM (xM.done (by rw [pM.length_eq];omega))
    have HPM:Hd (M=srtB ltL D.levels∧M.Perm D.levels):=⟨eM,pM⟩
    have J4:Hd (Iv w w0.heap.size gF (w.heap.size+1) gL gS #[.int .i64 D.total,.int .i64 D.period,.int .i64 D.perSeat,.int .i64 D.most,.slice (some ⟨gL,0,none⟩) D.levels.length cL,.slice (some ⟨gS,0,none⟩) D.schemas.length cS] D.levels.length D.schemas.length P0 wr M P0):=⟨hM⟩
    clear hI hM pM xM eM hi hlt
    go_wp2_with fail
    go_loopw [12] (fun s wr=>∃ j:Nat,j≤D.schemas.length∧s=.int .i64 j∧Hd (∃ P,Iv w w0.heap.size gF (w.heap.size+1) gL gS #[.int .i64 D.total,.int .i64 D.period,.int .i64 D.perSeat,.int .i64 D.most,.slice (some ⟨gL,0,none⟩) D.levels.length cL,.slice (some ⟨gS,0,none⟩) D.schemas.length cS] D.levels.length D.schemas.length P0 wr M P∧P.Perm P0∧Xs ltP P j (j+1))) (fun s _=>D.schemas.length - (intOf s).toNat)
    case atStart=>exact ⟨0,Nat.zero_le _,rfl,⟨_,J4.out,List.Perm.refl _,Xs.zero _⟩⟩
    case round =>
     obtain ⟨j,hj,rfl,hI⟩:=hrel
     clear J4
     by_cases hlt:j<D.schemas.length
     ·have j0:(j:Int)<(D.schemas.length:Int):=by omega
      have q3:(((j+1:Nat):Int))=(j:Int)+1:=by omega
      go_wp2_with fail
      go_loopw [13] (fun s wr=>∃ k:Nat,j+1≤k∧k≤D.schemas.length∧s=.int .i64 k∧Hd (∃ P,Iv w w0.heap.size gF (w.heap.size+1) gL gS #[.int .i64 D.total,.int .i64 D.period,.int .i64 D.perSeat,.int .i64 D.most,.slice (some ⟨gL,0,none⟩) D.levels.length cL,.slice (some ⟨gS,0,none⟩) D.schemas.length cS] D.levels.length D.schemas.length P0 wr M P∧P.Perm P0∧Xs ltP P j k)) (fun s _=>D.schemas.length - (intOf s).toNat)
      case atStart=>exact ⟨j+1,Nat.le_refl _,hlt,by go_num,hI⟩
      case round =>
       obtain ⟨k,hjk,hk,rfl,hJ⟩:=hrel
       clear hI
       by_cases hlk:k<D.schemas.length
       ·obtain ⟨P,hP,pP,xP⟩:=hJ.out
        have lP:P.length=D.schemas.length:=pP.length_eq.trans HP0.out.2
        have hiP:j<P.length:=by omega
        have hkP:k<P.length:=by omega
        have gi:P[j]?=some P[j]:=List.getElem?_eq_getElem hiP
        have gk:P[k]?=some P[k]:=List.getElem?_eq_getElem hkP
        have Ei:=hP.s.e5 (k:=j) (s:=P[j].1) (v:=P[j].2) hlt (scG_at hiP)
        have Ek:=hP.s.e5 (k:=k) (s:=P[k].1) (v:=P[k].2) hlk (scG_at hkP)
        obtain ⟨ai,ci,ei⟩:=(hP.rl P[j] (pP.mem_iff.1 (List.getElem_mem hiP))).shape
        obtain ⟨ak,ck,ek⟩:=(hP.rl P[k] (pP.mem_iff.1 (List.getElem_mem hkP))).shape
        have HEq:Hd (scG P j=scC P[j].1 P[j].2∧scG P k=scC P[k].1 P[k].2):=⟨scG_at hiP,scG_at hkP⟩
        have HSW:Hd (scG (swX P j k) j=scC P[k].1 P[k].2∧scG (swX P j k) k=scC P[j].1 P[j].2∧∀ x,x≠j→x≠k→scG (swX P j k) x=scG P x):=⟨by
         obtain ⟨e1,e2,e3⟩:=scG_swX hiP hkP
         rw [if_neg (by omega)] at e1
         exact ⟨e1,e2,e3⟩⟩
        have ni:=Ei.c0
        have nk:=Ek.c0
        have ri:=Ei.c2
        have rk:=Ek.c2
        have k0:(k:Int)<(D.schemas.length:Int):=by omega
        have HK:Hd (j<k∧k<D.schemas.length):=⟨by omega,hlk⟩
        generalize P[j]=pa at *
        generalize P[k]=pb at *
        obtain ⟨la,va⟩:=pa
        obtain ⟨lb,vb⟩:=pb
        simp only at ei ek Ei Ek HEq HSW ni nk ri rk
        subst ei ek
        generalize la.rules.length=na at *
        generalize lb.rules.length=nb at *
        by_cases hr:lb.rank<la.rank
        ·have hc:ltP (lb,.slice ak nb ck) (la,.slice ai na ci)=true:=by show ltS lb la=_;unfold ltS;simp [hr]
         have g1:decide (lb.rank<la.rank)=true:=decide_eq_true hr
         have HX:Hd (∀ W',Iv w w0.heap.size gF (w.heap.size+1) gL gS #[.int .i64 D.total,.int .i64 D.period,.int .i64 D.perSeat,.int .i64 D.most,.slice (some ⟨gL,0,none⟩) D.levels.length cL,.slice (some ⟨gS,0,none⟩) D.schemas.length cS] D.levels.length D.schemas.length P0 W' M (swX P j k)→∃ P,Iv w w0.heap.size gF (w.heap.size+1) gL gS #[.int .i64 D.total,.int .i64 D.period,.int .i64 D.perSeat,.int .i64 D.most,.slice (some ⟨gL,0,none⟩) D.levels.length cL,.slice (some ⟨gS,0,none⟩) D.schemas.length cS] D.levels.length D.schemas.length P0 W' M P∧P.Perm P0∧Xs ltP P j (k+1)):=⟨fun W' h=>⟨_,h,(swX_perm P j k).trans pP,xP.swap strictP (by omega) hkP gi gk hc⟩⟩
         have HM:Hd (Iv w w0.heap.size gF (w.heap.size+1) gL gS #[.int .i64 D.total,.int .i64 D.period,.int .i64 D.perSeat,.int .i64 D.most,.slice (some ⟨gL,0,none⟩) D.levels.length cL,.slice (some ⟨gS,0,none⟩) D.schemas.length cS] D.levels.length D.schemas.length P0 wr M P):=⟨hP⟩
         clear hJ hP pP xP lP gi gk Ei Ek hc
         clear hiP hkP
         go_wp2_with fail
         go_big_quiet (fail)
         go_upto_region 21 with fail
         refine AnyG.start (T:=fun _=>True) (U:=fun W=>E5 W gS j la (.slice ai na ci)∧E5 W gS k lb (.slice ak nb ck)) (j0:=13) (by kernel_rfl) ?_
         generalize hwd:World.drew (World.drewN wr _)=wd
         have ID:Hd (Iv w w0.heap.size gF (w.heap.size+1) gL gS #[.int .i64 D.total,.int .i64 D.period,.int .i64 D.perSeat,.int .i64 D.most,.slice (some ⟨gL,0,none⟩) D.levels.length cL,.slice (some ⟨gS,0,none⟩) D.schemas.length cS] D.levels.length D.schemas.length P0 wd M P):=⟨by rw [←hwd];exact (HM.out.drew _).drew1⟩
         have W0:=ID.out.s
         have U0:E5 wd gS j la (.slice ai na ci)∧E5 wd gS k lb (.slice ak nb ck):=⟨W0.e5 hlt HEq.out.1,W0.e5 hlk HEq.out.2⟩
         clear hwd HM HEq
         refine .tr 0 122 ⟨trivial,fun _=>U0⟩ ?_;simp only [tkA,tkB,tkC]
         refine .tr 1 123 ⟨trivial,fun _=>U0⟩ ?_;simp only [tkA,tkB,tkC]
         refine .tr 2 124 ⟨trivial,fun _=>U0⟩ ?_;simp only [tkA,tkB,tkC]
         refine .tr 3 125 ⟨trivial,fun _=>U0⟩ ?_;simp only [tkA,tkB,tkC]
         refine .tr 4 126 ⟨trivial,fun _=>U0⟩ ?_;simp only [tkA,tkB,tkC]
         refine .tr 5 127 ⟨trivial,fun _=>U0⟩ ?_;simp only [tkA,tkB,tkC]
         refine .tr 6 128 ⟨trivial,fun _=>U0⟩ ?_;simp only [tkA,tkB,tkC]
         refine .tr 8 130 ⟨trivial,fun _=>U0⟩ ?_;simp only [tkA,tkB,tkC]
         refine .tr 9 131 ⟨trivial,fun _=>U0⟩ ?_;simp only [tkA,tkB,tkC]
         refine .tr 10 132 ⟨trivial,fun _=>U0⟩ ?_;simp only [tkA,tkB,tkC]
         refine .er 7 129 ⟨trivial,fun _=>U0⟩ ?_ (hy:=fun w hSw=>by obtain ⟨-,-,⟨c0,c1,c2,c3,c4⟩⟩:=hSw;go_simp;rfl);simp only [tkA,tkB,tkC]
         refine .er 11 133 ⟨trivial,fun _=>U0⟩ ?_ (hy:=fun w hSw=>by obtain ⟨-,⟨c0,c1,c2,c3,c4⟩,-⟩:=hSw;go_simp;rfl);simp only [tkA,tkB,tkC]
         refine .tr 12 134 ⟨trivial,fun _=>U0⟩ ?_;simp only [tkA,tkB,tkC]
         refine AnyG.ready (rs:=[13]) (by kernel_rfl) (by simp) ?_
         refine AllG.cons rfl (fun K hK=>?_) AllG.nil
         obtain ⟨⟨ar0,am0⟩,an0⟩:=W0.room (q:=j*5) (by omega)
         obtain ⟨⟨ar1,am1⟩,an1⟩:=W0.room (q:=j*5+1) (by omega)
         obtain ⟨⟨ar2,am2⟩,an2⟩:=W0.room (q:=j*5+2) (by omega)
         obtain ⟨⟨ar3,am3⟩,an3⟩:=W0.room (q:=j*5+3) (by omega)
         obtain ⟨⟨ar4,am4⟩,an4⟩:=W0.room (q:=j*5+4) (by omega)
         have P1:=W0.at5 (i:=j) (F':=fun x=>if x=j then scC lb (.slice ak nb ck) else scG P x) hlt (.string lb.name) (.string lb.level) (.int .i64 lb.rank) (.int .i64 lb.way) (.slice ak nb ck) (if_pos rfl) (fun x hx=>if_neg hx)
         go_simp
         refine hK.out _ _ ⟨trivial,fun h=>by cases h⟩ ?_
         clear hK K U0 ar0 am0 an0 ar1 am1 an1 ar2 am2 an2 ar3 am3 an3 ar4 am4 an4
         generalize (((((wd.setCell ⟨gS,j*5,none⟩ (.string lb.name)).setCell ⟨gS,j*5+1,none⟩ (.string lb.level)).setCell ⟨gS,j*5+2,none⟩ (.int .i64 lb.rank)).setCell ⟨gS,j*5+3,none⟩ (.int .i64 lb.way)).setCell ⟨gS,j*5+4,none⟩ (.slice ak nb ck))=w6 at *
         refine .tr 14 135 ⟨trivial,fun h=>by cases h⟩ ?_;simp only [tkA,tkB,tkC]
         refine AnyG.ready (rs:=[15]) (by kernel_rfl) (by simp) ?_
         refine AllG.cons rfl (fun K hK=>?_) AllG.nil
         obtain ⟨⟨br0,bm0⟩,bn0⟩:=P1.1.room (q:=k*5) (by omega)
         obtain ⟨⟨br1,bm1⟩,bn1⟩:=P1.1.room (q:=k*5+1) (by omega)
         obtain ⟨⟨br2,bm2⟩,bn2⟩:=P1.1.room (q:=k*5+2) (by omega)
         obtain ⟨⟨br3,bm3⟩,bn3⟩:=P1.1.room (q:=k*5+3) (by omega)
         obtain ⟨⟨br4,bm4⟩,bn4⟩:=P1.1.room (q:=k*5+4) (by omega)
         have P2:=P1.1.at5 (i:=k) (F':=scG (swX P j k)) hlk (.string la.name) (.string la.level) (.int .i64 la.rank) (.int .i64 la.way) (.slice ai na ci) (by rw [HSW.out.2.1];rfl) (fun x hx=>by
          by_cases c:x=j
          ·subst c;rw [HSW.out.1,if_pos rfl]
          ·rw [HSW.out.2.2 x c hx,if_neg c])
         go_simp
         refine hK.out _ _ ⟨trivial,fun h=>by cases h⟩ ?_
         clear hK K br0 bm0 bn0 br1 bm1 bn1 br2 bm2 bn2 br3 bm3 bn3 br4 bm4 bn4
         generalize (((((w6.setCell ⟨gS,k*5,none⟩ (.string la.name)).setCell ⟨gS,k*5+1,none⟩ (.string la.level)).setCell ⟨gS,k*5+2,none⟩ (.int .i64 la.rank)).setCell ⟨gS,k*5+3,none⟩ (.int .i64 la.way)).setCell ⟨gS,k*5+4,none⟩ (.slice ai na ci))=wz at *
         refine AnyG.done (by kernel_rfl) ?_ _
         have HZ:Hd (∃ P,Iv w w0.heap.size gF (w.heap.size+1) gL gS #[.int .i64 D.total,.int .i64 D.period,.int .i64 D.perSeat,.int .i64 D.most,.slice (some ⟨gL,0,none⟩) D.levels.length cL,.slice (some ⟨gS,0,none⟩) D.schemas.length cS] D.levels.length D.schemas.length P0 wz M P∧P.Perm P0∧Xs ltP P j (k+1)):=⟨HX.out _ (ID.out.putS HCap.out.2.2.2 (P1.2.trans P2.2) P2.1)⟩
         clear P1 P2 W0 ID HX HSW ni nk ri rk
         go_wp2_with fail
         go_roundw
         case rel=>exact ⟨k+1,by omega,HK.out.2,by go_num,HZ⟩
         case measure=>have:=HK.out;simp [intOf];omega
        ·by_cases he:lb.rank=la.rank
         ·cases hn:txLt lb.name la.name with
          | true =>
           have hc:ltP (lb,.slice ak nb ck) (la,.slice ai na ci)=true:=by show ltS lb la=_;unfold ltS;simp [he,hn]
           have g1:decide (lb.rank<la.rank)=false:=decide_eq_false hr
           have g2:(lb.rank == la.rank)=true:=by rw [beq_iff_eq];exact he
           have bl:Op.bytesLess lb.name.toList la.name.toList=true:=by rw [txLt_of];exact hn
           clear he
           have HX:Hd (∀ W',Iv w w0.heap.size gF (w.heap.size+1) gL gS #[.int .i64 D.total,.int .i64 D.period,.int .i64 D.perSeat,.int .i64 D.most,.slice (some ⟨gL,0,none⟩) D.levels.length cL,.slice (some ⟨gS,0,none⟩) D.schemas.length cS] D.levels.length D.schemas.length P0 W' M (swX P j k)→∃ P,Iv w w0.heap.size gF (w.heap.size+1) gL gS #[.int .i64 D.total,.int .i64 D.period,.int .i64 D.perSeat,.int .i64 D.most,.slice (some ⟨gL,0,none⟩) D.levels.length cL,.slice (some ⟨gS,0,none⟩) D.schemas.length cS] D.levels.length D.schemas.length P0 W' M P∧P.Perm P0∧Xs ltP P j (k+1)):=⟨fun W' h=>⟨_,h,(swX_perm P j k).trans pP,xP.swap strictP (by omega) hkP gi gk hc⟩⟩
           have HM:Hd (Iv w w0.heap.size gF (w.heap.size+1) gL gS #[.int .i64 D.total,.int .i64 D.period,.int .i64 D.perSeat,.int .i64 D.most,.slice (some ⟨gL,0,none⟩) D.levels.length cL,.slice (some ⟨gS,0,none⟩) D.schemas.length cS] D.levels.length D.schemas.length P0 wr M P):=⟨hP⟩
           clear hJ hP pP xP lP gi gk Ei Ek hc
           clear hiP hkP
           go_wp2_with fail
           go_big_quiet (fail)
           go_upto_region 21 with fail
           refine AnyG.start (T:=fun _=>True) (U:=fun W=>E5 W gS j la (.slice ai na ci)∧E5 W gS k lb (.slice ak nb ck)) (j0:=13) (by kernel_rfl) ?_
           generalize hwd:World.drew (World.drewN wr _)=wd
           have ID:Hd (Iv w w0.heap.size gF (w.heap.size+1) gL gS #[.int .i64 D.total,.int .i64 D.period,.int .i64 D.perSeat,.int .i64 D.most,.slice (some ⟨gL,0,none⟩) D.levels.length cL,.slice (some ⟨gS,0,none⟩) D.schemas.length cS] D.levels.length D.schemas.length P0 wd M P):=⟨by rw [←hwd];exact (HM.out.drew _).drew1⟩
           have W0:=ID.out.s
           have U0:E5 wd gS j la (.slice ai na ci)∧E5 wd gS k lb (.slice ak nb ck):=⟨W0.e5 hlt HEq.out.1,W0.e5 hlk HEq.out.2⟩
           clear hwd HM HEq
           refine .tr 0 122 ⟨trivial,fun _=>U0⟩ ?_;simp only [tkA,tkB,tkC]
           refine .tr 1 123 ⟨trivial,fun _=>U0⟩ ?_;simp only [tkA,tkB,tkC]
           refine .tr 2 124 ⟨trivial,fun _=>U0⟩ ?_;simp only [tkA,tkB,tkC]
           refine .tr 3 125 ⟨trivial,fun _=>U0⟩ ?_;simp only [tkA,tkB,tkC]
           refine .tr 4 126 ⟨trivial,fun _=>U0⟩ ?_;simp only [tkA,tkB,tkC]
           refine .tr 5 127 ⟨trivial,fun _=>U0⟩ ?_;simp only [tkA,tkB,tkC]
           refine .tr 6 128 ⟨trivial,fun _=>U0⟩ ?_;simp only [tkA,tkB,tkC]
           refine .tr 8 130 ⟨trivial,fun _=>U0⟩ ?_;simp only [tkA,tkB,tkC]
           refine .tr 9 131 ⟨trivial,fun _=>U0⟩ ?_;simp only [tkA,tkB,tkC]
           refine .tr 10 132 ⟨trivial,fun _=>U0⟩ ?_;simp only [tkA,tkB,tkC]
           refine .er 7 129 ⟨trivial,fun _=>U0⟩ ?_ (hy:=fun w hSw=>by obtain ⟨-,-,⟨c0,c1,c2,c3,c4⟩⟩:=hSw;go_simp;rfl);simp only [tkA,tkB,tkC]
           refine .er 11 133 ⟨trivial,fun _=>U0⟩ ?_ (hy:=fun w hSw=>by obtain ⟨-,⟨c0,c1,c2,c3,c4⟩,-⟩:=hSw;go_simp;rfl);simp only [tkA,tkB,tkC]
           refine .tr 12 134 ⟨trivial,fun _=>U0⟩ ?_;simp only [tkA,tkB,tkC]
           refine AnyG.ready (rs:=[13]) (by kernel_rfl) (by simp) ?_
           refine AllG.cons rfl (fun K hK=>?_) AllG.nil
           obtain ⟨⟨ar0,am0⟩,an0⟩:=W0.room (q:=j*5) (by omega)
           obtain ⟨⟨ar1,am1⟩,an1⟩:=W0.room (q:=j*5+1) (by omega)
           obtain ⟨⟨ar2,am2⟩,an2⟩:=W0.room (q:=j*5+2) (by omega)
           obtain ⟨⟨ar3,am3⟩,an3⟩:=W0.room (q:=j*5+3) (by omega)
           obtain ⟨⟨ar4,am4⟩,an4⟩:=W0.room (q:=j*5+4) (by omega)
           have P1:=W0.at5 (i:=j) (F':=fun x=>if x=j then scC lb (.slice ak nb ck) else scG P x) hlt (.string lb.name) (.string lb.level) (.int .i64 lb.rank) (.int .i64 lb.way) (.slice ak nb ck) (if_pos rfl) (fun x hx=>if_neg hx)
           go_simp
           refine hK.out _ _ ⟨trivial,fun h=>by cases h⟩ ?_
           clear hK K U0 ar0 am0 an0 ar1 am1 an1 ar2 am2 an2 ar3 am3 an3 ar4 am4 an4
           generalize (((((wd.setCell ⟨gS,j*5,none⟩ (.string lb.name)).setCell ⟨gS,j*5+1,none⟩ (.string lb.level)).setCell ⟨gS,j*5+2,none⟩ (.int .i64 lb.rank)).setCell ⟨gS,j*5+3,none⟩ (.int .i64 lb.way)).setCell ⟨gS,j*5+4,none⟩ (.slice ak nb ck))=w6 at *
           refine .tr 14 135 ⟨trivial,fun h=>by cases h⟩ ?_;simp only [tkA,tkB,tkC]
           refine AnyG.ready (rs:=[15]) (by kernel_rfl) (by simp) ?_
           refine AllG.cons rfl (fun K hK=>?_) AllG.nil
           obtain ⟨⟨br0,bm0⟩,bn0⟩:=P1.1.room (q:=k*5) (by omega)
           obtain ⟨⟨br1,bm1⟩,bn1⟩:=P1.1.room (q:=k*5+1) (by omega)
           obtain ⟨⟨br2,bm2⟩,bn2⟩:=P1.1.room (q:=k*5+2) (by omega)
           obtain ⟨⟨br3,bm3⟩,bn3⟩:=P1.1.room (q:=k*5+3) (by omega)
           obtain ⟨⟨br4,bm4⟩,bn4⟩:=P1.1.room (q:=k*5+4) (by omega)
           have P2:=P1.1.at5 (i:=k) (F':=scG (swX P j k)) hlk (.string la.name) (.string la.level) (.int .i64 la.rank) (.int .i64 la.way) (.slice ai na ci) (by rw [HSW.out.2.1];rfl) (fun x hx=>by
            by_cases c:x=j
            ·subst c;rw [HSW.out.1,if_pos rfl]
            ·rw [HSW.out.2.2 x c hx,if_neg c])
           go_simp
           refine hK.out _ _ ⟨trivial,fun h=>by cases h⟩ ?_
           clear hK K br0 bm0 bn0 br1 bm1 bn1 br2 bm2 bn2 br3 bm3 bn3 br4 bm4 bn4
           generalize (((((w6.setCell ⟨gS,k*5,none⟩ (.string la.name)).setCell ⟨gS,k*5+1,none⟩ (.string la.level)).setCell ⟨gS,k*5+2,none⟩ (.int .i64 la.rank)).setCell ⟨gS,k*5+3,none⟩ (.int .i64 la.way)).setCell ⟨gS,k*5+4,none⟩ (.slice ai na ci))=wz at *
           refine AnyG.done (by kernel_rfl) ?_ _
           have HZ:Hd (∃ P,Iv w w0.heap.size gF (w.heap.size+1) gL gS #[.int .i64 D.total,.int .i64 D.period,.int .i64 D.perSeat,.int .i64 D.most,.slice (some ⟨gL,0,none⟩) D.levels.length cL,.slice (some ⟨gS,0,none⟩) D.schemas.length cS] D.levels.length D.schemas.length P0 wz M P∧P.Perm P0∧Xs ltP P j (k+1)):=⟨HX.out _ (ID.out.putS HCap.out.2.2.2 (P1.2.trans P2.2) P2.1)⟩
           clear P1 P2 W0 ID HX HSW ni nk ri rk
           go_wp2_with fail
           go_roundw
           case rel=>exact ⟨k+1,by omega,HK.out.2,by go_num,HZ⟩
           case measure=>have:=HK.out;simp [intOf];omega
          | false =>
           have hc:ltP (lb,.slice ak nb ck) (la,.slice ai na ci)=false:=by show ltS lb la=_;unfold ltS;simp [he,hn]
           have g1:decide (lb.rank<la.rank)=false:=decide_eq_false hr
           have g2:(lb.rank == la.rank)=true:=by rw [beq_iff_eq];exact he
           have bl:Op.bytesLess lb.name.toList la.name.toList=false:=by rw [txLt_of];exact hn
           clear he
           have HN:Hd (∀ n,∃ P,Iv w w0.heap.size gF (w.heap.size+1) gL gS #[.int .i64 D.total,.int .i64 D.period,.int .i64 D.perSeat,.int .i64 D.most,.slice (some ⟨gL,0,none⟩) D.levels.length cL,.slice (some ⟨gS,0,none⟩) D.schemas.length cS] D.levels.length D.schemas.length P0 (wr.drewN n) M P∧P.Perm P0∧Xs ltP P j (k+1)):=⟨fun n=>⟨P,hP.drew n,pP,xP.stay gi gk hc⟩⟩
           clear hJ hP pP xP lP gi gk Ei Ek hc
           clear hiP hkP
           go_wp2_with fail
           go_big_quiet (fail)
           go_wp2_with fail
           go_roundw
           case rel=>exact ⟨k+1,by omega,HK.out.2,by go_num,⟨HN.out _⟩⟩
           case measure=>have:=HK.out;simp [intOf];omega
         ·have hc:ltP (lb,.slice ak nb ck) (la,.slice ai na ci)=false:=by show ltS lb la=_;unfold ltS;simp [hr,he]
          have g1:decide (lb.rank<la.rank)=false:=decide_eq_false hr
          have g2:(lb.rank == la.rank)=false:=by rw [beq_eq_false_iff_ne];exact he
          have HN:Hd (∀ n,∃ P,Iv w w0.heap.size gF (w.heap.size+1) gL gS #[.int .i64 D.total,.int .i64 D.period,.int .i64 D.perSeat,.int .i64 D.most,.slice (some ⟨gL,0,none⟩) D.levels.length cL,.slice (some ⟨gS,0,none⟩) D.schemas.length cS] D.levels.length D.schemas.length P0 (wr.drewN n) M P∧P.Perm P0∧Xs ltP P j (k+1)):=⟨fun n=>⟨P,hP.drew n,pP,xP.stay gi gk hc⟩⟩
          clear hJ hP pP xP lP gi gk Ei Ek hc
          clear hiP hkP
          go_wp2_with fail
          go_big_quiet (fail)
          go_wp2_with fail
          go_roundw
          case rel=>exact ⟨k+1,by omega,HK.out.2,by go_num,⟨HN.out _⟩⟩
          case measure=>have:=HK.out;simp [intOf];omega
       ·have k0:¬ ((k:Int)<(D.schemas.length:Int)):=by omega
        have HN:Hd (∃ P,Iv w w0.heap.size gF (w.heap.size+1) gL gS #[.int .i64 D.total,.int .i64 D.period,.int .i64 D.perSeat,.int .i64 D.most,.slice (some ⟨gL,0,none⟩) D.levels.length cL,.slice (some ⟨gS,0,none⟩) D.schemas.length cS] D.levels.length D.schemas.length P0 wr M P∧P.Perm P0∧Xs ltP P (j+1) (j+1+1)):=⟨by
         obtain ⟨P,hP,pP,xP⟩:=hJ.out
         exact ⟨P,hP,pP,xP.next (by rw [pP.length_eq,HP0.out.2];omega)⟩⟩
        have HI:Hd (j<D.schemas.length):=⟨hlt⟩
        clear hJ
        go_wp2_with fail
        go_roundw
        case rel=>exact ⟨j+1,HI.out,by go_num,HN⟩
        case measure=>have:=HI.out;simp [intOf];omega
     ·have j1:¬ ((j:Int)<(D.schemas.length:Int)):=by omega
      obtain ⟨P,hP,pP,xP⟩:=hI.out
      have pS:(P.map (·.1)).Perm D.schemas:=by have:=pP.map (·.1);rw [HP0.out.1] at this;exact this
      have eP:P.map (·.1)=srtB ltS D.schemas:=srtB_one strictS HS.out.aptS pS (List.pairwise_map.2 (xP.done (by rw [pP.length_eq,HP0.out.2];omega)))
      have HE:Hd (tblC C=⟨D.total,D.period,D.perSeat,D.most,M,P.map (·.1)⟩):=⟨by rw [HT.out,← HPM.out.1,← eP]⟩
      have HFT:Hd (Fits ⟨D.total,D.period,D.perSeat,D.most,M,P.map (·.1)⟩):=⟨HFit.out.turn HPM.out.2 pS⟩
      have HLn:Hd (D.levels.length=M.length∧D.schemas.length=P.length∧P.Perm P0):=⟨HPM.out.2.length_eq.symm,(pP.length_eq.trans HP0.out.2).symm,pP⟩
      have HIv:Hd (Iv w w0.heap.size gF (w.heap.size+1) gL gS #[.int .i64 D.total,.int .i64 D.period,.int .i64 D.perSeat,.int .i64 D.most,.slice (some ⟨gL,0,none⟩) D.levels.length cL,.slice (some ⟨gS,0,none⟩) D.schemas.length cS] D.levels.length D.schemas.length P0 wr M P):=⟨hP⟩
      have PR:=rprint_ok (.agg #[.int .i64 D.total,.int .i64 D.period,.int .i64 D.perSeat,.int .i64 D.most,.slice (some ⟨gL,0,none⟩) D.levels.length cL,.slice (some ⟨gS,0,none⟩) D.schemas.length cS]) (tblC C) wr (by rw [HE.out];exact cfr_of hP.l hP.s hP.rl HLn.out.1 HLn.out.2.1 pP HFT.out ⟨HCap.out.1,HCap.out.2.1⟩) (by rw [HE.out];exact HG.out.1.turn HPM.out.2 pS) (by rw [HE.out];exact HG.out.2.turn HPM.out.2 pS) (by rw [HE.out];exact (HB.out.turn HPM.out.2 pS).mono (by omega))
      obtain ⟨⟨l0,l1,l2,l3,l4,l5⟩,-⟩:=hP.d.sixP
      have PE:=HPT.out HS.out
      have PS:=HPS.out
      have HO:Hd (mkE C=(printE (tblC C),⟨#[]⟩)):=⟨by rw [HD.out.1,if_pos HZ.out]⟩
      clear hI hP pP xP pS eP hj hlt k1
      by_cases hbig:65536<(outB (tblC C)).size
      ·rw [if_pos hbig] at PE
       rw [PE,if_neg (by decide)] at PS
       rw [PE,PS] at PR
       rw [PE] at HO
       clear hbig PE PS
       go_wp2_with fail
       go_at_call 29
       refine PR.mono ?_
       rintro e w6 ⟨rfl,b6⟩
       have I6:=HIv.out.grown b6
       have R6:=I6.r
       have B6:Hd (Below w.heap.size w w6):=⟨I6.b⟩
       obtain ⟨r0,r1,r2,r3,r4,r5,r6⟩:w6.cell? ⟨w.heap.size+1,0,none⟩=some _∧w6.cell? ⟨w.heap.size+1,1,none⟩=some _∧w6.cell? ⟨w.heap.size+1,2,none⟩=some _∧w6.cell? ⟨w.heap.size+1,3,none⟩=some _∧w6.cell? ⟨w.heap.size+1,4,none⟩=some _∧w6.cell? ⟨w.heap.size+1,5,none⟩=some _∧w6.cell? ⟨w.heap.size+1,6,none⟩=some _:=⟨R6.cellv 0 rfl,R6.cellv 1 rfl,R6.cellv 2 rfl,R6.cellv 3 rfl,R6.cellv 4 rfl,R6.cellv 5 rfl,R6.cellv 6 rfl⟩
       have f0:=R6.frozen 0
       have f1:=R6.frozen 1
       have f2:=R6.frozen 2
       have f3:=R6.frozen 3
       have f4:=R6.frozen 4
       have f5:=R6.frozen 5
       have f6:=R6.frozen 6
       clear l0 l1 l2 l3 l4 l5 b6 HIv I6 PR
       have HR6:Hd (Blk w6 (w.heap.size+1) 31 _):=⟨R6⟩
       clear R6
       go_wp2_with fail
       obtain ⟨q1,q2⟩:=seven_set HR6.out (.int .i64 0) (.int .i64 0) (.int .i64 0) (.int .i64 0) (.slice none 0 0) (.slice none 0 0) (.int .u64 0)
       refine bodyPost_ret (res11m _ _ _ _ _ _ _ _ _ _ _ _ rfl rfl rfl q1) rfl ?_
       have E1:¬ (mkE C).1=0:=by rw [HO.out];decide
       have E2:mkC C=cf0:=by rw [HD.out.2.1,if_neg E1]
       have E3:mkD C=0:=by rw [HD.out.2.2,if_neg E1]
       refine ⟨⟨.slice none 0 0,.slice none 0 0,?_,?_⟩,B6.out.trans (q2.below B6.out.size (fun k e=>by omega))⟩
       ·rw [HO.out,E2,E3];rfl
       ·rw [E2];exact cf0_r _
      ·rw [if_neg hbig] at PE
       rw [PE,if_pos rfl] at PS
       rw [PE,PS] at PR
       rw [PE] at HO
       have hsz:(outB (tblC C)).size≤9223372036854775807:=by omega
       have SM:=Fn.rsum_ok (outB (tblC C)) hsz
       have E1:(mkE C).1=0:=by rw [HO.out]
       have HE2:Hd (mkC C=tblC C):=⟨by rw [HD.out.2.1,if_pos E1]⟩
       have HE3:Hd (mkD C=Fn.sum (outB (tblC C))):=⟨by rw [HD.out.2.2,if_pos E1]⟩
       clear hbig PE PS E1
       generalize Fn.sum (outB (tblC C))=dg at *
       generalize outB (tblC C)=tx at *
       go_wp2_with fail
       go_at_call 29
       refine PR.mono ?_
       rintro e w6 ⟨rfl,b6⟩
       have I6:Hd (Iv w w0.heap.size gF (w.heap.size+1) gL gS #[.int .i64 D.total,.int .i64 D.period,.int .i64 D.perSeat,.int .i64 D.most,.slice (some ⟨gL,0,none⟩) D.levels.length cL,.slice (some ⟨gS,0,none⟩) D.schemas.length cS] D.levels.length D.schemas.length P0 w6 M P):=⟨HIv.out.grown b6⟩
       clear l0 l1 l2 l3 l4 l5 b6 HIv PR
       have R6:=I6.out.r
       obtain ⟨⟨l0,l1,l2,l3,l4,l5⟩,-⟩:=I6.out.d.sixP
       obtain ⟨r0,r1,r2,r3,r4,r5,r6⟩:w6.cell? ⟨w.heap.size+1,0,none⟩=some _∧w6.cell? ⟨w.heap.size+1,1,none⟩=some _∧w6.cell? ⟨w.heap.size+1,2,none⟩=some _∧w6.cell? ⟨w.heap.size+1,3,none⟩=some _∧w6.cell? ⟨w.heap.size+1,4,none⟩=some _∧w6.cell? ⟨w.heap.size+1,5,none⟩=some _∧w6.cell? ⟨w.heap.size+1,6,none⟩=some _:=⟨R6.cellv 0 rfl,R6.cellv 1 rfl,R6.cellv 2 rfl,R6.cellv 3 rfl,R6.cellv 4 rfl,R6.cellv 5 rfl,R6.cellv 6 rfl⟩
       have f0:=R6.frozen 0
       have f1:=R6.frozen 1
       have f2:=R6.frozen 2
       have f3:=R6.frozen 3
       have f4:=R6.frozen 4
       have f5:=R6.frozen 5
       have f6:=R6.frozen 6
       have HR6:Hd (Blk w6 (w.heap.size+1) 31 _):=⟨R6⟩
       clear R6
       go_wp2_with fail
       refine region_tail 3 (by kernel_rfl) ?_
       simp only [List.take_succ_cons,List.take_zero,List.drop_succ_cons,List.drop_zero]
       still_step
       still_step
       still_call (SM _)
       refine wpStill_nil ?_
       go_wp2_with fail
       obtain ⟨q1,q3⟩:=seven_setD HR6.out (.int .i64 D.total) (.int .i64 D.period) (.int .i64 D.perSeat) (.int .i64 D.most) (.slice (some ⟨gL,0,none⟩) D.levels.length cL) (.slice (some ⟨gS,0,none⟩) D.schemas.length cS) (.int .u64 dg)
       refine bodyPost_ret (res11m _ _ _ _ _ _ _ _ _ _ _ _ rfl rfl rfl q1) rfl ?_
       have o:∀ t,31≠t→Off t (fun k=>k=w.heap.size+1) w6:=fun t ht=>off_blk HR6.out ht
       have CF:=cfr_of (I6.out.l.offk q3 (o 43 (by decide))) (I6.out.s.offk q3 (o 47 (by decide))) (fun p hp=>(I6.out.rl p hp).off q3 (o 9 (by decide)) (o 54 (by decide))) HLn.out.1 HLn.out.2.1 HLn.out.2.2 HFT.out ⟨HCap.out.1,HCap.out.2.1⟩
       refine ⟨⟨.slice (some ⟨gL,0,none⟩) D.levels.length cL,.slice (some ⟨gS,0,none⟩) D.schemas.length cS,?_,?_⟩,I6.out.b.trans (q3.below I6.out.b.size (fun k e=>by omega))⟩
       ·rw [HO.out,HE2.out,HE3.out,HE.out];rfl
       ·rw [HE2.out,HE.out];exact CF
 ·have R3:Hd (Blk w3 (w.heap.size+1) 31 _):=⟨I3.out.r⟩
  have B3:Hd (Below w.heap.size w w3):=⟨I3.out.b⟩
  obtain ⟨r0,r1,r2,r3,r4,r5,r6⟩:w3.cell? ⟨w.heap.size+1,0,none⟩=some _∧w3.cell? ⟨w.heap.size+1,1,none⟩=some _∧w3.cell? ⟨w.heap.size+1,2,none⟩=some _∧w3.cell? ⟨w.heap.size+1,3,none⟩=some _∧w3.cell? ⟨w.heap.size+1,4,none⟩=some _∧w3.cell? ⟨w.heap.size+1,5,none⟩=some _∧w3.cell? ⟨w.heap.size+1,6,none⟩=some _:=⟨R3.out.cellv 0 rfl,R3.out.cellv 1 rfl,R3.out.cellv 2 rfl,R3.out.cellv 3 rfl,R3.out.cellv 4 rfl,R3.out.cellv 5 rfl,R3.out.cellv 6 rfl⟩
  have f0:=R3.out.frozen 0
  have f1:=R3.out.frozen 1
  have f2:=R3.out.frozen 2
  have f3:=R3.out.frozen 3
  have f4:=R3.out.frozen 4
  have f5:=R3.out.frozen 5
  have f6:=R3.out.frozen 6
  have HM:Hd (mkE C=chk D∧¬ (chk D).1=0):=⟨by rw [HD.out.1,if_neg hz],hz⟩
  have hz2:((chk D).1 == 0)=false:=by rw [beq_eq_false_iff_ne];exact hz
  clear I3
  generalize hcn:(chk D).1=cn at hz hz2 ⊢
  generalize hct:(chk D).2=ct
  have HN:Hd ((chk D).1=cn∧(chk D).2=ct):=⟨hcn,hct⟩
  clear hcn hct
  go_wp2_with fail
  obtain ⟨q1,q2⟩:=seven_set R3.out (.int .i64 0) (.int .i64 0) (.int .i64 0) (.int .i64 0) (.slice none 0 0) (.slice none 0 0) (.int .u64 0)
  refine bodyPost_ret (res11m _ _ _ _ _ _ _ _ _ _ _ _ rfl rfl rfl q1) rfl ?_
  have E1:¬ (mkE C).1=0:=by rw [HM.out.1];exact HM.out.2
  have E2:mkC C=cf0:=by rw [HD.out.2.1,if_neg E1]
  have E3:mkD C=0:=by rw [HD.out.2.2,if_neg E1]
  refine ⟨⟨.slice none 0 0,.slice none 0 0,?_,?_⟩,B3.out.trans (q2.below B3.out.size (fun k e=>by omega))⟩
  ·rw [E2,E3,HM.out.1,HN.out.1,HN.out.2];rfl
  ·rw [E2];exact cf0_r _
end Go.Proofs.YthkdbphgiobcdaaGreatDoor
