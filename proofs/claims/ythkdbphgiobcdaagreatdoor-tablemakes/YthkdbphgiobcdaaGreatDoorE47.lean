/-
  'Formed' of the reference.
  What 'Check' of the reference keeps.
-/
import Derived.Test.YthkdbphgiobcdaaGreatDoorE44
import Derived.Test.YthkdbphgiobcdaaGreatDoorE46
import Derived.Test.YthkdbphgiobcdaaGreatDoorE8
import Derived.Test.YthkdbphgiobcdaaGreatDoorE9
import Derived.Test.YthkdbphgiobcdaaGreatDoorE22
namespace Go.Proofs.YthkdbphgiobcdaaGreatDoor
open Go.RowKit Go.Lib
structure PF (w wr:World) (cs:Array Value) (L:List ByteArray) (a:Option Addr) (k:Nat) (C:Cf):Prop where
 bel:Below w.heap.size w wr
 res:Blk wr w.heap.size 25 cs
 box:∃ vL vS V,Blk wr (w.heap.size+1) 25 #[.int .i64 C.total,.int .i64 C.period,.int .i64 C.perSeat,.int .i64 C.most,vL,vS]∧LvOwn w.heap.size wr vL C.levels∧ScOwn w.heap.size wr vS C.schemas V
 row:RowY 0 wr a L
 fit:Fit C
 eE:goE cf0 L=goE C (L.drop k)
 eC:goC cf0 L=goC C (L.drop k)
theorem PF.grown {w wr w':World} {cs:Array Value} {L:List ByteArray} {a:Option Addr} {k:Nat} {C:Cf} (h:PF w wr cs L a k C) (b:Below wr.heap.size wr w'):PF w w' cs L a k C:=by
 have kk:Kept (fun _=>False) wr w':=Kept.of_below b _
 have f:∀ t,OffR t (fun _=>False) wr:=fun _ _ _ _ _=>id
 obtain ⟨vL,vS,V,h1,h2,h3⟩:=h.box
 exact ⟨h.bel.trans (b.mono h.bel.size),h.res.off kk (f _),⟨vL,vS,V,h1.off kk (f _),h2.off kk (f _),h3.off kk (f _) (f _) (f _)⟩,h.row.below b,h.fit,h.eE,h.eC⟩
theorem PF.next {w wr:World} {cs:Array Value} {L:List ByteArray} {a:Option Addr} {k:Nat} {C C':Cf} {vL vS:Value} {V:List Value} (h:PF w wr cs L a k C) (hk:k<L.length) (e:lineE C (wordsB (gt L k))=0) (ec:lineC C (wordsB (gt L k))=C') (hL:LvOwn w.heap.size wr vL C'.levels) (hS:ScOwn w.heap.size wr vS C'.schemas V) :
  PF w ((((((wr.setCell ⟨w.heap.size+1,0,none⟩ (.int .i64 C'.total)).setCell ⟨w.heap.size+1,1,none⟩ (.int .i64 C'.period)).setCell ⟨w.heap.size+1,2,none⟩ (.int .i64 C'.perSeat)).setCell ⟨w.heap.size+1,3,none⟩ (.int .i64 C'.most)).setCell ⟨w.heap.size+1,4,none⟩ vL).setCell ⟨w.heap.size+1,5,none⟩ vS) cs L a (k+1) C':=by
 obtain ⟨s1,s2,-⟩:=go_step0 hk e
 have hf:=fit_line h.fit e
 rw [ec] at s1 s2 hf
 obtain ⟨vL0,vS0,V0,h1,h2,h3⟩:=h.box
 have kk:Kept (fun k=>k=w.heap.size+1) wr ((((((wr.setCell ⟨w.heap.size+1,0,none⟩ (.int .i64 C'.total)).setCell ⟨w.heap.size+1,1,none⟩ (.int .i64 C'.period)).setCell ⟨w.heap.size+1,2,none⟩ (.int .i64 C'.perSeat)).setCell ⟨w.heap.size+1,3,none⟩ (.int .i64 C'.most)).setCell ⟨w.heap.size+1,4,none⟩ vL).setCell ⟨w.heap.size+1,5,none⟩ vS) :=
  ((((((Kept.refl (fun k=>k=w.heap.size+1) wr).setCell ⟨w.heap.size+1,0,none⟩ _ (.inl rfl)).setCell ⟨w.heap.size+1,1,none⟩ _ (.inl rfl)).setCell ⟨w.heap.size+1,2,none⟩ _ (.inl rfl)).setCell ⟨w.heap.size+1,3,none⟩ _ (.inl rfl)).setCell ⟨w.heap.size+1,4,none⟩ _ (.inl rfl)).setCell ⟨w.heap.size+1,5,none⟩ _ (.inl rfl)
 have o:∀ t,25≠t→OffR t (fun k=>k=w.heap.size+1) wr:=fun t ht=>off_blkR h1 ht
 exact ⟨h.bel.trans (kk.below h.bel.size (fun j hj=>by omega)),h.res.kept kk (by omega),
  ⟨vL,vS,V,(((((h1.set 0 _).set 1 _).set 2 _).set 3 _).set 4 _).set 5 _,hL.off kk (o 43 (by decide)),hS.off kk (o 9 (by decide)) (o 47 (by decide)) (o 54 (by decide))⟩,
  h.row.kept kk (o 9 (by decide)),hf,h.eE.trans s1,h.eC.trans s2⟩
theorem tail_fin {wr WA:World} {gA:Nat} {z0 z1 z2 z3 z4 z5 v0 v1 v2 v3 v4 v5:Value} (hg:wr.heap.size≤gA) (BA:Below wr.heap.size wr WA) (NB:Blk WA gA 25 #[z0,z1,z2,z3,z4,z5]) :
  Below wr.heap.size wr ((((((WA.setCell ⟨gA,0,none⟩ v0).setCell ⟨gA,1,none⟩ v1).setCell ⟨gA,2,none⟩ v2).setCell ⟨gA,3,none⟩ v3).setCell ⟨gA,4,none⟩ v4).setCell ⟨gA,5,none⟩ v5)∧Blk ((((((WA.setCell ⟨gA,0,none⟩ v0).setCell ⟨gA,1,none⟩ v1).setCell ⟨gA,2,none⟩ v2).setCell ⟨gA,3,none⟩ v3).setCell ⟨gA,4,none⟩ v4).setCell ⟨gA,5,none⟩ v5) gA 25 #[v0,v1,v2,v3,v4,v5]∧∀ B v D,CfV B WA v D→CfV B ((((((WA.setCell ⟨gA,0,none⟩ v0).setCell ⟨gA,1,none⟩ v1).setCell ⟨gA,2,none⟩ v2).setCell ⟨gA,3,none⟩ v3).setCell ⟨gA,4,none⟩ v4).setCell ⟨gA,5,none⟩ v5) v D:=by
 have kk:Kept (fun k=>k=gA) WA ((((((WA.setCell ⟨gA,0,none⟩ v0).setCell ⟨gA,1,none⟩ v1).setCell ⟨gA,2,none⟩ v2).setCell ⟨gA,3,none⟩ v3).setCell ⟨gA,4,none⟩ v4).setCell ⟨gA,5,none⟩ v5) :=
  ((((((Kept.refl (fun k=>k=gA) WA).setCell ⟨gA,0,none⟩ _ (.inl rfl)).setCell ⟨gA,1,none⟩ _ (.inl rfl)).setCell ⟨gA,2,none⟩ _ (.inl rfl)).setCell ⟨gA,3,none⟩ _ (.inl rfl)).setCell ⟨gA,4,none⟩ _ (.inl rfl)).setCell ⟨gA,5,none⟩ _ (.inl rfl)
 have o:∀ t,25≠t→OffR t (fun k=>k=gA) WA:=fun t ht=>off_blkR NB ht
 exact ⟨BA.trans (kk.below BA.size (fun j hj=>by omega)),(((((NB.set 0 _).set 1 _).set 2 _).set 3 _).set 4 _).set 5 _,fun B v D h=>h.off kk (o 9 (by decide)) (o 43 (by decide)) (o 47 (by decide)) (o 54 (by decide))⟩
set_option maxRecDepth 20000 in
set_option maxHeartbeats 16000000 in
theorem rformed_ok (v:Value) (C0:Cf) (w:World) (h:CfR w v C0) (g:Wfc C0) (nm:Nms C0) (hb:Bnd 900 C0) :
  Calls Tryz.prog 63 #[v] w fun e w'=>e=.returned (.bool (formed C0))∧Below w.heap.size w w':=by
 have hsz:Hd (∀ k,(gt (rLines C0) k).size≤9000):=⟨fun k=>by
  by_cases h:k<(rLines C0).length
  ·exact lin_le g nm _ (gt_mem h)
  ·have e:gt (rLines C0) k=⟨#[]⟩:=by unfold gt;simp [List.getD,List.getElem?_eq_none (Nat.le_of_not_lt h)]
   rw [e];exact Nat.zero_le _⟩
 have hhd:Hd (∀ k,k<(rLines C0).length→Head (gt (rLines C0) k)):=⟨fun k hk=>head_all C0 _ (gt_mem hk)⟩
 have HNO:Hd (goE cf0 (rLines C0)≠0→formed C0=false):=⟨fun h=>by
  cases hf:formed C0 with
  | false=>rfl
  | true=>exact absurd ((ref_formed C0).2 hf).1 h⟩
 have HYE:Hd (goE cf0 (rLines C0)=0→Formed (goC cf0 (rLines C0))∧@decide (C0=goC cf0 (rLines C0)) (Classical.propDecidable _)=formed C0):=⟨fun h=>by
  refine ⟨(go_formed (rLines C0) cf0 formed0 h).1,?_⟩
  cases hf:formed C0 with
  | false=>exact @decide_eq_false _ (Classical.propDecidable _) (fun e=>by have:=(ref_formed C0).1 ⟨h,e.symm⟩;rw [hf] at this;cases this)
  | true=>exact @decide_eq_true _ (Classical.propDecidable _) ((ref_formed C0).2 hf).2.symm⟩
 have HC:Hd (∀ W,Below w.heap.size w W→CfR W v C0):=⟨fun W b=>h.carry b⟩
 have HCALL:Hd (∀ W,Below w.heap.size w W→Calls Tryz.prog 66 #[v] W fun e w'=>∃ u,e=.returned u∧OwnT W.heap.size w' u (rLines C0)∧Below W.heap.size W w'):=⟨fun W b=>rlines_ok v C0 W (h.carry b) g nm hb⟩
 have HSAME:Hd (∀ W D v',Below w.heap.size w W→CfR W v' D→Calls Tryz.prog 14 #[v,v'] W fun e w'=>e=.returned (.bool (@decide (C0=D) (Classical.propDecidable _)))∧Below W.heap.size W w'):=⟨fun W D v' b h'=>same_dec (h.carry b) h'⟩
 generalize rLines C0=L at *
 generalize formed C0=bb at *
 have hs6:Six v:=by
  obtain ⟨aL,cL,aS,cS,V0,rfl,-⟩:=h.ex
  exact ⟨_,_,_,_,_,_,_,_,_,_,rfl⟩
 clear h g nm hb
 obtain ⟨x0,x1,x2,x3,aL,nL,cL,aS,nS,cS,rfl⟩:=hs6
 go_enter Tryz.func63,Tryz.ntmps63
 go_upto_region 2 with fail
 generalize hw2:World.alloc _ _=w2
 have N0:Hd (Blk w2 w.heap.size 25 #[.int .i64 x0,.int .i64 x1,.int .i64 x2,.int .i64 x3,.slice aL nL cL,.slice aS nS cS]∧Blk w2 (w.heap.size+1) 25 #[.int .i64 0,.int .i64 0,.int .i64 0,.int .i64 0,.slice none 0 0,.slice none 0 0]∧Below w.heap.size w w2):=⟨by
  rw [←hw2]
  have b1:Below w.heap.size w (w.alloc (.cells #[.int .i64 x0,.int .i64 x1,.int .i64 x2,.int .i64 x3,.slice aL nL cL,.slice aS nS cS] 25)):=(Below.refl _ _).alloc (Nat.le_refl _) _
  have b2:Below (w.alloc (.cells #[.int .i64 x0,.int .i64 x1,.int .i64 x2,.int .i64 x3,.slice aL nL cL,.slice aS nS cS] 25)).heap.size (w.alloc (.cells #[.int .i64 x0,.int .i64 x1,.int .i64 x2,.int .i64 x3,.slice aL nL cL,.slice aS nS cS] 25)) ((w.alloc (.cells #[.int .i64 x0,.int .i64 x1,.int .i64 x2,.int .i64 x3,.slice aL nL cL,.slice aS nS cS] 25)).alloc (.cells #[.int .i64 0,.int .i64 0,.int .i64 0,.int .i64 0,.slice none 0 0,.slice none 0 0] 25)):=(Below.refl _ _).alloc (Nat.le_refl _) _
  have n2:=Blk.new (w.alloc (.cells #[.int .i64 x0,.int .i64 x1,.int .i64 x2,.int .i64 x3,.slice aL nL cL,.slice aS nS cS] 25)) 25 #[.int .i64 0,.int .i64 0,.int .i64 0,.int .i64 0,.slice none 0 0,.slice none 0 0]
  have e2:(w.alloc (.cells #[.int .i64 x0,.int .i64 x1,.int .i64 x2,.int .i64 x3,.slice aL nL cL,.slice aS nS cS] 25)).heap.size=w.heap.size+1:=by simp
  rw [e2] at n2
  exact ⟨(Blk.new w 25 _).kept (Kept.of_below b2 (fun _=>False)) id,n2,b1.trans (b2.mono b1.size)⟩⟩
 clear hw2
 obtain ⟨⟨q0,q1,q2,q3,q4,q5⟩,-⟩:=N0.out.1.six
 go_wp2_with (go_at_call 66;refine (HCALL.out _ N0.out.2.2).mono ?_;rintro e w3 ⟨u,rfl,ho,b3⟩)
 obtain ⟨a,c,rfl,r3,hlen⟩:=own_rowY ho
 obtain ⟨n,hn⟩:∃ n,n=L.length:=⟨_,rfl⟩
 rw [←hn] at hlen ⊢
 have HN:Hd (n=L.length):=⟨hn⟩
 clear hn
 have P0:Hd (PF w w3 #[.int .i64 x0,.int .i64 x1,.int .i64 x2,.int .i64 x3,.slice aL nL cL,.slice aS nS cS] L a 0 cf0):=⟨by
  have kk:Kept (fun _=>False) w2 w3:=Kept.of_below b3 _
  have f:∀ t,OffR t (fun _=>False) w2:=fun _ _ _ _ _=>id
  exact ⟨N0.out.2.2.trans (b3.mono N0.out.2.2.size),N0.out.1.off kk (f _),⟨_,_,[],N0.out.2.1.off kk (f _),World.ownsRow_nil _ _ _ _,⟨rfl,World.ownsRow_nil _ _ _ _,fun _ h=>absurd h (Nat.not_lt_zero _)⟩⟩,r3.mono (Nat.zero_le _),fit0,rfl,rfl⟩⟩
 clear r3 b3 N0 ho HCALL q0 q1 q2 q3 q4 q5
 go_wp2_with fail
 go_loopw [5,6,7] (fun i u6 u7 wr=>∃ (k:Nat) (C:Cf),k≤n∧i=.int .i64 k∧Hd (PF w wr #[.int .i64 x0,.int .i64 x1,.int .i64 x2,.int .i64 x3,.slice aL nL cL,.slice aS nS cS] L a k C)) (fun i _ _ _=>n - (intOf i).toNat)
 case atStart=>exact ⟨0,cf0,Nat.zero_le _,rfl,P0⟩
 case round =>
  obtain ⟨k,C,hk,rfl,hP⟩:=hrel
  clear P0
  by_cases hlt:k<n
  ·have hkL:k<L.length:=by rw [←HN.out];exact hlt
   obtain ⟨b,off,rfl,hbl,hcs⟩:=hP.out.row.row (by omega)
   have hcell:=hcs k hkL
   have hx:=hsz.out k
   obtain ⟨y,r,hw,h35⟩:=(hhd.out k hkL).ex
   have HNX:Hd (∀ (wr:World) (C':Cf) (vL vS:Value) (V:List Value),PF w wr #[.int .i64 x0,.int .i64 x1,.int .i64 x2,.int .i64 x3,.slice aL nL cL,.slice aS nS cS] L (some ⟨b,off,none⟩) k C→lineE C (wordsB (gt L k))=0→lineC C (wordsB (gt L k))=C'→LvOwn w.heap.size wr vL C'.levels→ScOwn w.heap.size wr vS C'.schemas V→_):=⟨fun wr C' vL vS V h e1 e2 h1 h2=>h.next hkL e1 e2 h1 h2⟩
   have HS1:Hd (lineE C (wordsB (gt L k))≠0→bb=false):=⟨fun h=>by
    obtain ⟨s1,-,-⟩:=go_step1 hkL h
    exact HNO.out (by rw [hP.out.eE.trans s1];exact h)⟩
   clear hcs hkL
   generalize gt L k=x at *
   have WY:=fun W=>rwords_ok x W (by omega)
   have wl:=words_len x
   have ws6:=words_sh x (by omega)
   rw [hw] at WY wl ws6 HNX HS1
   have hsil:silent (y :: r)=false:=h35
   have le:lineE C (y :: r)=tellE C y r:=by unfold lineE;rw [hsil];rfl
   have lc:lineC C (y :: r)=tellC C y r:=by unfold lineC;rw [hsil];rfl
   rw [le,lc] at HNX
   rw [le] at HS1
   have HPP:Hd (∀ W,Below wr.heap.size wr W→PF w W #[.int .i64 x0,.int .i64 x1,.int .i64 x2,.int .i64 x3,.slice aL nL cL,.slice aS nS cS] L (some ⟨b,off,none⟩) k C):=⟨fun W b4=>hP.out.grown b4⟩
   have HWY:Hd (∀ W,Calls Tryz.prog 120 #[.string x] W fun e w'=>∃ a c,e=.returned (.slice a (y :: r).length c)∧RowL w' a (y :: r)∧Below W.heap.size W w'):=⟨WY⟩
   obtain ⟨vL,vS,V,hbx,hL,hS⟩:=hP.out.box
   have HLN:Hd (∀ W a4 c4,Below wr.heap.size wr W→RowL W a4 (y :: r)→Calls Tryz.prog 119 #[.agg #[.int .i64 C.total,.int .i64 C.period,.int .i64 C.perSeat,.int .i64 C.most,vL,vS],.slice a4 (y :: r).length c4] W fun e w'=>∃ v',e=.returned (.tuple #[v',.int .i64 (tellE C y r)])∧Below W.heap.size W w'∧Six v'∧(tellE C y r=0→CfV w.heap.size w' v' (tellC C y r))):=⟨fun W a4 c4 b4 r4=>by
    have kk:Kept (fun _=>False) wr W:=Kept.of_below b4 _
    have f:∀ t,OffR t (fun _=>False) wr:=fun _ _ _ _ _=>id
    exact rline_ok (B:=w.heap.size) a4 c4 (y :: r) W C _ ⟨vL,vS,V,rfl,hL.off kk (f _),hS.off kk (f _) (f _) (f _)⟩ r4 (by simp) ws6 hP.out.fit (Nat.le_trans hP.out.bel.size b4.size)⟩
   obtain ⟨aL',cL',rfl⟩:=own_form hL
   obtain ⟨aS',cS',rfl⟩:=own_form hS.own
   obtain ⟨⟨y0,y1,y2,y3,y4,y5⟩,z0,z1,z2,z3,z4,z5⟩:=hbx.six
   have hb2:=hbx.lt
   rw [List.length_cons] at wl HLN HWY
   generalize tellE C y r=E at *
   generalize tellC C y r=D at *
   generalize r.length=m at *
   have HK:Hd (k<n):=⟨hlt⟩
   clear hP WY ws6 hsil h35 le lc hL hS hbx hw
   go_upto_region 6 with fail
   have DR:Below wr.heap.size wr wr.drew:=⟨rfl,rfl,rfl,Nat.le_refl _,fun _ _=>rfl⟩
   refine AnyG.start (T:=fun w'=>Below wr.heap.size wr w') (U:=fun _=>True) (j0:=100) (by kernel_rfl) ?_
   generalize wr.drew=w0 at *
   refine .tq 0 17 DR ?_ (hy:=fun W hSw=>by have s0:=(hSw.cell (p:=⟨w.heap.size+1,0,none⟩) hb2).trans y0;have s1:=(hSw.cell (p:=⟨w.heap.size+1,1,none⟩) hb2).trans y1;have s2:=(hSw.cell (p:=⟨w.heap.size+1,2,none⟩) hb2).trans y2;have s3:=(hSw.cell (p:=⟨w.heap.size+1,3,none⟩) hb2).trans y3;have s4:=(hSw.cell (p:=⟨w.heap.size+1,4,none⟩) hb2).trans y4;have s5:=(hSw.cell (p:=⟨w.heap.size+1,5,none⟩) hb2).trans y5;go_simp;rfl);simp only [tkA,tkB,tkC]
   refine .tq 1 18 DR ?_;simp only [tkA,tkB,tkC]
   refine .tq 2 19 DR ?_;simp only [tkA,tkB,tkC]
   refine .tq 3 20 DR ?_;simp only [tkA,tkB,tkC]
   refine .tq 4 21 DR ?_ (hy:=fun W hSw=>by have s0:=(hSw.cell (p:=⟨b,off+k,none⟩) hbl).trans hcell;go_simp;rfl);simp only [tkA,tkB,tkC]
   refine AnyG.ready (rs:=[5,10]) (by kernel_rfl) (by simp) ?_
   refine AllG.cons rfl (fun K hK=>?_) (AllG.cons rfl (fun K hK=>?_) AllG.nil)
   ·skip
    go_simp
    refine (HWY.out _).mono ?_
    rintro e w4 ⟨a4,c4,rfl,r4,b4⟩
    have B4:Below wr.heap.size wr w4:=DR.trans (b4.mono DR.size)
    refine hK.out _ _ ⟨B4,fun _=>trivial⟩ ?_
    clear hK K b4
    refine AnyG.ready (rs:=[6,10]) (by kernel_rfl) (by simp) ?_
    refine AllG.cons rfl (fun K hK=>?_) (AllG.cons rfl (fun K hK=>?_) AllG.nil)
    ·skip
     go_simp
     refine (HLN.out _ _ _ B4 r4).mono ?_
     rintro e w5 ⟨v5,rfl,b5,⟨h0,h1,h2,h3,a1,n1,c1,a2,n2,c2,rfl⟩,cf⟩
     have B5:Below wr.heap.size wr w5:=B4.trans (b5.mono B4.size)
     refine hK.out _ _ ⟨B5,fun _=>trivial⟩ ?_
     clear hK K b5
     refine .tq 7 16 B5 ?_;simp only [tkA,tkB,tkC]
     refine .tq 8 24 B5 ?_;simp only [tkA,tkB,tkC]
     refine .tq 9 25 B5 ?_;simp only [tkA,tkB,tkC]
     refine AnyG.ready (rs:=[10]) (by kernel_rfl) (by simp) ?_
     refine AllG.cons rfl (fun K hK=>?_) AllG.nil
     go_simp
     have AL7:=alloc_below w5 (.cells #[.int .i64 0,.int .i64 0,.int .i64 0,.int .i64 0,.slice none 0 0,.slice none 0 0] 25)
     have BA7:Below wr.heap.size wr (w5.alloc (.cells #[.int .i64 0,.int .i64 0,.int .i64 0,.int .i64 0,.slice none 0 0,.slice none 0 0] 25)):=B5.trans (AL7.mono B5.size)
     have NB7:=Blk.new w5 25 #[.int .i64 0,.int .i64 0,.int .i64 0,.int .i64 0,.slice none 0 0,.slice none 0 0]
     have hgA:Hd (wr.heap.size≤w5.heap.size):=⟨B5.size⟩
     have cf7:E=0→CfV w.heap.size (w5.alloc (.cells #[.int .i64 0,.int .i64 0,.int .i64 0,.int .i64 0,.slice none 0 0,.slice none 0 0] 25)) (.agg #[.int .i64 h0,.int .i64 h1,.int .i64 h2,.int .i64 h3,.slice a1 n1 c1,.slice a2 n2 c2]) D:=fun h=>(cf h).off (Kept.of_below AL7 (fun _=>False)) (fun _ _ _ _=>id) (fun _ _ _ _=>id) (fun _ _ _ _=>id) (fun _ _ _ _=>id)
     refine hK.out _ _ ⟨BA7,fun _=>trivial⟩ ?_
     clear hK K AL7
     generalize w5.alloc (.cells #[.int .i64 0,.int .i64 0,.int .i64 0,.int .i64 0,.slice none 0 0,.slice none 0 0] 25)=wA at *
     generalize w5.heap.size=gA at *
     obtain ⟨⟨o0,o1,o2,o3,o4,o5⟩,p0,p1,p2,p3,p4,p5⟩:=NB7.six
     obtain ⟨BS,NS,CS⟩:=tail_fin (v0:=.int .i64 h0) (v1:=.int .i64 h1) (v2:=.int .i64 h2) (v3:=.int .i64 h3) (v4:=.slice a1 n1 c1) (v5:=.slice a2 n2 c2) hgA.out BA7 NB7
     have HC6:Hd _:=⟨fun h=>CS _ _ _ (cf7 h)⟩
     have P6:Hd _:=⟨HPP.out _ BS⟩
     refine AnyG.ready (rs:=[11]) (by kernel_rfl) (by simp) ?_
     refine AllG.cons rfl (fun K hK=>?_) AllG.nil
     go_simp
     refine hK.out _ _ ⟨BS,fun _=>trivial⟩ ?_
     clear hK K CS cf7 NB7 o0 o1 o2 o3 o4 o5 p0 p1 p2 p3 p4 p5
     generalize World.setCell _ _ _=w6 at *
     refine .tq 12 7 BS ?_;simp only [tkA,tkB,tkC]
     refine AnyG.done (by kernel_rfl) ?_ _
     obtain ⟨⟨u0,u1,u2,u3,u4,u5⟩,-⟩:=NS.six
     clear NS y0 y1 y2 y3 y4 y5 z0 z1 z2 z3 z4 z5 hcell HWY HLN
     by_cases hE:E=0
     ·subst hE
      have cf9:=HC6.out rfl
      obtain ⟨vL',vS',V',e',hL',hS'⟩:=cf9
      have e2:h0=D.total∧h1=D.period∧h2=D.perSeat∧h3=D.most∧vL'=.slice a1 n1 c1∧vS'=.slice a2 n2 c2:=by
       injection e' with e'
       simp at e'
       exact ⟨e'.1,e'.2.1,e'.2.2.1,e'.2.2.2.1,e'.2.2.2.2.1.symm,e'.2.2.2.2.2.symm⟩
      obtain ⟨rfl,rfl,rfl,rfl,rfl,rfl⟩:=e2
      have P7:Hd _:=⟨HNX.out w6 D _ _ V' P6.out rfl rfl hL' hS'⟩
      obtain ⟨vL,vS,V,hbx,-,-⟩:=P6.out.box
      obtain ⟨⟨y0,y1,y2,y3,y4,y5⟩,z0,z1,z2,z3,z4,z5⟩:=hbx.six
      clear hbx HC6 HNX HS1 hL' hS' e'
      go_wp2_with fail
      go_roundw
      case rel=>exact ⟨k+1,D,HK.out,by go_num,P7⟩
      case measure=>have:=HK.out;simp [intOf];omega
     ·have e0:(E != 0)=true:=by simpa using hE
      have HF:Hd (bb=false):=⟨HS1.out hE⟩
      clear HC6 HNX HS1 hE
      go_wp2_with fail
      go_ret
      exact ⟨by rw [HF.out];rfl,P6.out.bel⟩
    ·skip
     go_simp
     have AL6:=alloc_below w4 (.cells #[.int .i64 0,.int .i64 0,.int .i64 0,.int .i64 0,.slice none 0 0,.slice none 0 0] 25)
     have BA6:Below wr.heap.size wr (w4.alloc (.cells #[.int .i64 0,.int .i64 0,.int .i64 0,.int .i64 0,.slice none 0 0,.slice none 0 0] 25)):=B4.trans (AL6.mono B4.size)
     have NB6:=Blk.new w4 25 #[.int .i64 0,.int .i64 0,.int .i64 0,.int .i64 0,.slice none 0 0,.slice none 0 0]
     have hgA:Hd (wr.heap.size≤w4.heap.size):=⟨B4.size⟩
     have r6:RowL (w4.alloc (.cells #[.int .i64 0,.int .i64 0,.int .i64 0,.int .i64 0,.slice none 0 0,.slice none 0 0] 25)) a4 (y :: r):=r4.carry AL6
     refine hK.out _ _ ⟨BA6,fun _=>trivial⟩ ?_
     clear hK K AL6
     generalize w4.alloc (.cells #[.int .i64 0,.int .i64 0,.int .i64 0,.int .i64 0,.slice none 0 0,.slice none 0 0] 25)=wA at *
     generalize w4.heap.size=gA at *
     refine AnyG.ready (rs:=[6]) (by kernel_rfl) (by simp) ?_
     refine AllG.cons rfl (fun K hK=>?_) AllG.nil
     go_simp
     refine (HLN.out _ _ _ BA6 r6).mono ?_
     rintro e w5 ⟨v5,rfl,b5,⟨h0,h1,h2,h3,a1,n1,c1,a2,n2,c2,rfl⟩,cf⟩
     have B5:Below wr.heap.size wr w5:=BA6.trans (b5.mono BA6.size)
     have NB8:=NB6.kept (Kept.of_below b5 (fun _=>False)) id
     refine hK.out _ _ ⟨B5,fun _=>trivial⟩ ?_
     clear hK K b5
     refine .tq 7 16 B5 ?_;simp only [tkA,tkB,tkC]
     refine .tq 8 24 B5 ?_;simp only [tkA,tkB,tkC]
     refine .tq 9 25 B5 ?_;simp only [tkA,tkB,tkC]
     obtain ⟨⟨o0,o1,o2,o3,o4,o5⟩,p0,p1,p2,p3,p4,p5⟩:=NB8.six
     obtain ⟨BS,NS,CS⟩:=tail_fin (v0:=.int .i64 h0) (v1:=.int .i64 h1) (v2:=.int .i64 h2) (v3:=.int .i64 h3) (v4:=.slice a1 n1 c1) (v5:=.slice a2 n2 c2) hgA.out B5 NB8
     have HC6:Hd _:=⟨fun h=>CS _ _ _ (cf h)⟩
     have P6:Hd _:=⟨HPP.out _ BS⟩
     refine AnyG.ready (rs:=[11]) (by kernel_rfl) (by simp) ?_
     refine AllG.cons rfl (fun K hK=>?_) AllG.nil
     go_simp
     refine hK.out _ _ ⟨BS,fun _=>trivial⟩ ?_
     clear hK K CS cf NB8 o0 o1 o2 o3 o4 o5 p0 p1 p2 p3 p4 p5
     generalize World.setCell _ _ _=w6 at *
     refine .tq 12 7 BS ?_;simp only [tkA,tkB,tkC]
     refine AnyG.done (by kernel_rfl) ?_ _
     obtain ⟨⟨u0,u1,u2,u3,u4,u5⟩,-⟩:=NS.six
     clear NS y0 y1 y2 y3 y4 y5 z0 z1 z2 z3 z4 z5 hcell HWY HLN
     by_cases hE:E=0
     ·subst hE
      have cf9:=HC6.out rfl
      obtain ⟨vL',vS',V',e',hL',hS'⟩:=cf9
      have e2:h0=D.total∧h1=D.period∧h2=D.perSeat∧h3=D.most∧vL'=.slice a1 n1 c1∧vS'=.slice a2 n2 c2:=by
       injection e' with e'
       simp at e'
       exact ⟨e'.1,e'.2.1,e'.2.2.1,e'.2.2.2.1,e'.2.2.2.2.1.symm,e'.2.2.2.2.2.symm⟩
      obtain ⟨rfl,rfl,rfl,rfl,rfl,rfl⟩:=e2
      have P7:Hd _:=⟨HNX.out w6 D _ _ V' P6.out rfl rfl hL' hS'⟩
      obtain ⟨vL,vS,V,hbx,-,-⟩:=P6.out.box
      obtain ⟨⟨y0,y1,y2,y3,y4,y5⟩,z0,z1,z2,z3,z4,z5⟩:=hbx.six
      clear hbx HC6 HNX HS1 hL' hS' e'
      go_wp2_with fail
      go_roundw
      case rel=>exact ⟨k+1,D,HK.out,by go_num,P7⟩
      case measure=>have:=HK.out;simp [intOf];omega
     ·have e0:(E != 0)=true:=by simpa using hE
      have HF:Hd (bb=false):=⟨HS1.out hE⟩
      clear HC6 HNX HS1 hE
      go_wp2_with fail
      go_ret
      exact ⟨by rw [HF.out];rfl,P6.out.bel⟩
   ·skip
    go_simp
    have AL5:=alloc_below w0 (.cells #[.int .i64 0,.int .i64 0,.int .i64 0,.int .i64 0,.slice none 0 0,.slice none 0 0] 25)
    have BA5:Below wr.heap.size wr (w0.alloc (.cells #[.int .i64 0,.int .i64 0,.int .i64 0,.int .i64 0,.slice none 0 0,.slice none 0 0] 25)):=DR.trans (AL5.mono DR.size)
    have NB5:=Blk.new w0 25 #[.int .i64 0,.int .i64 0,.int .i64 0,.int .i64 0,.slice none 0 0,.slice none 0 0]
    have hgA:Hd (wr.heap.size≤w0.heap.size):=⟨DR.size⟩
    refine hK.out _ _ ⟨BA5,fun _=>trivial⟩ ?_
    clear hK K AL5
    generalize w0.alloc (.cells #[.int .i64 0,.int .i64 0,.int .i64 0,.int .i64 0,.slice none 0 0,.slice none 0 0] 25)=wA at *
    generalize w0.heap.size=gA at *
    refine AnyG.ready (rs:=[5]) (by kernel_rfl) (by simp) ?_
    refine AllG.cons rfl (fun K hK=>?_) AllG.nil
    go_simp
    refine (HWY.out _).mono ?_
    rintro e w4 ⟨a4,c4,rfl,r4,b4⟩
    have B4:Below wr.heap.size wr w4:=BA5.trans (b4.mono BA5.size)
    have NB4:=NB5.kept (Kept.of_below b4 (fun _=>False)) id
    refine hK.out _ _ ⟨B4,fun _=>trivial⟩ ?_
    clear hK K b4
    refine AnyG.ready (rs:=[6]) (by kernel_rfl) (by simp) ?_
    refine AllG.cons rfl (fun K hK=>?_) AllG.nil
    go_simp
    refine (HLN.out _ _ _ B4 r4).mono ?_
    rintro e w5 ⟨v5,rfl,b5,⟨h0,h1,h2,h3,a1,n1,c1,a2,n2,c2,rfl⟩,cf⟩
    have B5:Below wr.heap.size wr w5:=B4.trans (b5.mono B4.size)
    have NB8:=NB4.kept (Kept.of_below b5 (fun _=>False)) id
    refine hK.out _ _ ⟨B5,fun _=>trivial⟩ ?_
    clear hK K b5
    refine .tq 7 16 B5 ?_;simp only [tkA,tkB,tkC]
    refine .tq 8 24 B5 ?_;simp only [tkA,tkB,tkC]
    refine .tq 9 25 B5 ?_;simp only [tkA,tkB,tkC]
    obtain ⟨⟨o0,o1,o2,o3,o4,o5⟩,p0,p1,p2,p3,p4,p5⟩:=NB8.six
    obtain ⟨BS,NS,CS⟩:=tail_fin (v0:=.int .i64 h0) (v1:=.int .i64 h1) (v2:=.int .i64 h2) (v3:=.int .i64 h3) (v4:=.slice a1 n1 c1) (v5:=.slice a2 n2 c2) hgA.out B5 NB8
    have HC6:Hd _:=⟨fun h=>CS _ _ _ (cf h)⟩
    have P6:Hd _:=⟨HPP.out _ BS⟩
    refine AnyG.ready (rs:=[11]) (by kernel_rfl) (by simp) ?_
    refine AllG.cons rfl (fun K hK=>?_) AllG.nil
    go_simp
    refine hK.out _ _ ⟨BS,fun _=>trivial⟩ ?_
    clear hK K CS cf NB8 o0 o1 o2 o3 o4 o5 p0 p1 p2 p3 p4 p5
    generalize World.setCell _ _ _=w6 at *
    refine .tq 12 7 BS ?_;simp only [tkA,tkB,tkC]
    refine AnyG.done (by kernel_rfl) ?_ _
    obtain ⟨⟨u0,u1,u2,u3,u4,u5⟩,-⟩:=NS.six
    clear NS y0 y1 y2 y3 y4 y5 z0 z1 z2 z3 z4 z5 hcell HWY HLN
    by_cases hE:E=0
    ·subst hE
     have cf9:=HC6.out rfl
     obtain ⟨vL',vS',V',e',hL',hS'⟩:=cf9
     have e2:h0=D.total∧h1=D.period∧h2=D.perSeat∧h3=D.most∧vL'=.slice a1 n1 c1∧vS'=.slice a2 n2 c2:=by
      injection e' with e'
      simp at e'
      exact ⟨e'.1,e'.2.1,e'.2.2.1,e'.2.2.2.1,e'.2.2.2.2.1.symm,e'.2.2.2.2.2.symm⟩
     obtain ⟨rfl,rfl,rfl,rfl,rfl,rfl⟩:=e2
     have P7:Hd _:=⟨HNX.out w6 D _ _ V' P6.out rfl rfl hL' hS'⟩
     obtain ⟨vL,vS,V,hbx,-,-⟩:=P6.out.box
     obtain ⟨⟨y0,y1,y2,y3,y4,y5⟩,z0,z1,z2,z3,z4,z5⟩:=hbx.six
     clear hbx HC6 HNX HS1 hL' hS' e'
     go_wp2_with fail
     go_roundw
     case rel=>exact ⟨k+1,D,HK.out,by go_num,P7⟩
     case measure=>have:=HK.out;simp [intOf];omega
    ·have e0:(E != 0)=true:=by simpa using hE
     have HF:Hd (bb=false):=⟨HS1.out hE⟩
     clear HC6 HNX HS1 hE
     go_wp2_with fail
     go_ret
     exact ⟨by rw [HF.out];rfl,P6.out.bel⟩
  ·obtain rfl:k=n:=by omega
   have hd:L.drop k=[]:=List.drop_eq_nil_of_le (by rw [←HN.out];exact Nat.le_refl _)
   have HQ:goE cf0 L=0∧goC cf0 L=C:=⟨by rw [hP.out.eE,hd];rfl,by rw [hP.out.eC,hd];rfl⟩
   obtain ⟨HF,HD⟩:=HYE.out HQ.1
   rw [HQ.2] at HF HD
   obtain ⟨vL,vS,V,hbx,hL,hS⟩:=hP.out.box
   have HV:CfR wr (.agg #[.int .i64 C.total,.int .i64 C.period,.int .i64 C.perSeat,.int .i64 C.most,vL,vS]) C:=CfV.read ⟨vL,vS,V,rfl,hL,hS⟩ HF
   obtain ⟨aL',cL',rfl⟩:=own_form hL
   obtain ⟨aS',cS',rfl⟩:=own_form hS.own
   obtain ⟨⟨y0,y1,y2,y3,y4,y5⟩,-⟩:=hbx.six
   obtain ⟨⟨r0,r1,r2,r3,r4,r5⟩,-⟩:=hP.out.res.six
   have SM:=HSAME.out wr C _ hP.out.bel HV
   have HB:Hd (Below w.heap.size w wr):=⟨hP.out.bel⟩
   rw [HD] at SM
   clear HF HD hbx hL hS hd HQ HV HSAME hP HYE HNO HC
   go_wp2_with (go_at_call 14;refine SM.mono ?_;rintro e w5 ⟨rfl,b5⟩)
   go_ret
   exact ⟨rfl,HB.out.trans (b5.mono HB.out.size)⟩
end Go.Proofs.YthkdbphgiobcdaaGreatDoor

namespace Go.Proofs.YthkdbphgiobcdaaGreatDoor
open Go.RowKit
theorem rstar_ok (v:Value) (L:List ByteArray) (w:World) (h:LsR w v L):Calls Tryz.prog 65 #[v] w fun e w'=>e=.returned (.bool (isStar L))∧w'=w:=by
 obtain ⟨a,c,rfl,hr,-,hl,-⟩:=h
 by_cases h1:L.length=1
 ·obtain ⟨x,rfl⟩:∃ x,L=[x]:=by
   match L,h1 with
   | [x],_=>exact ⟨x,rfl⟩
  have e:isStar [x]=decide (x=tStar):=by unfold isStar;simp
  rw [e]
  clear e h1
  obtain ⟨b,off,rfl,hb,hc⟩:=hr Nat.one_pos
  have c0:w.cell? ⟨b,off,none⟩=some (.string x):=hc 0 Nat.one_pos
  have e2:(x.toList == [42])=decide (x=tStar):=by
   have:=name_eq x tStar
   rw [ByteArray.toList_eq tStar] at this
   exact this
  clear hr hc
  generalize decide (x=tStar)=d at *
  simp only [List.length_cons,List.length_nil]
  go_enter Tryz.func65,Tryz.ntmps65
  go_wp2_with fail
  go_ret
  exact ⟨rfl,rfl⟩
 ·have e:isStar L=false:=by unfold isStar;rw [decide_eq_false];intro e;rw [e] at h1;exact h1 rfl
  rw [e]
  clear e hr
  generalize L.length=n at *
  have q:((n:Int) == 1)=false:=by simp;omega
  go_enter Tryz.func65,Tryz.ntmps65
  go_wp2_with fail
  go_ret
  exact ⟨rfl,rfl⟩
theorem rhands_ok (deck n:Int) (w:World):Calls Tryz.prog 64 #[.int .i64 deck,.int .i64 n] w fun e w'=>∃ p:Int,e=.returned (.tuple #[.int .u64 p,.int .i64 (refH deck n)])∧w'=w:=by
 by_cases h:refH deck n=0
 ·obtain ⟨D,m,rfl,rfl,hg⟩:=hgood_of h
  refine (rhands_yes D m w hg).mono ?_
  rintro e w' ⟨rfl,rfl⟩
  exact ⟨_,by rw [h],rfl⟩
 ·refine (rhands_no deck n w (by simpa using h)).mono ?_
  rintro e w' ⟨rfl,rfl⟩
  exact ⟨_,rfl,rfl⟩
structure CkS (w W:World) (A G1 G2:Nat) (cs:Array Value) (l0 l1 s0 s1:Bool):Prop where
 bel:Below w.heap.size w W
 ax:w.heap.size≤A
 bx:Blk W A 25 cs
 b1:Blk W G1 98 #[.bool l0,.bool l1]
 b2:Blk W G2 98 #[.bool s0,.bool s1]
 ne:G1≠G2
 g1:w.heap.size≤G1
 g2:w.heap.size≤G2
section
variable {w W W':World} {A G1 G2:Nat} {cs:Array Value} {l0 l1 s0 s1:Bool}
theorem CkS.grown (h:CkS w W A G1 G2 cs l0 l1 s0 s1) (b:Below W.heap.size W W'):CkS w W' A G1 G2 cs l0 l1 s0 s1 :=
 ⟨h.bel.trans (b.mono h.bel.size),h.ax,h.bx.kept (Kept.of_below b (fun _=>False)) id,h.b1.kept (Kept.of_below b (fun _=>False)) id,h.b2.kept (Kept.of_below b (fun _=>False)) id,h.ne,h.g1,h.g2⟩
theorem CkS.kept1 (h:CkS w W A G1 G2 cs l0 l1 s0 s1) (k:Kept (fun q=>q=G1) W W') {a b:Bool} (n1:Blk W' G1 98 #[.bool a,.bool b]):CkS w W' A G1 G2 cs a b s0 s1 :=
 ⟨h.bel.trans (k.below h.bel.size (fun j hj=>by rw [hj];exact h.g1)),h.ax,h.bx.kept k (h.bx.ne h.b1 (by decide)),n1,h.b2.kept k (fun e=>h.ne e.symm),h.ne,h.g1,h.g2⟩
theorem CkS.kept2 (h:CkS w W A G1 G2 cs l0 l1 s0 s1) (k:Kept (fun q=>q=G2) W W') {a b:Bool} (n2:Blk W' G2 98 #[.bool a,.bool b]):CkS w W' A G1 G2 cs l0 l1 a b :=
 ⟨h.bel.trans (k.below h.bel.size (fun j hj=>by rw [hj];exact h.g2)),h.ax,h.bx.kept k (h.bx.ne h.b2 (by decide)),h.b1.kept k (fun e=>h.ne e),n2,h.ne,h.g1,h.g2⟩
theorem CkS.setL0 (h:CkS w W A G1 G2 cs l0 l1 s0 s1):CkS w (W.setCell ⟨G1,0,none⟩ (.bool true)) A G1 G2 cs true l1 s0 s1 :=
 h.kept1 ((Kept.refl (fun q=>q=G1) W).setCell ⟨G1,0,none⟩ _ (.inl rfl)) (h.b1.set 0 _)
theorem CkS.setL1 (h:CkS w W A G1 G2 cs l0 l1 s0 s1):CkS w (W.setCell ⟨G1,1,none⟩ (.bool true)) A G1 G2 cs l0 true s0 s1 :=
 h.kept1 ((Kept.refl (fun q=>q=G1) W).setCell ⟨G1,1,none⟩ _ (.inl rfl)) (h.b1.set 1 _)
theorem CkS.setS0 (h:CkS w W A G1 G2 cs l0 l1 s0 s1):CkS w (W.setCell ⟨G2,0,none⟩ (.bool true)) A G1 G2 cs l0 l1 true s1 :=
 h.kept2 ((Kept.refl (fun q=>q=G2) W).setCell ⟨G2,0,none⟩ _ (.inl rfl)) (h.b2.set 0 _)
theorem CkS.setS1 (h:CkS w W A G1 G2 cs l0 l1 s0 s1):CkS w (W.setCell ⟨G2,1,none⟩ (.bool true)) A G1 G2 cs l0 l1 s0 true :=
 h.kept2 ((Kept.refl (fun q=>q=G2) W).setCell ⟨G2,1,none⟩ _ (.inl rfl)) (h.b2.set 1 _)
end
theorem firstL_cut {L:List Lv} {k:Nat} (hk:k<L.length):firstL (L.drop k)=if lvErr L[k]=0 then firstL (L.drop (k+1)) else (lvErr L[k],lvT L[k].name):=by
 rw [List.drop_eq_getElem_cons hk];rfl
theorem firstS_cut {M:List Lv} {L:List Sc} {k:Nat} (hk:k<L.length):firstS M (L.drop k)=if scErr M L[k]=0 then firstS M (L.drop (k+1)) else (scErr M L[k],scT L[k].name):=by
 rw [List.drop_eq_getElem_cons hk];rfl
theorem anyL_take {L:List Lv} {k:Nat} (hk:k<L.length) (x:ByteArray):anyL (L.take (k+1)) x=(anyL (L.take k) x || decide (L[k].name=x)):=by
 rw [List.take_succ_eq_append_getElem hk,anyL_append]
 simp [anyL]
theorem anyS_take {L:List Sc} {k:Nat} (hk:k<L.length) (x:ByteArray):anyS (L.take (k+1)) x=(anyS (L.take k) x || decide (L[k].name=x)):=by
 rw [List.take_succ_eq_append_getElem hk]
 unfold anyS
 rw [List.any_append]
 simp
theorem anyR_take {L:List Rl} {k:Nat} (hk:k<L.length):(L.take (k+1)).any rlAll=((L.take k).any rlAll || rlAll L[k]):=by
 rw [List.take_succ_eq_append_getElem hk,List.any_append]
 simp
end Go.Proofs.YthkdbphgiobcdaaGreatDoor
