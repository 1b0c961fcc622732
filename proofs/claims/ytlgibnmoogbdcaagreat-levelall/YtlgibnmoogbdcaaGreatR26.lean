/-
  A part of a row put in order by insertion, by the library (slices.insertionSortCmpFunc).
  Those who are late taken out of a row in place, by the library (slices.DeleteFunc).
  What holds of a level behind k steps: its lanes are few, and at most k are there.
-/
import Derived.Test.YtlgibnmoogbdcaaGreatR25
import Derived.Shelf.Abstract
import Derived.Test.YtlgibnmoogbdcaaGreatR24
import Derived.Test.YtlgibnmoogbdcaaGreatR23
namespace Go.Proofs.YtlgibnmoogbdcaaGreat
open Go.RowKit
structure Ins (a q k:Nat) (M:List Tk):Prop where
 apart:∀ i j,a≤i→i≤j→j≤k→i≠q→j≠q→(gt M i).id≤(gt M j).id
 less:∀ j,q<j→j≤k→(gt M q).id<(gt M j).id
theorem Ins.start {a k:Nat} {M:List Tk} (h:Sd a k M):Ins a k k M:=⟨fun i j h1 h2 h3 _ h5=>h i j h1 h2 (by omega),fun j h1 h2=>by omega⟩
theorem Ins.first {a k:Nat} {M:List Tk} (h:Ins a a k M):Sd a (k+1) M:=fun i j h1 h2 h3=>by
 by_cases c:j=a
 ·obtain rfl:i=j:=by omega
  exact Int.le_refl _
 ·by_cases d:i=a
  ·subst d
   have:=h.less j (by omega) (by omega)
   omega
  ·exact h.apart i j h1 h2 (by omega) d c
theorem Ins.stop {a q k:Nat} {M:List Tk} (h:Ins a q k M) (hq:a<q) (e:¬ (gt M q).id<(gt M (q - 1)).id):Sd a (k+1) M:=fun i j h1 h2 h3=>by
 by_cases c:i=q
 ·subst c
  by_cases d:j=i
  ·rw [d];exact Int.le_refl _
  ·have:=h.less j (by omega) (by omega)
   omega
 ·by_cases d:j=q
  ·subst d
   by_cases hk:j - 1≤k
   ·have:=h.apart i (j - 1) h1 (by omega) hk c (by omega)
    omega
   ·omega
  ·exact h.apart i j h1 h2 (by omega) c d
theorem Ins.step {a q k:Nat} {M:List Tk} (h:Ins a q k M) (hq:a<q) (hk:q≤k) (hl:k<M.length) (e:(gt M q).id<(gt M (q - 1)).id):Ins a (q - 1) k (swT M q (q - 1)):=by
 refine ⟨fun i j h1 h2 h3 h4 h5=>?_,fun j h1 h2=>?_⟩
 ·rw [swT_at (by omega) (by omega),swT_at (by omega) (by omega),if_neg (Ne.symm h4),if_neg (Ne.symm h5)]
  by_cases c:q=i
  ·rw [if_pos c]
   by_cases d:q=j
   ·rw [if_pos d];exact Int.le_refl _
   ·rw [if_neg d]
    exact h.apart (q - 1) j (by omega) (by omega) h3 (by omega) (Ne.symm d)
  ·rw [if_neg c]
   by_cases d:q=j
   ·rw [if_pos d]
    exact h.apart i (q - 1) h1 (by omega) (by omega) (Ne.symm c) (by omega)
   ·rw [if_neg d]
    exact h.apart i j h1 h2 h3 (Ne.symm c) (Ne.symm d)
 ·rw [swT_at (by omega) (by omega),swT_at (by omega) (by omega),if_pos rfl,if_neg (by omega)]
  by_cases c:q=j
  ·rw [if_pos c];exact e
  ·rw [if_neg c]
   exact h.less j (by omega) h2
theorem Rl.back {L:List Tk} {a b q:Nat} (hq:q<L.length) (h0:a<q) (hb:q<b) (e:(gt L q).id<(gt L (q - 1)).id):Rl a b L (swT L q (q - 1)):=by
 rw [swT_comm hq (by omega)]
 obtain ⟨p,rfl⟩:∃ p,q=p+1:=⟨q - 1,by omega⟩
 exact Rl.swap (k:=p) hq (by omega) hb (by rw [Nat.add_sub_cancel] at e;omega)
structure InR (g z n a b q k:Nat) (L:List Tk) (w wr:World):Prop where
 ex:∃ M,M.length=n∧Rw wr g z M∧Rl a b L M∧Ins a q k M
 kept:Kept (fun j=>j=g) w wr
structure OutR (g z n a b k:Nat) (L:List Tk) (w wr:World):Prop where
 ex:∃ M,M.length=n∧Rw wr g z M∧Rl a b L M∧Sd a k M
 kept:Kept (fun j=>j=g) w wr
theorem Kept.drewN {S:Nat→Prop} {a w:World} (h:Kept S a w) (q:Nat):Kept S a (w.drewN q):=⟨h.os,h.tape,h.output,h.size,h.block⟩
theorem OutR.drewN {g z n a b k:Nat} {L:List Tk} {w wr:World} (h:OutR g z n a b k L w wr) (q:Nat):OutR g z n a b k L w (wr.drewN q):=⟨h.ex,h.kept.drewN q⟩
set_option maxRecDepth 20000 in
set_option maxHeartbeats 2000000 in
theorem ins_ok (g z a b n:Nat) (c:Nat) (L:List Tk) (w:World) (h:Rw w g z L) (hn:L.length=n) (hab:a≤b) (hb:b≤n) (hl:n≤2000) :
  Calls Tryz.prog 95 #[.slice (some ⟨g,0,none⟩) n c,.int .i64 a,.int .i64 b,.func (.func 55) #[] #[]] w fun e w'=>e=.returned (.tuple #[])∧OutR g z n a b b L w w':=by
 have eg:∀ args w,(callFunc 55 args).run Tryz.prog w=.ok (.enter 55 args) w:=enters_of Tryz.func55 (by kernel_rfl) rfl
 have H0:Hd (OutR g z n a b (a+1) L w w):=⟨⟨L,hn,h,Rl.refl _ _ _,Sd.one _ _⟩,Kept.refl _ _⟩
 clear h hn
 go_enter Tryz.func95,Tryz.ntmps95
 go_wp2_with fail
 go_loopw [8] (fun vi wr=>∃ k:Nat,vi=.int .i64 k∧a+1≤k∧(k≤b∨k=a+1)∧Hd (OutR g z n a b k L w wr)) (fun vi _=>n+1 - (intOf vi).toNat)
 case atStart=>exact ⟨a+1,by go_num,Nat.le_refl _,.inr rfl,H0⟩
 case round =>
  obtain ⟨k,rfl,hk1,hk2,hR⟩:=hrel
  clear H0
  by_cases hkb:k<b
  ·obtain ⟨⟨M0,hM0,hRw,hRl,hSd⟩,hK⟩:=hR.out
   have H1:Hd (InR g z n a b k k L w wr):=⟨⟨M0,hM0,hRw,hRl,Ins.start hSd⟩,hK⟩
   clear hR hM0 hRw hRl hSd hK
   go_wp2_with fail
   go_loopw [9] (fun vj wr=>∃ q:Nat,vj=.int .i64 q∧a≤q∧q≤k∧Hd (InR g z n a b q k L w wr)) (fun vj _=>(intOf vj).toNat)
   case atStart=>exact ⟨k,rfl,by omega,Nat.le_refl _,H1⟩
   case round =>
    rename_i wq _ _ _
    obtain ⟨q,rfl,hq1,hq2,hR⟩:=hrel
    clear H1
    by_cases hqa:a<q
    ·obtain ⟨⟨L0,hM,hRw,hRl,hIn⟩,hK⟩:=hR.out
     clear hR
     have hK:Hd (Kept (fun j=>j=g) w wr):=⟨hK⟩
     obtain ⟨x,hx⟩:∃ x,x=gt L0 q:=⟨_,rfl⟩
     obtain ⟨y,hy⟩:∃ y,y=gt L0 (q - 1):=⟨_,rfl⟩
     have HX:Hd (x=gt L0 q):=⟨hx⟩
     have HY:Hd (y=gt L0 (q - 1)):=⟨hy⟩
     clear hx hy
     have i1:(q:Int)<(n:Int):=by omega
     have i2:(q:Int) - 1<(n:Int):=by omega
     have e1:((q:Int) - 1).toNat=q - 1:=by omega
     have p1:(0:Int)≤(q:Int) - 1:=by omega
     have h0:(a:Int)<(q:Int):=by omega
     have p3:(1:Int)≤(q:Int):=by omega
     have v1:IntKind.i64.wrap ((q:Int) - 1)=(q:Int) - 1:=by rw [IntKind.wrap_i64];omega
     have V1:Hd (IntKind.i64.wrap ((q:Int) - 1)=(q:Int) - 1):=⟨v1⟩
     have C:=cmp_ok x y
     have hg:=hRw.lt
     by_cases hlt:x.id<y.id
     ·have hc:cmI x.id y.id<0:=(cmI_neg _ _).2 hlt
      have HZ0:Hd (∀ W,Rw W g z (swT L0 q (q - 1))→Kept (fun j=>j=g) w W→InR g z n a b (q - 1) k L w W):=⟨fun W r k'=>⟨⟨swT L0 q (q - 1),by rw [swT_len];exact hM,r,hRl.trans (Rl.back (by omega) hqa (by omega) (by rw [←HX.out,← HY.out];exact hlt)),hIn.step hqa hq2 (by omega) (by rw [←HX.out,← HY.out];exact hlt)⟩,k'⟩⟩
      obtain ⟨x0,x1,x2,x3,x4⟩:=hRw.at (k:=q) (by omega)
      obtain ⟨y0,y1,y2,y3,y4⟩:=hRw.at (k:=q - 1) (by omega)
      rw [←HX.out] at x0 x1 x2 x3 x4
      rw [←HY.out] at y0 y1 y2 y3 y4
      have HR:Hd (Rw wr g z L0):=⟨hRw⟩
      clear hRl hIn hlt hRw
      generalize cmI x.id y.id=cv at *
      go_wp2_with fail
      refine region_tail 14 (by kernel_rfl) ?_
      simp only [List.take_succ_cons,List.take_zero,List.drop_succ_cons,List.drop_zero]
      repeat still_step
      refine wpStill_nil ?_
      go_wp2_with (go_at_fn 55;refine (C _).mono ?_;rintro e w2 ⟨rfl,b2⟩)
      have b2:Below wr.heap.size wr w2:=⟨b2.os,b2.tape,b2.output,b2.size,b2.block⟩
      have hR:Hd (Rw w2 g z L0):=⟨HR.out.below b2⟩
      have hK2:Hd (Kept (fun j=>j=g) w w2):=⟨hK.out.trans (Kept.of_below b2 _)⟩
      clear HR hK b2 x0 x1 x2 x3 x4 y0 y1 y2 y3 y4 C hg
      have RD:Hd (Rw w2.drew g z L0):=⟨hR.out⟩
      have UU:C5 w2.drew g q x∧C5 w2.drew g (q - 1) y:=⟨by rw [HX.out];exact RD.out.at (by omega),by rw [HY.out];exact RD.out.at (by omega)⟩
      have HXY:Hd (∀ W,Rw W g z ((L0.set (q) y).set ((q - 1)) x)→Rw W g z (swT L0 (q) ((q - 1)))):=⟨fun W h=>by rw [HX.out,HY.out] at h;exact h⟩
      clear HX HY
      have KD:Hd (Kept (fun q=>q=g) w2 w2.drew):=⟨(Kept.refl _ _).drew⟩
      refine AnyG.start (T:=fun _=>True) (U:=fun W=>C5 W g q x∧C5 W g (q - 1) y) (j0:=15) (by kernel_rfl) ?_
      generalize w2.drew=wd at *
      refine .tr 0 37 ⟨trivial,fun _=>UU⟩ ?_;simp only [oqA,oqB,oqC]
      refine .tr 1 38 ⟨trivial,fun _=>UU⟩ ?_;simp only [oqA,oqB,oqC]
      refine .tr 2 39 ⟨trivial,fun _=>UU⟩ ?_;simp only [oqA,oqB,oqC]
      refine .tr 3 40 ⟨trivial,fun _=>UU⟩ ?_;simp only [oqA,oqB,oqC]
      refine .tr (v:=.int .i64 ((q:Int) - 1)) 4 41 ⟨trivial,fun _=>UU⟩ ?_ (hy:=fun w hSw=>by have s:=V1.out;go_simp;try rfl);simp only [oqA,oqB,oqC]
      refine .tr 5 42 ⟨trivial,fun _=>UU⟩ ?_;simp only [oqA,oqB,oqC]
      refine .tr 6 43 ⟨trivial,fun _=>UU⟩ ?_;simp only [oqA,oqB,oqC]
      refine .tr (v:=.int .i64 ((q:Int) - 1)) 7 44 ⟨trivial,fun _=>UU⟩ ?_ (hy:=fun w hSw=>by have s:=V1.out;go_simp;try rfl);simp only [oqA,oqB,oqC]
      refine .tr 8 45 ⟨trivial,fun _=>UU⟩ ?_;simp only [oqA,oqB,oqC]
      refine .er 9 46 ⟨trivial,fun _=>UU⟩ ?_ (hy:=fun w hSw=>by obtain ⟨-,-,⟨c0,c1,c2,c3,c4⟩⟩:=hSw;go_simp;rfl);simp only [oqA,oqB,oqC]
      refine .tr 10 47 ⟨trivial,fun _=>UU⟩ ?_;simp only [oqA,oqB,oqC]
      refine .tr 11 48 ⟨trivial,fun _=>UU⟩ ?_;simp only [oqA,oqB,oqC]
      refine .tr 12 49 ⟨trivial,fun _=>UU⟩ ?_;simp only [oqA,oqB,oqC]
      refine .er 13 50 ⟨trivial,fun _=>UU⟩ ?_ (hy:=fun w hSw=>by obtain ⟨-,⟨c0,c1,c2,c3,c4⟩,-⟩:=hSw;go_simp;rfl);simp only [oqA,oqB,oqC]
      refine .tr 14 51 ⟨trivial,fun _=>UU⟩ ?_;simp only [oqA,oqB,oqC]
      refine AnyG.ready (rs:=[15]) (by kernel_rfl) (by simp) ?_
      refine AllG.cons rfl (fun K hK=>?_) AllG.nil
      obtain ⟨⟨a0,a1,a2,a3,a4⟩,-⟩:=UU
      have fz:=RD.out.frozen
      obtain ⟨P1,P2⟩:=RD.out.put (k:=q) (by omega) y
      go_simp
      refine hK.out _ _ ⟨trivial,fun h=>by cases h⟩ ?_
      clear hK K a0 a1 a2 a3 a4 fz
      generalize (((((wd.setCell ⟨g,q*5,none⟩ (.int .i64 y.id)).setCell ⟨g,q*5+1,none⟩ (.int .i64 y.wid)).setCell ⟨g,q*5+2,none⟩ (.int .i64 y.sts)).setCell ⟨g,q*5+3,none⟩ (.int .i64 y.sin)).setCell ⟨g,q*5+4,none⟩ (.int .i64 y.unt))=w6 at P1 P2 ⊢
      refine .tr 16 52 ⟨trivial,fun h=>by cases h⟩ ?_;simp only [oqA,oqB,oqC]
      refine AnyG.ready (rs:=[17]) (by kernel_rfl) (by simp) ?_
      refine AllG.cons rfl (fun K hK=>?_) AllG.nil
      obtain ⟨a0,a1,a2,a3,a4⟩:=P1.at (k:=(q - 1)) (by rw [List.length_set];omega)
      have fz:=P1.frozen
      obtain ⟨P3,P4⟩:=P1.put (k:=(q - 1)) (by rw [List.length_set];omega) x
      go_simp
      refine hK.out _ _ ⟨trivial,fun h=>by cases h⟩ ?_
      clear hK K a0 a1 a2 a3 a4 fz
      generalize (((((w6.setCell ⟨g,(q - 1)*5,none⟩ (.int .i64 x.id)).setCell ⟨g,(q - 1)*5+1,none⟩ (.int .i64 x.wid)).setCell ⟨g,(q - 1)*5+2,none⟩ (.int .i64 x.sts)).setCell ⟨g,(q - 1)*5+3,none⟩ (.int .i64 x.sin)).setCell ⟨g,(q - 1)*5+4,none⟩ (.int .i64 x.unt))=w9 at P3 P4 ⊢
      refine AnyG.done (by kernel_rfl) ?_ _
      have HZ:Hd (Rw w9 g z (swT L0 q (q - 1))∧Kept (fun q=>q=g) w2 w9):=⟨HXY.out _ P3,KD.out.trans (P2.trans P4)⟩
      clear P1 P2 P3 P4 RD KD HXY
      go_wp2_with fail
      go_roundw
      case rel=>exact ⟨q - 1,by go_num,by omega,by omega,⟨HZ0.out _ HZ.out.1 (hK2.out.trans HZ.out.2)⟩⟩
      case measure=>simp [intOf];omega
     ·have hc:¬ cmI x.id y.id<0:=fun h=>hlt ((cmI_neg _ _).1 h)
      have HZ:Hd (∀ W,Below wr.heap.size wr W→OutR g z n a b (k+1) L w W):=⟨fun W b'=>⟨⟨L0,hM,hRw.below b',hRl,hIn.stop hqa (by rw [←HX.out,← HY.out];exact hlt)⟩,hK.out.trans (Kept.of_below b' _)⟩⟩
      obtain ⟨x0,x1,x2,x3,x4⟩:=hRw.at (k:=q) (by omega)
      obtain ⟨y0,y1,y2,y3,y4⟩:=hRw.at (k:=q - 1) (by omega)
      rw [←HX.out] at x0 x1 x2 x3 x4
      rw [←HY.out] at y0 y1 y2 y3 y4
      clear hRl hIn hlt hRw
      generalize cmI x.id y.id=cv at *
      go_wp2_with fail
      refine region_tail 14 (by kernel_rfl) ?_
      simp only [List.take_succ_cons,List.take_zero,List.drop_succ_cons,List.drop_zero]
      repeat still_step
      refine wpStill_nil ?_
      go_wp2_with (go_at_fn 55;refine (C _).mono ?_;rintro e w2 ⟨rfl,b2⟩)
      exact ⟨⟨k+1,by go_num,by omega,.inl (by omega),⟨HZ.out _ ⟨b2.os,b2.tape,b2.output,b2.size,b2.block⟩⟩⟩,by simp [intOf];omega⟩
    ·obtain rfl:q=a:=by omega
     have HZ:Hd (OutR g z n q b (k+1) L w wr):=by
      obtain ⟨⟨L0,hM,hRw,hRl,hIn⟩,hK⟩:=hR.out
      exact ⟨⟨L0,hM,hRw,hRl,hIn.first⟩,hK⟩
     clear hR
     have hd:decide ((q:Int) > (q:Int))=false:=decide_eq_false (by omega)
     go_wp2_with fail
     go_quiet (fail)
     go_wp2
     exact ⟨⟨k+1,by go_num,by omega,.inl (by omega),⟨HZ.out.drewN _⟩⟩,by simp [intOf];omega⟩
  ·rcases hk2 with hk2 | hk2
   ·obtain rfl:k=b:=by omega
    go_wp2_with fail
    go_end0
    exact ⟨rfl,hR.out⟩
   ·have HZ:Hd (OutR g z n a b b L w wr):=by
     obtain ⟨⟨L0,hM,hRw,hRl,hIn⟩,hK⟩:=hR.out
     exact ⟨⟨⟨L0,hM,hRw,hRl,Sd.none (by omega)⟩,hK⟩⟩
    clear hR
    go_wp2_with fail
    go_end0
    exact ⟨rfl,HZ.out⟩
def kpF (now:Int) (L:List Tk):List Tk:=L.filter fun t=>!ltB now t
theorem kpF_take {now:Int} {L:List Tk} {j:Nat} (h:j<L.length):kpF now (L.take (j+1))=if ltB now (gt L j)=true then kpF now (L.take j) else kpF now (L.take j) ++ [gt L j]:=by
 have e:L.take (j+1)=L.take j ++ [gt L j]:=by rw [List.take_add_one,gt_get h];rfl
 rw [e]
 unfold kpF
 rw [List.filter_append]
 cases c:ltB now (gt L j) with
 | true=>rw [List.filter_cons_of_neg (by rw [c];decide),if_pos rfl];simp
 | false=>rw [List.filter_cons_of_pos (by rw [c];decide),if_neg (by decide)];rfl
structure DfR (g z n:Nat) (now:Int) (L:List Tk) (i j:Nat) (w wr:World):Prop where
 ex:∃ M,M.length=n∧Rw wr g z M∧M.take i=kpF now (L.take j)∧∀ k,j≤k→gt M k=gt L k
 kept:Kept (fun k=>k=g) w wr
theorem delF_none (a:Option Addr) (c:Nat) (now:Int) (q:Nat) (w:World) (hq:Blk w q 3 #[.int .i64 now]) :
  Calls Tryz.prog 51 #[.slice a 0 c,.func (.func 52) #[] #[.pointer (some ⟨q,0,none⟩)]] w fun e w'=>e=.returned (.slice a 0 c)∧Below w.heap.size w w':=by
 have I:=indexL_ok a c [] now q w (TkR.nil _ _) (by decide) hq
 have e:fxI now []=-1:=rfl
 rw [e] at I
 simp only [List.length_nil] at I
 go_enter Tryz.func51,Tryz.ntmps51
 go_wp2_with (go_at_call 44;refine I.mono ?_;rintro e w2 ⟨rfl,b2⟩)
 go_ret
 exact ⟨rfl,b2⟩
set_option maxRecDepth 20000 in
set_option maxHeartbeats 1000000 in
theorem delF_ok (g n c:Nat) (L:List Tk) (now:Int) (q:Nat) (w:World) (h:Rw w g c L) (hn:L.length=n) (hl:n≤2000) (hc:n≤c) (hcm:c≤maxLen) (hq:Blk w q 3 #[.int .i64 now]) :
  Calls Tryz.prog 51 #[.slice (some ⟨g,0,none⟩) n c,.func (.func 52) #[] #[.pointer (some ⟨q,0,none⟩)]] w fun e w'=>e=.returned (.slice (some ⟨g,0,none⟩) (kpF now L).length c)∧Rw w' g c (kpF now L)∧Kept (fun k=>k=g) w w':=by
 have eg:∀ args w,(callFunc 52 args).run Tryz.prog w=.ok (.enter 52 args) w:=enters_of Tryz.func52 (by kernel_rfl) rfl
 have hgq:¬ q=g:=fun e=>by
  obtain ⟨cur,hb,-⟩:=h
  exact hq.ne hb (by decide) e
 have I:=indexL_ok (some ⟨g,0,none⟩) c L now q w h.sl.2.2 (by omega) hq
 rw [hn] at I
 have hcw:(c:Int)≤9223372036854775807:=by unfold maxLen at hcm;omega
 by_cases hx:fxN now L<n
 ·obtain ⟨f,hf⟩:∃ f,f=fxN now L:=⟨_,rfl⟩
  have HF:Hd (ltB now (gt L f)=true∧∀ j,j<f→ltB now (gt L j)=false):=⟨by rw [hf];exact fxN_is now L (by rw [hn];exact hx),fun j hj=>fxN_not now L j (by rw [←hf];exact hj)⟩
  have e:fxI now L=(f:Int):=by unfold fxI;rw [hn,if_pos hx,hf]
  rw [e] at I
  rw [←hf] at hx
  clear e hf
  have hT:L.take f=kpF now (L.take f):=by
   refine (List.filter_eq_self.2 fun t ht=>?_).symm
   obtain ⟨j,hj,rfl⟩:=List.mem_iff_getElem.1 ht
   rw [List.length_take] at hj
   have g1:=gt_get (L:=L.take f) (k:=j) (by rw [List.length_take];exact hj)
   rw [List.getElem?_eq_getElem (by rw [List.length_take];exact hj)] at g1
   injection g1 with g1
   rw [g1,gt_tk (by omega),HF.out.2 j (by omega)]
   rfl
  have H0:Hd (∀ W,Below w.heap.size w W→DfR g c n now L f (f+1) w W):=⟨fun W b=>⟨⟨L,hn,h.below b,by rw [kpF_take (by omega),if_pos HF.out.1];exact hT,fun _ _=>rfl⟩,Kept.of_below b _⟩⟩
  have HQ:Hd (Blk w q 3 #[.int .i64 now]∧L.length=n):=⟨hq,hn⟩
  have hne:((f:Int) == -1)=false:=by simp
  clear h hq hT hn HF
  go_enter Tryz.func51,Tryz.ntmps51
  go_wp2_with (go_at_call 44;refine I.mono ?_;rintro e w2 ⟨rfl,b2⟩)
  replace H0:Hd (DfR g c n now L f (f+1) w w2):=⟨H0.out _ b2⟩
  clear I b2
  go_loopw [5,6,7] (fun vi vj _ wr=>∃ i j:Nat,vi=.int .i64 i∧vj=.int .i64 j∧i<j∧j≤n∧Hd (DfR g c n now L i j w wr)) (fun _ vj _ _=>n - (intOf vj).toNat)
  case atStart=>exact ⟨f,f+1,rfl,by go_num,by omega,by omega,H0⟩
  case round =>
   obtain ⟨i,j,rfl,rfl,hij,hjn,hD⟩:=hrel
   clear H0
   by_cases hlt:j<n
   ·obtain ⟨⟨M,hM,hR,hT,hS⟩,hK⟩:=hD.out
    have hG:Blk wr q 3 #[.int .i64 now]:=HQ.out.1.kept hK hgq
    obtain ⟨x,hx2⟩:∃ x,x=gt M j:=⟨_,rfl⟩
    obtain ⟨x0,x1,x2,x3,x4⟩:=hR.at (k:=j) (by omega)
    rw [←hx2] at x0 x1 x2 x3 x4
    have hxL:x=gt L j:=by rw [hx2];exact hS j (Nat.le_refl _)
    obtain ⟨w3,hw3⟩:∃ w3,w3=wr.alloc (.cells #[.int .i64 x.id,.int .i64 x.wid,.int .i64 x.sts,.int .i64 x.sin,.int .i64 x.unt] 36):=⟨_,rfl⟩
    have B3:Below wr.heap.size wr w3:=by rw [hw3];exact alloc_below _ _
    have N3:Blk w3 wr.heap.size 36 (tkA x):=by rw [hw3];exact Blk.new _ _ _
    have hG3:Blk w3 q 3 #[.int .i64 now]:=hG.kept (Kept.of_below B3 (fun _=>False)) id
    have hlg:=hR.lt
    have I2:=ofL_ok x now q w3 hG3
    obtain ⟨⟨c0,c1,c2,c3,c4⟩,-⟩:=N3.five
    by_cases hlate:ltB now x=true
    ·rw [hlate] at I2
     have HZ:Hd (∀ W,Below w3.heap.size w3 W→DfR g c n now L i (j+1) w W):=⟨fun W b=>⟨⟨M,hM,(hR.below B3).below b,by rw [kpF_take (by rw [HQ.out.2];exact hlt),if_pos (by rw [←hxL];exact hlate)];exact hT,fun k hk=>hS k (by omega)⟩,(hK.trans (Kept.of_below B3 _)).trans (Kept.of_below b _)⟩⟩
     have i1:(j:Int)<(n:Int):=by omega
     clear hD hR hT hS hK hG hG3 B3 N3 hx2 hxL hlate hM
     go_upto_region 8 with fail
     rw [←hw3]
     clear hw3
     go_wp2_with (go_at_fn 52;refine I2.mono ?_;rintro e w4 ⟨rfl,b4⟩)
     go_roundw
     case rel=>exact ⟨i,j+1,rfl,by go_num,by omega,by omega,⟨HZ.out _ b4⟩⟩
     case measure=>simp [intOf];omega
    ·have hlate:ltB now x=false:=by simpa using hlate
     rw [hlate] at I2
     have HZ:Hd (∀ W W2,Below w3.heap.size w3 W→Rw W2 g c (M.set i x)→Kept (fun k=>k=g) W W2→DfR g c n now L (i+1) (j+1) w W2):=⟨fun W W2 b r k=>⟨⟨M.set i x,by rw [List.length_set];exact hM,r,by
      rw [kpF_take (by rw [HQ.out.2];exact hlt),if_neg (by rw [←hxL,hlate];decide),← hT,← hxL]
      rw [List.take_add_one,List.getElem?_set_self (by omega),List.take_set_of_le (Nat.le_refl i)]
      rfl,fun k hk=>by rw [gt_set _ _ _ _ (by omega),if_neg (by omega)];exact hS k (by omega)⟩,((hK.trans (Kept.of_below B3 _)).trans (Kept.of_below b _)).trans k⟩⟩
     have HR:Hd (∀ W,Below w3.heap.size w3 W→Rw W g c M∧Blk W wr.heap.size 36 (tkA x)):=⟨fun W b=>⟨(hR.below B3).below b,N3.kept (Kept.of_below b (fun _=>False)) id⟩⟩
     have i1:(j:Int)<(n:Int):=by omega
     have i2:(i:Int)<(n:Int):=by omega
     clear hD hR hT hS hK hG hG3 B3 N3 hx2 hxL hlate
     go_upto_region 8 with fail
     rw [←hw3]
     clear hw3
     go_upto_region 9 with (go_at_fn 52;refine I2.mono ?_;rintro e w4 ⟨rfl,b4⟩)
     obtain ⟨R4,N4⟩:=HR.out w4 b4
     obtain ⟨⟨d0,d1,d2,d3,d4⟩,-⟩:=N4.five
     obtain ⟨y0,y1,y2,y3,y4⟩:=R4.at (k:=i) (by omega)
     have fz:=R4.frozen
     obtain ⟨P1,P2⟩:=R4.put (k:=i) (by omega) x
     have HY:Hd (DfR g c n now L (i+1) (j+1) w _):=⟨HZ.out _ _ b4 P1 P2⟩
     clear R4 N4 P1 P2 HZ HR I2 c0 c1 c2 c3 c4 x0 x1 x2 x3 x4
     go_wp2_with fail
     go_roundw
     case rel=>exact ⟨i+1,j+1,by go_num,by go_num,by omega,by omega,HY⟩
     case measure=>simp [intOf];omega
   ·obtain rfl:j=n:=by omega
    obtain ⟨⟨M,hM,hR,hT,hS⟩,hK⟩:=hD.out
    have eT:M.take i=kpF now L:=by rw [hT,List.take_of_length_le (by rw [HQ.out.2];exact Nat.le_refl _)]
    have lT:(M.take i).length=i:=by rw [List.length_take];omega
    have lD:(M.drop i).length=j - i:=by rw [List.length_drop];omega
    have hcl:∀ ty,(Builtin.clear_ #[32] ty #[.slice (some ⟨g,i*5,none⟩) (j - i) (c - i)]).run Tryz.prog wr=.ok (.tuple #[]) (wr.setCells g (i*5) (tkCs (List.replicate (j - i) tkZ))):=fun ty=>run_clear_tk wr ty g c i (j - i) (c - i) M hR (by omega) (by omega)
    have R2:Rw wr g c (M.take i++M.drop i ++ []):=by rw [List.append_nil,List.take_append_drop];exact hR
    obtain ⟨S4,S5⟩:=R2.sets (D:=List.replicate (j - i) tkZ) (by rw [lD,List.length_replicate])
    rw [lT,List.append_nil] at S4
    rw [lT] at S5
    have HZ:Hd (Rw (wr.setCells g (i*5) (tkCs (List.replicate (j - i) tkZ))) g c (kpF now L)∧Kept (fun k=>k=g) w (wr.setCells g (i*5) (tkCs (List.replicate (j - i) tkZ)))):=⟨by rw [←eT];exact S4.first,hK.trans S5⟩
    have HI:Hd ((kpF now L).length=i):=⟨by rw [←eT,lT]⟩
    have hic:¬ c=i:=by omega
    clear hD hR hT hS hK S4 S5 R2 eT lT lD hM
    go_wp2_with fail
    go_ret
    exact ⟨by rw [HI.out];rfl,HZ.out⟩
 ·have e:fxI now L=-1:=by unfold fxI;rw [hn,if_neg hx]
  rw [e] at I
  have eK:kpF now L=L:=by
   refine List.filter_eq_self.2 fun t ht=>?_
   obtain ⟨j,hj,rfl⟩:=List.mem_iff_getElem.1 ht
   have g1:=gt_get hj
   rw [List.getElem?_eq_getElem hj] at g1
   injection g1 with g1
   have:=fxN_le now L
   rw [g1,fxN_not now L j (by omega)]
   rfl
  have HZ:Hd (∀ W,Below w.heap.size w W→Rw W g c L∧Kept (fun k=>k=g) w W):=⟨fun W b=>⟨h.below b,Kept.of_below b _⟩⟩
  have HN:Hd (L.length=n):=⟨hn⟩
  rw [eK]
  clear h hq e eK hx hn
  go_enter Tryz.func51,Tryz.ntmps51
  go_wp2_with (go_at_call 44;refine I.mono ?_;rintro e w2 ⟨rfl,b2⟩)
  go_ret
  exact ⟨by rw [HN.out];rfl,HZ.out _ b2⟩
theorem delF_own (B:Nat) (v:Value) (L:List Tk) (now:Int) (q:Nat) (w:World) (h:OwnT w B v L) (hl:L.length≤2000) (hq:Blk w q 3 #[.int .i64 now]) :
  Calls Tryz.prog 51 #[v,.func (.func 52) #[] #[.pointer (some ⟨q,0,none⟩)]] w fun e w'=>∃ v',e=.returned v'∧OwnT w' B v' (kpF now L)∧v'.ownBlock=v.ownBlock∧Kept (fun k=>v.ownBlock=some k) w w':=by
 by_cases hn:L=[]
 ·subst hn
  obtain ⟨a,c,rfl,r⟩:=h.read
  refine (delF_none a c now q w hq).mono ?_
  rintro e w' ⟨rfl,b⟩
  exact ⟨_,rfl,h.kept (Kept.of_below b (fun _=>False)) (fun _ _ x=>x),rfl,Kept.of_below b _⟩
 ·obtain ⟨g,c,rfl,⟨hc,hcm⟩,hB,hR⟩:=h.rw (List.length_pos_iff.2 hn)
  refine (delF_ok g L.length c L now q w hR rfl hl hc hcm hq).mono ?_
  rintro e w' ⟨rfl,r,k⟩
  exact ⟨_,rfl,r.own hB hcm,rfl,k.mono (fun j _ e=>by rw [e];rfl)⟩
end Go.Proofs.YtlgibnmoogbdcaaGreat

namespace Go.Proofs.YtlgibnmoogbdcaaGreat
structure IvL (k:Nat) (s:St):Prop where
 few:Few s.x.F
 r:Word s.x.r
 cnt:(allT s).length≤k
theorem allT_len (s:St):(allT s).length=s.run.length+(flt s.x.F).length:=List.length_append
theorem flt_each {F:List Ln} {l:Ln} (h:l∈F):l.L.length≤(flt F).length:=by
 induction F with
 | nil=>cases h
 | cons m F ih =>
  rw [flt_cons,List.length_append]
  rcases List.mem_cons.1 h with rfl | h
  ·omega
  ·have:=ih h;omega
theorem IvL.run {k:Nat} {s:St} (h:IvL k s):s.run.length≤k:=by have:=h.cnt;rw [allT_len] at this;omega
theorem IvL.wait {k:Nat} {s:St} (h:IvL k s):(flt s.x.F).length≤k:=by have:=h.cnt;rw [allT_len] at this;omega
theorem IvL.at {k:Nat} {s:St} (h:IvL k s) (j:Nat):(gl s.x.F j).L.length≤k:=by
 rcases Nat.lt_or_ge j s.x.F.length with c | c
 ·have:=flt_each (gl_mem c);have:=h.wait;omega
 ·rw [gl_out c];exact Nat.zero_le _
theorem IvL.more {k m:Nat} {s:St} (h:IvL k s) (e:k≤m):IvL m s:=⟨h.few,h.r,Nat.le_trans h.cnt e⟩
theorem ids_len (L:List Tk):(ids L).length=L.length:=List.length_map _
theorem IvL.start (l:Lv):IvL 0 (opS l):=by
 refine ⟨?_,?_,by rw [opS_none];exact Nat.le_refl _⟩
 ·show Few (opX l).F
  unfold opX
  split
  ·exact nwX_few _ _ _
  ·exact xZ_few
 ·show Word (opX l).r
  unfold opX
  split
  ·unfold nwX
   split <;> exact ⟨Int.le_refl _,(by decide:(0:Int)<18446744073709551616)⟩
  ·exact ⟨Int.le_refl _,(by decide:(0:Int)<18446744073709551616)⟩
theorem IvL.lim {k:Nat} {s:St} (h:IvL k s) (n:Int):IvL k { s with lim:=n }:=⟨h.few,h.r,h.cnt⟩
theorem IvL.arrive {k:Nat} {s:St} (h:IvL k s) (hk:k≤900) {t:Tk} {c:Int} (e:arE s t c=0) (hc:c=-1∨Vld s.x.F s.x.o c):IvL (k+1) (arX s t c):=by
 have hl:(allT (arX s t c)).length≤k+1:=by
  have:=(arr_ids e hc).1.length_eq
  rw [List.length_append,ids_len,ids_len,List.length_singleton] at this
  have:=h.cnt
  omega
 rcases (arE_yes e).2 with ⟨k3,hj⟩ | ⟨k3,-,-⟩
 ·have q:arX s t c={ s with x:=jnX s.x c (seated t 0) }:=if_pos k3
  rw [q] at hl ⊢
  refine ⟨jnX_few h.few (fun j=>by have:=h.at j;omega) h.r c _,?_,hl⟩
  show Word (jnX s.x c (seated t 0)).r
  rw [jnX_is hj]
  exact h.r
 ·have q:arX s t c={ s with run:=s.run ++ [seated t (ftN s t.wid)] }:=if_neg k3
  rw [q] at hl ⊢
  exact ⟨h.few,h.r,hl⟩
theorem dsX_len {s:St} (c:dsC s=true):(allT (dsX s)).length=(allT s).length:=by
 have h:=dsC_wt c
 have e1:=flt_len (dsX s).x.F
 have e2:=flt_len s.x.F
 rw [allT_len,allT_len]
 have e3:(dsX s).run.length=s.run.length+1:=by
  show (s.run ++ [dsT s]).length=_
  rw [List.length_append,List.length_singleton]
 omega
theorem tkX_r {x:Fa} (h:Few x.F) (hr:Word x.r):Word (tkX x).r:=by
 unfold tkX
 split
 ·exact hr
 ·have h2:=fN_word (g:=x.g) (h.at (nxt x.F x.g).toNat).1
  exact ⟨by show 0≤max x.r _;have:=hr.1;omega,by show max x.r _<_;have:=hr.2;have:=h2.2;omega⟩
theorem IvL.one {k:Nat} {s:St} (h:IvL k s) (c:dsC s=true):IvL k (dsX s):=⟨tkX_few h.few,tkX_r h.few h.r,by rw [dsX_len c];exact h.cnt⟩
theorem IvL.dispatch {k:Nat} {s:St} (h:IvL k s):IvL k (dsA s).1:=dsR_ind (P:=fun a _=>IvL k a) (fun _ _ h c=>h.one c) _ _ _ h
theorem IvL.done {k:Nat} {s:St} (h:IvL k s) {id:Int} (e:fnd id s.run<s.run.length):IvL k { s with run:=drL id s.run }:=by
 refine ⟨h.few,h.r,?_⟩
 have:=(done_ids e).length_eq
 rw [List.length_append,ids_len,ids_len,List.length_singleton] at this
 have:=h.cnt
 omega
theorem dpX_r {x:Fa} (hr:Word x.r) (id:Int):Word (dpX x id).r:=by
 unfold dpX
 split <;> exact hr
theorem IvL.drop {k:Nat} {s:St} (h:IvL k s) {id:Int} (e:dpK s.x.F id<s.x.F.length):IvL k { s with x:=dpX s.x id }:=by
 refine ⟨dpX_few h.few id,dpX_r h.r id,?_⟩
 have:=(drop_ids e).length_eq
 rw [List.length_append,ids_len,ids_len,List.length_singleton] at this
 have:=h.cnt
 omega
theorem ltK_few {F:List Ln} (h:Few F) (now:Int):Few (ltK now F):=by
 refine ⟨by rw [ltK_len];exact h.len,fun l hl=>?_⟩
 obtain ⟨m,hm,rfl⟩:=List.mem_map.1 hl
 have:=h.each m hm
 exact ⟨this.1,Nat.le_trans (List.length_filter_le _ _) this.2⟩
theorem trm_few {F:List Ln} (h:Few F) (o:Int):Few (trm F o):=by
 unfold trm
 exact ⟨Nat.le_trans (List.length_take_le' _ _) h.len,fun l hl=>h.each l (List.mem_of_mem_take hl)⟩
theorem ltX_few {s:St} (h:Few s.x.F) (now:Int):Few (ltX now s).x.F:=by
 unfold ltX
 by_cases c:ltA now s.x.F=[]
 ·simp only [if_pos c];exact h
 ·simp only [if_neg c];exact trm_few (ltK_few h now) _
theorem IvL.late {k:Nat} {s:St} (h:IvL k s) (now:Int):IvL k (ltX now s):=by
 refine ⟨ltX_few h.few now,?_,?_⟩
 ·unfold ltX
  by_cases c:ltA now s.x.F=[]
  ·simp only [if_pos c];exact h.r
  ·simp only [if_neg c];exact h.r
 ·have:=(late_ids now s).length_eq
  rw [List.length_append,ids_len,ids_len,ids_len] at this
  have:=h.cnt
  omega
theorem tuF_few {s:St} (h:Few s.x.F) (l:Lv) (q:Bool):Few (tuF s l q).F:=by
 unfold tuF
 split
 ·exact shX_few h _ _ _
 ·exact trm_few h 0
theorem IvL.turn {k:Nat} {s:St} (h:IvL k s) (l:Lv) (q:Bool):IvL k (tuS s l q):=by
 refine ⟨tuF_few h.few l q,?_,?_⟩
 ·show Word (tuF s l q).r
  unfold tuF
  split
  ·rename_i c
   unfold tuC at c
   rw [Bool.and_eq_true] at c
   have hg:=nwE_good (of_decide_eq_true c.2)
   unfold shX
   rw [if_pos hg]
   exact h.r
  ·exact h.r
 ·have:=congrArg List.length (turn_ids s l q)
  rw [ids_len,ids_len] at this
  have:=h.cnt
  omega
end Go.Proofs.YtlgibnmoogbdcaaGreat
