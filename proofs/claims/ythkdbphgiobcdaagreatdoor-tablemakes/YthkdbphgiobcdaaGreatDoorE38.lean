/-
  The reference of layers 8 and 10 (RfL).
  The reference of layers 8 and 10 (BxR).
  The reference of layers 8 and 10 (RfR0).
-/
import Derived.Test.YthkdbphgiobcdaaGreatDoorE35
import Derived.Test.YthkdbphgiobcdaaGreatDoorE36
import Derived.Test.YthkdbphgiobcdaaGreatDoorE37
import Derived.Test.YthkdbphgiobcdaaGreatDoorE30
import Derived.Test.YthkdbphgiobcdaaGreatDoorE32
import Derived.Test.YthkdbphgiobcdaaGreatDoorE34
namespace Go.Proofs.YthkdbphgiobcdaaGreatDoor
open Go.RowKit Go.Lib
set_option maxRecDepth 20000 in
set_option maxHeartbeats 1000000 in
theorem rlevel_no {B:Nat} (a:Option Addr) (c n:Nat) (w:World) (C:Cf) (vL vS:Value) (V:List Value) (hL:LvOwn B w vL C.levels) (hS:ScOwn B w vS C.schemas V)
  (h3:((n:Int) == 3)=false) (h6:((n:Int) == 6)=false) (h11:((n:Int) == 11)=false) :
  Calls Tryz.prog 154 #[.agg #[.int .i64 C.total,.int .i64 C.period,.int .i64 C.perSeat,.int .i64 C.most,vL,vS],.slice a n c] w fun e w'=>∃ v,e=.returned (.tuple #[v,.int .i64 2])∧Below w.heap.size w w'∧Six v:=by
 have X0:Hd _:=⟨Lx.start hL hS⟩
 obtain ⟨aL,cL,rfl⟩:=own_form hL
 obtain ⟨aS,cS,rfl⟩:=own_form hS.own
 clear hL hS
 go_enter Tryz.func154,Tryz.ntmps154
 go_upto_region 3 with fail
 generalize hw2:World.alloc _ _=w2
 have X2:Hd (Lx B w w2 C (.slice aL C.levels.length cL) (.slice aS C.schemas.length cS) V (lv0 0)):=⟨by rw [←hw2];exact X0.out⟩
 clear hw2 X0
 obtain ⟨y0,y1,y2,y3,y4,y5⟩:=X2.out.x.reads
 obtain ⟨r0,r1,r2,r3,r4,r5,f0,f1,f2,f3,f4,f5⟩:=X2.out.x.room
 go_wp2_with fail
 obtain ⟨q1,q2,q3⟩:=X2.out.x.sets (.int .i64 C.total) (.int .i64 C.period) (.int .i64 C.perSeat) (.int .i64 C.most) (.slice aL C.levels.length cL) (.slice aS C.schemas.length cS)
 refine bodyPost_ret (resC36 _ _ _ _ _ _ _ _ _ _ rfl rfl q1) rfl ?_
 exact ⟨_,rfl,q2,⟨_,_,_,_,_,_,_,_,_,_,rfl⟩⟩
set_option maxRecDepth 20000 in
set_option maxHeartbeats 1000000 in
theorem rlevel_no3 {B:Nat} (b off c:Nat) (x:ByteArray) (w:World) (C:Cf) (vL vS:Value) (V:List Value) (hL:LvOwn B w vL C.levels) (hS:ScOwn B w vS C.schemas V) (hb:b<w.heap.size)
  (hc:w.cell? ⟨b,off+2,none⟩=some (.string x)) (hx:x≠mk [101,120,101,109,112,116]) :
  Calls Tryz.prog 154 #[.agg #[.int .i64 C.total,.int .i64 C.period,.int .i64 C.perSeat,.int .i64 C.most,vL,vS],.slice (some ⟨b,off,none⟩) 3 c] w fun e w'=>∃ v,e=.returned (.tuple #[v,.int .i64 2])∧Below w.heap.size w w'∧Six v:=by
 have X0:Hd _:=⟨Lx.start hL hS⟩
 obtain ⟨aL,cL,rfl⟩:=own_form hL
 obtain ⟨aS,cS,rfl⟩:=own_form hS.own
 clear hL hS
 have tx:=lit_isnt hx
 clear hx
 go_enter Tryz.func154,Tryz.ntmps154
 go_upto_region 3 with fail
 generalize hw2:World.alloc _ _=w2
 have X2:Hd (Lx B w w2 C (.slice aL C.levels.length cL) (.slice aS C.schemas.length cS) V (lv0 0)):=⟨by rw [←hw2];exact X0.out⟩
 clear hw2 X0
 have c2:=(X2.out.x.bel.cell (p:=⟨b,off+2,none⟩) hb).trans hc
 obtain ⟨y0,y1,y2,y3,y4,y5⟩:=X2.out.x.reads
 obtain ⟨r0,r1,r2,r3,r4,r5,f0,f1,f2,f3,f4,f5⟩:=X2.out.x.room
 go_wp2_with fail
 obtain ⟨q1,q2,q3⟩:=X2.out.x.sets (.int .i64 C.total) (.int .i64 C.period) (.int .i64 C.perSeat) (.int .i64 C.most) (.slice aL C.levels.length cL) (.slice aS C.schemas.length cS)
 refine bodyPost_ret (resC36 _ _ _ _ _ _ _ _ _ _ rfl rfl q1) rfl ?_
 exact ⟨_,rfl,q2,⟨_,_,_,_,_,_,_,_,_,_,rfl⟩⟩
set_option maxRecDepth 20000 in
set_option maxHeartbeats 1000000 in
theorem rlevel_no6 {B:Nat} (b off c:Nat) (x:ByteArray) (w:World) (C:Cf) (vL vS:Value) (V:List Value) (hL:LvOwn B w vL C.levels) (hS:ScOwn B w vS C.schemas V) (hb:b<w.heap.size)
  (hc:w.cell? ⟨b,off+5,none⟩=some (.string x)) (hx:x≠mk [114,101,106,101,99,116]) :
  Calls Tryz.prog 154 #[.agg #[.int .i64 C.total,.int .i64 C.period,.int .i64 C.perSeat,.int .i64 C.most,vL,vS],.slice (some ⟨b,off,none⟩) 6 c] w fun e w'=>∃ v,e=.returned (.tuple #[v,.int .i64 2])∧Below w.heap.size w w'∧Six v:=by
 have X0:Hd _:=⟨Lx.start hL hS⟩
 obtain ⟨aL,cL,rfl⟩:=own_form hL
 obtain ⟨aS,cS,rfl⟩:=own_form hS.own
 clear hL hS
 have tx:=lit_isnt hx
 clear hx
 go_enter Tryz.func154,Tryz.ntmps154
 go_upto_region 3 with fail
 generalize hw2:World.alloc _ _=w2
 have X2:Hd (Lx B w w2 C (.slice aL C.levels.length cL) (.slice aS C.schemas.length cS) V (lv0 0)):=⟨by rw [←hw2];exact X0.out⟩
 clear hw2 X0
 have c2:=(X2.out.x.bel.cell (p:=⟨b,off+5,none⟩) hb).trans hc
 obtain ⟨y0,y1,y2,y3,y4,y5⟩:=X2.out.x.reads
 obtain ⟨r0,r1,r2,r3,r4,r5,f0,f1,f2,f3,f4,f5⟩:=X2.out.x.room
 go_wp2_with fail
 obtain ⟨q1,q2,q3⟩:=X2.out.x.sets (.int .i64 C.total) (.int .i64 C.period) (.int .i64 C.perSeat) (.int .i64 C.most) (.slice aL C.levels.length cL) (.slice aS C.schemas.length cS)
 refine bodyPost_ret (resC36 _ _ _ _ _ _ _ _ _ _ rfl rfl q1) rfl ?_
 exact ⟨_,rfl,q2,⟨_,_,_,_,_,_,_,_,_,_,rfl⟩⟩
set_option maxRecDepth 20000 in
set_option maxHeartbeats 1000000 in
theorem rlevel_no11 {B:Nat} (b off c:Nat) (x:ByteArray) (w:World) (C:Cf) (vL vS:Value) (V:List Value) (hL:LvOwn B w vL C.levels) (hS:ScOwn B w vS C.schemas V) (hb:b<w.heap.size)
  (hc:w.cell? ⟨b,off+5,none⟩=some (.string x)) (hx:x≠mk [113,117,101,117,101]) :
  Calls Tryz.prog 154 #[.agg #[.int .i64 C.total,.int .i64 C.period,.int .i64 C.perSeat,.int .i64 C.most,vL,vS],.slice (some ⟨b,off,none⟩) 11 c] w fun e w'=>∃ v,e=.returned (.tuple #[v,.int .i64 2])∧Below w.heap.size w w'∧Six v:=by
 have X0:Hd _:=⟨Lx.start hL hS⟩
 obtain ⟨aL,cL,rfl⟩:=own_form hL
 obtain ⟨aS,cS,rfl⟩:=own_form hS.own
 clear hL hS
 have tx:=lit_isnt hx
 clear hx
 go_enter Tryz.func154,Tryz.ntmps154
 go_upto_region 3 with fail
 generalize hw2:World.alloc _ _=w2
 have X2:Hd (Lx B w w2 C (.slice aL C.levels.length cL) (.slice aS C.schemas.length cS) V (lv0 0)):=⟨by rw [←hw2];exact X0.out⟩
 clear hw2 X0
 have c2:=(X2.out.x.bel.cell (p:=⟨b,off+5,none⟩) hb).trans hc
 obtain ⟨y0,y1,y2,y3,y4,y5⟩:=X2.out.x.reads
 obtain ⟨r0,r1,r2,r3,r4,r5,f0,f1,f2,f3,f4,f5⟩:=X2.out.x.room
 go_wp2_with fail
 obtain ⟨q1,q2,q3⟩:=X2.out.x.sets (.int .i64 C.total) (.int .i64 C.period) (.int .i64 C.perSeat) (.int .i64 C.most) (.slice aL C.levels.length cL) (.slice aS C.schemas.length cS)
 refine bodyPost_ret (resC36 _ _ _ _ _ _ _ _ _ _ rfl rfl q1) rfl ?_
 exact ⟨_,rfl,q2,⟨_,_,_,_,_,_,_,_,_,_,rfl⟩⟩
theorem rlevel_ok {B:Nat} (a:Option Addr) (c:Nat) (ws:List ByteArray) (w:World) (C:Cf) (v:Value) (hv:CfV B w v C) (hr:RowL w a ws) (hl:0<ws.length) (hsz:∀ k,(gt ws k).size≤65536) (hnl:C.levels.length≤16) (hB:B≤w.heap.size) :
  Calls Tryz.prog 154 #[v,.slice a ws.length c] w fun e w'=>∃ v',e=.returned (.tuple #[v',.int .i64 (levelE C ws.tail)])∧Below w.heap.size w w'∧Six v'
   ∧ (levelE C ws.tail=0→CfV B w' v' ⟨C.total,C.period,C.perSeat,C.most,C.levels ++ [levelOf ws.tail],C.schemas⟩):=by
 obtain ⟨vL,vS,V,rfl,hL,hS⟩:=hv
 obtain ⟨b,off,rfl,hb,hc⟩:=hr hl
 have bad:kindW ws.tail=0→levelE C ws.tail=2:=fun h=>by
  unfold levelE levelW
  rw [if_pos h,mu_keep (e:=2) (by decide),mu_keep (e:=2) (by decide)]
 by_cases h3:ws.length=3
 ·match ws,h3,hc,hsz,bad with
  | [x0,x1,x2],_,hc,hsz,bad =>
   by_cases hk:x2=tExempt
   ·exact rlevel_1 b off c x1 x2 w C vL vS V hL hS hb (hc 1 (by simp)) (hc 2 (by simp)) (hsz 1) hk hnl hB
   ·have e2:=bad (by simp [kindW,gt,hk])
    show Calls _ _ _ _ _
    rw [e2]
    refine (rlevel_no3 b off c x2 w C vL vS V hL hS hb (hc 2 (by simp)) hk).mono ?_
    rintro e w' ⟨v,rfl,hb,h6⟩
    exact ⟨v,rfl,hb,h6,fun h=>absurd h (by decide)⟩
 by_cases h6:ws.length=6
 ·match ws,h6,hc,hsz,bad with
  | [x0,x1,x2,x3,x4,x5],_,hc,hsz,bad =>
   by_cases hk:x5=tReject
   ·exact rlevel_2 b off c x1 x2 x3 x4 x5 w C vL vS V hL hS hb (hc 1 (by simp)) (hc 2 (by simp)) (hc 3 (by simp)) (hc 4 (by simp)) (hc 5 (by simp)) (hsz 1) (hsz 2) (hsz 3) (hsz 4) hk hnl hB
   ·have e2:=bad (by simp [kindW,gt,hk])
    show Calls _ _ _ _ _
    rw [e2]
    refine (rlevel_no6 b off c x5 w C vL vS V hL hS hb (hc 5 (by simp)) hk).mono ?_
    rintro e w' ⟨v,rfl,hb,h6⟩
    exact ⟨v,rfl,hb,h6,fun h=>absurd h (by decide)⟩
 by_cases h11:ws.length=11
 ·match ws,h11,hc,hsz,bad with
  | [x0,x1,x2,x3,x4,x5,x6,x7,x8,x9,x10],_,hc,hsz,bad =>
   by_cases hk:x5=tQueue
   ·exact rlevel_3 b off c x1 x2 x3 x4 x5 x6 x7 x8 x9 x10 w C vL vS V hL hS hb (hc 1 (by simp)) (hc 2 (by simp)) (hc 3 (by simp)) (hc 4 (by simp)) (hc 5 (by simp)) (hc 6 (by simp)) (hc 7 (by simp)) (hc 8 (by simp)) (hc 9 (by simp)) (hc 10 (by simp)) (hsz 1) (hsz 2) (hsz 3) (hsz 4) (hsz 6) (hsz 7) (hsz 8) (hsz 9) (hsz 10) hk hnl hB
   ·have e2:=bad (by simp [kindW,gt,hk])
    show Calls _ _ _ _ _
    rw [e2]
    refine (rlevel_no11 b off c x5 w C vL vS V hL hS hb (hc 5 (by simp)) hk).mono ?_
    rintro e w' ⟨v,rfl,hb,h6⟩
    exact ⟨v,rfl,hb,h6,fun h=>absurd h (by decide)⟩
 ·have e2:=bad (by
   have e:ws.tail.length=ws.length - 1:=List.length_tail ..
   unfold kindW
   rw [if_neg (fun h=>by omega),if_neg (fun h=>by omega),if_neg (fun h=>by omega)])
  rw [e2]
  refine (rlevel_no (some ⟨b,off,none⟩) c ws.length w C vL vS V hL hS (by simp;omega) (by simp;omega) (by simp;omega)).mono ?_
  rintro e w' ⟨v,rfl,hb,h6⟩
  exact ⟨v,rfl,hb,h6,fun h=>absurd h (by decide)⟩
end Go.Proofs.YthkdbphgiobcdaaGreatDoor

namespace Go.Proofs.YthkdbphgiobcdaaGreatDoor
open Go
theorem Bx.swap {B:Nat} {w w8:World} {C:Cf} {vL vS v':Value} {V:List Value} (h:Bx B w w8 C vL vS V) (hown:w8.ownsRow B 47 5 v' C.schemas.length (scCs C.schemas V)) :
  Bx B w (w8.setCell ⟨w.heap.size,5,none⟩ v') C vL v' V:=by
 have k9:Kept (fun k=>k=w.heap.size) w8 (w8.setCell ⟨w.heap.size,5,none⟩ v'):=(Kept.refl (fun k=>k=w.heap.size) w8).setCell ⟨w.heap.size,5,none⟩ v' (.inl rfl)
 exact ⟨h.bel.trans (k9.below h.bel.size (fun j hj=>by omega)),h.c.set 5 _,h.r.kept k9 (by omega),h.l.off k9 (off_blkR h.c (by decide)),
  (ScOwn.mk h.s.len hown h.s.rls).off k9 (off_blkR h.c (by decide)) (off_blkR h.c (by decide)) (off_blkR h.c (by decide))⟩
end Go.Proofs.YthkdbphgiobcdaaGreatDoor

namespace Go.Proofs.YthkdbphgiobcdaaGreatDoor
open Go.RowKit Go.Lib
theorem Lst.one {B:Nat} {w:World} {v:Value} {L:List ByteArray} (h:Lst B w v L):v.oneCell'=true:=by
 obtain ⟨a,c,rfl,_⟩:=h
 rfl
theorem rls_ones {B:Nat} {w:World} : ∀ (cs:List Value) (rs:List Rl),RlsV B w cs rs→∀ u∈cs,u.oneCell'=true
 | _,[],h,u,hu=>by cases h;cases hu
 | _,r :: rs,⟨c,cs',e,hr,ht⟩,u,hu=>by
  subst e
  rcases List.mem_append.1 hu with hu | hu
  ·obtain ⟨v0,v1,v2,v3,v4,e,h0,h1,h2,h3,h4⟩:=hr
   subst e
   simp only [List.mem_cons,List.not_mem_nil,or_false] at hu
   rcases hu with rfl | rfl | rfl | rfl | rfl
   ·exact h0.one
   ·exact h1.one
   ·exact h2.one
   ·exact h3.one
   ·exact h4.one
  ·exact rls_ones cs' rs ht u hu
theorem Bx.rule {B q cap sb m cS:Nat} {w w8:World} {T P S M:Int} {lv:List Lv} {ini:List Sc} {s:Sc} {r:Rl} {vL vr:Value} {Vi cs5 cs:List Value}
  (h:Bx B w w8 ⟨T,P,S,M,lv,ini ++ [s]⟩ vL (.slice (some ⟨sb,0,none⟩) (m+1) cS) (Vi ++ [vr])) (hm:m=ini.length) (hV:Vi.length=ini.length) (hsw:w.heap.size≤sb)
  (hrv:RlsV B w8 cs s.rules) (h5:RlV B w8 cs5 r) (hown:w8.ownsRow B 54 5 (.slice (some ⟨q,0,none⟩) (s.rules.length+1) cap) (s.rules.length+1) (cs++cs5)) :
  Bx B w (w8.setCell ⟨sb,m*5+4,none⟩ (.slice (some ⟨q,0,none⟩) (s.rules.length+1) cap)) ⟨T,P,S,M,lv,addRule r (ini ++ [s])⟩ vL (.slice (some ⟨sb,0,none⟩) (m+1) cS) (Vi ++ [.slice (some ⟨q,0,none⟩) (s.rules.length+1) cap]):=by
 have S8:w8.ownsRow B 47 5 _ _ _:=h.s.own
 obtain ⟨cur,hsb⟩:=owns_type S8 (g:=sb) rfl
 have k9:Kept (fun k=>k=sb) w8 (w8.setCell ⟨sb,m*5+4,none⟩ (.slice (some ⟨q,0,none⟩) (s.rules.length+1) cap)):=(Kept.refl _ w8).setCell ⟨sb,m*5+4,none⟩ _ (.inl rfl)
 have o:∀ t,47≠t→OffR t (fun k=>k=sb) w8:=fun t ht=>off_blkR hsb ht
 have new:RlOwn B (w8.setCell ⟨sb,m*5+4,none⟩ (.slice (some ⟨q,0,none⟩) (s.rules.length+1) cap)) (.slice (some ⟨q,0,none⟩) (s.rules.length+1) cap) (s.rules ++ [r]) :=
  ⟨cs++cs5,by rw [List.length_append];exact owns_offR hown k9 (o 54 (by decide)),RlsV.kept k9 (o 9 (by decide)) _ _ (rls_append h5 cs s.rules hrv)⟩
 refine ⟨h.bel.trans (k9.below h.bel.size (fun j hj=>by rw [hj];exact hsw)),h.c.off k9 (o 25 (by decide)),h.r.off k9 (o 25 (by decide)),h.l.off k9 (o 43 (by decide)),?_⟩
 dsimp only
 rw [addRule_last]
 refine ⟨by simp [hV],?_,?_⟩
 ·rw [scCs_appendR _ _ _ _ hV]
  have S8':=S8
  dsimp only at S8'
  rw [scCs_appendR _ _ _ _ hV] at S8'
  obtain ⟨l1,l2⟩:=S8'
  rcases l2 with ⟨e,_⟩ | ⟨g',cap',cur',e,hB',hg',hc',hm',hs',ht'⟩
  ·cases e
  ·obtain ⟨rfl,rfl⟩:sb=g'∧cS=cap':=by
    injection e with e1 _ e3
    injection e1 with e1
    injection e1 with e1 _
    exact ⟨e1,e3⟩
   refine ⟨by simpa [scC,withRule] using l1,.inr ⟨sb,cS,_,by simp [hm],hB',heap_setCell_same w8 sb (m*5+4) cur' 47 _ hg',?_,hm',by simpa using hs',?_⟩⟩
   ·simpa using hc'
   ·have hl:(ini ++ [withRule r s]).length=(ini ++ [s]).length:=by simp
    rw [Array.toList_setIfInBounds,hl,List.take_set,ht']
    rw [List.set_append_right _ _ (by rw [scCs_len _ _ hV,← hm];omega),scCs_len _ _ hV,← hm,show m*5+4 - m*5=4 by omega]
    rfl
 ·intro i hi hi'
  by_cases c:i<ini.length
  ·have cV:i<Vi.length:=by omega
   rw [List.getElem_append_left c,List.getElem_append_left cV]
   have h1:=h.s.rls i (by simp;omega) (by simp;omega)
   dsimp only at h1
   rw [List.getElem_append_left c,List.getElem_append_left cV] at h1
   exact h1.off k9 (o 9 (by decide)) (o 54 (by decide))
  ·obtain rfl:i=ini.length:=by simp at hi;omega
   have e1:(ini ++ [withRule r s])[ini.length]=withRule r s:=by simp
   have e2:(Vi ++ [(.slice (some ⟨q,0,none⟩) (s.rules.length+1) cap:Value)])[ini.length]'hi'=.slice (some ⟨q,0,none⟩) (s.rules.length+1) cap:=by
    rw [List.getElem_append_right (by omega)]
    simp [hV]
   rw [e1,e2]
   exact new
def arr5 (vs:List Value):Array Value:=(vs++List.replicate (5 - vs.length) (Value.slice none 0 0)).toArray
theorem arr5_set (vs:List Value) (v:Value) (h:vs.length<5):(arr5 vs).setIfInBounds vs.length v=arr5 (vs ++ [v]):=by
 match vs,h with
 | [],_=>rfl
 | [_],_=>rfl
 | [_,_],_=>rfl
 | [_,_,_],_=>rfl
 | [_,_,_,_],_=>rfl
theorem arr5_at (vs:List Value) (h:vs.length<5):(arr5 vs)[vs.length]?=some (.slice none 0 0):=by
 match vs,h with
 | [],_=>rfl
 | [_],_=>rfl
 | [_,_],_=>rfl
 | [_,_,_],_=>rfl
 | [_,_,_,_],_=>rfl
structure Rx (B:Nat) (w wr:World) (C:Cf) (vL vS:Value) (V:List Value) (ws:List ByteArray) (vs:List Value):Prop where
 x:Bx B w wr C vL vS V
 q:Blk wr (w.heap.size+1+1) 206 (arr5 vs)
 ls:∀ j (h:j<vs.length),Lst B wr vs[j] (listOf (gt ws (j+1)))
 ok:∀ j,j<vs.length→listOk (gt ws (j+1))=true
theorem Rx.start {B:Nat} {w w2:World} {C:Cf} {vL vS:Value} {V:List Value} (h:Bx B w w2 C vL vS V) (hs:w2.heap.size=w.heap.size+1+1) (ws:List ByteArray):Rx B w (w2.alloc (.cells #[.slice none 0 0,.slice none 0 0,.slice none 0 0,.slice none 0 0,.slice none 0 0] 206)) C vL vS V ws []:=by
 have n:=Blk.new w2 206 #[.slice none 0 0,.slice none 0 0,.slice none 0 0,.slice none 0 0,.slice none 0 0]
 rw [hs] at n
 exact ⟨h.grown ((Below.refl _ _).alloc (Nat.le_refl _) _),n,fun j hj=>absurd hj (Nat.not_lt_zero _),fun j hj=>absurd hj (Nat.not_lt_zero _)⟩
theorem Rx.grown {B:Nat} {w wr w':World} {C:Cf} {vL vS:Value} {V:List Value} {ws:List ByteArray} {vs:List Value} (h:Rx B w wr C vL vS V ws vs) (b:Below wr.heap.size wr w'):Rx B w w' C vL vS V ws vs :=
 ⟨h.x.grown b,h.q.kept (Kept.of_below b (fun _=>False)) id,fun j hj=>(h.ls j hj).kept (Kept.of_below b (fun _=>False)) (fun _ _ _ _=>id),h.ok⟩
theorem Rx.next {B:Nat} {w wr:World} {C:Cf} {vL vS:Value} {V:List Value} {ws:List ByteArray} {vs:List Value} {v:Value} (h:Rx B w wr C vL vS V ws vs) (hk:vs.length<5) (hv:Lst B wr v (listOf (gt ws (vs.length+1)))) (ho:listOk (gt ws (vs.length+1))=true) :
  Rx B w (wr.setCell ⟨w.heap.size+1+1,vs.length,none⟩ v) C vL vS V ws (vs ++ [v]):=by
 have k:Kept (fun k=>k=w.heap.size+1+1) wr (wr.setCell ⟨w.heap.size+1+1,vs.length,none⟩ v):=(Kept.refl (fun k=>k=w.heap.size+1+1) wr).setCell ⟨w.heap.size+1+1,vs.length,none⟩ v (.inl rfl)
 have o:∀ t,206≠t→OffR t (fun k=>k=w.heap.size+1+1) wr:=fun t ht=>off_blkR h.q ht
 refine ⟨⟨h.x.bel.trans (k.below h.x.bel.size (fun j hj=>by omega)),h.x.c.off k (o 25 (by decide)),h.x.r.off k (o 25 (by decide)),h.x.l.off k (o 43 (by decide)),h.x.s.off k (o 9 (by decide)) (o 47 (by decide)) (o 54 (by decide))⟩,?_,fun j hj=>?_,fun j hj=>?_⟩
 ·rw [←arr5_set vs v hk]
  exact h.q.set _ _
 ·by_cases c:j<vs.length
  ·rw [List.getElem_append_left c]
   exact (h.ls j c).kept k (o 9 (by decide))
  ·obtain rfl:j=vs.length:=by simp at hj;omega
   rw [List.getElem_append_right (Nat.le_refl _)]
   simp only [Nat.sub_self,List.getElem_cons_zero]
   exact hv.kept k (o 9 (by decide))
 ·by_cases c:j<vs.length
  ·exact h.ok j c
  ·obtain rfl:j=vs.length:=by simp at hj;omega
   exact ho
theorem Rx.five {B:Nat} {w wr:World} {C:Cf} {vL vS:Value} {V:List Value} {ws:List ByteArray} {vs:List Value} (h:Rx B w wr C vL vS V ws vs) (h5:vs.length=5) :
  ∃ a0 n0 c0 a1 n1 c1 a2 n2 c2 a3 n3 c3 a4 n4 c4,vs=[.slice a0 n0 c0,.slice a1 n1 c1,.slice a2 n2 c2,.slice a3 n3 c3,.slice a4 n4 c4]∧RlV B wr vs (ruleOf ws.tail):=by
 match vs,h5,h.ls with
 | [v0,v1,v2,v3,v4],_,ls =>
  have l0:=ls 0 (by simp)
  have l1:=ls 1 (by simp)
  have l2:=ls 2 (by simp)
  have l3:=ls 3 (by simp)
  have l4:=ls 4 (by simp)
  have R:RlV B wr [v0,v1,v2,v3,v4] (ruleOf ws.tail):=by
   unfold ruleOf
   simp only [gt_tail]
   exact ⟨v0,v1,v2,v3,v4,rfl,l0,l1,l2,l3,l4⟩
  obtain ⟨a0,c0,rfl,_⟩:=l0
  obtain ⟨a1,c1,rfl,_⟩:=l1
  obtain ⟨a2,c2,rfl,_⟩:=l2
  obtain ⟨a3,c3,rfl,_⟩:=l3
  obtain ⟨a4,c4,rfl,_⟩:=l4
  exact ⟨_,_,_,_,_,_,_,_,_,_,_,_,_,_,_,rfl,R⟩
theorem rule_bad {C:Cf} {ws:List ByteArray} {k:Nat} (hk:k<5) (h:listOk (gt ws k)=false):ruleE C ws=2:=by
 have key:∀ (e:Int) (b:Bool),(e=0∨e=2)→(mu e (ifE b 2)=0∨mu e (ifE b 2)=2)∧(e=2→mu e (ifE b 2)=2)∧(b=false→mu e (ifE b 2)=2):=by
  intro e b he
  rcases he with rfl | rfl <;> cases b <;> simp [mu,ifE]
 have k0:=key 0 (((ws.length:Int) == 5) && decide (0<(C.schemas.length:Int))) (.inl rfl)
 rw [mu_zero] at k0
 have k1:=key _ (listOk (gt ws 0)) k0.1
 have k2:=key _ (listOk (gt ws 1)) k1.1
 have k3:=key _ (listOk (gt ws 2)) k2.1
 have k4:=key _ (listOk (gt ws 3)) k3.1
 have k5:=key _ (listOk (gt ws 4)) k4.1
 have e:ruleW C ws=2:=by
  unfold ruleW
  match k,hk,h with
  | 0,_,h=>exact k5.2.1 (k4.2.1 (k3.2.1 (k2.2.1 (k1.2.2 h))))
  | 1,_,h=>exact k5.2.1 (k4.2.1 (k3.2.1 (k2.2.2 h)))
  | 2,_,h=>exact k5.2.1 (k4.2.1 (k3.2.2 h))
  | 3,_,h=>exact k5.2.1 (k4.2.2 h)
  | 4,_,h=>exact k5.2.2 h
 unfold ruleE
 rw [e,mu_keep (e:=2) (by decide)]
theorem rule_fine {C:Cf} {ws:List ByteArray} (hl:ws.length=5) (hp:0<C.schemas.length) (h:∀ k,k<5→listOk (gt ws k)=true):ruleE C ws=ifE (decide (((lastRules C).length:Int)<8)) 3:=by
 have e:ruleW C ws=0:=by
  unfold ruleW
  have e1:(((ws.length:Int) == 5) && decide (0<(C.schemas.length:Int)))=true:=by rw [hl];simp;omega
  rw [e1,h 0 (by decide),h 1 (by decide),h 2 (by decide),h 3 (by decide),h 4 (by decide)]
  rfl
 unfold ruleE
 rw [e,mu_zero]
theorem rule_none {C:Cf} {ws:List ByteArray} (h:ws.length≠5∨C.schemas.length=0):ruleE C ws=2:=by
 have e1:(((ws.length:Int) == 5) && decide (0<(C.schemas.length:Int)))=false:=by
  rcases h with h | h
  ·have:((ws.length:Int) == 5)=false:=by simp;omega
   rw [this];rfl
  ·rw [h];simp
 unfold ruleE ruleW
 rw [e1,ifE_no,mu_keep (e:=2) (by decide),mu_keep (e:=2) (by decide),mu_keep (e:=2) (by decide),mu_keep (e:=2) (by decide),mu_keep (e:=2) (by decide),mu_keep (e:=2) (by decide)]
theorem Rx.rlv {B:Nat} {w wr:World} {C:Cf} {vL vS:Value} {V:List Value} {ws:List ByteArray} {vs:List Value} (h:Rx B w wr C vL vS V ws vs) (h5:vs.length=5):RlV B wr vs (ruleOf ws.tail):=by
 obtain ⟨_,_,_,_,_,_,_,_,_,_,_,_,_,_,_,_,r⟩:=h.five h5
 exact r
theorem Rx.swap {B:Nat} {w w8:World} {C:Cf} {vL vS v':Value} {V:List Value} {ws:List ByteArray} {vs:List Value} (h:Rx B w w8 C vL vS V ws vs) (hown:w8.ownsRow B 47 5 v' C.schemas.length (scCs C.schemas V)) :
  Rx B w (w8.setCell ⟨w.heap.size,5,none⟩ v') C vL v' V ws vs:=by
 have k:Kept (fun k=>k=w.heap.size) w8 (w8.setCell ⟨w.heap.size,5,none⟩ v'):=(Kept.refl (fun k=>k=w.heap.size) w8).setCell ⟨w.heap.size,5,none⟩ v' (.inl rfl)
 exact ⟨h.x.swap hown,h.q.off k (off_blkR h.x.c (by decide)),fun j hj=>(h.ls j hj).kept k (off_blkR h.x.c (by decide)),h.ok⟩
theorem wpList_wanted {P:Program} {w:World} {ops:Array Oper} {rest:List Oper} {o:Oper} {a:Act} {Q:Exit→Act→World→Prop} (hw:Region.wanted o (yielded ops a.tmps)=true) (h:∀ K:Act→World→Prop,(∀ a w,wpList P ops Q rest a w→K a w)→o.wp P a w K Q):wpList P ops Q (o :: rest) a w :=
 wpList_step fun K hK=>by rw [if_pos hw];exact h K hK
theorem wpList_copy {P:Program} {ops:Array Oper} {rest:List Oper} {o:Oper} {a:Act} {w:World} {Q:Exit→Act→World→Prop} (hgd:o.guard=none) (s x:Operand) (t:TypeId)
  (ho:o.op=.call { callee:=.builtin .append,args:=#[s,x],argTypes:=#[t,t] })
  (base:Nat) (e:TypeId) (i:TypeInfo) (z:Value) (size bytes:Nat) (ht:P.underlying t=some (.slice e)) (hi:P.info? e=some i) (hz:i.zero=some z)
  (hsize:i.size=size) (hby:i.bytes=bytes) (hzs:z.cells.size=size) (hsz:0<size)
  (q:Nat) (hs:a.eval s=.slice (some ⟨q,0,none⟩) 0 0) (hq:Blk w q e #[]) (hbq:base≤q)
  (B':Nat) (ax:Option Addr) (n c:Nat) (hx:a.eval x=.slice ax n c) (xs:List Value) (hown:w.ownsRow B' e size (.slice ax n c) n xs) (h1:∀ u∈xs,u.oneCell'=true)
  (h63:n≤maxLen) (hbytes:n*bytes≤140737488355328)
  (h:∀ g cap w',w'.ownsRow base e size (.slice (some ⟨g,0,none⟩) n cap) n xs→w.grownBy w' (some q)→g<w'.heap.size→wpList P ops Q rest (a.put o.dst (.slice (some ⟨g,0,none⟩) n cap)) w'):wpList P ops Q (o :: rest) a w:=by
 have hw:Region.wanted o (yielded ops a.tmps)=true:=by simp [Region.wanted,hgd]
 refine wpList_wanted hw fun K hK=>?_
 have:=step_copy (ops:=ops) (E:=True) (K:=K) (Q:=Q) hgd s x t ho base e i z size bytes ht hi hz hsize hby hzs hsz q hs hq hbq B' ax n c hx xs hown h1 h63 hbytes (fun g cap w' a b c=>hK _ _ (h g cap w' a b c))
 rw [if_pos hw] at this
 exact this
end Go.Proofs.YthkdbphgiobcdaaGreatDoor
