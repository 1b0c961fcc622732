/-
  'Line' of the reference.
-/
import Derived.Test.YthkdbphgiobcdaaGreatDoorE33
import Derived.Test.YthkdbphgiobcdaaGreatDoorE38
import Derived.Test.YthkdbphgiobcdaaGreatDoorE39
import Derived.Test.YthkdbphgiobcdaaGreatDoorE30
import Derived.Test.YthkdbphgiobcdaaGreatDoorE8
namespace Go.Proofs.YthkdbphgiobcdaaGreatDoor
open Go.RowKit Go.Lib
theorem CfV.off {B:Nat} {S:Nat→Prop} {w w':World} {v:Value} {C:Cf} (h:CfV B w v C) (k:Kept S w w') (o9:OffR 9 S w) (o39:OffR 43 S w) (o42:OffR 47 S w) (o73:OffR 54 S w):CfV B w' v C:=by
 obtain ⟨vL,vS,V,rfl,hL,hS⟩:=h
 exact ⟨vL,vS,V,rfl,hL.off k o39,hS.off k o9 o42 o73⟩
theorem nums_no (a:Option Addr) (c n:Nat) (q:Int) (vb:Value) (w:World) (h:((n:Int) != q)=true) :
  Calls Tryz.prog 153 #[.slice a n c,.int .i64 q,vb] w fun e w'=>w'=w∧e=.returned (.tuple #[.slice none 0 0,.int .i64 2]):=by
 go_enter Tryz.func153,Tryz.ntmps153
 go_wp2_with fail
 go_ret2
 exact ⟨rfl,rfl⟩
theorem Bx.cfv {B:Nat} {w wr:World} {C:Cf} {vL vS:Value} {V:List Value} (h:Bx B w wr C vL vS V):CfV B wr (.agg #[.int .i64 C.total,.int .i64 C.period,.int .i64 C.perSeat,.int .i64 C.most,vL,vS]) C:=⟨vL,vS,V,rfl,h.l,h.s⟩
theorem Bx.num {B:Nat} {w wr:World} {C C':Cf} {vL vS:Value} {V:List Value} (h:Bx B w wr C vL vS V) (i:Nat) (v:Value) (hl:C'.levels=C.levels) (hs:C'.schemas=C.schemas)
  (e:(#[.int .i64 C.total,.int .i64 C.period,.int .i64 C.perSeat,.int .i64 C.most,vL,vS]:Array Value).setIfInBounds i v=#[.int .i64 C'.total,.int .i64 C'.period,.int .i64 C'.perSeat,.int .i64 C'.most,vL,vS]):Bx B w (wr.setCell ⟨w.heap.size,i,none⟩ v) C' vL vS V:=by
 have k:Kept (fun k=>k=w.heap.size) wr (wr.setCell ⟨w.heap.size,i,none⟩ v):=(Kept.refl (fun k=>k=w.heap.size) wr).setCell ⟨w.heap.size,i,none⟩ v (.inl rfl)
 have o:∀ t,25≠t→OffR t (fun k=>k=w.heap.size) wr:=fun t ht=>off_blkR h.c ht
 refine ⟨h.bel.trans (k.below h.bel.size (fun j hj=>by omega)),?_,h.r.kept k (by omega),?_,?_⟩
 ·rw [←e];exact h.c.set i v
 ·rw [hl];exact h.l.off k (o 43 (by decide))
 ·rw [hs];exact h.s.off k (o 9 (by decide)) (o 47 (by decide)) (o 54 (by decide))
theorem BRow.new1 (w:World) (l h:Int):BRow (w.alloc (.cells #[.int .i64 l,.int .i64 h] 191)) w.heap.size 1 (fun _=>l) (fun _=>h):=by
 have n:=Blk.new w 191 #[.int .i64 l,.int .i64 h]
 refine ⟨n.lt,fun k hk=>?_⟩
 obtain rfl:k=0:=by omega
 exact ⟨n.cellv 0 rfl,n.cellv 1 rfl⟩
def hi2 (h h':Int):Nat→Int
 | 0=>h
 | _=>h'
theorem BRow.new2 (w:World) (l h h':Int):BRow (w.alloc (.cells #[.int .i64 l,.int .i64 h,.int .i64 l,.int .i64 h'] 191)) w.heap.size 2 (fun _=>l) (hi2 h h'):=by
 have n:=Blk.new w 191 #[.int .i64 l,.int .i64 h,.int .i64 l,.int .i64 h']
 refine ⟨n.lt,fun k hk=>?_⟩
 match k,hk with
 | 0,_=>exact ⟨n.cellv 0 rfl,n.cellv 1 rfl⟩
 | 1,_=>exact ⟨n.cellv 2 rfl,n.cellv 3 rfl⟩
theorem OwnN.at {B:Nat} {w:World} {v:Value} {l:List Int} (h:OwnN B w v l):∃ a c,v=.slice a l.length c∧(0<l.length→∃ g,a=some ⟨g,0,none⟩∧g<w.heap.size∧∀ k (hk:k<l.length),w.cell? ⟨g,k,none⟩=some (.int .i64 l[k])):=by
 obtain ⟨a,c,rfl⟩:=own_form h
 refine ⟨a,c,rfl,fun hl=>?_⟩
 rcases h.2 with ⟨e,e2⟩ | ⟨g,cap,cur,e,hB,hb,hc,hm,hs,ht⟩
 ·omega
 ·injection e with e1 e2 e3
  refine ⟨g,e1,?_,fun k hk=>?_⟩
  ·rcases Nat.lt_or_ge g w.heap.size with h1 | h1
   ·exact h1
   ·rw [Array.getElem?_eq_none h1] at hb;cases hb
  ·have h1:(cur.toList.take (l.length*1))[k]?=some (.int .i64 l[k]):=by rw [ht];simp [hk]
   rw [List.getElem?_take] at h1
   split at h1
   ·simp [World.cell?,hb];simpa using h1
   ·cases h1
set_option maxRecDepth 20000 in
set_option maxHeartbeats 4000000 in
theorem rline_total {B:Nat} (b off c:Nat) (x:ByteArray) (ws:List ByteArray) (w:World) (C:Cf) (vL vS:Value) (V:List Value) (hL:LvOwn B w vL C.levels) (hS:ScOwn B w vS C.schemas V) (hb:b<w.heap.size) (h0:w.cell? ⟨b,off,none⟩=some (.string x))
  (t0:(x.toList == [116,111,116,97,108])=true)
  (hr:RowL w (some ⟨b,off,none⟩) ws) (hp:0<ws.length) (hsz:∀ k,(gt ws k).size≤65536) :
  Calls Tryz.prog 119 #[.agg #[.int .i64 C.total,.int .i64 C.period,.int .i64 C.perSeat,.int .i64 C.most,vL,vS],.slice (some ⟨b,off,none⟩) ws.length c] w fun e w'=>∃ v,e=.returned (.tuple #[v,.int .i64 (totalE C ws.tail)])∧Below w.heap.size w w'∧Six v∧(totalE C ws.tail=0→CfV B w' v ⟨numOf (gt ws 1) 1 4096,C.period,C.perSeat,C.most,C.levels,C.schemas⟩):=by
 have X0:Hd _:=⟨Bx.start hL hS⟩
 obtain ⟨aL,cL,rfl⟩:=own_form hL
 obtain ⟨aS,cS,rfl⟩:=own_form hS.own
 clear hL hS
 generalize hE:totalE C ws.tail=E
 have HE:Hd (totalE C ws.tail=E):=⟨hE⟩
 clear hE
 have HR:Hd (RowL w (some ⟨b,off,none⟩) ws∧∀ k,(gt ws k).size≤65536):=⟨hr,hsz⟩
 clear hr hsz
 by_cases hl:ws.length=2
 ·have HL:Hd (ws.length=2):=⟨hl⟩
  rw [hl]
  clear hl
  go_enter Tryz.func119,Tryz.ntmps119
  go_upto_region 1 with fail
  generalize hw2:World.alloc _ _=w2
  have X2:Hd (Bx B w w2 C (.slice aL C.levels.length cL) (.slice aS C.schemas.length cS) V):=⟨by rw [←hw2];exact X0.out⟩
  clear hw2 X0
  have c0:=(X2.out.bel.cell (p:=⟨b,off,none⟩) hb).trans h0
  obtain ⟨y0,y1,y2,y3,y4,y5⟩:=X2.out.reads
  go_wp2_with fail
  have NG:=nums_go (some ⟨b,off,none⟩) c ws w2.heap.size 1 1 (fun _=>1) (fun _=>4096) (w2.alloc (.cells #[.int .i64 1,.int .i64 4096] 191)) ((HR.out.1.carry X2.out.bel).carry ((Below.refl _ _).alloc (Nat.le_refl _) _)) HR.out.2 (BRow.new1 w2 1 4096) HL.out (by decide)
  rw [HL.out] at NG
  have X3:Hd (Bx B w (w2.alloc (.cells #[.int .i64 1,.int .i64 4096] 191)) C (.slice aL C.levels.length cL) (.slice aS C.schemas.length cS) V):=⟨X2.out.grown ((Below.refl _ _).alloc (Nat.le_refl _) _)⟩
  go_at_call 153
  refine NG.mono ?_
  clear NG X2 c0 y0 y1 y2 y3 y4 y5
  rintro e w4 ⟨b4,⟨⟨j,hj,hn⟩,rfl⟩ | ⟨hok,v4,rfl,own4⟩⟩
  ·have X4:Hd (Bx B w w4 C (.slice aL C.levels.length cL) (.slice aS C.schemas.length cS) V):=⟨X3.out.grown b4⟩
   obtain ⟨y0,y1,y2,y3,y4,y5⟩:=X4.out.reads
   obtain ⟨r0,r1,r2,r3,r4,r5,f0,f1,f2,f3,f4,f5⟩:=X4.out.room
   obtain rfl:j=0:=by omega
   have HN:Hd (numIn (gt ws 1) 1 4096=false):=⟨hn⟩
   clear hn X3 b4 hj
   go_wp2_with fail
   have EE:E=8:=by rw [←HE.out];unfold totalE;rw [gt_tail,HN.out,List.length_tail,HL.out];simp [mu,ifE]
   subst EE
   obtain ⟨q1,q2,q3⟩:=X4.out.sets (.int .i64 C.total) (.int .i64 C.period) (.int .i64 C.perSeat) (.int .i64 C.most) (.slice aL C.levels.length cL) (.slice aS C.schemas.length cS)
   refine bodyPost_ret (resC16 _ _ _ _ _ _ _ _ _ _ rfl rfl q1) rfl ?_
   exact ⟨_,rfl,q2,⟨_,_,_,_,_,_,_,_,_,_,rfl⟩,fun h=>absurd h (by decide)⟩
  ·have X4:Hd (Bx B w w4 C (.slice aL C.levels.length cL) (.slice aS C.schemas.length cS) V):=⟨X3.out.grown b4⟩
   obtain ⟨y0,y1,y2,y3,y4,y5⟩:=X4.out.reads
   obtain ⟨r0,r1,r2,r3,r4,r5,f0,f1,f2,f3,f4,f5⟩:=X4.out.room
   have HN:Hd (numIn (gt ws 1) 1 4096=true):=⟨hok 0 (by decide)⟩
   obtain ⟨a4,k4,rfl,h4⟩:=own4.at
   obtain ⟨g4,rfl,-,h4⟩:=h4 (by rw [numsTo_len];decide)
   have d0:w4.cell? ⟨g4,0,none⟩=some (.int .i64 (numOf (gt ws 1) 1 4096)):=h4 0 (by rw [numsTo_len];decide)
   rw [numsTo_len]
   have fz:=X4.out.c.frozen 0
   clear h4 own4 hok X3 b4
   generalize hnv:numOf (gt ws 1) 1 4096=nv at *
   have HV:Hd (numOf (gt ws 1) 1 4096=nv):=⟨hnv⟩
   clear hnv
   have HZ:Hd (E=ifE (C.total == 0) 5):=⟨by rw [←HE.out];unfold totalE;rw [gt_tail,HN.out,List.length_tail,HL.out];simp [mu,ifE]⟩
   by_cases hz:C.total=0
   ·have ez:(C.total != 0)=false:=by simp [hz]
    have HZ0:Hd (E=0):=⟨by rw [HZ.out,hz];rfl⟩
    clear hz HZ
    go_wp2_with fail
    have X5:=X4.out.num (C':=⟨nv,C.period,C.perSeat,C.most,C.levels,C.schemas⟩) 0 (.int .i64 nv) rfl rfl rfl
    obtain ⟨q1,q2,q3⟩:=X5.sets (.int .i64 nv) (.int .i64 C.period) (.int .i64 C.perSeat) (.int .i64 C.most) (.slice aL C.levels.length cL) (.slice aS C.schemas.length cS)
    refine bodyPost_ret (resC16 _ _ _ _ _ _ _ _ _ _ rfl rfl q1) rfl ?_
    have E0:=HZ0.out
    subst E0
    have cf:=X5.cfv.off q3 (off_blkR X5.r (by decide)) (off_blkR X5.r (by decide)) (off_blkR X5.r (by decide)) (off_blkR X5.r (by decide))
    exact ⟨_,rfl,q2,cf.six,fun _=>by rw [HV.out];exact cf⟩
   ·have ez:(C.total != 0)=true:=by simp [hz]
    have HZ0:Hd (E=5):=⟨by rw [HZ.out];simp [ifE,hz]⟩
    clear hz HZ
    go_wp2_with fail
    have E0:=HZ0.out
    subst E0
    obtain ⟨q1,q2,q3⟩:=X4.out.sets (.int .i64 C.total) (.int .i64 C.period) (.int .i64 C.perSeat) (.int .i64 C.most) (.slice aL C.levels.length cL) (.slice aS C.schemas.length cS)
    refine bodyPost_ret (resC16 _ _ _ _ _ _ _ _ _ _ rfl rfl q1) rfl ?_
    exact ⟨_,rfl,q2,⟨_,_,_,_,_,_,_,_,_,_,rfl⟩,fun h=>absurd h (by decide)⟩
 ·have hl2:((ws.length:Int) != 2)=true:=by simp;omega
  have HL2:Hd (¬ ws.length=2):=⟨hl⟩
  clear hl
  have HZ:Hd (E=2):=⟨by
   rw [←HE.out]
   have e:((ws.tail.length:Int) == 1)=false:=by rw [List.length_tail];have:=HL2.out;simp;omega
   unfold totalE
   rw [e,ifE_no,mu_keep (e:=2) (by decide),mu_keep (e:=2) (by decide)]⟩
  generalize hm:ws.length=m at *
  clear hm
  go_enter Tryz.func119,Tryz.ntmps119
  go_upto_region 1 with fail
  generalize hw2:World.alloc _ _=w2
  have X2:Hd (Bx B w w2 C (.slice aL C.levels.length cL) (.slice aS C.schemas.length cS) V):=⟨by rw [←hw2];exact X0.out⟩
  clear hw2 X0
  have c0:=(X2.out.bel.cell (p:=⟨b,off,none⟩) hb).trans h0
  obtain ⟨y0,y1,y2,y3,y4,y5⟩:=X2.out.reads
  go_wp2_with fail
  have X3:Hd (Bx B w (w2.alloc (.cells #[.int .i64 1,.int .i64 4096] 191)) C (.slice aL C.levels.length cL) (.slice aS C.schemas.length cS) V):=⟨X2.out.grown ((Below.refl _ _).alloc (Nat.le_refl _) _)⟩
  go_at_call 153
  refine (nums_no _ _ _ _ _ _ hl2).mono ?_
  clear X2 c0 y0 y1 y2 y3 y4 y5
  rintro e w4 ⟨hw4,rfl⟩
  rw [←hw4] at X3
  clear hw4
  obtain ⟨y0,y1,y2,y3,y4,y5⟩:=X3.out.reads
  obtain ⟨r0,r1,r2,r3,r4,r5,f0,f1,f2,f3,f4,f5⟩:=X3.out.room
  go_wp2_with fail
  have E0:=HZ.out
  subst E0
  obtain ⟨q1,q2,q3⟩:=X3.out.sets (.int .i64 C.total) (.int .i64 C.period) (.int .i64 C.perSeat) (.int .i64 C.most) (.slice aL C.levels.length cL) (.slice aS C.schemas.length cS)
  refine bodyPost_ret (resC16 _ _ _ _ _ _ _ _ _ _ rfl rfl q1) rfl ?_
  exact ⟨_,rfl,q2,⟨_,_,_,_,_,_,_,_,_,_,rfl⟩,fun h=>absurd h (by decide)⟩
set_option maxRecDepth 20000 in
set_option maxHeartbeats 4000000 in
theorem rline_period {B:Nat} (b off c:Nat) (x:ByteArray) (ws:List ByteArray) (w:World) (C:Cf) (vL vS:Value) (V:List Value) (hL:LvOwn B w vL C.levels) (hS:ScOwn B w vS C.schemas V) (hb:b<w.heap.size) (h0:w.cell? ⟨b,off,none⟩=some (.string x))
  (t0:(x.toList == [116,111,116,97,108])=false)
  (t1:(x.toList == [112,101,114,105,111,100])=true)
  (hr:RowL w (some ⟨b,off,none⟩) ws) (hp:0<ws.length) (hsz:∀ k,(gt ws k).size≤65536) :
  Calls Tryz.prog 119 #[.agg #[.int .i64 C.total,.int .i64 C.period,.int .i64 C.perSeat,.int .i64 C.most,vL,vS],.slice (some ⟨b,off,none⟩) ws.length c] w fun e w'=>∃ v,e=.returned (.tuple #[v,.int .i64 (periodE C ws.tail)])∧Below w.heap.size w w'∧Six v∧(periodE C ws.tail=0→CfV B w' v ⟨C.total,numOf (gt ws 1) 1 1000,C.perSeat,C.most,C.levels,C.schemas⟩):=by
 have X0:Hd _:=⟨Bx.start hL hS⟩
 obtain ⟨aL,cL,rfl⟩:=own_form hL
 obtain ⟨aS,cS,rfl⟩:=own_form hS.own
 clear hL hS
 generalize hE:periodE C ws.tail=E
 have HE:Hd (periodE C ws.tail=E):=⟨hE⟩
 clear hE
 have HR:Hd (RowL w (some ⟨b,off,none⟩) ws∧∀ k,(gt ws k).size≤65536):=⟨hr,hsz⟩
 clear hr hsz
 by_cases hl:ws.length=2
 ·have HL:Hd (ws.length=2):=⟨hl⟩
  rw [hl]
  clear hl
  go_enter Tryz.func119,Tryz.ntmps119
  go_upto_region 1 with fail
  generalize hw2:World.alloc _ _=w2
  have X2:Hd (Bx B w w2 C (.slice aL C.levels.length cL) (.slice aS C.schemas.length cS) V):=⟨by rw [←hw2];exact X0.out⟩
  clear hw2 X0
  have c0:=(X2.out.bel.cell (p:=⟨b,off,none⟩) hb).trans h0
  obtain ⟨y0,y1,y2,y3,y4,y5⟩:=X2.out.reads
  go_wp2_with fail
  have NG:=nums_go (some ⟨b,off,none⟩) c ws w2.heap.size 1 1 (fun _=>1) (fun _=>1000) (w2.alloc (.cells #[.int .i64 1,.int .i64 1000] 191)) ((HR.out.1.carry X2.out.bel).carry ((Below.refl _ _).alloc (Nat.le_refl _) _)) HR.out.2 (BRow.new1 w2 1 1000) HL.out (by decide)
  rw [HL.out] at NG
  have X3:Hd (Bx B w (w2.alloc (.cells #[.int .i64 1,.int .i64 1000] 191)) C (.slice aL C.levels.length cL) (.slice aS C.schemas.length cS) V):=⟨X2.out.grown ((Below.refl _ _).alloc (Nat.le_refl _) _)⟩
  go_at_call 153
  refine NG.mono ?_
  clear NG X2 c0 y0 y1 y2 y3 y4 y5
  rintro e w4 ⟨b4,⟨⟨j,hj,hn⟩,rfl⟩ | ⟨hok,v4,rfl,own4⟩⟩
  ·have X4:Hd (Bx B w w4 C (.slice aL C.levels.length cL) (.slice aS C.schemas.length cS) V):=⟨X3.out.grown b4⟩
   obtain ⟨y0,y1,y2,y3,y4,y5⟩:=X4.out.reads
   obtain ⟨r0,r1,r2,r3,r4,r5,f0,f1,f2,f3,f4,f5⟩:=X4.out.room
   obtain rfl:j=0:=by omega
   have HN:Hd (numIn (gt ws 1) 1 1000=false):=⟨hn⟩
   clear hn X3 b4 hj
   go_wp2_with fail
   have EE:E=8:=by rw [←HE.out];unfold periodE;rw [gt_tail,HN.out,List.length_tail,HL.out];simp [mu,ifE]
   subst EE
   obtain ⟨q1,q2,q3⟩:=X4.out.sets (.int .i64 C.total) (.int .i64 C.period) (.int .i64 C.perSeat) (.int .i64 C.most) (.slice aL C.levels.length cL) (.slice aS C.schemas.length cS)
   refine bodyPost_ret (resC16 _ _ _ _ _ _ _ _ _ _ rfl rfl q1) rfl ?_
   exact ⟨_,rfl,q2,⟨_,_,_,_,_,_,_,_,_,_,rfl⟩,fun h=>absurd h (by decide)⟩
  ·have X4:Hd (Bx B w w4 C (.slice aL C.levels.length cL) (.slice aS C.schemas.length cS) V):=⟨X3.out.grown b4⟩
   obtain ⟨y0,y1,y2,y3,y4,y5⟩:=X4.out.reads
   obtain ⟨r0,r1,r2,r3,r4,r5,f0,f1,f2,f3,f4,f5⟩:=X4.out.room
   have HN:Hd (numIn (gt ws 1) 1 1000=true):=⟨hok 0 (by decide)⟩
   obtain ⟨a4,k4,rfl,h4⟩:=own4.at
   obtain ⟨g4,rfl,-,h4⟩:=h4 (by rw [numsTo_len];decide)
   have d0:w4.cell? ⟨g4,0,none⟩=some (.int .i64 (numOf (gt ws 1) 1 1000)):=h4 0 (by rw [numsTo_len];decide)
   rw [numsTo_len]
   have fz:=X4.out.c.frozen 1
   clear h4 own4 hok X3 b4
   generalize hnv:numOf (gt ws 1) 1 1000=nv at *
   have HV:Hd (numOf (gt ws 1) 1 1000=nv):=⟨hnv⟩
   clear hnv
   have HZ:Hd (E=ifE (C.period == 0) 5):=⟨by rw [←HE.out];unfold periodE;rw [gt_tail,HN.out,List.length_tail,HL.out];simp [mu,ifE]⟩
   by_cases hz:C.period=0
   ·have ez:(C.period != 0)=false:=by simp [hz]
    have HZ0:Hd (E=0):=⟨by rw [HZ.out,hz];rfl⟩
    clear hz HZ
    go_wp2_with fail
    have X5:=X4.out.num (C':=⟨C.total,nv,C.perSeat,C.most,C.levels,C.schemas⟩) 1 (.int .i64 nv) rfl rfl rfl
    obtain ⟨q1,q2,q3⟩:=X5.sets (.int .i64 C.total) (.int .i64 nv) (.int .i64 C.perSeat) (.int .i64 C.most) (.slice aL C.levels.length cL) (.slice aS C.schemas.length cS)
    refine bodyPost_ret (resC16 _ _ _ _ _ _ _ _ _ _ rfl rfl q1) rfl ?_
    have E0:=HZ0.out
    subst E0
    have cf:=X5.cfv.off q3 (off_blkR X5.r (by decide)) (off_blkR X5.r (by decide)) (off_blkR X5.r (by decide)) (off_blkR X5.r (by decide))
    exact ⟨_,rfl,q2,cf.six,fun _=>by rw [HV.out];exact cf⟩
   ·have ez:(C.period != 0)=true:=by simp [hz]
    have HZ0:Hd (E=5):=⟨by rw [HZ.out];simp [ifE,hz]⟩
    clear hz HZ
    go_wp2_with fail
    have E0:=HZ0.out
    subst E0
    obtain ⟨q1,q2,q3⟩:=X4.out.sets (.int .i64 C.total) (.int .i64 C.period) (.int .i64 C.perSeat) (.int .i64 C.most) (.slice aL C.levels.length cL) (.slice aS C.schemas.length cS)
    refine bodyPost_ret (resC16 _ _ _ _ _ _ _ _ _ _ rfl rfl q1) rfl ?_
    exact ⟨_,rfl,q2,⟨_,_,_,_,_,_,_,_,_,_,rfl⟩,fun h=>absurd h (by decide)⟩
 ·have hl2:((ws.length:Int) != 2)=true:=by simp;omega
  have HL2:Hd (¬ ws.length=2):=⟨hl⟩
  clear hl
  have HZ:Hd (E=2):=⟨by
   rw [←HE.out]
   have e:((ws.tail.length:Int) == 1)=false:=by rw [List.length_tail];have:=HL2.out;simp;omega
   unfold periodE
   rw [e,ifE_no,mu_keep (e:=2) (by decide),mu_keep (e:=2) (by decide)]⟩
  generalize hm:ws.length=m at *
  clear hm
  go_enter Tryz.func119,Tryz.ntmps119
  go_upto_region 1 with fail
  generalize hw2:World.alloc _ _=w2
  have X2:Hd (Bx B w w2 C (.slice aL C.levels.length cL) (.slice aS C.schemas.length cS) V):=⟨by rw [←hw2];exact X0.out⟩
  clear hw2 X0
  have c0:=(X2.out.bel.cell (p:=⟨b,off,none⟩) hb).trans h0
  obtain ⟨y0,y1,y2,y3,y4,y5⟩:=X2.out.reads
  go_wp2_with fail
  have X3:Hd (Bx B w (w2.alloc (.cells #[.int .i64 1,.int .i64 1000] 191)) C (.slice aL C.levels.length cL) (.slice aS C.schemas.length cS) V):=⟨X2.out.grown ((Below.refl _ _).alloc (Nat.le_refl _) _)⟩
  go_at_call 153
  refine (nums_no _ _ _ _ _ _ hl2).mono ?_
  clear X2 c0 y0 y1 y2 y3 y4 y5
  rintro e w4 ⟨hw4,rfl⟩
  rw [←hw4] at X3
  clear hw4
  obtain ⟨y0,y1,y2,y3,y4,y5⟩:=X3.out.reads
  obtain ⟨r0,r1,r2,r3,r4,r5,f0,f1,f2,f3,f4,f5⟩:=X3.out.room
  go_wp2_with fail
  have E0:=HZ.out
  subst E0
  obtain ⟨q1,q2,q3⟩:=X3.out.sets (.int .i64 C.total) (.int .i64 C.period) (.int .i64 C.perSeat) (.int .i64 C.most) (.slice aL C.levels.length cL) (.slice aS C.schemas.length cS)
  refine bodyPost_ret (resC16 _ _ _ _ _ _ _ _ _ _ rfl rfl q1) rfl ?_
  exact ⟨_,rfl,q2,⟨_,_,_,_,_,_,_,_,_,_,rfl⟩,fun h=>absurd h (by decide)⟩
set_option maxRecDepth 20000 in
set_option maxHeartbeats 4000000 in
theorem rline_seats {B:Nat} (b off c:Nat) (x:ByteArray) (ws:List ByteArray) (w:World) (C:Cf) (vL vS:Value) (V:List Value) (hL:LvOwn B w vL C.levels) (hS:ScOwn B w vS C.schemas V) (hb:b<w.heap.size) (h0:w.cell? ⟨b,off,none⟩=some (.string x))
  (t0:(x.toList == [116,111,116,97,108])=false)
  (t1:(x.toList == [112,101,114,105,111,100])=false)
  (t2:(x.toList == [115,101,97,116,115])=true)
  (hr:RowL w (some ⟨b,off,none⟩) ws) (hp:0<ws.length) (hsz:∀ k,(gt ws k).size≤65536) :
  Calls Tryz.prog 119 #[.agg #[.int .i64 C.total,.int .i64 C.period,.int .i64 C.perSeat,.int .i64 C.most,vL,vS],.slice (some ⟨b,off,none⟩) ws.length c] w fun e w'=>∃ v,e=.returned (.tuple #[v,.int .i64 (seatsE C ws.tail)])∧Below w.heap.size w w'∧Six v∧(seatsE C ws.tail=0→CfV B w' v ⟨C.total,C.period,numOf (gt ws 1) 1 1048576,numOf (gt ws 2) 1 16,C.levels,C.schemas⟩):=by
 have X0:Hd _:=⟨Bx.start hL hS⟩
 obtain ⟨aL,cL,rfl⟩:=own_form hL
 obtain ⟨aS,cS,rfl⟩:=own_form hS.own
 clear hL hS
 generalize hE:seatsE C ws.tail=E
 have HE:Hd (seatsE C ws.tail=E):=⟨hE⟩
 clear hE
 have HR:Hd (RowL w (some ⟨b,off,none⟩) ws∧∀ k,(gt ws k).size≤65536):=⟨hr,hsz⟩
 clear hr hsz
 by_cases hl:ws.length=3
 ·have HL:Hd (ws.length=3):=⟨hl⟩
  rw [hl]
  clear hl
  go_enter Tryz.func119,Tryz.ntmps119
  go_upto_region 1 with fail
  generalize hw2:World.alloc _ _=w2
  have X2:Hd (Bx B w w2 C (.slice aL C.levels.length cL) (.slice aS C.schemas.length cS) V):=⟨by rw [←hw2];exact X0.out⟩
  clear hw2 X0
  have c0:=(X2.out.bel.cell (p:=⟨b,off,none⟩) hb).trans h0
  obtain ⟨y0,y1,y2,y3,y4,y5⟩:=X2.out.reads
  go_wp2_with fail
  have NG:=nums_go (some ⟨b,off,none⟩) c ws w2.heap.size 2 2 (fun _=>1) (hi2 1048576 16) (w2.alloc (.cells #[.int .i64 1,.int .i64 1048576,.int .i64 1,.int .i64 16] 191)) ((HR.out.1.carry X2.out.bel).carry ((Below.refl _ _).alloc (Nat.le_refl _) _)) HR.out.2 (BRow.new2 w2 1 1048576 16) HL.out (by decide)
  rw [HL.out] at NG
  have X3:Hd (Bx B w (w2.alloc (.cells #[.int .i64 1,.int .i64 1048576,.int .i64 1,.int .i64 16] 191)) C (.slice aL C.levels.length cL) (.slice aS C.schemas.length cS) V):=⟨X2.out.grown ((Below.refl _ _).alloc (Nat.le_refl _) _)⟩
  go_at_call 153
  refine NG.mono ?_
  clear NG X2 c0 y0 y1 y2 y3 y4 y5
  rintro e w4 ⟨b4,⟨⟨j,hj,hn⟩,rfl⟩ | ⟨hok,v4,rfl,own4⟩⟩
  ·have X4:Hd (Bx B w w4 C (.slice aL C.levels.length cL) (.slice aS C.schemas.length cS) V):=⟨X3.out.grown b4⟩
   obtain ⟨y0,y1,y2,y3,y4,y5⟩:=X4.out.reads
   obtain ⟨r0,r1,r2,r3,r4,r5,f0,f1,f2,f3,f4,f5⟩:=X4.out.room
   have HN:Hd (numIn (gt ws 1) 1 1048576=false∨numIn (gt ws 2) 1 16=false):=⟨by
    match j,hj,hn with
    | 0,_,hn=>exact .inl hn
    | 1,_,hn=>exact .inr hn⟩
   clear hn X3 b4 hj
   go_wp2_with fail
   have EE:E=8:=by rw [←HE.out];unfold seatsE;rw [gt_tail,gt_tail,List.length_tail,HL.out];rcases HN.out with h | h <;> rw [h] <;> simp [mu,ifE];split <;> simp_all
   subst EE
   obtain ⟨q1,q2,q3⟩:=X4.out.sets (.int .i64 C.total) (.int .i64 C.period) (.int .i64 C.perSeat) (.int .i64 C.most) (.slice aL C.levels.length cL) (.slice aS C.schemas.length cS)
   refine bodyPost_ret (resC16 _ _ _ _ _ _ _ _ _ _ rfl rfl q1) rfl ?_
   exact ⟨_,rfl,q2,⟨_,_,_,_,_,_,_,_,_,_,rfl⟩,fun h=>absurd h (by decide)⟩
  ·have X4:Hd (Bx B w w4 C (.slice aL C.levels.length cL) (.slice aS C.schemas.length cS) V):=⟨X3.out.grown b4⟩
   obtain ⟨y0,y1,y2,y3,y4,y5⟩:=X4.out.reads
   obtain ⟨r0,r1,r2,r3,r4,r5,f0,f1,f2,f3,f4,f5⟩:=X4.out.room
   have HN:Hd (numIn (gt ws 1) 1 1048576=true∧numIn (gt ws 2) 1 16=true):=⟨hok 0 (by decide),hok 1 (by decide)⟩
   obtain ⟨a4,k4,rfl,h4⟩:=own4.at
   obtain ⟨g4,rfl,hg4,h4⟩:=h4 (by rw [numsTo_len];decide)
   have d0:w4.cell? ⟨g4,0,none⟩=some (.int .i64 (numOf (gt ws 1) 1 1048576)):=h4 0 (by rw [numsTo_len];decide)
   have d1:w4.cell? ⟨g4,1,none⟩=some (.int .i64 (numOf (gt ws 2) 1 16)):=h4 1 (by rw [numsTo_len];decide)
   have HG:Hd (w.heap.size≠g4):=⟨by have:=(own4.lt g4 rfl).1;have:=X3.out.c.lt;omega⟩
   rw [numsTo_len]
   clear h4 own4 hok X3 b4
   generalize hnv:numOf (gt ws 1) 1 1048576=nv at *
   generalize hnm:numOf (gt ws 2) 1 16=nm at *
   have HV:Hd (numOf (gt ws 1) 1 1048576=nv∧numOf (gt ws 2) 1 16=nm):=⟨hnv,hnm⟩
   clear hnv hnm
   have HZ:Hd (E=ifE (C.perSeat == 0) 5):=⟨by rw [←HE.out];unfold seatsE;rw [gt_tail,gt_tail,HN.out.1,HN.out.2,List.length_tail,HL.out];simp [mu,ifE]⟩
   by_cases hz:C.perSeat=0
   ·have ez:(C.perSeat != 0)=false:=by simp [hz]
    have HZ0:Hd (E=0):=⟨by rw [HZ.out,hz];rfl⟩
    clear hz HZ
    go_wp2_with fail
    have DR:Below w4.heap.size w4 w4.drew:=⟨rfl,rfl,rfl,Nat.le_refl _,fun _ _=>rfl⟩
    have X5:Hd (Bx B w w4.drew C (.slice aL C.levels.length cL) (.slice aS C.schemas.length cS) V):=⟨X4.out.grown DR⟩
    have D5:w4.drew.cell? ⟨g4,0,none⟩=some (.int .i64 nv)∧w4.drew.cell? ⟨g4,1,none⟩=some (.int .i64 nm):=⟨(DR.cell (p:=⟨g4,0,none⟩) hg4).trans d0,(DR.cell (p:=⟨g4,1,none⟩) hg4).trans d1⟩
    clear X4 DR d0 d1 y0 y1 y2 y3 y4 y5 r0 r1 r2 r3 r4 r5 f0 f1 f2 f3 f4 f5 hg4
    refine AnyG.start (T:=fun w'=>w'.cell? ⟨g4,0,none⟩=some (.int .i64 nv)∧w'.cell? ⟨g4,1,none⟩=some (.int .i64 nm)) (U:=fun _=>True) (j0:=100) (by kernel_rfl) ?_
    generalize w4.drew=w5 at *
    refine .tq 0 82 D5 ?_ (hy:=fun w hSw=>by obtain ⟨s1,s2⟩:=hSw;go_simp;rfl);simp only [tkA,tkB,tkC]
    refine .tq 1 83 D5 ?_ (hy:=fun w hSw=>by obtain ⟨s1,s2⟩:=hSw;go_simp;rfl);simp only [tkA,tkB,tkC]
    refine .tq 2 84 D5 ?_ (hy:=fun w hSw=>by obtain ⟨s1,s2⟩:=hSw;go_simp;rfl);simp only [tkA,tkB,tkC]
    refine .tq 3 85 D5 ?_ (hy:=fun w hSw=>by obtain ⟨s1,s2⟩:=hSw;go_simp;rfl);simp only [tkA,tkB,tkC]
    refine .tq 4 86 D5 ?_ (hy:=fun w hSw=>by obtain ⟨s1,s2⟩:=hSw;go_simp;rfl);simp only [tkA,tkB,tkC]
    refine .tq 5 87 D5 ?_ (hy:=fun w hSw=>by obtain ⟨s1,s2⟩:=hSw;go_simp;rfl);simp only [tkA,tkB,tkC]
    refine .tq 6 88 D5 ?_ (hy:=fun w hSw=>by obtain ⟨s1,s2⟩:=hSw;go_simp;rfl);simp only [tkA,tkB,tkC]
    refine AnyG.ready (rs:=[7]) (by kernel_rfl) (by simp) ?_
    refine AllG.cons rfl (fun K hK=>?_) AllG.nil
    have p2:=X5.out.c.cellv (v:=.int .i64 C.perSeat) 2 rfl
    have pf2:=X5.out.c.frozen 2
    go_simp
    have D6:(w5.setCell ⟨w.heap.size,2,none⟩ (.int .i64 nv)).cell? ⟨g4,0,none⟩=some (.int .i64 nv)∧(w5.setCell ⟨w.heap.size,2,none⟩ (.int .i64 nv)).cell? ⟨g4,1,none⟩=some (.int .i64 nm):=⟨(World.cell?_setCell_far _ _ _ _ HG.out).trans D5.1,(World.cell?_setCell_far _ _ _ _ HG.out).trans D5.2⟩
    have X6:Hd (Bx B w (w5.setCell ⟨w.heap.size,2,none⟩ (.int .i64 nv)) ⟨C.total,C.period,nv,C.most,C.levels,C.schemas⟩ (.slice aL C.levels.length cL) (.slice aS C.schemas.length cS) V):=⟨X5.out.num 2 (.int .i64 nv) rfl rfl rfl⟩
    refine hK.out _ _ ⟨D6,fun _=>trivial⟩ ?_
    clear hK K p2 pf2 X5 D5
    generalize w5.setCell _ _=w6 at *
    refine .tq 8 89 D6 ?_ (hy:=fun w hSw=>by obtain ⟨s1,s2⟩:=hSw;go_simp;rfl);simp only [tkA,tkB,tkC]
    refine AnyG.ready (rs:=[9]) (by kernel_rfl) (by simp) ?_
    refine AllG.cons rfl (fun K hK=>?_) AllG.nil
    have p3:=X6.out.c.cellv (v:=.int .i64 C.most) 3 rfl
    have pf3:=X6.out.c.frozen 3
    go_simp
    have D7:(w6.setCell ⟨w.heap.size,3,none⟩ (.int .i64 nm)).cell? ⟨g4,0,none⟩=some (.int .i64 nv)∧(w6.setCell ⟨w.heap.size,3,none⟩ (.int .i64 nm)).cell? ⟨g4,1,none⟩=some (.int .i64 nm):=⟨(World.cell?_setCell_far _ _ _ _ HG.out).trans D6.1,(World.cell?_setCell_far _ _ _ _ HG.out).trans D6.2⟩
    have X7:Bx B w (w6.setCell ⟨w.heap.size,3,none⟩ (.int .i64 nm)) ⟨C.total,C.period,nv,nm,C.levels,C.schemas⟩ (.slice aL C.levels.length cL) (.slice aS C.schemas.length cS) V:=X6.out.num 3 (.int .i64 nm) rfl rfl rfl
    refine hK.out _ _ ⟨D7,fun _=>trivial⟩ ?_
    clear hK K p3 pf3 X6 D6 D7
    generalize w6.setCell _ _=w7 at *
    refine AnyG.done (by kernel_rfl) ?_ _
    obtain ⟨y0,y1,y2,y3,y4,y5⟩:=X7.reads
    obtain ⟨r0,r1,r2,r3,r4,r5,f0,f1,f2,f3,f4,f5⟩:=X7.room
    go_wp2_with fail
    obtain ⟨q1,q2,q3⟩:=X7.sets (.int .i64 C.total) (.int .i64 C.period) (.int .i64 nv) (.int .i64 nm) (.slice aL C.levels.length cL) (.slice aS C.schemas.length cS)
    refine bodyPost_ret (resC16 _ _ _ _ _ _ _ _ _ _ rfl rfl q1) rfl ?_
    have E0:=HZ0.out
    subst E0
    have cf:=X7.cfv.off q3 (off_blkR X7.r (by decide)) (off_blkR X7.r (by decide)) (off_blkR X7.r (by decide)) (off_blkR X7.r (by decide))
    exact ⟨_,rfl,q2,cf.six,fun _=>by rw [HV.out.1,HV.out.2];exact cf⟩
   ·have ez:(C.perSeat != 0)=true:=by simp [hz]
    have HZ0:Hd (E=5):=⟨by rw [HZ.out];simp [ifE,hz]⟩
    clear hz HZ
    go_wp2_with fail
    have E0:=HZ0.out
    subst E0
    obtain ⟨q1,q2,q3⟩:=X4.out.sets (.int .i64 C.total) (.int .i64 C.period) (.int .i64 C.perSeat) (.int .i64 C.most) (.slice aL C.levels.length cL) (.slice aS C.schemas.length cS)
    refine bodyPost_ret (resC16 _ _ _ _ _ _ _ _ _ _ rfl rfl q1) rfl ?_
    exact ⟨_,rfl,q2,⟨_,_,_,_,_,_,_,_,_,_,rfl⟩,fun h=>absurd h (by decide)⟩
 ·have hl2:((ws.length:Int) != 3)=true:=by simp;omega
  have HL2:Hd (¬ ws.length=3):=⟨hl⟩
  clear hl
  have HZ:Hd (E=2):=⟨by
   rw [←HE.out]
   have e:((ws.tail.length:Int) == 2)=false:=by rw [List.length_tail];have:=HL2.out;simp;omega
   unfold seatsE
   rw [e,ifE_no,mu_keep (e:=2) (by decide),mu_keep (e:=2) (by decide),mu_keep (e:=2) (by decide)]⟩
  generalize hm:ws.length=m at *
  clear hm
  go_enter Tryz.func119,Tryz.ntmps119
  go_upto_region 1 with fail
  generalize hw2:World.alloc _ _=w2
  have X2:Hd (Bx B w w2 C (.slice aL C.levels.length cL) (.slice aS C.schemas.length cS) V):=⟨by rw [←hw2];exact X0.out⟩
  clear hw2 X0
  have c0:=(X2.out.bel.cell (p:=⟨b,off,none⟩) hb).trans h0
  obtain ⟨y0,y1,y2,y3,y4,y5⟩:=X2.out.reads
  go_wp2_with fail
  have X3:Hd (Bx B w (w2.alloc (.cells #[.int .i64 1,.int .i64 1048576,.int .i64 1,.int .i64 16] 191)) C (.slice aL C.levels.length cL) (.slice aS C.schemas.length cS) V):=⟨X2.out.grown ((Below.refl _ _).alloc (Nat.le_refl _) _)⟩
  go_at_call 153
  refine (nums_no _ _ _ _ _ _ hl2).mono ?_
  clear X2 c0 y0 y1 y2 y3 y4 y5
  rintro e w4 ⟨hw4,rfl⟩
  rw [←hw4] at X3
  clear hw4
  obtain ⟨y0,y1,y2,y3,y4,y5⟩:=X3.out.reads
  obtain ⟨r0,r1,r2,r3,r4,r5,f0,f1,f2,f3,f4,f5⟩:=X3.out.room
  go_wp2_with fail
  have E0:=HZ.out
  subst E0
  obtain ⟨q1,q2,q3⟩:=X3.out.sets (.int .i64 C.total) (.int .i64 C.period) (.int .i64 C.perSeat) (.int .i64 C.most) (.slice aL C.levels.length cL) (.slice aS C.schemas.length cS)
  refine bodyPost_ret (resC16 _ _ _ _ _ _ _ _ _ _ rfl rfl q1) rfl ?_
  exact ⟨_,rfl,q2,⟨_,_,_,_,_,_,_,_,_,_,rfl⟩,fun h=>absurd h (by decide)⟩
set_option maxRecDepth 20000 in
set_option maxHeartbeats 4000000 in
theorem rline_level {B:Nat} (b off c:Nat) (x:ByteArray) (ws:List ByteArray) (w:World) (C:Cf) (vL vS:Value) (V:List Value) (hL:LvOwn B w vL C.levels) (hS:ScOwn B w vS C.schemas V) (hb:b<w.heap.size) (h0:w.cell? ⟨b,off,none⟩=some (.string x))
  (t0:(x.toList == [116,111,116,97,108])=false)
  (t1:(x.toList == [112,101,114,105,111,100])=false)
  (t2:(x.toList == [115,101,97,116,115])=false)
  (t3:(x.toList == [108,101,118,101,108])=true)
  (hr:RowL w (some ⟨b,off,none⟩) ws) (hp:0<ws.length) (hsz:∀ k,(gt ws k).size≤65536) (hF:C.levels.length≤16) (hB:B≤w.heap.size) :
  Calls Tryz.prog 119 #[.agg #[.int .i64 C.total,.int .i64 C.period,.int .i64 C.perSeat,.int .i64 C.most,vL,vS],.slice (some ⟨b,off,none⟩) ws.length c] w fun e w'=>∃ v,e=.returned (.tuple #[v,.int .i64 (levelE C ws.tail)])∧Below w.heap.size w w'∧Six v∧(levelE C ws.tail=0→CfV B w' v ⟨C.total,C.period,C.perSeat,C.most,C.levels ++ [levelOf ws.tail],C.schemas⟩):=by
 have X0:Hd _:=⟨Bx.start hL hS⟩
 obtain ⟨aL,cL,rfl⟩:=own_form hL
 obtain ⟨aS,cS,rfl⟩:=own_form hS.own
 clear hL hS
 have RK:Hd (∀ W v,CfV B W v C→RowL W (some ⟨b,off,none⟩) ws→B≤W.heap.size→_):=⟨fun W v h1 h2 h3=>rlevel_ok (some ⟨b,off,none⟩) c ws W C v h1 h2 hp hsz hF h3⟩
 have HR:Hd (RowL w (some ⟨b,off,none⟩) ws):=⟨hr⟩
 clear hr hsz hF
 generalize levelE C ws.tail=E at *
 generalize (⟨C.total,C.period,C.perSeat,C.most,C.levels ++ [levelOf ws.tail],C.schemas⟩:Cf)=D at *
 generalize hm:ws.length=m at *
 clear hm
 go_enter Tryz.func119,Tryz.ntmps119
 go_upto_region 1 with fail
 generalize hw2:World.alloc _ _=w2
 have X2:Hd (Bx B w w2 C (.slice aL C.levels.length cL) (.slice aS C.schemas.length cS) V):=⟨by rw [←hw2];exact X0.out⟩
 clear hw2 X0
 have c0:=(X2.out.bel.cell (p:=⟨b,off,none⟩) hb).trans h0
 obtain ⟨y0,y1,y2,y3,y4,y5⟩:=X2.out.reads
 have RK2:=RK.out w2 _ X2.out.cfv (HR.out.carry X2.out.bel) (Nat.le_trans hB X2.out.bel.size)
 clear RK HR
 go_wp2_with fail
 go_at_call 154
 refine RK2.mono ?_
 clear RK2
 rintro e w3 ⟨v3,rfl,b3,⟨x0,x1,x2,x3,a1,n1,c1,a2,n2,c2,rfl⟩,cf⟩
 have X3:Hd (Bx B w w3 C (.slice aL C.levels.length cL) (.slice aS C.schemas.length cS) V):=⟨X2.out.grown b3⟩
 have HC:Hd (E=0→CfV B w3 _ D):=⟨cf⟩
 clear cf X2 b3 c0 y0 y1 y2 y3 y4 y5
 obtain ⟨r0,r1,r2,r3,r4,r5,f0,f1,f2,f3,f4,f5⟩:=X3.out.room
 go_wp2_with fail
 obtain ⟨q1,q2,q3⟩:=X3.out.sets (.int .i64 x0) (.int .i64 x1) (.int .i64 x2) (.int .i64 x3) (.slice a1 n1 c1) (.slice a2 n2 c2)
 refine bodyPost_ret (resC16 _ _ _ _ _ _ _ _ _ _ rfl rfl q1) rfl ?_
 exact ⟨_,rfl,q2,⟨_,_,_,_,_,_,_,_,_,_,rfl⟩,fun h=>(HC.out h).off q3 (off_blkR X3.out.r (by decide)) (off_blkR X3.out.r (by decide)) (off_blkR X3.out.r (by decide)) (off_blkR X3.out.r (by decide))⟩
set_option maxRecDepth 20000 in
set_option maxHeartbeats 4000000 in
theorem rline_schema {B:Nat} (b off c:Nat) (x:ByteArray) (ws:List ByteArray) (w:World) (C:Cf) (vL vS:Value) (V:List Value) (hL:LvOwn B w vL C.levels) (hS:ScOwn B w vS C.schemas V) (hb:b<w.heap.size) (h0:w.cell? ⟨b,off,none⟩=some (.string x))
  (t0:(x.toList == [116,111,116,97,108])=false)
  (t1:(x.toList == [112,101,114,105,111,100])=false)
  (t2:(x.toList == [115,101,97,116,115])=false)
  (t3:(x.toList == [108,101,118,101,108])=false)
  (t4:(x.toList == [115,99,104,101,109,97])=true)
  (hr:RowL w (some ⟨b,off,none⟩) ws) (hp:0<ws.length) (hsz:∀ k,(gt ws k).size≤65536) (hF:C.schemas.length≤32) (hB:B≤w.heap.size) :
  Calls Tryz.prog 119 #[.agg #[.int .i64 C.total,.int .i64 C.period,.int .i64 C.perSeat,.int .i64 C.most,vL,vS],.slice (some ⟨b,off,none⟩) ws.length c] w fun e w'=>∃ v,e=.returned (.tuple #[v,.int .i64 (schemaE C ws.tail)])∧Below w.heap.size w w'∧Six v∧(schemaE C ws.tail=0→CfV B w' v ⟨C.total,C.period,C.perSeat,C.most,C.levels,C.schemas ++ [schemaOf ws.tail]⟩):=by
 have X0:Hd _:=⟨Bx.start hL hS⟩
 obtain ⟨aL,cL,rfl⟩:=own_form hL
 obtain ⟨aS,cS,rfl⟩:=own_form hS.own
 clear hL hS
 have RK:Hd (∀ W v,CfV B W v C→RowL W (some ⟨b,off,none⟩) ws→B≤W.heap.size→_):=⟨fun W v h1 h2 h3=>rschema_ok (some ⟨b,off,none⟩) c ws W C v h1 h2 hp hsz hF h3⟩
 have HR:Hd (RowL w (some ⟨b,off,none⟩) ws):=⟨hr⟩
 clear hr hsz hF
 generalize schemaE C ws.tail=E at *
 generalize (⟨C.total,C.period,C.perSeat,C.most,C.levels,C.schemas ++ [schemaOf ws.tail]⟩:Cf)=D at *
 generalize hm:ws.length=m at *
 clear hm
 go_enter Tryz.func119,Tryz.ntmps119
 go_upto_region 1 with fail
 generalize hw2:World.alloc _ _=w2
 have X2:Hd (Bx B w w2 C (.slice aL C.levels.length cL) (.slice aS C.schemas.length cS) V):=⟨by rw [←hw2];exact X0.out⟩
 clear hw2 X0
 have c0:=(X2.out.bel.cell (p:=⟨b,off,none⟩) hb).trans h0
 obtain ⟨y0,y1,y2,y3,y4,y5⟩:=X2.out.reads
 have RK2:=RK.out w2 _ X2.out.cfv (HR.out.carry X2.out.bel) (Nat.le_trans hB X2.out.bel.size)
 clear RK HR
 go_wp2_with fail
 go_at_call 155
 refine RK2.mono ?_
 clear RK2
 rintro e w3 ⟨v3,rfl,b3,⟨x0,x1,x2,x3,a1,n1,c1,a2,n2,c2,rfl⟩,cf⟩
 have X3:Hd (Bx B w w3 C (.slice aL C.levels.length cL) (.slice aS C.schemas.length cS) V):=⟨X2.out.grown b3⟩
 have HC:Hd (E=0→CfV B w3 _ D):=⟨cf⟩
 clear cf X2 b3 c0 y0 y1 y2 y3 y4 y5
 obtain ⟨r0,r1,r2,r3,r4,r5,f0,f1,f2,f3,f4,f5⟩:=X3.out.room
 go_wp2_with fail
 obtain ⟨q1,q2,q3⟩:=X3.out.sets (.int .i64 x0) (.int .i64 x1) (.int .i64 x2) (.int .i64 x3) (.slice a1 n1 c1) (.slice a2 n2 c2)
 refine bodyPost_ret (resC16 _ _ _ _ _ _ _ _ _ _ rfl rfl q1) rfl ?_
 exact ⟨_,rfl,q2,⟨_,_,_,_,_,_,_,_,_,_,rfl⟩,fun h=>(HC.out h).off q3 (off_blkR X3.out.r (by decide)) (off_blkR X3.out.r (by decide)) (off_blkR X3.out.r (by decide)) (off_blkR X3.out.r (by decide))⟩
set_option maxRecDepth 20000 in
set_option maxHeartbeats 4000000 in
theorem rline_rule {B:Nat} (b off c:Nat) (x:ByteArray) (ws:List ByteArray) (w:World) (C:Cf) (vL vS:Value) (V:List Value) (hL:LvOwn B w vL C.levels) (hS:ScOwn B w vS C.schemas V) (hb:b<w.heap.size) (h0:w.cell? ⟨b,off,none⟩=some (.string x))
  (t0:(x.toList == [116,111,116,97,108])=false)
  (t1:(x.toList == [112,101,114,105,111,100])=false)
  (t2:(x.toList == [115,101,97,116,115])=false)
  (t3:(x.toList == [108,101,118,101,108])=false)
  (t4:(x.toList == [115,99,104,101,109,97])=false)
  (t5:(x.toList == [114,117,108,101])=true)
  (hr:RowL w (some ⟨b,off,none⟩) ws) (hp:0<ws.length) (hsz:∀ k,(gt ws k).size≤65536) (hF:C.schemas.length≤32) (hB:B≤w.heap.size) :
  Calls Tryz.prog 119 #[.agg #[.int .i64 C.total,.int .i64 C.period,.int .i64 C.perSeat,.int .i64 C.most,vL,vS],.slice (some ⟨b,off,none⟩) ws.length c] w fun e w'=>∃ v,e=.returned (.tuple #[v,.int .i64 (ruleE C ws.tail)])∧Below w.heap.size w w'∧Six v∧(ruleE C ws.tail=0→CfV B w' v ⟨C.total,C.period,C.perSeat,C.most,C.levels,addRule (ruleOf ws.tail) C.schemas⟩):=by
 have X0:Hd _:=⟨Bx.start hL hS⟩
 obtain ⟨aL,cL,rfl⟩:=own_form hL
 obtain ⟨aS,cS,rfl⟩:=own_form hS.own
 clear hL hS
 have RK:Hd (∀ W v,CfV B W v C→RowL W (some ⟨b,off,none⟩) ws→B≤W.heap.size→_):=⟨fun W v h1 h2 h3=>rrule_ok (some ⟨b,off,none⟩) c ws W C v h1 h2 hp hsz hF h3⟩
 have HR:Hd (RowL w (some ⟨b,off,none⟩) ws):=⟨hr⟩
 clear hr hsz hF
 generalize ruleE C ws.tail=E at *
 generalize (⟨C.total,C.period,C.perSeat,C.most,C.levels,addRule (ruleOf ws.tail) C.schemas⟩:Cf)=D at *
 generalize hm:ws.length=m at *
 clear hm
 go_enter Tryz.func119,Tryz.ntmps119
 go_upto_region 1 with fail
 generalize hw2:World.alloc _ _=w2
 have X2:Hd (Bx B w w2 C (.slice aL C.levels.length cL) (.slice aS C.schemas.length cS) V):=⟨by rw [←hw2];exact X0.out⟩
 clear hw2 X0
 have c0:=(X2.out.bel.cell (p:=⟨b,off,none⟩) hb).trans h0
 obtain ⟨y0,y1,y2,y3,y4,y5⟩:=X2.out.reads
 have RK2:=RK.out w2 _ X2.out.cfv (HR.out.carry X2.out.bel) (Nat.le_trans hB X2.out.bel.size)
 clear RK HR
 go_wp2_with fail
 go_at_call 156
 refine RK2.mono ?_
 clear RK2
 rintro e w3 ⟨v3,rfl,b3,⟨x0,x1,x2,x3,a1,n1,c1,a2,n2,c2,rfl⟩,cf⟩
 have X3:Hd (Bx B w w3 C (.slice aL C.levels.length cL) (.slice aS C.schemas.length cS) V):=⟨X2.out.grown b3⟩
 have HC:Hd (E=0→CfV B w3 _ D):=⟨cf⟩
 clear cf X2 b3 c0 y0 y1 y2 y3 y4 y5
 obtain ⟨r0,r1,r2,r3,r4,r5,f0,f1,f2,f3,f4,f5⟩:=X3.out.room
 go_wp2_with fail
 obtain ⟨q1,q2,q3⟩:=X3.out.sets (.int .i64 x0) (.int .i64 x1) (.int .i64 x2) (.int .i64 x3) (.slice a1 n1 c1) (.slice a2 n2 c2)
 refine bodyPost_ret (resC16 _ _ _ _ _ _ _ _ _ _ rfl rfl q1) rfl ?_
 exact ⟨_,rfl,q2,⟨_,_,_,_,_,_,_,_,_,_,rfl⟩,fun h=>(HC.out h).off q3 (off_blkR X3.out.r (by decide)) (off_blkR X3.out.r (by decide)) (off_blkR X3.out.r (by decide)) (off_blkR X3.out.r (by decide))⟩
set_option maxRecDepth 20000 in
set_option maxHeartbeats 4000000 in
theorem rline_none {B:Nat} (b off c:Nat) (x:ByteArray) (m:Nat) (w:World) (C:Cf) (vL vS:Value) (V:List Value) (hL:LvOwn B w vL C.levels) (hS:ScOwn B w vS C.schemas V) (hb:b<w.heap.size) (h0:w.cell? ⟨b,off,none⟩=some (.string x))
  (t0:(x.toList == [116,111,116,97,108])=false)
  (t1:(x.toList == [112,101,114,105,111,100])=false)
  (t2:(x.toList == [115,101,97,116,115])=false)
  (t3:(x.toList == [108,101,118,101,108])=false)
  (t4:(x.toList == [115,99,104,101,109,97])=false)
  (t5:(x.toList == [114,117,108,101])=false)
  (hp:0<m):Calls Tryz.prog 119 #[.agg #[.int .i64 C.total,.int .i64 C.period,.int .i64 C.perSeat,.int .i64 C.most,vL,vS],.slice (some ⟨b,off,none⟩) m c] w fun e w'=>∃ v,e=.returned (.tuple #[v,.int .i64 2])∧Below w.heap.size w w'∧Six v:=by
 have X0:Hd _:=⟨Bx.start hL hS⟩
 obtain ⟨aL,cL,rfl⟩:=own_form hL
 obtain ⟨aS,cS,rfl⟩:=own_form hS.own
 clear hL hS
 go_enter Tryz.func119,Tryz.ntmps119
 go_upto_region 1 with fail
 generalize hw2:World.alloc _ _=w2
 have X2:Hd (Bx B w w2 C (.slice aL C.levels.length cL) (.slice aS C.schemas.length cS) V):=⟨by rw [←hw2];exact X0.out⟩
 clear hw2 X0
 have c0:=(X2.out.bel.cell (p:=⟨b,off,none⟩) hb).trans h0
 obtain ⟨y0,y1,y2,y3,y4,y5⟩:=X2.out.reads
 obtain ⟨r0,r1,r2,r3,r4,r5,f0,f1,f2,f3,f4,f5⟩:=X2.out.room
 go_wp2_with fail
 obtain ⟨q1,q2,q3⟩:=X2.out.sets (.int .i64 C.total) (.int .i64 C.period) (.int .i64 C.perSeat) (.int .i64 C.most) (.slice aL C.levels.length cL) (.slice aS C.schemas.length cS)
 refine bodyPost_ret (resC16 _ _ _ _ _ _ _ _ _ _ rfl rfl q1) rfl ?_
 exact ⟨_,rfl,q2,⟨_,_,_,_,_,_,_,_,_,_,rfl⟩⟩
theorem rline_ok {B:Nat} (a:Option Addr) (c:Nat) (ws:List ByteArray) (w:World) (C:Cf) (v:Value) (hv:CfV B w v C) (hr:RowL w a ws) (hl:0<ws.length) (hsz:∀ k,(gt ws k).size≤65536) (hF:Fit C) (hB:B≤w.heap.size) :
  Calls Tryz.prog 119 #[v,.slice a ws.length c] w fun e w'=>∃ v',e=.returned (.tuple #[v',.int .i64 (tellE C (gt ws 0) ws.tail)])∧Below w.heap.size w w'∧Six v'
   ∧ (tellE C (gt ws 0) ws.tail=0→CfV B w' v' (tellC C (gt ws 0) ws.tail)):=by
 obtain ⟨vL,vS,V,rfl,hL,hS⟩:=hv
 obtain ⟨b,off,rfl,hb,hc⟩:=hr hl
 have h0:=hc 0 hl
 rw [Nat.add_zero] at h0
 generalize gt ws 0=x at *
 unfold tellE tellC
 simp only [gt_tail]
 by_cases t0:x=tTotal
 ·rw [if_pos t0,if_pos t0]
  exact rline_total b off c x ws w C vL vS V hL hS hb h0 (lit_is t0) hr hl hsz
 have u0:=lit_isnt (l:=[116,111,116,97,108]) t0
 rw [if_neg t0,if_neg t0]
 by_cases t1:x=tPeriod
 ·rw [if_pos t1,if_pos t1]
  exact rline_period b off c x ws w C vL vS V hL hS hb h0 u0 (lit_is t1) hr hl hsz
 have u1:=lit_isnt (l:=[112,101,114,105,111,100]) t1
 rw [if_neg t1,if_neg t1]
 by_cases t2:x=tSeats
 ·rw [if_pos t2,if_pos t2]
  exact rline_seats b off c x ws w C vL vS V hL hS hb h0 u0 u1 (lit_is t2) hr hl hsz
 have u2:=lit_isnt (l:=[115,101,97,116,115]) t2
 rw [if_neg t2,if_neg t2]
 by_cases t3:x=tLevel
 ·rw [if_pos t3,if_pos t3]
  exact rline_level b off c x ws w C vL vS V hL hS hb h0 u0 u1 u2 (lit_is t3) hr hl hsz hF.1 hB
 have u3:=lit_isnt (l:=[108,101,118,101,108]) t3
 rw [if_neg t3,if_neg t3]
 by_cases t4:x=tSchema
 ·rw [if_pos t4,if_pos t4]
  exact rline_schema b off c x ws w C vL vS V hL hS hb h0 u0 u1 u2 u3 (lit_is t4) hr hl hsz hF.2 hB
 have u4:=lit_isnt (l:=[115,99,104,101,109,97]) t4
 rw [if_neg t4,if_neg t4]
 by_cases t5:x=tRule
 ·rw [if_pos t5]
  exact rline_rule b off c x ws w C vL vS V hL hS hb h0 u0 u1 u2 u3 u4 (lit_is t5) hr hl hsz hF.2 hB
 rw [if_neg t5]
 refine (rline_none b off c x ws.length w C vL vS V hL hS hb h0 u0 u1 u2 u3 u4 (lit_isnt t5) hl).mono ?_
 rintro e w' ⟨v,rfl,h1,h2⟩
 exact ⟨v,rfl,h1,h2,fun h=>absurd h (by decide)⟩
end Go.Proofs.YthkdbphgiobcdaaGreatDoor
