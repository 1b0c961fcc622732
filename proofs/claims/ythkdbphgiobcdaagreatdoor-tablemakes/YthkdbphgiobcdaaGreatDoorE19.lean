/-
  What is filled,as functions;whether a level or a schema of a name is there;the rule of anything.
  'filledLevels' of fill: the levels in memory of their own,and those that lack.
-/
import Derived.Test.YthkdbphgiobcdaaGreatDoorE18
import Derived.Test.YthkdbphgiobcdaaGreatDoorE4
namespace Go.Proofs.YthkdbphgiobcdaaGreatDoor
open Go.RowKit
theorem orU_ok (x u:Int) (w:World):Calls Tryz.prog 39 #[.int .i64 x,.int .i64 u] w fun e w'=>e=.returned (.int .i64 (orU x u))∧w'=w:=by
 by_cases h:x=0
 ·have e:orU x u=u:=if_pos h
  rw [e]
  clear e
  subst h
  go_enter Tryz.func39,Tryz.ntmps39
  go_wp2_with fail
  go_ret
  exact ⟨rfl,rfl⟩
 ·have e:orU x u=x:=if_neg h
  rw [e]
  clear e
  go_enter Tryz.func39,Tryz.ntmps39
  go_wp2_with fail
  go_ret
  exact ⟨rfl,rfl⟩
theorem hasLv_ok (a:Option Addr) (c:Nat) (L:List Lv) (x:ByteArray) (w:World) (hr:LvR w a L) (hl:L.length≤65536) :
  Calls Tryz.prog 76 #[.slice a L.length c,.string x] w fun e w'=>e=.returned (.bool (anyL L x))∧Below w.heap.size w w':=by
 have AL:=alloc_below w (.cells #[.string x] 9)
 have P:=phasLvF a c L w.heap.size x (w.alloc (.cells #[.string x] 9)) ((Blk.new w 9 #[.string x]).cellv 0 rfl) (hr.carry AL) hl
 have BB:Hd (Below w.heap.size w (w.alloc (.cells #[.string x] 9))):=⟨AL⟩
 unfold anyL
 clear AL hr
 generalize (L.any fun l=>decide (l.name=x))=b at *
 generalize L.length=m at *
 go_enter Tryz.func76,Tryz.ntmps76
 go_wp2_with (go_at_call 126;refine P.mono ?_;rintro e w' ⟨rfl,hb⟩)
 go_ret
 exact ⟨rfl,BB.out.trans (hb.mono BB.out.size)⟩
theorem hasSc_ok (a:Option Addr) (c:Nat) (L:List Sc) (V:List Value) (x:ByteArray) (w:World) (hr:ScR w a L V) (hV:V.length=L.length) (hl:L.length≤65536) :
  Calls Tryz.prog 79 #[.slice a L.length c,.string x] w fun e w'=>e=.returned (.bool (anyS L x))∧Below w.heap.size w w':=by
 have AL:=alloc_below w (.cells #[.string x] 9)
 have P:=phasScF a c L V w.heap.size x (w.alloc (.cells #[.string x] 9)) ((Blk.new w 9 #[.string x]).cellv 0 rfl) (hr.carry AL) hV hl
 have BB:Hd (Below w.heap.size w (w.alloc (.cells #[.string x] 9))):=⟨AL⟩
 unfold anyS
 clear AL hr hV
 generalize (L.any fun l=>decide (l.name=x))=b at *
 generalize L.length=m at *
 go_enter Tryz.func79,Tryz.ntmps79
 go_wp2_with (go_at_call 130;refine P.mono ?_;rintro e w' ⟨rfl,hb⟩)
 go_ret
 exact ⟨rfl,BB.out.trans (hb.mono BB.out.size)⟩
theorem res33 (tmps:Array Value) (w:World) (r0:Nat) (v0 v1 v2 v3 v4:Value) (ht:tmps[0]?.getD undef=.pointer (some ⟨r0,0,none⟩)) (h:Blk w r0 54 #[v0,v1,v2,v3,v4]) :
  (results Tryz.f132 tmps).run Tryz.prog w=.ok (.agg #[v0,v1,v2,v3,v4]) w:=by
 have c0:=h.cellv 0 rfl
 have c1:=h.cellv 1 rfl
 have c2:=h.cellv 2 rfl
 have c3:=h.cellv 3 rfl
 have c4:=h.cellv 4 rfl
 simp at c0 c1 c2 c3 c4
 simp [results,Tryz.results132,go_sem,ht,c0,c1,c2,c3,c4]
theorem own_one {B:Nat} {w:World} {g:Nat} {x:ByteArray} (h:Blk w g 9 #[.string x]) (hB:B≤g):OwnT B w (.slice (some ⟨g,0,none⟩) 1 1) [x] :=
 ⟨rfl,.inr ⟨g,1,_,rfl,hB,h,Nat.le_refl _,by unfold maxLen;omega,rfl,rfl⟩⟩
theorem own_nil (B:Nat) (w:World):OwnT B w (.slice none 0 0) []:=⟨rfl,.inl ⟨rfl,rfl⟩⟩
structure Any3 (w:World) (e:Ending) (w':World):Prop where
 ex:∃ g1 g2 g3,e=.returned (.agg #[.slice none 0 0,.slice none 0 0,.slice (some ⟨g1,0,none⟩) 1 1,.slice (some ⟨g2,0,none⟩) 1 1,.slice (some ⟨g3,0,none⟩) 1 1])∧(Blk w' g1 9 #[.string tStar]∧Blk w' g2 9 #[.string tStar]∧Blk w' g3 9 #[.string tStar])∧w.heap.size≤g1∧w.heap.size≤g2∧w.heap.size≤g3
 bel:Below w.heap.size w w'
theorem any3_mem (w:World) (cs a b c:Array Value):Blk ((((w.alloc (.cells cs 54)).alloc (.cells a 9)).alloc (.cells b 9)).alloc (.cells c 9)) w.heap.size 54 cs
  ∧ Blk ((((w.alloc (.cells cs 54)).alloc (.cells a 9)).alloc (.cells b 9)).alloc (.cells c 9)) (w.heap.size+1) 9 a
  ∧ Blk ((((w.alloc (.cells cs 54)).alloc (.cells a 9)).alloc (.cells b 9)).alloc (.cells c 9)) (w.heap.size+1+1) 9 b
  ∧ Blk ((((w.alloc (.cells cs 54)).alloc (.cells a 9)).alloc (.cells b 9)).alloc (.cells c 9)) (w.heap.size+1+1+1) 9 c
  ∧ Below w.heap.size w ((((w.alloc (.cells cs 54)).alloc (.cells a 9)).alloc (.cells b 9)).alloc (.cells c 9)):=by
 refine ⟨(((Blk.new w 54 cs).alloc _).alloc _).alloc _,((alloc_new w _ 9 a).alloc _).alloc _,Blk.alloc ?_ _,?_,((((Below.refl _ _).alloc (Nat.le_refl _) _).alloc (by simp) _).alloc (by simp;omega) _).alloc (by simp;omega) _⟩
 ·have:=alloc_new (w.alloc (.cells cs 54)) (.cells a 9) 9 b
  simpa using this
 ·have:=alloc_new ((w.alloc (.cells cs 54)).alloc (.cells a 9)) (.cells b 9) 9 c
  simpa using this
theorem any3_ok (w:World):Calls Tryz.prog 132 #[] w fun e w'=>Any3 w e w':=by
 obtain ⟨m0,n1,n2,n3,B3⟩:=any3_mem w #[.slice none 0 0,.slice none 0 0,.slice (some ⟨w.heap.size+1,0,none⟩) 1 1,.slice (some ⟨w.heap.size+1+1,0,none⟩) 1 1,.slice (some ⟨w.heap.size+1+1+1,0,none⟩) 1 1] #[.string ⟨#[42]⟩] #[.string ⟨#[42]⟩] #[.string ⟨#[42]⟩]
 have F:Hd _:=⟨And.intro m0 (And.intro n1 (And.intro n2 (And.intro n3 B3)))⟩
 clear m0 n1 n2 n3 B3
 go_enter Tryz.func132,Tryz.ntmps132
 go_wp2_with fail
 exact bodyPost_ret (res33 _ _ w.heap.size _ _ _ _ _ rfl F.out.1) rfl ⟨⟨_,_,_,rfl,⟨F.out.2.1,F.out.2.2.1,F.out.2.2.2.1⟩,by omega,by omega,by omega⟩,F.out.2.2.2.2⟩
structure Sx (w:World) (s:Sc) (e:Ending) (w':World):Prop where
 ex:∃ v',e=.returned (scV s v')∧RlW w.heap.size w' v' s.rules
 bel:Below w.heap.size w w'
theorem res24 (tmps:Array Value) (w:World) (r0:Nat) (v0 v1 v2 v3 v4:Value) (ht:tmps[0]?.getD undef=.pointer (some ⟨r0,0,none⟩)) (h:Blk w r0 47 #[v0,v1,v2,v3,v4]) :
  (results Tryz.f80 tmps).run Tryz.prog w=.ok (.agg #[v0,v1,v2,v3,v4]) w:=by
 have c0:=h.cellv 0 rfl
 have c1:=h.cellv 1 rfl
 have c2:=h.cellv 2 rfl
 have c3:=h.cellv 3 rfl
 have c4:=h.cellv 4 rfl
 simp at c0 c1 c2 c3 c4
 simp [results,Tryz.results80,go_sem,ht,c0,c1,c2,c3,c4]
theorem sx_mem {w1:World} {g0:Nat} {z0 z1 z2 z3 z4:Value} (NB:Blk w1 g0 47 #[z0,z1,z2,z3,z4]) (v0 v1 v2 v3:Value) (q r:Array Value) (m:Array Value) :
  (∀ W,W=((w1.alloc (.cells r 54)).alloc (.cells m 9)).alloc (.cells q 54) →
  Blk (((((W.setCell ⟨g0,0,none⟩ v0).setCell ⟨g0,1,none⟩ v1).setCell ⟨g0,2,none⟩ v2).setCell ⟨g0,3,none⟩ v3).setCell ⟨g0,4,none⟩ (.slice (some ⟨w1.heap.size+1+1,0,none⟩) 1 1)) g0 47 #[v0,v1,v2,v3,.slice (some ⟨w1.heap.size+1+1,0,none⟩) 1 1]
  ∧ Kept (fun k=>k=g0) w1 (((((W.setCell ⟨g0,0,none⟩ v0).setCell ⟨g0,1,none⟩ v1).setCell ⟨g0,2,none⟩ v2).setCell ⟨g0,3,none⟩ v3).setCell ⟨g0,4,none⟩ (.slice (some ⟨w1.heap.size+1+1,0,none⟩) 1 1))
  ∧ Blk (((((W.setCell ⟨g0,0,none⟩ v0).setCell ⟨g0,1,none⟩ v1).setCell ⟨g0,2,none⟩ v2).setCell ⟨g0,3,none⟩ v3).setCell ⟨g0,4,none⟩ (.slice (some ⟨w1.heap.size+1+1,0,none⟩) 1 1)) (w1.heap.size+1) 9 m
  ∧ Blk (((((W.setCell ⟨g0,0,none⟩ v0).setCell ⟨g0,1,none⟩ v1).setCell ⟨g0,2,none⟩ v2).setCell ⟨g0,3,none⟩ v3).setCell ⟨g0,4,none⟩ (.slice (some ⟨w1.heap.size+1+1,0,none⟩) 1 1)) (w1.heap.size+1+1) 54 q):=by
 rintro W rfl
 have hlt:=NB.lt
 have B0:=((NB.alloc (.cells r 54)).alloc (.cells m 9)).alloc (.cells q 54)
 have B1:Blk (((w1.alloc (.cells r 54)).alloc (.cells m 9)).alloc (.cells q 54)) (w1.heap.size+1) 9 m:=(alloc_new w1 _ 9 m).alloc _
 have B2:Blk (((w1.alloc (.cells r 54)).alloc (.cells m 9)).alloc (.cells q 54)) (w1.heap.size+1+1) 54 q:=by
  have:=alloc_new (w1.alloc (.cells r 54)) (.cells m 9) 54 q
  simpa using this
 have K0:Kept (fun k=>k=g0) w1 (((w1.alloc (.cells r 54)).alloc (.cells m 9)).alloc (.cells q 54)):=(((Kept.refl _ w1).alloc _).alloc _).alloc _
 refine ⟨?_,((((K0.setCell _ _ (.inl rfl)).setCell _ _ (.inl rfl)).setCell _ _ (.inl rfl)).setCell _ _ (.inl rfl)).setCell _ _ (.inl rfl),?_,?_⟩
 ·have:=((((B0.set 0 v0).set 1 v1).set 2 v2).set 3 v3).set 4 (.slice (some ⟨w1.heap.size+1+1,0,none⟩) 1 1)
  simpa using this
 ·exact ((((B1.other (by simp;omega) _).other (by simp;omega) _).other (by simp;omega) _).other (by simp;omega) _).other (by simp;omega) _
 ·exact ((((B2.other (by simp;omega) _).other (by simp;omega) _).other (by simp;omega) _).other (by simp;omega) _).other (by simp;omega) _
theorem one_rl {B:Nat} {w:World} {g:Nat} {q:Q5} {r:Rl} (h:Blk w g 54 #[q.v0,q.v1,q.v2,q.v3,q.v4]) (hB:B≤g) (hr:RuW B w q r):RlW B w (.slice (some ⟨g,0,none⟩) 1 1) [r] :=
 ⟨[q],rfl,⟨rfl,.inr ⟨g,1,_,rfl,hB,h,Nat.le_refl _,by unfold maxLen;omega,rfl,rfl⟩⟩,fun k hk hk'=>by
  obtain rfl:k=0:=by simpa using hk
  exact hr⟩
set_option maxRecDepth 20000 in
theorem scX_ok (w:World):Calls Tryz.prog 80 #[] w fun e w'=>Sx w scX e w':=by
 have NB:=Blk.new w 47 #[.string ⟨#[]⟩,.string ⟨#[]⟩,.int .i64 0,.int .i64 0,.slice none 0 0]
 have AL:Hd _:=⟨alloc_below w (.cells #[.string ⟨#[]⟩,.string ⟨#[]⟩,.int .i64 0,.int .i64 0,.slice none 0 0] 47)⟩
 have A3:=any3_ok (w.alloc (.cells #[.string ⟨#[]⟩,.string ⟨#[]⟩,.int .i64 0,.int .i64 0,.slice none 0 0] 47))
 obtain ⟨g0,hg0⟩:∃ g0,g0=w.heap.size:=⟨_,rfl⟩
 rw [←hg0] at NB
 go_enter Tryz.func80,Tryz.ntmps80
 go_wp2_with fail
 go_at_call 132
 refine A3.mono ?_
 rintro e w1 ⟨⟨g1,g2,g3,rfl,⟨b1,b2,b3⟩,l1,l2,l3⟩,bel⟩
 have N1:=NB.kept (Kept.of_below bel (fun _=>False)) id
 rw [←hg0]
 have M:Hd _:=⟨sx_mem N1 (.string ⟨#[101,120,101,109,112,116]⟩) (.string ⟨#[101,120,101,109,112,116]⟩) (.int .i64 1) (.int .i64 0) #[.slice none 0 0,.slice (some ⟨w1.heap.size+1,0,none⟩) 1 1,.slice (some ⟨g1,0,none⟩) 1 1,.slice (some ⟨g2,0,none⟩) 1 1,.slice (some ⟨g3,0,none⟩) 1 1] #[.slice none 0 0,.slice (some ⟨w1.heap.size+1,0,none⟩) 1 1,.slice (some ⟨g1,0,none⟩) 1 1,.slice (some ⟨g2,0,none⟩) 1 1,.slice (some ⟨g3,0,none⟩) 1 1] #[.string ⟨#[115,121,115,116,101,109,58,109,97,115,116,101,114,115]⟩] _ rfl⟩
 have N2:=((N1.alloc (.cells #[.slice none 0 0,.slice (some ⟨w1.heap.size+1,0,none⟩) 1 1,.slice (some ⟨g1,0,none⟩) 1 1,.slice (some ⟨g2,0,none⟩) 1 1,.slice (some ⟨g3,0,none⟩) 1 1] 54)).alloc (.cells #[.string ⟨#[115,121,115,116,101,109,58,109,97,115,116,101,114,115]⟩] 9)).alloc (.cells #[.slice none 0 0,.slice (some ⟨w1.heap.size+1,0,none⟩) 1 1,.slice (some ⟨g1,0,none⟩) 1 1,.slice (some ⟨g2,0,none⟩) 1 1,.slice (some ⟨g3,0,none⟩) 1 1] 54)
 have HB:Hd _:=⟨And.intro b1 (And.intro b2 b3)⟩
 have HN:Hd _:=⟨N1⟩
 have HL:Hd (w.heap.size+1≤g1∧w.heap.size+1≤g2∧w.heap.size+1≤g3):=⟨by simpa using l1,by simpa using l2,by simpa using l3⟩
 have HG:Hd (g0=w.heap.size∧Below w.heap.size w w1):=⟨hg0,AL.out.trans (bel.mono AL.out.size)⟩
 have hlt:=N1.lt
 have f0:=N2.frozen 0
 have f1:=N2.frozen 1
 have f2:=N2.frozen 2
 have f3:=N2.frozen 3
 have f4:=N2.frozen 4
 have d0:=N2.cellv (v:=.string ⟨#[]⟩) 0 rfl
 have d1:=N2.cellv (v:=.string ⟨#[]⟩) 1 rfl
 have d2:=N2.cellv (v:=.int .i64 0) 2 rfl
 have d3:=N2.cellv (v:=.int .i64 0) 3 rfl
 have d4:=N2.cellv (v:=.slice none 0 0) 4 rfl
 clear b1 b2 b3 l1 l2 l3 bel A3 NB N1 N2 AL hg0
 go_wp2_with fail
 obtain ⟨m0,k0,m1,m2⟩:=M.out
 clear d0 d1 d2 d3 d4 f0 f1 f2 f3 f4
 have o9:=off_blk HN.out (by decide:47≠9)
 have hsz:w.heap.size≤w1.heap.size:=HG.out.2.size
 have e1:=own_one (B:=w.heap.size) (HB.out.1.kept k0 (o9 _ _ HB.out.1)) (by have:=HL.out;omega)
 have e2:=own_one (B:=w.heap.size) (HB.out.2.1.kept k0 (o9 _ _ HB.out.2.1)) (by have:=HL.out;omega)
 have e3:=own_one (B:=w.heap.size) (HB.out.2.2.kept k0 (o9 _ _ HB.out.2.2)) (by have:=HL.out;omega)
 have em:=own_one (B:=w.heap.size) m1 (by omega)
 refine bodyPost_ret (res24 _ _ g0 _ _ _ _ _ rfl m0) rfl ⟨⟨_,rfl,one_rl (q:=⟨.slice none 0 0,.slice (some ⟨w1.heap.size+1,0,none⟩) 1 1,.slice (some ⟨g1,0,none⟩) 1 1,.slice (some ⟨g2,0,none⟩) 1 1,.slice (some ⟨g3,0,none⟩) 1 1⟩) (B:=w.heap.size) m2 (by omega) ⟨own_nil _ _,em,e1,e2,e3⟩⟩,?_⟩
 exact HG.out.2.trans (k0.below hsz (fun k hk=>by rw [hk,HG.out.1];exact Nat.le_refl _))
theorem res25 (tmps:Array Value) (w:World) (r0:Nat) (v0 v1 v2 v3 v4:Value) (ht:tmps[0]?.getD undef=.pointer (some ⟨r0,0,none⟩)) (h:Blk w r0 47 #[v0,v1,v2,v3,v4]) :
  (results Tryz.f81 tmps).run Tryz.prog w=.ok (.agg #[v0,v1,v2,v3,v4]) w:=by
 have c0:=h.cellv 0 rfl
 have c1:=h.cellv 1 rfl
 have c2:=h.cellv 2 rfl
 have c3:=h.cellv 3 rfl
 have c4:=h.cellv 4 rfl
 simp at c0 c1 c2 c3 c4
 simp [results,Tryz.results81,go_sem,ht,c0,c1,c2,c3,c4]
set_option maxRecDepth 20000 in
theorem scY_ok (w:World):Calls Tryz.prog 81 #[] w fun e w'=>Sx w scY e w':=by
 have NB:=Blk.new w 47 #[.string ⟨#[]⟩,.string ⟨#[]⟩,.int .i64 0,.int .i64 0,.slice none 0 0]
 have AL:Hd _:=⟨alloc_below w (.cells #[.string ⟨#[]⟩,.string ⟨#[]⟩,.int .i64 0,.int .i64 0,.slice none 0 0] 47)⟩
 have A3:=any3_ok (w.alloc (.cells #[.string ⟨#[]⟩,.string ⟨#[]⟩,.int .i64 0,.int .i64 0,.slice none 0 0] 47))
 obtain ⟨g0,hg0⟩:∃ g0,g0=w.heap.size:=⟨_,rfl⟩
 rw [←hg0] at NB
 go_enter Tryz.func81,Tryz.ntmps81
 go_wp2_with fail
 go_at_call 132
 refine A3.mono ?_
 rintro e w1 ⟨⟨g1,g2,g3,rfl,⟨b1,b2,b3⟩,l1,l2,l3⟩,bel⟩
 have N1:=NB.kept (Kept.of_below bel (fun _=>False)) id
 rw [←hg0]
 have M:Hd _:=⟨sx_mem N1 (.string ⟨#[99,97,116,99,104,45,97,108,108]⟩) (.string ⟨#[99,97,116,99,104,45,97,108,108]⟩) (.int .i64 10000) (.int .i64 1) #[.slice (some ⟨w1.heap.size+1,0,none⟩) 1 1,.slice none 0 0,.slice (some ⟨g1,0,none⟩) 1 1,.slice (some ⟨g2,0,none⟩) 1 1,.slice (some ⟨g3,0,none⟩) 1 1] #[.slice (some ⟨w1.heap.size+1,0,none⟩) 1 1,.slice none 0 0,.slice (some ⟨g1,0,none⟩) 1 1,.slice (some ⟨g2,0,none⟩) 1 1,.slice (some ⟨g3,0,none⟩) 1 1] #[.string ⟨#[42]⟩] _ rfl⟩
 have N2:=((N1.alloc (.cells #[.slice (some ⟨w1.heap.size+1,0,none⟩) 1 1,.slice none 0 0,.slice (some ⟨g1,0,none⟩) 1 1,.slice (some ⟨g2,0,none⟩) 1 1,.slice (some ⟨g3,0,none⟩) 1 1] 54)).alloc (.cells #[.string ⟨#[42]⟩] 9)).alloc (.cells #[.slice (some ⟨w1.heap.size+1,0,none⟩) 1 1,.slice none 0 0,.slice (some ⟨g1,0,none⟩) 1 1,.slice (some ⟨g2,0,none⟩) 1 1,.slice (some ⟨g3,0,none⟩) 1 1] 54)
 have HB:Hd _:=⟨And.intro b1 (And.intro b2 b3)⟩
 have HN:Hd _:=⟨N1⟩
 have HL:Hd (w.heap.size+1≤g1∧w.heap.size+1≤g2∧w.heap.size+1≤g3):=⟨by simpa using l1,by simpa using l2,by simpa using l3⟩
 have HG:Hd (g0=w.heap.size∧Below w.heap.size w w1):=⟨hg0,AL.out.trans (bel.mono AL.out.size)⟩
 have hlt:=N1.lt
 have f0:=N2.frozen 0
 have f1:=N2.frozen 1
 have f2:=N2.frozen 2
 have f3:=N2.frozen 3
 have f4:=N2.frozen 4
 have d0:=N2.cellv (v:=.string ⟨#[]⟩) 0 rfl
 have d1:=N2.cellv (v:=.string ⟨#[]⟩) 1 rfl
 have d2:=N2.cellv (v:=.int .i64 0) 2 rfl
 have d3:=N2.cellv (v:=.int .i64 0) 3 rfl
 have d4:=N2.cellv (v:=.slice none 0 0) 4 rfl
 clear b1 b2 b3 l1 l2 l3 bel A3 NB N1 N2 AL hg0
 go_wp2_with fail
 obtain ⟨m0,k0,m1,m2⟩:=M.out
 clear d0 d1 d2 d3 d4 f0 f1 f2 f3 f4
 have o9:=off_blk HN.out (by decide:47≠9)
 have hsz:w.heap.size≤w1.heap.size:=HG.out.2.size
 have e1:=own_one (B:=w.heap.size) (HB.out.1.kept k0 (o9 _ _ HB.out.1)) (by have:=HL.out;omega)
 have e2:=own_one (B:=w.heap.size) (HB.out.2.1.kept k0 (o9 _ _ HB.out.2.1)) (by have:=HL.out;omega)
 have e3:=own_one (B:=w.heap.size) (HB.out.2.2.kept k0 (o9 _ _ HB.out.2.2)) (by have:=HL.out;omega)
 have em:=own_one (B:=w.heap.size) m1 (by omega)
 refine bodyPost_ret (res25 _ _ g0 _ _ _ _ _ rfl m0) rfl ⟨⟨_,rfl,one_rl (q:=⟨.slice (some ⟨w1.heap.size+1,0,none⟩) 1 1,.slice none 0 0,.slice (some ⟨g1,0,none⟩) 1 1,.slice (some ⟨g2,0,none⟩) 1 1,.slice (some ⟨g3,0,none⟩) 1 1⟩) (B:=w.heap.size) m2 (by omega) ⟨em,own_nil _ _,e1,e2,e3⟩⟩,?_⟩
 exact HG.out.2.trans (k0.below hsz (fun k hk=>by rw [hk,HG.out.1];exact Nat.le_refl _))
structure FLv (w:World) (L:List Lv) (e:Ending) (w':World):Prop where
 ex:∃ v',e=.returned v'∧LvW w.heap.size w' v' L
 bel:Below w.heap.size w w'
theorem lvC_one (l:Lv):∀ u∈lvC l,u.oneCell'=true:=fun u hu=>lvCs_one [l] u (by simpa [lvCs] using hu)
set_option maxRecDepth 20000 in
set_option maxHeartbeats 4000000 in
theorem fillLv_ok (a:Option Addr) (c:Nat) (L:List Lv) (w:World) (hr:LvR w a L) (h8:L.length≤900):Calls Tryz.prog 40 #[.slice a L.length c] w fun e w'=>FLv w (fillL L) e w':=by
 obtain ⟨i0,hi,hz0,hz1,hz2⟩:=info_parts info37c
 have CP:=cpLv_ok a L.length c (lvCs L) w (by rw [lvCs_len]) (fun hn=>hr.news hn) (lvCs_one L) (by omega)
 have HR:Hd (LvR w a L):=⟨hr⟩
 have HL:Hd (L.length≤900):=⟨h8⟩
 have QE:Hd (∀ W,Below w.heap.size w W→Calls Tryz.prog 76 #[.slice a L.length c,.string ⟨#[101,120,101,109,112,116]⟩] W fun e w'=>e=.returned (.bool (anyL L tExempt))∧Below W.heap.size W w'):=⟨fun W b=>hasLv_ok a c L tExempt W (HR.out.carry b) (by have:=HL.out;omega)⟩
 have QC:Hd (∀ W,Below w.heap.size w W→Calls Tryz.prog 76 #[.slice a L.length c,.string ⟨#[99,97,116,99,104,45,97,108,108]⟩] W fun e w'=>e=.returned (.bool (anyL L tCatch))∧Below W.heap.size W w'):=⟨fun W b=>hasLv_ok a c L tCatch W (HR.out.carry b) (by have:=HL.out;omega)⟩
 have HF:Hd (fillL L=putX (anyL L tCatch) (putX (anyL L tExempt) L lvX) lvY):=⟨rfl⟩
 generalize fillL L=R at *
 generalize anyL L tExempt=bE at *
 generalize anyL L tCatch=bC at *
 obtain ⟨n,hn⟩:∃ n,n=L.length:=⟨_,rfl⟩
 have HN:Hd (n=L.length):=⟨hn⟩
 rw [←hn] at CP QE QC HL ⊢
 clear hr h8 HR hn
 cases bE <;> cases bC
 ·have HF2:Hd (R=(L ++ [lvX]) ++ [lvY]):=⟨HF.out⟩
  clear HF
  go_enter Tryz.func40,Tryz.ntmps40
  go_wp2_with fail
  go_at_call 75
  refine CP.mono ?_
  rintro e w1 ⟨⟨v1,rfl,o1⟩,b1⟩
  clear CP
  rw [HN.out] at o1
  have P1:=QE.out w1 b1
  go_wp2_with fail
  go_at_call 76
  refine P1.mono ?_
  rintro e w2 ⟨rfl,b2⟩
  have O2:LvW w.heap.size w2 v1 L:=LvW.grown o1 b2
  have B2:Below w.heap.size w w2:=b1.trans (b2.mono b1.size)
  clear P1 o1 b1 b2
  have AL3:=alloc_below w2 (.cells #[.string ⟨#[101,120,101,109,112,116]⟩,.int .i64 1,.int .i64 0,.int .i64 0,.int .i64 0,.int .i64 0,.int .i64 0,.int .i64 0,.int .i64 0,.int .i64 0] 43)
  have OW3:(w2.alloc (.cells #[.string ⟨#[101,120,101,109,112,116]⟩,.int .i64 1,.int .i64 0,.int .i64 0,.int .i64 0,.int .i64 0,.int .i64 0,.int .i64 0,.int .i64 0,.int .i64 0] 43)).ownsRow w.heap.size 43 10 v1 (n) (lvCs L):=by have:=LvW.grown O2 AL3;unfold LvW at this;rw [HN.out];simpa using this
  have NW3:=World.news_of_block (Blk.new w2 43 #[.string ⟨#[101,120,101,109,112,116]⟩,.int .i64 1,.int .i64 0,.int .i64 0,.int .i64 0,.int .i64 0,.int .i64 0,.int .i64 0,.int .i64 0,.int .i64 0])
  have ON3:∀ u∈(#[.string ⟨#[101,120,101,109,112,116]⟩,.int .i64 1,.int .i64 0,.int .i64 0,.int .i64 0,.int .i64 0,.int .i64 0,.int .i64 0,.int .i64 0,.int .i64 0]:Array Value).toList,u.oneCell'=true:=lvC_one lvX
  have BB3:Hd (Below w.heap.size w (w2.alloc (.cells #[.string ⟨#[101,120,101,109,112,116]⟩,.int .i64 1,.int .i64 0,.int .i64 0,.int .i64 0,.int .i64 0,.int .i64 0,.int .i64 0,.int .i64 0,.int .i64 0] 43))):=⟨B2.trans (AL3.mono B2.size)⟩
  have SZ3:w.heap.size≤(w2.alloc (.cells #[.string ⟨#[101,120,101,109,112,116]⟩,.int .i64 1,.int .i64 0,.int .i64 0,.int .i64 0,.int .i64 0,.int .i64 0,.int .i64 0,.int .i64 0,.int .i64 0] 43)).heap.size:=BB3.out.size
  clear AL3 O2
  go_wp2_with (at_builtin;go_loud (refine wpList_append_own _ rfl _ _ 22 rfl w.heap.size 43 i0 (.agg #[.string ByteArray.empty,.int .i64 0,.int .i64 0,.int .i64 0,.int .i64 0,.int .i64 0,.int .i64 0,.int .i64 0,.int .i64 0,.int .i64 0]) 10 88 Tryz.underlying22 hi hz0 hz1 hz2 rfl (by decide) _ _ _ rfl OW3 ⟨w2.heap.size,0,none⟩ 1 1 (#[.string ⟨#[101,120,101,109,112,116]⟩,.int .i64 1,.int .i64 0,.int .i64 0,.int .i64 0,.int .i64 0,.int .i64 0,.int .i64 0,.int .i64 0,.int .i64 0]:Array Value).toList rfl rfl NW3 ON3 (by have:=HL.out;unfold maxLen;omega) (by have:=HL.out;omega) SZ3 ?_;intro v3 w3 h3 g3 _))
  have O3:LvW w.heap.size w3 v3 (L ++ [lvX]):=LvW.put (by rw [←HN.out];exact h3)
  have B3:Below w.heap.size w w3:=BB3.out.grown g3 SZ3 (fun x hx=>(OW3.lt x hx).1)
  clear h3 g3 OW3 NW3 ON3 BB3 SZ3
  have P2:=QC.out w3 B3
  go_wp2_with fail
  go_at_call 76
  refine P2.mono ?_
  rintro e w4 ⟨rfl,b4⟩
  have O4:LvW w.heap.size w4 v3 (L ++ [lvX]):=LvW.grown O3 b4
  have B4:Below w.heap.size w w4:=B3.trans (b4.mono B3.size)
  clear P2 b4
  have AL5:=alloc_below w4 (.cells #[.string ⟨#[99,97,116,99,104,45,97,108,108]⟩,.int .i64 2,.int .i64 5,.int .i64 0,.int .i64 (-1),.int .i64 0,.int .i64 0,.int .i64 0,.int .i64 0,.int .i64 0] 43)
  have OW5:(w4.alloc (.cells #[.string ⟨#[99,97,116,99,104,45,97,108,108]⟩,.int .i64 2,.int .i64 5,.int .i64 0,.int .i64 (-1),.int .i64 0,.int .i64 0,.int .i64 0,.int .i64 0,.int .i64 0] 43)).ownsRow w.heap.size 43 10 v3 (n+1) (lvCs (L ++ [lvX])):=by have:=LvW.grown O4 AL5;unfold LvW at this;rw [HN.out];simpa using this
  have NW5:=World.news_of_block (Blk.new w4 43 #[.string ⟨#[99,97,116,99,104,45,97,108,108]⟩,.int .i64 2,.int .i64 5,.int .i64 0,.int .i64 (-1),.int .i64 0,.int .i64 0,.int .i64 0,.int .i64 0,.int .i64 0])
  have ON5:∀ u∈(#[.string ⟨#[99,97,116,99,104,45,97,108,108]⟩,.int .i64 2,.int .i64 5,.int .i64 0,.int .i64 (-1),.int .i64 0,.int .i64 0,.int .i64 0,.int .i64 0,.int .i64 0]:Array Value).toList,u.oneCell'=true:=lvC_one lvY
  have BB5:Hd (Below w.heap.size w (w4.alloc (.cells #[.string ⟨#[99,97,116,99,104,45,97,108,108]⟩,.int .i64 2,.int .i64 5,.int .i64 0,.int .i64 (-1),.int .i64 0,.int .i64 0,.int .i64 0,.int .i64 0,.int .i64 0] 43))):=⟨B4.trans (AL5.mono B4.size)⟩
  have SZ5:w.heap.size≤(w4.alloc (.cells #[.string ⟨#[99,97,116,99,104,45,97,108,108]⟩,.int .i64 2,.int .i64 5,.int .i64 0,.int .i64 (-1),.int .i64 0,.int .i64 0,.int .i64 0,.int .i64 0,.int .i64 0] 43)).heap.size:=BB5.out.size
  clear AL5 O4
  go_wp2_with (at_builtin;go_loud (refine wpList_append_own _ rfl _ _ 22 rfl w.heap.size 43 i0 (.agg #[.string ByteArray.empty,.int .i64 0,.int .i64 0,.int .i64 0,.int .i64 0,.int .i64 0,.int .i64 0,.int .i64 0,.int .i64 0,.int .i64 0]) 10 88 Tryz.underlying22 hi hz0 hz1 hz2 rfl (by decide) _ _ _ rfl OW5 ⟨w4.heap.size,0,none⟩ 1 1 (#[.string ⟨#[99,97,116,99,104,45,97,108,108]⟩,.int .i64 2,.int .i64 5,.int .i64 0,.int .i64 (-1),.int .i64 0,.int .i64 0,.int .i64 0,.int .i64 0,.int .i64 0]:Array Value).toList rfl rfl NW5 ON5 (by have:=HL.out;unfold maxLen;omega) (by have:=HL.out;omega) SZ5 ?_;intro v5 w5 h5 g5 _))
  have O5:LvW w.heap.size w5 v5 ((L ++ [lvX]) ++ [lvY]):=LvW.put (by rw [List.length_append];rw [←HN.out];exact h5)
  have B5:Below w.heap.size w w5:=BB5.out.grown g5 SZ5 (fun x hx=>(OW5.lt x hx).1)
  clear h5 g5 OW5 NW5 ON5 BB5 SZ5
  go_wp2_with fail
  go_ret
  exact ⟨⟨_,rfl,by rw [HF2.out];exact O5⟩,B5⟩
 ·have HF2:Hd (R=L ++ [lvX]):=⟨HF.out⟩
  clear HF
  go_enter Tryz.func40,Tryz.ntmps40
  go_wp2_with fail
  go_at_call 75
  refine CP.mono ?_
  rintro e w1 ⟨⟨v1,rfl,o1⟩,b1⟩
  clear CP
  rw [HN.out] at o1
  have P1:=QE.out w1 b1
  go_wp2_with fail
  go_at_call 76
  refine P1.mono ?_
  rintro e w2 ⟨rfl,b2⟩
  have O2:LvW w.heap.size w2 v1 L:=LvW.grown o1 b2
  have B2:Below w.heap.size w w2:=b1.trans (b2.mono b1.size)
  clear P1 o1 b1 b2
  have AL3:=alloc_below w2 (.cells #[.string ⟨#[101,120,101,109,112,116]⟩,.int .i64 1,.int .i64 0,.int .i64 0,.int .i64 0,.int .i64 0,.int .i64 0,.int .i64 0,.int .i64 0,.int .i64 0] 43)
  have OW3:(w2.alloc (.cells #[.string ⟨#[101,120,101,109,112,116]⟩,.int .i64 1,.int .i64 0,.int .i64 0,.int .i64 0,.int .i64 0,.int .i64 0,.int .i64 0,.int .i64 0,.int .i64 0] 43)).ownsRow w.heap.size 43 10 v1 (n) (lvCs L):=by have:=LvW.grown O2 AL3;unfold LvW at this;rw [HN.out];simpa using this
  have NW3:=World.news_of_block (Blk.new w2 43 #[.string ⟨#[101,120,101,109,112,116]⟩,.int .i64 1,.int .i64 0,.int .i64 0,.int .i64 0,.int .i64 0,.int .i64 0,.int .i64 0,.int .i64 0,.int .i64 0])
  have ON3:∀ u∈(#[.string ⟨#[101,120,101,109,112,116]⟩,.int .i64 1,.int .i64 0,.int .i64 0,.int .i64 0,.int .i64 0,.int .i64 0,.int .i64 0,.int .i64 0,.int .i64 0]:Array Value).toList,u.oneCell'=true:=lvC_one lvX
  have BB3:Hd (Below w.heap.size w (w2.alloc (.cells #[.string ⟨#[101,120,101,109,112,116]⟩,.int .i64 1,.int .i64 0,.int .i64 0,.int .i64 0,.int .i64 0,.int .i64 0,.int .i64 0,.int .i64 0,.int .i64 0] 43))):=⟨B2.trans (AL3.mono B2.size)⟩
  have SZ3:w.heap.size≤(w2.alloc (.cells #[.string ⟨#[101,120,101,109,112,116]⟩,.int .i64 1,.int .i64 0,.int .i64 0,.int .i64 0,.int .i64 0,.int .i64 0,.int .i64 0,.int .i64 0,.int .i64 0] 43)).heap.size:=BB3.out.size
  clear AL3 O2
  go_wp2_with (at_builtin;go_loud (refine wpList_append_own _ rfl _ _ 22 rfl w.heap.size 43 i0 (.agg #[.string ByteArray.empty,.int .i64 0,.int .i64 0,.int .i64 0,.int .i64 0,.int .i64 0,.int .i64 0,.int .i64 0,.int .i64 0,.int .i64 0]) 10 88 Tryz.underlying22 hi hz0 hz1 hz2 rfl (by decide) _ _ _ rfl OW3 ⟨w2.heap.size,0,none⟩ 1 1 (#[.string ⟨#[101,120,101,109,112,116]⟩,.int .i64 1,.int .i64 0,.int .i64 0,.int .i64 0,.int .i64 0,.int .i64 0,.int .i64 0,.int .i64 0,.int .i64 0]:Array Value).toList rfl rfl NW3 ON3 (by have:=HL.out;unfold maxLen;omega) (by have:=HL.out;omega) SZ3 ?_;intro v3 w3 h3 g3 _))
  have O3:LvW w.heap.size w3 v3 (L ++ [lvX]):=LvW.put (by rw [←HN.out];exact h3)
  have B3:Below w.heap.size w w3:=BB3.out.grown g3 SZ3 (fun x hx=>(OW3.lt x hx).1)
  clear h3 g3 OW3 NW3 ON3 BB3 SZ3
  have P2:=QC.out w3 B3
  go_wp2_with fail
  go_at_call 76
  refine P2.mono ?_
  rintro e w4 ⟨rfl,b4⟩
  have O4:LvW w.heap.size w4 v3 (L ++ [lvX]):=LvW.grown O3 b4
  have B4:Below w.heap.size w w4:=B3.trans (b4.mono B3.size)
  clear P2 b4
  go_wp2_with fail
  go_ret
  exact ⟨⟨_,rfl,by rw [HF2.out];exact O4⟩,B4⟩
 ·have HF2:Hd (R=L ++ [lvY]):=⟨HF.out⟩
  clear HF
  go_enter Tryz.func40,Tryz.ntmps40
  go_wp2_with fail
  go_at_call 75
  refine CP.mono ?_
  rintro e w1 ⟨⟨v1,rfl,o1⟩,b1⟩
  clear CP
  rw [HN.out] at o1
  have P1:=QE.out w1 b1
  go_wp2_with fail
  go_at_call 76
  refine P1.mono ?_
  rintro e w2 ⟨rfl,b2⟩
  have O2:LvW w.heap.size w2 v1 L:=LvW.grown o1 b2
  have B2:Below w.heap.size w w2:=b1.trans (b2.mono b1.size)
  clear P1 o1 b1 b2
  have P2:=QC.out w2 B2
  go_wp2_with fail
  go_at_call 76
  refine P2.mono ?_
  rintro e w4 ⟨rfl,b4⟩
  have O4:LvW w.heap.size w4 v1 L:=LvW.grown O2 b4
  have B4:Below w.heap.size w w4:=B2.trans (b4.mono B2.size)
  clear P2 b4
  have AL5:=alloc_below w4 (.cells #[.string ⟨#[99,97,116,99,104,45,97,108,108]⟩,.int .i64 2,.int .i64 5,.int .i64 0,.int .i64 (-1),.int .i64 0,.int .i64 0,.int .i64 0,.int .i64 0,.int .i64 0] 43)
  have OW5:(w4.alloc (.cells #[.string ⟨#[99,97,116,99,104,45,97,108,108]⟩,.int .i64 2,.int .i64 5,.int .i64 0,.int .i64 (-1),.int .i64 0,.int .i64 0,.int .i64 0,.int .i64 0,.int .i64 0] 43)).ownsRow w.heap.size 43 10 v1 (n) (lvCs L):=by have:=LvW.grown O4 AL5;unfold LvW at this;rw [HN.out];simpa using this
  have NW5:=World.news_of_block (Blk.new w4 43 #[.string ⟨#[99,97,116,99,104,45,97,108,108]⟩,.int .i64 2,.int .i64 5,.int .i64 0,.int .i64 (-1),.int .i64 0,.int .i64 0,.int .i64 0,.int .i64 0,.int .i64 0])
  have ON5:∀ u∈(#[.string ⟨#[99,97,116,99,104,45,97,108,108]⟩,.int .i64 2,.int .i64 5,.int .i64 0,.int .i64 (-1),.int .i64 0,.int .i64 0,.int .i64 0,.int .i64 0,.int .i64 0]:Array Value).toList,u.oneCell'=true:=lvC_one lvY
  have BB5:Hd (Below w.heap.size w (w4.alloc (.cells #[.string ⟨#[99,97,116,99,104,45,97,108,108]⟩,.int .i64 2,.int .i64 5,.int .i64 0,.int .i64 (-1),.int .i64 0,.int .i64 0,.int .i64 0,.int .i64 0,.int .i64 0] 43))):=⟨B4.trans (AL5.mono B4.size)⟩
  have SZ5:w.heap.size≤(w4.alloc (.cells #[.string ⟨#[99,97,116,99,104,45,97,108,108]⟩,.int .i64 2,.int .i64 5,.int .i64 0,.int .i64 (-1),.int .i64 0,.int .i64 0,.int .i64 0,.int .i64 0,.int .i64 0] 43)).heap.size:=BB5.out.size
  clear AL5 O4
  go_wp2_with (at_builtin;go_loud (refine wpList_append_own _ rfl _ _ 22 rfl w.heap.size 43 i0 (.agg #[.string ByteArray.empty,.int .i64 0,.int .i64 0,.int .i64 0,.int .i64 0,.int .i64 0,.int .i64 0,.int .i64 0,.int .i64 0,.int .i64 0]) 10 88 Tryz.underlying22 hi hz0 hz1 hz2 rfl (by decide) _ _ _ rfl OW5 ⟨w4.heap.size,0,none⟩ 1 1 (#[.string ⟨#[99,97,116,99,104,45,97,108,108]⟩,.int .i64 2,.int .i64 5,.int .i64 0,.int .i64 (-1),.int .i64 0,.int .i64 0,.int .i64 0,.int .i64 0,.int .i64 0]:Array Value).toList rfl rfl NW5 ON5 (by have:=HL.out;unfold maxLen;omega) (by have:=HL.out;omega) SZ5 ?_;intro v5 w5 h5 g5 _))
  have O5:LvW w.heap.size w5 v5 (L ++ [lvY]):=LvW.put (by rw [←HN.out];exact h5)
  have B5:Below w.heap.size w w5:=BB5.out.grown g5 SZ5 (fun x hx=>(OW5.lt x hx).1)
  clear h5 g5 OW5 NW5 ON5 BB5 SZ5
  go_wp2_with fail
  go_ret
  exact ⟨⟨_,rfl,by rw [HF2.out];exact O5⟩,B5⟩
 ·have HF2:Hd (R=L):=⟨HF.out⟩
  clear HF
  go_enter Tryz.func40,Tryz.ntmps40
  go_wp2_with fail
  go_at_call 75
  refine CP.mono ?_
  rintro e w1 ⟨⟨v1,rfl,o1⟩,b1⟩
  clear CP
  rw [HN.out] at o1
  have P1:=QE.out w1 b1
  go_wp2_with fail
  go_at_call 76
  refine P1.mono ?_
  rintro e w2 ⟨rfl,b2⟩
  have O2:LvW w.heap.size w2 v1 L:=LvW.grown o1 b2
  have B2:Below w.heap.size w w2:=b1.trans (b2.mono b1.size)
  clear P1 o1 b1 b2
  have P2:=QC.out w2 B2
  go_wp2_with fail
  go_at_call 76
  refine P2.mono ?_
  rintro e w4 ⟨rfl,b4⟩
  have O4:LvW w.heap.size w4 v1 L:=LvW.grown O2 b4
  have B4:Below w.heap.size w w4:=B2.trans (b4.mono B2.size)
  clear P2 b4
  go_wp2_with fail
  go_ret
  exact ⟨⟨_,rfl,by rw [HF2.out];exact O4⟩,B4⟩
end Go.Proofs.YthkdbphgiobcdaaGreatDoor
