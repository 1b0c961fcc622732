/-
  What a look for those who are late leaves lane by lane; sorting of nobody, by the library.
  One that runs is through, by the program.
  What a dispatch leaves step by step: a level's box, who runs and who was taken in two rows of the call's own.
-/
import Derived.Test.YtlgibnmoogbdcaaR26
import Derived.Test.YtlgibnmoogbdcaaR29
import Derived.Test.YtlgibnmoogbdcaaR23
import Derived.Test.YtlgibnmoogbdcaaR25
namespace Go.Proofs.Ytlgibnmoogbdcaa
open Go.RowKit
theorem lateTo_take (now:Int) (L:List Tk):∀ k,k≤L.length→lateTo now L k=(L.take k).filter (ltB now)
 | 0,_=>rfl
 | k+1,h=>by
  have e:L.take (k+1)=L.take k ++ [gt L k]:=by rw [List.take_add_one,gt_get h];rfl
  rw [e,List.filter_append,← lateTo_take now L k (by omega)]
  by_cases u:(gt L k).unt≤now
  ·rw [lateTo_yes u,List.filter_cons_of_pos (by unfold ltB;exact decide_eq_true u)]
   rfl
  ·rw [lateTo_no u,List.filter_cons_of_neg (by unfold ltB;rw [decide_eq_false u];decide),List.filter_nil,List.append_nil]
theorem lateTo_all (now:Int) (L:List Tk):lateTo now L L.length=L.filter (ltB now):=by rw [lateTo_take now L _ (Nat.le_refl _),List.take_length]
theorem ltA_take {now:Int} {F:List Ln} {k:Nat} (h:k<F.length):ltA now (F.take (k+1))=ltA now (F.take k)++lateTo now (gl F k).L (gl F k).L.length:=by
 have e:F.take (k+1)=F.take k ++ [gl F k]:=by rw [List.take_add_one,gl_get h];rfl
 unfold ltA
 rw [e,flt_app,List.filter_append,lateTo_all]
 congr 1
 rw [flt_cons]
 show List.filter _ ((gl F k).L ++ [])=_
 rw [List.append_nil]
def mixK (now:Int) (F:List Ln) (k:Nat):List Ln:=(ltK now F).take k++F.drop k
theorem mixK_len {now:Int} {F:List Ln} {k:Nat} (h:k≤F.length):(mixK now F k).length=F.length:=by
 unfold mixK
 rw [List.length_append,List.length_take,List.length_drop,ltK_len]
 omega
theorem mixK_at {now:Int} {F:List Ln} {k:Nat} (h:k<F.length):gl (mixK now F k) k=gl F k:=by
 have h1:(mixK now F k)[k]?=some (gl F k):=by
  unfold mixK
  rw [List.getElem?_append_right (by rw [List.length_take,ltK_len];omega),List.length_take,ltK_len,Nat.min_eq_left (by omega),Nat.sub_self,List.getElem?_drop,Nat.add_zero]
  exact gl_get h
 have h2:=gl_get (F:=mixK now F k) (k:=k) (by rw [mixK_len (by omega)];exact h)
 rw [h1] at h2
 injection h2 with h2
 exact h2.symm
theorem mixK_set {now:Int} {F:List Ln} {k:Nat} (h:k<F.length):(mixK now F k).set k ⟨(gl F k).s,kpF now (gl F k).L⟩=mixK now F (k+1):=by
 unfold mixK
 have e:(ltK now F).take (k+1)=(ltK now F).take k ++ [⟨(gl F k).s,kpF now (gl F k).L⟩]:=by
  rw [List.take_add_one,gl_get (F:=ltK now F) (by rw [ltK_len];exact h),gl_ltK]
  rfl
 rw [e,List.set_append_right _ _ (by rw [List.length_take,ltK_len];omega),List.length_take,ltK_len,Nat.min_eq_left (by omega),Nat.sub_self,List.drop_eq_getElem_cons h,List.set_cons_zero]
 simp
theorem mixK_zero (now:Int) (F:List Ln):mixK now F 0=F:=by simp [mixK]
theorem mixK_all (now:Int) (F:List Ln):mixK now F F.length=ltK now F:=by
 unfold mixK
 rw [List.drop_length,List.append_nil,List.take_of_length_le (by rw [ltK_len];exact Nat.le_refl _)]
theorem Apt.map {Z:List Lz} : Apt Z ↔ (Z.map (·.2.ownBlock)).Pairwise fun y z=>∀ b,y=some b→z≠some b:=by
 unfold Apt
 rw [List.pairwise_map]
theorem Apt.set {Z:List Lz} {k:Nat} {x y:Lz} (h:Apt Z) (hx:Z[k]?=some x) (e:y.2.ownBlock=x.2.ownBlock):Apt (Z.set k y):=by
 rw [Apt.map] at h ⊢
 have hk:k<Z.length:=(List.getElem?_eq_some_iff.1 hx).1
 rw [List.map_set]
 have e2:(Z.map (·.2.ownBlock)).set k y.2.ownBlock=Z.map (·.2.ownBlock):=by
  rw [e]
  have hk2:k<(Z.map (·.2.ownBlock)).length:=by rw [List.length_map];exact hk
  have e3:(Z.map (·.2.ownBlock))[k]=x.2.ownBlock:=by
   rw [List.getElem_map]
   rw [List.getElem?_eq_getElem hk] at hx
   injection hx with hx
   rw [hx]
  rw [←e3]
  exact List.set_getElem_self hk2
 rw [e2]
 exact h
theorem Apt.ne {Z:List Lz} {i j:Nat} {y z:Lz} (h:Apt Z) (hi:Z[i]?=some y) (hj:Z[j]?=some z) (ne:i≠j) (b:Nat) (e1:y.2.ownBlock=some b) (e2:z.2.ownBlock=some b):False:=by
 have hil:i<Z.length:=(List.getElem?_eq_some_iff.1 hi).1
 have hjl:j<Z.length:=(List.getElem?_eq_some_iff.1 hj).1
 rw [List.getElem?_eq_getElem hil] at hi
 rw [List.getElem?_eq_getElem hjl] at hj
 injection hi with hi
 injection hj with hj
 unfold Apt at h
 rw [List.pairwise_iff_getElem] at h
 rcases Nat.lt_or_gt_of_ne ne with c | c
 ·exact h i j hil hjl c b (by rw [hi];exact e1) (by rw [hj];exact e2)
 ·exact h j i hjl hil c b (by rw [hj];exact e2) (by rw [hi];exact e1)
structure LtR (w0:World) (A B B2:Nat) (cs:Array Value) (s:St) (now:Int) (v u:Value) (k:Nat) (lv:Value) (W:World):Prop where
 bel:Below A w0 W
 box:Blk W A 36 cs∧Blk W (A+1) 3 #[.int .i64 now]∧Blk W (A+1+1) 36 (stB sZ (.slice none 0 0) (.slice none 0 0))
 sz:A+3≤B∧B≤B2∧B2≤W.heap.size
 row:∃ Z:List Lz,Z.map Prod.fst=mixK now s.x.F k∧W.ownsRow B 55 2 v s.x.F.length (zCs Z)∧(∀ z∈Z,OwnT W B z.2 z.1.L)∧Apt Z∧∀ z∈Z,∀ b,z.2.ownBlock=some b→b<B2∧u.ownBlock≠some b
 vlt:∀ b,v.ownBlock=some b→b<B2
 ult:∀ b,u.ownBlock=some b→b<B2
 run:OwnT W B u s.run
 late:OwnT W B2 lv (ltA now (s.x.F.take k))
theorem LtR.start {w0 W:World} {A B B2:Nat} {cs:Array Value} {s:St} {now:Int} {v u:Value} (bel:Below A w0 W) (box:Blk W A 36 cs∧Blk W (A+1) 3 #[.int .i64 now]∧Blk W (A+1+1) 36 (stB sZ (.slice none 0 0) (.slice none 0 0))) (hB:A+3≤B) (hw:B2=W.heap.size) (hBB:B≤B2) (o:StO W B s v u):LtR w0 A B B2 cs s now v u 0 (.slice none 0 0) W:=by
 obtain ⟨⟨Z,h1,h2,h3,h4,h5⟩,h6⟩:=o
 exact ⟨bel,box,⟨hB,hBB,Nat.le_of_eq hw⟩,⟨Z,by rw [mixK_zero];exact h1,h2,h3,h4,fun z hz b e=>⟨by rw [hw];exact ((h3 z hz).lt b e).2,h5 z hz b e⟩⟩,fun b e=>by rw [hw];exact (h2.lt b e).2,fun b e=>by rw [hw];exact (h6.lt b e).2,h6,World.ownsRow_nil _ _ _ _⟩
theorem LtR.next {w0 wr:World} {A B B2 k:Nat} {cs:Array Value} {s:St} {now:Int} {v u lv:Value} (h:LtR w0 A B B2 cs s now v u k lv wr) (hk:k<s.x.F.length) :
  ∃ g cap vk,v=.slice (some ⟨g,0,none⟩) s.x.F.length cap∧(wr.cell? ⟨g,k*2,none⟩=some (.int .u64 (gl s.x.F k).s)∧wr.cell? ⟨g,k*2+1,none⟩=some vk)∧OwnT wr B vk (gl s.x.F k).L∧(B≤g∧g<B2) ∧
  ∀ w7 lv',Kept (fun j=>lv.ownBlock=some j) wr w7→OwnT w7 B2 lv' (ltA now (s.x.F.take (k+1)))→OwnT w7 B vk (gl s.x.F k).L∧Blk w7 A 36 cs∧Blk w7 (A+1) 3 #[.int .i64 now] ∧
  ∀ w8 v',OwnT w8 B v' (kpF now (gl s.x.F k).L)→v'.ownBlock=vk.ownBlock→Kept (fun j=>vk.ownBlock=some j) w7 w8→(w8.cell? ⟨g,k*2+1,none⟩=some vk∧w8.frozen? ⟨g,k*2+1,none⟩=false)∧Blk w8 A 36 cs∧LtR w0 A B B2 cs s now v u (k+1) lv' (w8.setCell ⟨g,k*2+1,none⟩ v'):=by
 obtain ⟨bel,⟨b1,b2,b3⟩,⟨z1,z2,z3⟩,⟨Z,hZ,r,oz,ap,hb⟩,vlt,ult,hrun,hlate⟩:=h
 have lZ:Z.length=s.x.F.length:=by rw [←List.length_map (f:=Prod.fst),hZ,mixK_len (by omega)]
 obtain ⟨vk,hX⟩:=map_fst_get hZ (k:=k) (by rw [mixK_len (by omega)];exact hk)
 rw [mixK_at hk] at hX
 have hm:=List.mem_of_getElem? hX
 obtain ⟨g,cap,cur,e,hB,hblk,hcell,-⟩:=row_put r lZ hX
 have hgB2:g<B2:=vlt g (by rw [e];rfl)
 have ovk:OwnT wr B vk (gl s.x.F k).L:=oz _ hm
 refine ⟨g,cap,vk,e,hcell,ovk,⟨hB,hgB2⟩,fun w7 lv' k7 hl7=>?_⟩
 have lvB:∀ j,lv.ownBlock=some j→B2≤j:=fun j e=>(hlate.lt j e).1
 have hlo:∀ j,B≤j→j<B2→¬ lv.ownBlock=some j:=fun j _ h2 e=>by have:=lvB j e;omega
 have ov7:OwnT w7 B vk (gl s.x.F k).L:=ovk.keptV k7 (fun j e1 e2=>by have:=(hb _ hm j e1).1;have:=lvB j e2;omega)
 refine ⟨ov7,b1.kept k7 (fun e=>by have:=lvB _ e;omega),b2.kept k7 (fun e=>by have:=lvB _ e;omega),fun w8 v' o8 hown k8=>?_⟩
 have vkB:∀ j,vk.ownBlock=some j→B≤j∧j<B2:=fun j e=>⟨(ovk.lt j e).1,(hb _ hm j e).1⟩
 have r7:=ownsRow_kept r k7 (fun j e1 e2=>by have:=vlt j e1;have:=lvB j e2;omega)
 have hgv:vk.ownBlock≠some g:=fun e1=>by
  rcases id ovk.2 with ⟨rfl,-⟩ | ⟨q,cap',cur',rfl,-,hq,-⟩
  ·cases e1
  ·have e1:q=g:=by injection e1
   subst e1
   have:=hblk
   unfold Blk at this
   rw [hq] at this
   injection this with x
   injection x with x1 x2 x3
   cases x2
 have r8:=ownsRow_kept r7 k8 (fun j e1 e2=>by
  have:j=g:=by rw [e] at e1;injection e1 with e1;exact e1.symm
  subst this
  exact hgv e2)
 obtain ⟨g',cap',cur',e',hB',hblk',hcell',PUT⟩:=row_put r8 lZ hX
 obtain rfl:g=g':=by rw [e] at e';injection e' with x1;injection x1 with x1;injection x1
 obtain ⟨P1,P2⟩:=PUT v' ⟨(gl s.x.F k).s,kpF now (gl s.x.F k).L⟩ rfl
 have a8:Blk w8 A 36 cs:=(b1.kept k7 (fun e=>by have:=lvB _ e;omega)).kept k8 (fun e=>by have:=(vkB _ e).1;omega)
 refine ⟨⟨hcell'.2,hblk'.frozen _⟩,a8,?_,⟨a8.kept P2 (by omega),((b2.kept k7 (fun e=>by have:=lvB _ e;omega)).kept k8 (fun e=>by have:=(vkB _ e).1;omega)).kept P2 (by omega),((b3.kept k7 (fun e=>by have:=lvB _ e;omega)).kept k8 (fun e=>by have:=(vkB _ e).1;omega)).kept P2 (by omega)⟩,⟨z1,z2,by have:=k7.size;have:=k8.size;have:=P2.size;omega⟩,⟨Z.set k (⟨(gl s.x.F k).s,kpF now (gl s.x.F k).L⟩,v'),?_,P1,fun z hz=>?_,ap.set hX hown,fun z hz b eb=>?_⟩,vlt,ult,?_,?_⟩
 ·have:=k7.size
  have:=k8.size
  exact ((bel.trans (k7.below (by omega) (fun j e=>by have:=lvB _ e;omega))).trans (k8.below (by omega) (fun j e=>by have:=(vkB _ e).1;omega))).trans (P2.below (by omega) (fun j e=>by omega))
 ·rw [List.map_set,hZ]
  exact mixK_set hk
 ·obtain ⟨j,hj,rfl⟩:=List.mem_iff_getElem.1 hz
  have hj2:(Z.set k (⟨(gl s.x.F k).s,kpF now (gl s.x.F k).L⟩,v'))[j]?=some ((Z.set k (⟨(gl s.x.F k).s,kpF now (gl s.x.F k).L⟩,v'))[j]):=List.getElem?_eq_getElem hj
  rw [List.length_set] at hj
  by_cases c:k=j
  ·subst c
   rw [List.getElem?_set_self hj] at hj2
   injection hj2 with hj2
   rw [←hj2]
   exact o8.other hblk' P2
  ·rw [List.getElem?_set_ne c,List.getElem?_eq_getElem hj] at hj2
   injection hj2 with hj2
   rw [←hj2]
   have hzj:Z[j]?=some Z[j]:=List.getElem?_eq_getElem hj
   have hmj:=List.mem_of_getElem? hzj
   have o7:=(oz _ hmj).keptV k7 (fun q e1 e2=>by have:=(hb _ hmj q e1).1;have:=lvB q e2;omega)
   exact (o7.keptV k8 (fun q e1 e2=>ap.ne hzj hX (Ne.symm c) q e1 e2)).other hblk' P2
 ·rcases List.mem_or_eq_of_mem_set hz with c | c
  ·exact hb z c b eb
  ·rw [c] at eb
   exact hb _ hm b (by rw [←hown];exact eb)
 ·have o7:=hrun.keptV k7 (fun q e1 e2=>by have:=ult q e1;have:=lvB q e2;omega)
  exact (o7.keptV k8 (fun q e1 e2=>(hb _ hm q e2).2 e1)).other hblk' P2
 ·have:=(hl7.keptV k8 (fun q e1 e2=>by have:=(hl7.lt q e1).1;have:=(vkB q e2).2;omega))
  exact this.other hblk' P2
theorem LtR.fin {w0 W:World} {A B B2:Nat} {cs:Array Value} {s:St} {now:Int} {v u lv:Value} (h:LtR w0 A B B2 cs s now v u s.x.F.length lv W):(∃ a c,v=.slice a s.x.F.length c∧StR (fun j=>j<B∨B2≤j) W a c (ltK now s.x.F))∧OwnT W B2 lv (ltA now s.x.F)∧OwnT W B u s.run:=by
 obtain ⟨bel,⟨b1,b2,b3⟩,⟨z1,z2,z3⟩,⟨Z,hZ,ho,hz,ap,hb⟩,vlt,ult,hrun,hlate⟩:=h
 rw [mixK_all] at hZ
 rw [List.take_length] at hlate
 refine ⟨?_,hlate,hrun⟩
 have hn:(ltK now s.x.F).length=s.x.F.length:=ltK_len _ _
 rcases id ho.2 with ⟨rfl,e⟩ | ⟨g,cap,cur,rfl,hB,hg,hc,r⟩
 ·rw [e]
  refine ⟨none,0,rfl,?_⟩
  have:ltK now s.x.F=[]:=List.eq_nil_of_length_eq_zero (by omega)
  rw [this]
  exact StR.nil _ _
 ·refine ⟨some ⟨g,0,none⟩,cap,rfl,(by omega),(fun e=>by cases e),Z,hZ,fun W' k=>⟨fun _=>?_,fun z hzm=>?_⟩⟩
  ·have ho':=ownsRow_kept ho k (fun j e1 e2=>by have:=(ho.lt j e1).1;have:=vlt j e1;omega)
   refine ⟨g,0,rfl,(ho'.lt g rfl).2,fun j u hj=>?_⟩
   have:=ho'.cells rfl j u hj
   rw [Go.WideShapes.add_plain] at this
   exact this
  ·have q:OwnT W' B z.2 z.1.L:=ownsRow_kept (hz z hzm) k (fun j e1 e2=>by have:=((hz z hzm).lt j e1).1;have:=(hb z hzm j e1).1;omega)
   exact q.lz
set_option maxRecDepth 20000 in
theorem ins_none (a:Option Addr) (c:Nat) (f:Value) (w:World):Calls Try.prog 96 #[.slice a 0 c,.int .i64 0,.int .i64 0,f] w fun e w'=>e=.returned (.tuple #[])∧w'=w:=by
 go_enter Try.func96,Try.ntmps96
 go_wp2
 go_loopw [8] (fun i wr=>i=.int .i64 1∧wr=w) (fun _ _=>0)
 case atStart=>exact ⟨rfl,rfl⟩
 case round =>
  obtain ⟨rfl,rfl⟩:=hrel
  go_wp2
  go_end0
  exact ⟨rfl,rfl⟩
set_option maxRecDepth 20000 in
theorem stable_none (a:Option Addr) (c:Nat) (f:Value) (w:World):Calls Try.prog 79 #[.slice a 0 c,.int .i64 0,f] w fun e w'=>e=.returned (.tuple #[])∧w'=w:=by
 have I:=ins_none a c f
 go_enter Try.func79,Try.ntmps79
 go_wp2
 go_loopw [7,8] (fun y z wr=>y=.int .i64 0∧z=.int .i64 20∧wr=w) (fun _ _ _=>0)
 case atStart=>exact ⟨rfl,rfl,rfl⟩
 case round =>
  obtain ⟨rfl,rfl,rfl⟩:=hrel
  go_wp2_with fail
  go_at_call 96
  refine (I wr).mono ?_
  rintro e w2 ⟨rfl,rfl⟩
  go_wp2_with fail
  go_loopw [6] (fun x wr=>x=.int .i64 20∧wr=w2) (fun _ _=>0)
  case atStart=>exact ⟨rfl,rfl⟩
  case round =>
   obtain ⟨rfl,rfl⟩:=hrel
   go_wp2
   go_end0
   exact ⟨rfl,rfl⟩
set_option maxRecDepth 20000 in
theorem sort_none (a:Option Addr) (c:Nat) (w:World):Calls Try.prog 54 #[.slice a 0 c,.func (.func 55) #[] #[]] w fun e w'=>e=.returned (.tuple #[])∧w'=w:=by
 have I:=stable_none a c (.func (.func 55) #[] #[]) w
 go_enter Try.func54,Try.ntmps54
 go_wp2_with (go_at_call 79;refine I.mono ?_;rintro e w2 ⟨rfl,rfl⟩)
 go_end0
 exact ⟨rfl,rfl⟩
def dnO (s:St) (d:Int):Bool:=decide (fnd d s.run<s.run.length)
def dnE (s:St) (d:Int):Int:=if dnO s d=true then 0 else 6
def dnT (s:St) (d:Int):Tk:=drT d s.run
theorem Rw.ts {S:Nat→Prop} {w:World} {g z:Nat} {L:List Tk} (h:Rw w g z L) (hS:¬ S g):TkS S w (some ⟨g,0,none⟩) z L :=
 ⟨h.sl.1,h.sl.2.1,fun _ k=>(h.kept k hS).sl.2.2⟩
set_option maxRecDepth 20000 in
set_option maxHeartbeats 2000000 in
theorem done_none (s:St) (d:Int) (ax:Option Addr) (cx:Nat) (ar:Option Addr) (cr:Nat) (w:World) (S:Nat→Prop) (hr:SlR w ar cr s.run) (hl:s.run.length≤1990) (h:¬ fnd d s.run<s.run.length) :
  Calls Try.prog 24 #[.agg (stB s (.slice ax s.x.F.length cx) (.slice ar s.run.length cr)),.int .i64 d] w fun e w'=>(∃ v,e=.returned (.tuple #[v,.agg #[.int .i64 0,.int .i64 0,.int .i64 0,.int .i64 0,.int .i64 0],.int .i64 6])∧StV S w' sZ v)∧Below w.heap.size w w':=by
 obtain ⟨w2,hw2⟩:∃ w2,w2=((((w.alloc (.cells (stB s (.slice ax s.x.F.length cx) (.slice ar s.run.length cr)) 36)).alloc (.cells #[.int .i64 d] 3)).alloc (.cells zsT 36)).alloc (.cells #[.int .i64 0,.int .i64 0,.int .i64 0,.int .i64 0,.int .i64 0] 42)):=⟨_,rfl⟩
 have BX:=boxes4 w 36 3 36 42 (stB s (.slice ax s.x.F.length cx) (.slice ar s.run.length cr)) #[.int .i64 d] zsT #[.int .i64 0,.int .i64 0,.int .i64 0,.int .i64 0,.int .i64 0]
 rw [←hw2] at BX
 obtain ⟨B,N1,N2,N3,N4⟩:=BX
 have hs2:w2.heap.size=w.heap.size+4:=by rw [hw2];simp
 obtain ⟨A,hA⟩:∃ A,A=w.heap.size:=⟨_,rfl⟩
 have HA:Hd (A=w.heap.size):=⟨hA⟩
 rw [←hA] at B N1 N2 N3 N4 hs2
 have hBw:Below w.heap.size w w2:=by rw [←hA];exact B
 have IX:=indexD_ok ar cr s.run d (A+1) w2 (hr.carry hBw).2.2 (by omega) N2
 obtain ⟨c22,-⟩:=N1.str
 have e1:ixI d s.run=-1:=if_neg h
 rw [e1] at IX
 clear h e1
 have HB:Hd (Below A w w2∧w2.heap.size=A+4∧Blk w2 (A+1+1) 36 (stB sZ (.slice none 0 0) (.slice none 0 0))∧Blk w2 (A+1+1+1) 42 (tkA tkZ)):=⟨B,hs2,N3,N4⟩
 clear N1 N2 N3 N4 B hr hs2 hBw
 generalize s.run.length=m at *
 generalize s.x.F.length=n at *
 go_enter Try.func24,Try.ntmps24
 go_upto_region 1 with fail
 rw [←hw2]
 clear hw2
 rw [←hA]
 clear hA
 go_wp2_with fail
 go_at_call 45
 refine IX.mono ?_
 rintro e w6 ⟨rfl,b6⟩
 clear IX c22
 have H6:Hd (Below A w w6∧Blk w6 (A+1+1) 36 (stB sZ (.slice none 0 0) (.slice none 0 0))∧Blk w6 (A+1+1+1) 42 (tkA tkZ)∧A+4≤w6.heap.size):=⟨HB.out.1.trans (b6.mono (by have:=HB.out.2.1;omega)),HB.out.2.2.1.kept (Kept.of_below b6 (fun _=>False)) id,HB.out.2.2.2.kept (Kept.of_below b6 (fun _=>False)) id,by have:=HB.out.2.1;have:=b6.size;omega⟩
 clear HB b6
 have K9:Hd (∀ w9,Kept (fun j=>j=A+1+1) w6 w9→Blk w9 (A+1+1+1) 42 (tkA tkZ)):=⟨fun w9 k=>H6.out.2.2.1.kept k (by omega)⟩
 go_wp2_with (refine wpl_storeSt rfl _ _ rfl (A+1+1) rfl (stB sZ (.slice none 0 0) (.slice none 0 0)) _ rfl H6.out.2.1 rfl rfl (st_one _ _ _ _ _ _ _) ?_;intro w9 n9 k9;obtain ⟨⟨e0,e1,e2,e3,e4⟩,g0,g1,g2,g3,g4⟩:=Blk.five (K9.out w9 k9))
 obtain ⟨Q1,Q2⟩:=five_set (K9.out w9 k9) tkZ
 refine bodyPost_ret (resSt24 _ _ _ _ rfl rfl rfl rfl (n9.kept Q2 (by omega)) Q1) rfl ?_
 have b9:=H6.out.1.trans (((k9.mono (T:=fun j=>A≤j) (fun j _ e=>by omega)).trans (Q2.mono (fun j _ e=>by omega))).below (by have:=H6.out.2.2.2;omega) (fun j e=>e))
 rw [←HA.out]
 exact ⟨⟨_,rfl,sZ_v S _⟩,b9⟩
set_option maxRecDepth 20000 in
set_option maxHeartbeats 2000000 in
theorem done_some (s:St) (d:Int) (k:Nat) (ax:Option Addr) (cx:Nat) (ar:Option Addr) (cr:Nat) (w:World) (S:Nat→Prop) (hx:StR S w ax cx s.x.F) (hr:SlR w ar cr s.run) (hl:s.run.length≤1990) (hS:∀ j,S j→j<w.heap.size) (hf:Few s.x.F) (hk:k=fnd d s.run) (h:k<s.run.length) :
  Calls Try.prog 24 #[.agg (stB s (.slice ax s.x.F.length cx) (.slice ar s.run.length cr)),.int .i64 d] w fun e w'=>(∃ v,e=.returned (.tuple #[v,.agg #[.int .i64 (dnT s d).id,.int .i64 (dnT s d).wid,.int .i64 (dnT s d).sts,.int .i64 (dnT s d).sin,.int .i64 (dnT s d).unt],.int .i64 0])∧StV S w' { s with run:=drL d s.run } v)∧Below w.heap.size w w':=by
 obtain ⟨b1,o1,rfl,-⟩:=hr.2.2.at h
 obtain ⟨w2,hw2⟩:∃ w2,w2=((((w.alloc (.cells (stB s (.slice ax s.x.F.length cx) (.slice (some ⟨b1,o1,none⟩) s.run.length cr)) 36)).alloc (.cells #[.int .i64 d] 3)).alloc (.cells zsT 36)).alloc (.cells #[.int .i64 0,.int .i64 0,.int .i64 0,.int .i64 0,.int .i64 0] 42)):=⟨_,rfl⟩
 have BX:=boxes4 w 36 3 36 42 (stB s (.slice ax s.x.F.length cx) (.slice (some ⟨b1,o1,none⟩) s.run.length cr)) #[.int .i64 d] zsT #[.int .i64 0,.int .i64 0,.int .i64 0,.int .i64 0,.int .i64 0]
 rw [←hw2] at BX
 obtain ⟨B,N1,N2,N3,N4⟩:=BX
 have hs2:w2.heap.size=w.heap.size+4:=by rw [hw2];simp
 obtain ⟨A,hA⟩:∃ A,A=w.heap.size:=⟨_,rfl⟩
 have HA:Hd (A=w.heap.size):=⟨hA⟩
 rw [←hA] at B N1 N2 N3 N4 hs2
 have hBw:Below w.heap.size w w2:=by rw [←hA];exact B
 have IX:=indexD_ok (some ⟨b1,o1,none⟩) cr s.run d (A+1) w2 (hr.carry hBw).2.2 (by omega) N2
 obtain ⟨c22,-⟩:=N1.str
 have e1:ixI d s.run=(k:Int):=by unfold ixI;rw [←hk,if_pos h]
 rw [e1] at IX
 obtain ⟨z,hz⟩:∃ z,z=gt s.run k:=⟨_,rfl⟩
 have e2:dnT s d=z:=by rw [hz,hk];rfl
 have HDL:Hd ((drL d s.run).length=s.run.length - 1∧drL d s.run=s.run.take k++s.run.drop (k+1)):=⟨by unfold drL;rw [←hk,List.length_append,List.length_take,List.length_drop];omega,by rw [hk];rfl⟩
 rw [e2]
 have HT:Hd (∀ W,Below A w W→W.cell? ⟨b1,o1+k*5,none⟩=some (.int .i64 z.id)∧W.cell? ⟨b1,o1+k*5+1,none⟩=some (.int .i64 z.wid)∧W.cell? ⟨b1,o1+k*5+2,none⟩=some (.int .i64 z.sts)∧W.cell? ⟨b1,o1+k*5+3,none⟩=some (.int .i64 z.sin)∧W.cell? ⟨b1,o1+k*5+4,none⟩=some (.int .i64 z.unt)):=⟨fun W b=>by
  obtain ⟨b2,o2,e,-,r⟩:=(hr.carry (by rw [←hA];exact b)).2.2.at h
  cases e
  rw [hz]
  exact r⟩
 have HCP:Hd (∀ W,Below A w W→Calls Try.prog 39 #[.agg (stB s (.slice ax s.x.F.length cx) (.slice (some ⟨b1,o1,none⟩) s.run.length cr))] W fun e w'=>(∃ v u,e=.returned (.agg (stB s v u))∧StO w' W.heap.size s v u)∧Below W.heap.size W w'):=⟨fun W b=>scopied_ok s ax cx (some ⟨b1,o1,none⟩) cr W ((hx.read (Kept.refl _ _)).carry (by rw [←hA];exact b)) hf (hr.carry (by rw [←hA];exact b)) (by omega)⟩
 have HSZ:Hd (∀ j,S j→j<A):=⟨fun j e=>by rw [hA];exact hS j e⟩
 have HB:Hd (Below A w w2∧w2.heap.size=A+4∧Blk w2 A 36 (stB s (.slice ax s.x.F.length cx) (.slice (some ⟨b1,o1,none⟩) s.run.length cr))∧Blk w2 (A+1+1) 36 (stB sZ (.slice none 0 0) (.slice none 0 0))∧Blk w2 (A+1+1+1) 42 (tkA tkZ)):=⟨B,hs2,N1,N3,N4⟩
 clear N1 N2 N3 N4 B hr hx hf hS hs2 hBw e1 e2 hk hz
 obtain ⟨m,hm⟩:∃ m,m=s.run.length:=⟨_,rfl⟩
 have HMM:Hd (m=s.run.length):=⟨hm⟩
 rw [←hm] at h hl IX HCP HB HDL c22 hw2 ⊢
 clear hm
 have i1:(k:Int)<(m:Int):=by omega
 go_enter Try.func24,Try.ntmps24
 go_upto_region 1 with fail
 rw [←hw2]
 clear hw2
 rw [←hA]
 clear hA
 go_wp2_with fail
 go_at_call 45
 refine IX.mono ?_
 rintro e w3 ⟨rfl,b3⟩
 have B3:Below A w w3:=HB.out.1.trans (b3.mono (by have:=HB.out.2.1;omega))
 have P1:Blk w3 A 36 _:=HB.out.2.2.1.kept (Kept.of_below b3 (fun _=>False)) id
 obtain ⟨d22,-⟩:=P1.str
 obtain ⟨t0,t1,t2,t3,t4⟩:=HT.out w3 B3
 obtain ⟨w4,hw4⟩:∃ w4,w4=w3.alloc (.cells #[.int .i64 z.id,.int .i64 z.wid,.int .i64 z.sts,.int .i64 z.sin,.int .i64 z.unt] 42):=⟨_,rfl⟩
 have B4:Below w3.heap.size w3 w4:=by rw [hw4];exact alloc_below _ _
 have N4:Blk w4 w3.heap.size 42 (tkA z):=by rw [hw4];exact Blk.new _ _ _
 have b24:Below w2.heap.size w2 w4:=b3.trans (B4.mono b3.size)
 have H4:Hd (Below A w w4∧Blk w4 A 36 (stB s (.slice ax s.x.F.length cx) (.slice (some ⟨b1,o1,none⟩) m cr))∧Blk w4 (A+1+1) 36 (stB sZ (.slice none 0 0) (.slice none 0 0))∧Blk w4 (A+1+1+1) 42 (tkA tkZ)∧Blk w4 w3.heap.size 42 (tkA z)∧A+4≤w3.heap.size∧w3.heap.size<w4.heap.size):=⟨B3.trans (B4.mono (by have:=HB.out.2.1;have:=b3.size;omega)),HB.out.2.2.1.kept (Kept.of_below b24 (fun _=>False)) id,HB.out.2.2.2.1.kept (Kept.of_below b24 (fun _=>False)) id,HB.out.2.2.2.2.kept (Kept.of_below b24 (fun _=>False)) id,N4,by have:=HB.out.2.1;have:=b3.size;omega,N4.lt⟩
 have CP:=HCP.out w4 H4.out.1
 clear IX c22 HT HCP HB b3 B3 P1 B4 N4 b24
 go_upto_region 5 with fail
 rw [←hw4]
 clear hw4 d22 t0 t1 t2 t3 t4
 generalize w3.heap.size=g4 at *
 go_wp2_with (refine wpl_loadSt rfl _ rfl A rfl _ H4.out.2.1 rfl ?_)
 go_at_call 39
 refine CP.mono ?_
 rintro e w5 ⟨⟨v5,u5,rfl,o5⟩,b5⟩
 obtain ⟨a5,c5,rfl,s5⟩:=o5.str
 obtain ⟨g,c,rfl,hc,hB,R⟩:=o5.run.rw (by rw [←HMM.out];omega)
 rw [←HMM.out] at hc s5 ⊢
 have K5:Kept (fun _=>False) w4 w5:=Kept.of_below b5 _
 have P5:=H4.out.2.1.kept K5 id
 have H5:Hd (Below A w w5∧Blk w5 (A+1+1) 36 (stB sZ (.slice none 0 0) (.slice none 0 0))∧Blk w5 (A+1+1+1) 42 (tkA tkZ)∧Blk w5 g4 42 (tkA z)∧(A+4≤g4∧g4<g∧g<w5.heap.size∧w4.heap.size≤g)):=⟨H4.out.1.trans (b5.mono (by have:=H4.out.2.2.2.2.2;omega)),H4.out.2.2.1.kept K5 id,H4.out.2.2.2.1.kept K5 id,H4.out.2.2.2.2.1.kept K5 id,by have:=H4.out.2.2.2.2.2;have:=R.lt;omega⟩
 have HS5:Hd (StR (fun j=>j=g∨j<w4.heap.size) w5 a5 c5 s.x.F):=⟨s5.stp (Kept.refl _ _) (fun j _ e=>e.imp (fun e=>by rw [e];rfl) id)⟩
 have HR:Hd (Rw w5 g c s.run):=⟨R⟩
 have HA4:Hd (A+4≤w4.heap.size):=⟨by have:=H4.out.2.2.2.2.2;omega⟩
 clear CP o5 s5 b5 K5 H4 R hB
 go_upto_region 6 with (refine wpl_storeSt rfl _ _ rfl A rfl (stB s (.slice a5 s.x.F.length c5) (.slice (some ⟨g,0,none⟩) m c)) _ rfl P5 rfl rfl (st_one _ _ _ _ _ _ _) ?_;intro w6 n6 k6)
 have R6:=HR.out.kept k6 (by have:=H5.out.2.2.2.2;omega)
 have DE:=delete_ok g k m c s.run w6 R6 HMM.out.symm h (by omega) hc.1 hc.2
 obtain ⟨c22,-⟩:=n6.str
 clear P5 HR R6
 go_wp2_with fail
 go_at_call 47
 refine DE.mono ?_
 rintro e w7 ⟨rfl,R7,k7⟩
 have hg:=H5.out.2.2.2.2
 have P7:=n6.kept k7 (by omega)
 obtain ⟨d22,f22⟩:=P7.str
 rw [←HDL.out.2] at R7
 obtain ⟨q,hq⟩:∃ q,q=m - 1:=⟨_,rfl⟩
 have HQ:Hd (q=(drL d s.run).length):=⟨by rw [HDL.out.1,hq]⟩
 rw [←hq]
 clear hq
 obtain ⟨Q8,K8⟩:=st_run P7 (drL d s.run) (.slice (some ⟨g,0,none⟩) q c)
 have T8:Hd (Blk (w7.setCell ⟨A,22,none⟩ (.slice (some ⟨g,0,none⟩) q c)) A 36 (stB { s with run:=drL d s.run } (.slice a5 s.x.F.length c5) (.slice (some ⟨g,0,none⟩) q c))∧Blk (w7.setCell ⟨A,22,none⟩ (.slice (some ⟨g,0,none⟩) q c)) g4 42 (tkA z)):=⟨Q8,((H5.out.2.2.2.1.kept k6 (by omega)).kept k7 (by omega)).kept K8 (by omega)⟩
 have M8:Hd (Blk (w7.setCell ⟨A,22,none⟩ (.slice (some ⟨g,0,none⟩) q c)) (A+1+1) 36 (stB sZ (.slice none 0 0) (.slice none 0 0))∧Blk (w7.setCell ⟨A,22,none⟩ (.slice (some ⟨g,0,none⟩) q c)) (A+1+1+1) 42 (tkA tkZ)):=⟨((H5.out.2.1.kept k6 (by omega)).kept k7 (by omega)).kept K8 (by omega),((H5.out.2.2.1.kept k6 (by omega)).kept k7 (by omega)).kept K8 (by omega)⟩
 have HE:Hd (∀ w9,Kept (fun j=>j=A+1+1∨j=A+1+1+1) (w7.setCell ⟨A,22,none⟩ (.slice (some ⟨g,0,none⟩) q c)) w9→StV S w9 { s with run:=drL d s.run } (.agg (stB { s with run:=drL d s.run } (.slice a5 s.x.F.length c5) (.slice (some ⟨g,0,none⟩) q c)))∧Below A w w9):=⟨fun w9 k9=>by
  have h4:=HA4.out
  have hq:=HQ.out
  subst hq
  have kk:=(((k6.mono (T:=fun j=>j=g∨j<w4.heap.size) (fun j _ e=>.inr (by omega))).trans (k7.mono (fun j _ e=>.inl e))).trans (K8.mono (fun j _ e=>.inr (by omega)))).trans (k9.mono (fun j _ e=>.inr (by omega)))
  have kb:=(((k6.mono (T:=fun j=>A≤j) (fun j _ e=>by omega)).trans (k7.mono (fun j _ e=>by omega))).trans (K8.mono (fun j _ e=>by omega))).trans (k9.mono (fun j _ e=>by omega))
  refine ⟨⟨a5,c5,some ⟨g,0,none⟩,c,rfl,HS5.out.stp kk (T:=S) (fun j _ e=>.inr (by have:=HSZ.out j e;omega)),?_⟩,H5.out.1.trans (kb.below (by omega) (fun j e=>e))⟩
  exact Rw.ts ((R7.kept K8 (by omega)).kept k9 (by omega)) (fun e=>by have:=HSZ.out g e;omega)⟩
 have HG:Hd (A+4≤g4):=⟨by omega⟩
 clear DE c22 n6 k6 R7 k7 hg P7 Q8 K8 H5 HS5 HA4
 go_upto_region 7 with fail
 clear d22 f22
 generalize w7.setCell ⟨A,22,none⟩ (.slice (some ⟨g,0,none⟩) q c)=w8 at *
 have T9:Blk w8.drew A 36 (stB { s with run:=drL d s.run } (.slice a5 s.x.F.length c5) (.slice (some ⟨g,0,none⟩) q c))∧Blk w8.drew g4 42 (tkA z):=T8.out
 have M9:Blk w8.drew (A+1+1) 36 (stB sZ (.slice none 0 0) (.slice none 0 0))∧Blk w8.drew (A+1+1+1) 42 (tkA tkZ):=M8.out
 have HE9:Hd (∀ w9,Kept (fun j=>j=A+1+1∨j=A+1+1+1) w8.drew w9→StV S w9 { s with run:=drL d s.run } (.agg (stB { s with run:=drL d s.run } (.slice a5 s.x.F.length c5) (.slice (some ⟨g,0,none⟩) q c)))∧Below A w w9):=⟨fun w9 k9=>HE.out w9 ((Kept.of_below (Below.refl _ _).drew _).trans k9)⟩
 clear T8 M8 HE
 refine AnyG.start (T:=fun W=>Blk W A 36 (stB { s with run:=drL d s.run } (.slice a5 s.x.F.length c5) (.slice (some ⟨g,0,none⟩) q c))∧Blk W g4 42 (tkA z)) (U:=fun _=>True) (j0:=4) (by kernel_rfl) ?_
 generalize w8.drew=w8 at *
 refine .tq (v:=.agg (stB { s with run:=drL d s.run } (.slice a5 s.x.F.length c5) (.slice (some ⟨g,0,none⟩) q c))) 0 31 T9 ?_ (hy:=fun w hSw=>exec_loadSt _ rfl A rfl _ hSw.1 rfl);simp only [oqA,oqB,oqC]
 refine .tq (v:=.agg #[.int .i64 z.id,.int .i64 z.wid,.int .i64 z.sts,.int .i64 z.sin,.int .i64 z.unt]) 1 32 T9 ?_ (hy:=fun w hSw=>by obtain ⟨c0,c1,c2,c3,c4⟩:=(Blk.five hSw.2).1;go_simp);simp only [oqA,oqB,oqC]
 refine AnyG.ready (rs:=[2]) (by kernel_rfl) (by simp) ?_
 refine AllG.cons rfl (fun K hK=>?_) AllG.nil
 refine step_storeSt rfl _ _ rfl (A+1+1) rfl (stB { s with run:=drL d s.run } (.slice a5 s.x.F.length c5) (.slice (some ⟨g,0,none⟩) q c)) _ rfl M9.1 rfl rfl (st_one _ _ _ _ _ _ _) ?_
 intro w9 n9 k9
 have U9:=And.intro (T9.1.kept k9 (by omega)) (T9.2.kept k9 (by have:=HG.out;omega))
 have P9:=M9.2.kept k9 (by omega)
 refine hK.out _ _ ⟨U9,fun _=>trivial⟩ ?_
 clear hK K T9 M9
 refine AnyG.ready (rs:=[3]) (by kernel_rfl) (by simp) ?_
 refine AllG.cons rfl (fun K hK=>?_) AllG.nil
 obtain ⟨⟨e0,e1,e2,e3,e4⟩,g0,g1,g2,g3,g5⟩:=Blk.five P9
 go_simp
 obtain ⟨Q1,Q2⟩:=five_set P9 z
 have U10:=And.intro (U9.1.kept Q2 (by omega)) (U9.2.kept Q2 (by have:=HG.out;omega))
 refine hK.out _ _ ⟨U10,fun _=>trivial⟩ ?_
 clear hK K
 refine AnyG.ready (rs:=[4]) (by kernel_rfl) (by simp) ?_
 refine AllG.cons rfl (fun K hK=>?_) AllG.nil
 go_simp
 refine hK.out _ _ ⟨U10,fun _=>trivial⟩ ?_
 refine AnyG.done (by kernel_rfl) ?_ _
 have n10:=n9.kept Q2 (by omega)
 obtain ⟨o9,b9⟩:=HE9.out _ ((k9.mono (T:=fun j=>j=A+1+1∨j=A+1+1+1) (fun j _ e=>.inl e)).trans (Q2.mono (fun j _ e=>.inr e)))
 clear hK K U9 U10 P9 e0 e1 e2 e3 e4 g0 g1 g2 g3 g5
 generalize (((((w9.setCell ⟨A+1+1+1,0,none⟩ (.int .i64 z.id)).setCell ⟨A+1+1+1,1,none⟩ (.int .i64 z.wid)).setCell ⟨A+1+1+1,2,none⟩ (.int .i64 z.sts)).setCell ⟨A+1+1+1,3,none⟩ (.int .i64 z.sin)).setCell ⟨A+1+1+1,4,none⟩ (.int .i64 z.unt))=w10 at *
 go_wp2_with fail
 refine bodyPost_ret (resSt24 _ _ _ _ rfl rfl rfl rfl n10 Q1) rfl ?_
 rw [←HA.out]
 exact ⟨⟨_,rfl,o9⟩,b9⟩
theorem done_st (s:St) (d:Int) (ax:Option Addr) (cx:Nat) (ar:Option Addr) (cr:Nat) (w:World) (S:Nat→Prop) (hx:StR S w ax cx s.x.F) (hr:SlR w ar cr s.run) (hl:s.run.length≤1990) (hS:∀ j,S j→j<w.heap.size) (hf:Few s.x.F) :
  Calls Try.prog 24 #[.agg (stB s (.slice ax s.x.F.length cx) (.slice ar s.run.length cr)),.int .i64 d] w fun e w'=>(∃ v,e=.returned (.tuple #[v,.agg #[.int .i64 (dnT s d).id,.int .i64 (dnT s d).wid,.int .i64 (dnT s d).sts,.int .i64 (dnT s d).sin,.int .i64 (dnT s d).unt],.int .i64 (dnE s d)])∧StV S w' (orZ (dnE s d) { s with run:=drL d s.run }) v)∧Below w.heap.size w w':=by
 by_cases h:fnd d s.run<s.run.length
 ·have e:dnE s d=0:=if_pos (decide_eq_true h)
  rw [e,orZ_yes]
  exact done_some s d _ ax cx ar cr w S hx hr hl hS hf rfl h
 ·have e:dnE s d=6:=if_neg (by unfold dnO;rw [decide_eq_false h];decide)
  have e2:dnT s d=tkZ:=drT_no h
  rw [e,orZ_no (by decide),e2]
  exact done_none s d ax cx ar cr w S hr hl h
def MvD (S:Nat→Prop) (A B:Nat) (u tv:Value) (j:Nat):Prop:=S j∨(A≤j∧j<B)∨u.ownBlock=some j∨tv.ownBlock=some j
structure D8 (w0:World) (S:Nat→Prop) (A B:Nat) (cs:Array Value) (F:List Ln) (a7:Option Addr) (c7:Nat) (R K:List Tk) (u tv:Value) (W:World):Prop where
 bel:Below A w0 W
 lA:A+2≤B
 hB:B≤W.heap.size
 box:Blk W A 36 cs
 zero:Blk W (A+1) 36 (stB sZ (.slice none 0 0) (.slice none 0 0))
 lanes:StR (MvD S A B u tv) W a7 c7 F
 run:OwnT W B u R
 tak:OwnT W B tv K
 ap:∀ j,u.ownBlock=some j→tv.ownBlock=some j→False
section
variable {w0 W W':World} {S:Nat→Prop} {A B:Nat} {cs:Array Value} {F:List Ln} {a7:Option Addr} {c7:Nat} {R K:List Tk} {u tv:Value}
theorem D8.mv (h:D8 w0 S A B cs F a7 c7 R K u tv W) (hS:∀ j,S j→j<A):∀ j,MvD S A B u tv j→j<W.heap.size:=fun j e=>by
 have h1:=h.lA
 have h2:=h.hB
 rcases e with e | e | e | e
 ·have:=hS j e;omega
 ·omega
 ·exact (h.run.lt j e).2
 ·exact (h.tak.lt j e).2
theorem D8.carry (h:D8 w0 S A B cs F a7 c7 R K u tv W) (b:Below W.heap.size W W'):D8 w0 S A B cs F a7 c7 R K u tv W':=by
 have h1:=h.lA
 have h2:=h.hB
 have k:Kept (fun _=>False) W W':=Kept.of_below b _
 exact ⟨h.bel.trans (b.mono (by omega)),h1,Nat.le_trans h2 b.size,h.box.kept k id,h.zero.kept k id,h.lanes.high b (fun _ _ e=>e),h.run.keptV k (fun _ _ e=>e),h.tak.keptV k (fun _ _ e=>e),h.ap⟩
theorem D8.pushU (h:D8 w0 S A B cs F a7 c7 R K u tv W) {t:Tk} {g n cap:Nat} (ho:OwnT W' B (.slice (some ⟨g,0,none⟩) n cap) (R ++ [t])) (gr:W.grownBy W' u.ownBlock) (hg:u.ownBlock=some g∨g=W.heap.size):D8 w0 S A B cs F a7 c7 (R ++ [t]) K (.slice (some ⟨g,0,none⟩) n cap) tv W':=by
 have h1:=h.lA
 have h2:=h.hB
 have k:Kept (fun j=>u.ownBlock=some j) W W':=Kept.of_grown gr (fun _ e=>e)
 have hlo:∀ j,u.ownBlock=some j→B≤j:=fun j e=>(h.run.lt j e).1
 refine ⟨h.bel.trans (k.below (by omega) (fun j e=>by have:=hlo j e;omega)),h1,Nat.le_trans h2 k.size,h.box.kept k (fun e=>by have:=hlo _ e;omega),h.zero.kept k (fun e=>by have:=hlo _ e;omega),h.lanes.stp (k.mono (fun j _ e=>.inr (.inr (.inl e)))) (fun j hj e=>?_),ho,h.tak.keptV k (fun j e1 e2=>h.ap j e2 e1),fun j e1 e2=>?_⟩
 ·rcases e with e | e | e | e
  ·exact .inl e
  ·exact .inr (.inl e)
  ·have e:g=j:=by injection e
   subst e
   rcases hg with c | c
   ·exact .inr (.inr (.inl c))
   ·omega
  ·exact .inr (.inr (.inr e))
 ·have e1:g=j:=by injection e1
  subst e1
  rcases hg with c | c
  ·exact h.ap g c e2
  ·have:=(h.tak.lt g e2).2
   omega
theorem D8.pushT (h:D8 w0 S A B cs F a7 c7 R K u tv W) {t:Tk} {g n cap:Nat} (ho:OwnT W' B (.slice (some ⟨g,0,none⟩) n cap) (K ++ [t])) (gr:W.grownBy W' tv.ownBlock) (hg:tv.ownBlock=some g∨g=W.heap.size):D8 w0 S A B cs F a7 c7 R (K ++ [t]) u (.slice (some ⟨g,0,none⟩) n cap) W':=by
 have h1:=h.lA
 have h2:=h.hB
 have k:Kept (fun j=>tv.ownBlock=some j) W W':=Kept.of_grown gr (fun _ e=>e)
 have hlo:∀ j,tv.ownBlock=some j→B≤j:=fun j e=>(h.tak.lt j e).1
 refine ⟨h.bel.trans (k.below (by omega) (fun j e=>by have:=hlo j e;omega)),h1,Nat.le_trans h2 k.size,h.box.kept k (fun e=>by have:=hlo _ e;omega),h.zero.kept k (fun e=>by have:=hlo _ e;omega),h.lanes.stp (k.mono (fun j _ e=>.inr (.inr (.inr e)))) (fun j hj e=>?_),h.run.keptV k (fun j e1 e2=>h.ap j e1 e2),ho,fun j e1 e2=>?_⟩
 ·rcases e with e | e | e | e
  ·exact .inl e
  ·exact .inr (.inl e)
  ·exact .inr (.inr (.inl e))
  ·have e:g=j:=by injection e
   subst e
   rcases hg with c | c
   ·exact .inr (.inr (.inr c))
   ·omega
 ·have e2:g=j:=by injection e2
  subst e2
  rcases hg with c | c
  ·exact h.ap g e1 c
  ·have:=(h.run.lt g e1).2
   omega
theorem D8.put (h:D8 w0 S A B cs F a7 c7 R K u tv W) {ds:Array Value} (k:Kept (fun j=>j=A) W W') (hb:Blk W' A 36 ds):D8 w0 S A B ds F a7 c7 R K u tv W':=by
 have h1:=h.lA
 have h2:=h.hB
 exact ⟨h.bel.trans (k.below (by omega) (fun j e=>by omega)),h1,Nat.le_trans h2 k.size,hb,h.zero.kept k (by omega),h.lanes.stp (k.mono (fun j _ e=>.inr (.inl (by omega)))) (fun _ _ e=>e),h.run.keptV k (fun j e1 e2=>by have:=(h.run.lt j e1).1;omega),h.tak.keptV k (fun j e1 e2=>by have:=(h.tak.lt j e1).1;omega),h.ap⟩
theorem D8.turn (h:D8 w0 S A B cs F a7 c7 R K u tv W) {G:List Ln} {a9:Option Addr} {c9:Nat} (hl:StR (MvD S A B u tv) W a9 c9 G):D8 w0 S A B cs G a9 c9 R K u tv W:=⟨h.bel,h.lA,h.hB,h.box,h.zero,hl,h.run,h.tak,h.ap⟩
end
structure DsI (w0:World) (S:Nat→Prop) (A B:Nat) (s0 s:St) (L:List Tk) (tv:Value) (W:World):Prop where
 mem:∃ a c u,D8 w0 S A B (stB s (.slice a s.x.F.length c) u) s.x.F a c s.run L u tv W
 ev:dsR (dsN s) s L=dsA s0
 few:Few s.x.F
 cnt:(allT s).length≤1800
 num:L.length≤s.run.length
end Go.Proofs.Ytlgibnmoogbdcaa
