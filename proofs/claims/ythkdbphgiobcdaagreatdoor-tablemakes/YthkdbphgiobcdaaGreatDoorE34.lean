/-
  The reference of layers 8 and 10 (BxL).
  The reference of layers 8 and 10 (RfL0).
-/
import Derived.Test.YthkdbphgiobcdaaGreatDoorE32
import Derived.Test.YthkdbphgiobcdaaGreatDoorE30
import Derived.Test.YthkdbphgiobcdaaGreatDoorE8
import Derived.Test.YthkdbphgiobcdaaGreatDoorE31
import Derived.Deep.CutBlock
namespace Go.Proofs.YthkdbphgiobcdaaGreatDoor
open Go
theorem lvC_ones (l:Lv):∀ u∈lvC l,u.oneCell'=true:=by
 intro u hu
 simp only [lvC,List.mem_cons,List.not_mem_nil,or_false] at hu
 rcases hu with rfl | rfl | rfl | rfl | rfl | rfl | rfl | rfl | rfl | rfl <;> rfl
theorem lvCs_ones:∀ (L:List Lv),∀ u∈lvCs L,u.oneCell'=true
 | [],u,hu=>by simp [lvCs] at hu
 | l :: r,u,hu=>by
  simp only [lvCs,List.mem_append] at hu
  rcases hu with hu | hu
  ·exact lvC_ones l u hu
  ·exact lvCs_ones r u hu
theorem Bx.lv {B:Nat} {w w8:World} {C:Cf} {vL vS v':Value} {V:List Value} {l:Lv} (h:Bx B w w8 C vL vS V)
  (hown:w8.ownsRow B 43 10 v' (C.levels.length+1) (lvCs C.levels++lvC l)) :
  Bx B w (w8.setCell ⟨w.heap.size,4,none⟩ v') ⟨C.total,C.period,C.perSeat,C.most,C.levels ++ [l],C.schemas⟩ v' vS V:=by
 have k9:Kept (fun k=>k=w.heap.size) w8 (w8.setCell ⟨w.heap.size,4,none⟩ v'):=(Kept.refl (fun k=>k=w.heap.size) w8).setCell ⟨w.heap.size,4,none⟩ v' (.inl rfl)
 refine ⟨h.bel.trans (k9.below h.bel.size (fun j hj=>by omega)),h.c.set 4 _,h.r.kept k9 (by omega),?_,h.s.off k9 (off_blkR h.c (by decide)) (off_blkR h.c (by decide)) (off_blkR h.c (by decide))⟩
 have e:lvCs (C.levels ++ [l])=lvCs C.levels++lvC l:=by rw [lvCs_append];simp [lvCs]
 unfold LvOwn
 dsimp only
 rw [e,List.length_append]
 exact owns_offR hown k9 (off_blkR h.c (by decide))
theorem hasLv_yes {C:Cf} {x:ByteArray} {j:Nat} (h:j<C.levels.length) (e:C.levels[j].name=x):hasLv C x=true :=
 List.any_eq_true.2 ⟨C.levels[j],List.getElem_mem h,by simp [e]⟩
theorem hasLv_no {C:Cf} {x:ByteArray} (h:∀ q (h:q<C.levels.length),C.levels[q].name≠x):hasLv C x=false:=by
 cases hb:hasLv C x with
 | false=>rfl
 | true =>
  obtain ⟨s,hs,e⟩:=List.any_eq_true.1 hb
  obtain ⟨q,hq,rfl⟩:=List.getElem_of_mem hs
  exact absurd (of_decide_eq_true e) (h q hq)
end Go.Proofs.YthkdbphgiobcdaaGreatDoor

namespace Go.Proofs.YthkdbphgiobcdaaGreatDoor
open Go.RowKit Go.Lib
theorem lit_is {x:ByteArray} {l:List UInt8} (h:x=mk l):(x.toList == l)=true:=by
 rw [ByteArray.toList_eq,h,mk_list];simp
theorem lit_isnt {x:ByteArray} {l:List UInt8} (h:x≠mk l):(x.toList == l)=false:=by
 have:=str_ne h
 rw [ByteArray.toList_eq (mk l),mk_list] at this
 exact this
def lv0 (k:Int):Lv:=⟨⟨#[]⟩,k,0,0,0,0,0,0,0,0⟩
structure Lx (B:Nat) (w wr:World) (C:Cf) (vL vS:Value) (V:List Value) (l:Lv):Prop where
 x:Bx B w wr C vL vS V
 q:Blk wr (w.heap.size+1+1) 43 (lvA l)
 lo:∀ g,vL.ownBlock=some g→g<w.heap.size
theorem Lx.start {B:Nat} {w:World} {C:Cf} {vL vS:Value} {V:List Value} (hL:LvOwn B w vL C.levels) (hS:ScOwn B w vS C.schemas V) :
  Lx B w (((w.alloc (.cells #[.int .i64 C.total,.int .i64 C.period,.int .i64 C.perSeat,.int .i64 C.most,vL,vS] 25)).alloc (.cells #[.int .i64 0,.int .i64 0,.int .i64 0,.int .i64 0,.slice none 0 0,.slice none 0 0] 25)).alloc (.cells (lvA (lv0 0)) 43)) C vL vS V (lv0 0):=by
 have h:=Bx.start (w:=w) hL hS
 refine ⟨h.grown ((Below.refl _ _).alloc (Nat.le_refl _) _),?_,fun g hg=>(World.ownsRow.lt hL g hg).2⟩
 have:=Blk.new ((w.alloc (.cells #[.int .i64 C.total,.int .i64 C.period,.int .i64 C.perSeat,.int .i64 C.most,vL,vS] 25)).alloc (.cells #[.int .i64 0,.int .i64 0,.int .i64 0,.int .i64 0,.slice none 0 0,.slice none 0 0] 25)) 43 (lvA (lv0 0))
 simpa using this
theorem Lx.grown {B:Nat} {w wr w':World} {C:Cf} {vL vS:Value} {V:List Value} {l:Lv} (h:Lx B w wr C vL vS V l) (b:Below wr.heap.size wr w'):Lx B w w' C vL vS V l :=
 ⟨h.x.grown b,h.q.kept (Kept.of_below b (fun _=>False)) id,h.lo⟩
theorem Lx.set {B:Nat} {w wr:World} {C:Cf} {vL vS:Value} {V:List Value} {l:Lv} (h:Lx B w wr C vL vS V l) (i:Nat) (v:Value) (l':Lv) (e:(lvA l).setIfInBounds i v=lvA l'):Lx B w (wr.setCell ⟨w.heap.size+1+1,i,none⟩ v) C vL vS V l':=by
 have k:Kept (fun k=>k=w.heap.size+1+1) wr (wr.setCell ⟨w.heap.size+1+1,i,none⟩ v):=(Kept.refl (fun k=>k=w.heap.size+1+1) wr).setCell ⟨w.heap.size+1+1,i,none⟩ v (.inl rfl)
 refine ⟨⟨h.x.bel.trans (k.below h.x.bel.size (fun j hj=>by omega)),h.x.c.kept k (by omega),h.x.r.kept k (by omega),owns_kept h.x.l k (fun g hg=>by have:=h.lo g hg;omega),h.x.s.off k (off_blkR h.q (by decide)) (off_blkR h.q (by decide)) (off_blkR h.q (by decide))⟩,?_,h.lo⟩
 rw [←e]
 exact h.q.set i v
def mo5:Nat→Int
 | 0=>64
 | 1=>8
 | 2=>64
 | 3=>1000
 | _=>1000
def nv (ws:List ByteArray) (n k:Nat):Value:=.int .i64 (if k<n then numOf (gt ws (5+k)) 1 (mo5 k) else 0)
def nvA (ws:List ByteArray) (n:Nat):Array Value:=#[nv ws n 0,nv ws n 1,nv ws n 2,nv ws n 3,nv ws n 4]
theorem nvA_set (ws:List ByteArray) (n:Nat) (h:n<5):(nvA ws n).setIfInBounds n (.int .i64 (numOf (gt ws (5+n)) 1 (mo5 n)))=nvA ws (n+1):=by
 match n,h with
 | 0,_=>simp [nvA,nv]
 | 1,_=>simp [nvA,nv]
 | 2,_=>simp [nvA,nv]
 | 3,_=>simp [nvA,nv]
 | 4,_=>simp [nvA,nv]
theorem nvA_at (ws:List ByteArray) (n:Nat) (h:n<5):(nvA ws n)[n]?=some (.int .i64 0):=by
 match n,h with
 | 0,_=>simp [nvA,nv]
 | 1,_=>simp [nvA,nv]
 | 2,_=>simp [nvA,nv]
 | 3,_=>simp [nvA,nv]
 | 4,_=>simp [nvA,nv]
def moA:Array Value:=#[.int .i64 64,.int .i64 8,.int .i64 64,.int .i64 1000,.int .i64 1000]
theorem moA_at (n:Nat) (h:n<5):moA[n]?=some (.int .i64 (mo5 n)):=by
 match n,h with
 | 0,_=>rfl
 | 1,_=>rfl
 | 2,_=>rfl
 | 3,_=>rfl
 | 4,_=>rfl
theorem queue_bad {ws:List ByteArray} {k:Nat} (hk:k<5) (h:numIn (gt ws (5+k)) 1 (mo5 k)=false):queueE ws 0=8:=by
 have key:∀ (e x:Int) (b:Bool),(e=0∨e=8)→(mu e (ifE b 8)=0∨mu e (ifE b 8)=8)∧(e=8→mu e (ifE b 8)=8)∧(b=false→mu e (ifE b 8)=8):=by
  intro e x b he
  rcases he with rfl | rfl <;> cases b <;> simp [mu,ifE]
 unfold queueE
 have k1:=key 0 0 (numIn (gt ws 5) 1 64) (.inl rfl)
 have k2:=key _ 0 (numIn (gt ws 6) 1 8) k1.1
 have k3:=key _ 0 (numIn (gt ws 7) 1 64) k2.1
 have k4:=key _ 0 (numIn (gt ws 8) 1 1000) k3.1
 have k5:=key _ 0 (numIn (gt ws 9) 1 1000) k4.1
 match k,hk,h with
 | 0,_,h=>exact k5.2.1 (k4.2.1 (k3.2.1 (k2.2.1 (k1.2.2 h))))
 | 1,_,h=>exact k5.2.1 (k4.2.1 (k3.2.1 (k2.2.2 h)))
 | 2,_,h=>exact k5.2.1 (k4.2.1 (k3.2.2 h))
 | 3,_,h=>exact k5.2.1 (k4.2.2 h)
 | 4,_,h=>exact k5.2.2 h
structure L5 (B:Nat) (w wr:World) (C:Cf) (vL vS:Value) (V:List Value) (l:Lv) (g:Nat) (ws:List ByteArray) (k:Nat):Prop where
 lx:Lx B w wr C vL vS V l
 a1:Blk wr g 205 (nvA ws k)
 a2:Blk wr (g+1) 205 moA
 le:w.heap.size≤g
 ok:∀ j,j<k→numIn (gt ws (5+j)) 1 (mo5 j)=true
theorem L5.grown {B:Nat} {w wr w':World} {C:Cf} {vL vS:Value} {V:List Value} {l:Lv} {g:Nat} {ws:List ByteArray} {k:Nat} (h:L5 B w wr C vL vS V l g ws k) (b:Below wr.heap.size wr w'):L5 B w w' C vL vS V l g ws k :=
 ⟨h.lx.grown b,h.a1.kept (Kept.of_below b (fun _=>False)) id,h.a2.kept (Kept.of_below b (fun _=>False)) id,h.le,h.ok⟩
theorem Lx.far {B:Nat} {w wr:World} {C:Cf} {vL vS:Value} {V:List Value} {l:Lv} (h:Lx B w wr C vL vS V l) {g:Nat} {cs:Array Value} (hg:Blk wr g 205 cs) (hw:w.heap.size≤g) (i:Nat) (v:Value):Lx B w (wr.setCell ⟨g,i,none⟩ v) C vL vS V l:=by
 have k:Kept (fun k=>k=g) wr (wr.setCell ⟨g,i,none⟩ v):=(Kept.refl (fun k=>k=g) wr).setCell ⟨g,i,none⟩ v (.inl rfl)
 have o:∀ t,205≠t→OffR t (fun k=>k=g) wr:=fun t ht=>off_blkR hg ht
 exact ⟨⟨h.x.bel.trans (k.below h.x.bel.size (fun j hj=>by omega)),h.x.c.off k (o 25 (by decide)),h.x.r.off k (o 25 (by decide)),h.x.l.off k (o 43 (by decide)),h.x.s.off k (o 9 (by decide)) (o 47 (by decide)) (o 54 (by decide))⟩,h.q.off k (o 43 (by decide)),h.lo⟩
theorem L5.next {B:Nat} {w wr:World} {C:Cf} {vL vS:Value} {V:List Value} {l:Lv} {g:Nat} {ws:List ByteArray} {k:Nat} (h:L5 B w wr C vL vS V l g ws k) (hk:k<5) (hn:numIn (gt ws (5+k)) 1 (mo5 k)=true) :
  L5 B w (wr.setCell ⟨g,k,none⟩ (.int .i64 (numOf (gt ws (5+k)) 1 (mo5 k)))) C vL vS V l g ws (k+1):=by
 refine ⟨h.lx.far h.a1 h.le _ _,?_,h.a2.other (by show g+1≠g;omega) _,h.le,fun j hj=>?_⟩
 ·rw [←nvA_set ws k hk]
  exact h.a1.set k _
 ·rcases Nat.lt_or_eq_of_le (Nat.le_of_lt_succ hj) with h' | h'
  ·exact h.ok j h'
  ·subst h';exact hn
theorem Lx.five {B:Nat} {w wr:World} {C:Cf} {vL vS:Value} {V:List Value} {l:Lv} (h:Lx B w wr C vL vS V l) (ws:List ByteArray) :
  L5 B w ((wr.alloc (.cells #[.int .i64 0,.int .i64 0,.int .i64 0,.int .i64 0,.int .i64 0] 205)).alloc (.cells #[.int .i64 64,.int .i64 8,.int .i64 64,.int .i64 1000,.int .i64 1000] 205)) C vL vS V l wr.heap.size ws 0:=by
 have b1:Below wr.heap.size wr (wr.alloc (.cells #[.int .i64 0,.int .i64 0,.int .i64 0,.int .i64 0,.int .i64 0] 205)):=(Below.refl _ _).alloc (Nat.le_refl _) _
 have b2:Below (wr.alloc (.cells #[.int .i64 0,.int .i64 0,.int .i64 0,.int .i64 0,.int .i64 0] 205)).heap.size (wr.alloc (.cells #[.int .i64 0,.int .i64 0,.int .i64 0,.int .i64 0,.int .i64 0] 205)) ((wr.alloc (.cells #[.int .i64 0,.int .i64 0,.int .i64 0,.int .i64 0,.int .i64 0] 205)).alloc (.cells moA 205)):=(Below.refl _ _).alloc (Nat.le_refl _) _
 have n1:=(Blk.new wr 205 #[.int .i64 0,.int .i64 0,.int .i64 0,.int .i64 0,.int .i64 0]).kept (Kept.of_below b2 (fun _=>False)) id
 have n2:=Blk.new (wr.alloc (.cells #[.int .i64 0,.int .i64 0,.int .i64 0,.int .i64 0,.int .i64 0] 205)) 205 moA
 have e2:(wr.alloc (.cells #[.int .i64 0,.int .i64 0,.int .i64 0,.int .i64 0,.int .i64 0] 205)).heap.size=wr.heap.size+1:=by simp
 rw [e2] at n2
 exact ⟨(h.grown b1).grown b2,n1,n2,h.x.bel.size,fun j hj=>absurd hj (Nat.not_lt_zero _)⟩
theorem level_queue {ws:List ByteArray} (k:kindW ws=3) (hn:isName (gt ws 0)=true) (h1:numIn (gt ws 1) 0 10000=true) (h2:numIn (gt ws 2) 0 100=true) (h3:borrowOk (gt ws 3)=true):levelW ws=queueE ws 0:=by
 unfold levelW numsE
 rw [k,hn,h1,h2,h3]
 rfl
end Go.Proofs.YthkdbphgiobcdaaGreatDoor
