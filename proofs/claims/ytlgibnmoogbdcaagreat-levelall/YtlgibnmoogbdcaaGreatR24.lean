/-
  The first one of an ID, the first one that is late, by the program (slices.IndexFunc).
  The mathematics of a stable sort in place: what a part of a row may become, exchanges, rotations, parts that are in order.
  A row of tickets in a block that may be written; two of its parts exchanged (slices.swapRangeCmpFunc); numbers compared.
-/
import Derived.Test.YtlgibnmoogbdcaaGreatR20
import Derived.Test.YtlgibnmoogbdcaaGreatR23
namespace Go.Proofs.YtlgibnmoogbdcaaGreat
open Go.RowKit
def fxN (now:Int):List Tk→Nat
 | []=>0
 | t :: L=>if ltB now t=true then 0 else fxN now L+1
theorem fxN_yes {now:Int} {t:Tk} {L:List Tk} (h:ltB now t=true):fxN now (t :: L)=0:=if_pos h
theorem fxN_next {now:Int} {t:Tk} {L:List Tk} (h:ltB now t=false):fxN now (t :: L)=fxN now L+1:=if_neg (by rw [h];decide)
theorem fxN_at (now:Int):∀ (L:List Tk) (k:Nat),k<L.length→ltB now (gt L k)=true→(∀ j,j<k→ltB now (gt L j)=false)→fxN now L=k
 | [],k,h,_,_=>absurd h (Nat.not_lt_zero k)
 | t :: L,0,_,e,_=>fxN_yes e
 | t :: L,k+1,h,e,hn=>by
  rw [fxN_next (t:=t) (hn 0 (Nat.succ_pos k)),fxN_at now L k (by simpa using h) e (fun j hj=>hn (j+1) (by omega))]
theorem fxN_none (now:Int):∀ (L:List Tk),(∀ j,j<L.length→ltB now (gt L j)=false)→fxN now L=L.length
 | [],_=>rfl
 | t :: L,hn=>by
  rw [fxN_next (t:=t) (hn 0 (by simp)),fxN_none now L (fun j hj=>hn (j+1) (by simpa using hj))]
  rfl
theorem fxN_le (now:Int):∀ (L:List Tk),fxN now L≤L.length
 | []=>Nat.le_refl _
 | t :: L=>by
  cases e:ltB now t with
  | true=>rw [fxN_yes e];exact Nat.zero_le _
  | false=>rw [fxN_next e];have:=fxN_le now L;simp;omega
theorem fxN_is (now:Int):∀ (L:List Tk),fxN now L<L.length→ltB now (gt L (fxN now L))=true
 | [],h=>absurd h (Nat.not_lt_zero _)
 | t :: L,h=>by
  cases e:ltB now t with
  | true=>rw [fxN_yes e];exact e
  | false =>
   rw [fxN_next e] at h ⊢
   rw [gt_cons_succ]
   exact fxN_is now L (by simpa using h)
theorem fxN_not (now:Int):∀ (L:List Tk) (j:Nat),j<fxN now L→ltB now (gt L j)=false
 | [],j,h=>absurd h (Nat.not_lt_zero _)
 | t :: L,j,h=>by
  cases e:ltB now t with
  | true=>rw [fxN_yes e] at h;exact absurd h (Nat.not_lt_zero _)
  | false =>
   rw [fxN_next e] at h
   cases j with
   | zero=>exact e
   | succ j=>rw [gt_cons_succ];exact fxN_not now L j (by omega)
def fxI (now:Int) (L:List Tk):Int:=if fxN now L<L.length then (fxN now L:Int) else -1
theorem ofD_ok (t:Tk) (id:Int) (g:Nat) (w:World) (hg:Blk w g 3 #[.int .i64 id]) :
  Calls Tryz.prog 45 #[.agg #[.int .i64 t.id,.int .i64 t.wid,.int .i64 t.sts,.int .i64 t.sin,.int .i64 t.unt],.pointer (some ⟨g,0,none⟩)] w fun e w'=>e=.returned (.bool (t.id == id))∧Below w.heap.size w w':=by
 obtain ⟨w1,hw1⟩:∃ w1,w1=w.alloc (.cells #[.int .i64 t.id,.int .i64 t.wid,.int .i64 t.sts,.int .i64 t.sin,.int .i64 t.unt] 36):=⟨_,rfl⟩
 have B:Hd (Below w.heap.size w w1):=⟨by rw [hw1];exact alloc_below _ _⟩
 have N1:Blk w1 w.heap.size 36 (tkA t):=by rw [hw1];exact Blk.new _ _ _
 have G1:Blk w1 g 3 #[.int .i64 id]:=by rw [hw1];exact hg.alloc _
 obtain ⟨⟨c0,c1,c2,c3,c4⟩,-⟩:=N1.five
 have g0:=G1.cellv (v:=.int .i64 id) 0 rfl
 clear N1 G1 hg c1 c2 c3 c4
 go_enter Tryz.func45,Tryz.ntmps45
 go_upto_region 1 with fail
 rw [←hw1]
 clear hw1
 go_wp2
 go_ret;exact ⟨rfl,B.out⟩
set_option maxRecDepth 20000 in
set_option maxHeartbeats 1000000 in
theorem indexD_ok (a:Option Addr) (c:Nat) (L:List Tk) (id:Int) (g:Nat) (w:World) (h:TkR w a L) (hl:L.length≤2000) (hg:Blk w g 3 #[.int .i64 id]) :
  Calls Tryz.prog 44 #[.slice a L.length c,.func (.func 45) #[] #[.pointer (some ⟨g,0,none⟩)]] w fun e w'=>e=.returned (.int .i64 (ixI id L))∧Below w.heap.size w w':=by
 have eg:∀ args w,(callFunc 45 args).run Tryz.prog w=.ok (.enter 45 args) w:=enters_of Tryz.func45 (by kernel_rfl) rfl
 have H:Hd (∀ W,Below w.heap.size w W→TkR W a L∧Blk W g 3 #[.int .i64 id]):=⟨fun W b=>⟨h.carry b,hg.kept (Kept.of_below b (fun _=>False)) (fun h=>h)⟩⟩
 obtain ⟨n,hn⟩:∃ n,L.length=n:=⟨_,rfl⟩
 have HL:Hd (L.length=n):=⟨hn⟩
 have HX:Hd ((∀ k,k<n→(gt L k).id=id→(∀ j,j<k→(gt L j).id≠id)→ixI id L=(k:Int))∧((∀ j,j<n→(gt L j).id≠id)→ixI id L=-1)):=⟨fun k hk e hno=>by
   unfold ixI;rw [fnd_at id L k (by omega) e hno,if_pos (by omega)],fun hno=>by
   unfold ixI;rw [fnd_none id L (fun j hj=>hno j (by omega)),if_neg (by omega)]⟩
 rw [hn] at hl ⊢
 clear hn h hg
 go_enter Tryz.func44,Tryz.ntmps44
 go_wp2_with fail
 go_loopw [8] (fun i wr=>∃ k:Nat,k≤n∧i=.int .i64 k∧Hd (∀ j,j<k→(gt L j).id≠id)∧Below w.heap.size w wr) (fun i _=>n - (intOf i).toNat)
 case atStart=>exact ⟨0,Nat.zero_le _,rfl,⟨fun j h=>absurd h (Nat.not_lt_zero _)⟩,Below.refl _ _⟩
 case round =>
  obtain ⟨k,hk,rfl,hno,hb⟩:=hrel
  by_cases hlt:k<n
  ·obtain ⟨hR,hG⟩:=H.out wr hb
   obtain ⟨b,off,rfl,-,d0,d1,d2,d3,d4⟩:=hR.at (k:=k) (by rw [HL.out];exact hlt)
   have I:=ofD_ok (gt L k) id g wr hG
   have BB:Hd (Below w.heap.size w wr):=⟨hb⟩
   clear hR hG hb
   have HT:Hd ((gt L k).id=id→ixI id L=(k:Int)):=⟨fun e=>HX.out.1 k hlt e hno.out⟩
   have HF:Hd ((gt L k).id≠id→∀ j,j<k+1→(gt L j).id≠id):=⟨fun e j hj=>by
    rcases Nat.lt_or_eq_of_le (Nat.le_of_lt_succ hj) with h1 | h1
    ·exact hno.out j h1
    ·subst h1;exact e⟩
   clear hno
   by_cases e:(gt L k).id=id
   ·have A:Hd (ixI id L=(k:Int)):=⟨HT.out e⟩
    rw [show ((gt L k).id == id)=true from by simpa using e] at I
    clear HT HF
    generalize gt L k=z at *
    obtain ⟨z0,z1,z2,z3,z4⟩:=z
    simp only at d0 d1 d2 d3 d4 I
    clear e
    go_wp2_with (go_at_fn 45;refine I.mono ?_;rintro e w2 ⟨rfl,h2⟩)
    go_ret
    exact ⟨by rw [A.out];rfl,BB.out.trans (h2.mono BB.out.size)⟩
   ·have A:Hd (∀ j,j<k+1→(gt L j).id≠id):=⟨HF.out e⟩
    rw [show ((gt L k).id == id)=false from by simpa using e] at I
    clear HT HF
    generalize gt L k=z at *
    obtain ⟨z0,z1,z2,z3,z4⟩:=z
    simp only at d0 d1 d2 d3 d4 I
    clear e
    go_wp2_with (go_at_fn 45;refine I.mono ?_;rintro e w2 ⟨rfl,h2⟩)
    go_roundw
    case rel=>exact ⟨k+1,by omega,by go_num,A,BB.out.trans (h2.mono BB.out.size)⟩
    case measure=>simp [intOf];omega
  ·obtain rfl:k=n:=by omega
   have A:Hd (ixI id L=-1):=⟨HX.out.2 hno.out⟩
   clear hno
   go_wp2_with fail
   go_ret
   exact ⟨by rw [A.out];rfl,hb⟩
theorem ofL_ok (t:Tk) (now:Int) (g:Nat) (w:World) (hg:Blk w g 3 #[.int .i64 now]) :
  Calls Tryz.prog 52 #[.agg #[.int .i64 t.id,.int .i64 t.wid,.int .i64 t.sts,.int .i64 t.sin,.int .i64 t.unt],.pointer (some ⟨g,0,none⟩)] w fun e w'=>e=.returned (.bool (ltB now t))∧Below w.heap.size w w':=by
 obtain ⟨w1,hw1⟩:∃ w1,w1=w.alloc (.cells #[.int .i64 t.id,.int .i64 t.wid,.int .i64 t.sts,.int .i64 t.sin,.int .i64 t.unt] 36):=⟨_,rfl⟩
 have B:Hd (Below w.heap.size w w1):=⟨by rw [hw1];exact alloc_below _ _⟩
 have N1:Blk w1 w.heap.size 36 (tkA t):=by rw [hw1];exact Blk.new _ _ _
 have G1:Blk w1 g 3 #[.int .i64 now]:=by rw [hw1];exact hg.alloc _
 obtain ⟨⟨c0,c1,c2,c3,c4⟩,-⟩:=N1.five
 have g0:=G1.cellv (v:=.int .i64 now) 0 rfl
 clear N1 G1 hg c0 c1 c2 c3
 unfold ltB
 go_enter Tryz.func52,Tryz.ntmps52
 go_upto_region 1 with fail
 rw [←hw1]
 clear hw1
 go_wp2
 go_ret;exact ⟨rfl,B.out⟩
set_option maxRecDepth 20000 in
set_option maxHeartbeats 1000000 in
theorem indexL_ok (a:Option Addr) (c:Nat) (L:List Tk) (now:Int) (g:Nat) (w:World) (h:TkR w a L) (hl:L.length≤2000) (hg:Blk w g 3 #[.int .i64 now]) :
  Calls Tryz.prog 44 #[.slice a L.length c,.func (.func 52) #[] #[.pointer (some ⟨g,0,none⟩)]] w fun e w'=>e=.returned (.int .i64 (fxI now L))∧Below w.heap.size w w':=by
 have eg:∀ args w,(callFunc 52 args).run Tryz.prog w=.ok (.enter 52 args) w:=enters_of Tryz.func52 (by kernel_rfl) rfl
 have H:Hd (∀ W,Below w.heap.size w W→TkR W a L∧Blk W g 3 #[.int .i64 now]):=⟨fun W b=>⟨h.carry b,hg.kept (Kept.of_below b (fun _=>False)) (fun h=>h)⟩⟩
 obtain ⟨n,hn⟩:∃ n,L.length=n:=⟨_,rfl⟩
 have HL:Hd (L.length=n):=⟨hn⟩
 have HX:Hd ((∀ k,k<n→ltB now (gt L k)=true→(∀ j,j<k→ltB now (gt L j)=false)→fxI now L=(k:Int))∧((∀ j,j<n→ltB now (gt L j)=false)→fxI now L=-1)):=⟨fun k hk e hno=>by
   unfold fxI;rw [fxN_at now L k (by omega) e hno,if_pos (by omega)],fun hno=>by
   unfold fxI;rw [fxN_none now L (fun j hj=>hno j (by omega)),if_neg (by omega)]⟩
 rw [hn] at hl ⊢
 clear hn h hg
 go_enter Tryz.func44,Tryz.ntmps44
 go_wp2_with fail
 go_loopw [8] (fun i wr=>∃ k:Nat,k≤n∧i=.int .i64 k∧Hd (∀ j,j<k→ltB now (gt L j)=false)∧Below w.heap.size w wr) (fun i _=>n - (intOf i).toNat)
 case atStart=>exact ⟨0,Nat.zero_le _,rfl,⟨fun j h=>absurd h (Nat.not_lt_zero _)⟩,Below.refl _ _⟩
 case round =>
  obtain ⟨k,hk,rfl,hno,hb⟩:=hrel
  by_cases hlt:k<n
  ·obtain ⟨hR,hG⟩:=H.out wr hb
   obtain ⟨b,off,rfl,-,d0,d1,d2,d3,d4⟩:=hR.at (k:=k) (by rw [HL.out];exact hlt)
   have I:=ofL_ok (gt L k) now g wr hG
   have BB:Hd (Below w.heap.size w wr):=⟨hb⟩
   clear hR hG hb
   have HT:Hd (ltB now (gt L k)=true→fxI now L=(k:Int)):=⟨fun e=>HX.out.1 k hlt e hno.out⟩
   have HF:Hd (ltB now (gt L k)=false→∀ j,j<k+1→ltB now (gt L j)=false):=⟨fun e j hj=>by
    rcases Nat.lt_or_eq_of_le (Nat.le_of_lt_succ hj) with h1 | h1
    ·exact hno.out j h1
    ·subst h1;exact e⟩
   clear hno
   by_cases e:ltB now (gt L k)=true
   ·have A:Hd (fxI now L=(k:Int)):=⟨HT.out e⟩
    rw [e] at I
    clear HT HF
    generalize gt L k=z at *
    obtain ⟨z0,z1,z2,z3,z4⟩:=z
    simp only at d0 d1 d2 d3 d4 I
    clear e
    go_wp2_with (go_at_fn 52;refine I.mono ?_;rintro e w2 ⟨rfl,h2⟩)
    go_ret
    exact ⟨by rw [A.out];rfl,BB.out.trans (h2.mono BB.out.size)⟩
   ·have e:ltB now (gt L k)=false:=by simpa using e
    have A:Hd (∀ j,j<k+1→ltB now (gt L j)=false):=⟨HF.out e⟩
    rw [e] at I
    clear HT HF
    generalize gt L k=z at *
    obtain ⟨z0,z1,z2,z3,z4⟩:=z
    simp only at d0 d1 d2 d3 d4 I
    clear e
    go_wp2_with (go_at_fn 52;refine I.mono ?_;rintro e w2 ⟨rfl,h2⟩)
    go_roundw
    case rel=>exact ⟨k+1,by omega,by go_num,A,BB.out.trans (h2.mono BB.out.size)⟩
    case measure=>simp [intOf];omega
  ·obtain rfl:k=n:=by omega
   have A:Hd (fxI now L=-1):=⟨HX.out.2 hno.out⟩
   clear hno
   go_wp2_with fail
   go_ret
   exact ⟨by rw [A.out];rfl,hb⟩
end Go.Proofs.YtlgibnmoogbdcaaGreat

namespace Go.Proofs.YtlgibnmoogbdcaaGreat
theorem gt_app_l {A B:List Tk} {k:Nat} (h:k<A.length):gt (A++B) k=gt A k:=by
 unfold gt
 rw [List.getD_eq_getElem?_getD,List.getD_eq_getElem?_getD,List.getElem?_append_left h]
theorem gt_app_r {A B:List Tk} {k:Nat} (h:A.length≤k):gt (A++B) k=gt B (k - A.length):=by
 unfold gt
 rw [List.getD_eq_getElem?_getD,List.getD_eq_getElem?_getD,List.getElem?_append_right h]
theorem gt_app_at (A B:List Tk) (k:Nat):gt (A++B) (A.length+k)=gt B k:=by rw [gt_app_r (Nat.le_add_right _ _),Nat.add_sub_cancel_left]
theorem gt_tk {L:List Tk} {n k:Nat} (h:k<n):gt (L.take n) k=gt L k:=by
 unfold gt
 rw [List.getD_eq_getElem?_getD,List.getD_eq_getElem?_getD,List.getElem?_take_of_lt h]
theorem gt_set (L:List Tk) (i:Nat) (t:Tk) (k:Nat) (h:i<L.length):gt (L.set i t) k=if i=k then t else gt L k:=by
 unfold gt
 rw [List.getD_eq_getElem?_getD,List.getD_eq_getElem?_getD,List.getElem?_set]
 by_cases e:i=k
 ·rw [if_pos e,if_pos e,if_pos h];rfl
 ·rw [if_neg e,if_neg e]
theorem gt_ext {L M:List Tk} (h:L.length=M.length) (e:∀ k,k<L.length→gt L k=gt M k):L=M:=by
 apply List.ext_getElem h
 intro k h1 h2
 have a:=gt_get h1
 have b:=gt_get h2
 rw [List.getElem?_eq_getElem h1] at a
 rw [List.getElem?_eq_getElem h2] at b
 injection a with a
 injection b with b
 rw [a,b,e k h1]
def of1 (v:Int) (L:List Tk):List Tk:=L.filter fun t=>t.id == v
theorem of1_app (v:Int) (A B:List Tk):of1 v (A++B)=of1 v A++of1 v B:=List.filter_append ..
theorem of1_none {v:Int} {L:List Tk} (h:∀ t∈L,t.id≠v):of1 v L=[]:=List.filter_eq_nil_iff.2 fun t ht=>by simpa using h t ht
theorem of1_mem {v:Int} {L:List Tk} {t:Tk} : t∈of1 v L ↔ t∈L∧t.id=v:=by unfold of1;rw [List.mem_filter];simp
structure Rl (a b:Nat) (L M:List Tk):Prop where
 len:M.length=L.length
 stb:∀ v,of1 v M=of1 v L
 out:∀ k,k<a∨b≤k→gt M k=gt L k
 ins:∀ k,a≤k→k<b→∃ j,a≤j∧j<b∧gt M k=gt L j
theorem Rl.refl (a b:Nat) (L:List Tk):Rl a b L L:=⟨rfl,fun _=>rfl,fun _ _=>rfl,fun k h1 h2=>⟨k,h1,h2,rfl⟩⟩
theorem Rl.trans {a b:Nat} {L M N:List Tk} (h:Rl a b L M) (k:Rl a b M N):Rl a b L N :=
 ⟨k.len.trans h.len,fun v=>(k.stb v).trans (h.stb v),fun i hi=>(k.out i hi).trans (h.out i hi),fun i h1 h2=>by
  obtain ⟨j,j1,j2,e⟩:=k.ins i h1 h2
  obtain ⟨q,q1,q2,e2⟩:=h.ins j j1 j2
  exact ⟨q,q1,q2,e.trans e2⟩⟩
theorem Rl.wide {a b a' b':Nat} {L M:List Tk} (h:Rl a b L M) (ha:a'≤a) (hb:b≤b'):Rl a' b' L M :=
 ⟨h.len,h.stb,fun k hk=>h.out k (by omega),fun k h1 h2=>by
  by_cases c:a≤k∧k<b
  ·obtain ⟨j,j1,j2,e⟩:=h.ins k c.1 c.2
   exact ⟨j,by omega,by omega,e⟩
  ·exact ⟨k,h1,h2,h.out k (by omega)⟩⟩
def Sd (a b:Nat) (L:List Tk):Prop:=∀ i j,a≤i→i≤j→j<b→(gt L i).id≤(gt L j).id
theorem Sd.one (a:Nat) (L:List Tk):Sd a (a+1) L:=fun i j h1 h2 h3=>by
 obtain rfl:i=j:=by omega
 exact Int.le_refl _
theorem Sd.none {a b:Nat} {L:List Tk} (h:b≤a+1):Sd a b L:=fun i j h1 h2 h3=>by
 obtain rfl:i=j:=by omega
 exact Int.le_refl _
theorem Sd.part {a b a' b':Nat} {L:List Tk} (h:Sd a b L) (ha:a≤a') (hb:b'≤b):Sd a' b' L:=fun i j h1 h2 h3=>h i j (by omega) h2 (by omega)
theorem Sd.congr {a b:Nat} {L M:List Tk} (h:Sd a b L) (e:∀ k,a≤k→k<b→gt M k=gt L k):Sd a b M:=fun i j h1 h2 h3=>by
 rw [e i h1 (by omega),e j (by omega) h3]
 exact h i j h1 h2 h3
theorem Rl.sd {a b x y:Nat} {L M:List Tk} (h:Rl a b L M) (s:Sd x y L) (e:y≤a∨b≤x):Sd x y M:=s.congr fun k h1 h2=>h.out k (by omega)
theorem Rl.all {a b:Nat} {L M:List Tk} (h:Rl a b L M) {P:Tk→Prop} (s:∀ k,a≤k→k<b→P (gt L k)):∀ k,a≤k→k<b→P (gt M k):=fun k h1 h2=>by
 obtain ⟨j,j1,j2,e⟩:=h.ins k h1 h2
 rw [e]
 exact s j j1 j2
theorem Sd.two {a m b:Nat} {L:List Tk} (h1:Sd a m L) (h2:Sd m b L) (h:∀ i j,a≤i→i<m→m≤j→j<b→(gt L i).id≤(gt L j).id):Sd a b L:=fun i j i1 ij j1=>by
 by_cases c:j<m
 ·exact h1 i j i1 ij c
 ·by_cases d:m≤i
  ·exact h2 i j d ij j1
  ·exact h i j i1 (by omega) (by omega) j1
def swT (L:List Tk) (i j:Nat):List Tk:=(L.set i (gt L j)).set j (gt L i)
theorem swT_len (L:List Tk) (i j:Nat):(swT L i j).length=L.length:=by unfold swT;rw [List.length_set,List.length_set]
theorem swT_at {L:List Tk} {i j:Nat} (hi:i<L.length) (hj:j<L.length) (k:Nat):gt (swT L i j) k=if j=k then gt L i else if i=k then gt L j else gt L k:=by
 unfold swT
 rw [gt_set _ _ _ _ (by rw [List.length_set];exact hj),gt_set _ _ _ _ hi]
theorem swT_comm {L:List Tk} {i j:Nat} (hi:i<L.length) (hj:j<L.length):swT L i j=swT L j i:=by
 refine gt_ext (by rw [swT_len,swT_len]) fun k _=>?_
 rw [swT_at hi hj,swT_at hj hi]
 by_cases c:j=k
 ·by_cases d:i=k
  ·rw [if_pos c,if_pos d,c,d]
  ·rw [if_pos c,if_neg d,if_pos c]
 ·by_cases d:i=k
  ·rw [if_neg c,if_pos d,if_pos d]
  ·rw [if_neg c,if_neg d,if_neg d,if_neg c]
theorem swT_list (A B C:List Tk) (x y:Tk):swT (A++x :: B++y :: C) A.length (A.length+1+B.length)=A++y :: B++x :: C:=by
 have hi:A.length<(A++x :: B++y :: C).length:=by simp only [List.length_append,List.length_cons];omega
 have hj:A.length+1+B.length<(A++x :: B++y :: C).length:=by simp only [List.length_append,List.length_cons];omega
 have ex:gt (A++x :: B++y :: C) A.length=x:=by
  rw [List.append_assoc,gt_app_r (Nat.le_refl _),Nat.sub_self]
  rfl
 have ey:gt (A++x :: B++y :: C) (A.length+1+B.length)=y:=by
  rw [gt_app_r (by simp;omega)]
  have:A.length+1+B.length - (A++x :: B).length=0:=by simp;omega
  rw [this]
  rfl
 refine gt_ext (by rw [swT_len];simp) fun k _=>?_
 rw [swT_at hi hj,ex,ey]
 by_cases c:A.length+1+B.length=k
 ·rw [if_pos c,gt_app_r (by simp;omega)]
  have:k - (A++y :: B).length=0:=by simp;omega
  rw [this]
  rfl
 ·rw [if_neg c]
  by_cases d:A.length=k
  ·rw [if_pos d,List.append_assoc,gt_app_r (by omega)]
   have:k - A.length=0:=by omega
   rw [this]
   rfl
  ·rw [if_neg d]
   by_cases e:k<A.length
   ·rw [List.append_assoc,List.append_assoc,gt_app_l e,gt_app_l e]
   ·by_cases f:k<A.length+1+B.length
    ·rw [gt_app_l (A:=A++x :: B) (by simp;omega),gt_app_l (A:=A++y :: B) (by simp;omega),gt_app_r (A:=A) (by omega),gt_app_r (A:=A) (by omega)]
     obtain ⟨q,hq⟩:∃ q,k - A.length=q+1:=⟨k - A.length - 1,by omega⟩
     rw [hq]
     rfl
    ·rw [gt_app_r (by simp;omega),gt_app_r (by simp;omega)]
     obtain ⟨q,hq⟩:∃ q,k - (A++x :: B).length=q+1:=⟨k - (A++x :: B).length - 1,by simp;omega⟩
     have hq2:k - (A++y :: B).length=q+1:=by rw [←hq];simp
     rw [hq,hq2]
     rfl
theorem swT_of1 (v:Int):∀ (L:List Tk) (k:Nat),k+1<L.length→(gt L k).id≠(gt L (k+1)).id→of1 v (swT L k (k+1))=of1 v L
 | [],k,h,_=>absurd h (by simp)
 | [_],k,h,_=>absurd h (by simp)
 | x :: y :: R,0,_,e=>by
  show of1 v (y :: x :: R)=of1 v (x :: y :: R)
  have e:x.id≠y.id:=e
  unfold of1
  by_cases c:x.id=v
  ·rw [List.filter_cons_of_neg (a:=y) (by simpa using fun d=>e (by rw [c,d])),List.filter_cons_of_pos (a:=x) (by simpa using c),List.filter_cons_of_pos (a:=x) (by simpa using c),List.filter_cons_of_neg (a:=y) (by simpa using fun d=>e (by rw [c,d]))]
  ·by_cases d:y.id=v
   ·rw [List.filter_cons_of_pos (a:=y) (by simpa using d),List.filter_cons_of_neg (a:=x) (by simpa using c),List.filter_cons_of_neg (a:=x) (by simpa using c),List.filter_cons_of_pos (a:=y) (by simpa using d)]
   ·rw [List.filter_cons_of_neg (a:=y) (by simpa using d),List.filter_cons_of_neg (a:=x) (by simpa using c),List.filter_cons_of_neg (a:=x) (by simpa using c),List.filter_cons_of_neg (a:=y) (by simpa using d)]
 | x :: y :: R,k+1,h,e=>by
  have ih:=swT_of1 v (y :: R) k (by simpa using h) e
  have e2:swT (x :: y :: R) (k+1) (k+1+1)=x :: swT (y :: R) k (k+1):=rfl
  rw [e2]
  unfold of1 at ih ⊢
  by_cases c:x.id=v
  ·rw [List.filter_cons_of_pos (by simpa using c),List.filter_cons_of_pos (by simpa using c),ih]
  ·rw [List.filter_cons_of_neg (by simpa using c),List.filter_cons_of_neg (by simpa using c),ih]
theorem Rl.swap {L:List Tk} {a b k:Nat} (hk:k+1<L.length) (ha:a≤k) (hb:k+1<b) (e:(gt L k).id≠(gt L (k+1)).id):Rl a b L (swT L k (k+1)):=by
 refine ⟨swT_len _ _ _,fun v=>swT_of1 v L k hk e,fun j hj=>?_,fun j h1 h2=>?_⟩
 ·rw [swT_at (by omega) hk,if_neg (by omega),if_neg (by omega)]
 ·rw [swT_at (by omega) hk]
  by_cases c:k+1=j
  ·exact ⟨k,by omega,by omega,by rw [if_pos c]⟩
  ·by_cases d:k=j
   ·exact ⟨k+1,by omega,by omega,by rw [if_neg c,if_pos d]⟩
   ·exact ⟨j,h1,h2,by rw [if_neg c,if_neg d]⟩
theorem Rl.rot {P U V S:List Tk} (h:∀ u∈U,∀ v∈V,u.id≠v.id):Rl P.length (P.length+U.length+V.length) (P++U++V++S) (P++V++U++S):=by
 refine ⟨by simp;omega,fun v=>?_,fun k hk=>?_,fun k h1 h2=>?_⟩
 ·simp only [of1_app,List.append_assoc]
  by_cases c:of1 v U=[]
  ·rw [c,List.nil_append,List.nil_append]
  ·have d:of1 v V=[]:=of1_none fun t ht e=>by
    obtain ⟨u,hu⟩:=List.exists_mem_of_ne_nil _ c
    obtain ⟨u1,u2⟩:=of1_mem.1 hu
    exact h u u1 t ht (by rw [u2,e])
   rw [d,List.nil_append,List.nil_append]
 ·rcases hk with c | c
  ·rw [List.append_assoc,List.append_assoc,List.append_assoc,List.append_assoc,gt_app_l c,gt_app_l c]
  ·rw [gt_app_r (by simp;omega),gt_app_r (by simp;omega)]
   congr 1
   simp
   omega
 ·by_cases c:k<P.length+V.length
  ·refine ⟨k+U.length,by omega,by omega,?_⟩
   rw [gt_app_l (by simp;omega),gt_app_l (by simp;omega),gt_app_r h1,gt_app_l (by simp;omega),gt_app_r (by simp;omega)]
   congr 1
   simp
   omega
  ·refine ⟨k - V.length,by omega,by omega,?_⟩
   rw [gt_app_l (by simp;omega),gt_app_r (by simp;omega),gt_app_l (by simp;omega),gt_app_l (by simp;omega),gt_app_r (by omega)]
   congr 1
   simp
   omega
theorem rot_at {P U V S:List Tk} {k:Nat} (h1:P.length≤k):(k<P.length+V.length→gt (P++V++U++S) k=gt (P++U++V++S) (k+U.length))∧(P.length+V.length≤k→k<P.length+V.length+U.length→gt (P++V++U++S) k=gt (P++U++V++S) (k - V.length)):=by
 refine ⟨fun c=>?_,fun c h2=>?_⟩
 ·rw [gt_app_l (by simp;omega),gt_app_l (by simp;omega),gt_app_r h1,gt_app_l (by simp;omega),gt_app_r (by simp;omega)]
  congr 1
  simp
  omega
 ·rw [gt_app_l (by simp;omega),gt_app_r (by simp;omega),gt_app_l (by simp;omega),gt_app_l (by simp;omega),gt_app_r (by omega)]
  congr 1
  simp
  omega
theorem cut4 {L:List Tk} {a m b:Nat} (h1:a≤m) (h2:m≤b) (h3:b≤L.length):∃ P U V S,L=P++U++V++S∧P.length=a∧U.length=m - a∧V.length=b - m:=by
 refine ⟨L.take a,(L.drop a).take (m - a),(L.drop m).take (b - m),L.drop b,?_,by rw [List.length_take];omega,by rw [List.length_take,List.length_drop];omega,by rw [List.length_take,List.length_drop];omega⟩
 have e1:=List.take_append_drop a L
 have e2:=List.take_append_drop (m - a) (L.drop a)
 have e3:=List.take_append_drop (b - m) (L.drop m)
 rw [List.drop_drop,show a+(m - a)=m from by omega] at e2
 rw [List.drop_drop,show m+(b - m)=b from by omega] at e3
 rw [←e3] at e2
 rw [←e2] at e1
 rw [List.append_assoc,List.append_assoc]
 exact e1.symm
theorem insT_of1 (v:Int) (t:Tk):∀ L,of1 v (insT t L)=of1 v (t :: L)
 | []=>rfl
 | u :: L=>by
  unfold insT
  by_cases c:t.id≤u.id
  ·rw [if_pos c]
  ·rw [if_neg c]
   have ih:=insT_of1 v t L
   have e:of1 v (t :: u :: L)=of1 v (u :: t :: L):=by
    have:=swT_of1 v (u :: t :: L) 0 (by simp) (show u.id≠t.id from by omega)
    exact this
   rw [e]
   unfold of1 at ih ⊢
   by_cases d:u.id=v
   ·rw [List.filter_cons_of_pos (a:=u) (by simpa using d),List.filter_cons_of_pos (a:=u) (by simpa using d),ih]
   ·rw [List.filter_cons_of_neg (a:=u) (by simpa using d),List.filter_cons_of_neg (a:=u) (by simpa using d),ih]
theorem srt_of1 (v:Int):∀ L,of1 v (srt L)=of1 v L
 | []=>rfl
 | t :: L=>by
  show of1 v (insT t (srt L))=_
  rw [insT_of1]
  have ih:=srt_of1 v L
  unfold of1 at ih ⊢
  by_cases d:t.id=v
  ·rw [List.filter_cons_of_pos (by simpa using d),List.filter_cons_of_pos (by simpa using d),ih]
  ·rw [List.filter_cons_of_neg (by simpa using d),List.filter_cons_of_neg (by simpa using d),ih]
def Up (L:List Tk):Prop:=L.Pairwise fun a b=>a.id≤b.id
theorem insT_up (t:Tk):∀ L,Up L→Up (insT t L)
 | [],_=>List.pairwise_singleton _ _
 | u :: L,h=>by
  unfold insT
  obtain ⟨h1,h2⟩:=List.pairwise_cons.1 h
  by_cases c:t.id≤u.id
  ·rw [if_pos c]
   refine List.pairwise_cons.2 ⟨fun x hx=>?_,h⟩
   rcases List.mem_cons.1 hx with rfl | hx
   ·exact c
   ·have:=h1 x hx;omega
  ·rw [if_neg c]
   refine List.pairwise_cons.2 ⟨fun x hx=>?_,insT_up t L h2⟩
   rcases List.mem_cons.1 ((insT_perm t L).mem_iff.1 hx) with rfl | hx
   ·omega
   ·exact h1 x hx
theorem srt_up:∀ L,Up (srt L)
 | []=>List.Pairwise.nil
 | t :: L=>insT_up t _ (srt_up L)
theorem Up.eq:∀ {L M:List Tk},Up L→Up M→(∀ v,of1 v L=of1 v M)→L=M
 | [],[],_,_,_=>rfl
 | [],u :: M,_,_,e=>by
  have:=e u.id
  unfold of1 at this
  rw [List.filter_cons_of_pos (by simp)] at this
  cases this
 | t :: L,[],_,_,e=>by
  have:=e t.id
  unfold of1 at this
  rw [List.filter_cons_of_pos (by simp)] at this
  cases this
 | t :: L,u :: M,hL,hM,e=>by
  obtain ⟨l1,l2⟩:=List.pairwise_cons.1 hL
  obtain ⟨m1,m2⟩:=List.pairwise_cons.1 hM
  have a:t∈of1 t.id (u :: M):=by rw [←e];exact of1_mem.2 ⟨List.mem_cons_self,rfl⟩
  have b:u∈of1 u.id (t :: L):=by rw [e];exact of1_mem.2 ⟨List.mem_cons_self,rfl⟩
  have c:t.id=u.id:=by
   have a1:=(of1_mem.1 a).1
   have b1:=(of1_mem.1 b).1
   have h1:u.id≤t.id:=by
    rcases List.mem_cons.1 a1 with q | q
    ·rw [q];exact Int.le_refl _
    ·exact m1 t q
   have h2:t.id≤u.id:=by
    rcases List.mem_cons.1 b1 with q | q
    ·rw [q];exact Int.le_refl _
    ·exact l1 u q
   omega
  have d:=e t.id
  unfold of1 at d
  rw [List.filter_cons_of_pos (by simp),List.filter_cons_of_pos (by simpa using c.symm)] at d
  injection d with d1 d2
  subst d1
  congr 1
  refine Up.eq l2 m2 fun v=>?_
  have f:=e v
  unfold of1 at f ⊢
  by_cases g:t.id=v
  ·rw [List.filter_cons_of_pos (by simpa using g),List.filter_cons_of_pos (by simpa using g)] at f
   injection f
  ·rw [List.filter_cons_of_neg (by simpa using g),List.filter_cons_of_neg (by simpa using g)] at f
   exact f
theorem sorted_is {L M:List Tk} (h:Rl 0 L.length L M) (s:Sd 0 L.length M):M=srt L:=by
 refine Up.eq ?_ (srt_up L) fun v=>(h.stb v).trans (srt_of1 v L).symm
 unfold Up
 rw [List.pairwise_iff_getElem]
 intro i j hi hj hij
 have a:=gt_get hi
 have b:=gt_get hj
 rw [List.getElem?_eq_getElem hi] at a
 rw [List.getElem?_eq_getElem hj] at b
 injection a with a
 injection b with b
 rw [a,b]
 exact s i j (Nat.zero_le _) (by omega) (by rw [←h.len];exact hj)
end Go.Proofs.YtlgibnmoogbdcaaGreat

namespace Go.Proofs.YtlgibnmoogbdcaaGreat
open Go.RowKit
def Rw (w:World) (g z:Nat) (L:List Tk):Prop:=∃ cur:Array Value,Blk w g 36 cur∧(cur.size=z*5∧L.length≤z)∧∀ (j:Nat) (u:Value),(tkCs L)[j]?=some u→cur[j]?=some u
theorem Rw.lt {w:World} {g z:Nat} {L:List Tk} (h:Rw w g z L):g<w.heap.size:=by
 obtain ⟨cur,hb,-⟩:=h
 exact hb.lt
theorem Rw.kept {S:Nat→Prop} {w w':World} {g z:Nat} {L:List Tk} (h:Rw w g z L) (k:Kept S w w') (hS:¬ S g):Rw w' g z L:=by
 obtain ⟨cur,hb,hs,hc⟩:=h
 exact ⟨cur,hb.kept k hS,hs,hc⟩
theorem Rw.below {w w':World} {g z:Nat} {L:List Tk} (h:Rw w g z L) (b:Below w.heap.size w w'):Rw w' g z L:=h.kept (Kept.of_below b (fun _=>False)) id
theorem Rw.frozen {w:World} {g z:Nat} {L:List Tk} (h:Rw w g z L) (i:Nat):w.frozen? ⟨g,i,none⟩=false:=by
 obtain ⟨cur,hb,-⟩:=h
 exact hb.frozen i
theorem Rw.at {w:World} {g z:Nat} {L:List Tk} (h:Rw w g z L) {k:Nat} (hk:k<L.length):w.cell? ⟨g,k*5,none⟩=some (.int .i64 (gt L k).id)∧w.cell? ⟨g,k*5+1,none⟩=some (.int .i64 (gt L k).wid)∧w.cell? ⟨g,k*5+2,none⟩=some (.int .i64 (gt L k).sts)∧w.cell? ⟨g,k*5+3,none⟩=some (.int .i64 (gt L k).sin)∧w.cell? ⟨g,k*5+4,none⟩=some (.int .i64 (gt L k).unt):=by
 obtain ⟨cur,hb,-,hc⟩:=h
 have r:∀ j u,j<5→(tkC (gt L k))[j]?=some u→w.cell? ⟨g,k*5+j,none⟩=some u:=fun j u hj hu=>by
  rw [hb.cell]
  exact hc _ _ ((tkCs_at L k hk j hj).trans hu)
 exact ⟨r 0 _ (by decide) rfl,r 1 _ (by decide) rfl,r 2 _ (by decide) rfl,r 3 _ (by decide) rfl,r 4 _ (by decide) rfl⟩
theorem Rw.put {w:World} {g z:Nat} {L:List Tk} (h:Rw w g z L) {k:Nat} (hk:k<L.length) (t:Tk) :
  Rw (((((w.setCell ⟨g,k*5,none⟩ (.int .i64 t.id)).setCell ⟨g,k*5+1,none⟩ (.int .i64 t.wid)).setCell ⟨g,k*5+2,none⟩ (.int .i64 t.sts)).setCell ⟨g,k*5+3,none⟩ (.int .i64 t.sin)).setCell ⟨g,k*5+4,none⟩ (.int .i64 t.unt)) g z (L.set k t)
  ∧ Kept (fun j=>j=g) w (((((w.setCell ⟨g,k*5,none⟩ (.int .i64 t.id)).setCell ⟨g,k*5+1,none⟩ (.int .i64 t.wid)).setCell ⟨g,k*5+2,none⟩ (.int .i64 t.sts)).setCell ⟨g,k*5+3,none⟩ (.int .i64 t.sin)).setCell ⟨g,k*5+4,none⟩ (.int .i64 t.unt)):=by
 obtain ⟨cur,hb,hs,hc⟩:=h
 refine ⟨⟨_,((((hb.set (k*5) (.int .i64 t.id)).set (k*5+1) (.int .i64 t.wid)).set (k*5+2) (.int .i64 t.sts)).set (k*5+3) (.int .i64 t.sin)).set (k*5+4) (.int .i64 t.unt),by rw [List.length_set];simpa using hs,fun (j:Nat) (u:Value) hj=>?_⟩,
  (((((Kept.refl (fun j=>j=g) w).setCell _ _ (.inl rfl)).setCell _ _ (.inl rfl)).setCell _ _ (.inl rfl)).setCell _ _ (.inl rfl)).setCell _ _ (.inl rfl)⟩
 have hlt:j<L.length*5:=by
  have:=tkCs_len (L.set k t)
  rw [List.length_set] at this
  rcases Nat.lt_or_ge j (tkCs (L.set k t)).length with c | c
  ·omega
  ·rw [List.getElem?_eq_none c] at hj;cases hj
 have hq:j / 5<L.length:=by omega
 have hr:j % 5<5:=Nat.mod_lt _ (by decide)
 have e:=tkCs_at (L.set k t) (j / 5) (by rw [List.length_set];exact hq) (j % 5) hr
 have ej:j / 5*5+j % 5=j:=by omega
 rw [ej,hj,gt_set _ _ _ _ hk] at e
 by_cases c:k=j / 5
 ·rw [if_pos c] at e
  have hk5:k*5+4<cur.size:=by omega
  have:j % 5=0∨j % 5=1∨j % 5=2∨j % 5=3∨j % 5=4:=by omega
  rcases this with d | d | d | d | d
  ·rw [show j=k*5 from by omega];rw [d] at e;simp [tkC] at e;rw [e];simp [Array.getElem?_setIfInBounds];omega
  ·rw [show j=k*5+1 from by omega];rw [d] at e;simp [tkC] at e;rw [e];simp [Array.getElem?_setIfInBounds];omega
  ·rw [show j=k*5+2 from by omega];rw [d] at e;simp [tkC] at e;rw [e];simp [Array.getElem?_setIfInBounds];omega
  ·rw [show j=k*5+3 from by omega];rw [d] at e;simp [tkC] at e;rw [e];simp [Array.getElem?_setIfInBounds];omega
  ·rw [show j=k*5+4 from by omega];rw [d] at e;simp [tkC] at e;rw [e];simp [Array.getElem?_setIfInBounds];omega
 ·rw [if_neg c] at e
  have e2:=tkCs_at L (j / 5) hq (j % 5) hr
  rw [ej] at e2
  have e3:=hc j u (by rw [e2,← e])
  rw [Array.getElem?_setIfInBounds_ne (by omega),Array.getElem?_setIfInBounds_ne (by omega),Array.getElem?_setIfInBounds_ne (by omega),Array.getElem?_setIfInBounds_ne (by omega),Array.getElem?_setIfInBounds_ne (by omega)]
  exact e3
theorem OwnT.rw {w:World} {B:Nat} {v:Value} {L:List Tk} (h:OwnT w B v L) (hn:0<L.length):∃ g c,v=.slice (some ⟨g,0,none⟩) L.length c∧(L.length≤c∧c≤maxLen)∧B≤g∧Rw w g c L:=by
 rcases id h.2 with ⟨-,e⟩ | ⟨g,cap,cur,rfl,hb,hg,hc,hm,hs,ht⟩
 ·omega
 ·refine ⟨g,cap,rfl,⟨hc,hm⟩,hb,⟨cur,hg,⟨hs,hc⟩,fun (j:Nat) (u:Value) hj=>?_⟩⟩
  have:=h.cells rfl j u hj
  rw [Go.WideShapes.add_plain,Nat.zero_add] at this
  have hB:Blk w g 36 cur:=hg
  rwa [hB.cell] at this
theorem Rw.own {w:World} {g z B:Nat} {L:List Tk} (h:Rw w g z L) (hB:B≤g) (hz:z≤maxLen):OwnT w B (.slice (some ⟨g,0,none⟩) L.length z) L:=by
 obtain ⟨cur,hb,⟨hs,hc⟩,h3⟩:=h
 refine ⟨by rw [tkCs_len],.inr ⟨g,z,cur,rfl,hB,hb,hc,hz,hs,?_⟩⟩
 apply List.ext_getElem?
 intro j
 rw [List.getElem?_take]
 by_cases c:j<L.length*5
 ·rw [if_pos c,Array.getElem?_toList]
  have hl:j<(tkCs L).length:=by rw [tkCs_len];exact c
  rw [List.getElem?_eq_getElem hl]
  exact h3 j _ (List.getElem?_eq_getElem hl)
 ·rw [if_neg c,List.getElem?_eq_none (by rw [tkCs_len];omega)]
theorem Rw.first {w:World} {g z:Nat} {L M:List Tk} (h:Rw w g z (L++M)):Rw w g z L:=by
 obtain ⟨cur,hb,⟨hs,hc⟩,h3⟩:=h
 refine ⟨cur,hb,⟨hs,by rw [List.length_append] at hc;omega⟩,fun j u hj=>h3 j u ?_⟩
 rw [tkCs_append,List.getElem?_append_left]
 ·exact hj
 ·rcases Nat.lt_or_ge j (tkCs L).length with c | c
  ·exact c
  ·rw [List.getElem?_eq_none c] at hj;cases hj
end Go.Proofs.YtlgibnmoogbdcaaGreat
