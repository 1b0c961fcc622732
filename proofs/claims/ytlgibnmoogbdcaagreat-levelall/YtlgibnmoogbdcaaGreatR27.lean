/-
  The mathematics of merging two neighbouring parts in place: one that goes to its place among others, and the symmetric cut.
  One that goes to its place among those behind it, by the library (slices.symMergeCmpFunc, the first part of one element).
  One that goes to its place among those ahead of it, by the library (slices.symMergeCmpFunc, the second part of one element).
-/
import Derived.Test.YtlgibnmoogbdcaaGreatR26
namespace Go.Proofs.YtlgibnmoogbdcaaGreat
structure Shf (a k:Nat) (L M:List Tk):Prop where
 here:gt M k=gt L a
 less:∀ q,a≤q→q<k→gt M q=gt L (q+1)
 same:∀ q,q<a∨k<q→gt M q=gt L q
theorem Shf.start (a:Nat) (L:List Tk):Shf a a L L:=⟨rfl,fun q h1 h2=>by omega,fun _ _=>rfl⟩
theorem Shf.step {a k:Nat} {L M:List Tk} (h:Shf a k L M) (ha:a≤k) (hk:k+1<M.length):Shf a (k+1) L (swT M k (k+1)):=by
 refine ⟨?_,fun q h1 h2=>?_,fun q h1=>?_⟩
 ·rw [swT_at (by omega) hk,if_pos rfl,h.here]
 ·rw [swT_at (by omega) hk,if_neg (by omega)]
  by_cases c:k=q
  ·rw [if_pos c,h.same _ (.inr (Nat.lt_succ_self k)),c]
  ·rw [if_neg c,h.less q h1 (by omega)]
 ·rw [swT_at (by omega) hk,if_neg (by omega),if_neg (by omega),h.same q (by omega)]
theorem Shf.rl {a k b:Nat} {L M:List Tk} (h:Shf a k L M) (r:Rl a b L M) (ha:a≤k) (hb:k+1<b) (hl:b≤L.length) (e:(gt L (k+1)).id≠(gt L a).id):Rl a b L (swT M k (k+1)) :=
 r.trans (Rl.swap (by rw [r.len];omega) ha hb (by rw [h.here,h.same _ (.inr (Nat.lt_succ_self k))];exact Ne.symm e))
theorem Shf.sd {a i b:Nat} {L M:List Tk} (h:Shf a (i - 1) L M) (hi:a+1≤i) (hib:i≤b) (s:Sd (a+1) b L) (h1:∀ q,a+1≤q→q<i→(gt L q).id<(gt L a).id) (h2:∀ q,i≤q→q<b→(gt L a).id≤(gt L q).id):Sd a b M:=fun p q hp hpq hq=>by
 by_cases c:q<i - 1
 ·rw [h.less p hp (by omega),h.less q (by omega) c]
  exact s _ _ (by omega) (by omega) (by omega)
 ·by_cases d:q=i - 1
  ·rw [d,h.here]
   by_cases e:p=i - 1
   ·rw [e,h.here];exact Int.le_refl _
   ·rw [h.less p hp (by omega)]
    have:=h1 (p+1) (by omega) (by omega)
    omega
  ·rw [h.same q (.inr (by omega))]
   by_cases e:p<i - 1
   ·rw [h.less p hp e]
    exact s _ _ (by omega) (by omega) hq
   ·by_cases f:p=i - 1
    ·rw [f,h.here]
     exact h2 q (by omega) hq
    ·rw [h.same p (.inr (by omega))]
     exact s _ _ (by omega) hpq hq
structure Shb (m k:Nat) (L M:List Tk):Prop where
 here:gt M k=gt L m
 more:∀ q,k<q→q≤m→gt M q=gt L (q - 1)
 same:∀ q,q<k∨m<q→gt M q=gt L q
theorem Shb.start (m:Nat) (L:List Tk):Shb m m L L:=⟨rfl,fun q h1 h2=>by omega,fun _ _=>rfl⟩
theorem Shb.step {m k:Nat} {L M:List Tk} (h:Shb m k L M) (h0:0<k) (hk:k<M.length) (hm:k≤m):Shb m (k - 1) L (swT M k (k - 1)):=by
 refine ⟨?_,fun q h1 h2=>?_,fun q h1=>?_⟩
 ·rw [swT_at hk (by omega),if_pos rfl,h.here]
 ·rw [swT_at hk (by omega),if_neg (by omega)]
  by_cases c:k=q
  ·rw [if_pos c,h.same _ (.inl (by omega)),c]
  ·rw [if_neg c,h.more q (by omega) h2]
 ·rw [swT_at hk (by omega),if_neg (by omega),if_neg (by omega),h.same q (by omega)]
theorem Shb.rl {a m k:Nat} {L M:List Tk} (h:Shb m k L M) (r:Rl a (m+1) L M) (ha:a<k) (hk:k≤m) (hl:m<L.length) (e:(gt L (k - 1)).id≠(gt L m).id):Rl a (m+1) L (swT M k (k - 1)):=by
 rw [swT_comm (by rw [r.len];omega) (by rw [r.len];omega)]
 obtain ⟨p,rfl⟩:∃ p,k=p+1:=⟨k - 1,by omega⟩
 exact r.trans (Rl.swap (k:=p) (by rw [r.len];omega) (by omega) (by omega) (by rw [h.here,h.same p (.inl (Nat.lt_succ_self p))];rwa [Nat.add_sub_cancel] at e))
theorem Shb.sd {a i m:Nat} {L M:List Tk} (h:Shb m i L M) (hi:a≤i) (him:i≤m) (s:Sd a m L) (h1:∀ q,a≤q→q<i→(gt L q).id≤(gt L m).id) (h2:∀ q,i≤q→q<m→(gt L m).id<(gt L q).id):Sd a (m+1) M:=fun p q hp hpq hq=>by
 by_cases c:q<i
 ·rw [h.same p (.inl (by omega)),h.same q (.inl c)]
  exact s _ _ hp hpq (by omega)
 ·by_cases d:q=i
  ·rw [d,h.here]
   by_cases e:p=i
   ·rw [e,h.here];exact Int.le_refl _
   ·rw [h.same p (.inl (by omega))]
    exact h1 p hp (by omega)
  ·rw [h.more q (by omega) (by omega)]
   by_cases e:p<i
   ·rw [h.same p (.inl e)]
    exact s _ _ hp (by omega) (by omega)
   ·by_cases f:p=i
    ·rw [f,h.here]
     have:=h2 (q - 1) (by omega) (by omega)
     omega
    ·rw [h.more p (by omega) (by omega)]
     exact s _ _ (by omega) (by omega) (by omega)
def Crs (a m b:Nat) (L:List Tk):Prop:=∀ i j,a≤i→i<m→m≤j→j<b→(gt L i).id≤(gt L j).id
theorem Rl.crs_l {a m b:Nat} {L M:List Tk} (h:Rl a m L M) (c:Crs a m b L):Crs a m b M:=fun i j i1 i2 j1 j2=>by
 obtain ⟨k,k1,k2,e⟩:=h.ins i i1 i2
 rw [e,h.out j (.inr j1)]
 exact c k j k1 k2 j1 j2
theorem Rl.crs_r {a m b:Nat} {L M:List Tk} (h:Rl m b L M) (c:Crs a m b L):Crs a m b M:=fun i j i1 i2 j1 j2=>by
 obtain ⟨k,k1,k2,e⟩:=h.ins j j1 j2
 rw [e,h.out i (.inl i2)]
 exact c i k i1 i2 k1 k2
def syLo (a m b h:Nat):Nat:=if h<m then h+m - b else a
def syHi (m h:Nat):Nat:=if h<m then h else m
structure Mid (a m b h:Nat):Prop where
 am:a<m
 mb:m<b
 lo:2*h≤a+b
 hi:a+b≤2*h+1
theorem Mid.rng {a m b h:Nat} (k:Mid a m b h):a≤syLo a m b h∧syLo a m b h≤syHi m h∧syHi m h≤m∧syHi m h≤h:=by
 obtain ⟨k1,k2,k3,k4⟩:=k
 unfold syLo syHi
 by_cases c:h<m
 ·rw [if_pos c,if_pos c];omega
 ·rw [if_neg c,if_neg c];omega
theorem Mid.at {a m b h:Nat} (k:Mid a m b h) {c:Nat} (h1:syLo a m b h≤c) (h2:c<syHi m h):a≤c∧c<m∧c+1≤h+m∧m≤h+m - 1 - c∧h+m - 1 - c<b:=by
 obtain ⟨k1,k2,k3,k4⟩:=k
 unfold syLo at h1
 unfold syHi at h2
 by_cases d:h<m
 ·rw [if_pos d] at h1 h2;omega
 ·rw [if_neg d] at h1 h2;omega
structure Sch (a m b h:Nat) (L:List Tk) (s r:Nat):Prop where
 lo:syLo a m b h≤s
 sr:s≤r
 hi:r≤syHi m h
 yes:∀ c,syLo a m b h≤c→c<s→(gt L c).id≤(gt L (h+m - 1 - c)).id
 no:∀ c,r≤c→c<syHi m h→(gt L (h+m - 1 - c)).id<(gt L c).id
theorem Sch.start {a m b h:Nat} (k:Mid a m b h) (L:List Tk):Sch a m b h L (syLo a m b h) (syHi m h):=⟨Nat.le_refl _,k.rng.2.1,Nat.le_refl _,fun c h1 h2=>by omega,fun c h1 h2=>by omega⟩
theorem Sch.up {a m b h:Nat} {L:List Tk} {s r c:Nat} (k:Mid a m b h) (x:Sch a m b h L s r) (s1:Sd a m L) (s2:Sd m b L) (hc:s≤c) (hr:c<r) (e:¬ (gt L (h+m - 1 - c)).id<(gt L c).id):Sch a m b h L (c+1) r:=by
 have xl:=x.lo
 have xh:=x.hi
 refine ⟨by omega,hr,x.hi,fun q h1 h2=>?_,x.no⟩
 obtain ⟨q1,q2,q3,q4,q5⟩:=k.at h1 (by omega)
 obtain ⟨c1,c2,c3,c4,c5⟩:=k.at (c:=c) (by omega) (by omega)
 have e1:=s1 q c q1 (by omega) c2
 have e2:=s2 (h+m - 1 - c) (h+m - 1 - q) c4 (by omega) q5
 omega
theorem Sch.down {a m b h:Nat} {L:List Tk} {s r c:Nat} (k:Mid a m b h) (x:Sch a m b h L s r) (s1:Sd a m L) (s2:Sd m b L) (hc:s≤c) (hr:c<r) (e:(gt L (h+m - 1 - c)).id<(gt L c).id):Sch a m b h L s c:=by
 have xl:=x.lo
 have xh:=x.hi
 refine ⟨x.lo,hc,by omega,x.yes,fun q h1 h2=>?_⟩
 obtain ⟨q1,q2,q3,q4,q5⟩:=k.at (c:=q) (by omega) h2
 obtain ⟨c1,c2,c3,c4,c5⟩:=k.at (c:=c) (by omega) (by omega)
 have e1:=s1 c q c1 h1 q2
 have e2:=s2 (h+m - 1 - q) (h+m - 1 - c) q4 (by omega) c5
 omega
structure Cut (a m b h:Nat) (L:List Tk) (s e:Nat):Prop where
 rng:(a≤s∧s≤m)∧(m≤e∧e≤b)∧(s≤h∧h≤e)∧s+e=h+m∧(a<h∧h<b)
 gr:∀ i j,s≤i→i<m→m≤j→j<e→(gt L j).id<(gt L i).id
 le:∀ i j,a≤i→i<s→e≤j→j<b→(gt L i).id≤(gt L j).id
theorem Sch.cut {a m b h:Nat} {L:List Tk} {s:Nat} (k:Mid a m b h) (x:Sch a m b h L s s) (s1:Sd a m L) (s2:Sd m b L):Cut a m b h L s (h+m - s):=by
 obtain ⟨k1,k2,k3,k4⟩:=id k
 obtain ⟨r1,r2,r3,r4⟩:=k.rng
 obtain ⟨xl,-,xh,xy,xn⟩:=x
 have hsm:s≤m:=by omega
 have hsh:s≤h:=by omega
 have heb:h+m - s≤b:=by
  unfold syLo at xl
  by_cases c:h<m
  ·rw [if_pos c] at xl;omega
  ·rw [if_neg c] at xl;omega
 refine ⟨⟨⟨by omega,hsm⟩,⟨by omega,heb⟩,⟨hsh,by omega⟩,by omega,by omega,by omega⟩,fun i j i1 i2 j1 j2=>?_,fun i j i1 i2 j1 j2=>?_⟩
 ·by_cases c:s<syHi m h
  ·have e:=xn s (Nat.le_refl _) c
   have e1:=s1 s i (by omega) i1 i2
   have e2:=s2 j (h+m - 1 - s) j1 (by omega) (by omega)
   omega
  ·unfold syHi at c
   by_cases d:h<m
   ·rw [if_pos d] at c;omega
   ·rw [if_neg d] at c;omega
 ·by_cases c:syLo a m b h<s
  ·have e:=xy (s - 1) (by omega) (by omega)
   have e1:=s1 i (s - 1) i1 (by omega) (by omega)
   have e2:=s2 (h+m - 1 - (s - 1)) j (by omega) (by omega) j2
   omega
  ·unfold syLo at c
   by_cases d:h<m
   ·rw [if_pos d] at c;omega
   ·rw [if_neg d] at c;omega
structure Rtd (a m b h s e:Nat) (L M:List Tk):Prop where
 rl:Rl a b L M
 s1:Sd a s M
 s2:Sd s h M
 s3:Sd h e M
 s4:Sd e b M
 crs:Crs a h b M
theorem Cut.rtd {a m b h s e:Nat} {L M:List Tk} (x:Cut a m b h L s e) (d1:Sd a m L) (d2:Sd m b L) (r:Rl s e L M) (y1:∀ k,s≤k→k<h→gt M k=gt L (k+(m - s))) (y2:∀ k,h≤k→k<e→gt M k=gt L (k - (e - m))):Rtd a m b h s e L M:=by
 obtain ⟨⟨⟨r1,r2⟩,⟨r3,r4⟩,⟨r5,r6⟩,r7,r8,r9⟩,gr,le⟩:=x
 have o1:∀ k,k<s→gt M k=gt L k:=fun k hk=>r.out k (.inl hk)
 have o2:∀ k,e≤k→gt M k=gt L k:=fun k hk=>r.out k (.inr hk)
 refine ⟨r.wide r1 r4,fun i j h1 h2 h3=>?_,fun i j h1 h2 h3=>?_,fun i j h1 h2 h3=>?_,fun i j h1 h2 h3=>?_,fun i j i1 i2 j1 j2=>?_⟩
 ·rw [o1 i (by omega),o1 j h3];exact d1 i j h1 h2 (by omega)
 ·rw [y1 i h1 (by omega),y1 j (by omega) h3];exact d2 _ _ (by omega) (by omega) (by omega)
 ·rw [y2 i h1 (by omega),y2 j (by omega) h3];exact d1 _ _ (by omega) (by omega) (by omega)
 ·rw [o2 i h1,o2 j (by omega)];exact d2 i j (by omega) h2 h3
 ·by_cases c:i<s
  ·by_cases d:j<e
   ·rw [o1 i c,y2 j j1 d];exact d1 _ _ i1 (by omega) (by omega)
   ·rw [o1 i c,o2 j (by omega)];exact le i j i1 c (by omega) j2
  ·by_cases d:j<e
   ·rw [y1 i (by omega) i2,y2 j j1 d]
    have:=gr (j - (e - m)) (i+(m - s)) (by omega) (by omega) (by omega) (by omega)
    omega
   ·rw [y1 i (by omega) i2,o2 j (by omega)];exact d2 _ _ (by omega) (by omega) j2
theorem Cut.none {a m b h s e:Nat} {L:List Tk} (x:Cut a m b h L s e) (d1:Sd a m L) (d2:Sd m b L) (c:¬ (s<m∧m<e)):Rtd a m b h s e L L:=by
 obtain ⟨⟨r1,r2⟩,⟨r3,r4⟩,⟨r5,r6⟩,r7,r8,r9⟩:=x.rng
 exact x.rtd d1 d2 (Rl.refl _ _ _) (fun k h1 h2=>by
  by_cases d:s<m
  ·omega
  ·rw [show k+(m - s)=k from by omega]) (fun k h1 h2=>by
  by_cases d:m<e
  ·omega
  ·rw [show k - (e - m)=k from by omega])
structure Hf1 (a b h e:Nat) (L M:List Tk):Prop where
 rl:Rl a b L M
 s1:Sd a h M
 s3:Sd h e M
 s4:Sd e b M
 crs:Crs a h b M
theorem Rtd.half {a m b h s e:Nat} {L M N:List Tk} (x:Rtd a m b h s e L M) (hb:h≤b) (he:h≤e) (r:Rl a h M N) (d:Sd a h N):Hf1 a b h e L N :=
 ⟨x.rl.trans (r.wide (Nat.le_refl _) hb),d,r.sd x.s3 (.inr (Nat.le_refl _)),r.sd x.s4 (.inr he),r.crs_l x.crs⟩
theorem Rtd.half0 {a m b h s e:Nat} {L M:List Tk} (x:Rtd a m b h s e L M) (ha:a≤s) (hs:s≤h) (c:¬ (a<s∧s<h)):Hf1 a b h e L M:=by
 refine ⟨x.rl,?_,x.s3,x.s4,x.crs⟩
 by_cases d:a<s
 ·obtain rfl:s=h:=by omega
  exact x.s1
 ·obtain rfl:a=s:=by omega
  exact x.s2
theorem Hf1.all {a b h e:Nat} {L M N:List Tk} (x:Hf1 a b h e L M) (ha:a≤h) (r:Rl h b M N) (d:Sd h b N):Rl a b L N∧Sd a b N :=
 ⟨x.rl.trans (r.wide ha (Nat.le_refl _)),Sd.two (r.sd x.s1 (.inl (Nat.le_refl _))) d (r.crs_r x.crs)⟩
theorem Hf1.all0 {a b h e:Nat} {L M:List Tk} (x:Hf1 a b h e L M) (he:h≤e) (hb:e≤b) (c:¬ (h<e∧e<b)):Rl a b L M∧Sd a b M:=by
 refine ⟨x.rl,Sd.two x.s1 ?_ x.crs⟩
 by_cases d:h<e
 ·obtain rfl:e=b:=by omega
  exact x.s3
 ·obtain rfl:h=e:=by omega
  exact x.s4
end Go.Proofs.YtlgibnmoogbdcaaGreat

namespace Go.Proofs.YtlgibnmoogbdcaaGreat
open Go.RowKit
structure LkA (a b:Nat) (L:List Tk) (i j:Nat):Prop where
 lo:∀ q,a+1≤q→q<i→(gt L q).id<(gt L a).id
 hi:∀ q,j≤q→q<b→(gt L a).id≤(gt L q).id
structure GoA (g z n a b k:Nat) (L:List Tk) (w wr:World):Prop where
 ex:∃ M,M.length=n∧Rw wr g z M∧Rl a b L M∧Shf a k L M
 kept:Kept (fun j=>j=g) w wr
set_option maxRecDepth 20000 in
set_option maxHeartbeats 2000000 in
theorem symA_ok (g z a b n:Nat) (c:Nat) (L:List Tk) (w:World) (h:Rw w g z L) (hn:L.length=n) (hab:a+1<b) (hb:b≤n) (hl:n≤2000) (hs:Sd (a+1) b L) :
  Calls Tryz.prog 96 #[.slice (some ⟨g,0,none⟩) n c,.int .i64 a,.int .i64 ((a+1:Nat):Int),.int .i64 b,.func (.func 55) #[] #[]] w fun e w'=>e=.returned (.tuple #[])∧OutR g z n a b b L w w':=by
 have eg:∀ args w,(callFunc 55 args).run Tryz.prog w=.ok (.enter 55 args) w:=enters_of Tryz.func55 (by kernel_rfl) rfl
 have HR:Hd (Rw w g z L∧Sd (a+1) b L∧L.length=n):=⟨h,hs,hn⟩
 have HI:Hd (LkA a b L (a+1) b):=⟨⟨fun q h1 h2=>by omega,fun q h1 h2=>by omega⟩⟩
 clear h hs hn
 obtain ⟨m,hm⟩:∃ m,m=a+1:=⟨_,rfl⟩
 rw [←hm]
 have hm1:(m:Int) - (a:Int)=1:=by omega
 have HM:Hd (m=a+1):=⟨hm⟩
 have hmb:m<b:=by omega
 rw [←hm] at HI
 clear hm hab
 go_enter Tryz.func96,Tryz.ntmps96
 go_wp2_with fail
 go_loopw [10,11,12] (fun vi vj _ wr=>∃ i j:Nat,vi=.int .i64 i∧vj=.int .i64 j∧m≤i∧i≤j∧j≤b∧Hd (LkA a b L i j)∧Hd (Below w.heap.size w wr)) (fun vi vj _ _=>(intOf vj).toNat - (intOf vi).toNat)
 case atStart=>exact ⟨m,b,rfl,rfl,Nat.le_refl _,by omega,Nat.le_refl _,HI,⟨Below.refl _ _⟩⟩
 case round =>
  obtain ⟨i,j,rfl,rfl,h1,h2,h3,hI,hB⟩:=hrel
  clear HI
  by_cases hij:i<j
  ·obtain ⟨h,hh⟩:∃ h,h=(i+j) / 2:=⟨_,rfl⟩
   have ea:((i:Int)+(j:Int)) / 2=(h:Int):=by omega
   have hi1:i≤h:=by omega
   have hj1:h<j:=by omega
   clear hh
   have hRw:=HR.out.1.below hB.out
   have hln:=HR.out.2.2
   obtain ⟨x,hx⟩:∃ x,x=gt L h:=⟨_,rfl⟩
   obtain ⟨y,hy⟩:∃ y,y=gt L a:=⟨_,rfl⟩
   have HX:Hd (x=gt L h):=⟨hx⟩
   have HY:Hd (y=gt L a):=⟨hy⟩
   clear hx hy
   obtain ⟨x0,x1,x2,x3,x4⟩:=hRw.at (k:=h) (by omega)
   obtain ⟨y0,y1,y2,y3,y4⟩:=hRw.at (k:=a) (by omega)
   rw [←HX.out] at x0 x1 x2 x3 x4
   rw [←HY.out] at y0 y1 y2 y3 y4
   have C:=cmp_ok x y
   have i1:(h:Int)<(n:Int):=by omega
   have i2:(a:Int)<(n:Int):=by omega
   clear hRw hln
   by_cases hlt:x.id<y.id
   ·have hc:cmI x.id y.id<0:=(cmI_neg _ _).2 hlt
    have HZ:Hd (LkA a b L (h+1) j):=⟨⟨fun q q1 q2=>by
     rw [HX.out,HY.out] at hlt
     have:=HR.out.2.1 q h q1 (by omega) (by omega)
     omega,hI.out.hi⟩⟩
    clear hlt hI HX HY
    generalize cmI x.id y.id=cv at *
    go_wp2_with fail
    refine region_tail 9 (by kernel_rfl) ?_
    simp only [List.take_succ_cons,List.take_zero,List.drop_succ_cons,List.drop_zero]
    repeat still_step
    refine wpStill_nil ?_
    go_wp2_with (go_at_fn 55;refine (C _).mono ?_;rintro e w2 ⟨rfl,b2⟩)
    go_roundw
    case rel=>exact ⟨h+1,j,by go_num,rfl,by omega,by omega,h3,HZ,⟨hB.out.trans ((⟨b2.os,b2.tape,b2.output,b2.size,b2.block⟩:Below wr.heap.size wr w2).mono hB.out.size)⟩⟩
    case measure=>simp [intOf];omega
   ·have hc:¬ cmI x.id y.id<0:=fun h=>hlt ((cmI_neg _ _).1 h)
    have HZ:Hd (LkA a b L i h):=⟨⟨hI.out.lo,fun q q1 q2=>by
     rw [HX.out,HY.out] at hlt
     have:=HR.out.2.1 h q (by omega) q1 q2
     omega⟩⟩
    clear hlt hI HX HY
    generalize cmI x.id y.id=cv at *
    go_wp2_with fail
    refine region_tail 9 (by kernel_rfl) ?_
    simp only [List.take_succ_cons,List.take_zero,List.drop_succ_cons,List.drop_zero]
    repeat still_step
    refine wpStill_nil ?_
    go_wp2_with (go_at_fn 55;refine (C _).mono ?_;rintro e w2 ⟨rfl,b2⟩)
    go_roundw
    case rel=>exact ⟨i,h,rfl,rfl,h1,hi1,by omega,HZ,⟨hB.out.trans ((⟨b2.os,b2.tape,b2.output,b2.size,b2.block⟩:Below wr.heap.size wr w2).mono hB.out.size)⟩⟩
    case measure=>simp [intOf];omega
  ·obtain rfl:i=j:=by omega
   have HG:Hd (GoA g z n a b a L w wr):=⟨⟨L,HR.out.2.2,HR.out.1.below hB.out,Rl.refl _ _ _,Shf.start _ _⟩,Kept.of_below hB.out _⟩
   clear hB
   go_wp2_with fail
   go_loopw [13] (fun vk wr=>∃ k:Nat,vk=.int .i64 k∧a≤k∧k+1≤i∧Hd (GoA g z n a b k L w wr)) (fun vk _=>n - (intOf vk).toNat)
   case atStart=>exact ⟨a,rfl,Nat.le_refl _,by omega,HG⟩
   case round =>
    obtain ⟨k,rfl,k1,k2,hG⟩:=hrel
    clear HG
    by_cases hk:k+1<i
    ·obtain ⟨⟨L0,hM,hRw,hRl,hSh⟩,hK⟩:=hG.out
     have hR:Hd (Rw wr g z L0):=⟨hRw⟩
     have hK:Hd (Kept (fun j=>j=g) w wr):=⟨hK⟩
     have HZ0:Hd (∀ W,Rw W g z (swT L0 k (k+1))→Kept (fun j=>j=g) w W→GoA g z n a b (k+1) L w W):=⟨fun W r k'=>⟨⟨_,by rw [swT_len];exact hM,r,hSh.rl hRl k1 (by omega) (by rw [HR.out.2.2];omega) (by have:=hI.out.lo (k+1) (by omega) (by omega);omega),hSh.step k1 (by omega)⟩,k'⟩⟩
     clear hG hRw hRl hSh
     obtain ⟨x,hx⟩:∃ x,x=gt L0 k:=⟨_,rfl⟩
     obtain ⟨y,hy⟩:∃ y,y=gt L0 (k+1):=⟨_,rfl⟩
     have HX:Hd (x=gt L0 k):=⟨hx⟩
     have HY:Hd (y=gt L0 (k+1)):=⟨hy⟩
     clear hx hy
     have i1:(k:Int)<(n:Int):=by omega
     have i2:(k:Int)+1<(n:Int):=by omega
     have e1:((k:Int)+1).toNat=k+1:=by omega
     have p1:(0:Int)≤(k:Int)+1:=by omega
     have p3:(k:Int)<(i:Int) - 1:=by omega
     have V1:Hd (IntKind.i64.wrap ((k:Int)+1)=(k:Int)+1):=⟨by rw [IntKind.wrap_i64];omega⟩
     go_wp2_with fail
     have RD:Hd (Rw wr.drew g z L0):=⟨hR.out⟩
     have UU:C5 wr.drew g k x∧C5 wr.drew g (k+1) y:=⟨by rw [HX.out];exact RD.out.at (by omega),by rw [HY.out];exact RD.out.at (by omega)⟩
     have HXY:Hd (∀ W,Rw W g z ((L0.set (k) y).set ((k+1)) x)→Rw W g z (swT L0 (k) ((k+1)))):=⟨fun W h=>by rw [HX.out,HY.out] at h;exact h⟩
     clear HX HY
     have KD:Hd (Kept (fun q=>q=g) wr wr.drew):=⟨(Kept.refl _ _).drew⟩
     refine AnyG.start (T:=fun _=>True) (U:=fun W=>C5 W g k x∧C5 W g (k+1) y) (j0:=15) (by kernel_rfl) ?_
     generalize wr.drew=wd at *
     refine .tr 0 61 ⟨trivial,fun _=>UU⟩ ?_;simp only [oqA,oqB,oqC]
     refine .tr 1 62 ⟨trivial,fun _=>UU⟩ ?_;simp only [oqA,oqB,oqC]
     refine .tr 2 63 ⟨trivial,fun _=>UU⟩ ?_;simp only [oqA,oqB,oqC]
     refine .tr 3 64 ⟨trivial,fun _=>UU⟩ ?_;simp only [oqA,oqB,oqC]
     refine .tr (v:=.int .i64 ((k:Int)+1)) 4 65 ⟨trivial,fun _=>UU⟩ ?_ (hy:=fun w hSw=>by have s:=V1.out;go_simp;try rfl);simp only [oqA,oqB,oqC]
     refine .tr 5 66 ⟨trivial,fun _=>UU⟩ ?_;simp only [oqA,oqB,oqC]
     refine .tr 6 67 ⟨trivial,fun _=>UU⟩ ?_;simp only [oqA,oqB,oqC]
     refine .tr (v:=.int .i64 ((k:Int)+1)) 7 68 ⟨trivial,fun _=>UU⟩ ?_ (hy:=fun w hSw=>by have s:=V1.out;go_simp;try rfl);simp only [oqA,oqB,oqC]
     refine .tr 8 69 ⟨trivial,fun _=>UU⟩ ?_;simp only [oqA,oqB,oqC]
     refine .er 9 70 ⟨trivial,fun _=>UU⟩ ?_ (hy:=fun w hSw=>by obtain ⟨-,-,⟨c0,c1,c2,c3,c4⟩⟩:=hSw;go_simp;rfl);simp only [oqA,oqB,oqC]
     refine .tr 10 71 ⟨trivial,fun _=>UU⟩ ?_;simp only [oqA,oqB,oqC]
     refine .tr 11 72 ⟨trivial,fun _=>UU⟩ ?_;simp only [oqA,oqB,oqC]
     refine .tr 12 73 ⟨trivial,fun _=>UU⟩ ?_;simp only [oqA,oqB,oqC]
     refine .er 13 74 ⟨trivial,fun _=>UU⟩ ?_ (hy:=fun w hSw=>by obtain ⟨-,⟨c0,c1,c2,c3,c4⟩,-⟩:=hSw;go_simp;rfl);simp only [oqA,oqB,oqC]
     refine .tr 14 75 ⟨trivial,fun _=>UU⟩ ?_;simp only [oqA,oqB,oqC]
     refine AnyG.ready (rs:=[15]) (by kernel_rfl) (by simp) ?_
     refine AllG.cons rfl (fun K hK=>?_) AllG.nil
     obtain ⟨⟨a0,a1,a2,a3,a4⟩,-⟩:=UU
     have fz:=RD.out.frozen
     obtain ⟨P1,P2⟩:=RD.out.put (k:=k) (by omega) y
     go_simp
     refine hK.out _ _ ⟨trivial,fun h=>by cases h⟩ ?_
     clear hK K a0 a1 a2 a3 a4 fz
     generalize (((((wd.setCell ⟨g,k*5,none⟩ (.int .i64 y.id)).setCell ⟨g,k*5+1,none⟩ (.int .i64 y.wid)).setCell ⟨g,k*5+2,none⟩ (.int .i64 y.sts)).setCell ⟨g,k*5+3,none⟩ (.int .i64 y.sin)).setCell ⟨g,k*5+4,none⟩ (.int .i64 y.unt))=w6 at P1 P2 ⊢
     refine .tr 16 76 ⟨trivial,fun h=>by cases h⟩ ?_;simp only [oqA,oqB,oqC]
     refine AnyG.ready (rs:=[17]) (by kernel_rfl) (by simp) ?_
     refine AllG.cons rfl (fun K hK=>?_) AllG.nil
     obtain ⟨a0,a1,a2,a3,a4⟩:=P1.at (k:=(k+1)) (by rw [List.length_set];omega)
     have fz:=P1.frozen
     obtain ⟨P3,P4⟩:=P1.put (k:=(k+1)) (by rw [List.length_set];omega) x
     go_simp
     refine hK.out _ _ ⟨trivial,fun h=>by cases h⟩ ?_
     clear hK K a0 a1 a2 a3 a4 fz
     generalize (((((w6.setCell ⟨g,(k+1)*5,none⟩ (.int .i64 x.id)).setCell ⟨g,(k+1)*5+1,none⟩ (.int .i64 x.wid)).setCell ⟨g,(k+1)*5+2,none⟩ (.int .i64 x.sts)).setCell ⟨g,(k+1)*5+3,none⟩ (.int .i64 x.sin)).setCell ⟨g,(k+1)*5+4,none⟩ (.int .i64 x.unt))=w9 at P3 P4 ⊢
     refine AnyG.done (by kernel_rfl) ?_ _
     have HZ:Hd (Rw w9 g z (swT L0 k (k+1))∧Kept (fun q=>q=g) wr w9):=⟨HXY.out _ P3,KD.out.trans (P2.trans P4)⟩
     clear P1 P2 P3 P4 RD KD HXY
     go_wp2_with fail
     go_roundw
     case rel=>exact ⟨k+1,by go_num,by omega,by omega,⟨HZ0.out _ HZ.out.1 (hK.out.trans HZ.out.2)⟩⟩
     case measure=>simp [intOf];omega
    ·obtain rfl:i=k+1:=by omega
     have HZ:Hd (OutR g z n a b b L w wr):=by
      obtain ⟨⟨L0,hM,hRw,hRl,hSh⟩,hK⟩:=hG.out
      exact ⟨⟨L0,hM,hRw,hRl,Shf.sd (i:=k+1) hSh (by omega) h3 HR.out.2.1 hI.out.lo hI.out.hi⟩,hK⟩
     clear hG hI
     have p3:¬ (k:Int)<((k+1:Nat):Int) - 1:=by omega
     go_wp2_with fail
     (try simp only [Exit.inBlock,Exit.then])
     refine bodyPost_ret (results_none rfl _ _ _) rfl ?_
     exact ⟨rfl,HZ.out⟩
structure LkB (a m:Nat) (L:List Tk) (i j:Nat):Prop where
 lo:∀ q,a≤q→q<i→(gt L q).id≤(gt L m).id
 hi:∀ q,j≤q→q<m→(gt L m).id<(gt L q).id
structure GoB (g z n a m k:Nat) (L:List Tk) (w wr:World):Prop where
 ex:∃ M,M.length=n∧Rw wr g z M∧Rl a (m+1) L M∧Shb m k L M
 kept:Kept (fun j=>j=g) w wr
set_option maxRecDepth 20000 in
set_option maxHeartbeats 2000000 in
theorem symB_ok (g z a m n:Nat) (c:Nat) (L:List Tk) (w:World) (h:Rw w g z L) (hn:L.length=n) (ham:a+1<m) (hb:m<n) (hl:n≤2000) (hs:Sd a m L) :
  Calls Tryz.prog 96 #[.slice (some ⟨g,0,none⟩) n c,.int .i64 a,.int .i64 m,.int .i64 ((m+1:Nat):Int),.func (.func 55) #[] #[]] w fun e w'=>e=.returned (.tuple #[])∧OutR g z n a (m+1) (m+1) L w w':=by
 have eg:∀ args w,(callFunc 55 args).run Tryz.prog w=.ok (.enter 55 args) w:=enters_of Tryz.func55 (by kernel_rfl) rfl
 have HR:Hd (Rw w g z L∧Sd a m L∧L.length=n):=⟨h,hs,hn⟩
 have HI:Hd (LkB a m L a m):=⟨⟨fun q h1 h2=>by omega,fun q h1 h2=>by omega⟩⟩
 clear h hs hn
 obtain ⟨b,hm⟩:∃ b,b=m+1:=⟨_,rfl⟩
 rw [←hm]
 have hm1:((m:Int) - (a:Int) == 1)=false:=by simp;omega
 have hm2:(b:Int) - (m:Int)=1:=by omega
 have HM:Hd (b=m+1):=⟨hm⟩
 clear hm
 have hbn:b≤n:=by have:=HM.out;omega
 go_enter Tryz.func96,Tryz.ntmps96
 go_wp2_with fail
 go_loopw [14,15,16] (fun vi vj _ wr=>∃ i j:Nat,vi=.int .i64 i∧vj=.int .i64 j∧a≤i∧i≤j∧j≤m∧Hd (LkB a m L i j)∧Hd (Below w.heap.size w wr)) (fun vi vj _ _=>(intOf vj).toNat - (intOf vi).toNat)
 case atStart=>exact ⟨a,m,rfl,rfl,Nat.le_refl _,by omega,Nat.le_refl _,HI,⟨Below.refl _ _⟩⟩
 case round =>
  obtain ⟨i,j,rfl,rfl,h1,h2,h3,hI,hB⟩:=hrel
  clear HI
  by_cases hij:i<j
  ·obtain ⟨h,hh⟩:∃ h,h=(i+j) / 2:=⟨_,rfl⟩
   have ea:((i:Int)+(j:Int)) / 2=(h:Int):=by omega
   have hi1:i≤h:=by omega
   have hj1:h<j:=by omega
   clear hh
   have hRw:=HR.out.1.below hB.out
   have hln:=HR.out.2.2
   obtain ⟨x,hx⟩:∃ x,x=gt L m:=⟨_,rfl⟩
   obtain ⟨y,hy⟩:∃ y,y=gt L h:=⟨_,rfl⟩
   have HX:Hd (x=gt L m):=⟨hx⟩
   have HY:Hd (y=gt L h):=⟨hy⟩
   clear hx hy
   obtain ⟨x0,x1,x2,x3,x4⟩:=hRw.at (k:=m) (by omega)
   obtain ⟨y0,y1,y2,y3,y4⟩:=hRw.at (k:=h) (by omega)
   rw [←HX.out] at x0 x1 x2 x3 x4
   rw [←HY.out] at y0 y1 y2 y3 y4
   have C:=cmp_ok x y
   have i1:(h:Int)<(n:Int):=by omega
   have i2:(m:Int)<(n:Int):=by omega
   clear hRw hln
   by_cases hlt:x.id<y.id
   ·have hc:cmI x.id y.id<0:=(cmI_neg _ _).2 hlt
    have HZ:Hd (LkB a m L i h):=⟨⟨hI.out.lo,fun q q1 q2=>by
     rw [HX.out,HY.out] at hlt
     have:=HR.out.2.1 h q (by omega) q1 q2
     omega⟩⟩
    clear hlt hI HX HY
    generalize cmI x.id y.id=cv at *
    go_wp2_with fail
    refine region_tail 9 (by kernel_rfl) ?_
    simp only [List.take_succ_cons,List.take_zero,List.drop_succ_cons,List.drop_zero]
    repeat still_step
    refine wpStill_nil ?_
    go_wp2_with (go_at_fn 55;refine (C _).mono ?_;rintro e w2 ⟨rfl,b2⟩)
    go_roundw
    case rel=>exact ⟨i,h,rfl,rfl,h1,hi1,by omega,HZ,⟨hB.out.trans ((⟨b2.os,b2.tape,b2.output,b2.size,b2.block⟩:Below wr.heap.size wr w2).mono hB.out.size)⟩⟩
    case measure=>simp [intOf];omega
   ·have hc:¬ cmI x.id y.id<0:=fun h=>hlt ((cmI_neg _ _).1 h)
    have hc2:0≤cmI x.id y.id:=by omega
    have hd:decide (cmI x.id y.id<0)=false:=decide_eq_false hc
    have HZ:Hd (LkB a m L (h+1) j):=⟨⟨fun q q1 q2=>by
     rw [HX.out,HY.out] at hlt
     have:=HR.out.2.1 q h q1 (by omega) (by omega)
     omega,hI.out.hi⟩⟩
    clear hlt hI HX HY
    generalize cmI x.id y.id=cv at *
    go_wp2_with fail
    refine region_tail 9 (by kernel_rfl) ?_
    simp only [List.take_succ_cons,List.take_zero,List.drop_succ_cons,List.drop_zero]
    repeat still_step
    refine wpStill_nil ?_
    go_wp2_with (go_at_fn 55;refine (C _).mono ?_;rintro e w2 ⟨rfl,b2⟩)
    go_roundw
    case rel=>exact ⟨h+1,j,by go_num,rfl,by omega,by omega,h3,HZ,⟨hB.out.trans ((⟨b2.os,b2.tape,b2.output,b2.size,b2.block⟩:Below wr.heap.size wr w2).mono hB.out.size)⟩⟩
    case measure=>simp [intOf];omega
  ·obtain rfl:i=j:=by omega
   have HG:Hd (GoB g z n a m m L w wr):=⟨⟨L,HR.out.2.2,HR.out.1.below hB.out,Rl.refl _ _ _,Shb.start _ _⟩,Kept.of_below hB.out _⟩
   clear hB
   go_wp2_with fail
   go_loopw [17] (fun vk wr=>∃ k:Nat,vk=.int .i64 k∧i≤k∧k≤m∧Hd (GoB g z n a m k L w wr)) (fun vk _=>(intOf vk).toNat)
   case atStart=>exact ⟨m,rfl,h3,Nat.le_refl _,HG⟩
   case round =>
    obtain ⟨k,rfl,k1,k2,hG⟩:=hrel
    clear HG
    by_cases hk:i<k
    ·obtain ⟨⟨L0,hM,hRw,hRl,hSh⟩,hK⟩:=hG.out
     have hR:Hd (Rw wr g z L0):=⟨hRw⟩
     have hK:Hd (Kept (fun j=>j=g) w wr):=⟨hK⟩
     have HZ0:Hd (∀ W,Rw W g z (swT L0 k (k - 1))→Kept (fun j=>j=g) w W→GoB g z n a m (k - 1) L w W):=⟨fun W r k'=>⟨⟨_,by rw [swT_len];exact hM,r,hSh.rl hRl (by omega) k2 (by rw [HR.out.2.2];omega) (by have:=hI.out.hi (k - 1) (by omega) (by omega);omega),hSh.step (by omega) (by omega) k2⟩,k'⟩⟩
     clear hG hRw hRl hSh
     obtain ⟨x,hx⟩:∃ x,x=gt L0 k:=⟨_,rfl⟩
     obtain ⟨y,hy⟩:∃ y,y=gt L0 (k - 1):=⟨_,rfl⟩
     have HX:Hd (x=gt L0 k):=⟨hx⟩
     have HY:Hd (y=gt L0 (k - 1)):=⟨hy⟩
     clear hx hy
     have i1:(k:Int)<(n:Int):=by omega
     have i2:(k:Int) - 1<(n:Int):=by omega
     have e1:((k:Int) - 1).toNat=k - 1:=by omega
     have p1:(0:Int)≤(k:Int) - 1:=by omega
     have p3:(i:Int)<(k:Int):=by omega
     have p4:(1:Int)≤(k:Int):=by omega
     have V1:Hd (IntKind.i64.wrap ((k:Int) - 1)=(k:Int) - 1):=⟨by rw [IntKind.wrap_i64];omega⟩
     go_wp2_with fail
     have RD:Hd (Rw wr.drew g z L0):=⟨hR.out⟩
     have UU:C5 wr.drew g k x∧C5 wr.drew g (k - 1) y:=⟨by rw [HX.out];exact RD.out.at (by omega),by rw [HY.out];exact RD.out.at (by omega)⟩
     have HXY:Hd (∀ W,Rw W g z ((L0.set (k) y).set ((k - 1)) x)→Rw W g z (swT L0 (k) ((k - 1)))):=⟨fun W h=>by rw [HX.out,HY.out] at h;exact h⟩
     clear HX HY
     have KD:Hd (Kept (fun q=>q=g) wr wr.drew):=⟨(Kept.refl _ _).drew⟩
     refine AnyG.start (T:=fun _=>True) (U:=fun W=>C5 W g k x∧C5 W g (k - 1) y) (j0:=15) (by kernel_rfl) ?_
     generalize wr.drew=wd at *
     refine .tr 0 113 ⟨trivial,fun _=>UU⟩ ?_;simp only [oqA,oqB,oqC]
     refine .tr 1 114 ⟨trivial,fun _=>UU⟩ ?_;simp only [oqA,oqB,oqC]
     refine .tr 2 115 ⟨trivial,fun _=>UU⟩ ?_;simp only [oqA,oqB,oqC]
     refine .tr 3 116 ⟨trivial,fun _=>UU⟩ ?_;simp only [oqA,oqB,oqC]
     refine .tr (v:=.int .i64 ((k:Int) - 1)) 4 117 ⟨trivial,fun _=>UU⟩ ?_ (hy:=fun w hSw=>by have s:=V1.out;go_simp;try rfl);simp only [oqA,oqB,oqC]
     refine .tr 5 118 ⟨trivial,fun _=>UU⟩ ?_;simp only [oqA,oqB,oqC]
     refine .tr 6 119 ⟨trivial,fun _=>UU⟩ ?_;simp only [oqA,oqB,oqC]
     refine .tr (v:=.int .i64 ((k:Int) - 1)) 7 120 ⟨trivial,fun _=>UU⟩ ?_ (hy:=fun w hSw=>by have s:=V1.out;go_simp;try rfl);simp only [oqA,oqB,oqC]
     refine .tr 8 121 ⟨trivial,fun _=>UU⟩ ?_;simp only [oqA,oqB,oqC]
     refine .er 9 122 ⟨trivial,fun _=>UU⟩ ?_ (hy:=fun w hSw=>by obtain ⟨-,-,⟨c0,c1,c2,c3,c4⟩⟩:=hSw;go_simp;rfl);simp only [oqA,oqB,oqC]
     refine .tr 10 123 ⟨trivial,fun _=>UU⟩ ?_;simp only [oqA,oqB,oqC]
     refine .tr 11 124 ⟨trivial,fun _=>UU⟩ ?_;simp only [oqA,oqB,oqC]
     refine .tr 12 125 ⟨trivial,fun _=>UU⟩ ?_;simp only [oqA,oqB,oqC]
     refine .er 13 126 ⟨trivial,fun _=>UU⟩ ?_ (hy:=fun w hSw=>by obtain ⟨-,⟨c0,c1,c2,c3,c4⟩,-⟩:=hSw;go_simp;rfl);simp only [oqA,oqB,oqC]
     refine .tr 14 127 ⟨trivial,fun _=>UU⟩ ?_;simp only [oqA,oqB,oqC]
     refine AnyG.ready (rs:=[15]) (by kernel_rfl) (by simp) ?_
     refine AllG.cons rfl (fun K hK=>?_) AllG.nil
     obtain ⟨⟨a0,a1,a2,a3,a4⟩,-⟩:=UU
     have fz:=RD.out.frozen
     obtain ⟨P1,P2⟩:=RD.out.put (k:=k) (by omega) y
     go_simp
     refine hK.out _ _ ⟨trivial,fun h=>by cases h⟩ ?_
     clear hK K a0 a1 a2 a3 a4 fz
     generalize (((((wd.setCell ⟨g,k*5,none⟩ (.int .i64 y.id)).setCell ⟨g,k*5+1,none⟩ (.int .i64 y.wid)).setCell ⟨g,k*5+2,none⟩ (.int .i64 y.sts)).setCell ⟨g,k*5+3,none⟩ (.int .i64 y.sin)).setCell ⟨g,k*5+4,none⟩ (.int .i64 y.unt))=w6 at P1 P2 ⊢
     refine .tr 16 128 ⟨trivial,fun h=>by cases h⟩ ?_;simp only [oqA,oqB,oqC]
     refine AnyG.ready (rs:=[17]) (by kernel_rfl) (by simp) ?_
     refine AllG.cons rfl (fun K hK=>?_) AllG.nil
     obtain ⟨a0,a1,a2,a3,a4⟩:=P1.at (k:=(k - 1)) (by rw [List.length_set];omega)
     have fz:=P1.frozen
     obtain ⟨P3,P4⟩:=P1.put (k:=(k - 1)) (by rw [List.length_set];omega) x
     go_simp
     refine hK.out _ _ ⟨trivial,fun h=>by cases h⟩ ?_
     clear hK K a0 a1 a2 a3 a4 fz
     generalize (((((w6.setCell ⟨g,(k - 1)*5,none⟩ (.int .i64 x.id)).setCell ⟨g,(k - 1)*5+1,none⟩ (.int .i64 x.wid)).setCell ⟨g,(k - 1)*5+2,none⟩ (.int .i64 x.sts)).setCell ⟨g,(k - 1)*5+3,none⟩ (.int .i64 x.sin)).setCell ⟨g,(k - 1)*5+4,none⟩ (.int .i64 x.unt))=w9 at P3 P4 ⊢
     refine AnyG.done (by kernel_rfl) ?_ _
     have HZ:Hd (Rw w9 g z (swT L0 k (k - 1))∧Kept (fun q=>q=g) wr w9):=⟨HXY.out _ P3,KD.out.trans (P2.trans P4)⟩
     clear P1 P2 P3 P4 RD KD HXY
     go_wp2_with fail
     go_roundw
     case rel=>exact ⟨k - 1,by go_num,by omega,by omega,⟨HZ0.out _ HZ.out.1 (hK.out.trans HZ.out.2)⟩⟩
     case measure=>simp [intOf];omega
    ·obtain rfl:k=i:=by omega
     have HZ:Hd (OutR g z n a b b L w wr):=by
      have e:=HM.out
      rw [e]
      obtain ⟨⟨L0,hM,hRw,hRl,hSh⟩,hK⟩:=hG.out
      exact ⟨⟨L0,hM,hRw,hRl,hSh.sd h1 h3 HR.out.2.1 hI.out.lo hI.out.hi⟩,hK⟩
     clear hG hI
     go_wp2_with fail
     (try simp only [Exit.inBlock,Exit.then])
     refine bodyPost_ret (results_none rfl _ _ _) rfl ?_
     exact ⟨rfl,HZ.out⟩
end Go.Proofs.YtlgibnmoogbdcaaGreat
