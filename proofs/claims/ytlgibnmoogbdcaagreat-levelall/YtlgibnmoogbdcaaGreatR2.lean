/-
  What a width and a guess count as, the work of a ticket; the finish of a lane's first one, of the program and of the reference.
  Who has waited too long, by the program and by the reference.
  Two lists, two lanes that are the same are found so; the seats of all who wait, of the program and of the reference.
-/
import Derived.Test.YtlgibnmoogbdcaaGreatR0
import Derived.Test.YtlgibnmoogbdcaaGreatR1
namespace Go.Proofs.YtlgibnmoogbdcaaGreat
open Go.RowKit
def clW (x:Int):Int:=min (max x 1) 16
def clG (x:Int):Int:=min (max x 1) 1000
theorem clW_lo (x:Int):1≤clW x:=by unfold clW;omega
theorem clW_hi (x:Int):clW x≤16:=by unfold clW;omega
theorem clG_lo (x:Int):1≤clG x:=by unfold clG;omega
theorem clG_hi (x:Int):clG x≤1000:=by unfold clG;omega
def wrk (x g:Int):Int:=clW x*clG g
theorem wrk_lo (x g:Int):1≤wrk x g:=by
 have h:=Int.mul_le_mul (clW_lo x) (clG_lo g) (by decide) (by have:=clW_lo x;omega)
 simpa [wrk] using h
theorem wrk_hi (x g:Int):wrk x g≤16000:=by
 have h:=Int.mul_le_mul (clW_hi x) (clG_hi g) (by have:=clG_lo g;omega) (by decide)
 simpa [wrk] using h
theorem width_ok (t:Tk) (w:World) :
  Calls Tryz.prog 97 #[.agg #[.int .i64 t.id,.int .i64 t.wid,.int .i64 t.sts,.int .i64 t.sin,.int .i64 t.unt]] w fun e w'=>e=.returned (.int .i64 (clW t.wid))∧Below w.heap.size w w':=by
 obtain ⟨w1,hw1⟩:∃ w1,w1=w.alloc (.cells #[.int .i64 t.id,.int .i64 t.wid,.int .i64 t.sts,.int .i64 t.sin,.int .i64 t.unt] 36):=⟨_,rfl⟩
 have B:Hd (Below w.heap.size w w1):=⟨by rw [hw1];exact alloc_below _ _⟩
 have N1:Blk w1 w.heap.size 36 (tkA t):=by rw [hw1];exact Blk.new _ _ _
 obtain ⟨⟨c0,c1,c2,c3,c4⟩,-⟩:=N1.five
 clear N1 c0 c2 c3 c4
 unfold clW
 go_enter Tryz.func97,Tryz.ntmps97
 go_upto_region 1 with fail
 rw [←hw1]
 clear hw1
 go_wp2
 go_ret;exact ⟨rfl,B.out⟩
theorem rwidth_ok (n:Int) (w:World):Calls Tryz.prog 61 #[.int .i64 n] w fun e w'=>e=.returned (.int .i64 (clW n))∧w'=w:=by
 by_cases c:n<1
 ·have HE:Hd (clW n=1):=⟨by unfold clW;omega⟩
  generalize clW n=z at *
  go_enter Tryz.func61,Tryz.ntmps61
  go_wp2
  go_ret;exact ⟨by rw [HE.out];rfl,rfl⟩
 ·by_cases d:16<n
  ·have HE:Hd (clW n=16):=⟨by unfold clW;omega⟩
   generalize clW n=z at *
   go_enter Tryz.func61,Tryz.ntmps61
   go_wp2
   go_ret;exact ⟨by rw [HE.out];rfl,rfl⟩
  ·have HE:Hd (clW n=n):=⟨by unfold clW;omega⟩
   generalize clW n=z at *
   go_enter Tryz.func61,Tryz.ntmps61
   go_wp2
   go_ret;exact ⟨by rw [HE.out];rfl,rfl⟩
theorem rguess_ok (n:Int) (w:World):Calls Tryz.prog 93 #[.int .i64 n] w fun e w'=>e=.returned (.int .i64 (clG n))∧w'=w:=by
 by_cases c:n<1
 ·have HE:Hd (clG n=1):=⟨by unfold clG;omega⟩
  generalize clG n=z at *
  go_enter Tryz.func93,Tryz.ntmps93
  go_wp2
  go_ret;exact ⟨by rw [HE.out];rfl,rfl⟩
 ·by_cases d:1000<n
  ·have HE:Hd (clG n=1000):=⟨by unfold clG;omega⟩
   generalize clG n=z at *
   go_enter Tryz.func93,Tryz.ntmps93
   go_wp2
   go_ret;exact ⟨by rw [HE.out];rfl,rfl⟩
  ·have HE:Hd (clG n=n):=⟨by unfold clG;omega⟩
   generalize clG n=z at *
   go_enter Tryz.func93,Tryz.ntmps93
   go_wp2
   go_ret;exact ⟨by rw [HE.out];rfl,rfl⟩
theorem work_ok (t:Tk) (g:Int) (w:World) :
  Calls Tryz.prog 100 #[.agg #[.int .i64 t.id,.int .i64 t.wid,.int .i64 t.sts,.int .i64 t.sin,.int .i64 t.unt],.int .i64 g] w fun e w'=>e=.returned (.int .u64 (wrk t.wid g))∧Below w.heap.size w w':=by
 obtain ⟨w1,hw1⟩:∃ w1,w1=w.alloc (.cells #[.int .i64 t.id,.int .i64 t.wid,.int .i64 t.sts,.int .i64 t.sin,.int .i64 t.unt] 36):=⟨_,rfl⟩
 have B:Hd (Below w.heap.size w w1):=⟨by rw [hw1];exact alloc_below _ _⟩
 have N1:Blk w1 w.heap.size 36 (tkA t):=by rw [hw1];exact Blk.new _ _ _
 obtain ⟨⟨c0,c1,c2,c3,c4⟩,-⟩:=N1.five
 clear N1
 have S:=width_ok t w1
 have l1:=wrk_lo t.wid g
 have l2:=wrk_hi t.wid g
 unfold wrk at l1 l2
 have HE:Hd (wrk t.wid g=clW t.wid*min (max g 1) 1000):=⟨rfl⟩
 unfold clG at l1 l2
 generalize wrk t.wid g=z at *
 generalize clW t.wid=x at *
 generalize t.id=t0 at *
 generalize t.wid=t1 at *
 generalize t.sts=t2 at *
 generalize t.sin=t3 at *
 generalize t.unt=t4 at *
 go_enter Tryz.func100,Tryz.ntmps100
 go_upto_region 1 with fail
 rw [←hw1]
 clear hw1
 go_wp2_with (go_at_call 97;refine S.mono ?_;rintro e w2 ⟨rfl,b2⟩)
 go_ret;exact ⟨by rw [HE.out];rfl,B.out.trans (b2.mono B.out.size)⟩
def lateTo (now:Int) (L:List Tk):Nat→List Tk
 | 0=>[]
 | k+1=>lateTo now L k++(if (gt L k).unt≤now then [gt L k] else [])
theorem lateTo_len (now:Int) (L:List Tk):∀ k,(lateTo now L k).length≤k
 | 0=>Nat.le_refl 0
 | k+1=>by
  have:=lateTo_len now L k
  simp only [lateTo,List.length_append]
  split <;> simp <;> omega
theorem lateTo_yes {now:Int} {L:List Tk} {k:Nat} (h:(gt L k).unt≤now):lateTo now L (k+1)=lateTo now L k ++ [gt L k]:=by simp only [lateTo,if_pos h]
theorem lateTo_no {now:Int} {L:List Tk} {k:Nat} (h:¬ (gt L k).unt≤now):lateTo now L (k+1)=lateTo now L k:=by simp only [lateTo,if_neg h,List.append_nil]
def OwnT (w:World) (B:Nat) (v:Value) (L:List Tk):Prop:=w.ownsRow B 36 5 v L.length (tkCs L)
theorem OwnT.add {w:World} {B:Nat} {v:Value} {L:List Tk} {t:Tk} (h:w.ownsRow B 36 5 v (L.length+1) (tkCs L++tkC t)):OwnT w B v (L ++ [t]):=by
 unfold OwnT
 rw [List.length_append,tkCs_append,tkCs_single]
 exact h
theorem one_newK (w:World) (t:Tk):∀ j u,(tkC t)[j]?=some u→(w.alloc (.cells (tkA t) 36)).cell? ((⟨w.heap.size,0,none⟩:Addr).add j)=some u:=by
 intro j u hj
 have N:=Blk.new w 36 (tkA t)
 rw [Go.WideShapes.add_plain,Nat.zero_add,N.cell j]
 simpa [tkA,tkC] using hj
theorem one_cellK (t:Tk):∀ u∈tkC t,u.oneCell'=true:=by
 intro u hu
 simp [tkC] at hu
 rcases hu with rfl | rfl | rfl | rfl | rfl <;> rfl
set_option maxRecDepth 20000 in
set_option maxHeartbeats 1000000 in
theorem same_ok (a b:Option Addr) (c1 c2:Nat) (L:List Tk) (w:World) (h1:TkR w a L) (h2:TkR w b L) (hl:L.length≤2000) :
  Calls Tryz.prog 14 #[.slice a L.length c1,.slice b L.length c2] w fun e w'=>e=.returned (.bool true)∧Below w.heap.size w w':=by
 have H1:Hd (TkR w a L):=⟨h1⟩
 have H2:Hd (TkR w b L):=⟨h2⟩
 obtain ⟨n,hn⟩:∃ n,L.length=n:=⟨_,rfl⟩
 have HL:Hd (L.length=n):=⟨hn⟩
 rw [hn] at hl ⊢
 clear h1 h2 hn
 go_enter Tryz.func14,Tryz.ntmps14
 go_wp2
 go_loopw [5] (fun i wr=>∃ k:Nat,k≤n∧i=.int .i64 k∧Below w.heap.size w wr) (fun i _=>n - (intOf i).toNat)
 case atStart=>exact ⟨0,Nat.zero_le _,rfl,Below.refl _ _⟩
 case round =>
  obtain ⟨k,hk,rfl,p3⟩:=hrel
  by_cases hlt:k<n
  ·obtain ⟨b1,o1,rfl,hb1,d0,d1,d2,d3,d4⟩:=(H1.out.carry p3).at (k:=k) (by rw [HL.out];exact hlt)
   obtain ⟨b2,o2,rfl,hb2,e0,e1,e2,e3,e4⟩:=(H2.out.carry p3).at (k:=k) (by rw [HL.out];exact hlt)
   clear hb1 hb2
   generalize gt L k=z at *
   obtain ⟨z0,z1,z2,z3,z4⟩:=z
   simp only at d0 d1 d2 d3 d4 e0 e1 e2 e3 e4
   have P:Hd (Below w.heap.size w wr):=⟨p3⟩
   clear p3
   go_wp2
   go_quiet (fail)
   go_wp2
   go_roundw
   case rel=>exact ⟨k+1,by omega,by go_num,⟨P.out.os,P.out.tape,P.out.output,P.out.size,P.out.block⟩⟩
   case measure=>simp [intOf];omega
  ·obtain rfl:k=n:=by omega
   go_wp2
   go_ret
   exact ⟨rfl,p3⟩
set_option maxRecDepth 20000 in
set_option maxHeartbeats 1000000 in
theorem samel_ok (s:Int) (a b:Option Addr) (c1 c2:Nat) (L:List Tk) (w:World) (h1:TkR w a L) (h2:TkR w b L) (hl:L.length≤2000) :
  Calls Tryz.prog 70 #[.agg #[.int .u64 s,.slice a L.length c1],.agg #[.int .u64 s,.slice b L.length c2]] w fun e w'=>e=.returned (.bool true)∧Below w.heap.size w w':=by
 obtain ⟨w2,hw2⟩:∃ w2,w2=(w.alloc (.cells #[.int .u64 s,.slice a L.length c1] 62)).alloc (.cells #[.int .u64 s,.slice b L.length c2] 62):=⟨_,rfl⟩
 have BX:=boxes w 62 62 #[.int .u64 s,.slice a L.length c1] #[.int .u64 s,.slice b L.length c2]
 rw [←hw2] at BX
 obtain ⟨B,N1,N2⟩:=BX
 obtain ⟨⟨x0,x1⟩,-⟩:=Blk.lane N1
 obtain ⟨⟨y0,y1⟩,-⟩:=Blk.lane N2
 have S:=same_ok a b c1 c2 L w2 (h1.carry B) (h2.carry B) hl
 have HB:Hd (Below w.heap.size w w2):=⟨B⟩
 clear N1 N2 B h1 h2
 generalize L.length=n at *
 go_enter Tryz.func70,Tryz.ntmps70
 go_upto_region 1 with fail
 rw [←hw2]
 clear hw2
 go_wp2_with (go_at_call 14;refine S.mono ?_;rintro e w4 ⟨rfl,b4⟩)
 go_ret
 exact ⟨rfl,HB.out.trans (b4.mono HB.out.size)⟩
def seatsTo (L:List Tk):Nat→Int
 | 0=>0
 | k+1=>seatsTo L k+clW (gt L k).wid
theorem seatsTo_lo (L:List Tk):∀ k,0≤seatsTo L k
 | 0=>Int.le_refl 0
 | k+1=>by have:=seatsTo_lo L k;have:=clW_lo (gt L k).wid;simp only [seatsTo];omega
theorem seatsTo_hi (L:List Tk):∀ k,seatsTo L k≤16*(k:Int)
 | 0=>Int.le_refl 0
 | k+1=>by have:=seatsTo_hi L k;have:=clW_hi (gt L k).wid;simp only [seatsTo];omega
set_option maxRecDepth 20000 in
set_option maxHeartbeats 1000000 in
theorem seats_ok (s:Int) (a:Option Addr) (c:Nat) (L:List Tk) (w:World) (h:TkR w a L) (hl:L.length≤2000) :
  Calls Tryz.prog 85 #[.agg #[.int .u64 s,.slice a L.length c]] w fun e w'=>e=.returned (.int .i64 (seatsTo L L.length))∧Below w.heap.size w w':=by
 obtain ⟨w1,hw1⟩:∃ w1,w1=w.alloc (.cells #[.int .u64 s,.slice a L.length c] 62):=⟨_,rfl⟩
 have B:Below w.heap.size w w1:=by rw [hw1];exact alloc_below _ _
 have N1:Blk w1 w.heap.size 62 (lnA s (.slice a L.length c)):=by rw [hw1];exact Blk.new _ _ _
 obtain ⟨⟨c0,c1⟩,-⟩:=N1.lane
 have H:Hd (TkR w1 a L∧Below w.heap.size w w1):=⟨h.carry B,B⟩
 obtain ⟨n,hn⟩:∃ n,L.length=n:=⟨_,rfl⟩
 have HL:Hd (L.length=n):=⟨hn⟩
 rw [hn] at hl c1 hw1 ⊢
 clear hn N1 B h
 go_enter Tryz.func85,Tryz.ntmps85
 go_upto_region 1 with fail
 rw [←hw1]
 clear hw1
 go_wp2
 clear c0 c1
 go_loopw [3,9] (fun v i wr=>∃ k:Nat,k≤n∧v=.int .i64 (seatsTo L k)∧i=.int .i64 k∧Below w1.heap.size w1 wr) (fun _ i _=>n - (intOf i).toNat)
 case atStart=>exact ⟨0,Nat.zero_le _,rfl,rfl,Below.refl _ _⟩
 case round =>
  obtain ⟨k,hk,rfl,rfl,p3⟩:=hrel
  by_cases hlt:k<n
  ·obtain ⟨b1,o1,rfl,hb1,d0,d1,d2,d3,d4⟩:=(H.out.1.carry p3).at (k:=k) (by rw [HL.out];exact hlt)
   have l1:=seatsTo_lo L k
   have l2:=seatsTo_hi L k
   have l3:=clW_lo (gt L k).wid
   have l4:=clW_hi (gt L k).wid
   have HE:Hd (seatsTo L (k+1)=seatsTo L k+clW (gt L k).wid):=⟨rfl⟩
   have P:Hd (Below w1.heap.size w1 wr):=⟨p3⟩
   have W:Hd (∀ W,Calls Tryz.prog 97 #[.agg #[.int .i64 (gt L k).id,.int .i64 (gt L k).wid,.int .i64 (gt L k).sts,.int .i64 (gt L k).sin,.int .i64 (gt L k).unt]] W fun e w'=>e=.returned (.int .i64 (clW (gt L k).wid))∧Below W.heap.size W w'):=⟨fun W=>width_ok (gt L k) W⟩
   generalize clW (gt L k).wid=x at *
   generalize seatsTo L k=y at *
   generalize gt L k=z at *
   obtain ⟨z0,z1,z2,z3,z4⟩:=z
   simp only at d0 d1 d2 d3 d4 W
   clear p3
   go_wp2_with (go_at_call 97;refine (W.out _).mono ?_;rintro e w4 ⟨rfl,b4⟩)
   go_roundw
   case rel=>exact ⟨k+1,by omega,by rw [HE.out],by go_num,(P.out.alloc P.out.size _).trans (b4.mono (P.out.alloc P.out.size _).size)⟩
   case measure=>simp [intOf];omega
  ·obtain rfl:k=n:=by omega
   go_wp2
   go_ret
   exact ⟨rfl,H.out.2.trans (p3.mono H.out.2.size)⟩
set_option maxRecDepth 20000 in
set_option maxHeartbeats 1000000 in
theorem rseats_ok (s:Int) (a:Option Addr) (c:Nat) (L:List Tk) (w:World) (h:TkR w a L) (hl:L.length≤2000) :
  Calls Tryz.prog 86 #[.agg #[.int .u64 s,.slice a L.length c]] w fun e w'=>e=.returned (.int .i64 (seatsTo L L.length))∧Below w.heap.size w w':=by
 obtain ⟨w1,hw1⟩:∃ w1,w1=w.alloc (.cells #[.int .u64 s,.slice a L.length c] 62):=⟨_,rfl⟩
 have B:Below w.heap.size w w1:=by rw [hw1];exact alloc_below _ _
 have N1:Blk w1 w.heap.size 62 (lnA s (.slice a L.length c)):=by rw [hw1];exact Blk.new _ _ _
 obtain ⟨⟨c0,c1⟩,-⟩:=N1.lane
 have H:Hd (TkR w1 a L∧Below w.heap.size w w1):=⟨h.carry B,B⟩
 obtain ⟨n,hn⟩:∃ n,L.length=n:=⟨_,rfl⟩
 have HL:Hd (L.length=n):=⟨hn⟩
 rw [hn] at hl c1 hw1 ⊢
 clear hn N1 B h c0
 go_enter Tryz.func86,Tryz.ntmps86
 go_upto_region 1 with fail
 rw [←hw1]
 clear hw1
 go_wp2
 go_loopw [3,4] (fun v i wr=>∃ k:Nat,k≤n∧v=.int .i64 (seatsTo L k)∧i=.int .i64 k∧wr=w1) (fun _ i _=>n - (intOf i).toNat)
 case atStart=>exact ⟨0,Nat.zero_le _,rfl,rfl,rfl⟩
 case round =>
  obtain ⟨k,hk,rfl,rfl,rfl⟩:=hrel
  by_cases hlt:k<n
  ·obtain ⟨b1,o1,rfl,hb1,-,d1,-,-,-⟩:=H.out.1.at (k:=k) (by rw [HL.out];exact hlt)
   have l1:=seatsTo_lo L k
   have l2:=seatsTo_hi L k
   have l3:=clW_lo (gt L k).wid
   have l4:=clW_hi (gt L k).wid
   have HE:Hd (seatsTo L (k+1)=seatsTo L k+clW (gt L k).wid):=⟨rfl⟩
   have W:Hd (∀ W,Calls Tryz.prog 61 #[.int .i64 (gt L k).wid] W fun e w'=>e=.returned (.int .i64 (clW (gt L k).wid))∧w'=W):=⟨rwidth_ok _⟩
   generalize clW (gt L k).wid=x at *
   generalize seatsTo L k=y at *
   generalize (gt L k).wid=z1 at *
   go_wp2_with (go_at_call 61;refine (W.out _).mono ?_;rintro e w4 ⟨rfl,rfl⟩)
   go_roundw
   case rel=>exact ⟨k+1,by omega,by rw [HE.out],by go_num,by trivial⟩
   case measure=>simp [intOf];omega
  ·obtain rfl:k=n:=by omega
   go_wp2
   go_ret
   exact ⟨rfl,H.out.2⟩
end Go.Proofs.YtlgibnmoogbdcaaGreat
