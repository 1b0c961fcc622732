/-
  The finish of a lane's first one, of the program and of the reference.
-/
import Derived.Test.YtlgibnmoogbdcaaGreatR2
import Derived.Test.YtlgibnmoogbdcaaGreatR4
namespace Go.Proofs.YtlgibnmoogbdcaaGreat
open Go.RowKit
def finI (s:Int) (L:List Tk) (g:Int):Int:=if L=[] then 0 else addI s (wrk (gt L 0).wid g)
theorem finI_nil (s g:Int):finI s [] g=0:=rfl
theorem finI_some {s g:Int} {L:List Tk} (h:L≠[]):finI s L g=addI s (wrk (gt L 0).wid g):=if_neg h
theorem wrk_word (x g:Int):Word (wrk x g):=⟨by have:=wrk_lo x g;omega,by have:=wrk_hi x g;omega⟩
theorem addI_word {a b:Int} (ha:Word a) (hb:Word b):Word (addI a b):=by
 unfold addI
 have a1:=capI_lo ha;have a2:=capI_hi ha
 have b1:=capI_lo hb;have b2:=capI_hi hb
 exact capI_word ⟨by omega,by omega⟩
theorem finI_word {s g:Int} {L:List Tk} (h:Word s):Word (finI s L g):=by
 by_cases c:L=[]
 ·rw [c,finI_nil];exact ⟨by decide,by decide⟩
 ·rw [finI_some c];exact addI_word h (wrk_word _ _)
def hasI (L:List Tk):Bool:=!L.isEmpty
theorem hasI_nil:hasI []=false:=rfl
theorem hasI_some {L:List Tk} (h:L≠[]):hasI L=true:=by cases L with
 | nil=>exact absurd rfl h
 | cons _ _=>rfl
set_option maxRecDepth 20000 in
set_option maxHeartbeats 1000000 in
theorem finish_ok (s:Int) (a:Option Addr) (c:Nat) (L:List Tk) (g:Int) (w:World) (hs:Word s) (h:TkR w a L) (hl:L.length≤2000) :
  Calls Tryz.prog 89 #[.agg #[.int .u64 s,.slice a L.length c],.int .i64 g] w fun e w'=>e=.returned (.tuple #[.int .u64 (finI s L g),.bool (hasI L)])∧Below w.heap.size w w':=by
 obtain ⟨w1,hw1⟩:∃ w1,w1=w.alloc (.cells #[.int .u64 s,.slice a L.length c] 62):=⟨_,rfl⟩
 have B:Below w.heap.size w w1:=by rw [hw1];exact alloc_below _ _
 have N1:Blk w1 w.heap.size 62 (lnA s (.slice a L.length c)):=by rw [hw1];exact Blk.new _ _ _
 by_cases hn:L=[]
 ·subst hn
  have HB:Hd (Below w.heap.size w w1):=⟨B⟩
  obtain ⟨⟨c0,c1⟩,-⟩:=N1.lane
  rw [finI_nil,hasI_nil]
  simp only [List.length_nil] at *
  clear N1 B h hl
  go_enter Tryz.func89,Tryz.ntmps89
  go_upto_region 1 with fail
  rw [←hw1]
  clear hw1
  go_wp2
  go_ret2;exact ⟨rfl,HB.out⟩
 ·rw [finI_some hn,hasI_some hn]
  have hp:0<L.length:=by cases L with
   | nil=>exact absurd rfl hn
   | cons _ _=>simp
  have B':Hd (Below w.heap.size w w1.drew):=⟨B.drew⟩
  have hsz:Hd (w1.heap.size=w.heap.size+1):=⟨by rw [hw1];simp⟩
  obtain ⟨b,off,rfl,hb,d0,d1,d2,d3,d4⟩:=((h.carry B).at hp)
  simp only [Nat.zero_mul,Nat.add_zero] at d0 d1 d2 d3 d4
  obtain ⟨⟨c0,c1⟩,-⟩:=N1.lane
  have F:Hd (∀ W,Calls Tryz.prog 99 #[.int .u64 s,.int .u64 (wrk (gt L 0).wid g)] W fun e w'=>e=.returned (.int .u64 (addI s (wrk (gt L 0).wid g)))∧w'=W):=⟨fun W=>add_any _ _ W hs (wrk_word _ _)⟩
  have K':Hd (∀ W,Calls Tryz.prog 100 #[.agg #[.int .i64 (gt L 0).id,.int .i64 (gt L 0).wid,.int .i64 (gt L 0).sts,.int .i64 (gt L 0).sin,.int .i64 (gt L 0).unt],.int .i64 g] W fun e w'=>e=.returned (.int .u64 (wrk (gt L 0).wid g))∧Below W.heap.size W w'):=⟨fun W=>work_ok (gt L 0) g W⟩
  generalize addI s (wrk (gt L 0).wid g)=z at *
  generalize wrk (gt L 0).wid g=y at *
  generalize gt L 0=t at *
  obtain ⟨t0,t1,t2,t3,t4⟩:=t
  simp only at d0 d1 d2 d3 d4 K'
  clear h hn N1 B hs
  generalize L.length=n at *
  go_enter Tryz.func89,Tryz.ntmps89
  go_upto_region 1 with fail
  rw [←hw1]
  clear hw1
  go_upto_region 3 with fail
  have e0:w1.drew.cell? ⟨w.heap.size,0,none⟩=some (.int .u64 s):=c0
  have e1:w1.drew.cell? ⟨w.heap.size,1,none⟩=some (.slice (some ⟨b,off,none⟩) n c):=c1
  have f0:w1.drew.cell? ⟨b,off,none⟩=some (.int .i64 t0):=d0
  have f1:w1.drew.cell? ⟨b,off+1,none⟩=some (.int .i64 t1):=d1
  have f2:w1.drew.cell? ⟨b,off+2,none⟩=some (.int .i64 t2):=d2
  have f3:w1.drew.cell? ⟨b,off+3,none⟩=some (.int .i64 t3):=d3
  have f4:w1.drew.cell? ⟨b,off+4,none⟩=some (.int .i64 t4):=d4
  clear c0 c1 d0 d1 d2 d3 d4
  refine AnyG.start (T:=fun W=>Below w1.drew.heap.size w1.drew W) (U:=fun _=>True) (j0:=100) (by kernel_rfl) ?_
  have hb':b<w1.drew.heap.size:=hb
  have hg':w.heap.size<w1.drew.heap.size:=B'.out.size |> fun _=>by rw [show w1.drew.heap.size=w1.heap.size from rfl,hsz.out];omega
  generalize w1.drew=w3 at *
  have R:=Below.refl w3.heap.size w3
  have X0:Hd (∀ W,Below w3.heap.size w3 W→W.cell? ⟨w.heap.size,0,none⟩=some (.int .u64 s)):=⟨fun W q=>(q.cell (p:=⟨w.heap.size,0,none⟩) hg').trans e0⟩
  have X1:Hd (∀ W,Below w3.heap.size w3 W→W.cell? ⟨w.heap.size,1,none⟩=some (.slice (some ⟨b,off,none⟩) n c)):=⟨fun W q=>(q.cell (p:=⟨w.heap.size,1,none⟩) hg').trans e1⟩
  have X2:Hd (∀ W,Below w3.heap.size w3 W→W.cell? ⟨b,off,none⟩=some (.int .i64 t0)∧W.cell? ⟨b,off+1,none⟩=some (.int .i64 t1)∧W.cell? ⟨b,off+2,none⟩=some (.int .i64 t2)∧W.cell? ⟨b,off+3,none⟩=some (.int .i64 t3)∧W.cell? ⟨b,off+4,none⟩=some (.int .i64 t4)):=⟨fun W q=>⟨(q.cell (p:=⟨b,off,none⟩) hb').trans f0,(q.cell (p:=⟨b,off+1,none⟩) hb').trans f1,(q.cell (p:=⟨b,off+2,none⟩) hb').trans f2,(q.cell (p:=⟨b,off+3,none⟩) hb').trans f3,(q.cell (p:=⟨b,off+4,none⟩) hb').trans f4⟩⟩
  clear e0 e1 f0 f1 f2 f3 f4
  refine .tq 0 10 R ?_;simp only [oqA,oqB,oqC]
  refine .tq 1 11 R ?_ (hy:=fun w hSw=>by have s:=X0.out w hSw;go_simp;rfl);simp only [oqA,oqB,oqC]
  refine .tq 2 12 R ?_;simp only [oqA,oqB,oqC]
  refine .tq 3 13 R ?_ (hy:=fun w hSw=>by have s:=X1.out w hSw;go_simp;rfl);simp only [oqA,oqB,oqC]
  refine .tq 4 14 R ?_;simp only [oqA,oqB,oqC]
  refine .tq 5 15 R ?_ (hy:=fun w hSw=>by have s:=X2.out w hSw;go_simp;rfl);simp only [oqA,oqB,oqC]
  refine .tq 6 16 R ?_;simp only [oqA,oqB,oqC]
  refine AnyG.ready (rs:=[7]) (by kernel_rfl) (by simp) ?_
  refine AllG.cons rfl (fun K hK=>?_) AllG.nil
  go_simp
  refine (K'.out w3).mono ?_
  rintro e w4 ⟨rfl,b4⟩
  refine hK.out _ _ ⟨b4,fun _=>trivial⟩ ?_
  clear hK K X0 X1 X2
  refine AnyG.ready (rs:=[8]) (by kernel_rfl) (by simp) ?_
  refine AllG.cons rfl (fun K hK=>?_) AllG.nil
  go_simp
  refine (F.out w4).mono ?_
  rintro e w5 ⟨rfl,hw5⟩
  obtain rfl:=hw5.symm
  refine hK.out _ _ ⟨b4,fun _=>trivial⟩ ?_
  clear hK K
  refine AnyG.ready (rs:=[9]) (by kernel_rfl) (by simp) ?_
  refine AllG.cons rfl (fun K hK=>?_) AllG.nil
  go_simp
  refine hK.out _ _ ⟨b4,fun _=>trivial⟩ ?_
  clear hK K
  refine AnyG.ready (rs:=[10]) (by kernel_rfl) (by simp) ?_
  refine AllG.cons rfl (fun K hK=>?_) AllG.nil
  go_simp
  refine hK.out _ _ ⟨b4,fun _=>trivial⟩ ?_
  clear hK K
  refine AnyG.done (by kernel_rfl) ?_ _
  go_wp2_with fail
  go_ret2
  exact ⟨rfl,B'.out.trans (b4.mono B'.out.size)⟩
set_option maxRecDepth 20000 in
set_option maxHeartbeats 1000000 in
theorem rfinish_ok (s:Int) (a:Option Addr) (c:Nat) (L:List Tk) (g:Int) (w:World) (hs:Word s) (h:TkR w a L) (hl:L.length≤2000) :
  Calls Tryz.prog 78 #[.agg #[.int .u64 s,.slice a L.length c],.int .i64 g] w fun e w'=>e=.returned (.tuple #[.int .u64 (finI s L g),.bool (hasI L)])∧Below w.heap.size w w':=by
 obtain ⟨w1,hw1⟩:∃ w1,w1=w.alloc (.cells #[.int .u64 s,.slice a L.length c] 62):=⟨_,rfl⟩
 have B:Below w.heap.size w w1:=by rw [hw1];exact alloc_below _ _
 have N1:Blk w1 w.heap.size 62 (lnA s (.slice a L.length c)):=by rw [hw1];exact Blk.new _ _ _
 by_cases hn:L=[]
 ·subst hn
  have HB:Hd (Below w.heap.size w w1):=⟨B⟩
  obtain ⟨⟨c0,c1⟩,-⟩:=N1.lane
  rw [finI_nil,hasI_nil]
  simp only [List.length_nil] at *
  clear N1 B h hl
  go_enter Tryz.func78,Tryz.ntmps78
  go_upto_region 1 with fail
  rw [←hw1]
  clear hw1
  go_wp2
  go_ret2;exact ⟨rfl,HB.out⟩
 ·rw [finI_some hn,hasI_some hn]
  have hp:0<L.length:=by cases L with
   | nil=>exact absurd rfl hn
   | cons _ _=>simp
  have B':Hd (Below w.heap.size w w1.drew):=⟨B.drew⟩
  obtain ⟨b,off,rfl,hb,-,d1,-,-,-⟩:=((h.carry B).at hp)
  simp only [Nat.zero_mul,Nat.add_zero] at d1
  obtain ⟨⟨c0,c1⟩,-⟩:=N1.lane
  have F:Hd (∀ W,Calls Tryz.prog 92 #[.int .u64 s,.int .u64 (clW (gt L 0).wid*clG g)] W fun e w'=>e=.returned (.int .u64 (addI s (clW (gt L 0).wid*clG g)))∧w'=W):=⟨fun W=>refAdd_any _ _ W hs (wrk_word _ _)⟩
  have KW:Hd (∀ W,Calls Tryz.prog 61 #[.int .i64 (gt L 0).wid] W fun e w'=>e=.returned (.int .i64 (clW (gt L 0).wid))∧w'=W):=⟨rwidth_ok _⟩
  have KG:Hd (∀ W,Calls Tryz.prog 93 #[.int .i64 g] W fun e w'=>e=.returned (.int .i64 (clG g))∧w'=W):=⟨rguess_ok _⟩
  have x1:=clW_lo (gt L 0).wid
  have x2:=clW_hi (gt L 0).wid
  have y1:=clG_lo g
  have y2:=clG_hi g
  have p1:1≤clW (gt L 0).wid*clG g:=wrk_lo (gt L 0).wid g
  have p2:clW (gt L 0).wid*clG g≤16000:=wrk_hi (gt L 0).wid g
  unfold wrk
  generalize addI s (clW (gt L 0).wid*clG g)=z at *
  generalize clW (gt L 0).wid=x at *
  generalize clG g=y at *
  generalize (gt L 0).wid=t1 at *
  clear h hn N1 B hs
  generalize L.length=n at *
  go_enter Tryz.func78,Tryz.ntmps78
  go_upto_region 1 with fail
  rw [←hw1]
  clear hw1
  go_upto_region 3 with fail
  have e0:w1.drew.cell? ⟨w.heap.size,0,none⟩=some (.int .u64 s):=c0
  have e1:w1.drew.cell? ⟨w.heap.size,1,none⟩=some (.slice (some ⟨b,off,none⟩) n c):=c1
  have f1:w1.drew.cell? ⟨b,off+1,none⟩=some (.int .i64 t1):=d1
  clear c0 c1 d1
  refine region_tail 13 (by kernel_rfl) ?_
  simp only [List.take_succ_cons,List.take_zero,List.drop_succ_cons,List.drop_zero]
  generalize w1.drew=w3 at *
  repeat (first | still_step | still_call (KW.out _) | still_call (KG.out _))
  refine wpStill_nil ?_
  go_wp2_with (go_at_call 92;refine (F.out _).mono ?_;rintro e w5 ⟨rfl,rfl⟩)
  go_ret2
  exact ⟨rfl,B'.out⟩
end Go.Proofs.YtlgibnmoogbdcaaGreat
