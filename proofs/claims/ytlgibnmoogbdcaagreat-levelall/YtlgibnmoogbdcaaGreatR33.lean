/-
  Somebody comes to a level, by the program, whatever comes of it.
  One who waits goes, by the program.
  What a look for those who are late leaves lane by lane; sorting of nobody, by the library.
-/
import Derived.Test.YtlgibnmoogbdcaaGreatR32
import Derived.Test.YtlgibnmoogbdcaaGreatR29
import Derived.Test.YtlgibnmoogbdcaaGreatR26
import Derived.Test.YtlgibnmoogbdcaaGreatR28
namespace Go.Proofs.YtlgibnmoogbdcaaGreat
open Go.RowKit
theorem wtA_lo (F:List Ln):0≤wtA F:=wtT_lo F F.length
theorem arrive_st (s:St) (t:Tk) (ax:Option Addr) (cx:Nat) (ar:Option Addr) (cr:Nat) (ah:Option Addr) (nh ch:Nat) (w:World) (S:Nat→Prop) (H0:Nat→Int) (hx:StR S w ax cx s.x.F) (hr:SlR w ar cr s.run) (hl:s.run.length≤1990) (hS:∀ j,S j→j<w.heap.size) (hf:Few s.x.F) (hh:HnR w ah nh H0) (hnh:nh≤1000) :
  Calls Tryz.prog 7 #[.agg (stB s (.slice ax s.x.F.length cx) (.slice ar s.run.length cr)),.agg #[.int .i64 t.id,.int .i64 t.wid,.int .i64 t.sts,.int .i64 t.sin,.int .i64 t.unt],.slice ah nh ch] w fun e w'=>(∃ v,e=.returned (.tuple #[v,.int .i64 (arE s t (chF s.x.F s.x.o H0 nh))])∧StV S w' (orZ (arE s t (chF s.x.F s.x.o H0 nh)) (arX s t (chF s.x.F s.x.o H0 nh))) v)∧Below w.heap.size w w':=by
 unfold arE
 by_cases hq:s.q=true
 ·rw [if_pos hq,orZ_no (by decide)]
  exact arrive_quiet s t ax cx ar cr ah nh ch w S hq
 ·rw [if_neg hq]
  have hq:s.q=false:=by simpa using hq
  by_cases hk:s.lv.kind=3
  ·rw [if_pos hk]
   have e:arX s t (chF s.x.F s.x.o H0 nh)={ s with x:=jnX s.x (chF s.x.F s.x.o H0 nh) (seated t 0) }:=if_pos hk
   rw [e]
   exact arrive_queue s t ax cx ar cr ah nh ch w S H0 hh hnh hx hr hl hS hf hq hk
  ·rw [if_neg hk]
   have e:arX s t (chF s.x.F s.x.o H0 nh)={ s with run:=s.run ++ [seated t (ftN s t.wid)] }:=if_neg hk
   rw [e]
   by_cases hw:s.lv.kind≠1∧0<wtA s.x.F
   ·rw [if_pos hw,orZ_no (by decide)]
    exact arrive_waits s t ax cx ar cr ah nh ch w S hx hf hq hk hw.1 hw.2
   ·rw [if_neg hw]
    by_cases hb:ftB s t.wid=true
    ·rw [if_pos hb,orZ_yes]
     by_cases k1:s.lv.kind=1
     ·exact arrive_exempt s t ax cx ar cr ah nh ch w S hx hr hl hS hf hq k1 hb
     ·exact arrive_room s t ax cx ar cr ah nh ch w S hx hr hl hS hf hq hk k1 (by have:=wtA_lo s.x.F;have:¬ 0<wtA s.x.F:=fun q=>hw ⟨k1,q⟩;omega) hb
    ·rw [if_neg hb,orZ_no (by decide)]
     have hb:ftB s t.wid=false:=by simpa using hb
     have k1:s.lv.kind≠1:=fun k=>by rw [ftB_exempt k] at hb;cases hb
     exact arrive_full s t ax cx ar cr ah nh ch w S hx hr hl hf hq hk k1 (by have:=wtA_lo s.x.F;have:¬ 0<wtA s.x.F:=fun q=>hw ⟨k1,q⟩;omega) hb
def dpE (x:Fa) (d:Int):Int:=if dpO x d=true then 0 else 6
set_option maxRecDepth 20000 in
set_option maxHeartbeats 2000000 in
theorem sdrop_st (s:St) (d:Int) (ax:Option Addr) (cx:Nat) (ar:Option Addr) (cr:Nat) (w:World) (S:Nat→Prop) (hx:StR S w ax cx s.x.F) (hr:SlR w ar cr s.run) (hl:s.run.length≤1990) (hS:∀ j,S j→j<w.heap.size) (hf:Few s.x.F) :
  Calls Tryz.prog 17 #[.agg (stB s (.slice ax s.x.F.length cx) (.slice ar s.run.length cr)),.int .i64 d] w fun e w'=>(∃ v,e=.returned (.tuple #[v,.agg #[.int .i64 (dpT s.x d).id,.int .i64 (dpT s.x d).wid,.int .i64 (dpT s.x d).sts,.int .i64 (dpT s.x d).sin,.int .i64 (dpT s.x d).unt],.int .i64 (dpE s.x d)])∧StV S w' (orZ (dpE s.x d) { s with x:=dpX s.x d }) v)∧Below w.heap.size w w':=by
 obtain ⟨w2,hw2⟩:∃ w2,w2=(((w.alloc (.cells (stB s (.slice ax s.x.F.length cx) (.slice ar s.run.length cr)) 34)).alloc (.cells zsT 34)).alloc (.cells #[.int .i64 0,.int .i64 0,.int .i64 0,.int .i64 0,.int .i64 0] 36)):=⟨_,rfl⟩
 have BX:=boxes3 w 34 34 36 (stB s (.slice ax s.x.F.length cx) (.slice ar s.run.length cr)) zsT #[.int .i64 0,.int .i64 0,.int .i64 0,.int .i64 0,.int .i64 0]
 rw [←hw2] at BX
 obtain ⟨B,N1,N2,N3⟩:=BX
 have hs2:w2.heap.size=w.heap.size+3:=by rw [hw2];simp
 obtain ⟨A,hA⟩:∃ A,A=w.heap.size:=⟨_,rfl⟩
 have HA:Hd (A=w.heap.size):=⟨hA⟩
 rw [←hA] at B N1 N2 N3 hs2
 have hBw:Below w.heap.size w w2:=by rw [←hA];exact B
 have hx2:StR (Sx S A (A+3)) w2 ax cx s.x.F:=hx.sx hBw hA
 have DR:=drop_st s.x ax cx w2 (Sx S A (A+3)) hx2 (by rw [hs2];exact Sx.lt (by rw [hA];exact hS) (by omega)) hf d
 have HW:Hd (∀ W (y:Fa) av nv cv,Below A w W→Calls Tryz.prog 48 #[.agg (stB s (.slice ax s.x.F.length cx) (.slice ar s.run.length cr)),.agg #[.int .u64 y.r,.int .i64 y.g,.int .i64 y.n,.int .i64 y.o,.slice av nv cv]] W fun e w'=>(∃ u,e=.returned (.agg (stB { s with x:=y } (.slice av nv cv) u))∧OwnT w' (W.heap.size+3) u s.run)∧Below W.heap.size W w'):=⟨fun W y av nv cv b=>swith_ok s _ ar cr y av nv cv W (hr.carry (by rw [←hA];exact b)) (by omega)⟩
 have HSZ:Hd (∀ j,S j→j<A):=⟨fun j e=>by rw [hA];exact hS j e⟩
 have HM:Hd (Below A w w2∧w2.heap.size=A+3):=⟨B,hs2⟩
 obtain ⟨⟨c0,c1,c2,c3,c4⟩,-⟩:=N1.stx
 have HB:Hd (Blk w2 A 34 (stB s (.slice ax s.x.F.length cx) (.slice ar s.run.length cr))∧Blk w2 (A+1) 34 (stB sZ (.slice none 0 0) (.slice none 0 0))∧Blk w2 (A+1+1) 36 (tkA tkZ)):=⟨N1,N2,N3⟩
 clear N1 N2 N3 B hx hx2 hr hf hs2 hS hBw
 have HZ:Hd ((dpO s.x d=false→dpE s.x d=6∧dpT s.x d=tkZ)∧(dpO s.x d=true→dpE s.x d=0)):=⟨fun h=>⟨by unfold dpE;rw [h];rfl,if_neg (of_decide_eq_false h)⟩,fun h=>if_pos h⟩
 generalize dpE s.x d=er at *
 generalize s.run.length=m at *
 generalize s.x.F.length=n at *
 generalize dpX s.x d=y at *
 generalize dpT s.x d=z at *
 generalize dpO s.x d=ok at *
 go_enter Tryz.func17,Tryz.ntmps17
 go_upto_region 1 with fail
 rw [←hw2]
 clear hw2
 rw [←hA]
 clear hA
 go_wp2_with fail
 go_at_call 47
 refine DR.mono ?_
 rintro e w5 ⟨⟨v5,rfl,a5,c5,rfl,s5⟩,b5⟩
 clear DR c0 c1 c2 c3 c4
 obtain ⟨l5,hl5⟩:∃ l5,l5=y.F.length:=⟨_,rfl⟩
 have HL5:Hd (l5=y.F.length):=⟨hl5⟩
 rw [←hl5]
 clear hl5
 obtain ⟨w6,hw6⟩:∃ w6,w6=(w5.alloc (.cells #[.int .u64 y.r,.int .i64 y.g,.int .i64 y.n,.int .i64 y.o,.slice a5 l5 c5] 31)).alloc (.cells #[.int .i64 z.id,.int .i64 z.wid,.int .i64 z.sts,.int .i64 z.sin,.int .i64 z.unt] 36):=⟨_,rfl⟩
 have BX:=boxes w5 31 36 #[.int .u64 y.r,.int .i64 y.g,.int .i64 y.n,.int .i64 y.o,.slice a5 l5 c5] #[.int .i64 z.id,.int .i64 z.wid,.int .i64 z.sts,.int .i64 z.sin,.int .i64 z.unt]
 rw [←hw6] at BX
 obtain ⟨B6,N6,T6⟩:=BX
 have b36:Below w2.heap.size w2 w6:=b5.trans (B6.mono b5.size)
 have hb5:=b5.size
 have HB6:Hd (Below A w w6∧Blk w6 A 34 (stB s (.slice ax n cx) (.slice ar m cr))∧Blk w6 (A+1) 34 (stB sZ (.slice none 0 0) (.slice none 0 0))∧Blk w6 (A+1+1) 36 (tkA tkZ)∧A+3≤w6.heap.size):=⟨HM.out.1.trans (b36.mono (by have:=HM.out.2;omega)),HB.out.1.kept (Kept.of_below b36 (fun _=>False)) id,HB.out.2.1.kept (Kept.of_below b36 (fun _=>False)) id,HB.out.2.2.kept (Kept.of_below b36 (fun _=>False)) id,by have:=HM.out.2;have:=b36.size;omega⟩
 have HS6:Hd (StR (Sx S A (A+3)) w6 a5 c5 y.F):=⟨s5.high B6 (fun _ _ h=>h)⟩
 have HF6:Hd (Blk w6 w5.heap.size 31 (faA y.r y.g y.n y.o (.slice a5 l5 c5))∧Blk w6 (w5.heap.size+1) 36 (tkA z)):=⟨N6,T6⟩
 have hA5:Hd (A+3≤w5.heap.size):=⟨by have:=HM.out.2;omega⟩
 clear s5 b5 B6 N6 T6 b36 HB HM hb5
 cases ok with
 | false =>
  obtain ⟨rfl,rfl⟩:=HZ.out.1 rfl
  clear HW HS6 HZ
  go_upto_region 3 with fail
  rw [←hw6]
  clear hw6
  have K9:Hd (∀ w9,Kept (fun j=>j=A+1) w6 w9→Blk w9 (A+1+1) 36 (tkA tkZ)):=⟨fun w9 k=>HB6.out.2.2.2.1.kept k (by omega)⟩
  go_wp2_with (refine wpl_storeSt rfl _ _ rfl (A+1) rfl (stB sZ (.slice none 0 0) (.slice none 0 0)) _ rfl HB6.out.2.2.1 rfl rfl (st_one _ _ _ _ _ _ _) ?_;intro w9 n9 k9;obtain ⟨⟨e0,e1,e2,e3,e4⟩,g0,g1,g2,g3,g4⟩:=Blk.five (K9.out w9 k9))
  obtain ⟨Q1,Q2⟩:=five_set (K9.out w9 k9) tkZ
  refine bodyPost_ret (resSt25 _ _ _ _ rfl rfl rfl rfl (n9.kept Q2 (by omega)) Q1) rfl ?_
  have b9:=HB6.out.1.trans (((k9.mono (T:=fun j=>A≤j) (fun j _ e=>by omega)).trans (Q2.mono (fun j _ e=>by omega))).below (by have:=HB6.out.2.2.2.2;omega) (fun j e=>e))
  rw [←HA.out]
  exact ⟨⟨_,rfl,by rw [orZ_no (by decide)];exact sZ_v S _⟩,b9⟩
 | true =>
  obtain rfl:=HZ.out.2 rfl
  clear HZ
  obtain ⟨F6,T6⟩:=HF6.out
  have HW6:=HW.out w6.drew y a5 l5 c5 HB6.out.1.drew
  obtain ⟨g8,hg8⟩:∃ g8,g8=w5.heap.size+1:=⟨_,rfl⟩
  have T0:Hd (Blk w6.drew A 34 (stB s (.slice ax n cx) (.slice ar m cr))∧Blk w6.drew w5.heap.size 31 (faA y.r y.g y.n y.o (.slice a5 l5 c5))∧Blk w6.drew g8 36 (tkA z)):=⟨HB6.out.2.1,F6,by rw [hg8];exact T6⟩
  have M6:Hd (Below A w w6.drew∧Blk w6.drew (A+1) 34 (stB sZ (.slice none 0 0) (.slice none 0 0))∧Blk w6.drew (A+1+1) 36 (tkA tkZ)∧A+3≤w6.drew.heap.size∧A+3≤w5.heap.size∧A+3≤g8∧StR (Sx S A (A+3)) w6.drew a5 c5 y.F):=⟨HB6.out.1.drew,HB6.out.2.2.1,HB6.out.2.2.2.1,HB6.out.2.2.2.2,hA5.out,by have:=hA5.out;omega,HS6.out.high (Below.refl _ _).drew (fun _ _ h=>h)⟩
  clear F6 T6 HW HF6 HB6 HS6 hA5
  go_upto_region 4 with fail
  rw [←hw6,← hg8]
  clear hw6 hg8
  refine AnyG.start (T:=fun W=>Blk W A 34 (stB s (.slice ax n cx) (.slice ar m cr))∧Blk W w5.heap.size 31 (faA y.r y.g y.n y.o (.slice a5 l5 c5))∧Blk W g8 36 (tkA z)) (U:=fun _=>True) (j0:=2) (by kernel_rfl) ?_
  generalize w6.drew=w6 at *
  generalize w5.heap.size=g7 at *
  refine .tq (v:=.agg (stB s (.slice ax n cx) (.slice ar m cr))) 0 22 T0.out ?_ (hy:=fun w hSw=>exec_loadSt _ rfl A rfl _ hSw.1 rfl);simp only [oqA,oqB,oqC]
  refine .tq (v:=.agg #[.int .u64 y.r,.int .i64 y.g,.int .i64 y.n,.int .i64 y.o,.slice a5 l5 c5]) 1 23 T0.out ?_ (hy:=fun w hSw=>by obtain ⟨c0,c1,c2,c3,c4⟩:=(Blk.fair hSw.2.1).1;go_simp);simp only [oqA,oqB,oqC]
  refine .tq (v:=.agg #[.int .i64 z.id,.int .i64 z.wid,.int .i64 z.sts,.int .i64 z.sin,.int .i64 z.unt]) 3 25 T0.out ?_ (hy:=fun w hSw=>by obtain ⟨c0,c1,c2,c3,c4⟩:=(Blk.five hSw.2.2).1;go_simp);simp only [oqA,oqB,oqC]
  refine AnyG.ready (rs:=[2]) (by kernel_rfl) (by simp) ?_
  refine AllG.cons rfl (fun K hK=>?_) AllG.nil
  go_simp
  refine HW6.mono ?_
  rintro e w7 ⟨⟨u7,rfl,o7⟩,b7⟩
  obtain ⟨a7,c7,e7,-⟩:=o7.read
  obtain ⟨m7,hm7⟩:∃ m7,m7=s.run.length:=⟨_,rfl⟩
  rw [←hm7] at e7
  subst e7
  have k67:Kept (fun _=>False) w6 w7:=Kept.of_below b7 _
  have T7:Blk w7 A 34 (stB s (.slice ax n cx) (.slice ar m cr))∧Blk w7 g7 31 (faA y.r y.g y.n y.o (.slice a5 l5 c5))∧Blk w7 g8 36 (tkA z):=⟨T0.out.1.kept k67 id,T0.out.2.1.kept k67 id,T0.out.2.2.kept k67 id⟩
  have M7:Blk w7 (A+1) 34 (stB sZ (.slice none 0 0) (.slice none 0 0)):=M6.out.2.1.kept k67 id
  have M8:Hd (Blk w7 (A+1+1) 36 (tkA tkZ)):=⟨M6.out.2.2.1.kept k67 id⟩
  have HE:Hd (∀ w9,Kept (fun j=>j=A+1∨j=A+1+1) w7 w9→StV S w9 { s with x:=y } (.agg (stB { s with x:=y } (.slice a5 l5 c5) (.slice a7 m7 c7)))∧Below A w w9):=⟨fun w9 k9=>by
   obtain ⟨h1,h2,h3,h4,h5,h6,h7⟩:=M6.out
   have hs7:=b7.size
   refine ⟨⟨a5,c5,a7,c7,by rw [HL5.out,hm7],?_,?_⟩,(h1.trans (b7.mono (by omega))).trans (k9.below (by omega) (fun j e=>by omega))⟩
   ·exact (h7.high b7 (T:=Sx S A (A+3)) (fun _ _ h=>h)).stp (k9.mono (T:=Sx S A (A+3)) (fun j _ e=>.inr ⟨by omega,by omega⟩)) (T:=S) (fun j _ e=>.inl e)
   ·have q:=(o7.kept k9 (fun j hj e=>by omega)).ts (S:=S) (fun j hj e=>by have:=HSZ.out j e;omega)
    obtain ⟨a',c',e',r'⟩:=q
    obtain ⟨rfl,-,rfl⟩:a7=a'∧True∧c7=c':=by injection e' with x1 x2 x3;exact ⟨x1,trivial,x3⟩
    exact r'⟩
  have HG:Hd (A+3≤g7∧A+3≤g8):=⟨M6.out.2.2.2.2.1,M6.out.2.2.2.2.2.1⟩
  refine hK.out _ _ ⟨T7,fun _=>trivial⟩ ?_
  clear hK K T0 M6 hm7 o7 k67 b7 HW6
  refine AnyG.ready (rs:=[4]) (by kernel_rfl) (by simp) ?_
  refine AllG.cons rfl (fun K hK=>?_) AllG.nil
  refine step_storeSt rfl _ _ rfl (A+1) rfl (stB { s with x:=y } (.slice a5 l5 c5) (.slice a7 m7 c7)) _ rfl M7 rfl rfl (st_one _ _ _ _ _ _ _) ?_
  intro w9 n9 k9
  have T9:Blk w9 A 34 (stB s (.slice ax n cx) (.slice ar m cr))∧Blk w9 g7 31 (faA y.r y.g y.n y.o (.slice a5 l5 c5))∧Blk w9 g8 36 (tkA z):=⟨T7.1.kept k9 (by omega),T7.2.1.kept k9 (by have:=HG.out;omega),T7.2.2.kept k9 (by have:=HG.out;omega)⟩
  have P9:=M8.out.kept k9 (by omega)
  refine hK.out _ _ ⟨T9,fun _=>trivial⟩ ?_
  clear hK K T7 M7 M8
  refine AnyG.ready (rs:=[5]) (by kernel_rfl) (by simp) ?_
  refine AllG.cons rfl (fun K hK=>?_) AllG.nil
  obtain ⟨⟨e0,e1,e2,e3,e4⟩,g0,g1,g2,g3,g4⟩:=Blk.five P9
  go_simp
  obtain ⟨Q1,Q2⟩:=five_set P9 z
  refine hK.out _ _ ⟨⟨T9.1.kept Q2 (by omega),T9.2.1.kept Q2 (by have:=HG.out;omega),T9.2.2.kept Q2 (by have:=HG.out;omega)⟩,fun _=>trivial⟩ ?_
  clear hK K
  refine AnyG.ready (rs:=[6]) (by kernel_rfl) (by simp) ?_
  refine AllG.cons rfl (fun K hK=>?_) AllG.nil
  go_simp
  refine hK.out _ _ ⟨⟨T9.1.kept Q2 (by omega),T9.2.1.kept Q2 (by have:=HG.out;omega),T9.2.2.kept Q2 (by have:=HG.out;omega)⟩,fun _=>trivial⟩ ?_
  refine AnyG.done (by kernel_rfl) ?_ _
  have n10:=n9.kept Q2 (by omega)
  obtain ⟨o9,b9⟩:=HE.out _ ((k9.mono (T:=fun j=>j=A+1∨j=A+1+1) (fun j _ e=>.inl e)).trans (Q2.mono (fun j _ e=>.inr e)))
  clear hK K T9 P9 e0 e1 e2 e3 e4 g0 g1 g2 g3 g4
  generalize (((((w9.setCell ⟨A+1+1,0,none⟩ (.int .i64 z.id)).setCell ⟨A+1+1,1,none⟩ (.int .i64 z.wid)).setCell ⟨A+1+1,2,none⟩ (.int .i64 z.sts)).setCell ⟨A+1+1,3,none⟩ (.int .i64 z.sin)).setCell ⟨A+1+1,4,none⟩ (.int .i64 z.unt))=w10 at *
  go_wp2_with fail
  refine bodyPost_ret (resSt25 _ _ _ _ rfl rfl rfl rfl n10 Q1) rfl ?_
  rw [←HA.out]
  exact ⟨⟨_,rfl,by rw [orZ_yes];exact o9⟩,b9⟩
theorem lateTo_take (now:Int) (L:List Tk):∀ k,k≤L.length→lateTo now L k=(L.take k).filter (ltB now)
 | 0,_=>rfl
 | k+1,h=>by
  have e:L.take (k+1)=L.take k ++ [gt L k]:=by rw [List.take_add_one,gt_get h];rfl
  rw [e,List.filter_append,← lateTo_take now L k (by omega)]
  by_cases u:(gt L k).unt≤now
  ·rw [lateTo_yes u,List.filter_cons_of_pos (by unfold ltB;exact decide_eq_true u)]
   rfl
  ·rw [lateTo_no u,List.filter_cons_of_neg (by unfold ltB;rw [decide_eq_false u];decide),List.filter_nil,List.append_nil]
theorem lateTo_all (now:Int) (L:List Tk):lateTo now L L.length=L.filter (ltB now):=by rw [lateTo_take now L _ (Nat.le_refl _),List.take_length]
theorem ltA_take {now:Int} {F:List Ln} {k:Nat} (h:k<F.length):ltA now (F.take (k+1))=ltA now (F.take k)++lateTo now (gl F k).L (gl F k).L.length:=by
 have e:F.take (k+1)=F.take k ++ [gl F k]:=by rw [List.take_add_one,gl_get h];rfl
 unfold ltA
 rw [e,flt_app,List.filter_append,lateTo_all]
 congr 1
 rw [flt_cons]
 show List.filter _ ((gl F k).L ++ [])=_
 rw [List.append_nil]
def mixK (now:Int) (F:List Ln) (k:Nat):List Ln:=(ltK now F).take k++F.drop k
theorem mixK_len {now:Int} {F:List Ln} {k:Nat} (h:k≤F.length):(mixK now F k).length=F.length:=by
 unfold mixK
 rw [List.length_append,List.length_take,List.length_drop,ltK_len]
 omega
theorem mixK_at {now:Int} {F:List Ln} {k:Nat} (h:k<F.length):gl (mixK now F k) k=gl F k:=by
 have h1:(mixK now F k)[k]?=some (gl F k):=by
  unfold mixK
  rw [List.getElem?_append_right (by rw [List.length_take,ltK_len];omega),List.length_take,ltK_len,Nat.min_eq_left (by omega),Nat.sub_self,List.getElem?_drop,Nat.add_zero]
  exact gl_get h
 have h2:=gl_get (F:=mixK now F k) (k:=k) (by rw [mixK_len (by omega)];exact h)
 rw [h1] at h2
 injection h2 with h2
 exact h2.symm
theorem mixK_set {now:Int} {F:List Ln} {k:Nat} (h:k<F.length):(mixK now F k).set k ⟨(gl F k).s,kpF now (gl F k).L⟩=mixK now F (k+1):=by
 unfold mixK
 have e:(ltK now F).take (k+1)=(ltK now F).take k ++ [⟨(gl F k).s,kpF now (gl F k).L⟩]:=by
  rw [List.take_add_one,gl_get (F:=ltK now F) (by rw [ltK_len];exact h),gl_ltK]
  rfl
 rw [e,List.set_append_right _ _ (by rw [List.length_take,ltK_len];omega),List.length_take,ltK_len,Nat.min_eq_left (by omega),Nat.sub_self,List.drop_eq_getElem_cons h,List.set_cons_zero]
 simp
theorem mixK_zero (now:Int) (F:List Ln):mixK now F 0=F:=by simp [mixK]
theorem mixK_all (now:Int) (F:List Ln):mixK now F F.length=ltK now F:=by
 unfold mixK
 rw [List.drop_length,List.append_nil,List.take_of_length_le (by rw [ltK_len];exact Nat.le_refl _)]
theorem Apt.map {Z:List Lz} : Apt Z ↔ (Z.map (·.2.ownBlock)).Pairwise fun y z=>∀ b,y=some b→z≠some b:=by
 unfold Apt
 rw [List.pairwise_map]
theorem Apt.set {Z:List Lz} {k:Nat} {x y:Lz} (h:Apt Z) (hx:Z[k]?=some x) (e:y.2.ownBlock=x.2.ownBlock):Apt (Z.set k y):=by
 rw [Apt.map] at h ⊢
 have hk:k<Z.length:=(List.getElem?_eq_some_iff.1 hx).1
 rw [List.map_set]
 have e2:(Z.map (·.2.ownBlock)).set k y.2.ownBlock=Z.map (·.2.ownBlock):=by
  rw [e]
  have hk2:k<(Z.map (·.2.ownBlock)).length:=by rw [List.length_map];exact hk
  have e3:(Z.map (·.2.ownBlock))[k]=x.2.ownBlock:=by
   rw [List.getElem_map]
   rw [List.getElem?_eq_getElem hk] at hx
   injection hx with hx
   rw [hx]
  rw [←e3]
  exact List.set_getElem_self hk2
 rw [e2]
 exact h
theorem Apt.ne {Z:List Lz} {i j:Nat} {y z:Lz} (h:Apt Z) (hi:Z[i]?=some y) (hj:Z[j]?=some z) (ne:i≠j) (b:Nat) (e1:y.2.ownBlock=some b) (e2:z.2.ownBlock=some b):False:=by
 have hil:i<Z.length:=(List.getElem?_eq_some_iff.1 hi).1
 have hjl:j<Z.length:=(List.getElem?_eq_some_iff.1 hj).1
 rw [List.getElem?_eq_getElem hil] at hi
 rw [List.getElem?_eq_getElem hjl] at hj
 injection hi with hi
 injection hj with hj
 unfold Apt at h
 rw [List.pairwise_iff_getElem] at h
 rcases Nat.lt_or_gt_of_ne ne with c | c
 ·exact h i j hil hjl c b (by rw [hi];exact e1) (by rw [hj];exact e2)
 ·exact h j i hjl hil c b (by rw [hj];exact e2) (by rw [hi];exact e1)
structure LtR (w0:World) (A B B2:Nat) (cs:Array Value) (s:St) (now:Int) (v u:Value) (k:Nat) (lv:Value) (W:World):Prop where
 bel:Below A w0 W
 box:Blk W A 34 cs∧Blk W (A+1) 3 #[.int .i64 now]∧Blk W (A+1+1) 34 (stB sZ (.slice none 0 0) (.slice none 0 0))
 sz:A+3≤B∧B≤B2∧B2≤W.heap.size
 row:∃ Z:List Lz,Z.map Prod.fst=mixK now s.x.F k∧W.ownsRow B 62 2 v s.x.F.length (zCs Z)∧(∀ z∈Z,OwnT W B z.2 z.1.L)∧Apt Z∧∀ z∈Z,∀ b,z.2.ownBlock=some b→b<B2∧u.ownBlock≠some b
 vlt:∀ b,v.ownBlock=some b→b<B2
 ult:∀ b,u.ownBlock=some b→b<B2
 run:OwnT W B u s.run
 late:OwnT W B2 lv (ltA now (s.x.F.take k))
theorem LtR.start {w0 W:World} {A B B2:Nat} {cs:Array Value} {s:St} {now:Int} {v u:Value} (bel:Below A w0 W) (box:Blk W A 34 cs∧Blk W (A+1) 3 #[.int .i64 now]∧Blk W (A+1+1) 34 (stB sZ (.slice none 0 0) (.slice none 0 0))) (hB:A+3≤B) (hw:B2=W.heap.size) (hBB:B≤B2) (o:StO W B s v u):LtR w0 A B B2 cs s now v u 0 (.slice none 0 0) W:=by
 obtain ⟨⟨Z,h1,h2,h3,h4,h5⟩,h6⟩:=o
 exact ⟨bel,box,⟨hB,hBB,Nat.le_of_eq hw⟩,⟨Z,by rw [mixK_zero];exact h1,h2,h3,h4,fun z hz b e=>⟨by rw [hw];exact ((h3 z hz).lt b e).2,h5 z hz b e⟩⟩,fun b e=>by rw [hw];exact (h2.lt b e).2,fun b e=>by rw [hw];exact (h6.lt b e).2,h6,World.ownsRow_nil _ _ _ _⟩
theorem LtR.next {w0 wr:World} {A B B2 k:Nat} {cs:Array Value} {s:St} {now:Int} {v u lv:Value} (h:LtR w0 A B B2 cs s now v u k lv wr) (hk:k<s.x.F.length) :
  ∃ g cap vk,v=.slice (some ⟨g,0,none⟩) s.x.F.length cap∧(wr.cell? ⟨g,k*2,none⟩=some (.int .u64 (gl s.x.F k).s)∧wr.cell? ⟨g,k*2+1,none⟩=some vk)∧OwnT wr B vk (gl s.x.F k).L∧(B≤g∧g<B2) ∧
  ∀ w7 lv',Kept (fun j=>lv.ownBlock=some j) wr w7→OwnT w7 B2 lv' (ltA now (s.x.F.take (k+1)))→OwnT w7 B vk (gl s.x.F k).L∧Blk w7 A 34 cs∧Blk w7 (A+1) 3 #[.int .i64 now] ∧
  ∀ w8 v',OwnT w8 B v' (kpF now (gl s.x.F k).L)→v'.ownBlock=vk.ownBlock→Kept (fun j=>vk.ownBlock=some j) w7 w8→(w8.cell? ⟨g,k*2+1,none⟩=some vk∧w8.frozen? ⟨g,k*2+1,none⟩=false)∧Blk w8 A 34 cs∧LtR w0 A B B2 cs s now v u (k+1) lv' (w8.setCell ⟨g,k*2+1,none⟩ v'):=by
 obtain ⟨bel,⟨b1,b2,b3⟩,⟨z1,z2,z3⟩,⟨Z,hZ,r,oz,ap,hb⟩,vlt,ult,hrun,hlate⟩:=h
 have lZ:Z.length=s.x.F.length:=by rw [←List.length_map (f:=Prod.fst),hZ,mixK_len (by omega)]
 obtain ⟨vk,hX⟩:=map_fst_get hZ (k:=k) (by rw [mixK_len (by omega)];exact hk)
 rw [mixK_at hk] at hX
 have hm:=List.mem_of_getElem? hX
 obtain ⟨g,cap,cur,e,hB,hblk,hcell,-⟩:=row_put r lZ hX
 have hgB2:g<B2:=vlt g (by rw [e];rfl)
 have ovk:OwnT wr B vk (gl s.x.F k).L:=oz _ hm
 refine ⟨g,cap,vk,e,hcell,ovk,⟨hB,hgB2⟩,fun w7 lv' k7 hl7=>?_⟩
 have lvB:∀ j,lv.ownBlock=some j→B2≤j:=fun j e=>(hlate.lt j e).1
 have hlo:∀ j,B≤j→j<B2→¬ lv.ownBlock=some j:=fun j _ h2 e=>by have:=lvB j e;omega
 have ov7:OwnT w7 B vk (gl s.x.F k).L:=ovk.keptV k7 (fun j e1 e2=>by have:=(hb _ hm j e1).1;have:=lvB j e2;omega)
 refine ⟨ov7,b1.kept k7 (fun e=>by have:=lvB _ e;omega),b2.kept k7 (fun e=>by have:=lvB _ e;omega),fun w8 v' o8 hown k8=>?_⟩
 have vkB:∀ j,vk.ownBlock=some j→B≤j∧j<B2:=fun j e=>⟨(ovk.lt j e).1,(hb _ hm j e).1⟩
 have r7:=ownsRow_kept r k7 (fun j e1 e2=>by have:=vlt j e1;have:=lvB j e2;omega)
 have hgv:vk.ownBlock≠some g:=fun e1=>by
  rcases id ovk.2 with ⟨rfl,-⟩ | ⟨q,cap',cur',rfl,-,hq,-⟩
  ·cases e1
  ·have e1:q=g:=by injection e1
   subst e1
   have:=hblk
   unfold Blk at this
   rw [hq] at this
   injection this with x
   injection x with x1 x2 x3
   cases x2
 have r8:=ownsRow_kept r7 k8 (fun j e1 e2=>by
  have:j=g:=by rw [e] at e1;injection e1 with e1;exact e1.symm
  subst this
  exact hgv e2)
 obtain ⟨g',cap',cur',e',hB',hblk',hcell',PUT⟩:=row_put r8 lZ hX
 obtain rfl:g=g':=by rw [e] at e';injection e' with x1;injection x1 with x1;injection x1
 obtain ⟨P1,P2⟩:=PUT v' ⟨(gl s.x.F k).s,kpF now (gl s.x.F k).L⟩ rfl
 have a8:Blk w8 A 34 cs:=(b1.kept k7 (fun e=>by have:=lvB _ e;omega)).kept k8 (fun e=>by have:=(vkB _ e).1;omega)
 refine ⟨⟨hcell'.2,hblk'.frozen _⟩,a8,?_,⟨a8.kept P2 (by omega),((b2.kept k7 (fun e=>by have:=lvB _ e;omega)).kept k8 (fun e=>by have:=(vkB _ e).1;omega)).kept P2 (by omega),((b3.kept k7 (fun e=>by have:=lvB _ e;omega)).kept k8 (fun e=>by have:=(vkB _ e).1;omega)).kept P2 (by omega)⟩,⟨z1,z2,by have:=k7.size;have:=k8.size;have:=P2.size;omega⟩,⟨Z.set k (⟨(gl s.x.F k).s,kpF now (gl s.x.F k).L⟩,v'),?_,P1,fun z hz=>?_,ap.set hX hown,fun z hz b eb=>?_⟩,vlt,ult,?_,?_⟩
 ·have:=k7.size
  have:=k8.size
  exact ((bel.trans (k7.below (by omega) (fun j e=>by have:=lvB _ e;omega))).trans (k8.below (by omega) (fun j e=>by have:=(vkB _ e).1;omega))).trans (P2.below (by omega) (fun j e=>by omega))
 ·rw [List.map_set,hZ]
  exact mixK_set hk
 ·obtain ⟨j,hj,rfl⟩:=List.mem_iff_getElem.1 hz
  have hj2:(Z.set k (⟨(gl s.x.F k).s,kpF now (gl s.x.F k).L⟩,v'))[j]?=some ((Z.set k (⟨(gl s.x.F k).s,kpF now (gl s.x.F k).L⟩,v'))[j]):=List.getElem?_eq_getElem hj
  rw [List.length_set] at hj
  by_cases c:k=j
  ·subst c
   rw [List.getElem?_set_self hj] at hj2
   injection hj2 with hj2
   rw [←hj2]
   exact o8.other hblk' P2
  ·rw [List.getElem?_set_ne c,List.getElem?_eq_getElem hj] at hj2
   injection hj2 with hj2
   rw [←hj2]
   have hzj:Z[j]?=some Z[j]:=List.getElem?_eq_getElem hj
   have hmj:=List.mem_of_getElem? hzj
   have o7:=(oz _ hmj).keptV k7 (fun q e1 e2=>by have:=(hb _ hmj q e1).1;have:=lvB q e2;omega)
   exact (o7.keptV k8 (fun q e1 e2=>ap.ne hzj hX (Ne.symm c) q e1 e2)).other hblk' P2
 ·rcases List.mem_or_eq_of_mem_set hz with c | c
  ·exact hb z c b eb
  ·rw [c] at eb
   exact hb _ hm b (by rw [←hown];exact eb)
 ·have o7:=hrun.keptV k7 (fun q e1 e2=>by have:=ult q e1;have:=lvB q e2;omega)
  exact (o7.keptV k8 (fun q e1 e2=>(hb _ hm q e2).2 e1)).other hblk' P2
 ·have:=(hl7.keptV k8 (fun q e1 e2=>by have:=(hl7.lt q e1).1;have:=(vkB q e2).2;omega))
  exact this.other hblk' P2
theorem LtR.fin {w0 W:World} {A B B2:Nat} {cs:Array Value} {s:St} {now:Int} {v u lv:Value} (h:LtR w0 A B B2 cs s now v u s.x.F.length lv W):(∃ a c,v=.slice a s.x.F.length c∧StR (fun j=>j<B∨B2≤j) W a c (ltK now s.x.F))∧OwnT W B2 lv (ltA now s.x.F)∧OwnT W B u s.run:=by
 obtain ⟨bel,⟨b1,b2,b3⟩,⟨z1,z2,z3⟩,⟨Z,hZ,ho,hz,ap,hb⟩,vlt,ult,hrun,hlate⟩:=h
 rw [mixK_all] at hZ
 rw [List.take_length] at hlate
 refine ⟨?_,hlate,hrun⟩
 have hn:(ltK now s.x.F).length=s.x.F.length:=ltK_len _ _
 rcases id ho.2 with ⟨rfl,e⟩ | ⟨g,cap,cur,rfl,hB,hg,hc,r⟩
 ·rw [e]
  refine ⟨none,0,rfl,?_⟩
  have:ltK now s.x.F=[]:=List.eq_nil_of_length_eq_zero (by omega)
  rw [this]
  exact StR.nil _ _
 ·refine ⟨some ⟨g,0,none⟩,cap,rfl,(by omega),(fun e=>by cases e),Z,hZ,fun W' k=>⟨fun _=>?_,fun z hzm=>?_⟩⟩
  ·have ho':=ownsRow_kept ho k (fun j e1 e2=>by have:=(ho.lt j e1).1;have:=vlt j e1;omega)
   refine ⟨g,0,rfl,(ho'.lt g rfl).2,fun j u hj=>?_⟩
   have:=ho'.cells rfl j u hj
   rw [Go.WideShapes.add_plain] at this
   exact this
  ·have q:OwnT W' B z.2 z.1.L:=ownsRow_kept (hz z hzm) k (fun j e1 e2=>by have:=((hz z hzm).lt j e1).1;have:=(hb z hzm j e1).1;omega)
   exact q.lz
set_option maxRecDepth 20000 in
theorem ins_none (a:Option Addr) (c:Nat) (f:Value) (w:World):Calls Tryz.prog 95 #[.slice a 0 c,.int .i64 0,.int .i64 0,f] w fun e w'=>e=.returned (.tuple #[])∧w'=w:=by
 go_enter Tryz.func95,Tryz.ntmps95
 go_wp2
 go_loopw [8] (fun i wr=>i=.int .i64 1∧wr=w) (fun _ _=>0)
 case atStart=>exact ⟨rfl,rfl⟩
 case round =>
  obtain ⟨rfl,rfl⟩:=hrel
  go_wp2
  go_end0
  exact ⟨rfl,rfl⟩
set_option maxRecDepth 20000 in
theorem stable_none (a:Option Addr) (c:Nat) (f:Value) (w:World):Calls Tryz.prog 83 #[.slice a 0 c,.int .i64 0,f] w fun e w'=>e=.returned (.tuple #[])∧w'=w:=by
 have I:=ins_none a c f
 go_enter Tryz.func83,Tryz.ntmps83
 go_wp2
 go_loopw [7,8] (fun y z wr=>y=.int .i64 0∧z=.int .i64 20∧wr=w) (fun _ _ _=>0)
 case atStart=>exact ⟨rfl,rfl,rfl⟩
 case round =>
  obtain ⟨rfl,rfl,rfl⟩:=hrel
  go_wp2_with fail
  go_at_call 95
  refine (I wr).mono ?_
  rintro e w2 ⟨rfl,rfl⟩
  go_wp2_with fail
  go_loopw [6] (fun x wr=>x=.int .i64 20∧wr=w2) (fun _ _=>0)
  case atStart=>exact ⟨rfl,rfl⟩
  case round =>
   obtain ⟨rfl,rfl⟩:=hrel
   go_wp2
   go_end0
   exact ⟨rfl,rfl⟩
set_option maxRecDepth 20000 in
theorem sort_none (a:Option Addr) (c:Nat) (w:World):Calls Tryz.prog 54 #[.slice a 0 c,.func (.func 55) #[] #[]] w fun e w'=>e=.returned (.tuple #[])∧w'=w:=by
 have I:=stable_none a c (.func (.func 55) #[] #[]) w
 go_enter Tryz.func54,Tryz.ntmps54
 go_wp2_with (go_at_call 83;refine I.mono ?_;rintro e w2 ⟨rfl,rfl⟩)
 go_end0
 exact ⟨rfl,rfl⟩
end Go.Proofs.YtlgibnmoogbdcaaGreat
