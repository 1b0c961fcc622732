/-
  Does a width fit, and for how many seats: by the program, and by the reference.
  The seats that run or wait; is a level empty; for how many seats fits the one who is next: by the program.
  For how many seats fits the one who is next, by the program.
  Lanes put into a level, by the program: who runs there is put into memory of its own.
  Lanes that are cloned, their lists not; a lane's list put into a row of the call's own.
-/
import Derived.Test.YtlgibnmoogbdcaaGreatR29
namespace Go.Proofs.YtlgibnmoogbdcaaGreat
open Go.RowKit
theorem rnA_bound (L:List Tk) (h:L.length≤2000):0≤rnA L∧rnA L≤32000:=rnT_bound L L.length h
set_option maxRecDepth 20000 in
set_option maxHeartbeats 1000000 in
theorem fits_ok (s:St) (v:Value) (ar:Option Addr) (cr:Nat) (wd:Int) (w:World) (hr:SlR w ar cr s.run) (hl:s.run.length≤2000) :
  Calls Tryz.prog 23 #[.agg (stB s v (.slice ar s.run.length cr)),.int .i64 wd] w fun e w'=>e=.returned (.tuple #[.int .i64 (ftN s wd),.bool (ftB s wd)])∧Below w.heap.size w w':=by
 have HE:Hd (s.run=[] ↔ s.run.length=0):=⟨List.length_eq_zero_iff.symm⟩
 have hrn:=rnA_bound s.run hl
 obtain ⟨n,hn⟩:∃ n,s.run.length=n:=⟨_,rfl⟩
 have RN:∀ W,Below w.heap.size w W→Calls Tryz.prog 25 #[.agg (stB s v (.slice ar n cr))] W fun e w'=>e=.returned (.int .i64 (rnA s.run))∧Below W.heap.size W w':=fun W b=>by
  rw [←hn];exact runs_ok s v ar cr W (hr.carry b) hl
 rw [hn] at hl HE ⊢
 clear hn
 obtain ⟨w1,hw1⟩:∃ w1,w1=w.alloc (.cells (stB s v (.slice ar n cr)) 34):=⟨_,rfl⟩
 have B:Below w.heap.size w w1:=by rw [hw1];exact alloc_below _ _
 have N1:Blk w1 w.heap.size 34 (stB s v (.slice ar n cr)):=by rw [hw1];exact Blk.new _ _ _
 have HRN:Hd (∀ W,Below w.heap.size w W→Calls Tryz.prog 25 #[.agg (stB s v (.slice ar n cr))] W fun e w'=>e=.returned (.int .i64 (rnA s.run))∧Below W.heap.size W w'):=⟨RN⟩
 have HB:Hd (Below w.heap.size w w1∧Blk w1 w.heap.size 34 (stB s v (.slice ar n cr))):=⟨B,N1⟩
 have k1:w1.cell? ⟨w.heap.size,1,none⟩=some (.int .i64 s.lv.kind):=N1.cellv 1 rfl
 have k11:w1.cell? ⟨w.heap.size,11,none⟩=some (.int .i64 s.lim):=N1.cellv 11 rfl
 have c22:=N1.str.1
 have wl:=clW_lo wd
 have wh:=clW_hi wd
 clear hr N1 B RN
 unfold ftN ftB
 by_cases c1:s.lv.kind=1
 ·rw [if_pos c1,if_pos c1]
  generalize s.lv.kind=kd at *
  subst c1
  clear HRN HE hrn
  show Calls _ _ _ _ fun e w'=>e=.returned (.tuple #[.int .i64 (min (max wd 1) 16),.bool true])∧_
  clear wl wh
  go_enter Tryz.func23,Tryz.ntmps23
  go_upto_region 1 with fail
  rw [←hw1]
  clear hw1
  go_wp2_with fail
  go_ret2
  exact ⟨rfl,HB.out.1⟩
 ·have c1':(s.lv.kind == 1)=false:=by simpa using c1
  rw [if_neg c1,if_neg c1]
  by_cases c2:s.lim<1
  ·rw [if_pos c2,if_pos c2]
   clear HRN HE hrn
   go_enter Tryz.func23,Tryz.ntmps23
   go_upto_region 1 with fail
   rw [←hw1]
   clear hw1
   go_wp2_with fail
   go_ret2
   exact ⟨rfl,HB.out.1⟩
  ·rw [if_neg c2,if_neg c2]
   by_cases c3:n=0
   ·rw [if_pos (HE.out.2 c3),if_pos (HE.out.2 c3)]
    subst c3
    clear HRN HE hrn
    show Calls _ _ _ _ fun e w'=>e=.returned (.tuple #[.int .i64 (min (min (max wd 1) 16) s.lim),.bool true])∧_
    clear wl wh
    go_enter Tryz.func23,Tryz.ntmps23
    go_upto_region 1 with fail
    rw [←hw1]
    clear hw1
    go_wp2_with fail
    go_ret2
    exact ⟨rfl,HB.out.1⟩
   ·rw [if_neg (fun e=>c3 (HE.out.1 e)),if_neg (fun e=>c3 (HE.out.1 e))]
    have c3':((n:Int) == 0)=false:=by simp;omega
    generalize rnA s.run=R at *
    clear HE
    obtain ⟨e,he⟩:∃ e,e=clW wd:=⟨_,rfl⟩
    have he2:min (max wd 1) 16=e:=by rw [he];rfl
    rw [←he] at wl wh ⊢
    clear he
    have V1:Hd (IntKind.i64.wrap (R+e)=R+e):=⟨by rw [IntKind.wrap_i64] <;> omega⟩
    by_cases c4:R+e≤s.lim
    ·rw [if_pos c4,decide_eq_true c4]
     go_enter Tryz.func23,Tryz.ntmps23
     go_upto_region 1 with fail
     rw [←hw1]
     clear hw1
     go_upto_region 8 with fail
     obtain ⟨A,hA⟩:∃ A,A=w.heap.size:=⟨_,rfl⟩
     have HA:Hd (A=w.heap.size):=⟨hA⟩
     rw [←hA] at HB HRN k1 k11 c22 ⊢
     clear hA
     refine AnyG.start (T:=fun W=>Blk W A 34 (stB s v (.slice ar n cr))∧Below A w W) (U:=fun _=>True) (j0:=100) (by kernel_rfl) ?_
     have R:Blk w1.drew A 34 (stB s v (.slice ar n cr))∧Below A w w1.drew:=⟨HB.out.2,HB.out.1.drew⟩
     generalize w1.drew=w3 at *
     have X1:Hd (∀ W,Blk W A 34 (stB s v (.slice ar n cr))→W.cell? ⟨A,11,none⟩=some (.int .i64 s.lim)):=⟨fun W q=>q.cellv 11 rfl⟩
     clear k1 k11 c22
     refine .tq 0 29 R ?_ (hy:=fun w hSw=>by exact exec_loadSt _ rfl A rfl _ hSw.1 rfl);simp only [oqA,oqB,oqC]
     refine .tq 2 31 R ?_;simp only [oqA,oqB,oqC]
     refine .tq 4 33 R ?_;simp only [oqA,oqB,oqC]
     refine .tq 5 34 R ?_ (hy:=fun w hSw=>by have s:=X1.out w hSw.1;go_simp;rfl);simp only [oqA,oqB,oqC]
     refine AnyG.ready (rs:=[1]) (by kernel_rfl) (by simp) ?_
     refine AllG.cons rfl (fun K hK=>?_) AllG.nil
     go_simp
     refine (HRN.out _ R.2).mono ?_
     rintro e w5 ⟨rfl,b5⟩
     have R5:Blk w5 A 34 (stB s v (.slice ar n cr))∧Below A w w5:=⟨R.1.kept (Kept.of_below b5 (fun _=>False)) id,R.2.trans (b5.mono (by rw [HA.out];exact R.2.size))⟩
     refine hK.out _ _ ⟨R5,fun _=>trivial⟩ ?_
     clear hK K R HRN
     refine .tq (v:=.int .i64 (R+e)) 3 32 R5 ?_ (hy:=fun w hSw=>by have s:=V1.out;go_simp;try rfl);simp only [oqA,oqB,oqC]
     refine .tq 6 35 R5 ?_;simp only [oqA,oqB,oqC]
     refine .tq 7 28 R5 ?_;simp only [oqA,oqB,oqC]
     refine AnyG.done (by kernel_rfl) ?_ _
     rw [HA.out] at R5
     have HZ:Hd (Below w.heap.size w w5):=⟨R5.2⟩
     clear R5 HB
     go_wp2
     go_ret2
     exact ⟨rfl,HZ.out⟩
    ·rw [if_neg c4,decide_eq_false c4]
     go_enter Tryz.func23,Tryz.ntmps23
     go_upto_region 1 with fail
     rw [←hw1]
     clear hw1
     go_upto_region 8 with fail
     obtain ⟨A,hA⟩:∃ A,A=w.heap.size:=⟨_,rfl⟩
     have HA:Hd (A=w.heap.size):=⟨hA⟩
     rw [←hA] at HB HRN k1 k11 c22 ⊢
     clear hA
     refine AnyG.start (T:=fun W=>Blk W A 34 (stB s v (.slice ar n cr))∧Below A w W) (U:=fun _=>True) (j0:=100) (by kernel_rfl) ?_
     have R:Blk w1.drew A 34 (stB s v (.slice ar n cr))∧Below A w w1.drew:=⟨HB.out.2,HB.out.1.drew⟩
     generalize w1.drew=w3 at *
     have X1:Hd (∀ W,Blk W A 34 (stB s v (.slice ar n cr))→W.cell? ⟨A,11,none⟩=some (.int .i64 s.lim)):=⟨fun W q=>q.cellv 11 rfl⟩
     clear k1 k11 c22
     refine .tq 0 29 R ?_ (hy:=fun w hSw=>by exact exec_loadSt _ rfl A rfl _ hSw.1 rfl);simp only [oqA,oqB,oqC]
     refine .tq 2 31 R ?_;simp only [oqA,oqB,oqC]
     refine .tq 4 33 R ?_;simp only [oqA,oqB,oqC]
     refine .tq 5 34 R ?_ (hy:=fun w hSw=>by have s:=X1.out w hSw.1;go_simp;rfl);simp only [oqA,oqB,oqC]
     refine AnyG.ready (rs:=[1]) (by kernel_rfl) (by simp) ?_
     refine AllG.cons rfl (fun K hK=>?_) AllG.nil
     go_simp
     refine (HRN.out _ R.2).mono ?_
     rintro e w5 ⟨rfl,b5⟩
     have R5:Blk w5 A 34 (stB s v (.slice ar n cr))∧Below A w w5:=⟨R.1.kept (Kept.of_below b5 (fun _=>False)) id,R.2.trans (b5.mono (by rw [HA.out];exact R.2.size))⟩
     refine hK.out _ _ ⟨R5,fun _=>trivial⟩ ?_
     clear hK K R HRN
     refine .tq (v:=.int .i64 (R+e)) 3 32 R5 ?_ (hy:=fun w hSw=>by have s:=V1.out;go_simp;try rfl);simp only [oqA,oqB,oqC]
     refine .tq 6 35 R5 ?_;simp only [oqA,oqB,oqC]
     refine .tq 7 28 R5 ?_;simp only [oqA,oqB,oqC]
     refine AnyG.done (by kernel_rfl) ?_ _
     rw [HA.out] at R5
     have HZ:Hd (Below w.heap.size w w5):=⟨R5.2⟩
     clear R5 HB
     go_wp2
     go_ret2
     exact ⟨rfl,HZ.out⟩
set_option maxRecDepth 20000 in
set_option maxHeartbeats 1000000 in
theorem rfits_ok (s:St) (v:Value) (ar:Option Addr) (cr:Nat) (wd:Int) (w:World) (hr:SlR w ar cr s.run) (hl:s.run.length≤2000) :
  Calls Tryz.prog 24 #[.agg (stB s v (.slice ar s.run.length cr)),.int .i64 wd] w fun e w'=>e=.returned (.tuple #[.int .i64 (ftN s wd),.bool (ftB s wd)])∧Below w.heap.size w w':=by
 have HE:Hd (s.run=[] ↔ s.run.length=0):=⟨List.length_eq_zero_iff.symm⟩
 have hrn:=rnA_bound s.run hl
 obtain ⟨n,hn⟩:∃ n,s.run.length=n:=⟨_,rfl⟩
 have RN:∀ W,Below w.heap.size w W→Calls Tryz.prog 26 #[.agg (stB s v (.slice ar n cr))] W fun e w'=>e=.returned (.int .i64 (rnA s.run))∧Below W.heap.size W w':=fun W b=>by
  rw [←hn];exact rruns_ok s v ar cr W (hr.carry b) hl
 rw [hn] at hl HE ⊢
 clear hn
 obtain ⟨w1,hw1⟩:∃ w1,w1=w.alloc (.cells (stB s v (.slice ar n cr)) 34):=⟨_,rfl⟩
 have B:Below w.heap.size w w1:=by rw [hw1];exact alloc_below _ _
 have N1:Blk w1 w.heap.size 34 (stB s v (.slice ar n cr)):=by rw [hw1];exact Blk.new _ _ _
 have HRN:Hd (∀ W,Below w.heap.size w W→Calls Tryz.prog 26 #[.agg (stB s v (.slice ar n cr))] W fun e w'=>e=.returned (.int .i64 (rnA s.run))∧Below W.heap.size W w'):=⟨RN⟩
 have HB:Hd (Below w.heap.size w w1∧Blk w1 w.heap.size 34 (stB s v (.slice ar n cr))):=⟨B,N1⟩
 have k1:w1.cell? ⟨w.heap.size,1,none⟩=some (.int .i64 s.lv.kind):=N1.cellv 1 rfl
 have k11:w1.cell? ⟨w.heap.size,11,none⟩=some (.int .i64 s.lim):=N1.cellv 11 rfl
 have c22:=N1.str.1
 have wl:=clW_lo wd
 have wh:=clW_hi wd
 clear hr N1 B RN
 unfold ftN ftB
 by_cases c1:s.lv.kind=1
 ·rw [if_pos c1,if_pos c1]
  generalize s.lv.kind=kd at *
  subst c1
  clear HRN HE hrn
  go_enter Tryz.func24,Tryz.ntmps24
  go_upto_region 1 with fail
  rw [←hw1]
  clear hw1
  go_wp2_with (go_at_call 61;refine (rwidth_ok _ _).mono ?_;rintro e w' ⟨rfl,rfl⟩)
  go_ret2
  exact ⟨rfl,HB.out.1⟩
 ·have c1':(s.lv.kind == 1)=false:=by simpa using c1
  rw [if_neg c1,if_neg c1]
  by_cases c2:s.lim<1
  ·rw [if_pos c2,if_pos c2]
   clear HRN HE hrn
   go_enter Tryz.func24,Tryz.ntmps24
   go_upto_region 1 with fail
   rw [←hw1]
   clear hw1
   go_wp2_with (go_at_call 61;refine (rwidth_ok _ _).mono ?_;rintro e w' ⟨rfl,rfl⟩)
   go_ret2
   exact ⟨rfl,HB.out.1⟩
  ·rw [if_neg c2,if_neg c2]
   by_cases c3:n=0
   ·rw [if_pos (HE.out.2 c3),if_pos (HE.out.2 c3)]
    subst c3
    clear HRN HE hrn
    by_cases c5:s.lim<clW wd
    ·rw [Int.min_eq_right (by omega)]
     go_enter Tryz.func24,Tryz.ntmps24
     go_upto_region 1 with fail
     rw [←hw1]
     clear hw1
     go_wp2_with (go_at_call 61;refine (rwidth_ok _ _).mono ?_;rintro e w' ⟨rfl,rfl⟩)
     go_ret2
     exact ⟨rfl,HB.out.1⟩
    ·rw [Int.min_eq_left (by omega)]
     go_enter Tryz.func24,Tryz.ntmps24
     go_upto_region 1 with fail
     rw [←hw1]
     clear hw1
     go_wp2_with (go_at_call 61;refine (rwidth_ok _ _).mono ?_;rintro e w' ⟨rfl,rfl⟩)
     go_ret2
     exact ⟨rfl,HB.out.1⟩
   ·rw [if_neg (fun e=>c3 (HE.out.1 e)),if_neg (fun e=>c3 (HE.out.1 e))]
    have c3':((n:Int) == 0)=false:=by simp;omega
    generalize rnA s.run=R at *
    clear HE
    obtain ⟨e,he⟩:∃ e,e=clW wd:=⟨_,rfl⟩
    have RW:=rwidth_ok wd
    rw [←he] at wl wh RW ⊢
    clear he
    have V1:Hd (IntKind.i64.wrap (R+e)=R+e):=⟨by rw [IntKind.wrap_i64] <;> omega⟩
    by_cases c4:R+e≤s.lim
    ·rw [if_pos c4,decide_eq_true c4]
     go_enter Tryz.func24,Tryz.ntmps24
     go_upto_region 1 with fail
     rw [←hw1]
     clear hw1
     go_upto_region 10 with (go_at_call 61;refine (RW _).mono ?_;rintro e' w' ⟨rfl,hw⟩;have hw3:=hw.symm;subst hw3)
     obtain ⟨A,hA⟩:∃ A,A=w.heap.size:=⟨_,rfl⟩
     have HA:Hd (A=w.heap.size):=⟨hA⟩
     rw [←hA] at HB HRN k1 k11 c22 ⊢
     clear hA
     refine AnyG.start (T:=fun W=>Blk W A 34 (stB s v (.slice ar n cr))∧Below A w W) (U:=fun _=>True) (j0:=100) (by kernel_rfl) ?_
     have R:Blk w1.drew A 34 (stB s v (.slice ar n cr))∧Below A w w1.drew:=⟨HB.out.2,HB.out.1.drew⟩
     generalize w1.drew=w3 at *
     have X1:Hd (∀ W,Blk W A 34 (stB s v (.slice ar n cr))→W.cell? ⟨A,11,none⟩=some (.int .i64 s.lim)):=⟨fun W q=>q.cellv 11 rfl⟩
     clear k1 k11 c22
     refine .tq 0 27 R ?_ (hy:=fun w hSw=>by exact exec_loadSt _ rfl A rfl _ hSw.1 rfl);simp only [oqA,oqB,oqC]
     refine .tq 2 29 R ?_;simp only [oqA,oqB,oqC]
     refine .tq 4 31 R ?_;simp only [oqA,oqB,oqC]
     refine .tq 5 32 R ?_ (hy:=fun w hSw=>by have s:=X1.out w hSw.1;go_simp;rfl);simp only [oqA,oqB,oqC]
     refine AnyG.ready (rs:=[1]) (by kernel_rfl) (by simp) ?_
     refine AllG.cons rfl (fun K hK=>?_) AllG.nil
     go_simp
     refine (HRN.out _ R.2).mono ?_
     rintro e w5 ⟨rfl,b5⟩
     have R5:Blk w5 A 34 (stB s v (.slice ar n cr))∧Below A w w5:=⟨R.1.kept (Kept.of_below b5 (fun _=>False)) id,R.2.trans (b5.mono (by rw [HA.out];exact R.2.size))⟩
     refine hK.out _ _ ⟨R5,fun _=>trivial⟩ ?_
     clear hK K R HRN
     refine .tq (v:=.int .i64 (R+e)) 3 30 R5 ?_ (hy:=fun w hSw=>by have s:=V1.out;go_simp;try rfl);simp only [oqA,oqB,oqC]
     refine .tq 6 33 R5 ?_;simp only [oqA,oqB,oqC]
     refine AnyG.done (by kernel_rfl) ?_ _
     rw [HA.out] at R5
     have HZ:Hd (Below w.heap.size w w5):=⟨R5.2⟩
     clear R5 HB
     go_wp2
     go_ret2
     exact ⟨rfl,HZ.out⟩
    ·rw [if_neg c4,decide_eq_false c4]
     go_enter Tryz.func24,Tryz.ntmps24
     go_upto_region 1 with fail
     rw [←hw1]
     clear hw1
     go_upto_region 10 with (go_at_call 61;refine (RW _).mono ?_;rintro e' w' ⟨rfl,hw⟩;have hw3:=hw.symm;subst hw3)
     obtain ⟨A,hA⟩:∃ A,A=w.heap.size:=⟨_,rfl⟩
     have HA:Hd (A=w.heap.size):=⟨hA⟩
     rw [←hA] at HB HRN k1 k11 c22 ⊢
     clear hA
     refine AnyG.start (T:=fun W=>Blk W A 34 (stB s v (.slice ar n cr))∧Below A w W) (U:=fun _=>True) (j0:=100) (by kernel_rfl) ?_
     have R:Blk w1.drew A 34 (stB s v (.slice ar n cr))∧Below A w w1.drew:=⟨HB.out.2,HB.out.1.drew⟩
     generalize w1.drew=w3 at *
     have X1:Hd (∀ W,Blk W A 34 (stB s v (.slice ar n cr))→W.cell? ⟨A,11,none⟩=some (.int .i64 s.lim)):=⟨fun W q=>q.cellv 11 rfl⟩
     clear k1 k11 c22
     refine .tq 0 27 R ?_ (hy:=fun w hSw=>by exact exec_loadSt _ rfl A rfl _ hSw.1 rfl);simp only [oqA,oqB,oqC]
     refine .tq 2 29 R ?_;simp only [oqA,oqB,oqC]
     refine .tq 4 31 R ?_;simp only [oqA,oqB,oqC]
     refine .tq 5 32 R ?_ (hy:=fun w hSw=>by have s:=X1.out w hSw.1;go_simp;rfl);simp only [oqA,oqB,oqC]
     refine AnyG.ready (rs:=[1]) (by kernel_rfl) (by simp) ?_
     refine AllG.cons rfl (fun K hK=>?_) AllG.nil
     go_simp
     refine (HRN.out _ R.2).mono ?_
     rintro e w5 ⟨rfl,b5⟩
     have R5:Blk w5 A 34 (stB s v (.slice ar n cr))∧Below A w w5:=⟨R.1.kept (Kept.of_below b5 (fun _=>False)) id,R.2.trans (b5.mono (by rw [HA.out];exact R.2.size))⟩
     refine hK.out _ _ ⟨R5,fun _=>trivial⟩ ?_
     clear hK K R HRN
     refine .tq (v:=.int .i64 (R+e)) 3 30 R5 ?_ (hy:=fun w hSw=>by have s:=V1.out;go_simp;try rfl);simp only [oqA,oqB,oqC]
     refine .tq 6 33 R5 ?_;simp only [oqA,oqB,oqC]
     refine AnyG.done (by kernel_rfl) ?_ _
     rw [HA.out] at R5
     have HZ:Hd (Below w.heap.size w w5):=⟨R5.2⟩
     clear R5 HB
     go_wp2
     go_ret2
     exact ⟨rfl,HZ.out⟩
theorem stT_bound {F:List Ln} (hf:Few F):0≤stT F F.length∧stT F F.length≤4000000:=by
 have:=stT_lo F F.length
 have:=stT_hi hf F.length
 have:=hf.len
 omega
theorem wtT_bound {F:List Ln} (hf:Few F):0≤wtT F F.length∧wtT F F.length≤200000:=by
 have:=wtT_lo F F.length
 have:=wtT_hi hf F.length
 have:=hf.len
 omega
set_option maxRecDepth 20000 in
set_option maxHeartbeats 1000000 in
theorem wants_ok (s:St) (ax:Option Addr) (cx:Nat) (ar:Option Addr) (cr:Nat) (w:World) (hx:LsR w ax cx s.x.F) (hf:Few s.x.F) (hr:SlR w ar cr s.run) (hl:s.run.length≤2000) :
  Calls Tryz.prog 27 #[.agg (stB s (.slice ax s.x.F.length cx) (.slice ar s.run.length cr))] w fun e w'=>e=.returned (.int .i64 (wnA s))∧Below w.heap.size w w':=by
 have hrn:=rnA_bound s.run hl
 have hst:=stT_bound hf
 have HRN:Hd (∀ W,Below w.heap.size w W→Calls Tryz.prog 25 #[.agg (stB s (.slice ax s.x.F.length cx) (.slice ar s.run.length cr))] W fun e w'=>e=.returned (.int .i64 (rnA s.run))∧Below W.heap.size W w'):=⟨fun W b=>runs_ok s _ ar cr W (hr.carry b) hl⟩
 have HST:Hd (∀ W,Below w.heap.size w W→Calls Tryz.prog 62 #[.agg #[.int .u64 s.x.r,.int .i64 s.x.g,.int .i64 s.x.n,.int .i64 s.x.o,.slice ax s.x.F.length cx]] W fun e w'=>e=.returned (.int .i64 (stT s.x.F s.x.F.length))∧Below W.heap.size W w'):=⟨fun W b=>seatsF_ok s.x.r s.x.g s.x.n s.x.o ax cx s.x.F W (hx.carry b) hf⟩
 unfold wnA stA
 generalize stT s.x.F s.x.F.length=T at *
 generalize rnA s.run=R at *
 generalize s.x.F.length=n at *
 generalize s.run.length=m at *
 obtain ⟨w1,hw1⟩:∃ w1,w1=w.alloc (.cells (stB s (.slice ax n cx) (.slice ar m cr)) 34):=⟨_,rfl⟩
 have B:Below w.heap.size w w1:=by rw [hw1];exact alloc_below _ _
 have N1:Blk w1 w.heap.size 34 (stB s (.slice ax n cx) (.slice ar m cr)):=by rw [hw1];exact Blk.new _ _ _
 obtain ⟨A,hA⟩:∃ A,A=w.heap.size:=⟨_,rfl⟩
 have HA:Hd (A=w.heap.size):=⟨hA⟩
 have HB:Hd (Blk w1.drew A 34 (stB s (.slice ax n cx) (.slice ar m cr))∧Below w.heap.size w w1.drew):=⟨by rw [hA];exact N1,B.drew⟩
 have X1:Hd (∀ W,Blk W A 34 (stB s (.slice ax n cx) (.slice ar m cr))→W.cell? ⟨A,17,none⟩=some (.int .u64 s.x.r)∧W.cell? ⟨A,18,none⟩=some (.int .i64 s.x.g)∧W.cell? ⟨A,19,none⟩=some (.int .i64 s.x.n)∧W.cell? ⟨A,20,none⟩=some (.int .i64 s.x.o)∧W.cell? ⟨A,21,none⟩=some (.slice ax n cx)):=⟨fun W q=>q.stx.1⟩
 have V1:Hd (IntKind.i64.wrap (R+T)=R+T):=⟨by rw [IntKind.wrap_i64] <;> omega⟩
 clear hx hf hr N1 B
 go_enter Tryz.func27,Tryz.ntmps27
 go_upto_region 1 with fail
 rw [←hw1]
 clear hw1
 rw [←hA]
 clear hA
 refine AnyG.start (T:=fun W=>Blk W A 34 (stB s (.slice ax n cx) (.slice ar m cr))∧Below w.heap.size w W) (U:=fun _=>True) (j0:=100) (by kernel_rfl) ?_
 generalize w1.drew=w3 at *
 have R3:=HB.out
 refine .tq 0 3 R3 ?_ (hy:=fun w hSw=>by exact exec_loadSt _ rfl A rfl _ hSw.1 rfl);simp only [oqA,oqB,oqC]
 refine .tq 2 5 R3 ?_;simp only [oqA,oqB,oqC]
 refine .tq 3 6 R3 ?_ (hy:=fun w hSw=>by obtain ⟨c0,c1,c2,c3,c4⟩:=X1.out w hSw.1;go_simp;rfl);simp only [oqA,oqB,oqC]
 refine AnyG.ready (rs:=[1]) (by kernel_rfl) (by simp) ?_
 refine AllG.cons rfl (fun K hK=>?_) AllG.nil
 go_simp
 refine (HRN.out _ R3.2).mono ?_
 rintro e w5 ⟨rfl,b5⟩
 have R5:Blk w5 A 34 (stB s (.slice ax n cx) (.slice ar m cr))∧Below w.heap.size w w5:=⟨R3.1.kept (Kept.of_below b5 (fun _=>False)) id,R3.2.trans (b5.mono R3.2.size)⟩
 refine hK.out _ _ ⟨R5,fun _=>trivial⟩ ?_
 clear hK K R3 HRN
 refine AnyG.ready (rs:=[4]) (by kernel_rfl) (by simp) ?_
 refine AllG.cons rfl (fun K hK=>?_) AllG.nil
 go_simp
 refine (HST.out _ R5.2).mono ?_
 rintro e w6 ⟨rfl,b6⟩
 have R6:Blk w6 A 34 (stB s (.slice ax n cx) (.slice ar m cr))∧Below w.heap.size w w6:=⟨R5.1.kept (Kept.of_below b6 (fun _=>False)) id,R5.2.trans (b6.mono R5.2.size)⟩
 refine hK.out _ _ ⟨R6,fun _=>trivial⟩ ?_
 clear hK K R5 HST
 refine .tq (v:=.int .i64 (R+T)) 5 8 R6 ?_ (hy:=fun w hSw=>by have s:=V1.out;go_simp;try rfl);simp only [oqA,oqB,oqC]
 refine .tq 6 2 R6 ?_;simp only [oqA,oqB,oqC]
 refine AnyG.done (by kernel_rfl) ?_ _
 have HZ:Hd (Below w.heap.size w w6):=⟨R6.2⟩
 clear R6 HB
 go_wp2
 go_ret
 exact ⟨rfl,HZ.out⟩
set_option maxRecDepth 20000 in
set_option maxHeartbeats 1000000 in
theorem empty_ok (s:St) (ax:Option Addr) (cx:Nat) (ar:Option Addr) (cr:Nat) (w:World) (hx:LsR w ax cx s.x.F) (hf:Few s.x.F) (hl:s.run.length≤2000) :
  Calls Tryz.prog 29 #[.agg (stB s (.slice ax s.x.F.length cx) (.slice ar s.run.length cr))] w fun e w'=>e=.returned (.bool (decide (wtA s.x.F=0∧s.run=[])))∧Below w.heap.size w w':=by
 have hwt:=wtT_bound hf
 obtain ⟨w1,hw1⟩:∃ w1,w1=w.alloc (.cells (stB s (.slice ax s.x.F.length cx) (.slice ar s.run.length cr)) 34):=⟨_,rfl⟩
 have B:Below w.heap.size w w1:=by rw [hw1];exact alloc_below _ _
 have N1:Blk w1 w.heap.size 34 (stB s (.slice ax s.x.F.length cx) (.slice ar s.run.length cr)):=by rw [hw1];exact Blk.new _ _ _
 have WT:=waiting_ok s.x.r s.x.g s.x.n s.x.o ax cx s.x.F w1 (hx.carry B) hf
 obtain ⟨c0,c1,c2,c3,c4⟩:=N1.stx.1
 have c5:=N1.str.1
 have HB:Hd (Below w.heap.size w w1∧Blk w1 w.heap.size 34 (stB s (.slice ax s.x.F.length cx) (.slice ar s.run.length cr))):=⟨B,N1⟩
 clear hx hf N1 B
 have HD:Hd (decide (wtA s.x.F=0∧s.run=[])=((wtT s.x.F s.x.F.length == 0) && ((s.run.length:Int) == 0))):=⟨by
  unfold wtA
  rw [Bool.eq_iff_iff]
  simp [List.length_eq_zero_iff]⟩
 rw [HD.out]
 clear HD
 generalize wtT s.x.F s.x.F.length=T at *
 generalize s.x.F.length=n at *
 generalize s.run.length=m at *
 by_cases e1:T=0
 ·subst e1
  by_cases e2:m=0
  ·subst e2
   go_enter Tryz.func29,Tryz.ntmps29
   go_upto_region 1 with fail
   rw [←hw1]
   clear hw1
   go_wp2_with (go_at_call 34;refine WT.mono ?_;rintro e w2 ⟨rfl,b2⟩;have d5:=(HB.out.2.kept (Kept.of_below b2 (fun _=>False)) id).str.1)
   go_ret
   exact ⟨rfl,HB.out.1.trans (b2.mono HB.out.1.size)⟩
  ·have e2':((m:Int) == 0)=false:=by simp;omega
   rw [e2']
   go_enter Tryz.func29,Tryz.ntmps29
   go_upto_region 1 with fail
   rw [←hw1]
   clear hw1
   go_wp2_with (go_at_call 34;refine WT.mono ?_;rintro e w2 ⟨rfl,b2⟩;have d5:=(HB.out.2.kept (Kept.of_below b2 (fun _=>False)) id).str.1)
   go_ret
   exact ⟨rfl,HB.out.1.trans (b2.mono HB.out.1.size)⟩
 ·have e1':(T == 0)=false:=by simpa using e1
  rw [e1',Bool.false_and]
  go_enter Tryz.func29,Tryz.ntmps29
  go_upto_region 1 with fail
  rw [←hw1]
  clear hw1
  go_wp2_with (go_at_call 34;refine WT.mono ?_;rintro e w2 ⟨rfl,b2⟩;have d5:=(HB.out.2.kept (Kept.of_below b2 (fun _=>False)) id).str.1)
  go_ret
  exact ⟨rfl,HB.out.1.trans (b2.mono HB.out.1.size)⟩
def dsI (s:St):Int:=if nxt s.x.F s.x.g<0 then 0 else ftN s (tkT s.x).wid
theorem dsC_none {s:St} (h:nxt s.x.F s.x.g<0):dsC s=false:=by
 unfold dsC
 rw [decide_eq_false (by omega),Bool.false_and]
theorem dsC_some {s:St} (h:0≤nxt s.x.F s.x.g):dsC s=ftB s (tkT s.x).wid:=by
 unfold dsC
 rw [decide_eq_true h,Bool.true_and]
set_option maxRecDepth 20000 in
set_option maxHeartbeats 1000000 in
theorem snext_ok (s:St) (ax:Option Addr) (cx:Nat) (ar:Option Addr) (cr:Nat) (w:World) (hx:LsR w ax cx s.x.F) (hf:Few s.x.F) (hr:SlR w ar cr s.run) (hl:s.run.length≤2000) :
  Calls Tryz.prog 40 #[.agg (stB s (.slice ax s.x.F.length cx) (.slice ar s.run.length cr))] w fun e w'=>e=.returned (.tuple #[.int .i64 (dsI s),.bool (dsC s)])∧Below w.heap.size w w':=by
 have NX:∀ W,Below w.heap.size w W→Calls Tryz.prog 73 #[.agg #[.int .u64 s.x.r,.int .i64 s.x.g,.int .i64 s.x.n,.int .i64 s.x.o,.slice ax s.x.F.length cx]] W fun e w'=>e=.returned (.tuple #[.int .i64 (nI (nxt s.x.F s.x.g)),.bool (nB (nxt s.x.F s.x.g))])∧Below W.heap.size W w':=fun W b=>next_ok s.x.r s.x.g s.x.n s.x.o ax cx s.x.F W (hx.carry b) hf
 have FT:Hd (∀ (wd:Int) W,Below w.heap.size w W→Calls Tryz.prog 23 #[.agg (stB s (.slice ax s.x.F.length cx) (.slice ar s.run.length cr)),.int .i64 wd] W fun e w'=>e=.returned (.tuple #[.int .i64 (ftN s wd),.bool (ftB s wd)])∧Below W.heap.size W w'):=⟨fun wd W b=>fits_ok s _ ar cr wd W (hr.carry b) hl⟩
 unfold dsI
 rcases nxt_is s.x.F s.x.g with ⟨e,-⟩ | ⟨p,-,hp,e,hne,-⟩
 ·rw [if_pos (by omega),dsC_none (by omega)]
  rw [e] at NX
  generalize s.x.F.length=n at *
  generalize s.run.length=m at *
  obtain ⟨w1,hw1⟩:∃ w1,w1=w.alloc (.cells (stB s (.slice ax n cx) (.slice ar m cr)) 34):=⟨_,rfl⟩
  have B:Below w.heap.size w w1:=by rw [hw1];exact alloc_below _ _
  have N1:Blk w1 w.heap.size 34 (stB s (.slice ax n cx) (.slice ar m cr)):=by rw [hw1];exact Blk.new _ _ _
  have NX1:=NX w1 B
  rw [show nI (-1)=0 from rfl,show nB (-1)=false from rfl] at NX1
  have HB:Hd (Below w.heap.size w w1):=⟨B⟩
  obtain ⟨c0,c1,c2,c3,c4⟩:=N1.stx.1
  clear N1 B NX FT hx hf hr
  go_enter Tryz.func40,Tryz.ntmps40
  go_upto_region 1 with fail
  rw [←hw1]
  clear hw1
  go_wp2_with (go_at_call 73;refine NX1.mono ?_;rintro e' w2 ⟨rfl,b2⟩)
  go_ret2
  exact ⟨rfl,HB.out.trans (b2.mono HB.out.size)⟩
 ·rw [if_neg (by omega),dsC_some (by omega)]
  rw [e,nI_nat,show nB (p:Int)=true from decide_eq_true (by omega)] at NX
  have et:(tkT s.x).wid=(gt (gl s.x.F p).L 0).wid:=by rw [(tk_less e hp hne).1]
  obtain ⟨b1,o1,a1,c1,rfl,hb1,d0,d1,s1⟩:=hx.at hp
  obtain ⟨b2,o2,rfl,hb2,-,e1,-,-,-⟩:=s1.2.2.at (k:=0) (List.length_pos_iff.2 hne)
  obtain ⟨wd,hwd⟩:∃ wd,wd=(tkT s.x).wid:=⟨_,rfl⟩
  rw [←et,← hwd] at e1
  rw [←hwd]
  obtain ⟨q,hq⟩:∃ q,q=(gl s.x.F p).L.length:=⟨_,rfl⟩
  have hq0:0<q:=by rw [hq];exact List.length_pos_iff.2 hne
  rw [←hq] at d1
  have HD:Hd (∀ W,Below w.heap.size w W→W.cell? ⟨b1,o1+p*2+1,none⟩=some (.slice (some ⟨b2,o2,none⟩) q c1)∧W.cell? ⟨b2,o2+1,none⟩=some (.int .i64 wd)):=⟨fun W b=>⟨(b.cell (p:=⟨b1,o1+p*2+1,none⟩) hb1).trans d1,(b.cell (p:=⟨b2,o2+1,none⟩) hb2).trans (by simpa using e1)⟩⟩
  clear d0 d1 e1 s1 et hq hwd hne hx hr
  have hln:=hf.len
  generalize s.x.F.length=n at *
  generalize s.run.length=m at *
  obtain ⟨w1,hw1⟩:∃ w1,w1=w.alloc (.cells (stB s (.slice (some ⟨b1,o1,none⟩) n cx) (.slice ar m cr)) 34):=⟨_,rfl⟩
  have B:Below w.heap.size w w1:=by rw [hw1];exact alloc_below _ _
  have N1:Blk w1 w.heap.size 34 (stB s (.slice (some ⟨b1,o1,none⟩) n cx) (.slice ar m cr)):=by rw [hw1];exact Blk.new _ _ _
  have NX1:=NX w1 B
  obtain ⟨c0,c1',c2,c3,c4⟩:=N1.stx.1
  obtain ⟨A,hA⟩:∃ A,A=w.heap.size:=⟨_,rfl⟩
  have HB:Hd (Below w.heap.size w w1∧Blk w1 A 34 (stB s (.slice (some ⟨b1,o1,none⟩) n cx) (.slice ar m cr))):=⟨B,by rw [hA];exact N1⟩
  have X1:Hd (∀ W,Blk W A 34 (stB s (.slice (some ⟨b1,o1,none⟩) n cx) (.slice ar m cr))→W.cell? ⟨A,21,none⟩=some (.slice (some ⟨b1,o1,none⟩) n cx)):=⟨fun W q=>q.stx.1.2.2.2.2⟩
  have i1:(p:Int)<(n:Int):=by omega
  have i2:(0:Int)<(q:Int):=by omega
  rw [←hA] at c0 c1' c2 c3 c4
  clear N1 B NX hf e
  go_enter Tryz.func40,Tryz.ntmps40
  go_upto_region 1 with fail
  rw [←hw1]
  clear hw1
  rw [←hA]
  clear hA
  go_upto_region 4 with (go_at_call 73;refine NX1.mono ?_;rintro e' w2 ⟨rfl,b2'⟩)
  clear c0 c1' c2 c3 c4 NX1
  refine AnyG.start (T:=fun W=>Blk W A 34 (stB s (.slice (some ⟨b1,o1,none⟩) n cx) (.slice ar m cr))∧Below w.heap.size w W) (U:=fun _=>True) (j0:=100) (by kernel_rfl) ?_
  have R3:Blk w2.drew A 34 (stB s (.slice (some ⟨b1,o1,none⟩) n cx) (.slice ar m cr))∧Below w.heap.size w w2.drew:=⟨Blk.kept (S:=fun _=>False) HB.out.2 (Kept.of_below b2' (fun _=>False)).drew (fun h=>h),(HB.out.1.trans (b2'.mono HB.out.1.size)).drew⟩
  clear b2' HB
  generalize w2.drew=w3 at *
  refine .tq 0 14 R3 ?_ (hy:=fun w hSw=>by exact exec_loadSt _ rfl A rfl _ hSw.1 rfl);simp only [oqA,oqB,oqC]
  refine .tq 1 15 R3 ?_;simp only [oqA,oqB,oqC]
  refine .tq 2 16 R3 ?_;simp only [oqA,oqB,oqC]
  refine .tq 3 17 R3 ?_ (hy:=fun w hSw=>by have s:=X1.out w hSw.1;go_simp;rfl);simp only [oqA,oqB,oqC]
  refine .tq 4 18 R3 ?_;simp only [oqA,oqB,oqC]
  refine .tq 5 19 R3 ?_;simp only [oqA,oqB,oqC]
  refine .tq 6 20 R3 ?_;simp only [oqA,oqB,oqC]
  refine .tq 7 21 R3 ?_ (hy:=fun w hSw=>by have s:=(HD.out w hSw.2).1;go_simp;rfl);simp only [oqA,oqB,oqC]
  refine .tq 8 22 R3 ?_;simp only [oqA,oqB,oqC]
  refine .tq 9 23 R3 ?_;simp only [oqA,oqB,oqC]
  refine .tq 10 24 R3 ?_ (hy:=fun w hSw=>by have s:=(HD.out w hSw.2).2;go_simp;rfl);simp only [oqA,oqB,oqC]
  refine AnyG.ready (rs:=[11]) (by kernel_rfl) (by simp) ?_
  refine AllG.cons rfl (fun K hK=>?_) AllG.nil
  go_simp
  refine (FT.out wd _ R3.2).mono ?_
  rintro e w5 ⟨rfl,b5⟩
  have R5:Blk w5 A 34 (stB s (.slice (some ⟨b1,o1,none⟩) n cx) (.slice ar m cr))∧Below w.heap.size w w5:=⟨R3.1.kept (Kept.of_below b5 (fun _=>False)) id,R3.2.trans (b5.mono R3.2.size)⟩
  refine hK.out _ _ ⟨R5,fun _=>trivial⟩ ?_
  clear hK K R3 FT
  refine .tq 12 26 R5 ?_;simp only [oqA,oqB,oqC]
  refine .tq 13 27 R5 ?_;simp only [oqA,oqB,oqC]
  refine .tq 14 2 R5 ?_;simp only [oqA,oqB,oqC]
  refine .tq 15 3 R5 ?_;simp only [oqA,oqB,oqC]
  refine AnyG.done (by kernel_rfl) ?_ _
  have HZ:Hd (Below w.heap.size w w5):=⟨R5.2⟩
  clear R5
  go_wp2
  go_ret2
  exact ⟨rfl,HZ.out⟩
set_option maxRecDepth 20000 in
set_option maxHeartbeats 1000000 in
theorem swith_ok (s:St) (v:Value) (ar:Option Addr) (cr:Nat) (y:Fa) (av:Option Addr) (nv cv:Nat) (w:World) (hr:SlR w ar cr s.run) (hl:s.run.length≤2000) :
  Calls Tryz.prog 48 #[.agg (stB s v (.slice ar s.run.length cr)),.agg #[.int .u64 y.r,.int .i64 y.g,.int .i64 y.n,.int .i64 y.o,.slice av nv cv]] w fun e w'=>(∃ u,e=.returned (.agg (stB { s with x:=y } (.slice av nv cv) u))∧OwnT w' (w.heap.size+3) u s.run)∧Below w.heap.size w w':=by
 obtain ⟨w2,hw2⟩:∃ w2,w2=((w.alloc (.cells (stB s v (.slice ar s.run.length cr)) 34)).alloc (.cells #[.int .u64 y.r,.int .i64 y.g,.int .i64 y.n,.int .i64 y.o,.slice av nv cv] 31)).alloc (.cells zsT 34):=⟨_,rfl⟩
 have BX:=boxes3 w 34 31 34 (stB s v (.slice ar s.run.length cr)) #[.int .u64 y.r,.int .i64 y.g,.int .i64 y.n,.int .i64 y.o,.slice av nv cv] zsT
 rw [←hw2] at BX
 obtain ⟨B,N1,N2,N3⟩:=BX
 have HN:Hd (Below w.heap.size w w2.drew∧Blk w2.drew (w.heap.size+1+1) 34 (stB sZ (.slice none 0 0) (.slice none 0 0))∧w2.drew.heap.size=w.heap.size+3):=⟨B.drew,N3,by rw [hw2];simp⟩
 have CL:=clone_ok ar cr s.run w2.drew (hr.carry B.drew) hl
 obtain ⟨A,hA⟩:∃ A,A=w.heap.size:=⟨_,rfl⟩
 have HA:Hd (A=w.heap.size):=⟨hA⟩
 have U0:Hd (Blk w2.drew A 34 (stB s v (.slice ar s.run.length cr))∧Blk w2.drew (A+1) 31 #[.int .u64 y.r,.int .i64 y.g,.int .i64 y.n,.int .i64 y.o,.slice av nv cv]):=⟨by rw [hA];exact N1,by rw [hA];exact N2⟩
 have X1:Hd (∀ W,Blk W A 34 (stB s v (.slice ar s.run.length cr))→W.cell? ⟨A,22,none⟩=some (.slice ar s.run.length cr)):=⟨fun W q=>q.str.1⟩
 have X2:Hd (∀ W,Blk W (A+1) 31 #[.int .u64 y.r,.int .i64 y.g,.int .i64 y.n,.int .i64 y.o,.slice av nv cv]→W.cell? ⟨A+1,0,none⟩=some (.int .u64 y.r)∧W.cell? ⟨A+1,1,none⟩=some (.int .i64 y.g)∧W.cell? ⟨A+1,2,none⟩=some (.int .i64 y.n)∧W.cell? ⟨A+1,3,none⟩=some (.int .i64 y.o)∧W.cell? ⟨A+1,4,none⟩=some (.slice av nv cv)):=⟨fun W q=>(Blk.fair q).1⟩
 clear N1 N2 N3 B hr
 generalize s.run.length=n at *
 go_enter Tryz.func48,Tryz.ntmps48
 go_upto_region 1 with fail
 rw [←hw2]
 clear hw2
 rw [←hA] at HN ⊢
 clear hA
 refine AnyG.start (T:=fun _=>True) (U:=fun W=>Blk W A 34 (stB s v (.slice ar n cr))∧Blk W (A+1) 31 #[.int .u64 y.r,.int .i64 y.g,.int .i64 y.n,.int .i64 y.o,.slice av nv cv]) (j0:=5) (by kernel_rfl) ?_
 generalize w2.drew=w3 at *
 refine .er 0 5 ⟨trivial,fun _=>U0.out⟩ ?_ (hy:=fun w hSw=>by obtain ⟨c0,c1,c2,c3,c4⟩:=X2.out w hSw.2.2;go_simp;rfl);simp only [oqA,oqB,oqC]
 refine .tr 1 6 ⟨trivial,fun _=>U0.out⟩ ?_;simp only [oqA,oqB,oqC]
 refine .er 2 7 ⟨trivial,fun _=>U0.out⟩ ?_ (hy:=fun w hSw=>by have s:=X1.out w hSw.2.1;go_simp;rfl);simp only [oqA,oqB,oqC]
 refine .tr 4 9 ⟨trivial,fun _=>U0.out⟩ ?_;simp only [oqA,oqB,oqC]
 refine AnyG.ready (rs:=[3]) (by kernel_rfl) (by simp) ?_
 refine AllG.cons rfl (fun K hK=>?_) AllG.nil
 go_simp
 refine CL.mono ?_
 rintro e w5 ⟨u5,rfl,o5,b5⟩
 obtain ⟨a5,c5,e5,-⟩:=o5.read
 obtain ⟨m5,hm5⟩:∃ m5,m5=s.run.length:=⟨_,rfl⟩
 rw [←hm5] at e5
 subst e5
 clear hm5
 have M1:Blk w5 A 34 (stB s v (.slice ar n cr)):=U0.out.1.kept (Kept.of_below b5 (fun _=>False)) id
 have M2:Blk w5 (A+1) 31 #[.int .u64 y.r,.int .i64 y.g,.int .i64 y.n,.int .i64 y.o,.slice av nv cv]:=U0.out.2.kept (Kept.of_below b5 (fun _=>False)) id
 have M3:Blk w5 (A+1+1) 34 (stB sZ (.slice none 0 0) (.slice none 0 0)):=HN.out.2.1.kept (Kept.of_below b5 (fun _=>False)) id
 refine hK.out _ _ ⟨trivial,fun _=>⟨M1,M2⟩⟩ ?_
 clear hK K CL U0
 refine AnyG.ready (rs:=[5]) (by kernel_rfl) (by simp) ?_
 refine AllG.cons rfl (fun K hK=>?_) AllG.nil
 obtain ⟨⟨r0,r1,r2,r3,r4⟩,f0,f1,f2,f3,f4⟩:=M1.stx
 obtain ⟨Q1,K1⟩:=st_fair M1 y (.slice av nv cv)
 go_simp
 refine hK.out _ _ ⟨trivial,fun h=>by cases h⟩ ?_
 clear hK K r0 r1 r2 r3 r4 f0 f1 f2 f3 f4
 generalize (((((w5.setCell ⟨A,17,none⟩ (.int .u64 y.r)).setCell ⟨A,18,none⟩ (.int .i64 y.g)).setCell ⟨A,19,none⟩ (.int .i64 y.n)).setCell ⟨A,20,none⟩ (.int .i64 y.o)).setCell ⟨A,21,none⟩ (.slice av nv cv))=w6 at Q1 K1 ⊢
 refine .tr 6 10 ⟨trivial,fun h=>by cases h⟩ ?_;simp only [oqA,oqB,oqC]
 refine AnyG.ready (rs:=[7]) (by kernel_rfl) (by simp) ?_
 refine AllG.cons rfl (fun K hK=>?_) AllG.nil
 obtain ⟨r0,f0⟩:=Q1.str
 obtain ⟨Q2,K2⟩:=st_run Q1 s.run (.slice a5 m5 c5)
 go_simp
 refine hK.out _ _ ⟨trivial,fun h=>by cases h⟩ ?_
 clear hK K r0 f0
 generalize w6.setCell ⟨A,22,none⟩ (.slice a5 m5 c5)=w7 at Q2 K2 ⊢
 refine AnyG.done (by kernel_rfl) ?_ _
 have K3:Kept (fun k=>k=A) w5 w7:=K1.trans K2
 have M7:=M3.kept K3 (by omega)
 have O7:=(o5.low (show A+3≤w3.heap.size by rw [HN.out.2.2];exact Nat.le_refl _)).kept K3 (fun j hj e=>by omega)
 have B7:Below A w w7:=(HN.out.1.trans (b5.mono (by rw [HN.out.2.2];omega))).trans (K3.below (by have:=b5.size;rw [HN.out.2.2] at this;omega) (fun k e=>by omega))
 have hs7:A+3≤w7.heap.size:=by have:=K3.size;have:=b5.size;rw [HN.out.2.2] at this;omega
 have H7:Hd (Blk w7 A 34 (stB { s with x:=y } (.slice av nv cv) (.slice a5 m5 c5))∧Blk w7 (A+1+1) 34 (stB sZ (.slice none 0 0) (.slice none 0 0))):=⟨Q2,M7⟩
 have H8:Hd (∀ W,Kept (fun k=>k=A+1+1) w7 W→OwnT W (A+3) (.slice a5 m5 c5) s.run∧Below A w W):=⟨fun W k=>⟨O7.kept k (fun j hj e=>by omega),B7.trans (k.below (by omega) (fun k e=>by omega))⟩⟩
 clear M1 M2 M3 Q1 Q2 K1 K2 K3 M7 O7 B7 o5 b5
 go_wp2_with (first
  | (refine wpl_loadSt rfl _ rfl A rfl _ H7.out.1 rfl ?_)
  | (refine wpl_storeSt rfl _ _ rfl (A+1+1) rfl (stB { s with x:=y } (.slice av nv cv) (.slice a5 m5 c5)) _ rfl H7.out.2 rfl rfl (st_one _ _ _ _ _ _ _) ?_;intro w9 n9 k9))
 refine bodyPost_ret (resSt49 _ _ _ rfl rfl n9) rfl ?_
 obtain ⟨o9,b9⟩:=H8.out w9 k9
 rw [←HA.out]
 exact ⟨⟨_,rfl,o9⟩,b9⟩
set_option maxRecDepth 20000 in
set_option maxHeartbeats 1000000 in
theorem cloneL_ok (a:Option Addr) (c:Nat) (Z:List Lz) (w:World) (hc:Z.length≤c) (h0:a=none→c=0) (hr:RowR w a (zCs Z)) (hz:∀ z∈Z,∃ a n c,z.2=.slice a n c) (hl:Z.length≤200) :
  Calls Tryz.prog 66 #[.slice a Z.length c] w fun e w'=>∃ v,e=.returned v∧w'.ownsRow w.heap.size 62 2 v Z.length (zCs Z)∧Below w.heap.size w w':=by
 cases a with
 | none =>
  have hc2:=h0 rfl
  have hM:Z=[]:=List.eq_nil_of_length_eq_zero (by omega)
  subst hM
  subst hc2
  clear hr hz hl h0 hc
  simp only [List.length_nil]
  have q23:∀ (w:World) (a:Option Addr) (n c n' c':Nat),(binOp .eql 29 (.slice a n c) (.slice none n' c')).run Tryz.prog w=.ok (.bool a.isNone) w:=fun w a n c n' c'=>Lib.run_eql_slice_nil w _ _ a n c n' c' Tryz.underlying29
  go_enter Tryz.func66,Tryz.ntmps66
  go_wp2
  go_ret
  exact ⟨_,rfl,World.ownsRow_nil _ _ _ _,Below.refl _ _⟩
 | some x =>
  have H:Hd (RowR (w.alloc (.cells #[] 62)) (some x) (zCs Z)):=⟨hr.carry (alloc_below _ _)⟩
  have O:Hd ((w.alloc (.cells #[] 62)).ownsRow w.heap.size 62 2 (.slice (some ⟨w.heap.size,0,none⟩) 0 0) 0 (zCs [])):=⟨World.ownsRow_made w #[] 0 (Nat.le_refl _) (Nat.zero_le _) rfl⟩
  have BB:Hd (Below w.heap.size w (w.alloc (.cells #[] 62))):=⟨alloc_below _ _⟩
  have HZ:Hd (∀ z∈Z,∃ a n c,z.2=.slice a n c):=⟨hz⟩
  obtain ⟨n,hn⟩:∃ n,Z.length=n:=⟨_,rfl⟩
  have HL:Hd (Z.length=n):=⟨hn⟩
  rw [hn] at hl hc ⊢
  clear hr hn hz h0
  have q23:∀ (w:World) (a:Option Addr) (n c n' c':Nat),(binOp .eql 29 (.slice a n c) (.slice none n' c')).run Tryz.prog w=.ok (.bool a.isNone) w:=fun w a n c n' c'=>Lib.run_eql_slice_nil w _ _ a n c n' c' Tryz.underlying29
  go_enter Tryz.func66,Tryz.ntmps66
  go_wp2_with (at_builtin;refine wpl_lzs rfl _ _ rfl w.heap.size _ [] Z rfl O.out (some x) n c HL.out rfl hc (fun e=>by cases e) H.out HZ.out (by have:=HL.out;simp;omega) (by simp) ?_;intro v' w3 ho hg)
  go_ret
  have ho2:w3.ownsRow w.heap.size 62 2 v' n (zCs Z):=by
   rw [List.nil_append,List.length_nil,Nat.zero_add] at ho
   exact ho
  exact ⟨_,rfl,ho2,BB.out.grown hg (by simp) (fun q e=>(O.out.lt q e).1)⟩
def Apt (Z:List Lz):Prop:=Z.Pairwise fun y z=>∀ b,y.2.ownBlock=some b→z.2.ownBlock≠some b
theorem Apt.snoc {Z:List Lz} {z:Lz} (h:Apt Z) (e:∀ y∈Z,∀ b,y.2.ownBlock=some b→z.2.ownBlock≠some b):Apt (Z ++ [z]) :=
 List.pairwise_append.2 ⟨h,List.pairwise_singleton _ _,fun y hy x hx=>by rw [List.mem_singleton.1 hx];exact e y hy⟩
theorem row_put {w:World} {B n k:Nat} {v:Value} {X:List Lz} {x:Lz} (h:w.ownsRow B 62 2 v n (zCs X)) (hX:X.length=n) (hx:X[k]?=some x) :
  ∃ g cap cur,v=.slice (some ⟨g,0,none⟩) n cap∧B≤g∧Blk w g 62 cur∧(w.cell? ⟨g,k*2,none⟩=some (.int .u64 x.1.s)∧w.cell? ⟨g,k*2+1,none⟩=some x.2)∧∀ u (l:Ln),l.s=x.1.s→(w.setCell ⟨g,k*2+1,none⟩ u).ownsRow B 62 2 v n (zCs (X.set k (l,u)))∧Kept (fun j=>j=g) w (w.setCell ⟨g,k*2+1,none⟩ u):=by
 have hk:k<X.length:=(List.getElem?_eq_some_iff.1 hx).1
 rcases id h.2 with ⟨-,e⟩ | ⟨g,cap,cur,rfl,hb,hg,hc,hm,hs,ht⟩
 ·omega
 ·have hB:Blk w g 62 cur:=hg
  have hcat:∀ j,j<2→w.cell? ⟨g,k*2+j,none⟩=(zC x)[j]?:=fun j hj=>by
   rw [hB.cell,← zCs_at X k _ hx j hj,← ht,List.getElem?_take_of_lt (by omega),Array.getElem?_toList]
  refine ⟨g,cap,cur,rfl,hb,hB,⟨hcat 0 (by decide),hcat 1 (by decide)⟩,fun u l hlu=>⟨?_,(Kept.refl (fun j=>j=g) w).setCell _ _ (.inl rfl)⟩⟩
  refine ⟨by rw [zCs_len,List.length_set];omega,.inr ⟨g,cap,cur.setIfInBounds (k*2+1) u,rfl,hb,hB.set _ _,hc,hm,by simp [hs],?_⟩⟩
  rw [Array.toList_setIfInBounds,List.take_set,ht]
  have e:=zCs_set X k x.1.s u l hlu hk
  rw [←e]
  congr 1
  refine (List.ext_getElem? fun j=>?_).symm
  by_cases c:k*2=j
  ·subst c
   rw [List.getElem?_set_self (by rw [zCs_len];omega)]
   exact (zCs_at X k x hx 0 (by decide)).symm
  ·rw [List.getElem?_set_ne c]
end Go.Proofs.YtlgibnmoogbdcaaGreat
