/-
  The seats of all who wait, the seats that run or wait, is a level empty: by the reference.
  The statement's look at a state that isn't too great.
  A state, its copy and the answers in boxes; what each call answers where they lie.
-/
import Derived.Test.YtlgibnmoogbdcaaGreatR30
import Derived.Test.YtlgibnmoogbdcaaGreatR43
namespace Go.Proofs.YtlgibnmoogbdcaaGreat
open Go.RowKit
set_option maxRecDepth 20000 in
set_option maxHeartbeats 1000000 in
theorem rseatsF_ok (r g nn o:Int) (a:Option Addr) (c:Nat) (F:List Ln) (w:World) (h:LsR w a c F) (hf:Few F) :
  Calls Tryz.prog 63 #[.agg #[.int .u64 r,.int .i64 g,.int .i64 nn,.int .i64 o,.slice a F.length c]] w fun e w'=>e=.returned (.int .i64 (stT F F.length))∧Below w.heap.size w w':=by
 obtain ⟨w1,hw1⟩:∃ w1,w1=w.alloc (.cells #[.int .u64 r,.int .i64 g,.int .i64 nn,.int .i64 o,.slice a F.length c] 31):=⟨_,rfl⟩
 have B:Below w.heap.size w w1:=by rw [hw1];exact alloc_below _ _
 have N1:Blk w1 w.heap.size 31 (faA r g nn o (.slice a F.length c)):=by rw [hw1];exact Blk.new _ _ _
 obtain ⟨⟨c0,c1,c2,c3,c4⟩,-⟩:=N1.fair
 have H:Hd (LsR w1 a c F∧Below w.heap.size w w1):=⟨h.carry B,B⟩
 have HF:Hd (Few F):=⟨hf⟩
 have hl:=hf.len
 obtain ⟨n,hn⟩:∃ n,F.length=n:=⟨_,rfl⟩
 have HL:Hd (F.length=n):=⟨hn⟩
 rw [hn] at hl hw1 ⊢
 have HA:Hd (Blk w1 w.heap.size 31 (faA r g nn o (.slice a n c))):=⟨by rw [←hn];exact N1⟩
 clear hn N1 B h hf c0 c1 c2 c3 c4
 go_enter Tryz.func63,Tryz.ntmps63
 go_upto_region 1 with fail
 rw [←hw1]
 clear hw1
 obtain ⟨A,hA⟩:∃ A,A=w.heap.size:=⟨_,rfl⟩
 rw [←hA] at HA ⊢
 clear hA
 go_wp2
 go_loopw [3,4] (fun v i wr=>∃ k:Nat,k≤n∧v=.int .i64 (stT F k)∧i=.int .i64 k∧Below w1.heap.size w1 wr) (fun _ i _=>n - (intOf i).toNat)
 case atStart=>exact ⟨0,Nat.zero_le _,rfl,rfl,Below.refl _ _⟩
 case round =>
  obtain ⟨k,hk,rfl,rfl,p3⟩:=hrel
  have NA:Blk wr A 31 (faA r g nn o (.slice a n c)):=HA.out.kept (Kept.of_below p3 (fun _=>False)) id
  obtain ⟨⟨-,-,-,-,c4⟩,-⟩:=NA.fair
  clear NA
  by_cases hlt:k<n
  ·obtain ⟨b1,o1,a1,c1,rfl,hb1,d0,d1,s1⟩:=(H.out.1.carry p3).at (k:=k) (by rw [HL.out];exact hlt)
   have l1:=stT_lo F k
   have l2:=stT_hi HF.out k
   have P:Hd (Below w1.heap.size w1 wr):=⟨p3⟩
   have HK:=(HF.out.at k).2
   have l3:=sW_lo (gl F k)
   have l4:=sW_hi HK
   have HE:Hd (stT F (k+1)=stT F k+sW (gl F k)):=⟨rfl⟩
   have W:Hd (Calls Tryz.prog 86 #[.agg #[.int .u64 (gl F k).s,.slice a1 (gl F k).L.length c1]] wr fun e w'=>e=.returned (.int .i64 (sW (gl F k)))∧Below wr.heap.size wr w'):=⟨rseats_ok _ _ _ _ wr s1.2.2 (by omega)⟩
   clear p3 s1 HK
   generalize sW (gl F k)=x at *
   generalize stT F k=y at *
   generalize (gl F k).L.length=m at *
   generalize (gl F k).s=z at *
   go_wp2_with (go_at_call 86;refine W.out.mono ?_;rintro e w4 ⟨rfl,b4⟩)
   go_roundw
   case rel=>exact ⟨k+1,by omega,by rw [HE.out],by go_num,P.out.trans (b4.mono P.out.size)⟩
   case measure=>simp [intOf];omega
  ·obtain rfl:k=n:=by omega
   go_wp2
   go_ret
   exact ⟨rfl,H.out.2.trans (p3.mono H.out.2.size)⟩
set_option maxRecDepth 20000 in
set_option maxHeartbeats 1000000 in
theorem rwants_ok (s:St) (ax:Option Addr) (cx:Nat) (ar:Option Addr) (cr:Nat) (w:World) (hx:LsR w ax cx s.x.F) (hf:Few s.x.F) (hr:SlR w ar cr s.run) (hl:s.run.length≤2000) :
  Calls Tryz.prog 28 #[.agg (stB s (.slice ax s.x.F.length cx) (.slice ar s.run.length cr))] w fun e w'=>e=.returned (.int .i64 (wnA s))∧Below w.heap.size w w':=by
 have hrn:=rnA_bound s.run hl
 have hst:=stT_bound hf
 have HRN:Hd (∀ W,Below w.heap.size w W→Calls Tryz.prog 26 #[.agg (stB s (.slice ax s.x.F.length cx) (.slice ar s.run.length cr))] W fun e w'=>e=.returned (.int .i64 (rnA s.run))∧Below W.heap.size W w'):=⟨fun W b=>rruns_ok s _ ar cr W (hr.carry b) hl⟩
 have HST:Hd (∀ W,Below w.heap.size w W→Calls Tryz.prog 63 #[.agg #[.int .u64 s.x.r,.int .i64 s.x.g,.int .i64 s.x.n,.int .i64 s.x.o,.slice ax s.x.F.length cx]] W fun e w'=>e=.returned (.int .i64 (stT s.x.F s.x.F.length))∧Below W.heap.size W w'):=⟨fun W b=>rseatsF_ok s.x.r s.x.g s.x.n s.x.o ax cx s.x.F W (hx.carry b) hf⟩
 unfold wnA stA
 generalize stT s.x.F s.x.F.length=T at *
 generalize rnA s.run=R at *
 generalize s.x.F.length=n at *
 generalize s.run.length=m at *
 obtain ⟨w1,hw1⟩:∃ w1,w1=w.alloc (.cells (stB s (.slice ax n cx) (.slice ar m cr)) 34):=⟨_,rfl⟩
 have B:Below w.heap.size w w1:=by rw [hw1];exact alloc_below _ _
 have N1:Blk w1 w.heap.size 34 (stB s (.slice ax n cx) (.slice ar m cr)):=by rw [hw1];exact Blk.new _ _ _
 obtain ⟨A,hA⟩:∃ A,A=w.heap.size:=⟨_,rfl⟩
 have HA:Hd (A=w.heap.size):=⟨hA⟩
 have HB:Hd (Blk w1.drew A 34 (stB s (.slice ax n cx) (.slice ar m cr))∧Below w.heap.size w w1.drew):=⟨by rw [hA];exact N1,B.drew⟩
 have X1:Hd (∀ W,Blk W A 34 (stB s (.slice ax n cx) (.slice ar m cr))→W.cell? ⟨A,17,none⟩=some (.int .u64 s.x.r)∧W.cell? ⟨A,18,none⟩=some (.int .i64 s.x.g)∧W.cell? ⟨A,19,none⟩=some (.int .i64 s.x.n)∧W.cell? ⟨A,20,none⟩=some (.int .i64 s.x.o)∧W.cell? ⟨A,21,none⟩=some (.slice ax n cx)):=⟨fun W q=>q.stx.1⟩
 have V1:Hd (IntKind.i64.wrap (R+T)=R+T):=⟨by rw [IntKind.wrap_i64] <;> omega⟩
 clear hx hf hr N1 B
 go_enter Tryz.func28,Tryz.ntmps28
 go_upto_region 1 with fail
 rw [←hw1]
 clear hw1
 rw [←hA]
 clear hA
 refine AnyG.start (T:=fun W=>Blk W A 34 (stB s (.slice ax n cx) (.slice ar m cr))∧Below w.heap.size w W) (U:=fun _=>True) (j0:=100) (by kernel_rfl) ?_
 generalize w1.drew=w3 at *
 have R3:=HB.out
 refine .tq 0 3 R3 ?_ (hy:=fun w hSw=>by exact exec_loadSt _ rfl A rfl _ hSw.1 rfl);simp only [oqA,oqB,oqC]
 refine .tq 2 5 R3 ?_;simp only [oqA,oqB,oqC]
 refine .tq 3 6 R3 ?_ (hy:=fun w hSw=>by obtain ⟨c0,c1,c2,c3,c4⟩:=X1.out w hSw.1;go_simp;rfl);simp only [oqA,oqB,oqC]
 refine AnyG.ready (rs:=[1]) (by kernel_rfl) (by simp) ?_
 refine AllG.cons rfl (fun K hK=>?_) AllG.nil
 go_simp
 refine (HRN.out _ R3.2).mono ?_
 rintro e w5 ⟨rfl,b5⟩
 have R5:Blk w5 A 34 (stB s (.slice ax n cx) (.slice ar m cr))∧Below w.heap.size w w5:=⟨R3.1.kept (Kept.of_below b5 (fun _=>False)) id,R3.2.trans (b5.mono R3.2.size)⟩
 refine hK.out _ _ ⟨R5,fun _=>trivial⟩ ?_
 clear hK K R3 HRN
 refine AnyG.ready (rs:=[4]) (by kernel_rfl) (by simp) ?_
 refine AllG.cons rfl (fun K hK=>?_) AllG.nil
 go_simp
 refine (HST.out _ R5.2).mono ?_
 rintro e w6 ⟨rfl,b6⟩
 have R6:Blk w6 A 34 (stB s (.slice ax n cx) (.slice ar m cr))∧Below w.heap.size w w6:=⟨R5.1.kept (Kept.of_below b6 (fun _=>False)) id,R5.2.trans (b6.mono R5.2.size)⟩
 refine hK.out _ _ ⟨R6,fun _=>trivial⟩ ?_
 clear hK K R5 HST
 refine .tq (v:=.int .i64 (R+T)) 5 8 R6 ?_ (hy:=fun w hSw=>by have s:=V1.out;go_simp;try rfl);simp only [oqA,oqB,oqC]
 refine .tq 6 2 R6 ?_;simp only [oqA,oqB,oqC]
 refine AnyG.done (by kernel_rfl) ?_ _
 have HZ:Hd (Below w.heap.size w w6):=⟨R6.2⟩
 clear R6 HB
 go_wp2
 go_ret
 exact ⟨rfl,HZ.out⟩
set_option maxRecDepth 20000 in
set_option maxHeartbeats 1000000 in
theorem rempty_ok (s:St) (ax:Option Addr) (cx:Nat) (ar:Option Addr) (cr:Nat) (w:World) (hx:LsR w ax cx s.x.F) (hf:Few s.x.F) (hl:s.run.length≤2000) :
  Calls Tryz.prog 30 #[.agg (stB s (.slice ax s.x.F.length cx) (.slice ar s.run.length cr))] w fun e w'=>e=.returned (.bool (decide (wtA s.x.F=0∧s.run=[])))∧Below w.heap.size w w':=by
 have hwt:=wtT_bound hf
 obtain ⟨w1,hw1⟩:∃ w1,w1=w.alloc (.cells (stB s (.slice ax s.x.F.length cx) (.slice ar s.run.length cr)) 34):=⟨_,rfl⟩
 have B:Below w.heap.size w w1:=by rw [hw1];exact alloc_below _ _
 have N1:Blk w1 w.heap.size 34 (stB s (.slice ax s.x.F.length cx) (.slice ar s.run.length cr)):=by rw [hw1];exact Blk.new _ _ _
 have WT:=rwaiting_ok s.x.r s.x.g s.x.n s.x.o ax cx s.x.F w1 (hx.carry B) hf
 obtain ⟨c0,c1,c2,c3,c4⟩:=N1.stx.1
 have c5:=N1.str.1
 have HB:Hd (Below w.heap.size w w1∧Blk w1 w.heap.size 34 (stB s (.slice ax s.x.F.length cx) (.slice ar s.run.length cr))):=⟨B,N1⟩
 clear hx hf N1 B
 have HD:Hd (decide (wtA s.x.F=0∧s.run=[])=((wtT s.x.F s.x.F.length == 0) && ((s.run.length:Int) == 0))):=⟨by
  unfold wtA
  rw [Bool.eq_iff_iff]
  simp [List.length_eq_zero_iff]⟩
 rw [HD.out]
 clear HD
 generalize wtT s.x.F s.x.F.length=T at *
 generalize s.x.F.length=n at *
 generalize s.run.length=m at *
 by_cases e1:T=0
 ·subst e1
  by_cases e2:m=0
  ·subst e2
   go_enter Tryz.func30,Tryz.ntmps30
   go_upto_region 1 with fail
   rw [←hw1]
   clear hw1
   go_wp2_with (go_at_call 31;refine WT.mono ?_;rintro e w2 ⟨rfl,b2⟩;have d5:=(HB.out.2.kept (Kept.of_below b2 (fun _=>False)) id).str.1)
   go_ret
   exact ⟨rfl,HB.out.1.trans (b2.mono HB.out.1.size)⟩
  ·have e2':((m:Int) == 0)=false:=by simp;omega
   rw [e2']
   go_enter Tryz.func30,Tryz.ntmps30
   go_upto_region 1 with fail
   rw [←hw1]
   clear hw1
   go_wp2_with (go_at_call 31;refine WT.mono ?_;rintro e w2 ⟨rfl,b2⟩;have d5:=(HB.out.2.kept (Kept.of_below b2 (fun _=>False)) id).str.1)
   go_ret
   exact ⟨rfl,HB.out.1.trans (b2.mono HB.out.1.size)⟩
 ·have e1':(T == 0)=false:=by simpa using e1
  rw [e1',Bool.false_and]
  go_enter Tryz.func30,Tryz.ntmps30
  go_upto_region 1 with fail
  rw [←hw1]
  clear hw1
  go_wp2_with (go_at_call 31;refine WT.mono ?_;rintro e w2 ⟨rfl,b2⟩;have d5:=(HB.out.2.kept (Kept.of_below b2 (fun _=>False)) id).str.1)
  go_ret
  exact ⟨rfl,HB.out.1.trans (b2.mono HB.out.1.size)⟩
structure IsS (s:St) (b:Bool):Prop where
 yes:b=true→s.x.F.length≤100∧s.run.length≤300∧(∀ k,k<s.x.F.length→(gl s.x.F k).L.length≤100)∧(flt s.x.F).length≤300
structure AnsS (s:St) (e:Ending):Prop where
 ex:∃ b:Bool,e=.returned (.bool b)∧IsS s b
set_option maxRecDepth 20000 in
set_option maxHeartbeats 2000000 in
theorem small_ok (s:St) (ax:Option Addr) (cx:Nat) (ar:Option Addr) (cr:Nat) (w:World) (hx:LsR w ax cx s.x.F) (hwd:∀ l∈s.x.F,Word l.s) (hc:s.x.F.length≤9223372036854775807) (hr:s.run.length≤9223372036854775807) (ht:∀ k,k<s.x.F.length→(gl s.x.F k).L.length≤9223372036854775807) :
  Calls Tryz.prog 5 #[.agg (stB s (.slice ax s.x.F.length cx) (.slice ar s.run.length cr))] w fun e w'=>AnsS s e∧Below w.heap.size w w':=by
 obtain ⟨w1,hw1⟩:∃ w1,w1=w.alloc (.cells (stB s (.slice ax s.x.F.length cx) (.slice ar s.run.length cr)) 34):=⟨_,rfl⟩
 have B:Below w.heap.size w w1:=by rw [hw1];exact alloc_below _ _
 have N1:Blk w1 w.heap.size 34 (stB s (.slice ax s.x.F.length cx) (.slice ar s.run.length cr)):=by rw [hw1];exact Blk.new _ _ _
 obtain ⟨A,hA⟩:∃ A,A=w.heap.size:=⟨_,rfl⟩
 have HA:Hd (A=w.heap.size):=⟨hA⟩
 rw [←hA] at N1 B
 have HW:Hd (s.x.F.length≤100→(∀ j,j<s.x.F.length→(gl s.x.F j).L.length≤100)→Few s.x.F):=⟨fun h1 h2=>⟨by omega,fun l hl=>by
  obtain ⟨k,hk,rfl⟩:=List.mem_iff_getElem.1 hl
  have e:gl s.x.F k=s.x.F[k]:=by
   have:=gl_get hk
   rw [List.getElem?_eq_getElem hk] at this
   injection this with this
   exact this.symm
  have:=h2 k hk
  rw [e] at this
  exact ⟨hwd _ hl,by omega⟩⟩⟩
 have HX:Hd (LsR w1 ax cx s.x.F):=⟨hx.carry (by rw [hA] at B;exact B)⟩
 have HT:Hd (∀ k,k<s.x.F.length→(gl s.x.F k).L.length≤9223372036854775807):=⟨ht⟩
 have HFL:Hd (((flt s.x.F).length:Int)=wtT s.x.F s.x.F.length):=⟨flt_len s.x.F⟩
 obtain ⟨⟨c0,c1,c2,c3,c4⟩,-⟩:=N1.stx
 have c5:=N1.str.1
 have HB:=Hd.mk B
 obtain ⟨n,hn⟩:∃ n,n=s.x.F.length:=⟨_,rfl⟩
 obtain ⟨m,hm⟩:∃ m,m=s.run.length:=⟨_,rfl⟩
 have HL:=Hd.mk (And.intro hn hm)
 rw [←hn] at c4 hc
 rw [←hm] at c5 hr
 rw [←hn,← hm] at hw1
 rw [←hn,← hm]
 clear hn hm N1 B hx hwd ht
 go_enter Tryz.func5,Tryz.ntmps5
 go_upto_region 1 with fail
 rw [←hw1]
 clear hw1
 rw [←hA]
 clear hA
 by_cases hbig:n≤100
 ·have hbig':¬ (100:Int)<(n:Int):=by omega
  by_cases hrun:m≤300
  ·have hrun':¬ (300:Int)<(m:Int):=by omega
   go_wp2
   go_loopw [3] (fun i wr=>∃ k:Nat,k≤n∧i=.int .i64 k∧Hd (∀ j,j<k→(gl s.x.F j).L.length≤100)∧wr=w1) (fun i _=>n - (intOf i).toNat)
   case atStart=>exact ⟨0,Nat.zero_le _,rfl,⟨fun j hj=>absurd hj (Nat.not_lt_zero j)⟩,rfl⟩
   case round =>
    obtain ⟨k,hk,rfl,HA2,rfl⟩:=hrel
    by_cases hlt:k<n
    ·obtain ⟨b1,o1,a1,c1',rfl,hb1,d0,d1,-⟩:=HX.out.at (k:=k) (by rw [←HL.out.1];exact hlt)
     have hm:=HT.out k (by rw [←HL.out.1];exact hlt)
     obtain ⟨q,hm'⟩:∃ q,q=(gl s.x.F k).L.length:=⟨_,rfl⟩
     have HM:Hd (q=(gl s.x.F k).L.length):=⟨hm'⟩
     rw [←hm'] at d1 hm
     clear hm'
     by_cases hs:q≤100
     ·have hs':¬ (100:Int)<(q:Int):=by omega
      have HXX:Hd (∀ j,j<k+1→(gl s.x.F j).L.length≤100):=⟨fun j hj=>by
       rcases Nat.lt_or_eq_of_le (Nat.le_of_lt_succ hj) with h1 | rfl
       ·exact HA2.out j h1
       ·rw [←HM.out];exact hs⟩
      clear HA2
      go_wp2
      go_roundw
      case rel=>exact ⟨k+1,by omega,by go_num,HXX,by trivial⟩
      case measure=>simp [intOf];omega
     ·have hs':(100:Int)<(q:Int):=by omega
      clear HA2
      go_wp2
      go_ret
      exact ⟨⟨⟨false,rfl,⟨fun e=>by cases e⟩⟩⟩,by rw [←HA.out];exact HB.out⟩
    ·obtain rfl:k=n:=by omega
     have few:=HW.out (by rw [←HL.out.1];exact hbig) (fun j hj=>HA2.out j (by rw [HL.out.1];exact hj))
     have WT:=rwaiting_ok s.x.r s.x.g s.x.n s.x.o ax cx s.x.F wr HX.out few
     have HFT:=HFL.out
     rw [←HL.out.1] at WT HFT
     obtain ⟨T,hT⟩:∃ T,T=wtT s.x.F k:=⟨_,rfl⟩
     rw [←hT] at WT HFT
     have HFX:=Hd.mk HFT
     clear hT HFT few hlt
     have hTd:(decide (T≤300):Bool)=decide (T≤300):=rfl
     go_wp2_with (go_at_call 31;refine WT.mono ?_;rintro e w2 ⟨rfl,b2⟩)
     go_ret
     refine ⟨⟨⟨decide (T≤300),rfl,⟨fun e=>⟨by rw [←HL.out.1];exact hbig,by rw [←HL.out.2];exact hrun,fun j hj=>HA2.out j (by rw [HL.out.1];exact hj),?_⟩⟩⟩⟩,by rw [←HA.out];exact HB.out.trans (b2.mono (by have:=HB.out.size;have:=HA.out;omega))⟩
     have e2:=of_decide_eq_true e
     have:=HFX.out
     omega
  ·have hrun':(300:Int)<(m:Int):=by omega
   go_wp2
   go_ret
   exact ⟨⟨⟨false,rfl,⟨fun e=>by cases e⟩⟩⟩,by rw [←HA.out];exact HB.out⟩
 ·have hbig':(100:Int)<(n:Int):=by omega
  go_wp2
  go_ret
  exact ⟨⟨⟨false,rfl,⟨fun e=>by cases e⟩⟩⟩,by rw [←HA.out];exact HB.out⟩
theorem wpl_loadSt_w {ops:Array Oper} {rest:List Oper} {o:Oper} {a:Act} {w:World} {Q:Exit→Act→World→Prop} (hw:Region.wanted o (yielded ops a.tmps)=true) (x:Operand) (ho:o.op=.load 34 x) (g:Nat) (hx:a.eval x=.pointer (some ⟨g,0,none⟩)) (cs:Array Value) (hb:Blk w g 34 cs) (hz:cs.size=23)
  (h:wpList Tryz.prog ops Q rest (a.put o.dst (.agg cs)) w):wpList Tryz.prog ops Q (o :: rest) a w :=
 wpList_step fun K hK=>by
  rw [if_pos hw]
  exact wp_loadSt x ho g hx cs hb hz (hK _ _ h)
structure Vw where
 a:Option Addr
 c:Nat
 b:Option Addr
 d:Nat
def vwA (s:St) (x:Vw):Array Value:=stB s (.slice x.a s.x.F.length x.c) (.slice x.b s.run.length x.d)
def VwR (T:Nat→Prop) (W:World) (s:St) (x:Vw):Prop:=StR T W x.a x.c s.x.F∧TkS T W x.b x.d s.run
theorem VwR.step {T T':Nat→Prop} {W W':World} {s:St} {x:Vw} (h:VwR T W s x) (k:Kept T W W') (e:∀ j,j<W.heap.size→T' j→T j):VwR T' W' s x:=⟨h.1.stp k e,h.2.step k e⟩
theorem StV.vw {T:Nat→Prop} {W:World} {s:St} {e:Value} (h:StV T W s e):∃ x,e=.agg (vwA s x)∧VwR T W s x:=by
 obtain ⟨a,c,ar,cr,e,h1,h2⟩:=h
 exact ⟨⟨a,c,ar,cr⟩,e,h1,h2⟩
theorem vw_one (s:St) (x:Vw):(vwA s x).all (·.oneCell')=true:=st_one _ _ _ _ _ _ _
def Sy (q:Nat) (W:World) (j:Nat):Prop:=q<j∧j<W.heap.size
def Gp (q y0 y1 j:Nat):Prop:=(q<j∧j<y0)∨y1≤j
theorem VwR.gp {q:Nat} {Y W:World} {s:St} {x:Vw} (h:VwR (Sy q Y) W s x):VwR (Gp q Y.heap.size W.heap.size) W s x:=h.step (Kept.refl _ _) (fun j hj e=>e.elim id (fun e=>absurd e (by omega)))
theorem TkS.gp {q:Nat} {Y W:World} {a:Option Addr} {c:Nat} {L:List Tk} (h:TkS (Sy q Y) W a c L):TkS (Gp q Y.heap.size W.heap.size) W a c L:=h.step (Kept.refl _ _) (fun j hj e=>e.elim id (fun e=>absurd e (by omega)))
structure HA (q y0 y1:Nat) (W:World) (b:Nat) (y:St) (x:Vw):Prop where
 box:Blk W b 34 (vwA y x)
 vw:VwR (Gp q y0 y1) W y x
theorem HA.carry {q y0 y1:Nat} {W W':World} {b:Nat} {y:St} {x:Vw} (h:HA q y0 y1 W b y x) (k:Below W.heap.size W W'):HA q y0 y1 W' b y x:=⟨h.box.kept (Kept.of_below k (fun _=>False)) id,h.vw.step (Kept.of_below k _) (fun _ _ e=>e)⟩
theorem HA.put {q y0 y1:Nat} {W W':World} {b g:Nat} {y:St} {x:Vw} (h:HA q y0 y1 W b y x) (k:Kept (fun j=>j=g) W W') (hb:b≠g) (hg:Gp q y0 y1 g):HA q y0 y1 W' b y x:=⟨h.box.kept k hb,h.vw.step (k.mono (fun j _ e=>by rw [e];exact hg)) (fun _ _ e=>e)⟩
theorem VwR.put {q y0 y1:Nat} {W W':World} {g:Nat} {y:St} {x:Vw} (h:VwR (Gp q y0 y1) W y x) (k:Kept (fun j=>j=g) W W') (hg:Gp q y0 y1 g):VwR (Gp q y0 y1) W' y x:=h.step (k.mono (fun j _ e=>by rw [e];exact hg)) (fun _ _ e=>e)
theorem VwR.carry {T:Nat→Prop} {W W':World} {y:St} {x:Vw} (h:VwR T W y x) (k:Below W.heap.size W W'):VwR T W' y x:=h.step (Kept.of_below k _) (fun _ _ e=>e)
structure AB (w0:World) (A q:Nat) (s:St) (t:Tk) (l:Lv) (xs xm:Vw) (W:World):Prop where
 bel:Below A w0 W
 lA:A+3≤q
 a:Blk W A 34 (vwA s xs)
 t:Blk W (A+1) 36 (tkA t)
 l:Blk W (A+1+1) 23 (lvA l)
 m:Blk W q 34 (vwA s xm)
 vs:VwR (fun j=>q<j) W s xs
 vm:VwR (fun j=>q<j) W s xm
section
variable {w0 W W':World} {A q:Nat} {s:St} {t:Tk} {l:Lv} {xs xm:Vw}
theorem AB.go (h:AB w0 A q s t l xs xm W) (k:Kept (fun j=>q<j) W W'):AB w0 A q s t l xs xm W':=by
 have h1:=h.lA
 have h2:=h.m.lt
 exact ⟨h.bel.trans (k.below (by omega) (fun j e=>by omega)),h1,h.a.kept k (by omega),h.t.kept k (by omega),h.l.kept k (by omega),h.m.kept k (by omega),h.vs.step k (fun _ _ e=>e),h.vm.step k (fun _ _ e=>e)⟩
theorem AB.carry (h:AB w0 A q s t l xs xm W) (b:Below W.heap.size W W'):AB w0 A q s t l xs xm W':=h.go (Kept.of_below b _)
theorem AB.put (h:AB w0 A q s t l xs xm W) {g:Nat} (k:Kept (fun j=>j=g) W W') (hg:q<g):AB w0 A q s t l xs xm W':=h.go (k.mono (fun j _ e=>by omega))
theorem AB.is (h:AB w0 A q s t l xs xm W):StR (Sy q W) W xs.a xs.c s.x.F∧TkS (Sy q W) W xs.b xs.d s.run∧∀ j,Sy q W j→j<W.heap.size :=
 ⟨h.vs.1.stp (Kept.refl _ _) (fun _ _ e=>e.1),h.vs.2.step (Kept.refl _ _) (fun _ _ e=>e.1),fun _ e=>e.2⟩
theorem AB.im (h:AB w0 A q s t l xs xm W):StR (Sy q W) W xm.a xm.c s.x.F∧TkS (Sy q W) W xm.b xm.d s.run∧∀ j,Sy q W j→j<W.heap.size :=
 ⟨h.vm.1.stp (Kept.refl _ _) (fun _ _ e=>e.1),h.vm.2.step (Kept.refl _ _) (fun _ _ e=>e.1),fun _ e=>e.2⟩
end
theorem IvL.z (k:Nat):IvL k sZ:=⟨⟨Nat.zero_le _,fun l hl=>by cases hl⟩,⟨Int.le_refl _,by decide⟩,Nat.zero_le _⟩
theorem IvL.orz {k:Nat} {s:St} {e:Int} (h:e=0→IvL k s):IvL k (orZ e s):=by
 unfold orZ
 split
 ·rename_i c;exact h c
 ·exact IvL.z k
theorem ds_num (s:St):(dsA s).2.length≤(dsA s).1.run.length:=dsR_ind (P:=fun a L=>L.length≤a.run.length) (fun a L h _=>by show (L ++ [dsT a]).length≤(a.run ++ [dsT a]).length;simp only [List.length_append,List.length_singleton];omega) _ _ _ (Nat.zero_le _)
def A1 (q:Nat) (Y w':World) (y:St) (er:Int) (e:Ending):Prop:=∃ x,e=.returned (.tuple #[.agg (vwA y x),.int .i64 er])∧VwR (Gp q Y.heap.size w'.heap.size) w' y x
def A2 (q:Nat) (Y w':World) (y:St) (K:List Tk) (e:Ending):Prop:=∃ x a c,e=.returned (.tuple #[.agg (vwA y x),.slice a K.length c])∧VwR (Gp q Y.heap.size w'.heap.size) w' y x∧TkS (Gp q Y.heap.size w'.heap.size) w' a c K
def A3 (q:Nat) (Y w':World) (y:St) (z:Tk) (er:Int) (e:Ending):Prop:=∃ x,e=.returned (.tuple #[.agg (vwA y x),.agg #[.int .i64 z.id,.int .i64 z.wid,.int .i64 z.sts,.int .i64 z.sin,.int .i64 z.unt],.int .i64 er])∧VwR (Gp q Y.heap.size w'.heap.size) w' y x
def A0 (q:Nat) (Y w':World) (y:St) (e:Ending):Prop:=∃ x,e=.returned (.agg (vwA y x))∧VwR (Gp q Y.heap.size w'.heap.size) w' y x
section
variable {w0 Y:World} {A q:Nat} {s:St} {t:Tk} {l:Lv} {xs xm:Vw} (h:AB w0 A q s t l xs xm Y) (iv:IvL 600 s)
include h iv
theorem AB.arrive {ah:Option Addr} {nh ch:Nat} {H0:Nat→Int} (hh:HnR Y ah nh H0) (hn:nh≤1000) :
  (Calls Tryz.prog 7 #[.agg (vwA s xm),.agg #[.int .i64 t.id,.int .i64 t.wid,.int .i64 t.sts,.int .i64 t.sin,.int .i64 t.unt],.slice ah nh ch] Y fun e w'=>A1 q Y w' (orZ (arE s t (chF s.x.F s.x.o H0 nh)) (arX s t (chF s.x.F s.x.o H0 nh))) (arE s t (chF s.x.F s.x.o H0 nh)) e∧Below Y.heap.size Y w') ∧
  (Calls Tryz.prog 8 #[.agg (vwA s xs),.agg #[.int .i64 t.id,.int .i64 t.wid,.int .i64 t.sts,.int .i64 t.sin,.int .i64 t.unt],.slice ah nh ch] Y fun e w'=>A1 q Y w' (orZ (arE s t (chF s.x.F s.x.o H0 nh)) (arX s t (chF s.x.F s.x.o H0 nh))) (arE s t (chF s.x.F s.x.o H0 nh)) e∧Below Y.heap.size Y w'):=by
 have hr:=iv.run
 constructor
 ·refine (arrive_st s t xm.a xm.c xm.b xm.d ah nh ch Y (Sy q Y) H0 h.im.1 (h.im.2.1.read (Kept.refl _ _)) (by omega) h.im.2.2 iv.few hh hn).mono ?_
  rintro e w' ⟨⟨v,rfl,V⟩,b⟩
  obtain ⟨x,rfl,X⟩:=V.vw
  exact ⟨⟨x,rfl,X.gp⟩,b⟩
 ·refine (rarrive_st s t xs.a xs.c xs.b xs.d ah nh ch Y (Sy q Y) H0 h.is.1 (h.is.2.1.read (Kept.refl _ _)) (by omega) h.is.2.2 iv.few hh hn).mono ?_
  rintro e w' ⟨⟨v,rfl,V⟩,b⟩
  obtain ⟨x,rfl,X⟩:=V.vw
  exact ⟨⟨x,rfl,X.gp⟩,b⟩
theorem AB.dispatch :
  (Calls Tryz.prog 12 #[.agg (vwA s xm)] Y fun e w'=>A2 q Y w' (dsA s).1 (dsA s).2 e∧Below Y.heap.size Y w') ∧
  (Calls Tryz.prog 13 #[.agg (vwA s xs)] Y fun e w'=>A2 q Y w' (dsA s).1 (dsA s).2 e∧Below Y.heap.size Y w'):=by
 have hr:=iv.cnt
 constructor
 ·refine (dispatch_st s xm.a xm.c xm.b xm.d Y (Sy q Y) h.im.1 (h.im.2.1.read (Kept.refl _ _)) h.im.2.2 iv.few (by omega)).mono ?_
  rintro e w' ⟨⟨v,u,rfl,V,a,c,rfl,T⟩,b⟩
  obtain ⟨x,rfl,X⟩:=V.vw
  exact ⟨⟨x,a,c,rfl,X.gp,T.gp⟩,b⟩
 ·refine (rdispatch_st s xs.a xs.c xs.b xs.d Y (Sy q Y) h.is.1 (h.is.2.1.read (Kept.refl _ _)) h.is.2.2 iv.few (by omega)).mono ?_
  rintro e w' ⟨⟨v,u,rfl,V,a,c,rfl,T⟩,b⟩
  obtain ⟨x,rfl,X⟩:=V.vw
  exact ⟨⟨x,a,c,rfl,X.gp,T.gp⟩,b⟩
theorem AB.done (d:Int) :
  (Calls Tryz.prog 15 #[.agg (vwA s xm),.int .i64 d] Y fun e w'=>A3 q Y w' (orZ (dnE s d) { s with run:=drL d s.run }) (dnT s d) (dnE s d) e∧Below Y.heap.size Y w') ∧
  (Calls Tryz.prog 16 #[.agg (vwA s xs),.int .i64 d] Y fun e w'=>A3 q Y w' (orZ (dnE s d) { s with run:=drL d s.run }) (dnT s d) (dnE s d) e∧Below Y.heap.size Y w'):=by
 have hr:=iv.run
 constructor
 ·refine (done_st s d xm.a xm.c xm.b xm.d Y (Sy q Y) h.im.1 (h.im.2.1.read (Kept.refl _ _)) (by omega) h.im.2.2 iv.few).mono ?_
  rintro e w' ⟨⟨v,rfl,V⟩,b⟩
  obtain ⟨x,rfl,X⟩:=V.vw
  exact ⟨⟨x,rfl,X.gp⟩,b⟩
 ·refine (rdone_st s d xs.a xs.c xs.b xs.d Y (Sy q Y) h.is.1 (h.is.2.1.read (Kept.refl _ _)) (by omega) h.is.2.2 iv.few).mono ?_
  rintro e w' ⟨⟨v,rfl,V⟩,b⟩
  obtain ⟨x,rfl,X⟩:=V.vw
  exact ⟨⟨x,rfl,X.gp⟩,b⟩
theorem AB.drop (d:Int) :
  (Calls Tryz.prog 17 #[.agg (vwA s xm),.int .i64 d] Y fun e w'=>A3 q Y w' (orZ (dpE s.x d) { s with x:=dpX s.x d }) (dpT s.x d) (dpE s.x d) e∧Below Y.heap.size Y w') ∧
  (Calls Tryz.prog 18 #[.agg (vwA s xs),.int .i64 d] Y fun e w'=>A3 q Y w' (orZ (dpE s.x d) { s with x:=dpX s.x d }) (dpT s.x d) (dpE s.x d) e∧Below Y.heap.size Y w'):=by
 have hr:=iv.run
 constructor
 ·refine (sdrop_st s d xm.a xm.c xm.b xm.d Y (Sy q Y) h.im.1 (h.im.2.1.read (Kept.refl _ _)) (by omega) h.im.2.2 iv.few).mono ?_
  rintro e w' ⟨⟨v,rfl,V⟩,b⟩
  obtain ⟨x,rfl,X⟩:=V.vw
  exact ⟨⟨x,rfl,X.gp⟩,b⟩
 ·refine (rdrop_st2 s d xs.a xs.c xs.b xs.d Y (Sy q Y) h.is.1 (h.is.2.1.read (Kept.refl _ _)) (by omega) h.is.2.2 iv.few).mono ?_
  rintro e w' ⟨⟨v,rfl,V⟩,b⟩
  obtain ⟨x,rfl,X⟩:=V.vw
  exact ⟨⟨x,rfl,X.gp⟩,b⟩
theorem AB.late (d:Int) :
  (Calls Tryz.prog 19 #[.agg (vwA s xm),.int .i64 d] Y fun e w'=>A2 q Y w' (ltX d s) (srt (ltA d s.x.F)) e∧Below Y.heap.size Y w') ∧
  (Calls Tryz.prog 20 #[.agg (vwA s xs),.int .i64 d] Y fun e w'=>A2 q Y w' (ltX d s) (srt (ltA d s.x.F)) e∧Below Y.heap.size Y w'):=by
 have hr:=iv.run
 have hw:=iv.wait
 constructor
 ·refine (late_st s d xm.a xm.c xm.b xm.d Y (Sy q Y) h.im.1 (h.im.2.1.read (Kept.refl _ _)) h.im.2.2 iv.few (by omega) (by omega)).mono ?_
  rintro e w' ⟨⟨v,u,rfl,V,a,c,rfl,T⟩,b⟩
  obtain ⟨x,rfl,X⟩:=V.vw
  exact ⟨⟨x,a,c,rfl,X.gp,T.gp⟩,b⟩
 ·refine (rlate_st s d xs.a xs.c xs.b xs.d Y (Sy q Y) h.is.1 (h.is.2.1.read (Kept.refl _ _)) h.is.2.2 iv.few (by omega) (by omega)).mono ?_
  rintro e w' ⟨⟨v,u,rfl,V,a,c,rfl,T⟩,b⟩
  obtain ⟨x,rfl,X⟩:=V.vw
  exact ⟨⟨x,a,c,rfl,X.gp,T.gp⟩,b⟩
theorem AB.turn (b0:Bool) :
  (Calls Tryz.prog 21 #[.agg (vwA s xm),.agg #[.string l.name,.int .i64 l.kind,.int .i64 l.shares,.int .i64 l.lend,.int .i64 l.borrow,.int .i64 l.queues,.int .i64 l.hand,.int .i64 l.length,.int .i64 l.wait,.int .i64 l.guess],.bool b0] Y fun e w'=>A0 q Y w' (tuS s l b0) e∧Below Y.heap.size Y w') ∧
  (Calls Tryz.prog 22 #[.agg (vwA s xs),.agg #[.string l.name,.int .i64 l.kind,.int .i64 l.shares,.int .i64 l.lend,.int .i64 l.borrow,.int .i64 l.queues,.int .i64 l.hand,.int .i64 l.length,.int .i64 l.wait,.int .i64 l.guess],.bool b0] Y fun e w'=>A0 q Y w' (tuS s l b0) e∧Below Y.heap.size Y w'):=by
 have hr:=iv.run
 constructor
 ·refine (turn_st s l b0 xm.a xm.c xm.b xm.d Y (Sy q Y) h.im.1 (h.im.2.1.read (Kept.refl _ _)) (by omega) h.im.2.2 iv.few).mono ?_
  rintro e w' ⟨⟨v,rfl,V⟩,b⟩
  obtain ⟨x,rfl,X⟩:=V.vw
  exact ⟨⟨x,rfl,X.gp⟩,b⟩
 ·refine (rturn_st s l b0 xs.a xs.c xs.b xs.d Y (Sy q Y) h.is.1 (h.is.2.1.read (Kept.refl _ _)) (by omega) h.is.2.2 iv.few).mono ?_
  rintro e w' ⟨⟨v,rfl,V⟩,b⟩
  obtain ⟨x,rfl,X⟩:=V.vw
  exact ⟨⟨x,rfl,X.gp⟩,b⟩
end
theorem open_a0 (l:Lv) (q:Nat) (Y:World) :
  (Calls Tryz.prog 10 #[.agg #[.string l.name,.int .i64 l.kind,.int .i64 l.shares,.int .i64 l.lend,.int .i64 l.borrow,.int .i64 l.queues,.int .i64 l.hand,.int .i64 l.length,.int .i64 l.wait,.int .i64 l.guess]] Y fun e w'=>A0 q Y w' (opS l) e∧Below Y.heap.size Y w') ∧
  (Calls Tryz.prog 11 #[.agg #[.string l.name,.int .i64 l.kind,.int .i64 l.shares,.int .i64 l.lend,.int .i64 l.borrow,.int .i64 l.queues,.int .i64 l.hand,.int .i64 l.length,.int .i64 l.wait,.int .i64 l.guess]] Y fun e w'=>A0 q Y w' (opS l) e∧Below Y.heap.size Y w'):=by
 constructor
 ·refine (open_st l Y (Sy q Y) (fun _ e=>e.2)).mono ?_
  rintro e w' ⟨⟨v,rfl,V⟩,b⟩
  obtain ⟨x,rfl,X⟩:=V.vw
  exact ⟨⟨x,rfl,X.gp⟩,b⟩
 ·refine (ropen_st l Y (Sy q Y) (fun _ e=>e.2)).mono ?_
  rintro e w' ⟨⟨v,rfl,V⟩,b⟩
  obtain ⟨x,rfl,X⟩:=V.vw
  exact ⟨⟨x,rfl,X.gp⟩,b⟩
theorem same_vw {T T':Nat→Prop} {W:World} {y:St} {x x':Vw} (h:VwR T W y x) (h':VwR T' W y x') (iv:IvL 700 y):Calls Tryz.prog 9 #[.agg (vwA y x),.agg (vwA y x')] W fun e w'=>e=.returned (.bool true)∧Below W.heap.size W w' :=
 same23_ok y x.a x.c x.b x.d x'.a x'.c x'.b x'.d W (h.1.read (Kept.refl _ _)) (h.2.read (Kept.refl _ _)) (h'.1.read (Kept.refl _ _)) (h'.2.read (Kept.refl _ _)) iv.few (by have:=iv.run;omega)
end Go.Proofs.YtlgibnmoogbdcaaGreat
