/-
  Of any state, whatever is asked, the answer is the document's: the walk.
-/
import Derived.Test.YtlgibnmoogbdcaaGreatR44
namespace Go.Proofs.YtlgibnmoogbdcaaGreat
open Go.RowKit
set_option maxRecDepth 40000 in
set_option maxHeartbeats 40000000 in
theorem all_law (s:St) (ax:Option Addr) (cx:Nat) (ar:Option Addr) (cr:Nat) (t:Tk) (ah:Option Addr) (nh ch:Nat) (H0:Nat→Int) (now:Int) (l:Lv) (w:World) (hx:LsR w ax cx s.x.F) (hwr:Word s.x.r) (hwd:∀ l∈s.x.F,Word l.s) (hb1:s.x.F.length≤9223372036854775807) (hb2:∀ l∈s.x.F,l.L.length≤9223372036854775807) (hr:SlR w ar cr s.run) (hb3:s.run.length≤9223372036854775807) (hh:HnR w ah nh H0) (hb4:nh≤9223372036854775807) :
  Calls Tryz.prog 3 #[.agg (stB s (.slice ax s.x.F.length cx) (.slice ar s.run.length cr)),.agg #[.int .i64 t.id,.int .i64 t.wid,.int .i64 t.sts,.int .i64 t.sin,.int .i64 t.unt],.slice ah nh ch,.int .i64 now,.agg #[.string l.name,.int .i64 l.kind,.int .i64 l.shares,.int .i64 l.lend,.int .i64 l.borrow,.int .i64 l.queues,.int .i64 l.hand,.int .i64 l.length,.int .i64 l.wait,.int .i64 l.guess]] w fun e w'=>e=.returned (.bool true)∧Below w.heap.size w w':=by
 obtain ⟨w1,hw1⟩:∃ w1,w1=(((w.alloc (.cells (stB s (.slice ax s.x.F.length cx) (.slice ar s.run.length cr)) 34)).alloc (.cells #[.int .i64 t.id,.int .i64 t.wid,.int .i64 t.sts,.int .i64 t.sin,.int .i64 t.unt] 36)).alloc (.cells #[.string l.name,.int .i64 l.kind,.int .i64 l.shares,.int .i64 l.lend,.int .i64 l.borrow,.int .i64 l.queues,.int .i64 l.hand,.int .i64 l.length,.int .i64 l.wait,.int .i64 l.guess] 23)):=⟨_,rfl⟩
 have BX:=boxes3 w 34 36 23 (stB s (.slice ax s.x.F.length cx) (.slice ar s.run.length cr)) #[.int .i64 t.id,.int .i64 t.wid,.int .i64 t.sts,.int .i64 t.sin,.int .i64 t.unt] #[.string l.name,.int .i64 l.kind,.int .i64 l.shares,.int .i64 l.lend,.int .i64 l.borrow,.int .i64 l.queues,.int .i64 l.hand,.int .i64 l.length,.int .i64 l.wait,.int .i64 l.guess]
 rw [←hw1] at BX
 obtain ⟨B,N1,N2,N3⟩:=BX
 obtain ⟨A,hA⟩:∃ A,A=w.heap.size:=⟨_,rfl⟩
 have HAA:=Hd.mk hA
 have hs1:w1.heap.size=A+3:=by rw [hw1,hA];simp
 rw [←hA] at N1 N2 N3
 have N2:Blk w1 (A+1) 36 (tkA t):=N2
 have N3:Blk w1 (A+1+1) 23 (lvA l):=N3
 have AW:=awake_ok w1
 have HW:=Hd.mk (And.intro B (And.intro hs1 (And.intro N1 (And.intro N2 N3))))
 have HX:=Hd.mk (And.intro hx (And.intro hr hh))
 have SM:Hd (∀ Y,Below w.heap.size w Y→Calls Tryz.prog 5 #[.agg (stB s (.slice ax s.x.F.length cx) (.slice ar s.run.length cr))] Y fun e w'=>AnsS s e∧Below Y.heap.size Y w'):=⟨fun Y b=>small_ok s ax cx ar cr Y (hx.carry b) hwd hb1 hb3 (fun k hk=>hb2 _ (gl_mem hk))⟩
 have HWD:=Hd.mk (And.intro hwr hwd)
 clear B N1 N2 N3 hs1 hx hr hh hwr hwd hb1 hb2 hb3
 go_enter Tryz.func3,Tryz.ntmps3
 go_upto_region 1 with fail
 rw [←hw1]
 clear hw1
 rw [←hA]
 clear hA
 go_wp2_with fail
 go_at_call 4
 refine AW.mono ?_
 rintro e w2 ⟨rfl,b2⟩
 clear AW
 have H2:Hd (Below w.heap.size w w2∧A+3≤w2.heap.size∧Blk w2 A 34 (stB s (.slice ax s.x.F.length cx) (.slice ar s.run.length cr))∧Blk w2 (A+1) 36 (tkA t)∧Blk w2 (A+1+1) 23 (lvA l)):=⟨by
  have h:=HW.out
  have ha:=HAA.out
  have z:=b2.size
  exact ⟨h.1.trans (b2.mono (by omega)),by omega,h.2.2.1.kept (Kept.of_below b2 (fun _=>False)) id,h.2.2.2.1.kept (Kept.of_below b2 (fun _=>False)) id,h.2.2.2.2.kept (Kept.of_below b2 (fun _=>False)) id⟩⟩
 have S2:=SM.out w2 H2.out.1
 clear HW SM b2
 go_upto_region 3 with fail
 go_wp2_with (refine wpl_loadSt rfl _ rfl A rfl _ H2.out.2.2.1 rfl ?_)
 go_at_call 5
 refine S2.mono ?_
 rintro e w3 ⟨⟨⟨sm,rfl,hsm⟩⟩,b3⟩
 clear S2
 have H3:Hd (Below w.heap.size w w3∧A+3≤w3.heap.size∧Blk w3 A 34 (stB s (.slice ax s.x.F.length cx) (.slice ar s.run.length cr))∧Blk w3 (A+1) 36 (tkA t)∧Blk w3 (A+1+1) 23 (lvA l)):=⟨by
  have h:=H2.out
  have ha:=HAA.out
  have z:=b3.size
  exact ⟨h.1.trans (b3.mono (by omega)),by omega,h.2.2.1.kept (Kept.of_below b3 (fun _=>False)) id,h.2.2.2.1.kept (Kept.of_below b3 (fun _=>False)) id,h.2.2.2.2.kept (Kept.of_below b3 (fun _=>False)) id⟩⟩
 clear H2 b3
 have HSM:=Hd.mk hsm
 clear hsm
 cases sm with
 | false =>
  go_wp2
  go_ret
  exact ⟨rfl,H3.out.1⟩
 | true =>
  by_cases hnh:nh≤100
  ·have hnh':¬ (100:Int)<(nh:Int):=by omega
   obtain ⟨f1,f2,f3,f4⟩:=HSM.out.yes rfl
   have few:Few s.x.F:=⟨by omega,fun l hl=>by
    obtain ⟨k,hk,rfl⟩:=List.mem_iff_getElem.1 hl
    have e:gl s.x.F k=s.x.F[k]:=by
     have:=gl_get hk
     rw [List.getElem?_eq_getElem hk] at this
     injection this with this
     exact this.symm
    have:=f3 k hk
    rw [e] at this
    exact ⟨HWD.out.2 _ hl,by omega⟩⟩
   have HIV:Hd (IvL 600 s):=⟨few,HWD.out.1,by rw [allT_len];omega⟩
   have CP:=scopyr_ok s ax cx ar cr w3 (HX.out.1.carry H3.out.1) few (HX.out.2.1.carry H3.out.1) (by omega)
   clear few f1 f2 f3 f4 HWD HSM
   go_upto_region 5 with fail
   go_wp2_with (refine wpl_loadSt rfl _ rfl A rfl _ H3.out.2.2.1 rfl ?_)
   go_at_call 6
   refine CP.mono ?_
   rintro e w4 ⟨⟨v4,u4,rfl,o4⟩,b4⟩
   obtain ⟨a4,c4,rfl,l4⟩:=o4.own.read
   obtain ⟨B2,hB2,-,oR⟩:=o4.ex
   obtain ⟨ar4,cr4,rfl,r4⟩:=oR.read
   obtain ⟨w5,hw5⟩:∃ w5,w5=w4.alloc (.cells zsT 34):=⟨_,rfl⟩
   have B5:Below w4.heap.size w4 w5:=by rw [hw5];exact alloc_below _ _
   obtain ⟨q,hq⟩:∃ q,q=w4.heap.size:=⟨_,rfl⟩
   have P5:Blk w5 q 34 (stB sZ (.slice none 0 0) (.slice none 0 0)):=by rw [hw5,hq];exact Blk.new _ _ _
   have HC:=Hd.mk (And.intro b4 (And.intro B5 (And.intro l4 (And.intro r4 hq))))
   clear CP o4 oR b4 B5 l4 r4 hB2
   obtain ⟨xm,hxm⟩:∃ xm:Vw,xm=⟨a4,c4,ar4,cr4⟩:=⟨_,rfl⟩
   have HXM:=Hd.mk hxm
   clear hxm
   go_upto_region 6 with (rw [←hw5,← hq];refine wpl_storeSt rfl _ _ rfl q rfl (stB s (.slice a4 s.x.F.length c4) (.slice ar4 s.run.length cr4)) _ rfl P5 rfl rfl (st_one _ _ _ _ _ _ _) ?_;intro w6 n6 k6)
   have HB6:Hd (AB w A q s t l ⟨ax,cx,ar,cr⟩ xm w6):=⟨by
    obtain ⟨b4,B5,l4,r4,hq⟩:=HC.out
    obtain ⟨h1,h2,h3,h4,h5⟩:=H3.out
    have ha:=HAA.out
    have z4:=b4.size
    have z5:=B5.size
    have k36:Kept (fun j=>q≤j) w3 w6:=((Kept.of_below b4 _).trans (Kept.of_below B5 _)).trans (k6.mono (fun j _ e=>by omega))
    have b46:Below w4.heap.size w4 w6:=B5.trans (k6.below (by omega) (fun j e=>by omega))
    have bw6:Below w.heap.size w w6:=h1.trans (k36.below (by omega) (fun j e=>by omega))
    refine ⟨by rw [ha];exact bw6,by omega,h3.kept k36 (by omega),h4.kept k36 (by omega),h5.kept k36 (by omega),?_,⟨HX.out.1.st bw6 (fun j e=>by omega),HX.out.2.1.ts bw6 (fun j e=>by omega)⟩,?_⟩
    ·rw [HXM.out];exact n6
    ·rw [HXM.out];exact ⟨l4.st b46 (fun j e=>by omega),r4.ts b46 (fun j e=>by omega)⟩⟩
   clear hw5 hq P5 n6 k6 HC H3
   obtain ⟨cc,hcc⟩:∃ cc,cc=chF s.x.F s.x.o H0 nh:=⟨_,rfl⟩
   obtain ⟨er1,her1⟩:∃ er,er=arE s t cc:=⟨_,rfl⟩
   obtain ⟨y1,hy1⟩:∃ y,y=orZ er1 (arX s t cc):=⟨_,rfl⟩
   have IV1:Hd (IvL 700 y1):=⟨by
    have hr:cc=-1∨Vld s.x.F s.x.o cc:=by rw [hcc];exact (chF_is _ _ _ _).rng
    rw [hy1]
    exact IvL.orz (fun e=>(HIV.out.arrive (by omega) (by rw [←her1];exact e) hr).more (by omega))⟩
   have CARR:Hd (∀ Y,AB w A q s t l ⟨ax,cx,ar,cr⟩ xm Y→(Calls Tryz.prog 7 #[.agg (vwA s xm),.agg #[.int .i64 t.id,.int .i64 t.wid,.int .i64 t.sts,.int .i64 t.sin,.int .i64 t.unt],.slice ah nh ch] Y fun e w'=>A1 q Y w' y1 er1 e∧Below Y.heap.size Y w')∧(Calls Tryz.prog 8 #[.agg (stB s (.slice ax s.x.F.length cx) (.slice ar s.run.length cr)),.agg #[.int .i64 t.id,.int .i64 t.wid,.int .i64 t.sts,.int .i64 t.sin,.int .i64 t.unt],.slice ah nh ch] Y fun e w'=>A1 q Y w' y1 er1 e∧Below Y.heap.size Y w')):=⟨fun Y h=>by
    rw [hy1,her1,hcc]
    exact h.arrive HIV.out (HX.out.2.2.carry (by rw [←HAA.out];exact h.bel)) (by omega)⟩
   obtain ⟨y2,hy2⟩:∃ y,y=(dsA s).1:=⟨_,rfl⟩
   obtain ⟨K2,hK2⟩:∃ y,y=(dsA s).2:=⟨_,rfl⟩
   have IV2:Hd (IvL 700 y2∧K2.length≤1000):=⟨by
    have h1:=HIV.out.dispatch
    have h2:=h1.run
    have h3:=ds_num s
    rw [hy2,hK2]
    exact ⟨h1.more (by omega),by omega⟩⟩
   have CDIS:Hd (∀ Y,AB w A q s t l ⟨ax,cx,ar,cr⟩ xm Y→(Calls Tryz.prog 12 #[.agg (vwA s xm)] Y fun e w'=>A2 q Y w' y2 K2 e∧Below Y.heap.size Y w')∧(Calls Tryz.prog 13 #[.agg (stB s (.slice ax s.x.F.length cx) (.slice ar s.run.length cr))] Y fun e w'=>A2 q Y w' y2 K2 e∧Below Y.heap.size Y w')):=⟨fun Y h=>by
    rw [hy2,hK2]
    exact h.dispatch HIV.out⟩
   obtain ⟨er3,her3⟩:∃ er,er=dnE s t.id:=⟨_,rfl⟩
   obtain ⟨y3,hy3⟩:∃ y,y=orZ er3 { s with run:=drL t.id s.run }:=⟨_,rfl⟩
   obtain ⟨z3,hz3⟩:∃ z,z=dnT s t.id:=⟨_,rfl⟩
   have IV3:Hd (IvL 700 y3):=⟨by
    rw [hy3]
    refine IvL.orz (fun e=>(HIV.out.done (id:=t.id) ?_).more (by omega))
    rw [her3] at e
    unfold dnE at e
    split at e
    ·rename_i c;exact of_decide_eq_true c
    ·cases e⟩
   have CDON:Hd (∀ Y,AB w A q s t l ⟨ax,cx,ar,cr⟩ xm Y→(Calls Tryz.prog 15 #[.agg (vwA s xm),.int .i64 t.id] Y fun e w'=>A3 q Y w' y3 z3 er3 e∧Below Y.heap.size Y w')∧(Calls Tryz.prog 16 #[.agg (stB s (.slice ax s.x.F.length cx) (.slice ar s.run.length cr)),.int .i64 t.id] Y fun e w'=>A3 q Y w' y3 z3 er3 e∧Below Y.heap.size Y w')):=⟨fun Y h=>by
    rw [hy3,her3,hz3]
    exact h.done HIV.out t.id⟩
   obtain ⟨er4,her4⟩:∃ er,er=dpE s.x t.id:=⟨_,rfl⟩
   obtain ⟨y4,hy4⟩:∃ y,y=orZ er4 { s with x:=dpX s.x t.id }:=⟨_,rfl⟩
   obtain ⟨z4,hz4⟩:∃ z,z=dpT s.x t.id:=⟨_,rfl⟩
   have IV4:Hd (IvL 700 y4):=⟨by
    rw [hy4]
    refine IvL.orz (fun e=>(HIV.out.drop (id:=t.id) ?_).more (by omega))
    rw [her4] at e
    unfold dpE at e
    split at e
    ·rename_i c;exact of_decide_eq_true c
    ·cases e⟩
   have CDRO:Hd (∀ Y,AB w A q s t l ⟨ax,cx,ar,cr⟩ xm Y→(Calls Tryz.prog 17 #[.agg (vwA s xm),.int .i64 t.id] Y fun e w'=>A3 q Y w' y4 z4 er4 e∧Below Y.heap.size Y w')∧(Calls Tryz.prog 18 #[.agg (stB s (.slice ax s.x.F.length cx) (.slice ar s.run.length cr)),.int .i64 t.id] Y fun e w'=>A3 q Y w' y4 z4 er4 e∧Below Y.heap.size Y w')):=⟨fun Y h=>by
    rw [hy4,her4,hz4]
    exact h.drop HIV.out t.id⟩
   obtain ⟨y5,hy5⟩:∃ y,y=ltX now s:=⟨_,rfl⟩
   obtain ⟨K5,hK5⟩:∃ y,y=srt (ltA now s.x.F):=⟨_,rfl⟩
   have IV5:Hd (IvL 700 y5∧K5.length≤1000):=⟨by
    have h1:=HIV.out.late now
    have h2:(srt (ltA now s.x.F)).length=(ltA now s.x.F).length:=(srt_perm _).length_eq
    have h3:(ltA now s.x.F).length≤(flt s.x.F).length:=List.length_filter_le _ _
    have h4:=HIV.out.wait
    rw [hy5,hK5]
    exact ⟨h1.more (by omega),by omega⟩⟩
   have CLAT:Hd (∀ Y,AB w A q s t l ⟨ax,cx,ar,cr⟩ xm Y→(Calls Tryz.prog 19 #[.agg (vwA s xm),.int .i64 now] Y fun e w'=>A2 q Y w' y5 K5 e∧Below Y.heap.size Y w')∧(Calls Tryz.prog 20 #[.agg (stB s (.slice ax s.x.F.length cx) (.slice ar s.run.length cr)),.int .i64 now] Y fun e w'=>A2 q Y w' y5 K5 e∧Below Y.heap.size Y w')):=⟨fun Y h=>by
    rw [hy5,hK5]
    exact h.late HIV.out now⟩
   obtain ⟨b0,hb0⟩:∃ b0,b0=(now.tmod 2 == 0):=⟨_,rfl⟩
   have HB0:=Hd.mk hb0
   obtain ⟨y6,hy6⟩:∃ y,y=tuS s l b0:=⟨_,rfl⟩
   have IV6:Hd (IvL 700 y6):=⟨by rw [hy6];exact (HIV.out.turn l b0).more (by omega)⟩
   have CTUR:Hd (∀ Y,AB w A q s t l ⟨ax,cx,ar,cr⟩ xm Y→(Calls Tryz.prog 21 #[.agg (vwA s xm),.agg #[.string l.name,.int .i64 l.kind,.int .i64 l.shares,.int .i64 l.lend,.int .i64 l.borrow,.int .i64 l.queues,.int .i64 l.hand,.int .i64 l.length,.int .i64 l.wait,.int .i64 l.guess],.bool b0] Y fun e w'=>A0 q Y w' y6 e∧Below Y.heap.size Y w')∧(Calls Tryz.prog 22 #[.agg (stB s (.slice ax s.x.F.length cx) (.slice ar s.run.length cr)),.agg #[.string l.name,.int .i64 l.kind,.int .i64 l.shares,.int .i64 l.lend,.int .i64 l.borrow,.int .i64 l.queues,.int .i64 l.hand,.int .i64 l.length,.int .i64 l.wait,.int .i64 l.guess],.bool b0] Y fun e w'=>A0 q Y w' y6 e∧Below Y.heap.size Y w')):=⟨fun Y h=>by
    rw [hy6]
    exact h.turn HIV.out b0⟩
   obtain ⟨y0,hy0⟩:∃ y,y=opS l:=⟨_,rfl⟩
   have IV0:Hd (IvL 700 y0):=⟨by rw [hy0];exact (IvL.start l).more (by omega)⟩
   have COPE:Hd (∀ Y,(Calls Tryz.prog 10 #[.agg #[.string l.name,.int .i64 l.kind,.int .i64 l.shares,.int .i64 l.lend,.int .i64 l.borrow,.int .i64 l.queues,.int .i64 l.hand,.int .i64 l.length,.int .i64 l.wait,.int .i64 l.guess]] Y fun e w'=>A0 q Y w' y0 e∧Below Y.heap.size Y w')∧(Calls Tryz.prog 11 #[.agg #[.string l.name,.int .i64 l.kind,.int .i64 l.shares,.int .i64 l.lend,.int .i64 l.borrow,.int .i64 l.queues,.int .i64 l.hand,.int .i64 l.length,.int .i64 l.wait,.int .i64 l.guess]] Y fun e w'=>A0 q Y w' y0 e∧Below Y.heap.size Y w')):=⟨fun Y=>by rw [hy0];exact open_a0 l q Y⟩
   clear hy0 hcc her1 hy1 hy2 hK2 her3 hy3 hz3 her4 hy4 hz4 hy5 hK5 hy6 hb0
   have CA:=(CARR.out w6 HB6.out).1
   obtain ⟨⟨e0,e1,e2,e3,e4⟩,-⟩:=HB6.out.t.five
   go_wp2_with (refine wpl_loadSt rfl _ rfl q rfl _ HB6.out.m rfl ?_)
   go_at_call 7
   refine CA.mono ?_
   rintro e w7 ⟨⟨xa1,rfl,X⟩,b7⟩
   clear CA e0 e1 e2 e3 e4
   obtain ⟨w8,hw8⟩:∃ W,W=w7.alloc (.cells zsT 34):=⟨_,rfl⟩
   have B8:Below w7.heap.size w7 w8:=by rw [hw8];exact alloc_below _ _
   obtain ⟨q12,hq12⟩:∃ g,g=w7.heap.size:=⟨_,rfl⟩
   have P8:Blk w8 q12 34 (stB sZ (.slice none 0 0) (.slice none 0 0)):=by rw [hw8,hq12];exact Blk.new _ _ _
   have HS8:=Hd.mk (And.intro b7 (And.intro B8 (And.intro X hq12)))
   clear b7 B8 X
   go_upto_region 7 with (rw [←hw8,← hq12];refine wpl_storeSt rfl _ _ rfl q12 rfl (vwA y1 xa1) _ rfl P8 rfl rfl (vw_one _ _) ?_;intro w9 n9 k9)
   have HNq12:Hd (q12=w7.heap.size∧w6.heap.size≤w7.heap.size∧q12<w9.heap.size∧q<w6.heap.size):=⟨HS8.out.2.2.2,HS8.out.1.size,n9.lt,HB6.out.m.lt⟩
   (try rw [←HNq12.out.1])
   have HB9:Hd (AB w A q s t l ⟨ax,cx,ar,cr⟩ xm w9):=⟨((HB6.out.carry HS8.out.1).carry HS8.out.2.1).put k9 (by have:=HNq12.out;omega)⟩
   have HAq12:Hd (HA q w6.heap.size w7.heap.size w9 q12 y1 xa1):=⟨n9,(HS8.out.2.2.1.carry HS8.out.2.1).put k9 (.inr (by have:=HNq12.out;omega))⟩
   clear hw8 hq12 P8 n9 k9 HS8 HB6
   have CA:=(CARR.out w9 HB9.out).2
   obtain ⟨⟨e0,e1,e2,e3,e4⟩,-⟩:=HB9.out.t.five
   go_wp2_with (refine wpl_loadSt rfl _ rfl A rfl _ HB9.out.a rfl ?_)
   go_at_call 8
   refine CA.mono ?_
   rintro e w10 ⟨⟨xb1,rfl,X⟩,b10⟩
   clear CA e0 e1 e2 e3 e4
   obtain ⟨w11,hw11⟩:∃ W,W=w10.alloc (.cells zsT 34):=⟨_,rfl⟩
   have B11:Below w10.heap.size w10 w11:=by rw [hw11];exact alloc_below _ _
   obtain ⟨q14,hq14⟩:∃ g,g=w10.heap.size:=⟨_,rfl⟩
   have P11:Blk w11 q14 34 (stB sZ (.slice none 0 0) (.slice none 0 0)):=by rw [hw11,hq14];exact Blk.new _ _ _
   have HS11:=Hd.mk (And.intro b10 (And.intro B11 (And.intro X hq14)))
   clear b10 B11 X
   go_upto_region 8 with (rw [←hw11,← hq14];refine wpl_storeSt rfl _ _ rfl q14 rfl (vwA y1 xb1) _ rfl P11 rfl rfl (vw_one _ _) ?_;intro w12 n12 k12)
   have HNq14:Hd (q14=w10.heap.size∧w9.heap.size≤w10.heap.size∧q14<w12.heap.size∧q<w9.heap.size):=⟨HS11.out.2.2.2,HS11.out.1.size,n12.lt,HB9.out.m.lt⟩
   (try rw [←HNq14.out.1])
   have HB12:Hd (AB w A q s t l ⟨ax,cx,ar,cr⟩ xm w12):=⟨((HB9.out.carry HS11.out.1).carry HS11.out.2.1).put k12 (by have:=HNq14.out;omega)⟩
   have HAq14:Hd (HA q w9.heap.size w10.heap.size w12 q14 y1 xb1):=⟨n12,(HS11.out.2.2.1.carry HS11.out.2.1).put k12 (.inr (by have:=HNq14.out;omega))⟩
   replace HAq12:=Hd.mk (((HAq12.out.carry HS11.out.1).carry HS11.out.2.1).put k12 (by have:=HNq12.out;have:=HNq14.out;omega) (.inr (by have:=HNq12.out;have:=HNq14.out;omega)))
   clear hw11 hq14 P11 n12 k12 HS11 HB9
   have R0:Below w12.heap.size w12 w12.drew:=(Below.refl _ _).drew
   refine AnyG.start (T:=fun Y=>Below w12.heap.size w12 Y) (U:=fun _=>True) (j0:=100) (by kernel_rfl) ?_
   generalize w12.drew=v0 at *
   refine .tq 0 52 R0 ?_;simp only [oqA,oqB,oqC]
   refine .tq 1 53 R0 ?_;simp only [oqA,oqB,oqC]
   refine .tq (v:=.bool false) 2 54 R0 ?_ (hy:=fun w hSw=>by go_simp);simp only [oqA,oqB,oqC]
   refine .tq 3 55 R0 ?_;simp only [oqA,oqB,oqC]
   refine .tq (v:=.agg (vwA y1 xa1)) 4 56 R0 ?_ (hy:=fun w hSw=>by exact exec_loadSt _ rfl q12 rfl _ (HAq12.out.box.kept (Kept.of_below hSw (fun _=>False)) id) rfl);simp only [oqA,oqB,oqC]
   refine .tq (v:=.agg (vwA y1 xb1)) 5 57 R0 ?_ (hy:=fun w hSw=>by exact exec_loadSt _ rfl q14 rfl _ (HAq14.out.box.kept (Kept.of_below hSw (fun _=>False)) id) rfl);simp only [oqA,oqB,oqC]
   refine AnyG.ready (rs:=[6]) (by kernel_rfl) (by simp) ?_
   refine AllG.cons rfl (fun K hK=>?_) AllG.nil
   go_simp
   refine (same_vw (HAq12.out.vw.carry R0) (HAq14.out.vw.carry R0) IV1.out).mono ?_
   rintro e v1 ⟨rfl,b1⟩
   have R1:=R0.trans (b1.mono R0.size)
   refine hK.out _ _ ⟨R1,fun _=>trivial⟩ ?_
   clear hK K
   refine .tq (v:=.bool false) 7 59 R1 ?_ (hy:=fun w hSw=>by go_simp);simp only [oqA,oqB,oqC]
   refine .tq (v:=.bool false) 8 60 R1 ?_ (hy:=fun w hSw=>by go_simp);simp only [oqA,oqB,oqC]
   refine .tq 9 61 R1 ?_;simp only [oqA,oqB,oqC]
   refine .tq (v:=.agg #[.string l.name,.int .i64 l.kind,.int .i64 l.shares,.int .i64 l.lend,.int .i64 l.borrow,.int .i64 l.queues,.int .i64 l.hand,.int .i64 l.length,.int .i64 l.wait,.int .i64 l.guess]) 10 62 R1 ?_ (hy:=fun w hSw=>by obtain ⟨c0,c1,c2,c3,c4,c5,c6,c7,c8,c9⟩:=(HB12.out.l.kept (Kept.of_below hSw (fun _=>False)) id).lv;go_simp);simp only [oqA,oqB,oqC]
   refine .tq (v:=.agg #[.string l.name,.int .i64 l.kind,.int .i64 l.shares,.int .i64 l.lend,.int .i64 l.borrow,.int .i64 l.queues,.int .i64 l.hand,.int .i64 l.length,.int .i64 l.wait,.int .i64 l.guess]) 12 64 R1 ?_ (hy:=fun w hSw=>by obtain ⟨c0,c1,c2,c3,c4,c5,c6,c7,c8,c9⟩:=(HB12.out.l.kept (Kept.of_below hSw (fun _=>False)) id).lv;go_simp);simp only [oqA,oqB,oqC]
   refine AnyG.ready (rs:=[11]) (by kernel_rfl) (by simp) ?_
   refine AllG.cons rfl (fun K hK=>?_) AllG.nil
   go_simp
   refine ((COPE.out v1).1).mono ?_
   rintro e v2 ⟨⟨xo1,rfl,X1⟩,b2⟩
   have R2:=R1.trans (b2.mono R1.size)
   refine hK.out _ _ ⟨R2,fun _=>trivial⟩ ?_
   clear hK K
   refine AnyG.ready (rs:=[13]) (by kernel_rfl) (by simp) ?_
   refine AllG.cons rfl (fun K hK=>?_) AllG.nil
   go_simp
   refine ((COPE.out v2).2).mono ?_
   rintro e v3 ⟨⟨xo2,rfl,X2⟩,b3⟩
   have R3:=R2.trans (b3.mono R2.size)
   refine hK.out _ _ ⟨R3,fun _=>trivial⟩ ?_
   clear hK K
   refine AnyG.ready (rs:=[14]) (by kernel_rfl) (by simp) ?_
   refine AllG.cons rfl (fun K hK=>?_) AllG.nil
   go_simp
   refine (same_vw (X1.carry b3) X2 IV0.out).mono ?_
   rintro e v4 ⟨rfl,b4⟩
   have R4:=R3.trans (b4.mono R3.size)
   refine hK.out _ _ ⟨R4,fun _=>trivial⟩ ?_
   clear hK K
   refine .tq (v:=.bool false) 15 67 R4 ?_ (hy:=fun w hSw=>by go_simp);simp only [oqA,oqB,oqC]
   refine .tq (v:=.bool false) 16 68 R4 ?_ (hy:=fun w hSw=>by go_simp);simp only [oqA,oqB,oqC]
   refine AnyG.done (by kernel_rfl) ?_ _
   have HB13:Hd (AB w A q s t l ⟨ax,cx,ar,cr⟩ xm v4):=⟨HB12.out.carry R4⟩
   clear R0 R1 R2 R3 R4 b1 b2 b3 b4 X1 X2 HAq12 HAq14 HNq12 HNq14 HB12 CARR COPE IV1 IV0
   generalize v4=w13 at *
   go_upto_region 10 with fail
   have CA:=(CDIS.out w13 HB13.out).1
   go_wp2_with (refine wpl_loadSt rfl _ rfl q rfl _ HB13.out.m rfl ?_)
   go_at_call 12
   refine CA.mono ?_
   rintro e w14 ⟨⟨xa2,a17,c17,rfl,X,Y⟩,b14⟩
   clear CA
   obtain ⟨w15,hw15⟩:∃ W,W=w14.alloc (.cells zsT 34):=⟨_,rfl⟩
   have B15:Below w14.heap.size w14 w15:=by rw [hw15];exact alloc_below _ _
   obtain ⟨q16,hq16⟩:∃ g,g=w14.heap.size:=⟨_,rfl⟩
   have P15:Blk w15 q16 34 (stB sZ (.slice none 0 0) (.slice none 0 0)):=by rw [hw15,hq16];exact Blk.new _ _ _
   have HS15:=Hd.mk (And.intro b14 (And.intro B15 (And.intro (And.intro X Y) hq16)))
   clear b14 B15 X Y
   go_upto_region 11 with (rw [←hw15,← hq16];refine wpl_storeSt rfl _ _ rfl q16 rfl (vwA y2 xa2) _ rfl P15 rfl rfl (vw_one _ _) ?_;intro w16 n16 k16)
   have HNq16:Hd (q16=w14.heap.size∧w13.heap.size≤w14.heap.size∧q16<w16.heap.size∧q<w13.heap.size):=⟨HS15.out.2.2.2,HS15.out.1.size,n16.lt,HB13.out.m.lt⟩
   (try rw [←HNq16.out.1])
   have HB16:Hd (AB w A q s t l ⟨ax,cx,ar,cr⟩ xm w16):=⟨((HB13.out.carry HS15.out.1).carry HS15.out.2.1).put k16 (by have:=HNq16.out;omega)⟩
   have HAq16:Hd (HA q w13.heap.size w14.heap.size w16 q16 y2 xa2):=⟨n16,(HS15.out.2.2.1.1.carry HS15.out.2.1).put k16 (.inr (by have:=HNq16.out;omega))⟩
   have HTq16:Hd (TkS (Gp q w13.heap.size w14.heap.size) w16 a17 c17 K2):=⟨(HS15.out.2.2.1.2.step (Kept.of_below HS15.out.2.1 _) (fun _ _ e=>e)).step (k16.mono (fun j _ e=>.inr (by have:=HNq16.out;omega))) (fun _ _ e=>e)⟩
   clear hw15 hq16 P15 n16 k16 HS15 HB13
   have CA:=(CDIS.out w16 HB16.out).2
   go_wp2_with (refine wpl_loadSt rfl _ rfl A rfl _ HB16.out.a rfl ?_)
   go_at_call 13
   refine CA.mono ?_
   rintro e w17 ⟨⟨xb2,a19,c19,rfl,X,Y⟩,b17⟩
   clear CA
   obtain ⟨w18,hw18⟩:∃ W,W=w17.alloc (.cells zsT 34):=⟨_,rfl⟩
   have B18:Below w17.heap.size w17 w18:=by rw [hw18];exact alloc_below _ _
   obtain ⟨q18,hq18⟩:∃ g,g=w17.heap.size:=⟨_,rfl⟩
   have P18:Blk w18 q18 34 (stB sZ (.slice none 0 0) (.slice none 0 0)):=by rw [hw18,hq18];exact Blk.new _ _ _
   have HS18:=Hd.mk (And.intro b17 (And.intro B18 (And.intro (And.intro X Y) hq18)))
   clear b17 B18 X Y
   go_upto_region 12 with (rw [←hw18,← hq18];refine wpl_storeSt rfl _ _ rfl q18 rfl (vwA y2 xb2) _ rfl P18 rfl rfl (vw_one _ _) ?_;intro w19 n19 k19)
   have HNq18:Hd (q18=w17.heap.size∧w16.heap.size≤w17.heap.size∧q18<w19.heap.size∧q<w16.heap.size):=⟨HS18.out.2.2.2,HS18.out.1.size,n19.lt,HB16.out.m.lt⟩
   (try rw [←HNq18.out.1])
   have HB19:Hd (AB w A q s t l ⟨ax,cx,ar,cr⟩ xm w19):=⟨((HB16.out.carry HS18.out.1).carry HS18.out.2.1).put k19 (by have:=HNq18.out;omega)⟩
   have HAq18:Hd (HA q w16.heap.size w17.heap.size w19 q18 y2 xb2):=⟨n19,(HS18.out.2.2.1.1.carry HS18.out.2.1).put k19 (.inr (by have:=HNq18.out;omega))⟩
   have HTq18:Hd (TkS (Gp q w16.heap.size w17.heap.size) w19 a19 c19 K2):=⟨(HS18.out.2.2.1.2.step (Kept.of_below HS18.out.2.1 _) (fun _ _ e=>e)).step (k19.mono (fun j _ e=>.inr (by have:=HNq18.out;omega))) (fun _ _ e=>e)⟩
   replace HAq16:=Hd.mk (((HAq16.out.carry HS18.out.1).carry HS18.out.2.1).put k19 (by have:=HNq16.out;have:=HNq18.out;omega) (.inr (by have:=HNq16.out;have:=HNq18.out;omega)))
   replace HTq16:=Hd.mk (((HTq16.out.step (Kept.of_below HS18.out.1 _) (fun _ _ e=>e)).step (Kept.of_below HS18.out.2.1 _) (fun _ _ e=>e)).step (k19.mono (fun j _ e=>.inr (by have:=HNq16.out;have:=HNq18.out;omega))) (fun _ _ e=>e))
   clear hw18 hq18 P18 n19 k19 HS18 HB16
   have SA:=same_vw HAq16.out.vw HAq18.out.vw IV2.out.1
   have SB2:Hd (∀ Y,Below w19.heap.size w19 Y→Calls Tryz.prog 14 #[.slice a17 K2.length c17,.slice a19 K2.length c19] Y fun e w'=>e=.returned (.bool true)∧Below Y.heap.size Y w'):=⟨fun Y b=>same_ok a17 a19 c17 c19 K2 Y (HTq16.out.read (Kept.of_below b _)).2.2 (HTq18.out.read (Kept.of_below b _)).2.2 (by have:=IV2.out.2;omega)⟩
   go_upto_region 14 with (first | (refine wpl_loadSt rfl _ rfl q16 rfl _ HAq16.out.box rfl ?_) | (refine wpl_loadSt rfl _ rfl q18 rfl _ HAq18.out.box rfl ?_) | (go_at_call 14;refine (SB2.out w20 b20).mono ?_;rintro e w21 ⟨rfl,b21⟩) | (go_at_call 9;refine SA.mono ?_;rintro e w20 ⟨rfl,b20⟩))
   have HB21:Hd (AB w A q s t l ⟨ax,cx,ar,cr⟩ xm w21):=⟨(HB19.out.carry b20).carry b21⟩
   replace HAq16:=Hd.mk ((HAq16.out.carry b20).carry b21)
   replace HAq18:=Hd.mk ((HAq18.out.carry b20).carry b21)
   have HN12:Hd (q<q16∧q16<q18∧q18<w21.heap.size):=⟨by have:=HNq16.out;have:=HNq18.out;have:=b20.size;have:=b21.size;omega⟩
   clear SA SB2 b20 b21 HTq16 HTq18 HB19 CDIS IV2 HNq16 HNq18
   have HN21:=HN12
   clear HN12
   have CA:=(CDON.out w21 HB21.out).1
   obtain ⟨⟨e0,e1,e2,e3,e4⟩,-⟩:=HB21.out.t.five
   go_wp2_with (refine wpl_loadSt rfl _ rfl q rfl _ HB21.out.m rfl ?_)
   go_at_call 15
   refine CA.mono ?_
   rintro e w22 ⟨⟨xa3,rfl,X⟩,b22⟩
   clear CA e0 e1 e2 e3 e4
   obtain ⟨w23,hw23⟩:∃ W,W=w22.alloc (.cells #[.int .i64 0,.int .i64 0,.int .i64 0,.int .i64 0,.int .i64 0] 36):=⟨_,rfl⟩
   have B23:Below w22.heap.size w22 w23:=by rw [hw23];exact alloc_below _ _
   obtain ⟨q20,hq20⟩:∃ g,g=w22.heap.size:=⟨_,rfl⟩
   have P23:Blk w23 w22.heap.size 36 (tkA tkZ):=by rw [hw23];exact Blk.new _ _ _
   have hz21:=b22.size
   have hz22:=B23.size
   have hpl:=P23.lt
   have HQ21:Hd (q<q16∧q16<q18∧q18<w21.heap.size∧w21.heap.size≤w22.heap.size∧q20=w22.heap.size∧q<w21.heap.size):=⟨by have:=HN21.out;have:=HB21.out.m.lt;have:=hq20;omega⟩
   have OB:=(HAq16.out.box.kept (Kept.of_below b22 (fun _=>False)) id).kept (Kept.of_below B23 (fun _=>False)) id
   have HS21:=Hd.mk (And.intro b22 (And.intro B23 (And.intro X P23)))
   clear b22 B23 X P23 hz21 hz22 hpl
   go_upto_region 15 with (rw [←hw23];refine wpl_storeSt rfl _ _ rfl q16 rfl (vwA y3 xa3) _ rfl OB rfl rfl (vw_one _ _) ?_;intro w24 n24 k24;obtain ⟨⟨e0,e1,e2,e3,e4⟩,g0,g1,g2,g3,g4⟩:=Blk.five (HS21.out.2.2.2.kept k24 (by have:=HQ21.out;omega)))
   obtain ⟨TQ,TK⟩:=five_set (HS21.out.2.2.2.kept k24 (by have:=HQ21.out;omega)) z3
   obtain ⟨w25,hw25⟩:∃ W,W=(((((w24.setCell ⟨w22.heap.size,0,none⟩ (.int .i64 z3.id)).setCell ⟨w22.heap.size,1,none⟩ (.int .i64 z3.wid)).setCell ⟨w22.heap.size,2,none⟩ (.int .i64 z3.sts)).setCell ⟨w22.heap.size,3,none⟩ (.int .i64 z3.sin)).setCell ⟨w22.heap.size,4,none⟩ (.int .i64 z3.unt)):=⟨_,rfl⟩
   rw [←hw25] at TQ TK
   (try rw [←hw25])
   rw [←hq20] at TQ TK
   (try rw [←hq20])
   have HTq20:Hd (Blk w25 q20 36 (tkA z3)):=⟨TQ⟩
   have HB25:Hd (AB w A q s t l ⟨ax,cx,ar,cr⟩ xm w25):=⟨(((HB21.out.carry HS21.out.1).carry HS21.out.2.1).put k24 (by have:=HQ21.out;omega)).put TK (by have:=HQ21.out;omega)⟩
   have HAn:Hd (HA q w21.heap.size w22.heap.size w25 q16 y3 xa3):=⟨n24.kept TK (by have:=HQ21.out;omega),(((HS21.out.2.2.1.carry HS21.out.2.1).put k24 (.inl (by have:=HQ21.out;omega))).put TK (.inr (by have:=HQ21.out;omega)))⟩
   have HO18:Hd (∃ cs,Blk w25 q18 34 cs∧cs.size=23):=⟨⟨_,(((HAq18.out.box.kept (Kept.of_below HS21.out.1 (fun _=>False)) id).kept (Kept.of_below HS21.out.2.1 (fun _=>False)) id).kept k24 (by have:=HQ21.out;omega)).kept TK (by have:=HQ21.out;omega),rfl⟩⟩
   have HN25:Hd (q<q16∧q16<q18∧q18<w21.heap.size∧w21.heap.size≤w22.heap.size∧w22.heap.size≤q20∧q20<w25.heap.size):=⟨by have:=HQ21.out;have:=TQ.lt;omega⟩
   replace HAq16:=HAn
   clear HAn HAq18 HQ21 HN21
   clear hw23 hw25 OB TQ TK n24 k24 HS21 e0 e1 e2 e3 e4 g0 g1 g2 g3 g4 HB21 hq20
   obtain ⟨cs18,ob18,sz18⟩:=HO18.out
   have CA:=(CDON.out w25 HB25.out).2
   obtain ⟨⟨e0,e1,e2,e3,e4⟩,-⟩:=HB25.out.t.five
   go_wp2_with (refine wpl_loadSt rfl _ rfl A rfl _ HB25.out.a rfl ?_)
   go_at_call 16
   refine CA.mono ?_
   rintro e w26 ⟨⟨xb3,rfl,X⟩,b26⟩
   clear CA e0 e1 e2 e3 e4
   obtain ⟨w27,hw27⟩:∃ W,W=w26.alloc (.cells #[.int .i64 0,.int .i64 0,.int .i64 0,.int .i64 0,.int .i64 0] 36):=⟨_,rfl⟩
   have B27:Below w26.heap.size w26 w27:=by rw [hw27];exact alloc_below _ _
   obtain ⟨q21,hq21⟩:∃ g,g=w26.heap.size:=⟨_,rfl⟩
   have P27:Blk w27 w26.heap.size 36 (tkA tkZ):=by rw [hw27];exact Blk.new _ _ _
   have hz25:=b26.size
   have hz26:=B27.size
   have hpl:=P27.lt
   have HQ25:Hd (q<q16∧q16<q18∧q18<w21.heap.size∧w21.heap.size≤w22.heap.size∧w22.heap.size≤q20∧q20<w25.heap.size∧w25.heap.size≤w26.heap.size∧q21=w26.heap.size∧q<w25.heap.size):=⟨by have:=HN25.out;have:=HB25.out.m.lt;have:=hq21;omega⟩
   have OB:=(ob18.kept (Kept.of_below b26 (fun _=>False)) id).kept (Kept.of_below B27 (fun _=>False)) id
   have HS25:=Hd.mk (And.intro b26 (And.intro B27 (And.intro X P27)))
   clear b26 B27 X P27 hz25 hz26 hpl
   go_upto_region 16 with (rw [←hw27];refine wpl_storeSt rfl _ _ rfl q18 rfl (vwA y3 xb3) _ rfl OB sz18 rfl (vw_one _ _) ?_;intro w28 n28 k28;obtain ⟨⟨e0,e1,e2,e3,e4⟩,g0,g1,g2,g3,g4⟩:=Blk.five (HS25.out.2.2.2.kept k28 (by have:=HQ25.out;omega)))
   obtain ⟨TQ,TK⟩:=five_set (HS25.out.2.2.2.kept k28 (by have:=HQ25.out;omega)) z3
   obtain ⟨w29,hw29⟩:∃ W,W=(((((w28.setCell ⟨w26.heap.size,0,none⟩ (.int .i64 z3.id)).setCell ⟨w26.heap.size,1,none⟩ (.int .i64 z3.wid)).setCell ⟨w26.heap.size,2,none⟩ (.int .i64 z3.sts)).setCell ⟨w26.heap.size,3,none⟩ (.int .i64 z3.sin)).setCell ⟨w26.heap.size,4,none⟩ (.int .i64 z3.unt)):=⟨_,rfl⟩
   rw [←hw29] at TQ TK
   (try rw [←hw29])
   rw [←hq21] at TQ TK
   (try rw [←hq21])
   have HTq21:Hd (Blk w29 q21 36 (tkA z3)):=⟨TQ⟩
   have HB29:Hd (AB w A q s t l ⟨ax,cx,ar,cr⟩ xm w29):=⟨(((HB25.out.carry HS25.out.1).carry HS25.out.2.1).put k28 (by have:=HQ25.out;omega)).put TK (by have:=HQ25.out;omega)⟩
   have HAn:Hd (HA q w25.heap.size w26.heap.size w29 q18 y3 xb3):=⟨n28.kept TK (by have:=HQ25.out;omega),(((HS25.out.2.2.1.carry HS25.out.2.1).put k28 (.inl (by have:=HQ25.out;omega))).put TK (.inr (by have:=HQ25.out;omega)))⟩
   replace HAq16:=Hd.mk ((((HAq16.out.carry HS25.out.1).carry HS25.out.2.1).put k28 (by have:=HQ25.out;omega) (.inl (by have:=HQ25.out;omega))).put TK (by have:=HQ25.out;omega) (.inr (by have:=HQ25.out;omega)))
   replace HTq20:=Hd.mk ((((HTq20.out.kept (Kept.of_below HS25.out.1 (fun _=>False)) id).kept (Kept.of_below HS25.out.2.1 (fun _=>False)) id).kept k28 (by have:=HQ25.out;omega)).kept TK (by have:=HQ25.out;omega))
   have HN29:Hd (q<q16∧q16<q18∧q18<q20∧q20<q21∧q21<w29.heap.size):=⟨by have:=HQ25.out;have:=TQ.lt;omega⟩
   have HAq18:=HAn
   clear HAn HQ25 HN25 HO18 ob18 sz18
   clear hw27 hw29 OB TQ TK n28 k28 HS25 e0 e1 e2 e3 e4 g0 g1 g2 g3 g4 HB25 hq21
   have SA:=same_vw HAq16.out.vw HAq18.out.vw IV3.out
   obtain ⟨⟨e0,e1,e2,e3,e4⟩,-⟩:=HTq20.out.five
   obtain ⟨⟨h0,h1,h2,h3,h4⟩,-⟩:=HTq21.out.five
   go_upto_region 18 with (first | (refine wpl_loadSt_w rfl _ rfl q16 rfl _ HAq16.out.box rfl ?_) | (refine wpl_loadSt_w rfl _ rfl q18 rfl _ HAq18.out.box rfl ?_) | (go_at_call 9;refine SA.mono ?_;rintro e w30 ⟨rfl,b30⟩))
   have HB30:Hd (AB w A q s t l ⟨ax,cx,ar,cr⟩ xm w30):=⟨HB29.out.carry b30⟩
   replace HAq16:=Hd.mk (HAq16.out.carry b30)
   replace HAq18:=Hd.mk (HAq18.out.carry b30)
   replace HTq20:=Hd.mk (HTq20.out.kept (Kept.of_below b30 (fun _=>False)) id)
   replace HTq21:=Hd.mk (HTq21.out.kept (Kept.of_below b30 (fun _=>False)) id)
   have HN30:Hd (q<q16∧q16<q18∧q18<q20∧q20<q21∧q21<w30.heap.size):=⟨by have:=HN29.out;have:=b30.size;omega⟩
   clear SA e0 e1 e2 e3 e4 h0 h1 h2 h3 h4 b30 HB29 HN29
   clear CDON IV3
   have CA:=(CDRO.out w30 HB30.out).1
   obtain ⟨⟨e0,e1,e2,e3,e4⟩,-⟩:=HB30.out.t.five
   go_wp2_with (refine wpl_loadSt rfl _ rfl q rfl _ HB30.out.m rfl ?_)
   go_at_call 17
   refine CA.mono ?_
   rintro e w31 ⟨⟨xa4,rfl,X⟩,b31⟩
   clear CA e0 e1 e2 e3 e4
   obtain ⟨w32,hw32⟩:∃ W,W=w31:=⟨_,rfl⟩
   have B32:Below w31.heap.size w31 w32:=by rw [hw32];exact Below.refl _ _
   have P32:Blk w32 q20 36 (tkA z3):=((HTq20.out).kept (Kept.of_below b31 (fun _=>False)) id).kept (Kept.of_below B32 (fun _=>False)) id
   have hz30:=b31.size
   have hz31:=B32.size
   have hpl:=P32.lt
   have HQ30:Hd (q<q16∧q16<q18∧q18<q20∧q20<q21∧q21<w30.heap.size∧w30.heap.size≤w31.heap.size∧q<w30.heap.size):=⟨by have:=HN30.out;have:=HB30.out.m.lt;omega⟩
   have OB:=(HAq16.out.box.kept (Kept.of_below b31 (fun _=>False)) id).kept (Kept.of_below B32 (fun _=>False)) id
   have HS30:=Hd.mk (And.intro b31 (And.intro B32 (And.intro X P32)))
   clear b31 B32 X P32 hz30 hz31 hpl
   go_upto_region 19 with (rw [←hw32];refine wpl_storeSt rfl _ _ rfl q16 rfl (vwA y4 xa4) _ rfl OB rfl rfl (vw_one _ _) ?_;intro w33 n33 k33;obtain ⟨⟨e0,e1,e2,e3,e4⟩,g0,g1,g2,g3,g4⟩:=Blk.five (HS30.out.2.2.2.kept k33 (by have:=HQ30.out;omega)))
   obtain ⟨TQ,TK⟩:=five_set (HS30.out.2.2.2.kept k33 (by have:=HQ30.out;omega)) z4
   obtain ⟨w34,hw34⟩:∃ W,W=(((((w33.setCell ⟨q20,0,none⟩ (.int .i64 z4.id)).setCell ⟨q20,1,none⟩ (.int .i64 z4.wid)).setCell ⟨q20,2,none⟩ (.int .i64 z4.sts)).setCell ⟨q20,3,none⟩ (.int .i64 z4.sin)).setCell ⟨q20,4,none⟩ (.int .i64 z4.unt)):=⟨_,rfl⟩
   rw [←hw34] at TQ TK
   (try rw [←hw34])
   have HTq20:Hd (Blk w34 q20 36 (tkA z4)):=⟨TQ⟩
   have HB34:Hd (AB w A q s t l ⟨ax,cx,ar,cr⟩ xm w34):=⟨(((HB30.out.carry HS30.out.1).carry HS30.out.2.1).put k33 (by have:=HQ30.out;omega)).put TK (by have:=HQ30.out;omega)⟩
   have HAn:Hd (HA q w30.heap.size w31.heap.size w34 q16 y4 xa4):=⟨n33.kept TK (by have:=HQ30.out;omega),(((HS30.out.2.2.1.carry HS30.out.2.1).put k33 (.inl (by have:=HQ30.out;omega))).put TK (.inl (by have:=HQ30.out;omega)))⟩
   have HN34:Hd (q<q16∧q16<q18∧q18<q20∧q20<q21∧q21<w34.heap.size):=⟨by have:=HQ30.out;have h3:=k33.size;have h4:=TK.size;have h5:=HS30.out.2.1.size;omega⟩
   replace HTq21:=Hd.mk ((((HTq21.out.kept (Kept.of_below HS30.out.1 (fun _=>False)) id).kept (Kept.of_below HS30.out.2.1 (fun _=>False)) id).kept k33 (by have:=HQ30.out;omega)).kept TK (by have:=HQ30.out;omega))
   have HO18:Hd (∃ cs,Blk w34 q18 34 cs∧cs.size=23):=⟨⟨_,(((HAq18.out.box.kept (Kept.of_below HS30.out.1 (fun _=>False)) id).kept (Kept.of_below HS30.out.2.1 (fun _=>False)) id).kept k33 (by have:=HQ30.out;omega)).kept TK (by have:=HQ30.out;omega),rfl⟩⟩
   replace HAq16:=HAn
   have HG34:Hd (q21<w30.heap.size):=⟨by have:=HQ30.out;omega⟩
   clear HAn HAq18 HQ30 HN30
   clear hw32 hw34 OB TQ TK n33 k33 HS30 e0 e1 e2 e3 e4 g0 g1 g2 g3 g4 HB30
   obtain ⟨cs18,ob18,sz18⟩:=HO18.out
   have CA:=(CDRO.out w34 HB34.out).2
   obtain ⟨⟨e0,e1,e2,e3,e4⟩,-⟩:=HB34.out.t.five
   go_wp2_with (refine wpl_loadSt rfl _ rfl A rfl _ HB34.out.a rfl ?_)
   go_at_call 18
   refine CA.mono ?_
   rintro e w35 ⟨⟨xb4,rfl,X⟩,b35⟩
   clear CA e0 e1 e2 e3 e4
   obtain ⟨w36,hw36⟩:∃ W,W=w35:=⟨_,rfl⟩
   have B36:Below w35.heap.size w35 w36:=by rw [hw36];exact Below.refl _ _
   have P36:Blk w36 q21 36 (tkA z3):=((HTq21.out).kept (Kept.of_below b35 (fun _=>False)) id).kept (Kept.of_below B36 (fun _=>False)) id
   have hz34:=b35.size
   have hz35:=B36.size
   have hpl:=P36.lt
   have HQ34:Hd (q<q16∧q16<q18∧q18<q20∧q20<q21∧q21<w34.heap.size∧w34.heap.size≤w35.heap.size∧q<w34.heap.size):=⟨by have:=HN34.out;have:=HB34.out.m.lt;omega⟩
   have OB:=(ob18.kept (Kept.of_below b35 (fun _=>False)) id).kept (Kept.of_below B36 (fun _=>False)) id
   have HS34:=Hd.mk (And.intro b35 (And.intro B36 (And.intro X P36)))
   clear b35 B36 X P36 hz34 hz35 hpl
   go_upto_region 20 with (rw [←hw36];refine wpl_storeSt rfl _ _ rfl q18 rfl (vwA y4 xb4) _ rfl OB sz18 rfl (vw_one _ _) ?_;intro w37 n37 k37;obtain ⟨⟨e0,e1,e2,e3,e4⟩,g0,g1,g2,g3,g4⟩:=Blk.five (HS34.out.2.2.2.kept k37 (by have:=HQ34.out;omega)))
   obtain ⟨TQ,TK⟩:=five_set (HS34.out.2.2.2.kept k37 (by have:=HQ34.out;omega)) z4
   obtain ⟨w38,hw38⟩:∃ W,W=(((((w37.setCell ⟨q21,0,none⟩ (.int .i64 z4.id)).setCell ⟨q21,1,none⟩ (.int .i64 z4.wid)).setCell ⟨q21,2,none⟩ (.int .i64 z4.sts)).setCell ⟨q21,3,none⟩ (.int .i64 z4.sin)).setCell ⟨q21,4,none⟩ (.int .i64 z4.unt)):=⟨_,rfl⟩
   rw [←hw38] at TQ TK
   (try rw [←hw38])
   have HTq21:Hd (Blk w38 q21 36 (tkA z4)):=⟨TQ⟩
   have HB38:Hd (AB w A q s t l ⟨ax,cx,ar,cr⟩ xm w38):=⟨(((HB34.out.carry HS34.out.1).carry HS34.out.2.1).put k37 (by have:=HQ34.out;omega)).put TK (by have:=HQ34.out;omega)⟩
   have HAn:Hd (HA q w34.heap.size w35.heap.size w38 q18 y4 xb4):=⟨n37.kept TK (by have:=HQ34.out;omega),(((HS34.out.2.2.1.carry HS34.out.2.1).put k37 (.inl (by have:=HQ34.out;omega))).put TK (.inl (by have:=HQ34.out;omega)))⟩
   have HN38:Hd (q<q16∧q16<q18∧q18<q20∧q20<q21∧q21<w38.heap.size):=⟨by have:=HQ34.out;have h3:=k37.size;have h4:=TK.size;have h5:=HS34.out.2.1.size;omega⟩
   replace HTq20:=Hd.mk ((((HTq20.out.kept (Kept.of_below HS34.out.1 (fun _=>False)) id).kept (Kept.of_below HS34.out.2.1 (fun _=>False)) id).kept k37 (by have:=HQ34.out;omega)).kept TK (by have:=HQ34.out;omega))
   replace HAq16:=Hd.mk ((((HAq16.out.carry HS34.out.1).carry HS34.out.2.1).put k37 (by have:=HQ34.out;omega) (.inl (by have:=HQ34.out;have:=HG34.out;omega))).put TK (by have:=HQ34.out;omega) (.inl (by have:=HQ34.out;have:=HG34.out;omega)))
   have HAq18:=HAn
   clear HAn HQ34 HN34 HO18 ob18 sz18 HG34
   clear hw36 hw38 OB TQ TK n37 k37 HS34 e0 e1 e2 e3 e4 g0 g1 g2 g3 g4 HB34
   have SA:=same_vw HAq16.out.vw HAq18.out.vw IV4.out
   obtain ⟨⟨e0,e1,e2,e3,e4⟩,-⟩:=HTq20.out.five
   obtain ⟨⟨h0,h1,h2,h3,h4⟩,-⟩:=HTq21.out.five
   go_upto_region 22 with (first | (refine wpl_loadSt_w rfl _ rfl q16 rfl _ HAq16.out.box rfl ?_) | (refine wpl_loadSt_w rfl _ rfl q18 rfl _ HAq18.out.box rfl ?_) | (go_at_call 9;refine SA.mono ?_;rintro e w39 ⟨rfl,b39⟩))
   have HB39:Hd (AB w A q s t l ⟨ax,cx,ar,cr⟩ xm w39):=⟨HB38.out.carry b39⟩
   replace HAq16:=Hd.mk (HAq16.out.carry b39)
   replace HAq18:=Hd.mk (HAq18.out.carry b39)
   replace HTq20:=Hd.mk (HTq20.out.kept (Kept.of_below b39 (fun _=>False)) id)
   replace HTq21:=Hd.mk (HTq21.out.kept (Kept.of_below b39 (fun _=>False)) id)
   have HN39:Hd (q<q16∧q16<q18∧q18<q20∧q20<q21∧q21<w39.heap.size):=⟨by have:=HN38.out;have:=b39.size;omega⟩
   clear SA e0 e1 e2 e3 e4 h0 h1 h2 h3 h4 b39 HB38 HN38
   clear CDRO IV4 HTq20 HTq21
   have CA:=(CLAT.out w39 HB39.out).1
   go_wp2_with (refine wpl_loadSt rfl _ rfl q rfl _ HB39.out.m rfl ?_)
   go_at_call 19
   refine CA.mono ?_
   rintro e w40 ⟨⟨xa5,a17,c17,rfl,X,Y⟩,b40⟩
   clear CA
   have hz39:=b40.size
   have HQ39:Hd (q<q16∧q16<q18∧q18<q20∧q20<q21∧q21<w39.heap.size∧w39.heap.size≤w40.heap.size∧q<w39.heap.size):=⟨by have:=HN39.out;have:=HB39.out.m.lt;omega⟩
   have OB:=HAq16.out.box.kept (Kept.of_below b40 (fun _=>False)) id
   have HS39:=Hd.mk (And.intro b40 (And.intro X Y))
   clear b40 X Y hz39
   go_upto_region 23 with (refine wpl_storeSt rfl _ _ rfl q16 rfl (vwA y5 xa5) _ rfl OB rfl rfl (vw_one _ _) ?_;intro w41 n41 k41)
   have HB41:Hd (AB w A q s t l ⟨ax,cx,ar,cr⟩ xm w41):=⟨(HB39.out.carry HS39.out.1).put k41 (by have:=HQ39.out;omega)⟩
   have HAn:Hd (HA q w39.heap.size w40.heap.size w41 q16 y5 xa5):=⟨n41,HS39.out.2.1.put k41 (.inl (by have:=HQ39.out;omega))⟩
   have HTq16:Hd (TkS (Gp q w39.heap.size w40.heap.size) w41 a17 c17 K5):=⟨HS39.out.2.2.step (k41.mono (fun j _ e=>.inl (by have:=HQ39.out;omega))) (fun _ _ e=>e)⟩
   have HO18:Hd (∃ cs,Blk w41 q18 34 cs∧cs.size=23):=⟨⟨_,(HAq18.out.box.kept (Kept.of_below HS39.out.1 (fun _=>False)) id).kept k41 (by have:=HQ39.out;omega),rfl⟩⟩
   have HN41:Hd (q<q16∧q16<q18∧q18<q20∧q20<q21∧q21<w39.heap.size∧w39.heap.size≤w40.heap.size∧w40.heap.size≤w41.heap.size):=⟨by have:=HQ39.out;have:=k41.size;omega⟩
   replace HAq16:=HAn
   clear HAn HAq18 HQ39
   clear OB n41 k41 HS39 HB39 HN39
   obtain ⟨cs18,ob18,sz18⟩:=HO18.out
   have CA:=(CLAT.out w41 HB41.out).2
   go_wp2_with (refine wpl_loadSt rfl _ rfl A rfl _ HB41.out.a rfl ?_)
   go_at_call 20
   refine CA.mono ?_
   rintro e w42 ⟨⟨xb5,a19,c19,rfl,X,Y⟩,b42⟩
   clear CA
   have hz41:=b42.size
   have HQ41:Hd (q<q16∧q16<q18∧q18<q20∧q20<q21∧q21<w39.heap.size∧w39.heap.size≤w41.heap.size∧q<w41.heap.size):=⟨by have:=HN41.out;have:=HB41.out.m.lt;omega⟩
   have OB:=ob18.kept (Kept.of_below b42 (fun _=>False)) id
   have HS41:=Hd.mk (And.intro b42 (And.intro X Y))
   clear b42 X Y hz41
   go_upto_region 24 with (refine wpl_storeSt rfl _ _ rfl q18 rfl (vwA y5 xb5) _ rfl OB sz18 rfl (vw_one _ _) ?_;intro w43 n43 k43)
   have HB43:Hd (AB w A q s t l ⟨ax,cx,ar,cr⟩ xm w43):=⟨(HB41.out.carry HS41.out.1).put k43 (by have:=HQ41.out;omega)⟩
   have HAn:Hd (HA q w41.heap.size w42.heap.size w43 q18 y5 xb5):=⟨n43,HS41.out.2.1.put k43 (.inl (by have:=HQ41.out;omega))⟩
   have HTq18:Hd (TkS (Gp q w41.heap.size w42.heap.size) w43 a19 c19 K5):=⟨HS41.out.2.2.step (k43.mono (fun j _ e=>.inl (by have:=HQ41.out;omega))) (fun _ _ e=>e)⟩
   replace HAq16:=Hd.mk ((HAq16.out.carry HS41.out.1).put k43 (by have:=HQ41.out;omega) (.inl (by have:=HQ41.out;omega)))
   replace HTq16:=Hd.mk ((HTq16.out.step (Kept.of_below HS41.out.1 _) (fun _ _ e=>e)).step (k43.mono (fun j _ e=>.inl (by have:=HQ41.out;omega))) (fun _ _ e=>e))
   have HAq18:=HAn
   clear HAn HQ41 HO18 ob18 CLAT
   clear OB n43 k43 HS41 HB41 HN41
   have R0:Below w43.heap.size w43 w43.drew:=(Below.refl _ _).drew
   refine AnyG.start (T:=fun Y=>Below w43.heap.size w43 Y) (U:=fun _=>True) (j0:=100) (by kernel_rfl) ?_
   generalize w43.drew=v0 at *
   refine .tq (v:=.agg (vwA y5 xa5)) 0 161 R0 ?_ (hy:=fun w hSw=>by exact exec_loadSt _ rfl q16 rfl _ (HAq16.out.box.kept (Kept.of_below hSw (fun _=>False)) id) rfl);simp only [oqA,oqB,oqC]
   refine .tq (v:=.agg (vwA y5 xb5)) 1 162 R0 ?_ (hy:=fun w hSw=>by exact exec_loadSt _ rfl q18 rfl _ (HAq18.out.box.kept (Kept.of_below hSw (fun _=>False)) id) rfl);simp only [oqA,oqB,oqC]
   refine AnyG.ready (rs:=[2]) (by kernel_rfl) (by simp) ?_
   refine AllG.cons rfl (fun K hK=>?_) AllG.nil
   go_simp
   refine (same_vw (HAq16.out.vw.carry R0) (HAq18.out.vw.carry R0) IV5.out.1).mono ?_
   rintro e v1 ⟨rfl,b1⟩
   have R1:=R0.trans (b1.mono R0.size)
   refine hK.out _ _ ⟨R1,fun _=>trivial⟩ ?_
   clear hK K
   refine .tq (v:=.bool false) 3 164 R1 ?_ (hy:=fun w hSw=>by go_simp);simp only [oqA,oqB,oqC]
   refine .tq 4 165 R1 ?_;simp only [oqA,oqB,oqC]
   refine .tq 5 166 R1 ?_;simp only [oqA,oqB,oqC]
   refine .tq 6 167 R1 ?_;simp only [oqA,oqB,oqC]
   refine AnyG.ready (rs:=[7]) (by kernel_rfl) (by simp) ?_
   refine AllG.cons rfl (fun K hK=>?_) AllG.nil
   go_simp
   refine (same_ok a17 a19 c17 c19 K5 v1 (HTq16.out.read (Kept.of_below R1 _)).2.2 (HTq18.out.read (Kept.of_below R1 _)).2.2 (by have:=IV5.out.2;omega)).mono ?_
   rintro e v2 ⟨rfl,b2⟩
   have R2:=R1.trans (b2.mono R1.size)
   refine hK.out _ _ ⟨R2,fun _=>trivial⟩ ?_
   clear hK K
   refine .tq (v:=.bool false) 8 169 R2 ?_ (hy:=fun w hSw=>by go_simp);simp only [oqA,oqB,oqC]
   refine .tq (v:=.bool false) 9 170 R2 ?_ (hy:=fun w hSw=>by go_simp);simp only [oqA,oqB,oqC]
   refine .tq 10 171 R2 ?_;simp only [oqA,oqB,oqC]
   refine .tq (v:=.agg (vwA s xm)) 11 172 R2 ?_ (hy:=fun w hSw=>by exact exec_loadSt _ rfl q rfl _ (HB43.out.m.kept (Kept.of_below hSw (fun _=>False)) id) rfl);simp only [oqA,oqB,oqC]
   refine .tq (v:=.agg #[.string l.name,.int .i64 l.kind,.int .i64 l.shares,.int .i64 l.lend,.int .i64 l.borrow,.int .i64 l.queues,.int .i64 l.hand,.int .i64 l.length,.int .i64 l.wait,.int .i64 l.guess]) 12 173 R2 ?_ (hy:=fun w hSw=>by obtain ⟨c0,c1,c2,c3,c4,c5,c6,c7,c8,c9⟩:=(HB43.out.l.kept (Kept.of_below hSw (fun _=>False)) id).lv;go_simp);simp only [oqA,oqB,oqC]
   refine .tq 13 174 R2 ?_;simp only [oqA,oqB,oqC]
   refine .tq (v:=.int .i64 (now.tmod 2)) 14 175 R2 ?_ (hy:=fun w hSw=>by go_simp);simp only [oqA,oqB,oqC]
   refine .tq (v:=.bool b0) 15 176 R2 ?_ (hy:=fun w hSw=>by have s:=HB0.out;go_simp;try rw [s]);simp only [oqA,oqB,oqC]
   refine .tq (v:=.agg (stB s (.slice ax s.x.F.length cx) (.slice ar s.run.length cr))) 17 178 R2 ?_ (hy:=fun w hSw=>by exact exec_loadSt _ rfl A rfl _ (HB43.out.a.kept (Kept.of_below hSw (fun _=>False)) id) rfl);simp only [oqA,oqB,oqC]
   refine .tq (v:=.agg #[.string l.name,.int .i64 l.kind,.int .i64 l.shares,.int .i64 l.lend,.int .i64 l.borrow,.int .i64 l.queues,.int .i64 l.hand,.int .i64 l.length,.int .i64 l.wait,.int .i64 l.guess]) 18 179 R2 ?_ (hy:=fun w hSw=>by obtain ⟨c0,c1,c2,c3,c4,c5,c6,c7,c8,c9⟩:=(HB43.out.l.kept (Kept.of_below hSw (fun _=>False)) id).lv;go_simp);simp only [oqA,oqB,oqC]
   refine .tq 19 180 R2 ?_;simp only [oqA,oqB,oqC]
   refine .tq (v:=.int .i64 (now.tmod 2)) 20 181 R2 ?_ (hy:=fun w hSw=>by go_simp);simp only [oqA,oqB,oqC]
   refine .tq (v:=.bool b0) 21 182 R2 ?_ (hy:=fun w hSw=>by have s:=HB0.out;go_simp;try rw [s]);simp only [oqA,oqB,oqC]
   refine AnyG.ready (rs:=[16]) (by kernel_rfl) (by simp) ?_
   refine AllG.cons rfl (fun K hK=>?_) AllG.nil
   go_simp
   refine ((CTUR.out v2 (HB43.out.carry R2)).1).mono ?_
   rintro e v3 ⟨⟨xo1,rfl,X1⟩,b3⟩
   have R3:=R2.trans (b3.mono R2.size)
   refine hK.out _ _ ⟨R3,fun _=>trivial⟩ ?_
   clear hK K
   refine AnyG.ready (rs:=[22]) (by kernel_rfl) (by simp) ?_
   refine AllG.cons rfl (fun K hK=>?_) AllG.nil
   go_simp
   refine ((CTUR.out v3 (HB43.out.carry R3)).2).mono ?_
   rintro e v4 ⟨⟨xo2,rfl,X2⟩,b4⟩
   have R4:=R3.trans (b4.mono R3.size)
   refine hK.out _ _ ⟨R4,fun _=>trivial⟩ ?_
   clear hK K
   refine AnyG.ready (rs:=[23]) (by kernel_rfl) (by simp) ?_
   refine AllG.cons rfl (fun K hK=>?_) AllG.nil
   go_simp
   refine (same_vw (X1.carry b4) X2 IV6.out).mono ?_
   rintro e v5 ⟨rfl,b5⟩
   have R5:=R4.trans (b5.mono R4.size)
   refine hK.out _ _ ⟨R5,fun _=>trivial⟩ ?_
   clear hK K
   refine .tq (v:=.bool false) 24 185 R5 ?_ (hy:=fun w hSw=>by go_simp);simp only [oqA,oqB,oqC]
   refine .tq (v:=.bool false) 25 186 R5 ?_ (hy:=fun w hSw=>by go_simp);simp only [oqA,oqB,oqC]
   refine AnyG.done (by kernel_rfl) ?_ _
   have HB44:Hd (AB w A q s t l ⟨ax,cx,ar,cr⟩ xm v5):=⟨HB43.out.carry R5⟩
   clear R0 R1 R2 R3 R4 R5 b1 b2 b3 b4 b5 X1 X2 HAq16 HAq18 HTq16 HTq18 HB43 CTUR IV5 IV6
   generalize v5=w44 at *
   go_upto_region 26 with fail
   have HRN:Hd (s.run.length≤2000):=⟨by have:=HIV.out.run;omega⟩
   obtain ⟨⟨e0,e1,e2,e3,e4⟩,-⟩:=HB44.out.t.five
   have CA:=fits_ok s (.slice xm.a s.x.F.length xm.c) xm.b xm.d t.wid w44 (HB44.out.im.2.1.read (Kept.refl _ _)) HRN.out
   have CA:Calls Tryz.prog 23 #[.agg (vwA s xm),.int .i64 t.wid] w44 fun e w'=>e=.returned (.tuple #[.int .i64 (ftN s t.wid),.bool (ftB s t.wid)])∧Below w44.heap.size w44 w':=CA
   obtain ⟨fn,hfn⟩:∃ fn,fn=ftN s t.wid:=⟨_,rfl⟩
   obtain ⟨fb,hfb⟩:∃ fb,fb=ftB s t.wid:=⟨_,rfl⟩
   have HFN:=Hd.mk (And.intro hfn hfb)
   rw [←hfn,← hfb] at CA
   clear hfn hfb
   go_wp2_with (refine wpl_loadSt rfl _ rfl q rfl _ HB44.out.m rfl ?_)
   go_at_call 23
   refine CA.mono ?_
   rintro e w45 ⟨rfl,b45⟩
   clear CA e0 e1 e2 e3 e4
   have HB45:Hd (AB w A q s t l ⟨ax,cx,ar,cr⟩ xm w45):=⟨HB44.out.carry b45⟩
   clear HB44 b45
   obtain ⟨⟨e0,e1,e2,e3,e4⟩,-⟩:=HB45.out.t.five
   go_upto_region 27 with fail
   have CA:=rfits_ok s (.slice ax s.x.F.length cx) ar cr t.wid w45 (HB45.out.is.2.1.read (Kept.refl _ _)) HRN.out
   rw [←HFN.out.1,← HFN.out.2] at CA
   go_wp2_with (refine wpl_loadSt rfl _ rfl A rfl _ HB45.out.a rfl ?_)
   go_at_call 24
   refine CA.mono ?_
   rintro e w46 ⟨rfl,b46⟩
   clear CA e0 e1 e2 e3 e4
   have HB46:Hd (AB w A q s t l ⟨ax,cx,ar,cr⟩ xm w46):=⟨HB45.out.carry b46⟩
   clear HB45 b46
   go_upto_region 28 with fail
   have R0:Below w46.heap.size w46 w46.drew:=(Below.refl _ _).drew
   refine AnyG.start (T:=fun Y=>Below w46.heap.size w46 Y) (U:=fun _=>True) (j0:=100) (by kernel_rfl) ?_
   generalize w46.drew=v0 at *
   refine .tq 0 201 R0 ?_;simp only [oqA,oqB,oqC]
   refine .tq 1 202 R0 ?_;simp only [oqA,oqB,oqC]
   refine .tq (v:=.bool true) 2 203 R0 ?_ (hy:=fun w hSw=>by go_simp);simp only [oqA,oqB,oqC]
   refine .tq 3 204 R0 ?_;simp only [oqA,oqB,oqC]
   refine .tq 4 205 R0 ?_;simp only [oqA,oqB,oqC]
   refine .tq 5 206 R0 ?_;simp only [oqA,oqB,oqC]
   refine .tq (v:=.bool true) 6 207 R0 ?_ (hy:=fun w hSw=>by go_simp);simp only [oqA,oqB,oqC]
   refine .tq (v:=.bool true) 7 208 R0 ?_ (hy:=fun w hSw=>by go_simp);simp only [oqA,oqB,oqC]
   refine .tq 8 209 R0 ?_;simp only [oqA,oqB,oqC]
   refine .tq (v:=.agg (vwA s xm)) 9 210 R0 ?_ (hy:=fun w hSw=>by exact exec_loadSt _ rfl q rfl _ (HB46.out.m.kept (Kept.of_below hSw (fun _=>False)) id) rfl);simp only [oqA,oqB,oqC]
   refine .tq (v:=.agg (stB s (.slice ax s.x.F.length cx) (.slice ar s.run.length cr))) 11 212 R0 ?_ (hy:=fun w hSw=>by exact exec_loadSt _ rfl A rfl _ (HB46.out.a.kept (Kept.of_below hSw (fun _=>False)) id) rfl);simp only [oqA,oqB,oqC]
   refine AnyG.ready (rs:=[10]) (by kernel_rfl) (by simp) ?_
   refine AllG.cons rfl (fun K hK=>?_) AllG.nil
   go_simp
   refine (runs_ok s (.slice xm.a s.x.F.length xm.c) xm.b xm.d v0 ((HB46.out.carry R0).im.2.1.read (Kept.refl _ _)) HRN.out).mono ?_
   rintro e v1 ⟨rfl,b1⟩
   have R1:=R0.trans (b1.mono R0.size)
   refine hK.out _ _ ⟨R1,fun _=>trivial⟩ ?_
   clear hK K
   refine AnyG.ready (rs:=[12]) (by kernel_rfl) (by simp) ?_
   refine AllG.cons rfl (fun K hK=>?_) AllG.nil
   go_simp
   refine (rruns_ok s (.slice ax s.x.F.length cx) ar cr v1 ((HB46.out.carry R1).is.2.1.read (Kept.refl _ _)) HRN.out).mono ?_
   rintro e v2 ⟨rfl,b2⟩
   have R2:=R1.trans (b2.mono R1.size)
   refine hK.out _ _ ⟨R2,fun _=>trivial⟩ ?_
   clear hK K
   refine .tq (v:=.bool true) 13 214 R2 ?_ (hy:=fun w hSw=>by go_simp);simp only [oqA,oqB,oqC]
   refine .tq (v:=.bool true) 14 215 R2 ?_ (hy:=fun w hSw=>by go_simp);simp only [oqA,oqB,oqC]
   refine .tq 15 216 R2 ?_;simp only [oqA,oqB,oqC]
   refine .tq (v:=.agg (vwA s xm)) 16 217 R2 ?_ (hy:=fun w hSw=>by exact exec_loadSt _ rfl q rfl _ (HB46.out.m.kept (Kept.of_below hSw (fun _=>False)) id) rfl);simp only [oqA,oqB,oqC]
   refine .tq (v:=.agg (stB s (.slice ax s.x.F.length cx) (.slice ar s.run.length cr))) 18 219 R2 ?_ (hy:=fun w hSw=>by exact exec_loadSt _ rfl A rfl _ (HB46.out.a.kept (Kept.of_below hSw (fun _=>False)) id) rfl);simp only [oqA,oqB,oqC]
   refine AnyG.ready (rs:=[17]) (by kernel_rfl) (by simp) ?_
   refine AllG.cons rfl (fun K hK=>?_) AllG.nil
   go_simp
   refine (wants_ok s xm.a xm.c xm.b xm.d v2 ((HB46.out.carry R2).im.1.read (Kept.refl _ _)) HIV.out.few ((HB46.out.carry R2).im.2.1.read (Kept.refl _ _)) HRN.out).mono ?_
   rintro e v3 ⟨rfl,b3⟩
   have R3:=R2.trans (b3.mono R2.size)
   refine hK.out _ _ ⟨R3,fun _=>trivial⟩ ?_
   clear hK K
   refine AnyG.ready (rs:=[19]) (by kernel_rfl) (by simp) ?_
   refine AllG.cons rfl (fun K hK=>?_) AllG.nil
   go_simp
   refine (rwants_ok s ax cx ar cr v3 ((HB46.out.carry R3).is.1.read (Kept.refl _ _)) HIV.out.few ((HB46.out.carry R3).is.2.1.read (Kept.refl _ _)) HRN.out).mono ?_
   rintro e v4 ⟨rfl,b4⟩
   have R4:=R3.trans (b4.mono R3.size)
   refine hK.out _ _ ⟨R4,fun _=>trivial⟩ ?_
   clear hK K
   refine .tq (v:=.bool true) 20 221 R4 ?_ (hy:=fun w hSw=>by go_simp);simp only [oqA,oqB,oqC]
   refine .tq (v:=.bool true) 21 222 R4 ?_ (hy:=fun w hSw=>by go_simp);simp only [oqA,oqB,oqC]
   refine .tq 22 223 R4 ?_;simp only [oqA,oqB,oqC]
   refine .tq (v:=.agg (vwA s xm)) 23 224 R4 ?_ (hy:=fun w hSw=>by exact exec_loadSt _ rfl q rfl _ (HB46.out.m.kept (Kept.of_below hSw (fun _=>False)) id) rfl);simp only [oqA,oqB,oqC]
   refine .tq (v:=.agg (stB s (.slice ax s.x.F.length cx) (.slice ar s.run.length cr))) 25 226 R4 ?_ (hy:=fun w hSw=>by exact exec_loadSt _ rfl A rfl _ (HB46.out.a.kept (Kept.of_below hSw (fun _=>False)) id) rfl);simp only [oqA,oqB,oqC]
   refine AnyG.ready (rs:=[24]) (by kernel_rfl) (by simp) ?_
   refine AllG.cons rfl (fun K hK=>?_) AllG.nil
   go_simp
   refine (empty_ok s xm.a xm.c xm.b xm.d v4 ((HB46.out.carry R4).im.1.read (Kept.refl _ _)) HIV.out.few HRN.out).mono ?_
   rintro e v5 ⟨rfl,b5⟩
   have R5:=R4.trans (b5.mono R4.size)
   refine hK.out _ _ ⟨R5,fun _=>trivial⟩ ?_
   clear hK K
   refine AnyG.ready (rs:=[26]) (by kernel_rfl) (by simp) ?_
   refine AllG.cons rfl (fun K hK=>?_) AllG.nil
   go_simp
   refine (rempty_ok s ax cx ar cr v5 ((HB46.out.carry R5).is.1.read (Kept.refl _ _)) HIV.out.few HRN.out).mono ?_
   rintro e v6 ⟨rfl,b6⟩
   have R6:=R5.trans (b6.mono R5.size)
   refine hK.out _ _ ⟨R6,fun _=>trivial⟩ ?_
   clear hK K
   refine .tq (v:=.bool true) 27 228 R6 ?_ (hy:=fun w hSw=>by go_simp);simp only [oqA,oqB,oqC]
   refine .tq (v:=.bool true) 28 229 R6 ?_ (hy:=fun w hSw=>by go_simp);simp only [oqA,oqB,oqC]
   refine .tq 29 230 R6 ?_;simp only [oqA,oqB,oqC]
   refine .tq (v:=.agg (vwA s xm)) 30 231 R6 ?_ (hy:=fun w hSw=>by exact exec_loadSt _ rfl q rfl _ (HB46.out.m.kept (Kept.of_below hSw (fun _=>False)) id) rfl);simp only [oqA,oqB,oqC]
   refine .tq (v:=.agg (stB s (.slice ax s.x.F.length cx) (.slice ar s.run.length cr))) 31 232 R6 ?_ (hy:=fun w hSw=>by exact exec_loadSt _ rfl A rfl _ (HB46.out.a.kept (Kept.of_below hSw (fun _=>False)) id) rfl);simp only [oqA,oqB,oqC]
   refine AnyG.ready (rs:=[32]) (by kernel_rfl) (by simp) ?_
   refine AllG.cons rfl (fun K hK=>?_) AllG.nil
   go_simp
   refine (same_vw (x:=xm) (x':=⟨ax,cx,ar,cr⟩) (HB46.out.carry R6).vm (HB46.out.carry R6).vs (HIV.out.more (by omega))).mono ?_
   rintro e v7 ⟨rfl,b7⟩
   have R7:=R6.trans (b7.mono R6.size)
   refine hK.out _ _ ⟨R7,fun _=>trivial⟩ ?_
   clear hK K
   refine .tq (v:=.bool true) 33 234 R7 ?_ (hy:=fun w hSw=>by go_simp);simp only [oqA,oqB,oqC]
   refine .tq (v:=.bool true) 34 10 R7 ?_ (hy:=fun w hSw=>by go_simp);simp only [oqA,oqB,oqC]
   refine AnyG.done (by kernel_rfl) ?_ _
   have HZ:=Hd.mk (HB46.out.carry R7).bel
   clear R0 R1 R2 R3 R4 R5 R6 R7 b1 b2 b3 b4 b5 b6 b7 HB46
   go_wp2_with fail
   go_ret
   exact ⟨rfl,by rw [←HAA.out];exact HZ.out⟩
  ·have hnh':(100:Int)<(nh:Int):=by omega
   go_wp2
   go_ret
   exact ⟨rfl,H3.out.1⟩
end Go.Proofs.YtlgibnmoogbdcaaGreat
