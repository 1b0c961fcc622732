/-
  A step of a level, by the program, whichever it is; a first look at a program.
  What holds behind a step of a level.
-/
import Derived.Test.YtlgibnmoogbdcaaR43
import Derived.Test.YtlgibnmoogbdcaaR34
import Derived.Test.YtlgibnmoogbdcaaR23
namespace Go.Proofs.Ytlgibnmoogbdcaa
open Go.RowKit
theorem step_ok (s:St) (o:Od) (ax:Option Addr) (cx:Nat) (ar:Option Addr) (cr:Nat) (ah:Option Addr) (nh ch:Nat) (H0:Nat→Int) (w:World) (S:Nat→Prop) (hx:StR S w ax cx s.x.F) (hr:TkS S w ar cr s.run) (hS:∀ j,S j→j<w.heap.size) (hf:Few s.x.F) (hl:(allT s).length≤1800) (hh:HnR w ah nh H0) (hc:nh≤ch) :
  Calls Try.prog 10 #[.agg (stB s (.slice ax s.x.F.length cx) (.slice ar s.run.length cr)),.agg (opQ o ah nh ch)] w fun e w'=>StA S w' (stX s o (chF s.x.F s.x.o H0 (min nh 20))) e∧Below w.heap.size w w':=by
 have R:=kO_rng o
 unfold stX
 by_cases h0:kO o<2
 ·rw [if_pos h0]
  rcases (show kO o=0∨kO o=1 by omega) with h | h
  ·exact step_arrive0 s o ax cx ar cr ah nh ch H0 w S hx hr hS hf hl hh hc h
  ·exact step_arrive1 s o ax cx ar cr ah nh ch H0 w S hx hr hS hf hl hh hc h
 ·rw [if_neg h0]
  by_cases h2:kO o=2
  ·rw [if_pos h2]
   exact step_dispatch s o ax cx ar cr ah nh ch w S hx hr hS hf hl hc h2
  ·rw [if_neg h2]
   by_cases h3:kO o=3
   ·rw [if_pos h3]
    cases hok:dnO s o.n with
    | true =>
     rw [if_pos rfl]
     exact step_done_yes s o ax cx ar cr ah nh ch w S hx hr hS hf hl hc hok h3
    | false =>
     rw [if_neg (by decide)]
     exact step_done_no s o ax cx ar cr ah nh ch w S hx hr hS hf hl hc hok h3
   ·rw [if_neg h3]
    by_cases h4:kO o=4
    ·rw [if_pos h4]
     cases hok:dpO s.x o.n with
     | true =>
      rw [if_pos rfl]
      exact step_drop_yes s o ax cx ar cr ah nh ch w S hx hr hS hf hl hc hok h4
     | false =>
      rw [if_neg (by decide)]
      exact step_drop_no s o ax cx ar cr ah nh ch w S hx hr hS hf hl hc hok h4
    ·rw [if_neg h4]
     by_cases h5:kO o=5
     ·rw [if_pos h5]
      exact step_late s o ax cx ar cr ah nh ch w S hx hr hS hf hl hc h5
     ·rw [if_neg h5]
      by_cases h6:kO o=6
      ·rw [if_pos h6]
       exact step_limit s o ax cx ar cr ah nh ch w S hx hr hS hl hc h6
      ·rw [if_neg h6]
       exact step_turn s o ax cx ar cr ah nh ch w S hx hr hS hf hl hc (show kO o=7 by omega)
def l0:Lv:=⟨⟨#[]⟩,3,0,0,0,1,0,5,0,1⟩
def k0:Tk:=⟨7,5,0,0,0⟩
def p1:St:={ opS l0 with lim:=3 }
def c1:Int:=chF p1.x.F p1.x.o (fun _=>0) 1
def p2:St:=arX p1 k0 c1
theorem p1_few:Few p1.x.F:=(IvL.start l0).few
theorem c1_is:c1=-1∨Vld p1.x.F p1.x.o c1:=(chF_is p1.x.F p1.x.o _ 1).rng
theorem p2_e:arE p1 k0 c1=0:=by decide
theorem p2_iv:IvL 1 p2:=((IvL.start l0).lim 3).arrive (by decide) p2_e c1_is
theorem p3_a:(dsA p2).2.length=1:=by decide
theorem p3_b:(gt (dsA p2).2 0).sts=3:=by decide
theorem p3_c:(dsA p2).1.run.length=1:=by decide
theorem hn_one {w:World} {q:Nat} (h:Blk w q 3 #[.int .i64 0]):HnR w (some ⟨q,0,none⟩) 1 (fun _=>0):=fun _=>⟨q,0,rfl,h.lt,fun k hk=>by
 obtain rfl:k=0:=by omega
 exact h.cellv 0 rfl⟩
set_option maxRecDepth 20000 in
set_option maxHeartbeats 2000000 in
theorem awake_ok (w:World):Calls Try.prog 6 #[] w fun e w'=>e=.returned (.bool true)∧Below w.heap.size w w':=by
 have OP:=open_st l0 w (fun _=>False) (fun _ h=>h.elim)
 unfold l0 at OP
 simp only at OP
 have HOP:Hd (opS ⟨⟨#[]⟩,3,0,0,0,1,0,5,0,1⟩=opS l0):=⟨rfl⟩
 rw [HOP.out] at OP
 have HPO:Hd (p1={ opS l0 with lim:=3 }):=⟨rfl⟩
 generalize opS l0=p0 at *
 go_enter Try.func6,Try.ntmps6
 go_wp2_with fail
 go_at_call 7
 refine OP.mono ?_
 rintro e w1 ⟨⟨v1,rfl,v1e⟩,b1⟩
 obtain ⟨a1,d1,ar1,dr1,rfl,s1,t1⟩:=v1e
 obtain ⟨n1,hn1⟩:∃ n1,n1=p0.x.F.length:=⟨_,rfl⟩
 obtain ⟨m1,hm1⟩:∃ m1,m1=p0.run.length:=⟨_,rfl⟩
 have HL:=Hd.mk (And.intro hn1 hm1)
 rw [←hn1,← hm1]
 clear hn1 hm1 OP HOP
 obtain ⟨w2,hw2⟩:∃ w2,w2=w1.alloc (.cells zsT 36):=⟨_,rfl⟩
 have P2:Blk w2 w1.heap.size 36 (stB sZ (.slice none 0 0) (.slice none 0 0)):=by rw [hw2];exact Blk.new _ _ _
 have B2:Below w1.heap.size w1 w2:=by rw [hw2];exact alloc_below _ _
 have HB:=Hd.mk (And.intro b1 (And.intro B2 (And.intro s1 t1)))
 clear b1 B2 s1 t1
 go_upto_region 2 with (rw [←hw2];refine wpl_storeSt rfl _ _ rfl w1.heap.size rfl (stB p0 (.slice a1 n1 d1) (.slice ar1 m1 dr1)) _ rfl P2 rfl rfl (st_one _ _ _ _ _ _ _) ?_;intro w3 n3 k3)
 clear hw2 P2
 obtain ⟨g,hg⟩:∃ g,g=w1.heap.size:=⟨_,rfl⟩
 have HG:=Hd.mk hg
 rw [←hg] at n3 k3 ⊢
 clear hg
 have c11:w3.cell? ⟨g,11,none⟩=some (.int .i64 p0.lim):=n3.cellv 11 rfl
 have f11:=n3.frozen 11
 obtain ⟨Q4,K4⟩:=st_lim n3 3
 have Q4:Blk (w3.setCell ⟨g,11,none⟩ (.int .i64 3)) g 36 (stB p1 (.slice a1 n1 d1) (.slice ar1 m1 dr1)):=by rw [HPO.out];exact Q4
 have H4:Hd (Kept (fun j=>j=g) w2 (w3.setCell ⟨g,11,none⟩ (.int .i64 3))∧Blk (w3.setCell ⟨g,11,none⟩ (.int .i64 3)) g 36 (stB p1 (.slice a1 n1 d1) (.slice ar1 m1 dr1))):=⟨k3.trans K4,Q4⟩
 clear n3 k3 Q4 K4
 go_upto_region 3 with fail
 clear c11 f11
 generalize w3.setCell ⟨g,11,none⟩ (.int .i64 3)=w4 at *
 obtain ⟨w5,hw5⟩:∃ w5,w5=w4.alloc (.cells #[.int .i64 0] 3):=⟨_,rfl⟩
 have N5:Blk w5 w4.heap.size 3 #[.int .i64 0]:=by rw [hw5];exact Blk.new _ _ _
 have B5:Below w4.heap.size w4 w5:=by rw [hw5];exact alloc_below _ _
 have h12:=HB.out
 have kA:Kept (fun j=>g≤j) w1 w5:=((Kept.of_below h12.2.1 _).trans (H4.out.1.mono (fun j _ e=>by omega))).trans (Kept.of_below B5 _)
 have s5:StR (fun j=>j=g) w5 a1 d1 p1.x.F:=by
  rw [HPO.out]
  exact (h12.2.2.1.stp (Kept.of_below h12.2.1 _) (T:=fun j=>j=g) (fun j hj e=>by have:=HG.out;omega)).stp (H4.out.1.trans (Kept.of_below B5 _)) (fun _ _ e=>e)
 have t5:TkS (fun j=>j=g) w5 ar1 dr1 p1.run:=by
  rw [HPO.out]
  exact (h12.2.2.2.step (Kept.of_below h12.2.1 _) (T:=fun j=>j=g) (fun j hj e=>by have:=HG.out;omega)).step (H4.out.1.trans (Kept.of_below B5 _)) (fun _ _ e=>e)
 have P5:=H4.out.2.kept (Kept.of_below B5 (fun _=>False)) id
 have en:n1=p1.x.F.length:=by rw [HPO.out];exact HL.out.1
 have em:m1=p1.run.length:=by rw [HPO.out];exact HL.out.2
 have AR:Calls Try.prog 19 #[.agg (stB p1 (.slice a1 n1 d1) (.slice ar1 m1 dr1)),.agg #[.int .i64 7,.int .i64 5,.int .i64 0,.int .i64 0,.int .i64 0],.slice (some ⟨w4.heap.size,0,none⟩) 1 1] w5 fun e w'=>(∃ v,e=.returned (.tuple #[v,.int .i64 0])∧StV (fun j=>j=g) w' p2 v)∧Below w5.heap.size w5 w':=by
  have A:=arrive_st p1 k0 a1 d1 ar1 dr1 (some ⟨w4.heap.size,0,none⟩) 1 1 w5 (fun j=>j=g) (fun _=>0) s5 (t5.read (Kept.refl _ _)) (show p1.run.length≤1990 by decide) (fun j e=>by rw [e];exact P5.lt) p1_few (hn_one N5) (by decide)
  have e1:arE p1 k0 (chF p1.x.F p1.x.o (fun _=>0) 1)=0:=p2_e
  rw [e1] at A
  rw [en,em]
  exact A
 have H5:=Hd.mk (And.intro P5 (And.intro kA (And.intro h12.1 (show w1.heap.size≤g by have:=HG.out;omega))))
 clear kA s5 t5 P5 N5 B5 h12 en em
 go_wp2_with (refine wpl_loadSt rfl _ rfl g rfl _ H4.out.2 rfl ?_)
 rw [←hw5]
 clear hw5
 go_at_call 19
 refine AR.mono ?_
 rintro e w6 ⟨⟨v6,rfl,v6e⟩,b6⟩
 clear AR
 obtain ⟨a6,d6,ar6,dr6,rfl,s6,t6⟩:=v6e
 obtain ⟨n6,hn6⟩:∃ n6,n6=p2.x.F.length:=⟨_,rfl⟩
 obtain ⟨m6,hm6⟩:∃ m6,m6=p2.run.length:=⟨_,rfl⟩
 have HL6:=Hd.mk (And.intro hn6 hm6)
 rw [←hn6,← hm6]
 clear hn6 hm6
 have P6:=H5.out.1.kept (Kept.of_below b6 (fun _=>False)) id
 have H6:=Hd.mk (And.intro b6 (And.intro s6 t6))
 clear b6 s6 t6
 go_upto_region 4 with (refine wpl_storeSt rfl _ _ rfl g rfl (stB p2 (.slice a6 n6 d6) (.slice ar6 m6 dr6)) _ rfl P6 rfl rfl (st_one _ _ _ _ _ _ _) ?_;intro w7 n7 k7)
 have DS:=dispatch_st p2 a6 d6 ar6 dr6 w7 (fun j=>j=g) (H6.out.2.1.stp k7 (fun _ _ e=>e)) ((H6.out.2.2.step k7 (T:=fun j=>j=g) (fun _ _ e=>e)).read (Kept.refl _ _)) (fun j e=>by rw [e];exact n7.lt) p2_iv.few (Nat.le_trans p2_iv.cnt (by decide))
 rw [←HL6.out.1,← HL6.out.2,p3_a] at DS
 have H7:=Hd.mk (And.intro n7 (And.intro k7 H6.out.1))
 clear n7 k7 P6 H6
 go_wp2_with (refine wpl_loadSt rfl _ rfl g rfl _ H7.out.1 rfl ?_)
 go_at_call 20
 refine DS.mono ?_
 rintro e w8 ⟨⟨v8,u8,rfl,v8e,a9,c9,rfl,t9⟩,b8⟩
 clear DS
 obtain ⟨a8,d8,ar8,dr8,rfl,s8,t8⟩:=v8e
 rw [p3_c]
 obtain ⟨n8,hn8⟩:∃ n8,n8=(dsA p2).1.x.F.length:=⟨_,rfl⟩
 rw [←hn8]
 clear hn8 s8 t8
 have P8:=H7.out.1.kept (Kept.of_below b8 (fun _=>False)) id
 have H8:=Hd.mk (And.intro b8 t9)
 clear b8 t9
 go_upto_region 7 with (refine wpl_storeSt rfl _ _ rfl g rfl (stB (dsA p2).1 (.slice a8 n8 d8) (.slice ar8 1 dr8)) _ rfl P8 rfl rfl (st_one _ _ _ _ _ _ _) ?_;intro w10 n10 k10)
 obtain ⟨b,off,rfl,-,-,-,x2,-,-⟩:=(H8.out.2.read k10).2.2.at (k:=0) (by rw [p3_a];decide)
 rw [p3_b] at x2
 have c22:=n10.str.1
 have HE:Hd (Below w.heap.size w w10):=⟨by
  have h5:=H5.out
  have h7:=H7.out
  have h8:=H8.out
  have z1:=h5.2.1.size
  have z2:=h7.2.2.size
  have z3:=h7.2.1.size
  have z4:=h8.1.size
  have z0:=h5.2.2.1.size
  exact ((((h5.2.2.1.trans (h5.2.1.below z0 (fun j e=>by omega))).trans (h7.2.2.mono (by omega))).trans (h7.2.1.below (by omega) (fun j e=>by omega))).trans (h8.1.mono (by omega))).trans (k10.below (by omega) (fun j e=>by omega))⟩
 clear P8 n10 k10
 simp only [Nat.zero_mul,Nat.add_zero] at x2
 go_wp2
 go_ret
 exact ⟨rfl,HE.out⟩
end Go.Proofs.Ytlgibnmoogbdcaa

namespace Go.Proofs.Ytlgibnmoogbdcaa
theorem dnO_yes {s:St} {d:Int} (h:dnO s d=true):fnd d s.run<s.run.length:=of_decide_eq_true h
theorem dpO_yes {x:Fa} {d:Int} (h:dpO x d=true):dpK x.F d<x.F.length:=of_decide_eq_true h
theorem stX_iv {k:Nat} {s:St} (h:IvL k s) (hk:k≤900) (o:Od) {c:Int} (hc:c=-1∨Vld s.x.F s.x.o c):IvL (k+1) (stX s o c).1:=by
 have m:=h.more (Nat.le_succ k)
 unfold stX
 split
 ·split
  ·rename_i e
   exact h.arrive hk e hc
  ·exact m
 ·split
  ·exact m.dispatch
  ·split
   ·split
    ·rename_i e
     exact m.done (dnO_yes e)
    ·exact m
   ·split
    ·split
     ·rename_i e
      exact m.drop (dpO_yes e)
     ·exact m
    ·split
     ·exact m.late _
     ·split
      ·exact m.lim _
      ·exact m.turn _ _
end Go.Proofs.Ytlgibnmoogbdcaa
