/-
  'SameRules' of the reference,whatever the rules are.
-/
import Derived.Test.YthkdbphgiobcdaaGreatDoorE44
import Derived.Test.YthkdbphgiobcdaaGreatDoorE8
namespace Go.Proofs.YthkdbphgiobcdaaGreatDoor
open Go.RowKit
def Drw (w W:World):Prop:=∃ n,W=w.drewN n
theorem Drw.cell {w W:World} (h:Drw w W) {p:Addr} {v:Value} (hc:w.cell? p=some v):W.cell? p=some v:=by
 obtain ⟨n,rfl⟩:=h
 exact hc
theorem lsr_drw {w W:World} (hd:Drw w W) {v v':Value} {L M:List ByteArray} (h:LsR w v L) (h':LsR w v' M) :
  Calls Tryz.prog 74 #[v,v'] W fun e w'=>e=.returned (.bool (decide (L=M)))∧Drw w w':=by
 obtain ⟨n,rfl⟩:=hd
 have:=lsr_dec h h' n 0
 refine (show Calls Tryz.prog 74 #[v,v'] (w.drewN n) _ from this).mono ?_
 rintro e w' ⟨rfl,k,rfl⟩
 exact ⟨rfl,n+0+k,by rw [World.drewN_drewN,World.drewN_drewN,Nat.add_assoc]⟩
set_option maxRecDepth 20000 in
set_option maxHeartbeats 32000000 in
theorem samer_dec {w:World} {v v':Value} {rs ss:List Rl} (h:RlR w v rs) (h':RlR w v' ss) :
  Calls Tryz.prog 36 #[v,v'] w fun e w'=>e=.returned (.bool (@decide (rs=ss) (Classical.propDecidable _)))∧Drw w w':=by
 obtain ⟨a,c,rfl,hm,R⟩:=h
 obtain ⟨a',c',rfl,hm',R'⟩:=h'
 by_cases hl:rs.length=ss.length
 ·obtain ⟨n,hn⟩:∃ n,n=rs.length:=⟨_,rfl⟩
  have hn':n=ss.length:=by rw [hn];exact hl
  have HE:Hd ((∀ j (h:j<rs.length) (h':j<ss.length),rs[j]=ss[j])→@decide (rs=ss) (Classical.propDecidable _)=true):=⟨fun h=>@decide_eq_true _ (Classical.propDecidable _) (List.ext_getElem hl h)⟩
  have HNE:Hd (∀ j (h:j<rs.length) (h':j<ss.length),rs[j]≠ss[j]→@decide (rs=ss) (Classical.propDecidable _)=false):=⟨fun j h h' hne=>@decide_eq_false _ (Classical.propDecidable _) (fun e=>hne (by subst e;rfl))⟩
  rw [←hn] at hm ⊢
  rw [←hn'] at hm' ⊢
  have hn9:n≤9223372036854775807:=hm
  have HN:Hd (n=rs.length∧n=ss.length):=⟨hn,hn'⟩
  have HR:Hd _:=⟨R⟩
  have HR':Hd _:=⟨R'⟩
  clear R R' hn hm hn' hm' hl
  generalize @decide (rs=ss) (Classical.propDecidable _)=bb at *
  go_enter Tryz.func36,Tryz.ntmps36
  go_wp2_with fail
  go_loopw [5] (fun i wr=>∃ k:Nat,k≤n∧i=.int .i64 k∧Hd (Drw w wr∧∀ j (h:j<rs.length) (h':j<ss.length),j<k→rs[j]=ss[j])) (fun i _=>n - (intOf i).toNat)
  case atStart=>exact ⟨0,Nat.zero_le _,rfl,⟨⟨0,rfl⟩,fun j _ _ h=>absurd h (Nat.not_lt_zero _)⟩⟩
  case round =>
   obtain ⟨k,hk,rfl,hq⟩:=hrel
   by_cases hlt:k<n
   ·have hkr:k<rs.length:=by rw [←HN.out.1];exact hlt
    have hks:k<ss.length:=by rw [←HN.out.2];exact hlt
    obtain ⟨g,o1,rfl,hg,C⟩:=HR.out (by omega)
    obtain ⟨g',o2,rfl,hg',C'⟩:=HR'.out (by omega)
    obtain ⟨v0,v1,v2,v3,v4,⟨x0,x1,x2,x3,x4⟩,l0,l1,l2,l3,l4⟩:=C k hkr
    obtain ⟨z0,z1,z2,z3,z4,⟨y0,y1,y2,y3,y4⟩,m0,m1,m2,m3,m4⟩:=C' k hks
    have K:Hd (∀ W,Drw w W→(Calls Tryz.prog 74 #[v0,z0] W fun e w'=>e=.returned (.bool (decide (rs[k].users=ss[k].users)))∧Drw w w')∧(Calls Tryz.prog 74 #[v1,z1] W fun e w'=>e=.returned (.bool (decide (rs[k].groups=ss[k].groups)))∧Drw w w')∧(Calls Tryz.prog 74 #[v2,z2] W fun e w'=>e=.returned (.bool (decide (rs[k].verbs=ss[k].verbs)))∧Drw w w')∧(Calls Tryz.prog 74 #[v3,z3] W fun e w'=>e=.returned (.bool (decide (rs[k].resources=ss[k].resources)))∧Drw w w')∧(Calls Tryz.prog 74 #[v4,z4] W fun e w'=>e=.returned (.bool (decide (rs[k].spaces=ss[k].spaces)))∧Drw w w')) :=
     ⟨fun W d=>⟨lsr_drw d l0 m0,lsr_drw d l1 m1,lsr_drw d l2 m2,lsr_drw d l3 m3,lsr_drw d l4 m4⟩⟩
    have HEq:Hd (rs[k].users=ss[k].users→rs[k].groups=ss[k].groups→rs[k].verbs=ss[k].verbs→rs[k].resources=ss[k].resources→rs[k].spaces=ss[k].spaces→∀ j (h:j<rs.length) (h':j<ss.length),j<k+1→rs[j]=ss[j]):=⟨fun e0 e1 e2 e3 e4 j h1 h2 hj=>by
     rcases Nat.lt_or_eq_of_le (Nat.le_of_lt_succ hj) with h | h
     ·exact hq.out.2 j h1 h2 h
     ·subst h
      generalize rs[j]=p at *
      generalize ss[j]=q at *
      obtain ⟨_,_,_,_,_⟩:=p
      obtain ⟨_,_,_,_,_⟩:=q
      simp only at e0 e1 e2 e3 e4
      subst e0 e1 e2 e3 e4
      rfl⟩
    have HNo:Hd (rs[k].users≠ss[k].users∨rs[k].groups≠ss[k].groups∨rs[k].verbs≠ss[k].verbs∨rs[k].resources≠ss[k].resources∨rs[k].spaces≠ss[k].spaces→bb=false):=⟨fun h=>HNE.out k hkr hks (fun e=>by rw [e] at h;simp at h)⟩
    obtain ⟨q0,t0,f0⟩:=lsr_shape l0
    obtain ⟨q1,t1,f1⟩:=lsr_shape l1
    obtain ⟨q2,t2,f2⟩:=lsr_shape l2
    obtain ⟨q3,t3,f3⟩:=lsr_shape l3
    obtain ⟨q4,t4,f4⟩:=lsr_shape l4
    obtain ⟨q5,t5,f5⟩:=lsr_shape m0
    obtain ⟨q6,t6,f6⟩:=lsr_shape m1
    obtain ⟨q7,t7,f7⟩:=lsr_shape m2
    obtain ⟨q8,t8,f8⟩:=lsr_shape m3
    obtain ⟨q9,t9,f9⟩:=lsr_shape m4
    have HK:Hd (k<n):=⟨hlt⟩
    have DW:=hq.out.1
    clear C C' l0 l1 l2 l3 l4 m0 m1 m2 m3 m4 hq
    generalize rs[k]=ra at *
    generalize ss[k]=sa at *
    generalize hj0:ra.users.length=j0 at f0
    generalize hj1:ra.groups.length=j1 at f1
    generalize hj2:ra.verbs.length=j2 at f2
    generalize hj3:ra.resources.length=j3 at f3
    generalize hj4:ra.spaces.length=j4 at f4
    generalize hj5:sa.users.length=j5 at f5
    generalize hj6:sa.groups.length=j6 at f6
    generalize hj7:sa.verbs.length=j7 at f7
    generalize hj8:sa.resources.length=j8 at f8
    generalize hj9:sa.spaces.length=j9 at f9
    subst f0 f1 f2 f3 f4 f5 f6 f7 f8 f9
    clear hj0 hj1 hj2 hj3 hj4 hj5 hj6 hj7 hj8 hj9 hkr hks
    have i1:(k:Int)<(n:Int):=by omega
    go_upto_region 6 with fail
    have T0:Drw w wr.drew:=by obtain ⟨q,hq⟩:=DW;exact ⟨q+1,by rw [hq];rfl⟩
    refine AnyG.start (T:=Drw w) (U:=fun _=>True) (j0:=100) (by kernel_rfl) ?_
    clear DW
    generalize wr.drew=w0 at *
    refine .tq 0 17 T0 ?_;simp only [tkA,tkB,tkC]
    refine .tq 1 18 T0 ?_;simp only [tkA,tkB,tkC]
    refine .tq 2 19 T0 ?_;simp only [tkA,tkB,tkC]
    refine .tq 3 20 T0 ?_;simp only [tkA,tkB,tkC]
    refine .tq 4 21 T0 ?_ (hy:=fun w hSw=>by have s4:=hSw.cell x0;go_simp;rfl);simp only [tkA,tkB,tkC]
    refine .tq 5 22 T0 ?_;simp only [tkA,tkB,tkC]
    refine .tq 6 23 T0 ?_;simp only [tkA,tkB,tkC]
    refine .tq 7 24 T0 ?_;simp only [tkA,tkB,tkC]
    refine .tq 8 25 T0 ?_;simp only [tkA,tkB,tkC]
    refine .tq 9 26 T0 ?_ (hy:=fun w hSw=>by have s4:=hSw.cell y0;go_simp;rfl);simp only [tkA,tkB,tkC]
    refine AnyG.ready (rs:=[10]) (by kernel_rfl) (by simp) ?_
    refine AllG.cons rfl (fun K1 hK=>?_) AllG.nil
    go_simp
    refine ((K.out _ T0).1).mono ?_
    rintro e wk1 ⟨rfl,Tk1⟩
    refine hK.out _ _ ⟨Tk1,fun _=>trivial⟩ ?_
    clear hK K1 T0
    by_cases e0:ra.users=sa.users
    ·have H0:Hd (ra.users=sa.users):=⟨e0⟩
     rw [decide_eq_true e0]
     clear e0
     refine .tq 11 28 Tk1 ?_;simp only [tkA,tkB,tkC]
     refine .tq 12 29 Tk1 ?_;simp only [tkA,tkB,tkC]
     refine .tq 13 30 Tk1 ?_;simp only [tkA,tkB,tkC]
     refine .tq 14 31 Tk1 ?_;simp only [tkA,tkB,tkC]
     refine .tq 15 32 Tk1 ?_;simp only [tkA,tkB,tkC]
     refine .tq 16 33 Tk1 ?_;simp only [tkA,tkB,tkC]
     refine .tq 17 34 Tk1 ?_ (hy:=fun w hSw=>by have s4:=hSw.cell x1;go_simp;rfl);simp only [tkA,tkB,tkC]
     refine .tq 18 35 Tk1 ?_;simp only [tkA,tkB,tkC]
     refine .tq 19 36 Tk1 ?_;simp only [tkA,tkB,tkC]
     refine .tq 20 37 Tk1 ?_;simp only [tkA,tkB,tkC]
     refine .tq 21 38 Tk1 ?_;simp only [tkA,tkB,tkC]
     refine .tq 22 39 Tk1 ?_ (hy:=fun w hSw=>by have s4:=hSw.cell y1;go_simp;rfl);simp only [tkA,tkB,tkC]
     refine AnyG.ready (rs:=[23]) (by kernel_rfl) (by simp) ?_
     refine AllG.cons rfl (fun K1 hK=>?_) AllG.nil
     go_simp
     refine ((K.out _ Tk1).2.1).mono ?_
     rintro e wk2 ⟨rfl,Tk2⟩
     refine hK.out _ _ ⟨Tk2,fun _=>trivial⟩ ?_
     clear hK K1 Tk1
     by_cases e1:ra.groups=sa.groups
     ·have H1:Hd (ra.groups=sa.groups):=⟨e1⟩
      rw [decide_eq_true e1]
      clear e1
      refine .tq 24 41 Tk2 ?_;simp only [tkA,tkB,tkC]
      refine .tq 25 42 Tk2 ?_;simp only [tkA,tkB,tkC]
      refine .tq 26 43 Tk2 ?_;simp only [tkA,tkB,tkC]
      refine .tq 27 44 Tk2 ?_;simp only [tkA,tkB,tkC]
      refine .tq 28 45 Tk2 ?_;simp only [tkA,tkB,tkC]
      refine .tq 29 46 Tk2 ?_;simp only [tkA,tkB,tkC]
      refine .tq 30 47 Tk2 ?_;simp only [tkA,tkB,tkC]
      refine .tq 31 48 Tk2 ?_ (hy:=fun w hSw=>by have s4:=hSw.cell x2;go_simp;rfl);simp only [tkA,tkB,tkC]
      refine .tq 32 49 Tk2 ?_;simp only [tkA,tkB,tkC]
      refine .tq 33 50 Tk2 ?_;simp only [tkA,tkB,tkC]
      refine .tq 34 51 Tk2 ?_;simp only [tkA,tkB,tkC]
      refine .tq 35 52 Tk2 ?_;simp only [tkA,tkB,tkC]
      refine .tq 36 53 Tk2 ?_ (hy:=fun w hSw=>by have s4:=hSw.cell y2;go_simp;rfl);simp only [tkA,tkB,tkC]
      refine AnyG.ready (rs:=[37]) (by kernel_rfl) (by simp) ?_
      refine AllG.cons rfl (fun K1 hK=>?_) AllG.nil
      go_simp
      refine ((K.out _ Tk2).2.2.1).mono ?_
      rintro e wk3 ⟨rfl,Tk3⟩
      refine hK.out _ _ ⟨Tk3,fun _=>trivial⟩ ?_
      clear hK K1 Tk2
      by_cases e2:ra.verbs=sa.verbs
      ·have H2:Hd (ra.verbs=sa.verbs):=⟨e2⟩
       rw [decide_eq_true e2]
       clear e2
       refine .tq 38 55 Tk3 ?_;simp only [tkA,tkB,tkC]
       refine .tq 39 56 Tk3 ?_;simp only [tkA,tkB,tkC]
       refine .tq 40 57 Tk3 ?_;simp only [tkA,tkB,tkC]
       refine .tq 41 58 Tk3 ?_;simp only [tkA,tkB,tkC]
       refine .tq 42 59 Tk3 ?_;simp only [tkA,tkB,tkC]
       refine .tq 43 60 Tk3 ?_;simp only [tkA,tkB,tkC]
       refine .tq 44 61 Tk3 ?_;simp only [tkA,tkB,tkC]
       refine .tq 45 62 Tk3 ?_ (hy:=fun w hSw=>by have s4:=hSw.cell x3;go_simp;rfl);simp only [tkA,tkB,tkC]
       refine .tq 46 63 Tk3 ?_;simp only [tkA,tkB,tkC]
       refine .tq 47 64 Tk3 ?_;simp only [tkA,tkB,tkC]
       refine .tq 48 65 Tk3 ?_;simp only [tkA,tkB,tkC]
       refine .tq 49 66 Tk3 ?_;simp only [tkA,tkB,tkC]
       refine .tq 50 67 Tk3 ?_ (hy:=fun w hSw=>by have s4:=hSw.cell y3;go_simp;rfl);simp only [tkA,tkB,tkC]
       refine AnyG.ready (rs:=[51]) (by kernel_rfl) (by simp) ?_
       refine AllG.cons rfl (fun K1 hK=>?_) AllG.nil
       go_simp
       refine ((K.out _ Tk3).2.2.2.1).mono ?_
       rintro e wk4 ⟨rfl,Tk4⟩
       refine hK.out _ _ ⟨Tk4,fun _=>trivial⟩ ?_
       clear hK K1 Tk3
       by_cases e3:ra.resources=sa.resources
       ·have H3:Hd (ra.resources=sa.resources):=⟨e3⟩
        rw [decide_eq_true e3]
        clear e3
        refine .tq 52 69 Tk4 ?_;simp only [tkA,tkB,tkC]
        refine .tq 53 70 Tk4 ?_;simp only [tkA,tkB,tkC]
        refine .tq 54 71 Tk4 ?_;simp only [tkA,tkB,tkC]
        refine .tq 55 72 Tk4 ?_;simp only [tkA,tkB,tkC]
        refine .tq 56 73 Tk4 ?_;simp only [tkA,tkB,tkC]
        refine .tq 57 74 Tk4 ?_;simp only [tkA,tkB,tkC]
        refine .tq 58 75 Tk4 ?_;simp only [tkA,tkB,tkC]
        refine .tq 59 76 Tk4 ?_ (hy:=fun w hSw=>by have s4:=hSw.cell x4;go_simp;rfl);simp only [tkA,tkB,tkC]
        refine .tq 60 77 Tk4 ?_;simp only [tkA,tkB,tkC]
        refine .tq 61 78 Tk4 ?_;simp only [tkA,tkB,tkC]
        refine .tq 62 79 Tk4 ?_;simp only [tkA,tkB,tkC]
        refine .tq 63 80 Tk4 ?_;simp only [tkA,tkB,tkC]
        refine .tq 64 81 Tk4 ?_ (hy:=fun w hSw=>by have s4:=hSw.cell y4;go_simp;rfl);simp only [tkA,tkB,tkC]
        refine AnyG.ready (rs:=[65]) (by kernel_rfl) (by simp) ?_
        refine AllG.cons rfl (fun K1 hK=>?_) AllG.nil
        go_simp
        refine ((K.out _ Tk4).2.2.2.2).mono ?_
        rintro e wk5 ⟨rfl,Tk5⟩
        refine hK.out _ _ ⟨Tk5,fun _=>trivial⟩ ?_
        clear hK K1 Tk4
        by_cases e4:ra.spaces=sa.spaces
        ·have H4:Hd (ra.spaces=sa.spaces):=⟨e4⟩
         rw [decide_eq_true e4]
         clear e4
         refine .tq 66 83 Tk5 ?_;simp only [tkA,tkB,tkC]
         refine .tq 67 84 Tk5 ?_;simp only [tkA,tkB,tkC]
         have HQ:Hd (∀ j (h:j<rs.length) (h':j<ss.length),j<k+1→rs[j]=ss[j]):=⟨HEq.out H0.out H1.out H2.out H3.out H4.out⟩
         refine AnyG.done (by kernel_rfl) ?_ _
         have TF:Hd (Drw w wk5):=⟨Tk5⟩
         clear x0 x1 x2 x3 x4 y0 y1 y2 y3 y4 K
         go_wp2_with fail
         go_roundw
         case rel =>
          first
           | exact ⟨k+1,HK.out,by go_num,⟨TF.out,HQ.out⟩⟩
           | ((repeat apply Exists.intro);exact ⟨⟨k+1,HK.out,by go_num,⟨TF.out,HQ.out⟩⟩,rfl⟩)
         case measure=>have:=HK.out;simp [intOf];omega
        ·have HF:Hd (bb=false):=⟨HNo.out (.inr (.inr (.inr (.inr e4))))⟩
         rw [decide_eq_false e4]
         clear e4
         refine .tq 66 83 Tk5 ?_;simp only [tkA,tkB,tkC]
         refine .tq 67 84 Tk5 ?_;simp only [tkA,tkB,tkC]
         refine AnyG.done (by kernel_rfl) ?_ _
         have TF:Hd (Drw w wk5):=⟨Tk5⟩
         clear x0 x1 x2 x3 x4 y0 y1 y2 y3 y4 K
         go_wp2_with fail
         go_ret
         exact ⟨by rw [HF.out];rfl,TF.out⟩
       ·have HF:Hd (bb=false):=⟨HNo.out (.inr (.inr (.inr (.inl e3))))⟩
        rw [decide_eq_false e3]
        clear e3
        refine .tq 52 69 Tk4 ?_;simp only [tkA,tkB,tkC]
        refine .tq 53 70 Tk4 ?_;simp only [tkA,tkB,tkC]
        refine .tq 54 71 Tk4 ?_;simp only [tkA,tkB,tkC]
        refine .sq 55 72 Tk4 ?_;simp only [tkA,tkB,tkC]
        refine .sq 56 73 Tk4 ?_;simp only [tkA,tkB,tkC]
        refine .sq 57 74 Tk4 ?_;simp only [tkA,tkB,tkC]
        refine .sq 58 75 Tk4 ?_;simp only [tkA,tkB,tkC]
        refine .sq 59 76 Tk4 ?_;simp only [tkA,tkB,tkC]
        refine .sq 60 77 Tk4 ?_;simp only [tkA,tkB,tkC]
        refine .sq 61 78 Tk4 ?_;simp only [tkA,tkB,tkC]
        refine .sq 62 79 Tk4 ?_;simp only [tkA,tkB,tkC]
        refine .sq 63 80 Tk4 ?_;simp only [tkA,tkB,tkC]
        refine .sq 64 81 Tk4 ?_;simp only [tkA,tkB,tkC]
        refine .sq 65 82 Tk4 ?_;simp only [tkA,tkB,tkC]
        refine .sq 66 83 Tk4 ?_;simp only [tkA,tkB,tkC]
        refine .tq 67 84 Tk4 ?_;simp only [tkA,tkB,tkC]
        refine AnyG.done (by kernel_rfl) ?_ _
        have TF:Hd (Drw w wk4):=⟨Tk4⟩
        clear x0 x1 x2 x3 x4 y0 y1 y2 y3 y4 K
        go_wp2_with fail
        go_ret
        exact ⟨by rw [HF.out];rfl,TF.out⟩
      ·have HF:Hd (bb=false):=⟨HNo.out (.inr (.inr (.inl e2)))⟩
       rw [decide_eq_false e2]
       clear e2
       refine .tq 38 55 Tk3 ?_;simp only [tkA,tkB,tkC]
       refine .tq 39 56 Tk3 ?_;simp only [tkA,tkB,tkC]
       refine .tq 40 57 Tk3 ?_;simp only [tkA,tkB,tkC]
       refine .sq 41 58 Tk3 ?_;simp only [tkA,tkB,tkC]
       refine .sq 42 59 Tk3 ?_;simp only [tkA,tkB,tkC]
       refine .sq 43 60 Tk3 ?_;simp only [tkA,tkB,tkC]
       refine .sq 44 61 Tk3 ?_;simp only [tkA,tkB,tkC]
       refine .sq 45 62 Tk3 ?_;simp only [tkA,tkB,tkC]
       refine .sq 46 63 Tk3 ?_;simp only [tkA,tkB,tkC]
       refine .sq 47 64 Tk3 ?_;simp only [tkA,tkB,tkC]
       refine .sq 48 65 Tk3 ?_;simp only [tkA,tkB,tkC]
       refine .sq 49 66 Tk3 ?_;simp only [tkA,tkB,tkC]
       refine .sq 50 67 Tk3 ?_;simp only [tkA,tkB,tkC]
       refine .sq 51 68 Tk3 ?_;simp only [tkA,tkB,tkC]
       refine .sq 52 69 Tk3 ?_;simp only [tkA,tkB,tkC]
       refine .tq 53 70 Tk3 ?_;simp only [tkA,tkB,tkC]
       refine .tq 54 71 Tk3 ?_;simp only [tkA,tkB,tkC]
       refine .sq 55 72 Tk3 ?_;simp only [tkA,tkB,tkC]
       refine .sq 56 73 Tk3 ?_;simp only [tkA,tkB,tkC]
       refine .sq 57 74 Tk3 ?_;simp only [tkA,tkB,tkC]
       refine .sq 58 75 Tk3 ?_;simp only [tkA,tkB,tkC]
       refine .sq 59 76 Tk3 ?_;simp only [tkA,tkB,tkC]
       refine .sq 60 77 Tk3 ?_;simp only [tkA,tkB,tkC]
       refine .sq 61 78 Tk3 ?_;simp only [tkA,tkB,tkC]
       refine .sq 62 79 Tk3 ?_;simp only [tkA,tkB,tkC]
       refine .sq 63 80 Tk3 ?_;simp only [tkA,tkB,tkC]
       refine .sq 64 81 Tk3 ?_;simp only [tkA,tkB,tkC]
       refine .sq 65 82 Tk3 ?_;simp only [tkA,tkB,tkC]
       refine .sq 66 83 Tk3 ?_;simp only [tkA,tkB,tkC]
       refine .tq 67 84 Tk3 ?_;simp only [tkA,tkB,tkC]
       refine AnyG.done (by kernel_rfl) ?_ _
       have TF:Hd (Drw w wk3):=⟨Tk3⟩
       clear x0 x1 x2 x3 x4 y0 y1 y2 y3 y4 K
       go_wp2_with fail
       go_ret
       exact ⟨by rw [HF.out];rfl,TF.out⟩
     ·have HF:Hd (bb=false):=⟨HNo.out (.inr (.inl e1))⟩
      rw [decide_eq_false e1]
      clear e1
      refine .tq 24 41 Tk2 ?_;simp only [tkA,tkB,tkC]
      refine .tq 25 42 Tk2 ?_;simp only [tkA,tkB,tkC]
      refine .tq 26 43 Tk2 ?_;simp only [tkA,tkB,tkC]
      refine .sq 27 44 Tk2 ?_;simp only [tkA,tkB,tkC]
      refine .sq 28 45 Tk2 ?_;simp only [tkA,tkB,tkC]
      refine .sq 29 46 Tk2 ?_;simp only [tkA,tkB,tkC]
      refine .sq 30 47 Tk2 ?_;simp only [tkA,tkB,tkC]
      refine .sq 31 48 Tk2 ?_;simp only [tkA,tkB,tkC]
      refine .sq 32 49 Tk2 ?_;simp only [tkA,tkB,tkC]
      refine .sq 33 50 Tk2 ?_;simp only [tkA,tkB,tkC]
      refine .sq 34 51 Tk2 ?_;simp only [tkA,tkB,tkC]
      refine .sq 35 52 Tk2 ?_;simp only [tkA,tkB,tkC]
      refine .sq 36 53 Tk2 ?_;simp only [tkA,tkB,tkC]
      refine .sq 37 54 Tk2 ?_;simp only [tkA,tkB,tkC]
      refine .sq 38 55 Tk2 ?_;simp only [tkA,tkB,tkC]
      refine .tq 39 56 Tk2 ?_;simp only [tkA,tkB,tkC]
      refine .tq 40 57 Tk2 ?_;simp only [tkA,tkB,tkC]
      refine .sq 41 58 Tk2 ?_;simp only [tkA,tkB,tkC]
      refine .sq 42 59 Tk2 ?_;simp only [tkA,tkB,tkC]
      refine .sq 43 60 Tk2 ?_;simp only [tkA,tkB,tkC]
      refine .sq 44 61 Tk2 ?_;simp only [tkA,tkB,tkC]
      refine .sq 45 62 Tk2 ?_;simp only [tkA,tkB,tkC]
      refine .sq 46 63 Tk2 ?_;simp only [tkA,tkB,tkC]
      refine .sq 47 64 Tk2 ?_;simp only [tkA,tkB,tkC]
      refine .sq 48 65 Tk2 ?_;simp only [tkA,tkB,tkC]
      refine .sq 49 66 Tk2 ?_;simp only [tkA,tkB,tkC]
      refine .sq 50 67 Tk2 ?_;simp only [tkA,tkB,tkC]
      refine .sq 51 68 Tk2 ?_;simp only [tkA,tkB,tkC]
      refine .sq 52 69 Tk2 ?_;simp only [tkA,tkB,tkC]
      refine .tq 53 70 Tk2 ?_;simp only [tkA,tkB,tkC]
      refine .tq 54 71 Tk2 ?_;simp only [tkA,tkB,tkC]
      refine .sq 55 72 Tk2 ?_;simp only [tkA,tkB,tkC]
      refine .sq 56 73 Tk2 ?_;simp only [tkA,tkB,tkC]
      refine .sq 57 74 Tk2 ?_;simp only [tkA,tkB,tkC]
      refine .sq 58 75 Tk2 ?_;simp only [tkA,tkB,tkC]
      refine .sq 59 76 Tk2 ?_;simp only [tkA,tkB,tkC]
      refine .sq 60 77 Tk2 ?_;simp only [tkA,tkB,tkC]
      refine .sq 61 78 Tk2 ?_;simp only [tkA,tkB,tkC]
      refine .sq 62 79 Tk2 ?_;simp only [tkA,tkB,tkC]
      refine .sq 63 80 Tk2 ?_;simp only [tkA,tkB,tkC]
      refine .sq 64 81 Tk2 ?_;simp only [tkA,tkB,tkC]
      refine .sq 65 82 Tk2 ?_;simp only [tkA,tkB,tkC]
      refine .sq 66 83 Tk2 ?_;simp only [tkA,tkB,tkC]
      refine .tq 67 84 Tk2 ?_;simp only [tkA,tkB,tkC]
      refine AnyG.done (by kernel_rfl) ?_ _
      have TF:Hd (Drw w wk2):=⟨Tk2⟩
      clear x0 x1 x2 x3 x4 y0 y1 y2 y3 y4 K
      go_wp2_with fail
      go_ret
      exact ⟨by rw [HF.out];rfl,TF.out⟩
    ·have HF:Hd (bb=false):=⟨HNo.out (.inl e0)⟩
     rw [decide_eq_false e0]
     clear e0
     refine .tq 11 28 Tk1 ?_;simp only [tkA,tkB,tkC]
     refine .tq 12 29 Tk1 ?_;simp only [tkA,tkB,tkC]
     refine .sq 13 30 Tk1 ?_;simp only [tkA,tkB,tkC]
     refine .sq 14 31 Tk1 ?_;simp only [tkA,tkB,tkC]
     refine .sq 15 32 Tk1 ?_;simp only [tkA,tkB,tkC]
     refine .sq 16 33 Tk1 ?_;simp only [tkA,tkB,tkC]
     refine .sq 17 34 Tk1 ?_;simp only [tkA,tkB,tkC]
     refine .sq 18 35 Tk1 ?_;simp only [tkA,tkB,tkC]
     refine .sq 19 36 Tk1 ?_;simp only [tkA,tkB,tkC]
     refine .sq 20 37 Tk1 ?_;simp only [tkA,tkB,tkC]
     refine .sq 21 38 Tk1 ?_;simp only [tkA,tkB,tkC]
     refine .sq 22 39 Tk1 ?_;simp only [tkA,tkB,tkC]
     refine .sq 23 40 Tk1 ?_;simp only [tkA,tkB,tkC]
     refine .sq 24 41 Tk1 ?_;simp only [tkA,tkB,tkC]
     refine .tq 25 42 Tk1 ?_;simp only [tkA,tkB,tkC]
     refine .tq 26 43 Tk1 ?_;simp only [tkA,tkB,tkC]
     refine .sq 27 44 Tk1 ?_;simp only [tkA,tkB,tkC]
     refine .sq 28 45 Tk1 ?_;simp only [tkA,tkB,tkC]
     refine .sq 29 46 Tk1 ?_;simp only [tkA,tkB,tkC]
     refine .sq 30 47 Tk1 ?_;simp only [tkA,tkB,tkC]
     refine .sq 31 48 Tk1 ?_;simp only [tkA,tkB,tkC]
     refine .sq 32 49 Tk1 ?_;simp only [tkA,tkB,tkC]
     refine .sq 33 50 Tk1 ?_;simp only [tkA,tkB,tkC]
     refine .sq 34 51 Tk1 ?_;simp only [tkA,tkB,tkC]
     refine .sq 35 52 Tk1 ?_;simp only [tkA,tkB,tkC]
     refine .sq 36 53 Tk1 ?_;simp only [tkA,tkB,tkC]
     refine .sq 37 54 Tk1 ?_;simp only [tkA,tkB,tkC]
     refine .sq 38 55 Tk1 ?_;simp only [tkA,tkB,tkC]
     refine .tq 39 56 Tk1 ?_;simp only [tkA,tkB,tkC]
     refine .tq 40 57 Tk1 ?_;simp only [tkA,tkB,tkC]
     refine .sq 41 58 Tk1 ?_;simp only [tkA,tkB,tkC]
     refine .sq 42 59 Tk1 ?_;simp only [tkA,tkB,tkC]
     refine .sq 43 60 Tk1 ?_;simp only [tkA,tkB,tkC]
     refine .sq 44 61 Tk1 ?_;simp only [tkA,tkB,tkC]
     refine .sq 45 62 Tk1 ?_;simp only [tkA,tkB,tkC]
     refine .sq 46 63 Tk1 ?_;simp only [tkA,tkB,tkC]
     refine .sq 47 64 Tk1 ?_;simp only [tkA,tkB,tkC]
     refine .sq 48 65 Tk1 ?_;simp only [tkA,tkB,tkC]
     refine .sq 49 66 Tk1 ?_;simp only [tkA,tkB,tkC]
     refine .sq 50 67 Tk1 ?_;simp only [tkA,tkB,tkC]
     refine .sq 51 68 Tk1 ?_;simp only [tkA,tkB,tkC]
     refine .sq 52 69 Tk1 ?_;simp only [tkA,tkB,tkC]
     refine .tq 53 70 Tk1 ?_;simp only [tkA,tkB,tkC]
     refine .tq 54 71 Tk1 ?_;simp only [tkA,tkB,tkC]
     refine .sq 55 72 Tk1 ?_;simp only [tkA,tkB,tkC]
     refine .sq 56 73 Tk1 ?_;simp only [tkA,tkB,tkC]
     refine .sq 57 74 Tk1 ?_;simp only [tkA,tkB,tkC]
     refine .sq 58 75 Tk1 ?_;simp only [tkA,tkB,tkC]
     refine .sq 59 76 Tk1 ?_;simp only [tkA,tkB,tkC]
     refine .sq 60 77 Tk1 ?_;simp only [tkA,tkB,tkC]
     refine .sq 61 78 Tk1 ?_;simp only [tkA,tkB,tkC]
     refine .sq 62 79 Tk1 ?_;simp only [tkA,tkB,tkC]
     refine .sq 63 80 Tk1 ?_;simp only [tkA,tkB,tkC]
     refine .sq 64 81 Tk1 ?_;simp only [tkA,tkB,tkC]
     refine .sq 65 82 Tk1 ?_;simp only [tkA,tkB,tkC]
     refine .sq 66 83 Tk1 ?_;simp only [tkA,tkB,tkC]
     refine .tq 67 84 Tk1 ?_;simp only [tkA,tkB,tkC]
     refine AnyG.done (by kernel_rfl) ?_ _
     have TF:Hd (Drw w wk1):=⟨Tk1⟩
     clear x0 x1 x2 x3 x4 y0 y1 y2 y3 y4 K
     go_wp2_with fail
     go_ret
     exact ⟨by rw [HF.out];rfl,TF.out⟩
   ·obtain rfl:k=n:=by omega
    have HTT:Hd (bb=true):=⟨HE.out fun j h h'=>hq.out.2 j h h' (by rw [HN.out.1];exact h)⟩
    have TF:Hd (Drw w wr):=⟨hq.out.1⟩
    clear hq
    go_wp2_with fail
    go_ret
    exact ⟨by rw [HTT.out];rfl,TF.out⟩
 ·have HF:Hd (@decide (rs=ss) (Classical.propDecidable _)=false):=⟨@decide_eq_false _ (Classical.propDecidable _) (fun e=>hl (by rw [e]))⟩
  generalize @decide (rs=ss) (Classical.propDecidable _)=bb at *
  clear R R'
  generalize rs.length=n at *
  generalize ss.length=m at *
  go_enter Tryz.func36,Tryz.ntmps36
  go_wp2_with fail
  go_ret
  exact ⟨by rw [HF.out];rfl,0,rfl⟩
end Go.Proofs.YthkdbphgiobcdaaGreatDoor
