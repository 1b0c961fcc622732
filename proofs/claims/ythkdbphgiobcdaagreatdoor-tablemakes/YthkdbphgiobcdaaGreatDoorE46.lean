/-
  'Same' of the reference,whatever the configurations are.
-/
import Derived.Test.YthkdbphgiobcdaaGreatDoorE45
namespace Go.Proofs.YthkdbphgiobcdaaGreatDoor
open Go.RowKit
structure TwB (w W:World) (A1 A2:Nat) (c1 c2:Array Value):Prop where
 bel:Below w.heap.size w W
 b1:Blk W A1 25 c1
 b2:Blk W A2 25 c2
theorem TwB.grown {w W W':World} {A1 A2:Nat} {c1 c2:Array Value} (h:TwB w W A1 A2 c1 c2) (b:Below W.heap.size W W'):TwB w W' A1 A2 c1 c2 :=
 ⟨h.bel.trans (b.mono h.bel.size),h.b1.kept (Kept.of_below b (fun _=>False)) id,h.b2.kept (Kept.of_below b (fun _=>False)) id⟩
theorem Drw.below {w W:World} (h:Drw w W):Below w.heap.size w W:=by
 obtain ⟨n,rfl⟩:=h
 exact below_drew w n
set_option maxRecDepth 20000 in
set_option maxHeartbeats 32000000 in
theorem same_dec {w:World} {v v':Value} {C D:Cf} (h:CfR w v C) (h':CfR w v' D) :
  Calls Tryz.prog 14 #[v,v'] w fun e w'=>e=.returned (.bool (@decide (C=D) (Classical.propDecidable _)))∧Below w.heap.size w w':=by
 obtain ⟨nl,ns⟩:=h.sz
 obtain ⟨a1,c1,s1,d1,V1,rfl,-,-,hL,hV1,hS,hR⟩:=h.ex
 obtain ⟨a2,c2,s2,d2,V2,rfl,-,-,hL',hV2,hS',hR'⟩:=h'.ex
 clear h h'
 obtain ⟨x0,x1,x2,x3,L,S⟩:=C
 obtain ⟨y0,y1,y2,y3,M,Z⟩:=D
 simp only at hL hL' hS hS' hR hR' hV1 hV2 nl ns ⊢
 have HNE:Hd (x0≠y0∨x1≠y1∨x2≠y2∨x3≠y3∨L≠M∨S≠Z→@decide ((⟨x0,x1,x2,x3,L,S⟩:Cf)=⟨y0,y1,y2,y3,M,Z⟩) (Classical.propDecidable _)=false):=⟨fun h=>@decide_eq_false _ (Classical.propDecidable _) (fun e=>by
  injection e with e0 e1 e2 e3 e4 e5
  rcases h with h | h | h | h | h | h
  ·exact h e0
  ·exact h e1
  ·exact h e2
  ·exact h e3
  ·exact h e4
  ·exact h e5)⟩
 have HEQ:Hd (x0=y0→x1=y1→x2=y2→x3=y3→L=M→S=Z→@decide ((⟨x0,x1,x2,x3,L,S⟩:Cf)=⟨y0,y1,y2,y3,M,Z⟩) (Classical.propDecidable _)=true):=⟨fun e0 e1 e2 e3 e4 e5=>@decide_eq_true _ (Classical.propDecidable _) (by subst e0 e1 e2 e3 e4 e5;rfl)⟩
 generalize @decide ((⟨x0,x1,x2,x3,L,S⟩:Cf)=⟨y0,y1,y2,y3,M,Z⟩) (Classical.propDecidable _)=bb at *
 have HL1:Hd (∀ W,Below w.heap.size w W→LvR W a1 L):=⟨fun W b=>hL.carry b⟩
 have HL2:Hd (∀ W,Below w.heap.size w W→LvR W a2 M):=⟨fun W b=>hL'.carry b⟩
 have HS1:Hd (V1.length=S.length∧∀ W,Below w.heap.size w W→ScR W s1 S V1∧∀ k (h:k<S.length) (h':k<V1.length),RlR W V1[k] S[k].rules):=⟨hV1,fun W b=>⟨hS.carry b,fun k q1 q2=>(hR k q1 q2).carry b⟩⟩
 have HS2:Hd (V2.length=Z.length∧∀ W,Below w.heap.size w W→ScR W s2 Z V2∧∀ k (h:k<Z.length) (h':k<V2.length),RlR W V2[k] Z[k].rules):=⟨hV2,fun W b=>⟨hS'.carry b,fun k q1 q2=>(hR' k q1 q2).carry b⟩⟩
 obtain ⟨n,hn⟩:∃ n,n=L.length:=⟨_,rfl⟩
 obtain ⟨m,hm⟩:∃ m,m=S.length:=⟨_,rfl⟩
 obtain ⟨n2,hn2⟩:∃ n2,n2=M.length:=⟨_,rfl⟩
 obtain ⟨m2,hm2⟩:∃ m2,m2=Z.length:=⟨_,rfl⟩
 have HN:Hd (n=L.length∧m=S.length∧n2=M.length∧m2=Z.length):=⟨hn,hm,hn2,hm2⟩
 rw [←hn] at nl
 rw [←hm] at ns
 rw [←hn,← hm,← hn2,← hm2]
 clear hL hL' hS hS' hR hR' hV1 hV2 hn hm hn2 hm2
 have AL1:=alloc_below w (.cells #[.int .i64 x0,.int .i64 x1,.int .i64 x2,.int .i64 x3,.slice a1 n c1,.slice s1 m d1] 25)
 have AL2:=alloc_below (w.alloc (.cells #[.int .i64 x0,.int .i64 x1,.int .i64 x2,.int .i64 x3,.slice a1 n c1,.slice s1 m d1] 25)) (.cells #[.int .i64 y0,.int .i64 y1,.int .i64 y2,.int .i64 y3,.slice a2 n2 c2,.slice s2 m2 d2] 25)
 have NB1:=(Blk.new w 25 #[.int .i64 x0,.int .i64 x1,.int .i64 x2,.int .i64 x3,.slice a1 n c1,.slice s1 m d1]).kept (Kept.of_below AL2 (fun _=>False)) id
 have NB2:=Blk.new (w.alloc (.cells #[.int .i64 x0,.int .i64 x1,.int .i64 x2,.int .i64 x3,.slice a1 n c1,.slice s1 m d1] 25)) 25 #[.int .i64 y0,.int .i64 y1,.int .i64 y2,.int .i64 y3,.slice a2 n2 c2,.slice s2 m2 d2]
 have BB:Below w.heap.size w ((w.alloc (.cells #[.int .i64 x0,.int .i64 x1,.int .i64 x2,.int .i64 x3,.slice a1 n c1,.slice s1 m d1] 25)).alloc (.cells #[.int .i64 y0,.int .i64 y1,.int .i64 y2,.int .i64 y3,.slice a2 n2 c2,.slice s2 m2 d2] 25)):=AL1.trans (AL2.mono AL1.size)
 have sz:(w.alloc (.cells #[.int .i64 x0,.int .i64 x1,.int .i64 x2,.int .i64 x3,.slice a1 n c1,.slice s1 m d1] 25)).heap.size=w.heap.size+1:=by simp
 rw [sz] at NB2
 clear AL1 AL2 sz
 go_enter Tryz.func14,Tryz.ntmps14
 go_upto_region 1 with fail
 generalize (w.alloc (.cells #[.int .i64 x0,.int .i64 x1,.int .i64 x2,.int .i64 x3,.slice a1 n c1,.slice s1 m d1] 25)).alloc (.cells #[.int .i64 y0,.int .i64 y1,.int .i64 y2,.int .i64 y3,.slice a2 n2 c2,.slice s2 m2 d2] 25)=w0 at *
 generalize w.heap.size+1=A2 at *
 obtain ⟨A1,hA1⟩:∃ A1,A1=w.heap.size:=⟨_,rfl⟩
 rw [←hA1] at NB1 ⊢
 clear hA1
 have p0:=NB1.cellv (v:=.int .i64 x0) 0 rfl
 have p1:=NB1.cellv (v:=.int .i64 x1) 1 rfl
 have p2:=NB1.cellv (v:=.int .i64 x2) 2 rfl
 have p3:=NB1.cellv (v:=.int .i64 x3) 3 rfl
 have p4:=NB1.cellv (v:=.slice a1 n c1) 4 rfl
 have p5:=NB1.cellv (v:=.slice s1 m d1) 5 rfl
 have r0:=NB2.cellv (v:=.int .i64 y0) 0 rfl
 have r1:=NB2.cellv (v:=.int .i64 y1) 1 rfl
 have r2:=NB2.cellv (v:=.int .i64 y2) 2 rfl
 have r3:=NB2.cellv (v:=.int .i64 y3) 3 rfl
 have r4:=NB2.cellv (v:=.slice a2 n2 c2) 4 rfl
 have r5:=NB2.cellv (v:=.slice s2 m2 d2) 5 rfl
 by_cases z0:x0=y0
 rotate_left
 ·have q0:(x0 != y0)=true:=by simp [z0]
  have HF:Hd (bb=false):=⟨HNE.out (.inl z0)⟩
  clear z0
  go_wp2_with fail
  go_ret
  exact ⟨by rw [HF.out];rfl,BB⟩
 have q0:(x0 != y0)=false:=by simp [z0]
 have Z0:Hd (x0=y0):=⟨z0⟩
 clear z0
 by_cases z1:x1=y1
 rotate_left
 ·have q1:(x1 != y1)=true:=by simp [z1]
  have HF:Hd (bb=false):=⟨HNE.out (.inr (.inl z1))⟩
  clear z1
  go_wp2_with fail
  go_ret
  exact ⟨by rw [HF.out];rfl,BB⟩
 have q1:(x1 != y1)=false:=by simp [z1]
 have Z1:Hd (x1=y1):=⟨z1⟩
 clear z1
 by_cases z2:x2=y2
 rotate_left
 ·have q2:(x2 != y2)=true:=by simp [z2]
  have HF:Hd (bb=false):=⟨HNE.out (.inr (.inr (.inl z2)))⟩
  clear z2
  go_wp2_with fail
  go_ret
  exact ⟨by rw [HF.out];rfl,BB⟩
 have q2:(x2 != y2)=false:=by simp [z2]
 have Z2:Hd (x2=y2):=⟨z2⟩
 clear z2
 by_cases z3:x3=y3
 rotate_left
 ·have q3:(x3 != y3)=true:=by simp [z3]
  have HF:Hd (bb=false):=⟨HNE.out (.inr (.inr (.inr (.inl z3))))⟩
  clear z3
  go_wp2_with fail
  go_ret
  exact ⟨by rw [HF.out];rfl,BB⟩
 have q3:(x3 != y3)=false:=by simp [z3]
 have Z3:Hd (x3=y3):=⟨z3⟩
 clear z3
 by_cases zn:n=n2
 rotate_left
 ·have qn:((n:Int) != (n2:Int))=true:=by simp;omega
  have HF:Hd (bb=false):=⟨HNE.out (.inr (.inr (.inr (.inr (.inl (fun e=>zn (by rw [HN.out.1,HN.out.2.2.1,e])))))))⟩
  clear zn
  go_wp2_with fail
  go_ret
  exact ⟨by rw [HF.out];rfl,BB⟩
 subst zn
 by_cases zm:m=m2
 rotate_left
 ·have qm:((m:Int) != (m2:Int))=true:=by simp;omega
  have HF:Hd (bb=false):=⟨HNE.out (.inr (.inr (.inr (.inr (.inr (fun e=>zm (by rw [HN.out.2.1,HN.out.2.2.2,e])))))))⟩
  clear zm
  go_wp2_with fail
  go_ret
  exact ⟨by rw [HF.out];rfl,BB⟩
 subst zm
 have HT':Hd (TwB w w0 A1 A2 #[.int .i64 x0,.int .i64 x1,.int .i64 x2,.int .i64 x3,.slice a1 n c1,.slice s1 m d1] #[.int .i64 y0,.int .i64 y1,.int .i64 y2,.int .i64 y3,.slice a2 n c2,.slice s2 m d2]):=⟨BB,NB1,NB2⟩
 clear BB NB1 NB2
 go_wp2_with fail
 clear p0 p1 p2 p3 p4 p5 r0 r1 r2 r3 r4 r5 q0 q1 q2 q3
 go_loopw [5] (fun i wr=>∃ k:Nat,k≤n∧i=.int .i64 k∧Hd (TwB w wr A1 A2 #[.int .i64 x0,.int .i64 x1,.int .i64 x2,.int .i64 x3,.slice a1 n c1,.slice s1 m d1] #[.int .i64 y0,.int .i64 y1,.int .i64 y2,.int .i64 y3,.slice a2 n c2,.slice s2 m d2]∧∀ j (h:j<L.length) (h':j<M.length),j<k→L[j]=M[j])) (fun i _=>n - (intOf i).toNat)
 case atStart=>exact ⟨0,Nat.zero_le _,rfl,⟨HT'.out,fun j _ _ h=>absurd h (Nat.not_lt_zero _)⟩⟩
 case round =>
  obtain ⟨k,hk,rfl,hT⟩:=hrel
  clear HT'
  have e1:=hT.out.1.b1.cellv (v:=.slice a1 n c1) 4 rfl
  have e2:=hT.out.1.b2.cellv (v:=.slice a2 n c2) 4 rfl
  by_cases hlt:k<n
  ·have hkL:k<L.length:=by rw [←HN.out.1];exact hlt
   have hkM:k<M.length:=by rw [←HN.out.2.2.1];exact hlt
   obtain ⟨g1,f1,rfl,hg1,K1⟩:=HL1.out wr hT.out.1.bel (by omega)
   obtain ⟨g2,f2,rfl,hg2,K2⟩:=HL2.out wr hT.out.1.bel (by omega)
   have x0':wr.cell? ⟨g1,f1+k*10,none⟩=some (.string L[k].name):=K1 k hkL 0 (by decide)
   have y0':wr.cell? ⟨g2,f2+k*10,none⟩=some (.string M[k].name):=K2 k hkM 0 (by decide)
   have x1':wr.cell? ⟨g1,f1+k*10+1,none⟩=some (.int .i64 L[k].kind):=K1 k hkL 1 (by decide)
   have y1':wr.cell? ⟨g2,f2+k*10+1,none⟩=some (.int .i64 M[k].kind):=K2 k hkM 1 (by decide)
   have x2':wr.cell? ⟨g1,f1+k*10+2,none⟩=some (.int .i64 L[k].shares):=K1 k hkL 2 (by decide)
   have y2':wr.cell? ⟨g2,f2+k*10+2,none⟩=some (.int .i64 M[k].shares):=K2 k hkM 2 (by decide)
   have x3':wr.cell? ⟨g1,f1+k*10+3,none⟩=some (.int .i64 L[k].lend):=K1 k hkL 3 (by decide)
   have y3':wr.cell? ⟨g2,f2+k*10+3,none⟩=some (.int .i64 M[k].lend):=K2 k hkM 3 (by decide)
   have x4':wr.cell? ⟨g1,f1+k*10+4,none⟩=some (.int .i64 L[k].borrow):=K1 k hkL 4 (by decide)
   have y4':wr.cell? ⟨g2,f2+k*10+4,none⟩=some (.int .i64 M[k].borrow):=K2 k hkM 4 (by decide)
   have x5':wr.cell? ⟨g1,f1+k*10+5,none⟩=some (.int .i64 L[k].queues):=K1 k hkL 5 (by decide)
   have y5':wr.cell? ⟨g2,f2+k*10+5,none⟩=some (.int .i64 M[k].queues):=K2 k hkM 5 (by decide)
   have x6':wr.cell? ⟨g1,f1+k*10+6,none⟩=some (.int .i64 L[k].hand):=K1 k hkL 6 (by decide)
   have y6':wr.cell? ⟨g2,f2+k*10+6,none⟩=some (.int .i64 M[k].hand):=K2 k hkM 6 (by decide)
   have x7':wr.cell? ⟨g1,f1+k*10+7,none⟩=some (.int .i64 L[k].length):=K1 k hkL 7 (by decide)
   have y7':wr.cell? ⟨g2,f2+k*10+7,none⟩=some (.int .i64 M[k].length):=K2 k hkM 7 (by decide)
   have x8':wr.cell? ⟨g1,f1+k*10+8,none⟩=some (.int .i64 L[k].wait):=K1 k hkL 8 (by decide)
   have y8':wr.cell? ⟨g2,f2+k*10+8,none⟩=some (.int .i64 M[k].wait):=K2 k hkM 8 (by decide)
   have x9':wr.cell? ⟨g1,f1+k*10+9,none⟩=some (.int .i64 L[k].guess):=K1 k hkL 9 (by decide)
   have y9':wr.cell? ⟨g2,f2+k*10+9,none⟩=some (.int .i64 M[k].guess):=K2 k hkM 9 (by decide)
   have HK:Hd (k<n):=⟨hlt⟩
   have HNX:Hd (L[k]=M[k]→∀ j (h:j<L.length) (h':j<M.length),j<k+1→L[j]=M[j]):=⟨fun e j q1 q2 hj=>by
    rcases Nat.lt_or_eq_of_le (Nat.le_of_lt_succ hj) with h | h
    ·exact hT.out.2 j q1 q2 h
    ·subst h;exact e⟩
   have HNO:Hd (L[k]≠M[k]→bb=false):=⟨fun h=>HNE.out (.inr (.inr (.inr (.inr (.inl (fun e=>h (by subst e;rfl)))))))⟩
   have TB:=hT.out.1
   clear K1 K2 hT
   generalize L[k]=l at *
   generalize M[k]=l2 at *
   clear hkL hkM
   have HTG:Hd (∀ q,TwB w (wr.drewN q) A1 A2 #[.int .i64 x0,.int .i64 x1,.int .i64 x2,.int .i64 x3,.slice (some ⟨g1,f1,none⟩) n c1,.slice s1 m d1] #[.int .i64 y0,.int .i64 y1,.int .i64 y2,.int .i64 y3,.slice (some ⟨g2,f2,none⟩) n c2,.slice s2 m d2]):=⟨fun q=>TB.grown (below_drew _ _)⟩
   have HBG:Hd (∀ q,Below w.heap.size w (wr.drewN q)):=⟨fun q=>(TB.grown (below_drew _ q)).bel⟩
   clear TB
   obtain ⟨q0,q1,q2,q3,q4,q5,q6,q7,q8,q9⟩:=l
   obtain ⟨t0,t1,t2,t3,t4,t5,t6,t7,t8,t9⟩:=l2
   simp only at x0' x1' x2' x3' x4' x5' x6' x7' x8' x9' y0' y1' y2' y3' y4' y5' y6' y7' y8' y9'
   by_cases z0:q0=t0
   rotate_left
   ·have zb:=str_isnt z0
    have HF:Hd (bb=false):=⟨HNO.out (fun e=>z0 (by injection e))⟩
    clear HNO HNX z0
    go_wp2_with fail
    go_big_quiet (fail)
    go_wp2
    all_goals (go_ret;exact ⟨by rw [HF.out];rfl,HBG.out _⟩)
   subst z0
   by_cases z1:q1=t1
   rotate_left
   ·have zb:(q1 == t1)=false:=by simpa using z1
    have HF:Hd (bb=false):=⟨HNO.out (fun e=>z1 (by injection e))⟩
    clear HNO HNX z1
    go_wp2_with fail
    go_big_quiet (fail)
    go_wp2
    all_goals (go_ret;exact ⟨by rw [HF.out];rfl,HBG.out _⟩)
   subst z1
   by_cases z2:q2=t2
   rotate_left
   ·have zb:(q2 == t2)=false:=by simpa using z2
    have HF:Hd (bb=false):=⟨HNO.out (fun e=>z2 (by injection e))⟩
    clear HNO HNX z2
    go_wp2_with fail
    go_big_quiet (fail)
    go_wp2
    all_goals (go_ret;exact ⟨by rw [HF.out];rfl,HBG.out _⟩)
   subst z2
   by_cases z3:q3=t3
   rotate_left
   ·have zb:(q3 == t3)=false:=by simpa using z3
    have HF:Hd (bb=false):=⟨HNO.out (fun e=>z3 (by injection e))⟩
    clear HNO HNX z3
    go_wp2_with fail
    go_big_quiet (fail)
    go_wp2
    all_goals (go_ret;exact ⟨by rw [HF.out];rfl,HBG.out _⟩)
   subst z3
   by_cases z4:q4=t4
   rotate_left
   ·have zb:(q4 == t4)=false:=by simpa using z4
    have HF:Hd (bb=false):=⟨HNO.out (fun e=>z4 (by injection e))⟩
    clear HNO HNX z4
    go_wp2_with fail
    go_big_quiet (fail)
    go_wp2
    all_goals (go_ret;exact ⟨by rw [HF.out];rfl,HBG.out _⟩)
   subst z4
   by_cases z5:q5=t5
   rotate_left
   ·have zb:(q5 == t5)=false:=by simpa using z5
    have HF:Hd (bb=false):=⟨HNO.out (fun e=>z5 (by injection e))⟩
    clear HNO HNX z5
    go_wp2_with fail
    go_big_quiet (fail)
    go_wp2
    all_goals (go_ret;exact ⟨by rw [HF.out];rfl,HBG.out _⟩)
   subst z5
   by_cases z6:q6=t6
   rotate_left
   ·have zb:(q6 == t6)=false:=by simpa using z6
    have HF:Hd (bb=false):=⟨HNO.out (fun e=>z6 (by injection e))⟩
    clear HNO HNX z6
    go_wp2_with fail
    go_big_quiet (fail)
    go_wp2
    all_goals (go_ret;exact ⟨by rw [HF.out];rfl,HBG.out _⟩)
   subst z6
   by_cases z7:q7=t7
   rotate_left
   ·have zb:(q7 == t7)=false:=by simpa using z7
    have HF:Hd (bb=false):=⟨HNO.out (fun e=>z7 (by injection e))⟩
    clear HNO HNX z7
    go_wp2_with fail
    go_big_quiet (fail)
    go_wp2
    all_goals (go_ret;exact ⟨by rw [HF.out];rfl,HBG.out _⟩)
   subst z7
   by_cases z8:q8=t8
   rotate_left
   ·have zb:(q8 == t8)=false:=by simpa using z8
    have HF:Hd (bb=false):=⟨HNO.out (fun e=>z8 (by injection e))⟩
    clear HNO HNX z8
    go_wp2_with fail
    go_big_quiet (fail)
    go_wp2
    all_goals (go_ret;exact ⟨by rw [HF.out];rfl,HBG.out _⟩)
   subst z8
   by_cases z9:q9=t9
   rotate_left
   ·have zb:(q9 == t9)=false:=by simpa using z9
    have HF:Hd (bb=false):=⟨HNO.out (fun e=>z9 (by injection e))⟩
    clear HNO HNX z9
    go_wp2_with fail
    go_big_quiet (fail)
    go_wp2
    all_goals (go_ret;exact ⟨by rw [HF.out];rfl,HBG.out _⟩)
   subst z9
   have HG:=HNX.out rfl
   have HQ:Hd (∀ j (h:j<L.length) (h':j<M.length),j<k+1→L[j]=M[j]):=⟨HG⟩
   clear HG HNX HNO
   go_wp2_with fail
   go_big_quiet (fail)
   go_wp2
   go_roundw
   case rel=>exact ⟨k+1,HK.out,by go_num,⟨HTG.out _,HQ.out⟩⟩
   case measure=>have:=HK.out;simp [intOf];omega
  ·obtain rfl:k=n:=by omega
   have ELM:Hd (L=M):=⟨List.ext_getElem (by rw [←HN.out.1,← HN.out.2.2.1]) (fun j q1 q2=>hT.out.2 j q1 q2 (by rw [HN.out.1];exact q1))⟩
   have HT2:Hd (TwB w wr A1 A2 #[.int .i64 x0,.int .i64 x1,.int .i64 x2,.int .i64 x3,.slice a1 k c1,.slice s1 m d1] #[.int .i64 y0,.int .i64 y1,.int .i64 y2,.int .i64 y3,.slice a2 k c2,.slice s2 m d2]):=⟨hT.out.1⟩
   clear hT
   go_wp2_with fail
   clear e1 e2
   go_loopw [6] (fun i wr=>∃ j:Nat,j≤m∧i=.int .i64 j∧Hd (TwB w wr A1 A2 #[.int .i64 x0,.int .i64 x1,.int .i64 x2,.int .i64 x3,.slice a1 k c1,.slice s1 m d1] #[.int .i64 y0,.int .i64 y1,.int .i64 y2,.int .i64 y3,.slice a2 k c2,.slice s2 m d2]∧∀ q (h:q<S.length) (h':q<Z.length),q<j→S[q]=Z[q])) (fun i _=>m - (intOf i).toNat)
   case atStart=>exact ⟨0,Nat.zero_le _,rfl,⟨HT2.out,fun j _ _ h=>absurd h (Nat.not_lt_zero _)⟩⟩
   case round =>
    obtain ⟨j,hj,rfl,hU⟩:=hrel
    clear HT2
    have f1:wr.cell? ⟨A1,5,none⟩=some (.slice s1 m d1):=hU.out.1.b1.cellv (v:=.slice s1 m d1) 5 rfl
    have f2:wr.cell? ⟨A2,5,none⟩=some (.slice s2 m d2):=hU.out.1.b2.cellv (v:=.slice s2 m d2) 5 rfl
    by_cases hlt:j<m
    ·have hjS:j<S.length:=by rw [←HN.out.2.1];exact hlt
     have hjZ:j<Z.length:=by rw [←HN.out.2.2.2];exact hlt
     have hj1:j<V1.length:=by rw [HS1.out.1];exact hjS
     have hj2:j<V2.length:=by rw [HS2.out.1];exact hjZ
     obtain ⟨hsc1,hrl1⟩:=HS1.out.2 wr hU.out.1.bel
     obtain ⟨hsc2,hrl2⟩:=HS2.out.2 wr hU.out.1.bel
     obtain ⟨g1,p1,rfl,hg1,K1⟩:=hsc1 (by omega)
     obtain ⟨g2,p2,rfl,hg2,K2⟩:=hsc2 (by omega)
     have R1:=hrl1 j hjS hj1
     have R2:=hrl2 j hjZ hj2
     obtain ⟨ar,cr,er⟩:∃ a c,V1[j]=.slice a S[j].rules.length c:=by obtain ⟨a,c,e,_⟩:=R1;exact ⟨a,c,e⟩
     obtain ⟨ar',cr',er'⟩:∃ a c,V2[j]=.slice a Z[j].rules.length c:=by obtain ⟨a,c,e,_⟩:=R2;exact ⟨a,c,e⟩
     rw [er] at R1
     rw [er'] at R2
     have x0':wr.cell? ⟨g1,p1+j*5,none⟩=some (.string S[j].name):=K1 j hjS hj1 0 (by decide)
     have x1':wr.cell? ⟨g1,p1+j*5+1,none⟩=some (.string S[j].level):=K1 j hjS hj1 1 (by decide)
     have x2':wr.cell? ⟨g1,p1+j*5+2,none⟩=some (.int .i64 S[j].rank):=K1 j hjS hj1 2 (by decide)
     have x3':wr.cell? ⟨g1,p1+j*5+3,none⟩=some (.int .i64 S[j].way):=K1 j hjS hj1 3 (by decide)
     have x4':wr.cell? ⟨g1,p1+j*5+4,none⟩=some (.slice ar S[j].rules.length cr):=(K1 j hjS hj1 4 (by decide)).trans (congrArg some er)
     have y0':wr.cell? ⟨g2,p2+j*5,none⟩=some (.string Z[j].name):=K2 j hjZ hj2 0 (by decide)
     have y1':wr.cell? ⟨g2,p2+j*5+1,none⟩=some (.string Z[j].level):=K2 j hjZ hj2 1 (by decide)
     have y2':wr.cell? ⟨g2,p2+j*5+2,none⟩=some (.int .i64 Z[j].rank):=K2 j hjZ hj2 2 (by decide)
     have y3':wr.cell? ⟨g2,p2+j*5+3,none⟩=some (.int .i64 Z[j].way):=K2 j hjZ hj2 3 (by decide)
     have y4':wr.cell? ⟨g2,p2+j*5+4,none⟩=some (.slice ar' Z[j].rules.length cr'):=(K2 j hjZ hj2 4 (by decide)).trans (congrArg some er')
     have SR:Hd (∀ W,Below wr.heap.size wr W→Calls Tryz.prog 36 #[.slice ar S[j].rules.length cr,.slice ar' Z[j].rules.length cr'] W fun e w'=>e=.returned (.bool (@decide (S[j].rules=Z[j].rules) (Classical.propDecidable _)))∧Drw W w'):=⟨fun W b=>by
      exact samer_dec (R1.carry b) (R2.carry b)⟩
     have hA1:=hU.out.1.b1.lt
     have hA2:=hU.out.1.b2.lt
     have HJ:Hd (j<m):=⟨hlt⟩
     have HNX:Hd (S[j]=Z[j]→∀ q (h:q<S.length) (h':q<Z.length),q<j+1→S[q]=Z[q]):=⟨fun e q q1 q2 hj=>by
      rcases Nat.lt_or_eq_of_le (Nat.le_of_lt_succ hj) with h | h
      ·exact hU.out.2 q q1 q2 h
      ·subst h;exact e⟩
     have HNO:Hd (S[j]≠Z[j]→bb=false):=⟨fun h=>HNE.out (.inr (.inr (.inr (.inr (.inr (fun e=>h (by subst e;rfl)))))))⟩
     have HTW:Hd (∀ W,Below wr.heap.size wr W→TwB w W A1 A2 #[.int .i64 x0,.int .i64 x1,.int .i64 x2,.int .i64 x3,.slice a1 k c1,.slice (some ⟨g1,p1,none⟩) m d1] #[.int .i64 y0,.int .i64 y1,.int .i64 y2,.int .i64 y3,.slice a2 k c2,.slice (some ⟨g2,p2,none⟩) m d2]):=⟨fun W b=>hU.out.1.grown b⟩
     clear K1 K2 R1 R2 er er' hU hsc1 hsc2 hrl1 hrl2
     generalize S[j]=s at *
     generalize Z[j]=z at *
     clear hjS hjZ hj1 hj2
     obtain ⟨q0,q1,q2,q3,q4⟩:=s
     obtain ⟨t0,t1,t2,t3,t4⟩:=z
     simp only at SR x0' x1' x2' x3' x4' y0' y1' y2' y3' y4'
     have HNB:Hd (@decide (q4=t4) (Classical.propDecidable _)=false→q4≠t4):=⟨fun h e=>by simp [e] at h⟩
     have HYB:Hd (@decide (q4=t4) (Classical.propDecidable _)=true→q4=t4):=⟨fun h=>by simpa using h⟩
     generalize @decide (q4=t4) (Classical.propDecidable _)=b4 at *
     generalize q4.length=nq4 at *
     generalize t4.length=nt4 at *
     have BX1:Hd (Below wr.heap.size wr ((wr.alloc (.cells #[.string q0,.string q1,.int .i64 q2,.int .i64 q3,.slice ar nq4 cr] 47)).alloc (.cells #[.string t0,.string t1,.int .i64 t2,.int .i64 t3,.slice ar' nt4 cr'] 47)).drew):=⟨(((Below.refl _ _).alloc (Nat.le_refl _) _).alloc (by simp) _).drew⟩
     have BX2:Hd (Below wr.heap.size wr ((wr.alloc (.cells #[.string t0,.string t1,.int .i64 t2,.int .i64 t3,.slice ar' nt4 cr'] 47)).alloc (.cells #[.string q0,.string q1,.int .i64 q2,.int .i64 q3,.slice ar nq4 cr] 47)).drew):=⟨(((Below.refl _ _).alloc (Nat.le_refl _) _).alloc (by simp) _).drew⟩
     have BY1:Hd (∀ q,Below wr.heap.size wr (World.drewN _ q)):=⟨fun q=>BX1.out.trans ⟨rfl,rfl,rfl,Nat.le_refl _,fun _ _=>rfl⟩⟩
     have BY2:Hd (∀ q,Below wr.heap.size wr (World.drewN _ q)):=⟨fun q=>BX2.out.trans ⟨rfl,rfl,rfl,Nat.le_refl _,fun _ _=>rfl⟩⟩
     go_wp2_with fail
     go_region_held (fun w'=>(w'.cell? ⟨A1,5,none⟩=some (.slice (some ⟨g1,p1,none⟩) m d1)∧w'.cell? ⟨A2,5,none⟩=some (.slice (some ⟨g2,p2,none⟩) m d2))∧(w'.cell? ⟨g1,p1+j*5,none⟩=some (.string q0)∧w'.cell? ⟨g1,p1+j*5+1,none⟩=some (.string q1)∧w'.cell? ⟨g1,p1+j*5+2,none⟩=some (.int .i64 q2)∧w'.cell? ⟨g1,p1+j*5+3,none⟩=some (.int .i64 q3)∧w'.cell? ⟨g1,p1+j*5+4,none⟩=some (.slice ar nq4 cr))∧(w'.cell? ⟨g2,p2+j*5,none⟩=some (.string t0)∧w'.cell? ⟨g2,p2+j*5+1,none⟩=some (.string t1)∧w'.cell? ⟨g2,p2+j*5+2,none⟩=some (.int .i64 t2)∧w'.cell? ⟨g2,p2+j*5+3,none⟩=some (.int .i64 t3)∧w'.cell? ⟨g2,p2+j*5+4,none⟩=some (.slice ar' nt4 cr'))) (go_keep) (fail)
     all_goals
      clear f1 f2 x0' x1' x2' x3' x4' y0' y1' y2' y3' y4'
      by_cases z0:q0=t0
      rotate_left
      ·have zb:=str_isnt z0
       have HF:Hd (bb=false):=⟨HNO.out (fun e=>z0 (by injection e))⟩
       clear HNO HNX z0
       go_wp2_with fail
       go_ret
       exact ⟨by rw [HF.out];rfl,(HTW.out _ (by first | exact BX1.out | exact BX2.out)).bel⟩
      subst z0
      by_cases z1:q1=t1
      rotate_left
      ·have zb:=str_isnt z1
       have HF:Hd (bb=false):=⟨HNO.out (fun e=>z1 (by injection e))⟩
       clear HNO HNX z1
       go_wp2_with fail
       go_ret
       exact ⟨by rw [HF.out];rfl,(HTW.out _ (by first | exact BX1.out | exact BX2.out)).bel⟩
      subst z1
      by_cases z2:q2=t2
      rotate_left
      ·have zb:(q2 != t2)=true:=by simp [z2]
       have HF:Hd (bb=false):=⟨HNO.out (fun e=>z2 (by injection e))⟩
       clear HNO HNX z2
       go_wp2_with fail
       go_ret
       exact ⟨by rw [HF.out];rfl,(HTW.out _ (by first | exact BX1.out | exact BX2.out)).bel⟩
      subst z2
      by_cases z3:q3=t3
      rotate_left
      ·have zb:(q3 != t3)=true:=by simp [z3]
       have HF:Hd (bb=false):=⟨HNO.out (fun e=>z3 (by injection e))⟩
       clear HNO HNX z3
       go_wp2_with fail
       go_ret
       exact ⟨by rw [HF.out];rfl,(HTW.out _ (by first | exact BX1.out | exact BX2.out)).bel⟩
      subst z3
      cases b4 with
      | false =>
       have HF:Hd (bb=false):=⟨HNO.out (fun e=>HNB.out rfl (by injection e))⟩
       clear HNO HNX HNB HYB
       go_wp2_with (go_at_call 36;refine (SR.out _ (by first | exact BX1.out | exact BX2.out)).mono ?_;rintro e w5 ⟨rfl,q,rfl⟩)
       go_ret
       exact ⟨by rw [HF.out];rfl,(HTW.out _ (by first | exact BY1.out _ | exact BY2.out _)).bel⟩
      | true =>
       obtain rfl:=HYB.out rfl
       have HQ:Hd _:=⟨HNX.out rfl⟩
       clear HNO HNX HNB HYB
       go_wp2_with (go_at_call 36;refine (SR.out _ (by first | exact BX1.out | exact BX2.out)).mono ?_;rintro e w5 ⟨rfl,q,rfl⟩)
       go_roundw
       case rel=>exact ⟨j+1,HJ.out,by go_num,⟨by first | exact HTW.out _ (BY1.out _) | exact HTW.out _ (BY2.out _),HQ.out⟩⟩
       case measure=>have:=HJ.out;simp [intOf];omega
    ·obtain rfl:j=m:=by omega
     have ESZ:S=Z:=List.ext_getElem (by rw [←HN.out.2.1,← HN.out.2.2.2]) (fun q q1 q2=>hU.out.2 q q1 q2 (by rw [HN.out.2.1];exact q1))
     have R:Hd (Below w.heap.size w wr):=⟨hU.out.1.bel⟩
     have HF:Hd (bb=true):=⟨HEQ.out Z0.out Z1.out Z2.out Z3.out ELM.out ESZ⟩
     clear hU ESZ
     go_wp2_with fail
     go_ret
     exact ⟨by rw [HF.out];rfl,R.out⟩
end Go.Proofs.YthkdbphgiobcdaaGreatDoor
