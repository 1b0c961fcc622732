/-
  'Copy' of the reference: a configuration in memory of its own.
-/
import Derived.Test.YthkdbphgiobcdaaGreatDoorE15
import Derived.Deep.CutBlock
import Derived.Deep.DeepCutAuto
import Derived.Test.YthkdbphgiobcdaaGreatDoorE8
namespace Go.Proofs.YthkdbphgiobcdaaGreatDoor
open Go.RowKit
theorem res8 (tmps:Array Value) (w:World) (r0:Nat) (v0 v1 v2 v3 v4 v5:Value) (ht:tmps[2]?.getD undef=.pointer (some ⟨r0,0,none⟩)) (h:Blk w r0 25 #[v0,v1,v2,v3,v4,v5]) :
  (results Tryz.f9 tmps).run Tryz.prog w=.ok (.agg #[v0,v1,v2,v3,v4,v5]) w:=by
 have c0:=h.cellv 0 rfl
 have c1:=h.cellv 1 rfl
 have c2:=h.cellv 2 rfl
 have c3:=h.cellv 3 rfl
 have c4:=h.cellv 4 rfl
 have c5:=h.cellv 5 rfl
 simp at c0 c1 c2 c3 c4 c5
 simp [results,Tryz.results9,go_sem,ht,c0,c1,c2,c3,c4,c5]
theorem alloc_new2 (w:World) (a b:Obj) (t:Nat) (cs:Array Value):Blk (((w.alloc a).alloc b).alloc (.cells cs t)) (w.heap.size+1+1) t cs:=by
 have:=alloc_new (w.alloc a) b t cs
 simpa using this
theorem cp_lv {w w1 w2:World} {A:Nat} {z:Array Value} {x0 x1 x2 x3:Int} {v4 v5 vn v0:Value} {L:List Lv} (b1:Below w.heap.size w w1) (h1:Blk w1 A 25 #[.int .i64 x0,.int .i64 x1,.int .i64 x2,.int .i64 x3,v4,v5]) (hA:w.heap.size≤A) (h2:Blk w1 (A+1) 25 z)
  (o0:w1.ownsRow w.heap.size 43 10 v0 0 []) (ho:w2.ownsRow w.heap.size 43 10 vn L.length (lvCs L)) (hg:w1.grownBy w2 v0.ownBlock) (S:List Sc) :
  Blk w2 A 25 #[.int .i64 x0,.int .i64 x1,.int .i64 x2,.int .i64 x3,v4,v5]∧C1 w (w2.setCell ⟨A,4,none⟩ vn) A z x0 x1 x2 x3 vn v5 L S (.slice none 0 0) 0:=by
 have K:Kept (fun k=>v0.ownBlock=some k) w1 w2:=Kept.of_grown hg (fun _ h=>h)
 have o25:=off_own o0 (by decide:43≠25)
 have B1:=h1.kept K (fun e=>o25 A _ h1 e)
 have B2:=h2.kept K (fun e=>o25 _ _ h2 e)
 have KS:Kept (fun k=>k=A) w2 (w2.setCell ⟨A,4,none⟩ vn):=(Kept.refl (fun k=>k=A) w2).setCell _ _ (.inl rfl)
 have bl:Below w.heap.size w w2:=b1.trans (K.below b1.size (fun k hk=>(o0.lt k hk).1))
 refine ⟨B1,bl.trans (KS.below bl.size (fun k hk=>by rw [hk];exact hA)),?_,B2.kept KS (by omega),LvW.off ho KS (off_blk B1 (by decide)),[],⟨rfl,⟨rfl,.inl ⟨rfl,rfl⟩⟩,fun k hk=>absurd hk (Nat.not_lt_zero _),fun i j hi=>absurd hi (Nat.not_lt_zero _)⟩⟩
 have:=B1.set 4 vn
 simpa using this
theorem cp_none (w:World) (x0 x1 x2 x3:Int) (v5:Value) (S:List Sc) :
  C1 w (((w.alloc (.cells #[.int .i64 x0,.int .i64 x1,.int .i64 x2,.int .i64 x3,.slice (some ⟨w.heap.size+1+1,0,none⟩) 0 0,v5] 25)).alloc (.cells #[.int .i64 0,.int .i64 0,.int .i64 0,.int .i64 0,.slice none 0 0,.slice none 0 0] 25)).alloc (.cells #[] 43)) w.heap.size #[.int .i64 0,.int .i64 0,.int .i64 0,.int .i64 0,.slice none 0 0,.slice none 0 0] x0 x1 x2 x3 (.slice (some ⟨w.heap.size+1+1,0,none⟩) 0 0) v5 [] S (.slice none 0 0) 0 :=
 ⟨(((Below.refl _ _).alloc (Nat.le_refl _) _).alloc (by simp) _).alloc (by simp;omega) _,((Blk.new w 25 _).alloc _).alloc _,(alloc_new w _ 25 _).alloc _,
  ⟨rfl,.inr ⟨w.heap.size+1+1,0,#[],rfl,by omega,alloc_new2 w _ _ 43 #[],Nat.le_refl _,Nat.zero_le _,by simp,by simp [lvCs]⟩⟩,[],⟨rfl,⟨rfl,.inl ⟨rfl,rfl⟩⟩,fun k hk=>absurd hk (Nat.not_lt_zero _),fun i j hi=>absurd hi (Nat.not_lt_zero _)⟩⟩
theorem RlW.none (B:Nat) (w:World):RlW B w (.slice none 0 0) []:=⟨[],rfl,⟨rfl,.inl ⟨rfl,rfl⟩⟩,fun _ hk=>absurd hk (Nat.not_lt_zero _)⟩
set_option maxRecDepth 20000 in
set_option maxHeartbeats 16000000 in
theorem copy_ok (v:Value) (C:Cf) (w:World) (h:CfR w v C) (hb:Bnd 900 C):Calls Tryz.prog 9 #[v] w fun e w'=>FCf w C e w':=by
 obtain ⟨aL,cL,aS,cS,V,rfl,capL,capS,hL,hV,hS,hR⟩:=h.ex
 obtain ⟨x0,x1,x2,x3,L,S⟩:=C
 simp only at capL capS hL hV hS hR ⊢
 have hN:∀ s∈S,s.rules.length≤900∧∀ r∈s.rules,RlN 900 r:=hb.rl
 have n9:L.length≤900:=hb.lv
 have m9:S.length≤900:=hb.sc
 obtain ⟨i1,hi1,hy0,hy1,hy2⟩:=info_parts info37c
 have HI4:=info_parts info40c
 have HI7:=info_parts info43c
 have HS:Hd (V.length=S.length∧ScR w aS S V∧(∀ k (h:k<S.length) (h':k<V.length),RlR w V[k] S[k].rules)∧∀ s∈S,s.rules.length≤900∧∀ r∈s.rules,RlN 900 r):=⟨hV,hS,hR,hN⟩
 obtain ⟨n,hn⟩:∃ n,n=L.length:=⟨_,rfl⟩
 obtain ⟨m,hm⟩:∃ m,m=S.length:=⟨_,rfl⟩
 have HN:Hd (n=L.length∧m=S.length):=⟨hn,hm⟩
 have NWL:Hd (0<n→∃ b off,aL=some ⟨b,off,none⟩∧b<w.heap.size∧∀ i u,(lvCs L)[i]?=some u→w.cell? ⟨b,off+i,none⟩=some u):=⟨fun h=>hL.news (by omega)⟩
 rw [←hn,← hm]
 rw [←hn] at n9
 rw [←hm] at m9
 have T1:Tw w.heap.size (w.heap.size+1) #[.int .i64 x0,.int .i64 x1,.int .i64 x2,.int .i64 x3,.slice aL n cL,.slice aS m cS] #[.int .i64 0,.int .i64 0,.int .i64 0,.int .i64 0,.slice none 0 0,.slice none 0 0] (((w.alloc (.cells #[.int .i64 x0,.int .i64 x1,.int .i64 x2,.int .i64 x3,.slice aL n cL,.slice aS m cS] 25)).alloc (.cells #[.int .i64 0,.int .i64 0,.int .i64 0,.int .i64 0,.slice none 0 0,.slice none 0 0] 25)).alloc (.cells #[] 43)):=⟨((Blk.new w 25 _).alloc _).alloc _,(alloc_new w _ 25 _).alloc _⟩
 have AL:Below w.heap.size w (((w.alloc (.cells #[.int .i64 x0,.int .i64 x1,.int .i64 x2,.int .i64 x3,.slice aL n cL,.slice aS m cS] 25)).alloc (.cells #[.int .i64 0,.int .i64 0,.int .i64 0,.int .i64 0,.slice none 0 0,.slice none 0 0] 25)).alloc (.cells #[] 43)):=(((Below.refl _ _).alloc (Nat.le_refl _) _).alloc (by simp) _).alloc (by simp;omega) _
 have own0:(((w.alloc (.cells #[.int .i64 x0,.int .i64 x1,.int .i64 x2,.int .i64 x3,.slice aL n cL,.slice aS m cS] 25)).alloc (.cells #[.int .i64 0,.int .i64 0,.int .i64 0,.int .i64 0,.slice none 0 0,.slice none 0 0] 25)).alloc (.cells #[] 43)).ownsRow w.heap.size 43 10 (.slice (some ⟨w.heap.size+1+1,0,none⟩) 0 0) 0 [] :=
  ⟨by simp,.inr ⟨w.heap.size+1+1,0,#[],rfl,by omega,alloc_new2 w _ _ 43 #[],Nat.le_refl _,Nat.zero_le _,by simp,by simp⟩⟩
 have SZ:w.heap.size≤(((w.alloc (.cells #[.int .i64 x0,.int .i64 x1,.int .i64 x2,.int .i64 x3,.slice aL n cL,.slice aS m cS] 25)).alloc (.cells #[.int .i64 0,.int .i64 0,.int .i64 0,.int .i64 0,.slice none 0 0,.slice none 0 0] 25)).alloc (.cells #[] 43)).heap.size:=AL.size
 clear h hb hL hV hS hR hN capL capS hn hm
 /- the levels -/
 have LV:Hd (∀ vn w2,w2.ownsRow w.heap.size 43 10 vn L.length (lvCs L)→(((w.alloc (.cells #[.int .i64 x0,.int .i64 x1,.int .i64 x2,.int .i64 x3,.slice aL n cL,.slice aS m cS] 25)).alloc (.cells #[.int .i64 0,.int .i64 0,.int .i64 0,.int .i64 0,.slice none 0 0,.slice none 0 0] 25)).alloc (.cells #[] 43)).grownBy w2 (Value.slice (some ⟨w.heap.size+1+1,0,none⟩) 0 0).ownBlock→Blk w2 w.heap.size 25 #[.int .i64 x0,.int .i64 x1,.int .i64 x2,.int .i64 x3,.slice aL n cL,.slice aS m cS]∧C1 w (w2.setCell ⟨w.heap.size,4,none⟩ vn) w.heap.size #[.int .i64 0,.int .i64 0,.int .i64 0,.int .i64 0,.slice none 0 0,.slice none 0 0] x0 x1 x2 x3 vn (.slice aS m cS) L S (.slice none 0 0) 0):=⟨fun vn w2 ho hg=>cp_lv AL T1.b1 (Nat.le_refl _) T1.b2 own0 ho hg S⟩
 have HAL:Hd _:=⟨AL⟩
 clear T1 AL
 go_enter Tryz.func9,Tryz.ntmps9
 go_upto_region 1 with fail
 go_cut [] from 9 to 13 (fun wx=>∃ bL dL,C1 w wx w.heap.size #[.int .i64 0,.int .i64 0,.int .i64 0,.int .i64 0,.slice none 0 0,.slice none 0 0] x0 x1 x2 x3 (.slice bL n dL) (.slice aS m cS) L S (.slice none 0 0) 0)
 case first =>
  cases aL with
  | none =>
   obtain rfl:n=0:=by
    rcases Nat.eq_zero_or_pos n with h | h
    ·exact h
    ·obtain ⟨b,off,e,_⟩:=NWL.out h;cases e
   go_wp2_with (at_builtin;refine wpList_append_own_none rfl _ _ 22 rfl w.heap.size 43 i1 10 Tryz.underlying22 hi1 _ _ _ rfl own0 rfl ?_)
   go_meet
   have e0:L=[]:=List.length_eq_zero_iff.1 HN.out.1.symm
   subst e0
   exact ⟨_,_,cp_none w x0 x1 x2 x3 _ S⟩
  | some ad =>
   have NW:∀ j u,(lvCs L)[j]?=some u→(((w.alloc (.cells #[.int .i64 x0,.int .i64 x1,.int .i64 x2,.int .i64 x3,.slice (some ad) n cL,.slice aS m cS] 25)).alloc (.cells #[.int .i64 0,.int .i64 0,.int .i64 0,.int .i64 0,.slice none 0 0,.slice none 0 0] 25)).alloc (.cells #[] 43)).cell? (ad.add j)=some u:=fun j u hu=>by
    rcases Nat.eq_zero_or_pos n with h | h
    ·have:L=[]:=List.length_eq_zero_iff.1 (by rw [←HN.out.1];exact h)
     subst this
     simp [lvCs] at hu
    ·obtain ⟨b,off,e,hb,hcs⟩:=NWL.out h
     injection e with e
     subst e
     rw [Go.WideShapes.add_plain]
     exact (HAL.out.cell (p:=⟨b,off+j,none⟩) hb).trans (hcs j u hu)
   go_wp2_with (at_builtin;go_loud (refine wpList_append_own _ rfl _ _ 22 rfl w.heap.size 43 i1 (.agg #[.string ByteArray.empty,.int .i64 0,.int .i64 0,.int .i64 0,.int .i64 0,.int .i64 0,.int .i64 0,.int .i64 0,.int .i64 0,.int .i64 0]) 10 88 Tryz.underlying22 hi1 hy0 hy1 hy2 rfl (by decide) _ _ _ rfl own0 ad n cL (lvCs L) rfl (by rw [lvCs_len,HN.out.1]) NW (lvCs_one L) (by unfold maxLen;omega) (by omega) SZ ?_;intro v' w' hown hgr _;obtain ⟨B5,C5⟩:=LV.out v' w' (by rw [←HN.out.1];simpa using hown) hgr;have d4:=B5.cellv (v:=.slice (some ad) n cL) 4 rfl;have f4:=B5.frozen 4;obtain ⟨vb,vc,rfl,-⟩:=owns_read hown;simp only [Nat.zero_add]))
   go_meet
   exact ⟨vb,vc,by simpa using C5⟩
 case rest =>
  obtain ⟨bL,dL,hC0⟩:=hcut
  obtain ⟨A,hA⟩:∃ A,A=w.heap.size:=⟨_,rfl⟩
  rw [←hA] at hC0 ⊢
  have HA:Hd (A=w.heap.size):=⟨hA⟩
  have HC0:Hd _:=⟨hC0⟩
  clear hC0 hA LV own0 SZ HAL NWL
  go_wp2_with fail
  go_loopw [3,4] (fun o i wr=>∃ (k:Nat) (oa:Option Addr) (oc:Nat),k≤m∧o=.slice oa k oc∧i=.int .i64 k∧Hd (C1 w wr A #[.int .i64 0,.int .i64 0,.int .i64 0,.int .i64 0,.slice none 0 0,.slice none 0 0] x0 x1 x2 x3 (.slice bL n dL) (.slice aS m cS) L S (.slice oa k oc) k)) (fun _ i _=>m - (intOf i).toNat)
  case atStart=>exact ⟨0,none,0,Nat.zero_le _,rfl,rfl,HC0⟩
  case round =>
   obtain ⟨k,oa,oc,hk,rfl,rfl,hC⟩:=hrel
   clear HC0
   have e5:=hC.out.box.cellv (v:=.slice aS m cS) 5 rfl
   by_cases hlt:k<m
   ·have hkS:k<S.length:=by rw [←HN.out.2];exact hlt
    have hkV:k<V.length:=by rw [HS.out.1];exact hkS
    obtain ⟨b,off,rfl,hbb,hc⟩:=(HS.out.2.1.carry hC.out.bel) (by omega)
    have y0:wr.cell? ⟨b,off+k*5,none⟩=some (.string S[k].name):=hc k hkS hkV 0 (by decide)
    have y1:wr.cell? ⟨b,off+k*5+1,none⟩=some (.string S[k].level):=hc k hkS hkV 1 (by decide)
    have y2:wr.cell? ⟨b,off+k*5+2,none⟩=some (.int .i64 S[k].rank):=hc k hkS hkV 2 (by decide)
    have y3:wr.cell? ⟨b,off+k*5+3,none⟩=some (.int .i64 S[k].way):=hc k hkS hkV 3 (by decide)
    have y4:wr.cell? ⟨b,off+k*5+4,none⟩=some V[k]:=hc k hkS hkV 4 (by decide)
    obtain ⟨ra,rc,Q,eV,hQ,hnews,hru⟩:=(HS.out.2.2.1 k hkS hkV).five
    obtain ⟨rn9,hrN⟩:=HS.out.2.2.2 S[k] (List.getElem_mem hkS)
    obtain ⟨Vo,hVo⟩:=hC.out.out
    have hsz0:w.heap.size≤wr.heap.size:=hC.out.bel.size
    have STEP:Hd (∀ w1 w2 u v2,Below wr.heap.size wr w1→RlW wr.heap.size w1 u S[k].rules→w2.ownsRow w.heap.size 47 5 v2 (k+1) (scCs (S.take k) Vo++scC S[k] u)→w1.grownBy w2 (Value.slice oa k oc).ownBlock→C1 w w2 A #[.int .i64 0,.int .i64 0,.int .i64 0,.int .i64 0,.slice none 0 0,.slice none 0 0] x0 x1 x2 x3 (.slice bL n dL) (.slice (some ⟨b,off,none⟩) m cS) L S v2 (k+1)):=⟨fun w1 w2 u v2 b1 hu ho hg=>hC.out.step hkS hVo b1 hu ho hg hsz0⟩
    have HVO:Hd (∀ w1,Below wr.heap.size wr w1→ScW w.heap.size w1 (.slice oa k oc) (S.take k) Vo):=⟨fun w1 b1=>hVo.grown b1⟩
    have HBW:Hd (Below w.heap.size w wr):=⟨hC.out.bel⟩
    have HTK:Hd ((S.take k).length=k):=⟨by rw [List.length_take];omega⟩
    rw [eV] at y4
    clear hc hVo hC eV
    generalize S[k]=s at *
    obtain ⟨q0,q1,q2,q3,rs⟩:=s
    simp only at y0 y1 y2 y3 y4 hQ hnews hru rn9 hrN STEP
    obtain ⟨rn,hrn⟩:∃ rn,rn=rs.length:=⟨_,rfl⟩
    have HR:Hd (rn=rs.length∧Q.length=rs.length∧(0<rs.length→∃ b off,ra=some ⟨b,off,none⟩∧b<w.heap.size∧∀ i u,(q5C Q)[i]?=some u→w.cell? ⟨b,off+i,none⟩=some u)∧(∀ k (h:k<rs.length) (h':k<Q.length),RuR w Q[k].v0 Q[k].v1 Q[k].v2 Q[k].v3 Q[k].v4 rs[k])∧∀ r∈rs,RlN 900 r):=⟨hrn,hQ,hnews,hru,hrN⟩
    rw [←hrn] at y4 rn9
    have AL:=alloc_below wr (.cells #[.string q0,.string q1,.int .i64 q2,.int .i64 q3,.slice ra rn rc] 47)
    have I0:Hd (C2 wr (wr.alloc (.cells #[.string q0,.string q1,.int .i64 q2,.int .i64 q3,.slice ra rn rc] 47)) wr.heap.size #[.string q0,.string q1,.int .i64 q2,.int .i64 q3,.slice ra rn rc] rs (.slice none 0 0) 0):=⟨AL,Blk.new wr 47 _,RlW.none _ _⟩
    clear hQ hnews hru hrN hrn AL
    go_upto_region 9 with fail
    generalize wr.alloc _=wy0 at *
    clear y0 y1 y2 y3 y4
    obtain ⟨g,hg⟩:∃ g,g=wr.heap.size:=⟨_,rfl⟩
    have HG:Hd (g=wr.heap.size):=⟨hg⟩
    have I1:Hd (C2 wr wy0 g #[.string q0,.string q1,.int .i64 q2,.int .i64 q3,.slice ra rn rc] rs (.slice none 0 0) 0):=⟨by rw [hg];exact I0.out⟩
    rw [←hg]
    clear hg I0 e5
    obtain ⟨wo,rfl⟩:∃ wo:World,wo=wr:=⟨_,rfl⟩
    go_loopw [6,7] (fun o i wy=>∃ (j:Nat) (ya:Option Addr) (yc:Nat),j≤rn∧o=.slice ya j yc∧i=.int .i64 j∧Hd (C2 wo wy g #[.string q0,.string q1,.int .i64 q2,.int .i64 q3,.slice ra rn rc] rs (.slice ya j yc) j)) (fun _ i _=>rn - (intOf i).toNat)
    case atStart=>exact ⟨0,none,0,Nat.zero_le _,rfl,rfl,I1⟩
    case round =>
     obtain ⟨j,ya,yc,hj,rfl,rfl,hD⟩:=hrel
     clear I1
     have d4:=hD.out.box.cellv (v:=.slice ra rn rc) 4 rfl
     by_cases hlt2:j<rn
     ·have hjr:j<rs.length:=by rw [←HR.out.1];exact hlt2
      have hjQ:j<Q.length:=by rw [HR.out.2.1];exact hjr
      obtain ⟨b2,o2,rfl,hb2,hcs⟩:=HR.out.2.2.1 (by omega)
      have BW:Below w.heap.size w wr:=HBW.out.trans (hD.out.bel.mono HBW.out.size)
      have at5:∀ t (h:t<5),wr.cell? ⟨b2,o2+(j*5+t),none⟩=some ((q5L Q[j])[t]'h):=fun t ht=>by
       have h1:=q5C_at Q j t hjQ ht
       have h2:t<(q5L Q[j]).length:=ht
       rw [List.getElem?_eq_getElem h2] at h1
       exact (BW.cell (p:=⟨b2,o2+(j*5+t),none⟩) hb2).trans (hcs _ _ h1)
      have z0:wr.cell? ⟨b2,o2+j*5,none⟩=some Q[j].v0:=at5 0 (by decide)
      have z1:wr.cell? ⟨b2,o2+j*5+1,none⟩=some Q[j].v1:=at5 1 (by decide)
      have z2:wr.cell? ⟨b2,o2+j*5+2,none⟩=some Q[j].v2:=at5 2 (by decide)
      have z3:wr.cell? ⟨b2,o2+j*5+3,none⟩=some Q[j].v3:=at5 3 (by decide)
      have z4:wr.cell? ⟨b2,o2+j*5+4,none⟩=some Q[j].v4:=at5 4 (by decide)
      have RU:Hd _:=⟨(HR.out.2.2.2.1 j hjr hjQ).carry BW⟩
      have RN:Hd _:=⟨HR.out.2.2.2.2 rs[j] (List.getElem_mem hjr)⟩
      obtain ⟨Qj,hQj,hoj,hrj⟩:=hD.out.rls.ex
      have htk:(rs.take j).length=j:=by rw [List.length_take];omega
      have HO:Hd (∀ w1,Below wr.heap.size wr w1→w1.ownsRow wo.heap.size 54 5 (.slice ya j yc) j (q5C Qj)):=⟨fun w1 b1=>by have:=owns_off hoj (Kept.of_below b1 (fun _=>False)) (Off.none _ _);rw [htk] at this;exact this⟩
      have PUT:Hd (∀ w1 w2 q v2,Below wr.heap.size wr w1→RuW wo.heap.size w1 q rs[j]→w2.ownsRow wo.heap.size 54 5 v2 (j+1) (q5C Qj++q5L q)→w1.grownBy w2 (Value.slice ya j yc).ownBlock→C2 wo w2 g #[.string q0,.string q1,.int .i64 q2,.int .i64 q3,.slice (some ⟨b2,o2,none⟩) rn rc] rs v2 (j+1)):=⟨fun w1 w2 q v2 b1 hq ho hg=>by
       have K1:Kept (fun _=>False) wr w1:=Kept.of_below b1 _
       have ow:=owns_off hoj K1 (Off.none _ _)
       have P:=RlW.put (by rw [hQj]) ow (fun t h1 h2=>(hrj t h1 h2).off K1 (Off.none _ _)) hq (by rw [htk];exact ho) hg
       rw [List.take_append_getElem hjr] at P
       have D1:=hD.out.grown b1
       have KG:Kept (fun k=>(Value.slice ya j yc).ownBlock=some k) w1 w2:=Kept.of_grown hg (fun _ h=>h)
       exact ⟨D1.bel.trans (KG.below D1.bel.size (fun k hk=>(ow.lt k hk).1)),D1.box.kept KG (fun e=>off_own ow (by decide:54≠47) g _ D1.box e),P⟩⟩
      have HYL:Hd (∀ k,(Value.slice ya j yc).ownBlock=some k→k<wr.heap.size):=⟨fun k hk=>(hoj.lt k hk).2⟩
      have HK:Hd (j<rn):=⟨hlt2⟩
      have hso:wo.heap.size≤wr.heap.size:=hD.out.bel.size
      obtain ⟨⟨a0,p0,e0,-⟩,⟨a1',p1,e1,-⟩,⟨a2',p2,e2,-⟩,⟨a3,p3,e3,-⟩,⟨a4,p4,e4,-⟩⟩:=id RU.out
      clear at5 hcs hoj hrj hQj htk hD BW
      generalize Q[j]=q at *
      generalize rs[j]=r at *
      obtain ⟨qv0,qv1,qv2,qv3,qv4⟩:=q
      simp only at z0 z1 z2 z3 z4 RU e0 e1 e2 e3 e4
      generalize hn0:r.users.length=m0 at e0
      generalize hn1:r.groups.length=m1 at e1
      generalize hn2:r.verbs.length=m2 at e2
      generalize hn3:r.resources.length=m3 at e3
      generalize hn4:r.spaces.length=m4 at e4
      clear hn0 hn1 hn2 hn3 hn4
      have NB:=Blk.new wr 54 #[qv0,qv1,qv2,qv3,qv4]
      have AL:=alloc_below wr (.cells #[qv0,qv1,qv2,qv3,qv4] 54)
      subst e0 e1 e2 e3 e4
      go_upto_region 12 with fail
      clear z0 z1 z2 z3 z4 d4
      generalize wr.alloc _=w2 at *
      have DR:Below w2.heap.size w2 w2.drew:=⟨rfl,rfl,rfl,Nat.le_refl _,fun _ _=>rfl⟩
      have B0:Below wr.heap.size wr w2.drew:=AL.trans (DR.mono AL.size)
      have A0:=NB.kept (Kept.of_below DR (fun _=>False)) id
      refine AnyG.start (T:=fun w'=>Blk w' wr.heap.size 54 #[.slice a0 m0 p0,.slice a1' m1 p1,.slice a2' m2 p2,.slice a3 m3 p3,.slice a4 m4 p4]) (U:=fun _=>True) (j0:=100) (by kernel_rfl) ?_
      clear DR AL NB
      generalize w2.drew=w0 at *
      obtain ⟨i7,hi7,hw0,hw1,hw2⟩:=HI7
      refine .tq 0 38 A0 ?_;simp only [tkA,tkB,tkC]
      refine .tq 1 39 A0 ?_;simp only [tkA,tkB,tkC]
      refine .tq 2 40 A0 ?_ (hy:=fun w hSw=>by have s4:=hSw.cellv (v:=.slice a0 m0 p0) 0 rfl;go_simp;rfl);simp only [tkA,tkB,tkC]
      refine .tq 4 42 A0 ?_;simp only [tkA,tkB,tkC]
      refine .tq 5 43 A0 ?_ (hy:=fun w hSw=>by have s4:=hSw.cellv (v:=.slice a1' m1 p1) 1 rfl;go_simp;rfl);simp only [tkA,tkB,tkC]
      refine .tq 7 45 A0 ?_;simp only [tkA,tkB,tkC]
      refine .tq 8 46 A0 ?_ (hy:=fun w hSw=>by have s4:=hSw.cellv (v:=.slice a2' m2 p2) 2 rfl;go_simp;rfl);simp only [tkA,tkB,tkC]
      refine .tq 10 48 A0 ?_;simp only [tkA,tkB,tkC]
      refine .tq 11 49 A0 ?_ (hy:=fun w hSw=>by have s4:=hSw.cellv (v:=.slice a3 m3 p3) 3 rfl;go_simp;rfl);simp only [tkA,tkB,tkC]
      refine .tq 13 51 A0 ?_;simp only [tkA,tkB,tkC]
      refine .tq 14 52 A0 ?_ (hy:=fun w hSw=>by have s4:=hSw.cellv (v:=.slice a4 m4 p4) 4 rfl;go_simp;rfl);simp only [tkA,tkB,tkC]
      refine AnyG.ready (rs:=[3]) (by kernel_rfl) (by simp) ?_
      refine AllG.cons rfl (fun K hK=>?_) AllG.nil
      go_simp
      refine (words_ok _ _ w0 (RU.out.1.carry B0) (by have:=RN.out.1;omega)).mono ?_
      rintro e wk1 ⟨⟨u1,rfl,o1⟩,-,b1⟩
      obtain ⟨x1,d1,rfl,-⟩:=o1.shape
      have Ak1:=A0.kept (Kept.of_below b1 (fun _=>False)) id
      have Bk1:Below wr.heap.size wr wk1:=B0.trans (b1.mono B0.size)
      replace o1:=OwnT.mono (B':=wo.heap.size) o1 (Nat.le_trans hso B0.size)
      refine hK.out _ _ ⟨Ak1,fun _=>trivial⟩ ?_
      clear hK K b1 A0 B0
      refine AnyG.ready (rs:=[6]) (by kernel_rfl) (by simp) ?_
      refine AllG.cons rfl (fun K hK=>?_) AllG.nil
      go_simp
      refine (words_ok _ _ wk1 (RU.out.2.1.carry Bk1) (by have:=RN.out.2.1;omega)).mono ?_
      rintro e wk2 ⟨⟨u2,rfl,o2⟩,-,b2⟩
      obtain ⟨x2,d2,rfl,-⟩:=o2.shape
      have Ak2:=Ak1.kept (Kept.of_below b2 (fun _=>False)) id
      have Bk2:Below wr.heap.size wr wk2:=Bk1.trans (b2.mono Bk1.size)
      replace o1:=o1.off (Kept.of_below b2 (fun _=>False)) (Off.none _ _)
      replace o2:=OwnT.mono (B':=wo.heap.size) o2 (Nat.le_trans hso Bk1.size)
      refine hK.out _ _ ⟨Ak2,fun _=>trivial⟩ ?_
      clear hK K b2 Ak1 Bk1
      refine AnyG.ready (rs:=[9]) (by kernel_rfl) (by simp) ?_
      refine AllG.cons rfl (fun K hK=>?_) AllG.nil
      go_simp
      refine (words_ok _ _ wk2 (RU.out.2.2.1.carry Bk2) (by have:=RN.out.2.2.1;omega)).mono ?_
      rintro e wk3 ⟨⟨u3,rfl,o3⟩,-,b3⟩
      obtain ⟨x3,d3,rfl,-⟩:=o3.shape
      have Ak3:=Ak2.kept (Kept.of_below b3 (fun _=>False)) id
      have Bk3:Below wr.heap.size wr wk3:=Bk2.trans (b3.mono Bk2.size)
      replace o1:=o1.off (Kept.of_below b3 (fun _=>False)) (Off.none _ _)
      replace o2:=o2.off (Kept.of_below b3 (fun _=>False)) (Off.none _ _)
      replace o3:=OwnT.mono (B':=wo.heap.size) o3 (Nat.le_trans hso Bk2.size)
      refine hK.out _ _ ⟨Ak3,fun _=>trivial⟩ ?_
      clear hK K b3 Ak2 Bk2
      refine AnyG.ready (rs:=[12]) (by kernel_rfl) (by simp) ?_
      refine AllG.cons rfl (fun K hK=>?_) AllG.nil
      go_simp
      refine (words_ok _ _ wk3 (RU.out.2.2.2.1.carry Bk3) (by have:=RN.out.2.2.2.1;omega)).mono ?_
      rintro e wk4 ⟨⟨u4,rfl,o4⟩,-,b4⟩
      obtain ⟨x4,d4,rfl,-⟩:=o4.shape
      have Ak4:=Ak3.kept (Kept.of_below b4 (fun _=>False)) id
      have Bk4:Below wr.heap.size wr wk4:=Bk3.trans (b4.mono Bk3.size)
      replace o1:=o1.off (Kept.of_below b4 (fun _=>False)) (Off.none _ _)
      replace o2:=o2.off (Kept.of_below b4 (fun _=>False)) (Off.none _ _)
      replace o3:=o3.off (Kept.of_below b4 (fun _=>False)) (Off.none _ _)
      replace o4:=OwnT.mono (B':=wo.heap.size) o4 (Nat.le_trans hso Bk3.size)
      refine hK.out _ _ ⟨Ak4,fun _=>trivial⟩ ?_
      clear hK K b4 Ak3 Bk3
      refine AnyG.ready (rs:=[15]) (by kernel_rfl) (by simp) ?_
      refine AllG.cons rfl (fun K hK=>?_) AllG.nil
      go_simp
      refine (words_ok _ _ wk4 (RU.out.2.2.2.2.carry Bk4) (by have:=RN.out.2.2.2.2;omega)).mono ?_
      rintro e wk5 ⟨⟨u5,rfl,o5⟩,-,b5⟩
      obtain ⟨x5,d5,rfl,-⟩:=o5.shape
      have Ak5:=Ak4.kept (Kept.of_below b5 (fun _=>False)) id
      have Bk5:Below wr.heap.size wr wk5:=Bk4.trans (b5.mono Bk4.size)
      replace o1:=o1.off (Kept.of_below b5 (fun _=>False)) (Off.none _ _)
      replace o2:=o2.off (Kept.of_below b5 (fun _=>False)) (Off.none _ _)
      replace o3:=o3.off (Kept.of_below b5 (fun _=>False)) (Off.none _ _)
      replace o4:=o4.off (Kept.of_below b5 (fun _=>False)) (Off.none _ _)
      replace o5:=OwnT.mono (B':=wo.heap.size) o5 (Nat.le_trans hso Bk4.size)
      refine hK.out _ _ ⟨Ak5,fun _=>trivial⟩ ?_
      clear hK K b5 Ak4 Bk4
      refine .tq 16 54 Ak5 ?_;simp only [tkA,tkB,tkC]
      refine AnyG.ready (rs:=[17]) (by kernel_rfl) (by simp) ?_
      refine AllG.cons rfl (fun K hK=>?_) AllG.nil
      go_simp
      have AL6:=alloc_below wk5 (.cells #[.slice x1 r.users.length d1,.slice x2 r.groups.length d2,.slice x3 r.verbs.length d3,.slice x4 r.resources.length d4,.slice x5 r.spaces.length d5] 54)
      have Ak6:=Ak5.kept (Kept.of_below AL6 (fun _=>False)) id
      have Bk6:Below wr.heap.size wr (wk5.alloc (.cells #[.slice x1 r.users.length d1,.slice x2 r.groups.length d2,.slice x3 r.verbs.length d3,.slice x4 r.resources.length d4,.slice x5 r.spaces.length d5] 54)):=Bk5.trans (AL6.mono Bk5.size)
      replace o1:=o1.off (Kept.of_below AL6 (fun _=>False)) (Off.none _ _)
      replace o2:=o2.off (Kept.of_below AL6 (fun _=>False)) (Off.none _ _)
      replace o3:=o3.off (Kept.of_below AL6 (fun _=>False)) (Off.none _ _)
      replace o4:=o4.off (Kept.of_below AL6 (fun _=>False)) (Off.none _ _)
      replace o5:=o5.off (Kept.of_below AL6 (fun _=>False)) (Off.none _ _)
      have NW:=World.news_of_block (Blk.new wk5 54 #[.slice x1 r.users.length d1,.slice x2 r.groups.length d2,.slice x3 r.verbs.length d3,.slice x4 r.resources.length d4,.slice x5 r.spaces.length d5])
      refine hK.out _ _ ⟨Ak6,fun _=>trivial⟩ ?_
      clear hK K AL6 Ak5 Bk5
      generalize wk5.alloc (.cells #[.slice x1 r.users.length d1,.slice x2 r.groups.length d2,.slice x3 r.verbs.length d3,.slice x4 r.resources.length d4,.slice x5 r.spaces.length d5] 54)=wk6 at *
      generalize wk5.heap.size=gk6 at *
      refine AnyG.ready (rs:=[18]) (by kernel_rfl) (by simp) ?_
      refine AllG.cons rfl (fun K hK=>?_) AllG.nil
      have RW:RuW wo.heap.size wk6 ⟨.slice x1 r.users.length d1,.slice x2 r.groups.length d2,.slice x3 r.verbs.length d3,.slice x4 r.resources.length d4,.slice x5 r.spaces.length d5⟩ r:=⟨o1,o2,o3,o4,o5⟩
      have ON:∀ u∈(#[.slice x1 r.users.length d1,.slice x2 r.groups.length d2,.slice x3 r.verbs.length d3,.slice x4 r.resources.length d4,.slice x5 r.spaces.length d5]:Array Value).toList,u.oneCell'=true:=q5L_one RW
      have OW:=HO.out wk6 Bk6
      have szk:wo.heap.size≤wk6.heap.size:=Nat.le_trans hso Bk6.size
      clear o1 o2 o3 o4 o5
      refine step_append_lies wk6 rfl (.tmp 38) (.tmp 55) 45 rfl wo.heap.size 54 i7 (.agg #[.slice none 0 0,.slice none 0 0,.slice none 0 0,.slice none 0 0,.slice none 0 0]) 5 120 Tryz.underlying45 hi7 hw0 hw1 hw2 rfl (by decide) _ _ _ (by simp [Act.eval]) OW ⟨gk6,0,none⟩ 1 1 (#[.slice x1 r.users.length d1,.slice x2 r.groups.length d2,.slice x3 r.verbs.length d3,.slice x4 r.resources.length d4,.slice x5 r.spaces.length d5]:Array Value).toList (by simp [Act.eval]) rfl NW ON (by decide) (by unfold maxLen;omega) (by omega) szk _ rfl ?_
      intro q8 cap8 w8 hown hgrow hat hlt8
      have A8:=Ak6.kept (Kept.of_grown (S:=fun k=>(Value.slice ya j yc).ownBlock=some k) hgrow (fun k e=>e)) (fun e=>Nat.not_lt_of_le (Nat.le_refl _) (by have h1:=HYL.out _ e;exact h1))
      have HX:Hd _:=⟨PUT.out wk6 w8 _ _ Bk6 RW hown hgrow⟩
      refine hK.out _ _ ⟨A8,fun _=>trivial⟩ ?_
      clear hK K hown hgrow PUT
      refine AnyG.putAt 56 rfl ?_
      simp only [List.setIfInBounds_toArray,List.set_cons_zero,List.set_cons_succ]
      refine .tq 19 6 A8 ?_;simp only [tkA,tkB,tkC]
      refine AnyG.done (by kernel_rfl) ?_ _
      go_wp2_with fail
      refine ⟨⟨j+1,some ⟨q8,0,none⟩,cap8,HK.out,rfl,by go_num,HX⟩,?_⟩
      have:=HK.out;simp [intOf];omega
     ·obtain rfl:j=rn:=by omega
      have RLS:RlW wo.heap.size wr (.slice ya j yc) rs:=by
       have h1:=hD.out.rls
       rw [List.take_of_length_le (by rw [HR.out.1];exact Nat.le_refl _)] at h1
       exact h1
      have BX:=hD.out.box
      have KS:Kept (fun t=>t=g) wr (wr.setCell ⟨g,4,none⟩ (.slice ya j yc)):=(Kept.refl (fun t=>t=g) wr).setCell _ _ (.inl rfl)
      have b1:Below wo.heap.size wo (wr.setCell ⟨g,4,none⟩ (.slice ya j yc)):=hD.out.bel.trans (KS.below hD.out.bel.size (fun t ht=>by rw [ht,HG.out];exact Nat.le_refl _))
      have AL:=alloc_below (wr.setCell ⟨g,4,none⟩ (.slice ya j yc)) (.cells #[.string q0,.string q1,.int .i64 q2,.int .i64 q3,.slice ya j yc] 47)
      have b2:Below wo.heap.size wo ((wr.setCell ⟨g,4,none⟩ (.slice ya j yc)).alloc (.cells #[.string q0,.string q1,.int .i64 q2,.int .i64 q3,.slice ya j yc] 47)):=b1.trans (AL.mono b1.size)
      have RL2:Hd (RlW wo.heap.size ((wr.setCell ⟨g,4,none⟩ (.slice ya j yc)).alloc (.cells #[.string q0,.string q1,.int .i64 q2,.int .i64 q3,.slice ya j yc] 47)) (.slice ya j yc) rs∧Below wo.heap.size wo ((wr.setCell ⟨g,4,none⟩ (.slice ya j yc)).alloc (.cells #[.string q0,.string q1,.int .i64 q2,.int .i64 q3,.slice ya j yc] 47))):=⟨(RLS.off KS (off_blk BX (by decide)) (off_blk BX (by decide))).off (Kept.of_below AL (fun _=>False)) (Off.none _ _) (Off.none _ _),b2⟩
      have OW:=(HVO.out _ b2).own
      rw [HTK.out] at OW
      have NW:=World.news_of_block (Blk.new (wr.setCell ⟨g,4,none⟩ (.slice ya j yc)) 47 #[.string q0,.string q1,.int .i64 q2,.int .i64 q3,.slice ya j yc])
      have ON:∀ u∈(#[.string q0,.string q1,.int .i64 q2,.int .i64 q3,.slice ya j yc]:Array Value).toList,u.oneCell'=true:=scC_one RLS ⟨q0,q1,q2,q3,rs⟩
      have SZ2:w.heap.size≤((wr.setCell ⟨g,4,none⟩ (.slice ya j yc)).alloc (.cells #[.string q0,.string q1,.int .i64 q2,.int .i64 q3,.slice ya j yc] 47)).heap.size:=Nat.le_trans hsz0 b2.size
      obtain ⟨i4,hi4,hx0,hx1,hx2⟩:=HI4
      have d0:=BX.cellv (v:=.string q0) 0 rfl
      have d1:=BX.cellv (v:=.string q1) 1 rfl
      have d2:=BX.cellv (v:=.int .i64 q2) 2 rfl
      have d3:=BX.cellv (v:=.int .i64 q3) 3 rfl
      have f4:=BX.frozen 4
      have HK:Hd (k<m):=⟨hlt⟩
      rw [show (wr.setCell ⟨g,4,none⟩ (.slice ya j yc)).heap.size=wr.heap.size by simp] at NW
      clear RLS BX KS b1 AL b2 hD HVO
      go_wp2_with (at_builtin;go_loud (refine wpList_append_own _ rfl _ _ 23 rfl w.heap.size 47 i4 (.agg #[.string ByteArray.empty,.string ByteArray.empty,.int .i64 0,.int .i64 0,.slice none 0 0]) 5 72 Tryz.underlying23 hi4 hx0 hx1 hx2 rfl (by decide) _ _ _ rfl OW ⟨wr.heap.size,0,none⟩ 1 1 (#[.string q0,.string q1,.int .i64 q2,.int .i64 q3,.slice ya j yc]:Array Value).toList rfl rfl NW ON (by unfold maxLen;omega) (by omega) SZ2 ?_;intro v3 w3 h3 g3 _))
      have C3:Hd _:=⟨STEP.out _ w3 (.slice ya j yc) v3 RL2.out.2 RL2.out.1 h3 g3⟩
      obtain ⟨va,vc,rfl,-⟩:=owns_read h3
      clear STEP RL2 h3 g3 OW NW ON SZ2 d0 d1 d2 d3 d4 f4
      go_wp2_with fail
      refine ⟨⟨k+1,va,vc,HK.out,rfl,by go_num,C3⟩,?_⟩
      have:=HK.out;simp [intOf];omega
   ·obtain rfl:k=m:=by omega
    obtain ⟨Vo,hVo⟩:=hC.out.out
    rw [List.take_of_length_le (by rw [HN.out.2];exact Nat.le_refl _)] at hVo
    have BX:=hC.out.box
    have RS:=hC.out.res
    have KS:Kept (fun t=>t=A) wr (wr.setCell ⟨A,5,none⟩ (.slice oa k oc)):=(Kept.refl (fun t=>t=A) wr).setCell _ _ (.inl rfl)
    have R1:=RS.kept KS (by omega)
    have B1:Blk (wr.setCell ⟨A,5,none⟩ (.slice oa k oc)) A 25 #[.int .i64 x0,.int .i64 x1,.int .i64 x2,.int .i64 x3,.slice bL n dL,.slice oa k oc]:=by have:=BX.set 5 (.slice oa k oc);simpa using this
    have M:Hd _:=⟨six_set R1 (.int .i64 x0) (.int .i64 x1) (.int .i64 x2) (.int .i64 x3) (.slice bL n dL) (.slice oa k oc)⟩
    have l1:Hd (LvW w.heap.size (wr.setCell ⟨A,5,none⟩ (.slice oa k oc)) (.slice bL n dL) L∧ScW w.heap.size (wr.setCell ⟨A,5,none⟩ (.slice oa k oc)) (.slice oa k oc) S Vo∧Blk (wr.setCell ⟨A,5,none⟩ (.slice oa k oc)) (A+1) 25 #[.int .i64 0,.int .i64 0,.int .i64 0,.int .i64 0,.slice none 0 0,.slice none 0 0]∧Below w.heap.size w (wr.setCell ⟨A,5,none⟩ (.slice oa k oc))):=⟨LvW.off hC.out.lv KS (off_blk BX (by decide)),ScW.off hVo KS (off_blk BX (by decide)) (off_blk BX (by decide)) (off_blk BX (by decide)),R1,hC.out.bel.trans (KS.below hC.out.bel.size (fun t ht=>by rw [ht,HA.out];exact Nat.le_refl _))⟩
    have f5:=BX.frozen 5
    have d0:=B1.cellv (v:=.int .i64 x0) 0 rfl
    have d1:=B1.cellv (v:=.int .i64 x1) 1 rfl
    have d2:=B1.cellv (v:=.int .i64 x2) 2 rfl
    have d3:=B1.cellv (v:=.int .i64 x3) 3 rfl
    have d4:=B1.cellv (v:=.slice bL n dL) 4 rfl
    have d5:=B1.cellv (v:=.slice oa k oc) 5 rfl
    have r0:=R1.cellv (v:=.int .i64 0) 0 rfl
    have r1:=R1.cellv (v:=.int .i64 0) 1 rfl
    have r2:=R1.cellv (v:=.int .i64 0) 2 rfl
    have r3:=R1.cellv (v:=.int .i64 0) 3 rfl
    have r4:=R1.cellv (v:=.slice none 0 0) 4 rfl
    have r5:=R1.cellv (v:=.slice none 0 0) 5 rfl
    have s0:=R1.frozen 0
    have s1:=R1.frozen 1
    have s2:=R1.frozen 2
    have s3:=R1.frozen 3
    have s4:=R1.frozen 4
    have s5:=R1.frozen 5
    clear KS R1 B1 BX RS hVo hC
    go_wp2_with fail
    obtain ⟨m0,k0⟩:=M.out
    obtain ⟨hlv,hsc,hr0,hbel⟩:=l1.out
    refine bodyPost_ret (res8 _ _ (A+1) _ _ _ _ _ _ rfl m0) rfl ⟨⟨_,rfl,_,_,Vo,rfl,LvW.off hlv k0 (off_blk hr0 (by decide)),ScW.off hsc k0 (off_blk hr0 (by decide)) (off_blk hr0 (by decide)) (off_blk hr0 (by decide))⟩,?_⟩
    exact hbel.trans (k0.below hbel.size (fun t ht=>by have:=HA.out;omega))
end Go.Proofs.YthkdbphgiobcdaaGreatDoor
