/-
  Lanes that are read whatever becomes of some blocks.
  Lanes that are copied by the program.
  Lanes that are copied by the reference; another lane in the place of one, by the program.
  Another lane in the place of one, by the program.
-/
import Derived.Test.YtlgibnmoogbdcaaGreatR10
namespace Go.Proofs.YtlgibnmoogbdcaaGreat
open Go.RowKit
theorem LsR.of_own {w:World} {B n:Nat} {v:Value} {Z:List Lz} (h:w.ownsRow B 62 2 v n (zCs Z)) (hz:∀ z∈Z,LzR w z) (hn:Z.length=n):∃ a c,v=.slice a n c∧LsR w a c (Z.map Prod.fst):=by
 rcases id h.2 with ⟨rfl,e⟩ | ⟨g,cap,cur,rfl,hb,hg,hc,r⟩
 ·subst e
  have:Z=[]:=List.eq_nil_of_length_eq_zero hn
  subst this
  exact ⟨_,0,rfl,LsR.nil w⟩
 ·refine ⟨some ⟨g,0,none⟩,cap,rfl,by rw [List.length_map,hn];exact hc,(fun e=>by cases e),Z,rfl,fun _=>⟨g,0,rfl,(h.lt g rfl).2,fun j u hj=>?_⟩,hz⟩
  have:=h.cells rfl j u hj
  rw [Go.WideShapes.add_plain] at this
  exact this
def StR (S:Nat→Prop) (w:World) (a:Option Addr) (c:Nat) (F:List Ln):Prop:=F.length≤c∧(a=none→c=0)∧∃ Z:List Lz,Z.map Prod.fst=F∧∀ W,Kept S w W→RowR W a (zCs Z)∧∀ z∈Z,LzR W z
theorem StR.read {S:Nat→Prop} {w W:World} {a:Option Addr} {c:Nat} {F:List Ln} (h:StR S w a c F) (k:Kept S w W):LsR W a c F:=by
 obtain ⟨h1,h2,Z,h3,h4⟩:=h
 exact ⟨h1,h2,Z,h3,(h4 W k).1,(h4 W k).2⟩
theorem StR.next {S:Nat→Prop} {w W:World} {a:Option Addr} {c:Nat} {F:List Ln} (h:StR S w a c F) (k:Kept S w W):StR S W a c F:=by
 obtain ⟨h1,h2,Z,h3,h4⟩:=h
 exact ⟨h1,h2,Z,h3,fun W' k'=>h4 W' (k.trans k')⟩
theorem LsR.st {S:Nat→Prop} {w w2:World} {a:Option Addr} {c:Nat} {F:List Ln} (h:LsR w a c F) (b:Below w.heap.size w w2) (hS:∀ j,S j→w.heap.size≤j):StR S w2 a c F:=by
 obtain ⟨h1,h2,Z,h3,h4,h5⟩:=h
 exact ⟨h1,h2,Z,h3,fun W k=>⟨h4.carry (b.trans (k.below b.size hS)),fun z hz=>(h5 z hz).carry (b.trans (k.below b.size hS))⟩⟩
theorem StR.row {S:Nat→Prop} {w:World} {a:Option Addr} {c k:Nat} {F:List Ln} (h:StR S w a c F) (hk:k≤F.length):∃ M:List Lz,M.map Prod.fst=F.take k∧M.length=k∧RowR w a (zCs M)∧(∀ z∈M,LzR w z)∧∀ (W:World) (B:Nat) (v:Value),W.ownsRow B 62 2 v (0+k) (zCs ([]++M))→Kept S w W→(∀ j,B≤j→¬ S j)→∃ a' c',v=.slice a' k c'∧StR S W a' c' (F.take k):=by
 obtain ⟨h1,h2,Z,h3,h4⟩:=h
 have hl:Z.length=F.length:=by rw [←h3,List.length_map]
 have hm:(Z.take k).map Prod.fst=F.take k:=by rw [List.map_take,h3]
 have hml:(Z.take k).length=k:=by rw [List.length_take];omega
 obtain ⟨r0,z0⟩:=h4 w (Kept.refl _ _)
 refine ⟨Z.take k,hm,hml,?_,fun z hz=>z0 z (List.mem_of_mem_take hz),fun W B v ho K hB=>?_⟩
 ·intro hn
  rw [←zCs_take] at hn ⊢
  obtain ⟨b,off,e,hb,hc⟩:=r0 (by intro e;rw [e] at hn;simp at hn)
  refine ⟨b,off,e,hb,fun j u hj=>hc j u ?_⟩
  rw [List.getElem?_take] at hj
  split at hj
  ·exact hj
  ·cases hj
 ·rw [List.nil_append,Nat.zero_add] at ho
  obtain ⟨a',c',e,r⟩:=LsR.of_own ho (fun z hz=>(h4 W K).2 z (List.mem_of_mem_take hz)) hml
  refine ⟨a',c',e,?_,?_,Z.take k,hm,fun W' K'=>?_⟩
  ·rw [←hm];exact r.1
  ·exact r.2.1
  ·have ho':=ownsRow_kept ho K' (fun j ej=>hB j (ho.lt j ej).1)
   have hz':∀ z∈Z.take k,LzR W' z:=fun z hz=>(h4 W' (K.trans K')).2 z (List.mem_of_mem_take hz)
   refine ⟨fun hn=>?_,hz'⟩
   rcases id ho'.2 with ⟨e2,e3⟩ | ⟨q,cap,cur,e2,hb,hg,hc,-⟩
   ·rw [e3] at hn;simp [zCs] at hn
   ·rw [e] at e2
    injection e2 with e2 e4 e5
    subst e2
    subst e
    refine ⟨q,0,rfl,(ho'.lt q rfl).2,fun j u hj=>?_⟩
    have:=ho'.cells rfl j u hj
    rw [Go.WideShapes.add_plain] at this
    exact this
theorem StR.take {S:Nat→Prop} {w:World} {a:Option Addr} {c:Nat} {F:List Ln} (h:StR S w a c F) (k:Nat):StR S w a c (F.take k):=by
 obtain ⟨h1,h2,Z,h3,h4⟩:=h
 refine ⟨Nat.le_trans (by rw [List.length_take];omega) h1,h2,Z.take k,by rw [List.map_take,h3],fun W K=>⟨fun hn=>?_,fun z hz=>(h4 W K).2 z (List.mem_of_mem_take hz)⟩⟩
 rw [←zCs_take] at hn ⊢
 obtain ⟨b,off,e,hb,hc⟩:=(h4 W K).1 (by intro e;rw [e] at hn;simp at hn)
 refine ⟨b,off,e,hb,fun j u hj=>hc j u ?_⟩
 rw [List.getElem?_take] at hj
 split at hj
 ·exact hj
 ·cases hj
theorem StR.low {S T:Nat→Prop} {w:World} {a:Option Addr} {c:Nat} {F:List Ln} (h:StR S w a c F) (e:∀ j,j<w.heap.size→T j→S j):StR T w a c F:=by
 obtain ⟨h1,h2,Z,h3,h4⟩:=h
 exact ⟨h1,h2,Z,h3,fun W k=>h4 W (k.mono e)⟩
theorem StR.high {S T:Nat→Prop} {w w2:World} {a:Option Addr} {c:Nat} {F:List Ln} (h:StR S w a c F) (b:Below w.heap.size w w2) (e:∀ j,j<w.heap.size→T j→S j):StR T w2 a c F:=by
 obtain ⟨h1,h2,Z,h3,h4⟩:=h
 exact ⟨h1,h2,Z,h3,fun W k=>h4 W ((Kept.of_below b S).then k e)⟩
theorem OwL.st {S:Nat→Prop} {w:World} {B:Nat} {v:Value} {F:List Ln} (h:OwL w B v F) (hS:∀ j,B≤j→¬ S j):∃ a c,v=.slice a F.length c∧StR S w a c F:=by
 obtain ⟨Z,hZ,ho,hz⟩:=h
 rcases id ho.2 with ⟨rfl,e⟩ | ⟨g,cap,cur,rfl,hb,hg,hc,r⟩
 ·have:F=[]:=List.eq_nil_of_length_eq_zero e
  subst this
  exact ⟨_,0,rfl,Nat.le_refl _,fun _=>rfl,[],rfl,fun W _=>⟨fun h=>absurd rfl h,fun _ h=>by cases h⟩⟩
 ·refine ⟨some ⟨g,0,none⟩,cap,rfl,hc,(fun e=>by cases e),Z,hZ,fun W k=>⟨fun _=>?_,fun z h=>((hz z h).kept k hS).lz⟩⟩
  have ho':=ownsRow_kept ho k (fun j ej=>hS j (ho.lt j ej).1)
  refine ⟨g,0,rfl,(ho'.lt g rfl).2,fun j u hj=>?_⟩
  have:=ho'.cells rfl j u hj
  rw [Go.WideShapes.add_plain] at this
  exact this
def FaS (S:Nat→Prop) (w:World) (r g n o:Int) (F:List Ln) (v:Value):Prop:=∃ a c,v=.agg #[.int .u64 r,.int .i64 g,.int .i64 n,.int .i64 o,.slice a F.length c]∧StR S w a c F
theorem FaS.read {S:Nat→Prop} {w W:World} {r g n o:Int} {F:List Ln} {v:Value} (h:FaS S w r g n o F v) (k:Kept S w W):FaV W r g n o F v:=by
 obtain ⟨a,c,e,s⟩:=h
 exact ⟨a,c,e,s.read k⟩
theorem FaO.st {S:Nat→Prop} {w:World} {B:Nat} {r g n o:Int} {F:List Ln} {v:Value} (h:FaO w B r g n o F v) (hS:∀ j,B≤j→¬ S j):FaS S w r g n o F v:=by
 obtain ⟨u,rfl,k⟩:=h
 obtain ⟨a,c,rfl,k'⟩:=k.st hS
 exact ⟨a,c,rfl,k'⟩
theorem resFa40 (tmps:Array Value) (w:World) (b:Nat) {r g n o:Int} {a:Option Addr} {l c:Nat} (ht:tmps[2]?.getD undef=.pointer (some ⟨b,0,none⟩)) (h:Blk w b 31 (faA r g n o (.slice a l c))) :
  (results Tryz.f74 tmps).run Tryz.prog w=.ok (.agg #[.int .u64 r,.int .i64 g,.int .i64 n,.int .i64 o,.slice a l c]) w:=by
 obtain ⟨⟨c0,c1,c2,c3,c4⟩,-⟩:=h.fair
 simp [results,Tryz.results74,go_sem,ht,c0,c1,c2,c3,c4]
set_option maxRecDepth 20000 in
set_option maxHeartbeats 1000000 in
theorem fcopied_ok (r g nn o:Int) (a:Option Addr) (c:Nat) (F:List Ln) (w:World) (h:LsR w a c F) (hf:Few F) :
  Calls Tryz.prog 74 #[.agg #[.int .u64 r,.int .i64 g,.int .i64 nn,.int .i64 o,.slice a F.length c]] w fun e w'=>(∃ v,e=.returned v∧FaO w' w.heap.size r g nn o F v)∧Below w.heap.size w w':=by
 obtain ⟨i0,hi,hz0,hz1,hz2⟩:=info_parts Tryz.info62
 obtain ⟨w2,hw2⟩:∃ w2,w2=(w.alloc (.cells #[.int .u64 r,.int .i64 g,.int .i64 nn,.int .i64 o,.slice a F.length c] 31)).alloc (.cells #[.int .u64 0,.int .i64 0,.int .i64 0,.int .i64 0,.slice none 0 0] 31):=⟨_,rfl⟩
 have BX:=boxes w 31 31 #[.int .u64 r,.int .i64 g,.int .i64 nn,.int .i64 o,.slice a F.length c] #[.int .u64 0,.int .i64 0,.int .i64 0,.int .i64 0,.slice none 0 0]
 rw [←hw2] at BX
 obtain ⟨B,N1,N2⟩:=BX
 have HF:Hd (Few F):=⟨hf⟩
 have hl:=hf.len
 obtain ⟨⟨x0,x1,x2,x3,x4⟩,-⟩:=Blk.fair N1
 obtain ⟨n,hn⟩:∃ n,F.length=n:=⟨_,rfl⟩
 have HL:Hd (F.length=n):=⟨hn⟩
 have HN:Hd (LsR w2 a c F∧Below w.heap.size w w2∧Blk w2 w.heap.size 31 (faA r g nn o (.slice a n c))∧Blk w2 (w.heap.size+1) 31 (faA 0 0 0 0 (.slice none 0 0))):=⟨h.carry B,B,by rw [←hn];exact N1,N2⟩
 rw [hn] at hl hw2 x4 ⊢
 clear hn N1 N2 B h hf x0 x1 x2 x3
 go_enter Tryz.func74,Tryz.ntmps74
 go_upto_region 1 with fail
 rw [←hw2]
 clear hw2
 have hs2:w.heap.size≤w2.heap.size:=HN.out.2.1.size
 go_upto_region 2 with (at_make;refine wpList_make_full _ rfl (.tmp 8) (.tmp 8) 29 rfl w.heap.size 62 i0 (.agg #[.int .u64 0,.slice none 0 0]) 2 Tryz.underlying29 hi hz0 hz1 _ _ _ _ n rfl rfl rfl rfl (by rw [hz2];omega) (by unfold maxLen;omega) hs2 ?_;intro w3 hown3 hgrow3;have hs3:=hgrow3.size)
 have C3:CpI w3 w3 w2.heap.size n 0 F:=CpI.start hown3
 have B23:Below w2.heap.size w2 w3:=(Below.refl _ _).grown hgrow3 (Nat.le_refl _) (by simp)
 have H3:Hd (LsR w3 a c F∧Below w.heap.size w w3∧Blk w3 w.heap.size 31 (faA r g nn o (.slice a n c))∧Blk w3 (w.heap.size+1) 31 (faA 0 0 0 0 (.slice none 0 0))∧w.heap.size+2≤w2.heap.size) :=
  ⟨HN.out.1.carry B23,HN.out.2.1.trans (B23.mono HN.out.2.1.size),HN.out.2.2.1.kept (Kept.of_below B23 (fun _=>False)) id,HN.out.2.2.2.kept (Kept.of_below B23 (fun _=>False)) id,by have:=HN.out.2.2.2.lt;omega⟩
 obtain ⟨⟨-,-,-,-,x4⟩,-⟩:=Blk.fair H3.out.2.2.1
 have HB:Hd (LsR w2 a c F∧Below w2.heap.size w2 w3):=⟨HN.out.1,B23⟩
 clear hown3 hgrow3 B23 HN hs2
 obtain ⟨q,hq⟩:∃ q,q=w2.heap.size:=⟨_,rfl⟩
 have HQ:Hd (q=w2.heap.size):=⟨hq⟩
 rw [←hq] at C3 H3 hs3 ⊢
 clear hq hi hz0 hz1 hz2
 obtain ⟨A,hA⟩:∃ A,A=w.heap.size:=⟨_,rfl⟩
 have HA:Hd (A=w.heap.size):=⟨hA⟩
 rw [←hA] at x4 H3 ⊢
 clear hA
 go_upto_region 3 with fail
 clear x4
 go_loopw [13] (fun i wr=>∃ k:Nat,k≤n∧i=.int .i64 k∧CpI w3 wr q n k F) (fun i _=>n - (intOf i).toNat)
 case atStart=>exact ⟨0,Nat.zero_le _,rfl,C3⟩
 case round =>
  clear C3
  obtain ⟨k,hk,rfl,CI⟩:=hrel
  obtain ⟨Z,-,-,hZb,hK⟩:=id CI
  have NA:Blk wr A 31 (faA r g nn o (.slice a n c)):=H3.out.2.2.1.kept hK (by have:=H3.out.2.2.2.2;omega)
  have NR:Blk wr (A+1) 31 (faA 0 0 0 0 (.slice none 0 0)):=H3.out.2.2.2.1.kept hK (by have:=H3.out.2.2.2.2;omega)
  have hql:=hZb.lt
  have hs3':q≤w3.heap.size:=hs3
  by_cases hlt:k<n
  ·have SR:LsR wr a c F:=HB.out.1.carry (HB.out.2.trans (hK.below (by rw [←HQ.out];exact hs3') (fun k e=>by rw [←HQ.out];omega)))
   obtain ⟨b1,o1,a1,c1,rfl,hb1,d0,d1,s1⟩:=SR.at (k:=k) (by rw [HL.out];exact hlt)
   obtain ⟨wa,hwa⟩:∃ wa,wa=wr.alloc (.cells #[.int .u64 (gl F k).s,.slice a1 (gl F k).L.length c1] 62):=⟨_,rfl⟩
   have BA:Below wr.heap.size wr wa:=by rw [hwa];exact alloc_below _ _
   have M1:Blk wa.drew wr.heap.size 62 (lnA (gl F k).s (.slice a1 (gl F k).L.length c1)):=by rw [hwa];exact Blk.new wr 62 _
   have CL:=clone_ok a1 c1 (gl F k).L wa.drew ((s1.carry BA).carry (Below.refl _ _).drew) (by have:=(HF.out.at k).2;omega)
   have HC:Hd (CpI w3 wr q n k F∧Below wr.heap.size wr wa.drew∧q<wr.heap.size):=⟨CI,BA.drew,hql⟩
   have NX:Hd (∀ w5 v5,OwnT w5 wa.drew.heap.size v5 (gl F k).L→Below wa.drew.heap.size wa.drew w5→(w5.cell? ⟨q,k*2,none⟩=some (.int .u64 0)∧w5.cell? ⟨q,k*2+1,none⟩=some (.slice none 0 0)∧w5.frozen? ⟨q,k*2,none⟩=false∧w5.frozen? ⟨q,k*2+1,none⟩=false∧q<w5.heap.size)∧CpI w3 ((w5.setCell ⟨q,k*2,none⟩ (.int .u64 (gl F k).s)).setCell ⟨q,k*2+1,none⟩ v5) q n (k+1) F):=⟨fun w5 v5 o5 b5 =>
    HC.out.1.next hlt HL.out.symm (HC.out.2.1.trans (b5.mono HC.out.2.1.size)) (o5.low (by have:=HC.out.2.2;have:=HC.out.2.1.size;omega))⟩
   clear CI SR s1 BA hZb hK NA NR
   generalize (gl F k).L.length=m at *
   generalize (gl F k).s=s at *
   go_upto_region 5 with fail
   rw [←hwa]
   clear hwa d0 d1
   obtain ⟨y,hy⟩:∃ y,y=wr.heap.size:=⟨_,rfl⟩
   have HY:Hd (q<y):=⟨by rw [hy];exact HC.out.2.2⟩
   rw [←hy] at M1 ⊢
   clear hy
   refine AnyG.start (T:=fun W=>Blk W y 62 (lnA s (.slice a1 m c1))) (U:=fun _=>True) (j0:=100) (by kernel_rfl) ?_
   generalize wa.drew=w4 at *
   have X0:Hd (∀ W,Blk W y 62 (lnA s (.slice a1 m c1))→W.cell? ⟨y,0,none⟩=some (.int .u64 s)):=⟨fun W q=>q.cellv 0 rfl⟩
   have X1:Hd (∀ W,Blk W y 62 (lnA s (.slice a1 m c1))→W.cell? ⟨y,1,none⟩=some (.slice a1 m c1)):=⟨fun W q=>q.cellv 1 rfl⟩
   refine .tq 0 18 M1 ?_;simp only [oqA,oqB,oqC]
   refine .tq 1 19 M1 ?_;simp only [oqA,oqB,oqC]
   refine .tq 2 20 M1 ?_;simp only [oqA,oqB,oqC]
   refine .tq 3 21 M1 ?_ (hy:=fun w hSw=>by have s:=X0.out w hSw;go_simp;rfl);simp only [oqA,oqB,oqC]
   refine .tq 4 22 M1 ?_;simp only [oqA,oqB,oqC]
   refine .tq 5 23 M1 ?_ (hy:=fun w hSw=>by have s:=X1.out w hSw;go_simp;rfl);simp only [oqA,oqB,oqC]
   refine AnyG.ready (rs:=[6]) (by kernel_rfl) (by simp) ?_
   refine AllG.cons rfl (fun K hK=>?_) AllG.nil
   go_simp
   refine CL.mono ?_
   rintro e w5 ⟨v5,rfl,o5,b5⟩
   have T3:Blk w5 y 62 (lnA s (.slice a1 m c1)):=M1.kept (Kept.of_below b5 (fun _=>False)) id
   refine hK.out _ _ ⟨T3,fun _=>trivial⟩ ?_
   clear hK K CL
   obtain ⟨⟨r0,r1,f0,f1,hq5⟩,CN⟩:=NX.out w5 v5 o5 b5
   obtain ⟨a5,c5,rfl,-⟩:=o5.read
   refine AnyG.ready (rs:=[7]) (by kernel_rfl) (by simp) ?_
   refine AllG.cons rfl (fun K hK=>?_) AllG.nil
   go_simp
   refine hK.out _ _ ⟨T3,fun _=>trivial⟩ ?_
   clear hK K
   refine AnyG.ready (rs:=[8]) (by kernel_rfl) (by simp) ?_
   refine AllG.cons rfl (fun K hK=>?_) AllG.nil
   go_simp
   refine hK.out _ _ ⟨T3,fun _=>trivial⟩ ?_
   clear hK K
   refine AnyG.ready (rs:=[9]) (by kernel_rfl) (by simp) ?_
   refine AllG.cons rfl (fun K hK=>?_) AllG.nil
   go_simp
   refine hK.out _ _ ⟨?_,fun _=>trivial⟩ ?_
   ·exact (T3.other (by have:=HY.out;intro e;simp at e;omega) _).other (by have:=HY.out;intro e;simp at e;omega) _
   clear hK K
   refine AnyG.done (by kernel_rfl) ?_ _
   have HCN:Hd _:=⟨CN⟩
   clear CN r0 r1 f0 f1 T3 o5 b5 X0 X1 M1
   go_wp2
   go_roundw
   case rel=>exact ⟨k+1,by omega,by go_num,HCN.out⟩
   case measure=>simp [intOf];omega
  ·obtain rfl:k=n:=by omega
   have hqa:=H3.out.2.2.2.2
   have OL:=CI.fin HL.out.symm (by unfold maxLen;omega) (Nat.le_refl q)
   obtain ⟨⟨x0,x1,x2,x3,x4⟩,xf0,xf1,xf2,xf3,xf4⟩:=NA.fair
   obtain ⟨q1,k1⟩:=fair_lanes NA (.slice (some ⟨q,0,none⟩) k k)
   have NR':=NR.kept k1 (by omega)
   obtain ⟨q2,k2⟩:=fair_set NR' r g nn o (.slice (some ⟨q,0,none⟩) k k)
   obtain ⟨⟨y0,y1,y2,y3,y4⟩,yf0,yf1,yf2,yf3,yf4⟩:=NR'.fair
   obtain ⟨⟨z0,z1,z2,z3,z4⟩,-⟩:=q1.fair
   have HE:Hd (_∧_∧_):=⟨q2,(OL.kept k1 (fun j hj e=>by have:=H3.out.2.2.2.2;omega)).kept k2 (fun j hj e=>by have:=H3.out.2.2.2.2;omega),(H3.out.2.1.trans (hK.below (B:=A) (by have:=H3.out.2.2.2.2;omega) (fun k e=>by have:=H3.out.2.2.2.2;omega))).trans ((k1.below (B:=A) (by omega) (fun k e=>by omega)).trans (k2.below (B:=A) (by have:=k1.size;omega) (fun k e=>by omega)))⟩
   clear OL NA NR NR' q1 q2 k1 k2 CI hK hZb
   go_wp2_with fail
   refine bodyPost_ret (resFa40 _ _ _ rfl HE.out.1) rfl ?_
   rw [←HA.out]
   exact ⟨⟨_,rfl,_,rfl,HE.out.2.1.low (by omega)⟩,HE.out.2.2⟩
theorem resFa11 (tmps:Array Value) (w:World) (b:Nat) {r g n o:Int} {a:Option Addr} {l c:Nat} (ht:tmps[2]?.getD undef=.pointer (some ⟨b,0,none⟩)) (h:Blk w b 31 (faA r g n o (.slice a l c))) :
  (results Tryz.f32 tmps).run Tryz.prog w=.ok (.agg #[.int .u64 r,.int .i64 g,.int .i64 n,.int .i64 o,.slice a l c]) w:=by
 obtain ⟨⟨c0,c1,c2,c3,c4⟩,-⟩:=h.fair
 simp [results,Tryz.results32,go_sem,ht,c0,c1,c2,c3,c4]
theorem resFa44 (tmps:Array Value) (w:World) (b:Nat) {r g n o:Int} {a:Option Addr} {l c:Nat} (ht:tmps[6]?.getD undef=.pointer (some ⟨b,0,none⟩)) (h:Blk w b 31 (faA r g n o (.slice a l c))) :
  (results Tryz.f76 tmps).run Tryz.prog w=.ok (.agg #[.int .u64 r,.int .i64 g,.int .i64 n,.int .i64 o,.slice a l c]) w:=by
 obtain ⟨⟨c0,c1,c2,c3,c4⟩,-⟩:=h.fair
 simp [results,Tryz.results76,go_sem,ht,c0,c1,c2,c3,c4]
set_option maxRecDepth 20000 in
set_option maxHeartbeats 1000000 in
theorem rcopy_ok (r g nn o:Int) (a:Option Addr) (c:Nat) (F:List Ln) (w:World) (h:LsR w a c F) (hf:Few F) :
  Calls Tryz.prog 32 #[.agg #[.int .u64 r,.int .i64 g,.int .i64 nn,.int .i64 o,.slice a F.length c]] w fun e w'=>(∃ v,e=.returned v∧FaO w' w.heap.size r g nn o F v)∧Below w.heap.size w w':=by
 obtain ⟨w2,hw2⟩:∃ w2,w2=(w.alloc (.cells #[.int .u64 r,.int .i64 g,.int .i64 nn,.int .i64 o,.slice a F.length c] 31)).alloc (.cells #[.int .u64 0,.int .i64 0,.int .i64 0,.int .i64 0,.slice none 0 0] 31):=⟨_,rfl⟩
 have BX:=boxes w 31 31 #[.int .u64 r,.int .i64 g,.int .i64 nn,.int .i64 o,.slice a F.length c] #[.int .u64 0,.int .i64 0,.int .i64 0,.int .i64 0,.slice none 0 0]
 rw [←hw2] at BX
 obtain ⟨B,N1,N2⟩:=BX
 have HF:Hd (Few F):=⟨hf⟩
 have hl:=hf.len
 obtain ⟨⟨x0,x1,x2,x3,x4⟩,-⟩:=Blk.fair N1
 obtain ⟨n,hn⟩:∃ n,F.length=n:=⟨_,rfl⟩
 have HL:Hd (F.length=n):=⟨hn⟩
 have HN:Hd (LsR w2 a c F∧Below w.heap.size w w2∧Blk w2 w.heap.size 31 (faA r g nn o (.slice a n c))∧Blk w2 (w.heap.size+1) 31 (faA 0 0 0 0 (.slice none 0 0))):=⟨h.carry B,B,by rw [←hn];exact N1,N2⟩
 rw [hn] at hl hw2 ⊢
 clear hn N1 N2 B h hf x0 x1 x2 x3
 go_enter Tryz.func32,Tryz.ntmps32
 go_upto_region 1 with fail
 rw [←hw2]
 clear hw2
 obtain ⟨A,hA⟩:∃ A,A=w.heap.size:=⟨_,rfl⟩
 have HA:Hd (A=w.heap.size):=⟨hA⟩
 rw [←hA] at HN ⊢
 clear hA
 have h2A:A+2≤w2.heap.size:=by have:=HN.out.2.2.2.lt;omega
 go_wp2
 go_loopw [3,4] (fun v i wr=>∃ k:Nat,k≤n∧i=.int .i64 k∧OwL wr w2.heap.size v (F.take k)∧Below w2.heap.size w2 wr) (fun _ i _=>n - (intOf i).toNat)
 case atStart=>exact ⟨0,Nat.zero_le _,rfl,OwL.nil _ _,Below.refl _ _⟩
 case round =>
  obtain ⟨k,hk,rfl,OK,p3⟩:=hrel
  have NA:Blk wr A 31 (faA r g nn o (.slice a n c)):=HN.out.2.2.1.kept (Kept.of_below p3 (fun _=>False)) id
  have NR:Blk wr (A+1) 31 (faA 0 0 0 0 (.slice none 0 0)):=HN.out.2.2.2.kept (Kept.of_below p3 (fun _=>False)) id
  by_cases hlt:k<n
  ·obtain ⟨⟨-,-,-,-,x4⟩,-⟩:=NA.fair
   obtain ⟨b1,o1,a1,c1,rfl,hb1,d0,d1,s1⟩:=(HN.out.1.carry p3).at (k:=k) (by rw [HL.out];exact hlt)
   have CP:=copy_ok (gl F k).s a1 c1 (gl F k).L wr s1 (by have:=(HF.out.at k).2;omega)
   have PS:=p3.size
   have HT:Hd (F.take (k+1)=F.take k ++ [gl F k]∧(F.take k).length=k):=⟨by rw [List.take_add_one,gl_get (by have:=HL.out;omega)];rfl,by rw [List.length_take];have:=HL.out;omega⟩
   have P:Hd (Below w2.heap.size w2 wr∧OwL wr w2.heap.size u3 (F.take k)):=⟨p3,OK⟩
   clear p3 OK NA NR s1
   generalize (gl F k).L.length=m at *
   obtain ⟨s,hs⟩:∃ s,s=(gl F k).s:=⟨_,rfl⟩
   have HS:Hd ((gl F k).s=s):=⟨hs.symm⟩
   rw [←hs] at d0 CP
   clear hs
   go_wp2_with fail
   go_at_call 64
   refine CP.mono ?_
   rintro e w5 ⟨⟨v5,rfl,o5⟩,b5⟩
   clear CP x4 d0 d1
   obtain ⟨w6,hw6⟩:∃ w6,w6=w5.alloc (.cells #[.int .u64 s,v5] 62):=⟨_,rfl⟩
   have B6:Below w5.heap.size w5 w6:=by rw [hw6];exact alloc_below _ _
   have B36:Below wr.heap.size wr w6:=b5.trans (B6.mono b5.size)
   have N6:Blk w6 w5.heap.size 62 (lnA s v5):=by rw [hw6];exact Blk.new _ _ _
   have O6:Hd (OwL w6 w2.heap.size u3 (F.take k)∧RowR w6 (some ⟨w5.heap.size,0,none⟩) (zCs [((gl F k),v5)])∧OwnT w6 w2.heap.size v5 (gl F k).L∧Below w2.heap.size w2 w6) :=
    ⟨P.out.2.kept (Kept.of_below B36 (fun _=>False)) (fun _ _ h=>h),lane_row N6 _ HS.out,(o5.kept (Kept.of_below B6 (fun _=>False)) (fun _ _ h=>h)).low PS,P.out.1.trans (B36.mono PS)⟩
   clear o5 b5 B6 B36 N6 P
   subst hw6
   go_wp2_with (at_builtin;refine wpl_own rfl _ _ rfl w2.heap.size _ (F.take k) [((gl F k),v5)] rfl O6.out.1 (some ⟨w5.heap.size,0,none⟩) 1 1 rfl rfl (by decide) (fun e=>by cases e) O6.out.2.1 (fun z hz=>by rw [List.mem_singleton.1 hz];exact O6.out.2.2.1) (by have:=HT.out.2;simp at *;omega) O6.out.2.2.2.size ?_;intro v7 w7 o7 g7)
   have R7:Hd (_∧_):=⟨o7,O6.out.1.below O6.out.2.2.2 O6.out.2.2.2.size g7⟩
   clear o7 g7
   go_wp2
   go_roundw
   case rel=>exact ⟨k+1,by omega,by go_num,by rw [HT.out.1];exact R7.out.1,R7.out.2⟩
   case measure=>simp [intOf];omega
  ·obtain rfl:k=n:=by omega
   rw [List.take_of_length_le (by have:=HL.out;omega)] at OK
   obtain ⟨a9,c9,e9,-⟩:=OK.read
   rw [HL.out] at e9
   subst e9
   obtain ⟨⟨x0,x1,x2,x3,x4⟩,xf0,xf1,xf2,xf3,xf4⟩:=NA.fair
   obtain ⟨q1,k1⟩:=fair_lanes NA (.slice a9 k c9)
   have NR':=NR.kept k1 (by omega)
   obtain ⟨q2,k2⟩:=fair_set NR' r g nn o (.slice a9 k c9)
   obtain ⟨⟨y0,y1,y2,y3,y4⟩,yf0,yf1,yf2,yf3,yf4⟩:=NR'.fair
   obtain ⟨⟨z0,z1,z2,z3,z4⟩,-⟩:=q1.fair
   have HE:Hd (_∧_∧_):=⟨q2,(OK.kept k1 (fun j hj e=>by omega)).kept k2 (fun j hj e=>by omega),(HN.out.2.1.trans (p3.mono (by omega))).trans ((k1.below (B:=A) (by have:=p3.size;omega) (fun k e=>by omega)).trans (k2.below (B:=A) (by have:=k1.size;have:=p3.size;omega) (fun k e=>by omega)))⟩
   clear OK NA NR NR' q1 q2 k1 k2 p3
   go_wp2_with fail
   refine bodyPost_ret (resFa11 _ _ _ rfl HE.out.1) rfl ?_
   rw [←HA.out]
   exact ⟨⟨_,rfl,_,rfl,HE.out.2.1.low (by omega)⟩,HE.out.2.2⟩
theorem ownsRow_other {w w':World} {B t m n b:Nat} {v:Value} {cs:List Value} {x:Array Value} (h:w.ownsRow B t m v n cs) (hb:Blk w b 31 x) (ht:t≠31) (k:Kept (fun j=>j=b) w w'):w'.ownsRow B t m v n cs:=by
 refine ownsRow_kept h k fun j e he=>?_
 rcases h.2 with ⟨rfl,-⟩ | ⟨g,cap,cur,rfl,-,hg,-⟩
 ·cases e
 ·injection e with e
  have e:g=j:=e
  subst e he
  exact hb.ne' hg (Ne.symm ht) rfl
theorem OwL.other {w w':World} {B b:Nat} {v:Value} {F:List Ln} {x:Array Value} (h:OwL w B v F) (hb:Blk w b 31 x) (k:Kept (fun j=>j=b) w w'):OwL w' B v F:=by
 obtain ⟨Z,hZ,hr,hz⟩:=h
 exact ⟨Z,hZ,ownsRow_other hr hb (by decide) k,fun z h=>ownsRow_other (hz z h) hb (by decide) k⟩
theorem OwL.put {w:World} {B:Nat} {v u:Value} {F:List Ln} (h:OwL w B v F) {k:Nat} (hk:k<F.length) (l:Ln) (o:OwnT w B u l.L) :
  ∃ q cap x y,v=.slice (some ⟨q,0,none⟩) F.length cap∧B≤q∧q<w.heap.size∧(w.cell? ⟨q,k*2,none⟩=some (.int .u64 x)∧w.cell? ⟨q,k*2+1,none⟩=some y∧w.frozen? ⟨q,k*2,none⟩=false∧w.frozen? ⟨q,k*2+1,none⟩=false)
   ∧ OwL ((w.setCell ⟨q,k*2,none⟩ (.int .u64 l.s)).setCell ⟨q,k*2+1,none⟩ u) B v (F.set k l)∧Kept (fun j=>j=q) w ((w.setCell ⟨q,k*2,none⟩ (.int .u64 l.s)).setCell ⟨q,k*2+1,none⟩ u):=by
 obtain ⟨Z,hZ,hr,hz⟩:=h
 have hl:Z.length=F.length:=by rw [←hZ,List.length_map]
 obtain ⟨vk,hv⟩:=map_fst_get hZ hk
 rcases id hr.2 with ⟨-,e⟩ | ⟨q,cap,cur,rfl,hb,hg,hc,hm,hs,ht⟩
 ·omega
 ·have hB:Blk w q 62 cur:=hg
  have K2:Kept (fun j=>j=q) w ((w.setCell ⟨q,k*2,none⟩ (.int .u64 l.s)).setCell ⟨q,k*2+1,none⟩ u):=((Kept.refl (fun j=>j=q) w).setCell _ _ (.inl rfl)).setCell _ _ (.inl rfl)
  have hcat:∀ j,j<2→w.cell? ⟨q,k*2+j,none⟩=(zC (gl F k,vk))[j]?:=fun j hj=>by
   rw [hB.cell,← zCs_at Z k _ hv j hj,← ht,List.getElem?_take_of_lt (by omega),Array.getElem?_toList]
  refine ⟨q,cap,(gl F k).s,vk,rfl,hb,hB.lt,⟨hcat 0 (by decide),hcat 1 (by decide),hB.frozen _,hB.frozen _⟩,⟨Z.set k (l,u),by rw [List.map_set,hZ],?_,fun z hzm=>?_⟩,K2⟩
  ·refine ⟨by rw [zCs_len,List.length_set,List.length_set,hl],.inr ⟨q,cap,(cur.setIfInBounds (k*2) (.int .u64 l.s)).setIfInBounds (k*2+1) u,by rw [List.length_set],hb,(hB.set _ _).set _ _,by rw [List.length_set];exact hc,hm,by simp [hs],?_⟩⟩
   rw [List.length_set,Array.toList_setIfInBounds,Array.toList_setIfInBounds,List.take_set,List.take_set,ht]
   exact zCs_set Z k _ u l rfl (by omega)
  ·rcases List.mem_or_eq_of_mem_set hzm with c | c
   ·exact OwnT.turn (hz z c) hg K2
   ·rw [c];exact OwnT.turn o hg K2
set_option maxRecDepth 20000 in
set_option maxHeartbeats 1000000 in
theorem with_ok (r g nn o:Int) (a:Option Addr) (c k:Nat) (F:List Ln) (s:Int) (a1:Option Addr) (c1:Nat) (L:List Tk) (B0:Nat) (w:World) (h:LsR w a c F) (hf:Few F) (hk:k<F.length) (hL:OwnT w B0 (.slice a1 L.length c1) L) (hB0:B0≤w.heap.size) :
  Calls Tryz.prog 76 #[.agg #[.int .u64 r,.int .i64 g,.int .i64 nn,.int .i64 o,.slice a F.length c],.int .i64 k,.agg #[.int .u64 s,.slice a1 L.length c1]] w fun e w'=>(∃ v,e=.returned v∧FaO w' B0 r g nn o (F.set k ⟨s,L⟩) v)∧Below w.heap.size w w':=by
 obtain ⟨w2,hw2⟩:∃ w2,w2=((w.alloc (.cells #[.int .u64 r,.int .i64 g,.int .i64 nn,.int .i64 o,.slice a F.length c] 31)).alloc (.cells #[.int .u64 s,.slice a1 L.length c1] 62)).alloc (.cells #[.int .u64 0,.int .i64 0,.int .i64 0,.int .i64 0,.slice none 0 0] 31):=⟨_,rfl⟩
 have BX:=boxes3 w 31 62 31 #[.int .u64 r,.int .i64 g,.int .i64 nn,.int .i64 o,.slice a F.length c] #[.int .u64 s,.slice a1 L.length c1] #[.int .u64 0,.int .i64 0,.int .i64 0,.int .i64 0,.slice none 0 0]
 rw [←hw2] at BX
 obtain ⟨B,N1,N2,N3⟩:=BX
 have CP:=fcopied_ok r g nn o a c F w2 (h.carry B) hf
 have hlen:=hf.len
 obtain ⟨⟨x0,x1,x2,x3,x4⟩,xf0,xf1,xf2,xf3,xf4⟩:=Blk.fair N1
 obtain ⟨n,hn⟩:∃ n,F.length=n:=⟨_,rfl⟩
 have HL:Hd (F.length=n):=⟨hn⟩
 have HN:Hd (Below w.heap.size w w2∧Blk w2 w.heap.size 31 (faA r g nn o (.slice a n c))∧Blk w2 (w.heap.size+1) 62 (lnA s (.slice a1 L.length c1))∧Blk w2 (w.heap.size+1+1) 31 (faA 0 0 0 0 (.slice none 0 0))∧OwnT w B0 (.slice a1 L.length c1) L):=⟨B,by rw [←hn];exact N1,N2,N3,hL⟩
 rw [hn] at hlen hk hw2 x4 CP ⊢
 clear hn N1 N2 N3 B h hf hL
 generalize L.length=m at *
 obtain ⟨A,hA⟩:∃ A,A=w.heap.size:=⟨_,rfl⟩
 have HA:Hd (A=w.heap.size):=⟨hA⟩
 go_enter Tryz.func76,Tryz.ntmps76
 go_upto_region 1 with fail
 rw [←hw2]
 clear hw2
 rw [←hA] at HN x0 x1 x2 x3 x4 xf0 xf1 xf2 xf3 xf4 hB0 ⊢
 clear hA
 have h2A:A+3≤w2.heap.size:=by have:=HN.out.2.2.2.1.lt;omega
 go_wp2_with fail
 go_at_call 74
 refine CP.mono ?_
 rintro e w3 ⟨⟨v3,rfl,v,rfl,o3⟩,b3⟩
 have NA:Blk w3 A 31 (faA r g nn o (.slice a n c)):=HN.out.2.1.kept (Kept.of_below b3 (fun _=>False)) id
 have NL:Blk w3 (A+1) 62 (lnA s (.slice a1 m c1)):=HN.out.2.2.1.kept (Kept.of_below b3 (fun _=>False)) id
 have NR:Blk w3 (A+1+1) 31 (faA 0 0 0 0 (.slice none 0 0)):=HN.out.2.2.2.1.kept (Kept.of_below b3 (fun _=>False)) id
 have hs3:=b3.size
 clear x0 x1 x2 x3 x4 xf0 xf1 xf2 xf3 xf4 CP
 obtain ⟨a9,c9,e9,-⟩:=o3.read
 rw [HL.out] at e9
 obtain ⟨⟨x0,x1,x2,x3,x4⟩,xf0,xf1,xf2,xf3,xf4⟩:=NA.fair
 subst e9
 obtain ⟨q1,k1⟩:=fair_set NA r g nn o (.slice a9 n c9)
 have b4:Below A w (((((w3.setCell ⟨A,0,none⟩ (.int .u64 r)).setCell ⟨A,1,none⟩ (.int .i64 g)).setCell ⟨A,2,none⟩ (.int .i64 nn)).setCell ⟨A,3,none⟩ (.int .i64 o)).setCell ⟨A,4,none⟩ (.slice a9 n c9)) :=
  (HN.out.1.trans (b3.mono (by omega))).trans (k1.below (B:=A) (by omega) (fun j e=>by omega))
 have o4:=(o3.kept k1 (fun j hj e=>by omega)).low (show B0≤w2.heap.size by omega)
 have NL4:=NL.kept k1 (by omega)
 have NR4:=NR.kept k1 (by omega)
 have OL4:OwnT _ B0 (.slice a1 m c1) L:=HN.out.2.2.2.2.kept (Kept.of_below (by rw [←HA.out];exact b4) (fun _=>False)) (fun _ _ h=>h)
 obtain ⟨q,cap,x,y,e5,hq0,hq,⟨y0,y1,yf0,yf1⟩,o5,k5⟩:=o4.put (k:=k) (by rw [HL.out];exact hk) ⟨s,L⟩ OL4
 rw [HL.out] at e5
 obtain ⟨rfl,rfl⟩:a9=some ⟨q,0,none⟩∧c9=cap:=by injection e5 with z1 z2 z3;exact ⟨z1,z3⟩
 have hqq:w2.heap.size≤q:=(o3.lt q rfl).1
 obtain ⟨⟨z0,z1,z2,z3,z4⟩,-⟩:=q1.fair
 obtain ⟨⟨l0,l1⟩,-⟩:=NL4.lane
 have q1':=q1.kept k5 (by omega)
 have NR5:=NR4.kept k5 (by omega)
 obtain ⟨q6,k6⟩:=fair_set NR5 r g nn o (.slice (some ⟨q,0,none⟩) n c9)
 obtain ⟨⟨t0,t1,t2,t3,t4⟩,-⟩:=q1'.fair
 obtain ⟨⟨r0,r1,r2,r3,r4⟩,rf0,rf1,rf2,rf3,rf4⟩:=NR5.fair
 have HE:Hd (_∧_∧_):=⟨q6,o5.other NR5 k6,b4.trans ((k5.below (B:=A) (by have:=k1.size;omega) (fun j e=>by omega)).trans (k6.below (B:=A) (by have:=k5.size;have:=k1.size;omega) (fun j e=>by omega)))⟩
 clear b4 NA NL NR NL4 NR4 OL4 o4 o3 o5 k1 k5 k6 q1 q1' q6 NR5 HN
 go_wp2_with fail
 refine bodyPost_ret (resFa44 _ _ _ rfl HE.out.1) rfl ?_
 rw [←HA.out]
 exact ⟨⟨_,rfl,_,rfl,HE.out.2.1⟩,HE.out.2.2⟩
end Go.Proofs.YtlgibnmoogbdcaaGreat
