/-
  Whoever may go is dispatched, by the program.
  A step of a level: what it leaves, and who came out of it.
-/
import Derived.Test.YtlgibnmoogbdcaaGreatR34
import Derived.Test.YtlgibnmoogbdcaaGreatR26
import Derived.Test.YtlgibnmoogbdcaaGreatR36
namespace Go.Proofs.YtlgibnmoogbdcaaGreat
open Go.RowKit
def slN:Value→Nat
 | .slice _ n _=>n
 | _=>0
theorem dsI_yes {s:St} (h:dsC s=true):dsI s=ftN s (tkT s.x).wid:=by
 unfold dsC at h
 rw [Bool.and_eq_true] at h
 have:=of_decide_eq_true h.1
 exact if_neg (by omega)
theorem OwnT.row {w:World} {B:Nat} {v:Value} {L:List Tk} {n:Nat} (h:OwnT w B v L) (hn:n=L.length):w.ownsRow B 36 5 v n (tkCs L):=by
 subst hn
 exact h
theorem D8.sized {w0 W:World} {S:Nat→Prop} {A B:Nat} {cs:Array Value} {F:List Ln} {a7:Option Addr} {c7:Nat} {R K:List Tk} {u tv:Value} (h:D8 w0 S A B cs F a7 c7 R K u tv W):A+2≤W.heap.size:=Nat.le_trans h.lA h.hB
theorem DsI.next {w0 W:World} {S:Nat→Prop} {A B:Nat} {s0 s:St} {L:List Tk} {u tv v:Value} {a:Option Addr} {c:Nat} (ev:dsR (dsN s) s L=dsA s0) (few:Few s.x.F) (cnt:(allT s).length≤1800) (num:L.length≤s.run.length) (hc:dsC s=true)
  (h:D8 w0 S A B (stB (dsX s) v u) (dsX s).x.F a c (s.run ++ [dsT s]) (L ++ [dsT s]) u tv W) (hv:v=.slice a (dsX s).x.F.length c):DsI w0 S A B s0 (dsX s) (L ++ [dsT s]) tv W :=
 ⟨⟨a,c,u,by rw [←hv];exact h⟩,by rw [←dsA_step hc];exact ev,tkX_few few,by rw [dsX_len hc];exact cnt,by show _≤(s.run ++ [dsT s]).length;simp only [List.length_append,List.length_singleton];omega⟩
theorem OwnT.mk {w:World} {B:Nat} {v:Value} {L:List Tk} {t:Tk} {n:Nat} (hn:L.length=n) (h:w.ownsRow B 36 5 v (n+1) (tkCs L++tkC t)):OwnT w B v (L ++ [t]):=by
 subst hn
 exact OwnT.add h
set_option maxRecDepth 20000 in
set_option maxHeartbeats 4000000 in
theorem dispatch_st (s0:St) (ax:Option Addr) (cx:Nat) (ar:Option Addr) (cr:Nat) (w:World) (S:Nat→Prop) (hx:StR S w ax cx s0.x.F) (hr:SlR w ar cr s0.run) (hS:∀ j,S j→j<w.heap.size) (hf:Few s0.x.F) (hl:(allT s0).length≤1800) :
  Calls Tryz.prog 12 #[.agg (stB s0 (.slice ax s0.x.F.length cx) (.slice ar s0.run.length cr))] w fun e w'=>(∃ v u,e=.returned (.tuple #[v,u])∧StV S w' (dsA s0).1 v∧∃ a c,u=.slice a (dsA s0).2.length c∧TkS S w' a c (dsA s0).2)∧Below w.heap.size w w':=by
 obtain ⟨i0,hi,hz0,hz1,hz2⟩:=info_parts Tryz.info36
 have hl0:s0.run.length≤1800:=by rw [allT_len] at hl;omega
 obtain ⟨w2,hw2⟩:∃ w2,w2=((w.alloc (.cells (stB s0 (.slice ax s0.x.F.length cx) (.slice ar s0.run.length cr)) 34)).alloc (.cells zsT 34)):=⟨_,rfl⟩
 have BX:=boxes w 34 34 (stB s0 (.slice ax s0.x.F.length cx) (.slice ar s0.run.length cr)) zsT
 rw [←hw2] at BX
 obtain ⟨B,N1,N2⟩:=BX
 have hs2:w2.heap.size=w.heap.size+2:=by rw [hw2];simp
 obtain ⟨A,hA⟩:∃ A,A=w.heap.size:=⟨_,rfl⟩
 have HA:Hd (A=w.heap.size):=⟨hA⟩
 rw [←hA] at B N1 N2 hs2
 have HSZ:Hd (∀ j,S j→j<A):=⟨fun j e=>by rw [hA];exact hS j e⟩
 have hBw:Below w.heap.size w w2:=by rw [←hA];exact B
 have CP:=scopied_ok s0 ax cx ar cr w2 ((hx.read (Kept.refl _ _)).carry hBw) hf (hr.carry hBw) (by omega)
 have HF:Hd (Few s0.x.F∧(allT s0).length≤1800):=⟨hf,hl⟩
 have HB:Hd (Below A w w2∧w2.heap.size=A+2∧Blk w2 A 34 (stB s0 (.slice ax s0.x.F.length cx) (.slice ar s0.run.length cr))∧Blk w2 (A+1) 34 (stB sZ (.slice none 0 0) (.slice none 0 0))):=⟨B,hs2,N1,N2⟩
 clear N1 N2 B hx hr hf hs2 hS hBw hl hl0
 go_enter Tryz.func12,Tryz.ntmps12
 go_upto_region 1 with fail
 rw [←hw2]
 clear hw2
 rw [←hA]
 clear hA
 go_wp2_with (refine wpl_loadSt rfl _ rfl A rfl _ HB.out.2.2.1 rfl ?_)
 go_at_call 35
 refine CP.mono ?_
 rintro e w3 ⟨⟨v3,u3,rfl,o3⟩,b3⟩
 obtain ⟨a3,c3,rfl,s3⟩:=o3.str
 have OR:=o3.run.low (Nat.le_of_eq HB.out.2.1.symm)
 obtain ⟨ar3,cr3,rfl,-⟩:=o3.run.read
 rw [HB.out.2.1] at s3
 have P3:=HB.out.2.2.1.kept (Kept.of_below b3 (fun _=>False)) id
 have D3:D8 w S A (A+2) (stB s0 (.slice ax s0.x.F.length cx) (.slice ar s0.run.length cr)) s0.x.F a3 c3 s0.run [] (.slice ar3 s0.run.length cr3) (.slice none 0 0) w3:=⟨HB.out.1.trans (b3.mono (by rw [HB.out.2.1];omega)),Nat.le_refl _,by have:=b3.size;have:=HB.out.2.1;omega,P3,HB.out.2.2.2.kept (Kept.of_below b3 (fun _=>False)) id,s3.stp (Kept.refl _ _) (fun j _ e=>by
  rcases e with e | e | e | e
  ·exact .inr (by have:=HSZ.out j e;omega)
  ·exact .inr e.2
  ·exact .inl e
  ·cases e),OR,World.ownsRow_nil _ _ _ _,fun j _ e=>by cases e⟩
 have HD3:=Hd.mk D3
 clear CP o3 s3 OR b3 HB D3
 go_upto_region 2 with (refine wpl_storeSt rfl _ _ rfl A rfl (stB s0 (.slice a3 s0.x.F.length c3) (.slice ar3 s0.run.length cr3)) _ rfl P3 rfl rfl (st_one _ _ _ _ _ _ _) ?_;intro w4 n4 k4)
 have HI0:Hd (DsI w S A (A+2) s0 s0 [] (.slice none 0 0) w4):=⟨⟨⟨a3,c3,_,HD3.out.put k4 n4⟩,rfl,HF.out.1,HF.out.2,Nat.zero_le _⟩⟩
 clear P3 HD3 n4 k4 HF
 go_wp2_with fail
 go_loopw [4] (fun v4 wr=>∃ s L,Hd (DsI w S A (A+2) s0 s L v4 wr)) (fun v4 _=>2000 - slN v4)
 case atStart=>exact ⟨s0,[],HI0⟩
 case round =>
  obtain ⟨s,L,hI⟩:=hrel
  clear HI0
  obtain ⟨⟨a,c,u,hD⟩,ev,few,cnt,num⟩:=hI.out
  have hrl:s.run.length≤1800:=by rw [allT_len] at cnt;omega
  obtain ⟨aru,cru,rfl,slu⟩:=hD.run.read
  obtain ⟨at4,ct4,rfl,slt⟩:=hD.tak.read
  have SN:=snext_ok s a c aru cru wr (hD.lanes.read (Kept.refl _ _)) few slu (by omega)
  have HD:=Hd.mk hD
  have HE:=Hd.mk (And.intro ev (And.intro few (And.intro cnt num)))
  clear hI hD slu slt ev few cnt num
  cases hc:dsC s with
  | false =>
   rw [hc] at SN
   have HQ:Hd ((s,L)=dsA s0):=⟨by rw [←dsA_stop hc L];exact HE.out.1⟩
   clear HE hc
   generalize dsI s=di at *
   obtain ⟨m,hm⟩:∃ m,m=s.run.length:=⟨_,rfl⟩
   obtain ⟨n,hn⟩:∃ n,n=s.x.F.length:=⟨_,rfl⟩
   obtain ⟨l,hl⟩:∃ l,l=L.length:=⟨_,rfl⟩
   have HL:=Hd.mk (And.intro hm (And.intro hn hl))
   rw [←hm,← hn,← hl] at HD
   rw [←hm,← hn] at SN
   rw [←hl]
   clear hm hn hl hrl
   go_wp2_with (refine wpl_loadSt rfl _ rfl A rfl _ HD.out.box rfl ?_)
   go_at_call 40
   refine SN.mono ?_
   rintro e w5 ⟨rfl,b5⟩
   have HD5:=Hd.mk (HD.out.carry b5)
   clear SN b5 HD
   go_wp2_with (first | (refine wpl_loadSt rfl _ rfl A rfl _ HD5.out.box rfl ?_) | (refine wpl_storeSt rfl _ _ rfl (A+1) rfl (stB s (.slice a n c) (.slice aru m cru)) _ rfl HD5.out.zero rfl rfl (st_one _ _ _ _ _ _ _) ?_;intro w9 n9 k9))
   refine bodyPost_ret (resSt20 _ _ _ rfl rfl n9) rfl ?_
   have h5:=HD5.out
   obtain ⟨rfl,rfl,rfl⟩:=HL.out
   have e1:(dsA s0).1=s:=by rw [←HQ.out]
   have e2:(dsA s0).2=L:=by rw [←HQ.out]
   rw [e1,e2,← HA.out]
   have lan:=h5.lanes.stp (k9.mono (T:=MvD S A (A+2) (.slice aru s.run.length cru) (.slice at4 L.length ct4)) (fun j _ e=>.inr (.inl (by omega)))) (T:=S) (fun j _ e=>.inl e)
   have hrun:=(h5.run.kept k9 (fun j hj e=>by omega)).ts (S:=S) (fun j hj e=>by have:=HSZ.out j e;omega)
   have htak:=(h5.tak.kept k9 (fun j hj e=>by omega)).ts (S:=S) (fun j hj e=>by have:=HSZ.out j e;omega)
   obtain ⟨a',c',e',r'⟩:=hrun
   obtain ⟨rfl,-,rfl⟩:aru=a'∧True∧cru=c':=by injection e' with x1 x2 x3;exact ⟨x1,trivial,x3⟩
   obtain ⟨a'',c'',e'',r''⟩:=htak
   obtain ⟨rfl,-,rfl⟩:at4=a''∧True∧ct4=c'':=by injection e'' with x1 x2 x3;exact ⟨x1,trivial,x3⟩
   exact ⟨⟨_,_,rfl,⟨a,c,aru,cru,rfl,lan,r'⟩,⟨at4,ct4,rfl,r''⟩⟩,h5.bel.trans (k9.below (by have:=h5.sized;omega) (fun j e=>by omega))⟩
  | true =>
   rw [hc] at SN
   have hnn:=dsI_yes hc
   have HTK:Hd (∀ W,D8 w S A (A+2) (stB s (.slice a s.x.F.length c) (.slice aru s.run.length cru)) s.x.F a c s.run L (.slice aru s.run.length cru) (.slice at4 L.length ct4) W→Calls Tryz.prog 41 #[.agg #[.int .u64 s.x.r,.int .i64 s.x.g,.int .i64 s.x.n,.int .i64 s.x.o,.slice a s.x.F.length c]] W fun e w'=>(∃ v,e=.returned (.tuple #[v,.agg #[.int .i64 (tkT s.x).id,.int .i64 (tkT s.x).wid,.int .i64 (tkT s.x).sts,.int .i64 (tkT s.x).sin,.int .i64 (tkT s.x).unt],.bool (tkO s.x)])∧FaT (MvD S A (A+2) (.slice aru s.run.length cru) (.slice at4 L.length ct4)) w' (tkX s.x) v)∧Below W.heap.size W w'):=⟨fun W h=>take_st s.x a c W _ h.lanes (h.mv HSZ.out) HE.out.2.1⟩
   obtain ⟨y,hy⟩:∃ y,y=tkX s.x:=⟨_,rfl⟩
   obtain ⟨z,hz⟩:∃ z,z=tkT s.x:=⟨_,rfl⟩
   obtain ⟨nn,hnn2⟩:∃ nn,nn=dsI s:=⟨_,rfl⟩
   obtain ⟨ok,hok⟩:∃ ok,ok=tkO s.x:=⟨_,rfl⟩
   have HY:Hd (dsC s=true∧y=(dsX s).x∧seated z nn=dsT s):=⟨hc,hy,by rw [hnn2,hnn,hz];rfl⟩
   rw [←hy,← hz,← hok] at HTK
   rw [←hnn2] at SN
   clear hy hz hnn2 hok hnn hc
   obtain ⟨m,hm⟩:∃ m,m=s.run.length:=⟨_,rfl⟩
   obtain ⟨n,hn⟩:∃ n,n=s.x.F.length:=⟨_,rfl⟩
   obtain ⟨l,hl⟩:∃ l,l=L.length:=⟨_,rfl⟩
   have HL:=Hd.mk (And.intro hm (And.intro hn (And.intro hl hrl)))
   rw [←hm,← hn,← hl] at HD HTK
   rw [←hm,← hn] at SN
   rw [←hl]
   clear hm hn hl hrl
   go_wp2_with (refine wpl_loadSt rfl _ rfl A rfl _ HD.out.box rfl ?_)
   go_at_call 40
   refine SN.mono ?_
   rintro e w5 ⟨rfl,b5⟩
   have TKE:=HTK.out w5 (HD.out.carry b5)
   have HD5:=Hd.mk (HD.out.carry b5)
   obtain ⟨⟨c0,c1,c2,c3,c4⟩,-⟩:=HD5.out.box.stx
   clear SN b5 HD HTK
   go_wp2_with fail
   go_at_call 41
   refine TKE.mono ?_
   rintro e w6 ⟨⟨v6,rfl,a5,c5,rfl,s6⟩,b6⟩
   obtain ⟨l5,hl5⟩:∃ l5,l5=y.F.length:=⟨_,rfl⟩
   have HL5:Hd (l5=y.F.length):=⟨hl5⟩
   rw [←hl5]
   clear hl5 TKE c0 c1 c2 c3 c4
   obtain ⟨w7,hw7⟩:∃ w7,w7=(w6.alloc (.cells #[.int .u64 y.r,.int .i64 y.g,.int .i64 y.n,.int .i64 y.o,.slice a5 l5 c5] 31)).alloc (.cells #[.int .i64 z.id,.int .i64 z.wid,.int .i64 z.sts,.int .i64 z.sin,.int .i64 z.unt] 36):=⟨_,rfl⟩
   have BX:=boxes w6 31 36 #[.int .u64 y.r,.int .i64 y.g,.int .i64 y.n,.int .i64 y.o,.slice a5 l5 c5] #[.int .i64 z.id,.int .i64 z.wid,.int .i64 z.sts,.int .i64 z.sin,.int .i64 z.unt]
   rw [←hw7] at BX
   obtain ⟨B7,N7,T7⟩:=BX
   have T7:Blk w7 (w6.heap.size+1) 36 (tkA z):=T7
   obtain ⟨g7,hg7⟩:∃ g7,g7=w6.heap.size:=⟨_,rfl⟩
   rw [←hg7] at N7 T7
   obtain ⟨⟨d0,d1,d2,d3,d4⟩,-,-,f2,-⟩:=T7.five
   have k8:Kept (fun j=>j=g7+1) w7 (w7.setCell ⟨g7+1,2,none⟩ (.int .i64 nn)):=(Kept.refl _ _).setCell _ _ (.inl rfl)
   have T8:Blk (w7.setCell ⟨g7+1,2,none⟩ (.int .i64 nn)) (g7+1) 36 (tkA (seated z nn)):=T7.set 2 (.int .i64 nn)
   have N8:Blk (w7.setCell ⟨g7+1,2,none⟩ (.int .i64 nn)) g7 31 (faA y.r y.g y.n y.o (.slice a5 l5 c5)):=N7.kept k8 (by omega)
   have HG:Hd (A+2≤g7):=⟨by have:=HD5.out.sized;have:=b6.size;omega⟩
   have D8a:=((HD5.out.carry b6).turn s6).carry (B7.trans (k8.below (by rw [←hg7];have:=N7.lt;omega) (fun j e=>by omega)))
   have HD8:=Hd.mk (And.intro D8a (And.intro N8 T8))
   have HX:Hd (∀ j,(Value.slice aru m cru).ownBlock=some j∨(Value.slice at4 l ct4).ownBlock=some j→j<g7):=⟨fun j e=>by
    have:=b6.size
    rcases e with e | e
    ·have:=(HD5.out.run.lt j e).2;omega
    ·have:=(HD5.out.tak.lt j e).2;omega⟩
   have HB9:Hd (m≤1800∧l≤1800):=⟨by have:=HL.out;have:=HE.out.2.2.2;omega⟩
   clear HD5 s6 b6 B7 N7 T7 k8 T8 N8 D8a
   go_upto_region 7 with fail
   rw [←hw7,← hg7]
   clear hw7 hg7
   go_upto_region 8 with fail
   clear d0 d1 d2 d3 d4 f2
   generalize w7.setCell ⟨g7+1,2,none⟩ (.int .i64 nn)=w8 at *
   have hrow:∀ j,(Value.slice aru m cru).ownBlock=some j∨(Value.slice at4 l ct4).ownBlock=some j→j<g7:=HX.out
   have hD8:D8 w S A (A+2) (stB s (.slice a n c) (.slice aru m cru)) y.F a5 c5 s.run L (.slice aru m cru) (.slice at4 l ct4) w8.drew:=HD8.out.1.carry (Below.refl _ _).drew
   have hN:Blk w8.drew g7 31 (faA y.r y.g y.n y.o (.slice a5 l5 c5))∧Blk w8.drew (g7+1) 36 (tkA (seated z nn)):=HD8.out.2
   clear HD8
   refine AnyG.start (T:=fun W=>Blk W g7 31 (faA y.r y.g y.n y.o (.slice a5 l5 c5))∧Blk W (g7+1) 36 (tkA (seated z nn))) (U:=fun W=>Blk W A 34 (stB s (.slice a n c) (.slice aru m cru))) (j0:=11) (by kernel_rfl) ?_
   generalize w8.drew=v8 at *
   refine .tr (v:=.agg #[.int .u64 y.r,.int .i64 y.g,.int .i64 y.n,.int .i64 y.o,.slice a5 l5 c5]) 0 30 ⟨hN,fun _=>hD8.box⟩ ?_ (hy:=fun w hSw=>by obtain ⟨c0,c1,c2,c3,c4⟩:=(Blk.fair hSw.1).1;go_simp);simp only [oqA,oqB,oqC]
   refine .tr 1 31 ⟨hN,fun _=>hD8.box⟩ ?_;simp only [oqA,oqB,oqC]
   refine .er (v:=.slice aru m cru) 2 32 ⟨hN,fun _=>hD8.box⟩ ?_ (hy:=fun w hSw=>by have s:=(Blk.str hSw.2).1;go_simp);simp only [oqA,oqB,oqC]
   refine .tr (v:=.agg #[.int .i64 (seated z nn).id,.int .i64 (seated z nn).wid,.int .i64 (seated z nn).sts,.int .i64 (seated z nn).sin,.int .i64 (seated z nn).unt]) 3 33 ⟨hN,fun _=>hD8.box⟩ ?_ (hy:=fun w hSw=>by obtain ⟨c0,c1,c2,c3,c4⟩:=(Blk.five hSw.2).1;go_simp);simp only [oqA,oqB,oqC]
   refine .tr 6 36 ⟨hN,fun _=>hD8.box⟩ ?_;simp only [oqA,oqB,oqC]
   refine .tr (v:=.agg #[.int .i64 (seated z nn).id,.int .i64 (seated z nn).wid,.int .i64 (seated z nn).sts,.int .i64 (seated z nn).sin,.int .i64 (seated z nn).unt]) 7 37 ⟨hN,fun _=>hD8.box⟩ ?_ (hy:=fun w hSw=>by obtain ⟨c0,c1,c2,c3,c4⟩:=(Blk.five hSw.2).1;go_simp);simp only [oqA,oqB,oqC]
   refine .tr 10 40 ⟨hN,fun _=>hD8.box⟩ ?_;simp only [oqA,oqB,oqC]
   refine AnyG.ready (rs:=[4,8]) (by kernel_rfl) (by simp) ?_
   refine AllG.cons rfl (fun K hK=>?_) (AllG.cons rfl (fun K hK=>?_) (AllG.nil))
   ·skip
    go_simp
    have b:Below v8.heap.size v8 (v8.alloc (.cells #[.int .i64 (seated z nn).id,.int .i64 (seated z nn).wid,.int .i64 (seated z nn).sts,.int .i64 (seated z nn).sin,.int .i64 (seated z nn).unt] 36)):=alloc_below _ _
    have hD:=hD8.carry b
    have hM:=And.intro (hN.1.kept (Kept.of_below b (fun _=>False)) id) (hN.2.kept (Kept.of_below b (fun _=>False)) id)
    have n4:Blk (v8.alloc (.cells #[.int .i64 (seated z nn).id,.int .i64 (seated z nn).wid,.int .i64 (seated z nn).sts,.int .i64 (seated z nn).sin,.int .i64 (seated z nn).unt] 36)) v8.heap.size 36 (tkA (seated z nn)):=Blk.new _ _ _
    have l4:Hd (g7+1<v8.heap.size):=⟨hN.2.lt⟩
    refine hK.out _ _ ⟨hM,fun _=>hD.box⟩ ?_
    clear hK K b hN hD8
    have hD8:=hD
    have hN:=hM
    clear hD hM
    generalize v8.alloc _=v9 at *
    generalize v8.heap.size=q4 at *
    refine AnyG.ready (rs:=[5,8]) (by kernel_rfl) (by simp) ?_
    refine AllG.cons rfl (fun K hK=>?_) (AllG.cons rfl (fun K hK=>?_) (AllG.nil))
    ·skip
     refine step_append_lies _ rfl (.tmp 32) (.tmp 34) 32 rfl (A+2) 36 i0 (.agg #[.int .i64 0,.int .i64 0,.int .i64 0,.int .i64 0,.int .i64 0]) 5 40 Tryz.underlying32 hi hz0 hz1 hz2 rfl (by decide) _ m (tkCs s.run) rfl (OwnT.row hD8.run HL.out.1) ⟨q4,0,none⟩ 1 1 (tkC (seated z nn)) rfl rfl (fun j u hj=>by rw [Go.WideShapes.add_plain,Nat.zero_add,n4.cell];simpa [tkA,tkC] using hj) (one_cellK _) (by decide) (by have:=HB9.out;unfold maxLen;omega) (by have:=HB9.out;omega) hD8.hB _ rfl ?_
     intro gu cu v10 hown hgr hat hgl
     have hO:=OwnT.mk HL.out.1.symm hown
     have hD:=hD8.pushU hO hgr hat
     have kg:Kept (fun j=>(Value.slice aru m cru).ownBlock=some j) v9 v10:=Kept.of_grown hgr (fun _ e=>e)
     have hM:=And.intro (hN.1.kept kg (fun e=>by have:=hrow _ (.inl e);omega)) (hN.2.kept kg (fun e=>by have:=hrow _ (.inl e);omega))
     refine hK.out _ _ ⟨hM,fun _=>hD.box⟩ ?_
     clear hK K hN hown hgr hat hgl hO kg n4
     have hN:=hM
     clear hD8
     have hD8:=hD
     clear hD hM
     refine AnyG.ready (rs:=[8]) (by kernel_rfl) (by simp) ?_
     refine AllG.cons rfl (fun K hK=>?_) (AllG.nil)
     go_simp
     have b:Below v10.heap.size v10 (v10.alloc (.cells #[.int .i64 (seated z nn).id,.int .i64 (seated z nn).wid,.int .i64 (seated z nn).sts,.int .i64 (seated z nn).sin,.int .i64 (seated z nn).unt] 36)):=alloc_below _ _
     have hD:=hD8.carry b
     have hM:=And.intro (hN.1.kept (Kept.of_below b (fun _=>False)) id) (hN.2.kept (Kept.of_below b (fun _=>False)) id)
     have n8:Blk (v10.alloc (.cells #[.int .i64 (seated z nn).id,.int .i64 (seated z nn).wid,.int .i64 (seated z nn).sts,.int .i64 (seated z nn).sin,.int .i64 (seated z nn).unt] 36)) v10.heap.size 36 (tkA (seated z nn)):=Blk.new _ _ _
     have l8:Hd (g7+1<v10.heap.size):=⟨hN.2.lt⟩
     refine hK.out _ _ ⟨hM,fun _=>hD.box⟩ ?_
     clear hK K b hN hD8
     have hD8:=hD
     have hN:=hM
     clear hD hM
     generalize v10.alloc _=v11 at *
     generalize v10.heap.size=q8 at *
     refine AnyG.ready (rs:=[9]) (by kernel_rfl) (by simp) ?_
     refine AllG.cons rfl (fun K hK=>?_) (AllG.nil)
     refine step_append_lies _ rfl (.tmp 36) (.tmp 38) 32 rfl (A+2) 36 i0 (.agg #[.int .i64 0,.int .i64 0,.int .i64 0,.int .i64 0,.int .i64 0]) 5 40 Tryz.underlying32 hi hz0 hz1 hz2 rfl (by decide) _ l (tkCs L) rfl (OwnT.row hD8.tak HL.out.2.2.1) ⟨q8,0,none⟩ 1 1 (tkC (seated z nn)) rfl rfl (fun j u hj=>by rw [Go.WideShapes.add_plain,Nat.zero_add,n8.cell];simpa [tkA,tkC] using hj) (one_cellK _) (by decide) (by have:=HB9.out;unfold maxLen;omega) (by have:=HB9.out;omega) hD8.hB _ rfl ?_
     intro gv cv v12 hown hgr hat hgl
     have hO:=OwnT.mk HL.out.2.2.1.symm hown
     have hD:=hD8.pushT hO hgr hat
     have kg:Kept (fun j=>(Value.slice at4 l ct4).ownBlock=some j) v11 v12:=Kept.of_grown hgr (fun _ e=>e)
     have hM:=And.intro (hN.1.kept kg (fun e=>by have:=hrow _ (.inr e);omega)) (hN.2.kept kg (fun e=>by have:=hrow _ (.inr e);omega))
     refine hK.out _ _ ⟨hM,fun _=>hD.box⟩ ?_
     clear hK K hN hown hgr hat hgl hO kg n8
     have hN:=hM
     clear hD8
     have hD8:=hD
     clear hD hM
     refine AnyG.ready (rs:=[11]) (by kernel_rfl) (by simp) ?_
     refine AllG.cons rfl (fun K hK=>?_) (AllG.nil)
     obtain ⟨⟨x0,x1,x2,x3,x4⟩,f0,f1,f2,f3,f4⟩:=hD8.box.stx
     obtain ⟨Q1,K1⟩:=st_fair hD8.box y (.slice a5 l5 c5)
     go_simp
     have hD:=hD8.put K1 Q1
     have hM:=And.intro (hN.1.kept K1 (by have:=HG.out;omega)) (hN.2.kept K1 (by have:=HG.out;omega))
     refine hK.out _ _ ⟨hM,fun h=>by cases h⟩ ?_
     clear hK K hN hD8 x0 x1 x2 x3 x4 f0 f1 f2 f3 f4 Q1 K1
     have hN:=hM
     have hD8:=hD
     clear hD hM
     generalize (((((v12.setCell ⟨A,17,none⟩ (.int .u64 y.r)).setCell ⟨A,18,none⟩ (.int .i64 y.g)).setCell ⟨A,19,none⟩ (.int .i64 y.n)).setCell ⟨A,20,none⟩ (.int .i64 y.o)).setCell ⟨A,21,none⟩ (.slice a5 l5 c5))=v13 at *
     refine .tr 12 41 ⟨hN,fun h=>by cases h⟩ ?_;simp only [oqA,oqB,oqC]
     refine AnyG.ready (rs:=[13]) (by kernel_rfl) (by simp) ?_
     refine AllG.cons rfl (fun K hK=>?_) (AllG.nil)
     obtain ⟨r22,f22⟩:=hD8.box.str
     obtain ⟨Q1,K1⟩:=st_run hD8.box (s.run ++ [seated z nn]) (.slice (some ⟨gu,0,none⟩) (m+1) cu)
     go_simp
     have hD:=hD8.put K1 Q1
     have hM:=And.intro (hN.1.kept K1 (by have:=HG.out;omega)) (hN.2.kept K1 (by have:=HG.out;omega))
     refine hK.out _ _ ⟨hM,fun h=>by cases h⟩ ?_
     clear hK K hN hD8 r22 f22 Q1 K1
     have hN:=hM
     have hD8:=hD
     clear hD hM
     generalize v13.setCell ⟨A,22,none⟩ (.slice (some ⟨gu,0,none⟩) (m+1) cu)=v14 at *
     refine AnyG.ready (rs:=[14]) (by kernel_rfl) (by simp) ?_
     refine AllG.cons rfl (fun K hK=>?_) (AllG.nil)
     go_simp
     refine hK.out _ _ ⟨hN,fun h=>by cases h⟩ ?_
     refine AnyG.done (by kernel_rfl) ?_ _
     clear hK K hN hrow
     have HD8:=Hd.mk hD8
     clear hD8
     go_wp2_with fail
     go_roundw
     case rel =>
      obtain ⟨hc,rfl,ht⟩:=HY.out
      have hD8:=HD8.out
      rw [ht] at hD8
      exact ⟨dsX s,L ++ [dsT s],⟨DsI.next HE.out.1 HE.out.2.1 HE.out.2.2.1 HE.out.2.2.2 hc hD8 (by rw [HL5.out])⟩⟩
     case measure=>have:=HB9.out;simp [slN];omega
    ·skip
     go_simp
     have b:Below v9.heap.size v9 (v9.alloc (.cells #[.int .i64 (seated z nn).id,.int .i64 (seated z nn).wid,.int .i64 (seated z nn).sts,.int .i64 (seated z nn).sin,.int .i64 (seated z nn).unt] 36)):=alloc_below _ _
     have hD:=hD8.carry b
     have hM:=And.intro (hN.1.kept (Kept.of_below b (fun _=>False)) id) (hN.2.kept (Kept.of_below b (fun _=>False)) id)
     have n8:Blk (v9.alloc (.cells #[.int .i64 (seated z nn).id,.int .i64 (seated z nn).wid,.int .i64 (seated z nn).sts,.int .i64 (seated z nn).sin,.int .i64 (seated z nn).unt] 36)) v9.heap.size 36 (tkA (seated z nn)):=Blk.new _ _ _
     have l8:Hd (g7+1<v9.heap.size):=⟨hN.2.lt⟩
     replace n4:=n4.kept (Kept.of_below b (fun _=>False)) id
     refine hK.out _ _ ⟨hM,fun _=>hD.box⟩ ?_
     clear hK K b hN hD8
     have hD8:=hD
     have hN:=hM
     clear hD hM
     generalize v9.alloc _=v10 at *
     generalize v9.heap.size=q8 at *
     refine AnyG.ready (rs:=[5]) (by kernel_rfl) (by simp) ?_
     refine AllG.cons rfl (fun K hK=>?_) (AllG.nil)
     refine step_append_lies _ rfl (.tmp 32) (.tmp 34) 32 rfl (A+2) 36 i0 (.agg #[.int .i64 0,.int .i64 0,.int .i64 0,.int .i64 0,.int .i64 0]) 5 40 Tryz.underlying32 hi hz0 hz1 hz2 rfl (by decide) _ m (tkCs s.run) rfl (OwnT.row hD8.run HL.out.1) ⟨q4,0,none⟩ 1 1 (tkC (seated z nn)) rfl rfl (fun j u hj=>by rw [Go.WideShapes.add_plain,Nat.zero_add,n4.cell];simpa [tkA,tkC] using hj) (one_cellK _) (by decide) (by have:=HB9.out;unfold maxLen;omega) (by have:=HB9.out;omega) hD8.hB _ rfl ?_
     intro gu cu v11 hown hgr hat hgl
     have hO:=OwnT.mk HL.out.1.symm hown
     have hD:=hD8.pushU hO hgr hat
     have kg:Kept (fun j=>(Value.slice aru m cru).ownBlock=some j) v10 v11:=Kept.of_grown hgr (fun _ e=>e)
     have hM:=And.intro (hN.1.kept kg (fun e=>by have:=hrow _ (.inl e);omega)) (hN.2.kept kg (fun e=>by have:=hrow _ (.inl e);omega))
     replace n8:=n8.kept kg (fun e=>by have:=hrow _ (.inl e);have:=l8.out;omega)
     refine hK.out _ _ ⟨hM,fun _=>hD.box⟩ ?_
     clear hK K hN hown hgr hat hgl hO kg n4
     have hN:=hM
     clear hD8
     have hD8:=hD
     clear hD hM
     refine AnyG.ready (rs:=[9]) (by kernel_rfl) (by simp) ?_
     refine AllG.cons rfl (fun K hK=>?_) (AllG.nil)
     refine step_append_lies _ rfl (.tmp 36) (.tmp 38) 32 rfl (A+2) 36 i0 (.agg #[.int .i64 0,.int .i64 0,.int .i64 0,.int .i64 0,.int .i64 0]) 5 40 Tryz.underlying32 hi hz0 hz1 hz2 rfl (by decide) _ l (tkCs L) rfl (OwnT.row hD8.tak HL.out.2.2.1) ⟨q8,0,none⟩ 1 1 (tkC (seated z nn)) rfl rfl (fun j u hj=>by rw [Go.WideShapes.add_plain,Nat.zero_add,n8.cell];simpa [tkA,tkC] using hj) (one_cellK _) (by decide) (by have:=HB9.out;unfold maxLen;omega) (by have:=HB9.out;omega) hD8.hB _ rfl ?_
     intro gv cv v12 hown hgr hat hgl
     have hO:=OwnT.mk HL.out.2.2.1.symm hown
     have hD:=hD8.pushT hO hgr hat
     have kg:Kept (fun j=>(Value.slice at4 l ct4).ownBlock=some j) v11 v12:=Kept.of_grown hgr (fun _ e=>e)
     have hM:=And.intro (hN.1.kept kg (fun e=>by have:=hrow _ (.inr e);omega)) (hN.2.kept kg (fun e=>by have:=hrow _ (.inr e);omega))
     refine hK.out _ _ ⟨hM,fun _=>hD.box⟩ ?_
     clear hK K hN hown hgr hat hgl hO kg n8
     have hN:=hM
     clear hD8
     have hD8:=hD
     clear hD hM
     refine AnyG.ready (rs:=[11]) (by kernel_rfl) (by simp) ?_
     refine AllG.cons rfl (fun K hK=>?_) (AllG.nil)
     obtain ⟨⟨x0,x1,x2,x3,x4⟩,f0,f1,f2,f3,f4⟩:=hD8.box.stx
     obtain ⟨Q1,K1⟩:=st_fair hD8.box y (.slice a5 l5 c5)
     go_simp
     have hD:=hD8.put K1 Q1
     have hM:=And.intro (hN.1.kept K1 (by have:=HG.out;omega)) (hN.2.kept K1 (by have:=HG.out;omega))
     refine hK.out _ _ ⟨hM,fun h=>by cases h⟩ ?_
     clear hK K hN hD8 x0 x1 x2 x3 x4 f0 f1 f2 f3 f4 Q1 K1
     have hN:=hM
     have hD8:=hD
     clear hD hM
     generalize (((((v12.setCell ⟨A,17,none⟩ (.int .u64 y.r)).setCell ⟨A,18,none⟩ (.int .i64 y.g)).setCell ⟨A,19,none⟩ (.int .i64 y.n)).setCell ⟨A,20,none⟩ (.int .i64 y.o)).setCell ⟨A,21,none⟩ (.slice a5 l5 c5))=v13 at *
     refine .tr 12 41 ⟨hN,fun h=>by cases h⟩ ?_;simp only [oqA,oqB,oqC]
     refine AnyG.ready (rs:=[13]) (by kernel_rfl) (by simp) ?_
     refine AllG.cons rfl (fun K hK=>?_) (AllG.nil)
     obtain ⟨r22,f22⟩:=hD8.box.str
     obtain ⟨Q1,K1⟩:=st_run hD8.box (s.run ++ [seated z nn]) (.slice (some ⟨gu,0,none⟩) (m+1) cu)
     go_simp
     have hD:=hD8.put K1 Q1
     have hM:=And.intro (hN.1.kept K1 (by have:=HG.out;omega)) (hN.2.kept K1 (by have:=HG.out;omega))
     refine hK.out _ _ ⟨hM,fun h=>by cases h⟩ ?_
     clear hK K hN hD8 r22 f22 Q1 K1
     have hN:=hM
     have hD8:=hD
     clear hD hM
     generalize v13.setCell ⟨A,22,none⟩ (.slice (some ⟨gu,0,none⟩) (m+1) cu)=v14 at *
     refine AnyG.ready (rs:=[14]) (by kernel_rfl) (by simp) ?_
     refine AllG.cons rfl (fun K hK=>?_) (AllG.nil)
     go_simp
     refine hK.out _ _ ⟨hN,fun h=>by cases h⟩ ?_
     refine AnyG.done (by kernel_rfl) ?_ _
     clear hK K hN hrow
     have HD8:=Hd.mk hD8
     clear hD8
     go_wp2_with fail
     go_roundw
     case rel =>
      obtain ⟨hc,rfl,ht⟩:=HY.out
      have hD8:=HD8.out
      rw [ht] at hD8
      exact ⟨dsX s,L ++ [dsT s],⟨DsI.next HE.out.1 HE.out.2.1 HE.out.2.2.1 HE.out.2.2.2 hc hD8 (by rw [HL5.out])⟩⟩
     case measure=>have:=HB9.out;simp [slN];omega
   ·skip
    go_simp
    have b:Below v8.heap.size v8 (v8.alloc (.cells #[.int .i64 (seated z nn).id,.int .i64 (seated z nn).wid,.int .i64 (seated z nn).sts,.int .i64 (seated z nn).sin,.int .i64 (seated z nn).unt] 36)):=alloc_below _ _
    have hD:=hD8.carry b
    have hM:=And.intro (hN.1.kept (Kept.of_below b (fun _=>False)) id) (hN.2.kept (Kept.of_below b (fun _=>False)) id)
    have n8:Blk (v8.alloc (.cells #[.int .i64 (seated z nn).id,.int .i64 (seated z nn).wid,.int .i64 (seated z nn).sts,.int .i64 (seated z nn).sin,.int .i64 (seated z nn).unt] 36)) v8.heap.size 36 (tkA (seated z nn)):=Blk.new _ _ _
    have l8:Hd (g7+1<v8.heap.size):=⟨hN.2.lt⟩
    refine hK.out _ _ ⟨hM,fun _=>hD.box⟩ ?_
    clear hK K b hN hD8
    have hD8:=hD
    have hN:=hM
    clear hD hM
    generalize v8.alloc _=v9 at *
    generalize v8.heap.size=q8 at *
    refine AnyG.ready (rs:=[4]) (by kernel_rfl) (by simp) ?_
    refine AllG.cons rfl (fun K hK=>?_) (AllG.nil)
    go_simp
    have b:Below v9.heap.size v9 (v9.alloc (.cells #[.int .i64 (seated z nn).id,.int .i64 (seated z nn).wid,.int .i64 (seated z nn).sts,.int .i64 (seated z nn).sin,.int .i64 (seated z nn).unt] 36)):=alloc_below _ _
    have hD:=hD8.carry b
    have hM:=And.intro (hN.1.kept (Kept.of_below b (fun _=>False)) id) (hN.2.kept (Kept.of_below b (fun _=>False)) id)
    have n4:Blk (v9.alloc (.cells #[.int .i64 (seated z nn).id,.int .i64 (seated z nn).wid,.int .i64 (seated z nn).sts,.int .i64 (seated z nn).sin,.int .i64 (seated z nn).unt] 36)) v9.heap.size 36 (tkA (seated z nn)):=Blk.new _ _ _
    have l4:Hd (g7+1<v9.heap.size):=⟨hN.2.lt⟩
    replace n8:=n8.kept (Kept.of_below b (fun _=>False)) id
    refine hK.out _ _ ⟨hM,fun _=>hD.box⟩ ?_
    clear hK K b hN hD8
    have hD8:=hD
    have hN:=hM
    clear hD hM
    generalize v9.alloc _=v10 at *
    generalize v9.heap.size=q4 at *
    refine AnyG.ready (rs:=[5]) (by kernel_rfl) (by simp) ?_
    refine AllG.cons rfl (fun K hK=>?_) (AllG.nil)
    refine step_append_lies _ rfl (.tmp 32) (.tmp 34) 32 rfl (A+2) 36 i0 (.agg #[.int .i64 0,.int .i64 0,.int .i64 0,.int .i64 0,.int .i64 0]) 5 40 Tryz.underlying32 hi hz0 hz1 hz2 rfl (by decide) _ m (tkCs s.run) rfl (OwnT.row hD8.run HL.out.1) ⟨q4,0,none⟩ 1 1 (tkC (seated z nn)) rfl rfl (fun j u hj=>by rw [Go.WideShapes.add_plain,Nat.zero_add,n4.cell];simpa [tkA,tkC] using hj) (one_cellK _) (by decide) (by have:=HB9.out;unfold maxLen;omega) (by have:=HB9.out;omega) hD8.hB _ rfl ?_
    intro gu cu v11 hown hgr hat hgl
    have hO:=OwnT.mk HL.out.1.symm hown
    have hD:=hD8.pushU hO hgr hat
    have kg:Kept (fun j=>(Value.slice aru m cru).ownBlock=some j) v10 v11:=Kept.of_grown hgr (fun _ e=>e)
    have hM:=And.intro (hN.1.kept kg (fun e=>by have:=hrow _ (.inl e);omega)) (hN.2.kept kg (fun e=>by have:=hrow _ (.inl e);omega))
    replace n8:=n8.kept kg (fun e=>by have:=hrow _ (.inl e);have:=l8.out;omega)
    refine hK.out _ _ ⟨hM,fun _=>hD.box⟩ ?_
    clear hK K hN hown hgr hat hgl hO kg n4
    have hN:=hM
    clear hD8
    have hD8:=hD
    clear hD hM
    refine AnyG.ready (rs:=[9]) (by kernel_rfl) (by simp) ?_
    refine AllG.cons rfl (fun K hK=>?_) (AllG.nil)
    refine step_append_lies _ rfl (.tmp 36) (.tmp 38) 32 rfl (A+2) 36 i0 (.agg #[.int .i64 0,.int .i64 0,.int .i64 0,.int .i64 0,.int .i64 0]) 5 40 Tryz.underlying32 hi hz0 hz1 hz2 rfl (by decide) _ l (tkCs L) rfl (OwnT.row hD8.tak HL.out.2.2.1) ⟨q8,0,none⟩ 1 1 (tkC (seated z nn)) rfl rfl (fun j u hj=>by rw [Go.WideShapes.add_plain,Nat.zero_add,n8.cell];simpa [tkA,tkC] using hj) (one_cellK _) (by decide) (by have:=HB9.out;unfold maxLen;omega) (by have:=HB9.out;omega) hD8.hB _ rfl ?_
    intro gv cv v12 hown hgr hat hgl
    have hO:=OwnT.mk HL.out.2.2.1.symm hown
    have hD:=hD8.pushT hO hgr hat
    have kg:Kept (fun j=>(Value.slice at4 l ct4).ownBlock=some j) v11 v12:=Kept.of_grown hgr (fun _ e=>e)
    have hM:=And.intro (hN.1.kept kg (fun e=>by have:=hrow _ (.inr e);omega)) (hN.2.kept kg (fun e=>by have:=hrow _ (.inr e);omega))
    refine hK.out _ _ ⟨hM,fun _=>hD.box⟩ ?_
    clear hK K hN hown hgr hat hgl hO kg n8
    have hN:=hM
    clear hD8
    have hD8:=hD
    clear hD hM
    refine AnyG.ready (rs:=[11]) (by kernel_rfl) (by simp) ?_
    refine AllG.cons rfl (fun K hK=>?_) (AllG.nil)
    obtain ⟨⟨x0,x1,x2,x3,x4⟩,f0,f1,f2,f3,f4⟩:=hD8.box.stx
    obtain ⟨Q1,K1⟩:=st_fair hD8.box y (.slice a5 l5 c5)
    go_simp
    have hD:=hD8.put K1 Q1
    have hM:=And.intro (hN.1.kept K1 (by have:=HG.out;omega)) (hN.2.kept K1 (by have:=HG.out;omega))
    refine hK.out _ _ ⟨hM,fun h=>by cases h⟩ ?_
    clear hK K hN hD8 x0 x1 x2 x3 x4 f0 f1 f2 f3 f4 Q1 K1
    have hN:=hM
    have hD8:=hD
    clear hD hM
    generalize (((((v12.setCell ⟨A,17,none⟩ (.int .u64 y.r)).setCell ⟨A,18,none⟩ (.int .i64 y.g)).setCell ⟨A,19,none⟩ (.int .i64 y.n)).setCell ⟨A,20,none⟩ (.int .i64 y.o)).setCell ⟨A,21,none⟩ (.slice a5 l5 c5))=v13 at *
    refine .tr 12 41 ⟨hN,fun h=>by cases h⟩ ?_;simp only [oqA,oqB,oqC]
    refine AnyG.ready (rs:=[13]) (by kernel_rfl) (by simp) ?_
    refine AllG.cons rfl (fun K hK=>?_) (AllG.nil)
    obtain ⟨r22,f22⟩:=hD8.box.str
    obtain ⟨Q1,K1⟩:=st_run hD8.box (s.run ++ [seated z nn]) (.slice (some ⟨gu,0,none⟩) (m+1) cu)
    go_simp
    have hD:=hD8.put K1 Q1
    have hM:=And.intro (hN.1.kept K1 (by have:=HG.out;omega)) (hN.2.kept K1 (by have:=HG.out;omega))
    refine hK.out _ _ ⟨hM,fun h=>by cases h⟩ ?_
    clear hK K hN hD8 r22 f22 Q1 K1
    have hN:=hM
    have hD8:=hD
    clear hD hM
    generalize v13.setCell ⟨A,22,none⟩ (.slice (some ⟨gu,0,none⟩) (m+1) cu)=v14 at *
    refine AnyG.ready (rs:=[14]) (by kernel_rfl) (by simp) ?_
    refine AllG.cons rfl (fun K hK=>?_) (AllG.nil)
    go_simp
    refine hK.out _ _ ⟨hN,fun h=>by cases h⟩ ?_
    refine AnyG.done (by kernel_rfl) ?_ _
    clear hK K hN hrow
    have HD8:=Hd.mk hD8
    clear hD8
    go_wp2_with fail
    go_roundw
    case rel =>
     obtain ⟨hc,rfl,ht⟩:=HY.out
     have hD8:=HD8.out
     rw [ht] at hD8
     exact ⟨dsX s,L ++ [dsT s],⟨DsI.next HE.out.1 HE.out.2.1 HE.out.2.2.1 HE.out.2.2.2 hc hD8 (by rw [HL5.out])⟩⟩
    case measure=>have:=HB9.out;simp [slN];omega
theorem HnR.less {w:World} {a:Option Addr} {n m:Nat} {H:Nat→Int} (h:HnR w a n H) (e:m≤n):HnR w a m H:=fun hm=>by
 obtain ⟨b,off,rfl,hb,hc⟩:=h (by omega)
 exact ⟨b,off,rfl,hb,fun k hk=>hc k (by omega)⟩
theorem TkS.one {S:Nat→Prop} {w:World} {g:Nat} {t:Tk} (h:Blk w g 36 (tkA t)) (hS:¬ S g):TkS S w (some ⟨g,0,none⟩) 1 [t] :=
 ⟨Nat.le_refl _,(fun e=>by cases e),fun W k=>(one_sl (h.kept k hS)).2.2⟩
theorem StV.old {S:Nat→Prop} {w w2:World} {s:St} {ax ar:Option Addr} {n m cx cr:Nat} (hx:StR S w ax cx s.x.F) (hr:TkS S w ar cr s.run) (hn:n=s.x.F.length) (hm:m=s.run.length) (b:Below w.heap.size w w2):StV S w2 s (.agg (stB s (.slice ax n cx) (.slice ar m cr))) :=
 ⟨ax,cx,ar,cr,by rw [hn,hm],hx.high b (fun _ _ h=>h),hr.high b (fun _ _ h=>h)⟩
end Go.Proofs.YtlgibnmoogbdcaaGreat
