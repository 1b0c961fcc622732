/-
  Somebody comes to a level, by the reference, whatever comes of it.
  Whoever may go is dispatched, by the reference.
-/
import Derived.Test.YtlgibnmoogbdcaaGreatR40
import Derived.Test.YtlgibnmoogbdcaaGreatR37
namespace Go.Proofs.YtlgibnmoogbdcaaGreat
open Go.RowKit
theorem rarrive_st (s:St) (t:Tk) (ax:Option Addr) (cx:Nat) (ar:Option Addr) (cr:Nat) (ah:Option Addr) (nh ch:Nat) (w:World) (S:Nat→Prop) (H0:Nat→Int) (hx:StR S w ax cx s.x.F) (hr:SlR w ar cr s.run) (hl:s.run.length≤1990) (hS:∀ j,S j→j<w.heap.size) (hf:Few s.x.F) (hh:HnR w ah nh H0) (hnh:nh≤1000) :
  Calls Tryz.prog 8 #[.agg (stB s (.slice ax s.x.F.length cx) (.slice ar s.run.length cr)),.agg #[.int .i64 t.id,.int .i64 t.wid,.int .i64 t.sts,.int .i64 t.sin,.int .i64 t.unt],.slice ah nh ch] w fun e w'=>(∃ v,e=.returned (.tuple #[v,.int .i64 (arE s t (chF s.x.F s.x.o H0 nh))])∧StV S w' (orZ (arE s t (chF s.x.F s.x.o H0 nh)) (arX s t (chF s.x.F s.x.o H0 nh))) v)∧Below w.heap.size w w':=by
 unfold arE
 by_cases hq:s.q=true
 ·rw [if_pos hq,orZ_no (by decide)]
  exact rarr_quiet s t ax cx ar cr ah nh ch w S hq
 ·rw [if_neg hq]
  have hq:s.q=false:=by simpa using hq
  by_cases hk:s.lv.kind=3
  ·rw [if_pos hk]
   have e:arX s t (chF s.x.F s.x.o H0 nh)={ s with x:=jnX s.x (chF s.x.F s.x.o H0 nh) (seated t 0) }:=if_pos hk
   rw [e]
   exact rarr_queue s t ax cx ar cr ah nh ch w S H0 hh hnh hx hr hl hS hf hq ⟨hk⟩
  ·rw [if_neg hk]
   have e:arX s t (chF s.x.F s.x.o H0 nh)={ s with run:=s.run ++ [seated t (ftN s t.wid)] }:=if_neg hk
   rw [e]
   by_cases hw:s.lv.kind≠1∧0<wtA s.x.F
   ·rw [if_pos hw,orZ_no (by decide)]
    exact rarr_waits s t ax cx ar cr ah nh ch w S hx hr hl hS hf hq hk hw.1 hw.2
   ·rw [if_neg hw]
    by_cases hb:ftB s t.wid=true
    ·rw [if_pos hb,orZ_yes]
     by_cases k1:s.lv.kind=1
     ·exact rarr_exempt s t ax cx ar cr ah nh ch w S hx hr hl hS hf hq ⟨k1⟩ hb
     ·exact rarr_room s t ax cx ar cr ah nh ch w S hx hr hl hS hf hq hk k1 (by have:=wtA_lo s.x.F;have:¬ 0<wtA s.x.F:=fun q=>hw ⟨k1,q⟩;omega) hb
    ·rw [if_neg hb,orZ_no (by decide)]
     have hb:ftB s t.wid=false:=by simpa using hb
     have k1:s.lv.kind≠1:=fun k=>by rw [ftB_exempt k] at hb;cases hb
     exact rarr_full s t ax cx ar cr ah nh ch w S hx hr hl hS hf hq hk k1 (by have:=wtA_lo s.x.F;have:¬ 0<wtA s.x.F:=fun q=>hw ⟨k1,q⟩;omega) hb
def MvQ (S:Nat→Prop) (A q:Nat) (u tv:Value) (j:Nat):Prop:=Sx S A (A+2) j∨j=q∨u.ownBlock=some j∨tv.ownBlock=some j
structure D9 (w0:World) (S:Nat→Prop) (A q B:Nat) (cs:Array Value) (F:List Ln) (a7:Option Addr) (c7:Nat) (R K:List Tk) (u tv:Value) (W:World):Prop where
 bel:Below A w0 W
 lA:A+2≤B∧A+2≤q
 hB:B≤W.heap.size
 box:Blk W q 34 cs
 zero:Blk W (A+1) 34 (stB sZ (.slice none 0 0) (.slice none 0 0))
 lanes:StR (MvQ S A q u tv) W a7 c7 F
 run:OwnT W B u R
 tak:OwnT W B tv K
 ap:∀ j,u.ownBlock=some j→tv.ownBlock=some j→False
section
variable {w0 W W':World} {S:Nat→Prop} {A q B:Nat} {cs:Array Value} {F:List Ln} {a7:Option Addr} {c7:Nat} {R K:List Tk} {u tv:Value}
theorem D9.mv (h:D9 w0 S A q B cs F a7 c7 R K u tv W) (hS:∀ j,S j→j<A):∀ j,MvQ S A q u tv j→j<W.heap.size:=fun j e=>by
 have h1:=h.lA
 have h2:=h.hB
 have h3:=h.box.lt
 rcases e with e | e | e | e
 ·have:=Sx.lt hS (by omega) j e (B:=A+2);omega
 ·omega
 ·exact (h.run.lt j e).2
 ·exact (h.tak.lt j e).2
theorem D9.carry (h:D9 w0 S A q B cs F a7 c7 R K u tv W) (b:Below W.heap.size W W'):D9 w0 S A q B cs F a7 c7 R K u tv W':=by
 have h1:=h.lA
 have h2:=h.hB
 have k:Kept (fun _=>False) W W':=Kept.of_below b _
 exact ⟨h.bel.trans (b.mono (by omega)),h1,Nat.le_trans h2 b.size,h.box.kept k id,h.zero.kept k id,h.lanes.high b (fun _ _ e=>e),h.run.keptV k (fun _ _ e=>e),h.tak.keptV k (fun _ _ e=>e),h.ap⟩
theorem D9.pushU (h:D9 w0 S A q B cs F a7 c7 R K u tv W) {t:Tk} {g n cap:Nat} (ho:OwnT W' B (.slice (some ⟨g,0,none⟩) n cap) (R ++ [t])) (gr:W.grownBy W' u.ownBlock) (hg:u.ownBlock=some g∨g=W.heap.size):D9 w0 S A q B cs F a7 c7 (R ++ [t]) K (.slice (some ⟨g,0,none⟩) n cap) tv W':=by
 have h1:=h.lA
 have h2:=h.hB
 have k:Kept (fun j=>u.ownBlock=some j) W W':=Kept.of_grown gr (fun _ e=>e)
 have hlo:∀ j,u.ownBlock=some j→B≤j:=fun j e=>(h.run.lt j e).1
 refine ⟨h.bel.trans (k.below (by omega) (fun j e=>by have:=hlo j e;omega)),h1,Nat.le_trans h2 k.size,h.box.kept k (fun e=>h.run.off6 h.box e),h.zero.kept k (fun e=>by have:=hlo _ e;omega),h.lanes.stp (k.mono (fun j _ e=>.inr (.inr (.inl e)))) (fun j hj e=>?_),ho,h.tak.keptV k (fun j e1 e2=>h.ap j e2 e1),fun j e1 e2=>?_⟩
 ·rcases e with e | e | e | e
  ·exact .inl e
  ·exact .inr (.inl e)
  ·have e:g=j:=by injection e
   subst e
   rcases hg with c | c
   ·exact .inr (.inr (.inl c))
   ·omega
  ·exact .inr (.inr (.inr e))
 ·have e1:g=j:=by injection e1
  subst e1
  rcases hg with c | c
  ·exact h.ap g c e2
  ·have:=(h.tak.lt g e2).2
   omega
theorem D9.pushT (h:D9 w0 S A q B cs F a7 c7 R K u tv W) {t:Tk} {g n cap:Nat} (ho:OwnT W' B (.slice (some ⟨g,0,none⟩) n cap) (K ++ [t])) (gr:W.grownBy W' tv.ownBlock) (hg:tv.ownBlock=some g∨g=W.heap.size):D9 w0 S A q B cs F a7 c7 R (K ++ [t]) u (.slice (some ⟨g,0,none⟩) n cap) W':=by
 have h1:=h.lA
 have h2:=h.hB
 have k:Kept (fun j=>tv.ownBlock=some j) W W':=Kept.of_grown gr (fun _ e=>e)
 have hlo:∀ j,tv.ownBlock=some j→B≤j:=fun j e=>(h.tak.lt j e).1
 refine ⟨h.bel.trans (k.below (by omega) (fun j e=>by have:=hlo j e;omega)),h1,Nat.le_trans h2 k.size,h.box.kept k (fun e=>h.tak.off6 h.box e),h.zero.kept k (fun e=>by have:=hlo _ e;omega),h.lanes.stp (k.mono (fun j _ e=>.inr (.inr (.inr e)))) (fun j hj e=>?_),h.run.keptV k (fun j e1 e2=>h.ap j e1 e2),ho,fun j e1 e2=>?_⟩
 ·rcases e with e | e | e | e
  ·exact .inl e
  ·exact .inr (.inl e)
  ·exact .inr (.inr (.inl e))
  ·have e:g=j:=by injection e
   subst e
   rcases hg with c | c
   ·exact .inr (.inr (.inr c))
   ·omega
 ·have e2:g=j:=by injection e2
  subst e2
  rcases hg with c | c
  ·exact h.ap g e1 c
  ·have:=(h.run.lt g e1).2
   omega
theorem D9.put (h:D9 w0 S A q B cs F a7 c7 R K u tv W) {ds:Array Value} (k:Kept (fun j=>j=q) W W') (hb:Blk W' q 34 ds):D9 w0 S A q B ds F a7 c7 R K u tv W':=by
 have h1:=h.lA
 have h2:=h.hB
 exact ⟨h.bel.trans (k.below (by omega) (fun j e=>by omega)),h1,Nat.le_trans h2 k.size,hb,h.zero.kept k (by omega),h.lanes.stp (k.mono (fun j _ e=>.inr (.inl e))) (fun _ _ e=>e),h.run.keptV k (fun j e1 e2=>h.run.off6 h.box (by rw [←e2];exact e1)),h.tak.keptV k (fun j e1 e2=>h.tak.off6 h.box (by rw [←e2];exact e1)),h.ap⟩
theorem D9.turn (h:D9 w0 S A q B cs F a7 c7 R K u tv W) {G:List Ln} {a9:Option Addr} {c9:Nat} (hl:StR (MvQ S A q u tv) W a9 c9 G):D9 w0 S A q B cs G a9 c9 R K u tv W:=⟨h.bel,h.lA,h.hB,h.box,h.zero,hl,h.run,h.tak,h.ap⟩
theorem D9.fin {s:St} {n m:Nat} {cru:Nat} {aru:Option Addr} (h:D9 w0 S A q B cs F a7 c7 s.run K (.slice aru m cru) tv W) (hF:F=s.x.F) (hn:n=s.x.F.length) (hm:m=s.run.length) (hS:∀ j,S j→j<A) (k:Kept (fun j=>j=A+1) W W') :
  StV S W' s (.agg (stB s (.slice a7 n c7) (.slice aru m cru)))∧(∃ a c,tv=.slice a K.length c∧TkS S W' a c K)∧Below A w0 W':=by
 subst hF
 have h1:=h.lA
 have h2:=h.hB
 have lan:=h.lanes.stp (k.mono (T:=MvQ S A q (.slice aru m cru) tv) (fun j _ e=>.inl (.inr ⟨by omega,by omega⟩))) (T:=S) (fun j _ e=>.inl (.inl e))
 obtain ⟨a',c',e',r'⟩:=(h.run.kept k (fun j hj e=>by omega)).ts (S:=S) (fun j hj e=>by have:=hS j e;omega)
 obtain ⟨rfl,-,rfl⟩:aru=a'∧True∧cru=c':=by injection e' with x1 x2 x3;exact ⟨x1,trivial,x3⟩
 exact ⟨⟨a7,c7,aru,cru,by rw [hn,hm],lan,r'⟩,(h.tak.kept k (fun j hj e=>by omega)).ts (S:=S) (fun j hj e=>by have:=hS j e;omega),h.bel.trans (k.below (by omega) (fun j e=>by omega))⟩
end
structure DsJ (w0:World) (S:Nat→Prop) (A q B:Nat) (s0 s:St) (L:List Tk) (tv:Value) (W:World):Prop where
 mem:∃ a c u,D9 w0 S A q B (stB s (.slice a s.x.F.length c) u) s.x.F a c s.run L u tv W
 ev:dsR (dsN s) s L=dsA s0
 few:Few s.x.F
 cnt:(allT s).length≤1800
 num:L.length≤s.run.length
theorem DsJ.next {w0 W:World} {S:Nat→Prop} {A q B:Nat} {s0 s:St} {L:List Tk} {u tv v:Value} {a:Option Addr} {c:Nat} (ev:dsR (dsN s) s L=dsA s0) (few:Few s.x.F) (cnt:(allT s).length≤1800) (num:L.length≤s.run.length) (hc:dsC s=true)
  (h:D9 w0 S A q B (stB (dsX s) v u) (dsX s).x.F a c (s.run ++ [dsT s]) (L ++ [dsT s]) u tv W) (hv:v=.slice a (dsX s).x.F.length c):DsJ w0 S A q B s0 (dsX s) (L ++ [dsT s]) tv W :=
 ⟨⟨a,c,u,by rw [←hv];exact h⟩,by rw [←dsA_step hc];exact ev,tkX_few few,by rw [dsX_len hc];exact cnt,by show _≤(s.run ++ [dsT s]).length;simp only [List.length_append,List.length_singleton];omega⟩
set_option maxRecDepth 20000 in
set_option maxHeartbeats 4000000 in
theorem rdispatch_st (s0:St) (ax:Option Addr) (cx:Nat) (ar:Option Addr) (cr:Nat) (w:World) (S:Nat→Prop) (hx:StR S w ax cx s0.x.F) (hr:SlR w ar cr s0.run) (hS:∀ j,S j→j<w.heap.size) (hf:Few s0.x.F) (hl:(allT s0).length≤1800) :
  Calls Tryz.prog 13 #[.agg (stB s0 (.slice ax s0.x.F.length cx) (.slice ar s0.run.length cr))] w fun e w'=>(∃ v u,e=.returned (.tuple #[v,u])∧StV S w' (dsA s0).1 v∧∃ a c,u=.slice a (dsA s0).2.length c∧TkS S w' a c (dsA s0).2)∧Below w.heap.size w w':=by
 obtain ⟨i0,hi,hz0,hz1,hz2⟩:=info_parts Tryz.info36
 have hl0:s0.run.length≤1800:=by rw [allT_len] at hl;omega
 obtain ⟨w2,hw2⟩:∃ w2,w2=((w.alloc (.cells (stB s0 (.slice ax s0.x.F.length cx) (.slice ar s0.run.length cr)) 34)).alloc (.cells zsT 34)):=⟨_,rfl⟩
 have BX:=boxes w 34 34 (stB s0 (.slice ax s0.x.F.length cx) (.slice ar s0.run.length cr)) zsT
 rw [←hw2] at BX
 obtain ⟨B,N1,N2⟩:=BX
 have hs2:w2.heap.size=w.heap.size+2:=by rw [hw2];simp
 obtain ⟨A,hA⟩:∃ A,A=w.heap.size:=⟨_,rfl⟩
 have HA:Hd (A=w.heap.size):=⟨hA⟩
 rw [←hA] at B N1 N2 hs2
 have HSZ:Hd (∀ j,S j→j<A):=⟨fun j e=>by rw [hA];exact hS j e⟩
 have hBw:Below w.heap.size w w2:=by rw [←hA];exact B
 have CP:=scopyr_ok s0 ax cx ar cr w2 ((hx.read (Kept.refl _ _)).carry hBw) hf (hr.carry hBw) (by omega)
 have HF:Hd (Few s0.x.F∧(allT s0).length≤1800):=⟨hf,hl⟩
 have HB:Hd (Below A w w2∧w2.heap.size=A+2∧Blk w2 A 34 (stB s0 (.slice ax s0.x.F.length cx) (.slice ar s0.run.length cr))∧Blk w2 (A+1) 34 (stB sZ (.slice none 0 0) (.slice none 0 0))):=⟨B,hs2,N1,N2⟩
 clear N1 N2 B hx hr hf hs2 hS hBw hl hl0
 go_enter Tryz.func13,Tryz.ntmps13
 go_upto_region 1 with fail
 rw [←hw2]
 clear hw2
 rw [←hA]
 clear hA
 go_wp2_with (refine wpl_loadSt rfl _ rfl A rfl _ HB.out.2.2.1 rfl ?_)
 go_at_call 6
 refine CP.mono ?_
 rintro e w3 ⟨⟨v3,u3,rfl,o3⟩,b3⟩
 obtain ⟨B2,hB2,⟨a3,c3,rfl,s3⟩,oR⟩:=o3.ex
 obtain ⟨ar3,cr3,rfl,-⟩:=oR.read
 obtain ⟨w5,hw5⟩:∃ w5,w5=w3.alloc (.cells zsT 34):=⟨_,rfl⟩
 have B5:Below w3.heap.size w3 w5:=by rw [hw5];exact alloc_below _ _
 obtain ⟨q,hq⟩:∃ q,q=w3.heap.size:=⟨_,rfl⟩
 have P5:Blk w5 q 34 (stB sZ (.slice none 0 0) (.slice none 0 0)):=by rw [hw5,hq];exact Blk.new _ _ _
 have D5:D9 w S A q B2 (stB sZ (.slice none 0 0) (.slice none 0 0)) s0.x.F a3 c3 s0.run [] (.slice ar3 s0.run.length cr3) (.slice none 0 0) w5:=by
  have h2:=HB.out.2.1
  have z3:=b3.size
  have z5:=B5.size
  refine ⟨(HB.out.1.trans (b3.mono (by omega))).trans (B5.mono (by omega)),by omega,by omega,P5,(HB.out.2.2.2.kept (Kept.of_below b3 (fun _=>False)) id).kept (Kept.of_below B5 (fun _=>False)) id,s3.stp (Kept.of_below B5 _) (fun j hj e=>?_),oR.keptV (Kept.of_below B5 (fun _=>False)) (fun _ _ e=>e),World.ownsRow_nil _ _ _ _,fun j _ e=>by cases e⟩
  rcases e with e | e | e | e
  ·exact .inl (by have:=Sx.lt HSZ.out (by omega) j e (B:=A+2);omega)
  ·omega
  ·exact .inr (oR.lt j e).1
  ·cases e
 have HD5:=Hd.mk D5
 clear CP o3 s3 oR b3 HB D5 B5 hB2
 go_upto_region 2 with (rw [←hw5,← hq];refine wpl_storeSt rfl _ _ rfl q rfl (stB s0 (.slice a3 s0.x.F.length c3) (.slice ar3 s0.run.length cr3)) _ rfl P5 rfl rfl (st_one _ _ _ _ _ _ _) ?_;intro w4 n4 k4)
 have HQ:=Hd.mk hq
 clear hw5 hq
 (try rw [←HQ.out])
 have HI0:Hd (DsJ w S A q B2 s0 s0 [] (.slice none 0 0) w4):=⟨⟨⟨a3,c3,_,HD5.out.put k4 n4⟩,rfl,HF.out.1,HF.out.2,Nat.zero_le _⟩⟩
 clear P5 HD5 n4 k4 HF
 go_wp2_with fail
 go_loopw [5] (fun v5 wr=>∃ s L,Hd (DsJ w S A q B2 s0 s L v5 wr)) (fun v5 _=>2000 - slN v5)
 case atStart=>exact ⟨s0,[],HI0⟩
 case round =>
  obtain ⟨s,L,hI⟩:=hrel
  clear HI0
  obtain ⟨⟨a,c,u,hD⟩,ev,few,cnt,num⟩:=hI.out
  have hrl:s.run.length≤1800:=by rw [allT_len] at cnt;omega
  obtain ⟨aru,cru,rfl,slu⟩:=hD.run.read
  obtain ⟨at4,ct4,rfl,slt⟩:=hD.tak.read
  have NX:=rnext_ok s.x.r s.x.g s.x.n s.x.o a c s.x.F wr (hD.lanes.read (Kept.refl _ _)) few
  have HE:=Hd.mk (And.intro ev (And.intro few (And.intro cnt num)))
  obtain ⟨m,hm⟩:∃ m,m=s.run.length:=⟨_,rfl⟩
  obtain ⟨n,hn⟩:∃ n,n=s.x.F.length:=⟨_,rfl⟩
  obtain ⟨l,hl⟩:∃ l,l=L.length:=⟨_,rfl⟩
  have HL:=Hd.mk (And.intro hm (And.intro hn (And.intro hl hrl)))
  rw [←hm,← hn,← hl] at hD
  rw [←hn] at NX
  rw [←hl]
  have HD:=Hd.mk hD
  obtain ⟨⟨x0,x1,x2,x3,x4⟩,-⟩:=hD.box.stx
  have hdc:Hd (nxt s.x.F s.x.g<0→dsC s=false):=⟨dsC_none⟩
  clear hI hD slu slt ev few cnt num hm hn hl hrl
  rcases nxt_is s.x.F s.x.g with ⟨e,-⟩ | ⟨pp,-,hpp,e,hne,-⟩
  ·have HQ2:Hd ((s,L)=dsA s0):=⟨by rw [←dsA_stop (hdc.out (by omega)) L];exact HE.out.1⟩
   rw [e] at NX
   rw [show nI (-1)=0 from rfl,show nB (-1)=false from rfl] at NX
   clear e hdc
   go_wp2_with fail
   go_at_call 42
   refine NX.mono ?_
   rintro e w5 ⟨rfl,b5⟩
   have HD5:=Hd.mk (HD.out.carry b5)
   clear NX b5 HD x0 x1 x2 x3 x4
   go_wp2_with (first | (refine wpl_loadSt rfl _ rfl q rfl _ HD5.out.box rfl ?_) | (refine wpl_storeSt rfl _ _ rfl (A+1) rfl (stB s (.slice a n c) (.slice aru m cru)) _ rfl HD5.out.zero rfl rfl (st_one _ _ _ _ _ _ _) ?_;intro w9 n9 k9))
   refine bodyPost_ret (resSt29 _ _ _ rfl rfl n9) rfl ?_
   have e1:(dsA s0).1=s:=by rw [←HQ2.out]
   have e2:(dsA s0).2=L:=by rw [←HQ2.out]
   obtain ⟨f1,⟨a9,c9,f2,f3⟩,f4⟩:=HD5.out.fin (s:=s) rfl HL.out.2.1 HL.out.1 HSZ.out k9
   rw [e1,e2,← HA.out]
   exact ⟨⟨_,_,rfl,f1,⟨a9,c9,f2,f3⟩⟩,f4⟩
  ·have hdp:dsC s=ftB s (gt (gl s.x.F pp).L 0).wid:=by rw [dsC_some (by omega),(tk_less e hpp hne).1]
   rw [e] at NX
   rw [nI_nat,show nB (pp:Int)=true from decide_eq_true (by omega)] at NX
   obtain ⟨b1,o1,a1,c1,rfl,hb1,d0,d1,s1⟩:=(HD.out.lanes.read (Kept.refl _ _)).at hpp
   obtain ⟨b2,o2,rfl,hb2,-,e1,-,-,-⟩:=s1.2.2.at (k:=0) (List.length_pos_iff.2 hne)
   obtain ⟨ql,hql⟩:∃ ql,ql=(gl s.x.F pp).L.length:=⟨_,rfl⟩
   have hq0:0<ql:=by rw [hql];exact List.length_pos_iff.2 hne
   rw [←hql] at d1
   have ett:(tkT s.x).wid=(gt (gl s.x.F pp).L 0).wid:=by rw [(tk_less e hpp hne).1]
   obtain ⟨wdd,hwdd⟩:∃ wdd,wdd=(gt (gl s.x.F pp).L 0).wid:=⟨_,rfl⟩
   rw [←hwdd] at e1 hdp ett
   have HC:Hd (∀ W,Below wr.heap.size wr W→W.cell? ⟨b1,o1+pp*2+1,none⟩=some (.slice (some ⟨b2,o2,none⟩) ql c1)∧W.cell? ⟨b2,o2+1,none⟩=some (.int .i64 wdd)∧W.cell? ⟨q,21,none⟩=some (.slice (some ⟨b1,o1,none⟩) n c)∧Blk W q 34 (stB s (.slice (some ⟨b1,o1,none⟩) n c) (.slice aru m cru))):=⟨fun W b=>⟨(b.cell (p:=⟨b1,o1+pp*2+1,none⟩) hb1).trans d1,(b.cell (p:=⟨b2,o2+1,none⟩) hb2).trans (by simpa using e1),(HD.out.box.kept (Kept.of_below b (fun _=>False)) id).cellv 21 rfl,HD.out.box.kept (Kept.of_below b (fun _=>False)) id⟩⟩
   have FT:Hd (∀ W,Below wr.heap.size wr W→Calls Tryz.prog 24 #[.agg (stB s (.slice (some ⟨b1,o1,none⟩) n c) (.slice aru m cru)),.int .i64 wdd] W fun e w'=>e=.returned (.tuple #[.int .i64 (ftN s wdd),.bool (ftB s wdd)])∧Below W.heap.size W w'):=⟨fun W B=>by
    obtain ⟨ar',cr',e2,r'⟩:=(HD.out.carry B).run.read
    obtain ⟨rfl,hmm,rfl⟩:aru=ar'∧m=s.run.length∧cru=cr':=by injection e2 with x1 x2 x3;exact ⟨x1,x2,x3⟩
    rw [hmm]
    exact rfits_ok s _ aru cru wdd W r' (by have:=HL.out.2.2.2;omega)⟩
   have i2:(pp:Int)<(n:Int):=by rw [HL.out.2.1];omega
   have i3:(0:Int)<(ql:Int):=by omega
   clear d0 d1 e1 s1 hql hwdd hne e hpp hdc
   rw [←hdp] at FT
   clear hdp
   go_upto_region 6 with (go_at_call 42;refine NX.mono ?_;rintro e w5 ⟨rfl,b5⟩)
   clear NX x0 x1 x2 x3 x4
   have B0:Below wr.heap.size wr w5.drew:=b5.drew
   obtain ⟨fn,hfn⟩:∃ fn,fn=ftN s wdd:=⟨_,rfl⟩
   have HFN:Hd (fn=ftN s (tkT s.x).wid):=⟨by rw [hfn,ett]⟩
   rw [←hfn] at FT
   clear hfn ett b5
   go_cut [8,9] from 15 to 64 (fun s8 s9 wx=>s8=.int .i64 fn∧s9=.bool (dsC s)∧Below wr.heap.size wr wx)
   case first =>
    refine AnyG.start (T:=fun Y=>Below wr.heap.size wr Y) (U:=fun _=>True) (j0:=100) (by kernel_rfl) ?_
    generalize w5.drew=v0 at *
    refine .tq (v:=.agg (stB s (.slice (some ⟨b1,o1,none⟩) n c) (.slice aru m cru))) 0 26 B0 ?_ (hy:=fun w hSw=>exec_loadSt _ rfl q rfl _ (HC.out w hSw).2.2.2 rfl);simp only [oqA,oqB,oqC]
    refine .tq 1 27 B0 ?_;simp only [oqA,oqB,oqC]
    refine .tq 2 28 B0 ?_;simp only [oqA,oqB,oqC]
    refine .tq (v:=.slice (some ⟨b1,o1,none⟩) n c) 3 29 B0 ?_ (hy:=fun w hSw=>by have s:=(HC.out w hSw).2.2.1;go_simp);simp only [oqA,oqB,oqC]
    refine .tq 4 30 B0 ?_;simp only [oqA,oqB,oqC]
    refine .tq (v:=.pointer (some ⟨b1,o1+pp*2,none⟩)) 5 31 B0 ?_ (hy:=fun w hSw=>by go_simp);simp only [oqA,oqB,oqC]
    refine .tq 6 32 B0 ?_;simp only [oqA,oqB,oqC]
    refine .tq (v:=.slice (some ⟨b2,o2,none⟩) ql c1) 7 33 B0 ?_ (hy:=fun w hSw=>by have s:=(HC.out w hSw).1;go_simp);simp only [oqA,oqB,oqC]
    refine .tq (v:=.pointer (some ⟨b2,o2,none⟩)) 8 34 B0 ?_ (hy:=fun w hSw=>by go_simp);simp only [oqA,oqB,oqC]
    refine .tq 9 35 B0 ?_;simp only [oqA,oqB,oqC]
    refine .tq (v:=.int .i64 wdd) 10 36 B0 ?_ (hy:=fun w hSw=>by have s:=(HC.out w hSw).2.1;go_simp);simp only [oqA,oqB,oqC]
    refine AnyG.ready (rs:=[11]) (by kernel_rfl) (by simp) ?_
    refine AllG.cons rfl (fun K hK=>?_) AllG.nil
    go_simp
    refine (FT.out v0 B0).mono ?_
    rintro e v1 ⟨rfl,b1'⟩
    have B1:=B0.trans (b1'.mono B0.size)
    refine hK.out _ _ ⟨B1,fun _=>trivial⟩ ?_
    clear hK K b1' B0
    refine .tq 12 25 B1 ?_;simp only [oqA,oqB,oqC]
    refine .tq 13 38 B1 ?_;simp only [oqA,oqB,oqC]
    refine .tq 14 39 B1 ?_;simp only [oqA,oqB,oqC]
    refine .tq 15 8 B1 ?_;simp only [oqA,oqB,oqC]
    refine .tq 16 9 B1 ?_;simp only [oqA,oqB,oqC]
    refine AnyG.done (by kernel_rfl) ?_ _
    have HB1:=Hd.mk B1
    clear B1
    go_wp2_with fail
    go_meet
    exact ⟨rfl,rfl,HB1.out⟩
   case rest =>
    obtain ⟨rfl,rfl,b6⟩:=hcut
    have HD5:=Hd.mk (HD.out.carry b6)
    clear b6 HD FT HC B0
    cases hc:dsC s with
    | false =>
     have HQ2:Hd ((s,L)=dsA s0):=⟨by rw [←dsA_stop hc L];exact HE.out.1⟩
     clear hc
     go_wp2_with (first | (refine wpl_loadSt rfl _ rfl q rfl _ HD5.out.box rfl ?_) | (refine wpl_storeSt rfl _ _ rfl (A+1) rfl (stB s (.slice (some ⟨b1,o1,none⟩) n c) (.slice aru m cru)) _ rfl HD5.out.zero rfl rfl (st_one _ _ _ _ _ _ _) ?_;intro w9 n9 k9))
     refine bodyPost_ret (resSt29 _ _ _ rfl rfl n9) rfl ?_
     have e1:(dsA s0).1=s:=by rw [←HQ2.out]
     have e2:(dsA s0).2=L:=by rw [←HQ2.out]
     obtain ⟨f1,⟨a9,c9,f2,f3⟩,f4⟩:=HD5.out.fin (s:=s) rfl HL.out.2.1 HL.out.1 HSZ.out k9
     rw [e1,e2,← HA.out]
     exact ⟨⟨_,_,rfl,f1,⟨a9,c9,f2,f3⟩⟩,f4⟩
    | true =>
     have TKE:=rtake_st s.x (some ⟨b1,o1,none⟩) c wc _ HD5.out.lanes (HD5.out.mv HSZ.out) HE.out.2.1
     rw [←HL.out.2.1] at TKE
     obtain ⟨y,hy⟩:∃ y,y=tkX s.x:=⟨_,rfl⟩
     obtain ⟨z,hz⟩:∃ z,z=tkT s.x:=⟨_,rfl⟩
     obtain ⟨ok,hok⟩:∃ ok,ok=tkO s.x:=⟨_,rfl⟩
     obtain ⟨nn,hnn⟩:∃ nn,nn=fn:=⟨_,rfl⟩
     have HY:Hd (dsC s=true∧y=(dsX s).x∧seated z nn=dsT s):=⟨hc,hy,by rw [hnn,HFN.out,hz];rfl⟩
     rw [←hy,← hz,← hok] at TKE
     rw [←hnn]
     clear hy hz hok hnn hc
     obtain ⟨⟨x0,x1,x2,x3,x4⟩,-⟩:=HD5.out.box.stx
     go_wp2_with fail
     go_at_call 43
     refine TKE.mono ?_
     rintro e w6 ⟨⟨v6,rfl,a5,c5,rfl,s6⟩,b6⟩
     obtain ⟨l5,hl5⟩:∃ l5,l5=y.F.length:=⟨_,rfl⟩
     have HL5:Hd (l5=y.F.length):=⟨hl5⟩
     rw [←hl5]
     clear hl5 TKE x0 x1 x2 x3 x4
     obtain ⟨w7,hw7⟩:∃ w7,w7=(w6.alloc (.cells #[.int .u64 y.r,.int .i64 y.g,.int .i64 y.n,.int .i64 y.o,.slice a5 l5 c5] 31)).alloc (.cells #[.int .i64 z.id,.int .i64 z.wid,.int .i64 z.sts,.int .i64 z.sin,.int .i64 z.unt] 36):=⟨_,rfl⟩
     have BX:=boxes w6 31 36 #[.int .u64 y.r,.int .i64 y.g,.int .i64 y.n,.int .i64 y.o,.slice a5 l5 c5] #[.int .i64 z.id,.int .i64 z.wid,.int .i64 z.sts,.int .i64 z.sin,.int .i64 z.unt]
     rw [←hw7] at BX
     obtain ⟨B7,N7,T7⟩:=BX
     have T7:Blk w7 (w6.heap.size+1) 36 (tkA z):=T7
     obtain ⟨g7,hg7⟩:∃ g7,g7=w6.heap.size:=⟨_,rfl⟩
     rw [←hg7] at N7 T7
     obtain ⟨⟨d0,d1,d2,d3,d4⟩,-,-,f2,-⟩:=T7.five
     have k8:Kept (fun j=>j=g7+1) w7 (w7.setCell ⟨g7+1,2,none⟩ (.int .i64 nn)):=(Kept.refl _ _).setCell _ _ (.inl rfl)
     have T8:Blk (w7.setCell ⟨g7+1,2,none⟩ (.int .i64 nn)) (g7+1) 36 (tkA (seated z nn)):=T7.set 2 (.int .i64 nn)
     have N8:Blk (w7.setCell ⟨g7+1,2,none⟩ (.int .i64 nn)) g7 31 (faA y.r y.g y.n y.o (.slice a5 l5 c5)):=N7.kept k8 (by omega)
     have HG:Hd (q<g7∧A+2≤q):=⟨by have:=HD5.out.box.lt;have:=b6.size;have:=HD5.out.lA;omega⟩
     have D8a:=((HD5.out.carry b6).turn s6).carry (B7.trans (k8.below (by rw [←hg7];have:=N7.lt;omega) (fun j e=>by omega)))
     have HX:Hd (∀ j,(Value.slice aru m cru).ownBlock=some j∨(Value.slice at4 l ct4).ownBlock=some j→j<g7):=⟨fun j e=>by
      have:=b6.size
      rcases e with e | e
      ·have:=(HD5.out.run.lt j e).2;omega
      ·have:=(HD5.out.tak.lt j e).2;omega⟩
     have HB9:Hd (m≤1800∧l≤1800):=⟨by have:=HL.out;have:=HE.out.2.2.2;omega⟩
     have HD8:=Hd.mk (And.intro D8a (And.intro N8 T8))
     clear HD5 s6 b6 B7 N7 T7 k8 T8 N8 D8a
     go_upto_region 10 with fail
     rw [←hw7,← hg7]
     clear hw7 hg7
     go_upto_region 11 with fail
     clear d0 d1 d2 d3 d4 f2
     generalize w7.setCell ⟨g7+1,2,none⟩ (.int .i64 nn)=w8 at *
     obtain ⟨⟨y0,y1,y2,y3,y4⟩,-⟩:=HD8.out.2.1.fair
     obtain ⟨⟨x0,x1,x2,x3,x4⟩,f0,f1,f2,f3,f4⟩:=HD8.out.1.box.stx
     obtain ⟨Q9,K9⟩:=st_fair HD8.out.1.box y (.slice a5 l5 c5)
     have HD9:=Hd.mk (And.intro (HD8.out.1.put K9 Q9) (HD8.out.2.2.kept K9 (by have:=HG.out;omega)))
     clear Q9 K9 HD8
     go_upto_region 12 with fail
     clear y0 y1 y2 y3 y4 x0 x1 x2 x3 x4 f0 f1 f2 f3 f4
     generalize (((((w8.setCell ⟨q,17,none⟩ (.int .u64 y.r)).setCell ⟨q,18,none⟩ (.int .i64 y.g)).setCell ⟨q,19,none⟩ (.int .i64 y.n)).setCell ⟨q,20,none⟩ (.int .i64 y.o)).setCell ⟨q,21,none⟩ (.slice a5 l5 c5))=w9 at *
     obtain ⟨⟨d0,d1,d2,d3,d4⟩,-⟩:=HD9.out.2.five
     have g22:=HD9.out.1.box.str.1
     obtain ⟨w10,hw10⟩:∃ w10,w10=w9.alloc (.cells #[.int .i64 (seated z nn).id,.int .i64 (seated z nn).wid,.int .i64 (seated z nn).sts,.int .i64 (seated z nn).sin,.int .i64 (seated z nn).unt] 36):=⟨_,rfl⟩
     have B10:Below w9.heap.size w9 w10:=by rw [hw10];exact alloc_below _ _
     have T10:Blk w10 w9.heap.size 36 (tkA (seated z nn)):=by rw [hw10];exact Blk.new _ _ _
     have HD10:=Hd.mk (And.intro (HD9.out.1.carry B10) (And.intro T10 (HD9.out.2.kept (Kept.of_below B10 (fun _=>False)) id)))
     clear T10 B10
     go_upto_region 13 with (at_builtin;rw [←hw10];refine wpList_append_lies _ rfl _ _ 32 rfl B2 36 i0 (.agg #[.int .i64 0,.int .i64 0,.int .i64 0,.int .i64 0,.int .i64 0]) 5 40 Tryz.underlying32 hi hz0 hz1 hz2 rfl (by decide) _ m (tkCs s.run) rfl (OwnT.row HD10.out.1.run HL.out.1) ⟨w9.heap.size,0,none⟩ 1 1 (tkC (seated z nn)) rfl rfl (fun j u hj=>by rw [Go.WideShapes.add_plain,Nat.zero_add,HD10.out.2.1.cell];simpa [tkA,tkC] using hj) (one_cellK _) (by decide) (by have:=HB9.out;unfold maxLen;omega) (by have:=HB9.out;omega) HD10.out.1.hB _ rfl ?_;intro gu cu w11 hown hgr hat hgl;have D11:=HD10.out.1.pushU (OwnT.mk HL.out.1.symm hown) hgr hat;have T11:=HD10.out.2.2.kept (Kept.of_grown hgr (S:=fun j=>(Value.slice aru m cru).ownBlock=some j) (fun _ e=>e)) (fun e=>by have:=HX.out _ (.inl e);omega);obtain ⟨r22,f22⟩:=D11.box.str)
     obtain ⟨Q12,K12⟩:=st_run D11.box (s.run ++ [seated z nn]) (.slice (some ⟨gu,0,none⟩) (m+1) cu)
     have HD12:=Hd.mk (And.intro (D11.put K12 Q12) (T11.kept K12 (by have:=HG.out;omega)))
     clear Q12 K12 D11 T11 r22 f22 hown hgr hat hgl g22 d0 d1 d2 d3 d4 HD10 HD9
     (try clear hw10)
     generalize w11.setCell ⟨q,22,none⟩ (.slice (some ⟨gu,0,none⟩) (m+1) cu)=w12 at *
     obtain ⟨⟨d0,d1,d2,d3,d4⟩,-⟩:=HD12.out.2.five
     obtain ⟨w13,hw13⟩:∃ w13,w13=w12.alloc (.cells #[.int .i64 (seated z nn).id,.int .i64 (seated z nn).wid,.int .i64 (seated z nn).sts,.int .i64 (seated z nn).sin,.int .i64 (seated z nn).unt] 36):=⟨_,rfl⟩
     have B13:Below w12.heap.size w12 w13:=by rw [hw13];exact alloc_below _ _
     have T13:Blk w13 w12.heap.size 36 (tkA (seated z nn)):=by rw [hw13];exact Blk.new _ _ _
     have HD13:=Hd.mk (And.intro (HD12.out.1.carry B13) T13)
     clear T13 B13
     go_wp2_with (at_builtin;rw [←hw13];refine wpList_append_lies _ rfl _ _ 32 rfl B2 36 i0 (.agg #[.int .i64 0,.int .i64 0,.int .i64 0,.int .i64 0,.int .i64 0]) 5 40 Tryz.underlying32 hi hz0 hz1 hz2 rfl (by decide) _ l (tkCs L) rfl (OwnT.row HD13.out.1.tak HL.out.2.2.1) ⟨w12.heap.size,0,none⟩ 1 1 (tkC (seated z nn)) rfl rfl (fun j u hj=>by rw [Go.WideShapes.add_plain,Nat.zero_add,HD13.out.2.cell];simpa [tkA,tkC] using hj) (one_cellK _) (by decide) (by have:=HB9.out;unfold maxLen;omega) (by have:=HB9.out;omega) HD13.out.1.hB _ rfl ?_;intro gv cv w14 hown hgr hat hgl;have HD14:=Hd.mk (HD13.out.1.pushT (OwnT.mk HL.out.2.2.1.symm hown) hgr hat);clear hown hgr hat hgl)
     go_roundw
     case rel =>
      obtain ⟨hc,rfl,ht⟩:=HY.out
      have hD8:=HD14.out
      rw [ht] at hD8
      exact ⟨dsX s,L ++ [dsT s],⟨DsJ.next HE.out.1 HE.out.2.1 HE.out.2.2.1 HE.out.2.2.2 hc hD8 (by rw [HL5.out])⟩⟩
     case measure=>have:=HB9.out;simp [slN];omega
end Go.Proofs.YtlgibnmoogbdcaaGreat
