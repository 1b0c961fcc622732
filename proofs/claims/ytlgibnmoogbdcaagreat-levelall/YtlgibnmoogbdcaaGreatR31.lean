/-
  A level that is copied, by the program: its lanes, their lists and who runs lie in memory of its own then, each in a block for itself.
  Somebody comes to a queue, by the program.
-/
import Derived.Test.YtlgibnmoogbdcaaGreatR30
namespace Go.Proofs.YtlgibnmoogbdcaaGreat
open Go.RowKit
structure StO (w:World) (B:Nat) (s:St) (v u:Value):Prop where
 lanes:∃ Z:List Lz,Z.map Prod.fst=s.x.F∧w.ownsRow B 62 2 v s.x.F.length (zCs Z)∧(∀ z∈Z,OwnT w B z.2 z.1.L)∧Apt Z∧∀ z∈Z,∀ b,z.2.ownBlock=some b→u.ownBlock≠some b
 run:OwnT w B u s.run
theorem StO.owl {w:World} {B:Nat} {s:St} {v u:Value} (h:StO w B s v u):OwL w B v s.x.F:=by
 obtain ⟨Z,h1,h2,h3,-⟩:=h.lanes
 exact ⟨Z,h1,h2,h3⟩
theorem StO.low {w:World} {B B':Nat} {s:St} {v u:Value} (h:StO w B s v u) (hB:B'≤B):StO w B' s v u:=by
 obtain ⟨⟨Z,h1,h2,h3,h4,h5⟩,h6⟩:=h
 exact ⟨⟨Z,h1,⟨h2.1,h2.2.imp id (fun ⟨g,cap,cur,e,hb,r⟩=>⟨g,cap,cur,e,Nat.le_trans hB hb,r⟩)⟩,fun z hz=>(h3 z hz).low hB,h4,h5⟩,h6.low hB⟩
theorem StO.kept {S:Nat→Prop} {w w':World} {B:Nat} {s:St} {v u:Value} (h:StO w B s v u) (k:Kept S w w') (hS:∀ j,B≤j→¬ S j):StO w' B s v u:=by
 obtain ⟨⟨Z,h1,h2,h3,h4,h5⟩,h6⟩:=h
 exact ⟨⟨Z,h1,ownsRow_kept h2 k (fun j e=>hS j (h2.lt j e).1),fun z hz=>(h3 z hz).kept k hS,h4,h5⟩,h6.kept k hS⟩
theorem StO.shape {w:World} {B:Nat} {s:St} {v u:Value} (h:StO w B s v u):∃ ax cx ar cr,v=.slice ax s.x.F.length cx∧u=.slice ar s.run.length cr∧LsR w ax cx s.x.F∧SlR w ar cr s.run:=by
 obtain ⟨ax,cx,e1,r1⟩:=h.owl.read
 obtain ⟨ar,cr,e2,r2⟩:=h.run.read
 exact ⟨ax,cx,ar,cr,e1,e2,r1,r2⟩
theorem row_shape {w:World} {B t m n:Nat} {v:Value} {cs:List Value} (h:w.ownsRow B t m v n cs):∃ a c,v=.slice a n c:=by
 rcases h.2 with ⟨rfl,e⟩ | ⟨g,cap,cur,rfl,-⟩
 ·subst e;exact ⟨_,_,rfl⟩
 ·exact ⟨_,_,rfl⟩
structure CkR (w0:World) (A:Nat) (s:St) (cs:Array Value) (v:Value) (Z0:List Lz) (k:Nat) (w:World):Prop where
 row:∃ Z,Z.map Prod.fst=s.x.F.take k∧w.ownsRow (A+3) 62 2 v s.x.F.length (zCs (Z++Z0.drop k))∧(∀ z∈Z,OwnT w (A+3) z.2 z.1.L)∧Apt Z
 box:Blk w A 34 cs∧Blk w (A+1) 34 (stB sZ (.slice none 0 0) (.slice none 0 0))∧Blk w (A+1+1) 31 (faA s.x.r s.x.g s.x.n s.x.o v)
 below:Below A w0 w
theorem CkR.next {w0 wr:World} {A k:Nat} {s:St} {cs:Array Value} {v vk:Value} {Z0:List Lz} (h:CkR w0 A s cs v Z0 k wr) (hl:Z0.length=s.x.F.length) (hk:k<s.x.F.length) (hv:Z0[k]?=some (gl s.x.F k,vk)) :
  ∃ g cap,v=.slice (some ⟨g,0,none⟩) s.x.F.length cap∧A+3≤g∧g<wr.heap.size∧(wr.cell? ⟨g,k*2,none⟩=some (.int .u64 (gl s.x.F k).s)∧wr.cell? ⟨g,k*2+1,none⟩=some vk)∧∀ w5 v5,Below wr.heap.size wr w5→OwnT w5 wr.heap.size v5 (gl s.x.F k).L→(w5.cell? ⟨g,k*2+1,none⟩=some vk∧w5.frozen? ⟨g,k*2+1,none⟩=false)∧CkR w0 A s cs v Z0 (k+1) (w5.setCell ⟨g,k*2+1,none⟩ v5):=by
 obtain ⟨⟨Z,hZ,r,oz,ap⟩,⟨b1,b2,b3⟩,bl⟩:=h
 have lZ:Z.length=k:=by rw [←List.length_map (f:=Prod.fst),hZ,List.length_take];omega
 have lX:(Z++Z0.drop k).length=s.x.F.length:=by rw [List.length_append,List.length_drop,lZ];omega
 have hX:(Z++Z0.drop k)[k]?=some (gl s.x.F k,vk):=by
  rw [List.getElem?_append_right (by omega),lZ,Nat.sub_self,List.getElem?_drop,Nat.add_zero]
  exact hv
 obtain ⟨g,cap,cur,e,hB,hblk,hcell,-⟩:=row_put r lX hX
 refine ⟨g,cap,e,hB,hblk.lt,hcell,fun w5 v5 hb o5=>?_⟩
 have K5:Kept (fun _=>False) wr w5:=Kept.of_below hb _
 obtain ⟨g',cap',cur',e',hB',hblk',hcell',PUT⟩:=row_put (ownsRow_kept r K5 (fun _ _ h=>h)) lX hX
 obtain rfl:g=g':=by rw [e] at e';injection e' with x1;injection x1 with x1;injection x1
 obtain ⟨P1,P2⟩:=PUT v5 (gl s.x.F k) rfl
 refine ⟨⟨hcell'.2,hblk'.frozen _⟩,⟨Z ++ [(gl s.x.F k,v5)],?_,?_,fun z hz=>?_,ap.snoc fun y hy b hb1 hb2=>?_⟩,⟨?_,?_,?_⟩,?_⟩
 ·rw [List.map_append,hZ,List.take_add_one,gl_get hk]
  rfl
 ·have e2:(Z++Z0.drop k).set k (gl s.x.F k,v5)=(Z ++ [(gl s.x.F k,v5)])++Z0.drop (k+1):=by
   rw [List.set_append_right _ _ (by omega),lZ,Nat.sub_self,List.drop_eq_getElem_cons (by omega),List.set_cons_zero]
   simp
  rw [←e2]
  exact P1
 ·rcases List.mem_append.1 hz with c | c
  ·exact ((oz z c).kept K5 (fun _ _ h=>h)).other hblk' P2
  ·rw [List.mem_singleton.1 c]
   exact (o5.other hblk' P2).low (by have:=hblk.lt;omega)
 ·have h1:=((oz y hy).lt b hb1).2
  have h2:=(o5.lt b hb2).1
  omega
 ·exact (b1.kept K5 id).kept P2 (by omega)
 ·exact (b2.kept K5 id).kept P2 (by omega)
 ·exact (b3.kept K5 id).kept P2 (by omega)
 ·exact (bl.trans (hb.mono (by have:=hblk.lt;omega))).trans (P2.below (by have:=hb.size;have:=hblk.lt;omega) (fun j e=>by omega))
theorem CkR.fin {w0 wr w5:World} {A:Nat} {s:St} {cs:Array Value} {v u:Value} {Z0:List Lz} (h:CkR w0 A s cs v Z0 s.x.F.length wr) (hl:Z0.length=s.x.F.length) (hb:Below wr.heap.size wr w5) (o:OwnT w5 wr.heap.size u s.run) (hA:A+1+1<wr.heap.size) :
  ∀ w6,Kept (fun j=>j=A+1) w5 w6→StO w6 (A+3) s v u∧Below A w0 w6:=fun w6 k=>by
 obtain ⟨⟨Z,hZ,r,oz,ap⟩,-,bl⟩:=h
 rw [←hl,List.drop_length,List.append_nil] at r
 rw [List.take_of_length_le (Nat.le_refl _)] at hZ
 rw [hl] at r
 have K5:Kept (fun _=>False) wr w5:=Kept.of_below hb _
 have hs:=hb.size
 refine ⟨⟨⟨Z,hZ,ownsRow_kept (ownsRow_kept r K5 (fun _ _ h=>h)) k (fun j e=>by have:=(r.lt j e).1;omega),fun z hz=>((oz z hz).kept K5 (fun _ _ h=>h)).kept k (fun j hj e=>by omega),ap,fun z hz b h1 h2=>?_⟩,?_⟩,?_⟩
 ·have e1:=((oz z hz).lt b h1).2
  have e2:=(o.lt b h2).1
  omega
 ·refine ⟨o.1,o.2.imp id ?_⟩
  rintro ⟨g,cap,cur,e,h1,h2,h3⟩
  have hlt:g<w5.heap.size:=by
   rcases Nat.lt_or_ge g w5.heap.size with c | c
   ·exact c
   ·rw [Array.getElem?_eq_none c] at h2;cases h2
  by_cases c:A+3≤g
  ·exact ⟨g,cap,cur,e,c,by rw [k.block g hlt (by omega)];exact h2,h3⟩
  ·omega
 ·exact (bl.trans (hb.mono (by omega))).trans (k.below (by omega) (fun j e=>by omega))
set_option maxRecDepth 20000 in
set_option maxHeartbeats 2000000 in
theorem scopied_ok (s:St) (ax:Option Addr) (cx:Nat) (ar:Option Addr) (cr:Nat) (w:World) (hx:LsR w ax cx s.x.F) (hf:Few s.x.F) (hr:SlR w ar cr s.run) (hl:s.run.length≤2000) :
  Calls Tryz.prog 35 #[.agg (stB s (.slice ax s.x.F.length cx) (.slice ar s.run.length cr))] w fun e w'=>(∃ v u,e=.returned (.agg (stB s v u))∧StO w' w.heap.size s v u)∧Below w.heap.size w w':=by
 obtain ⟨hx1,hx2,Z0,hZ0,hrow,hz0⟩:=hx
 have hZl:Z0.length=s.x.F.length:=by rw [←hZ0,List.length_map]
 have hln:=hf.len
 have HSL:∀ z∈Z0,∃ a n c,z.2=.slice a n c:=fun z hz=>by obtain ⟨a,c,e,-⟩:=hz0 z hz;exact ⟨a,_,c,e⟩
 have CLN:∀ W,Below w.heap.size w W→Calls Tryz.prog 66 #[.slice ax s.x.F.length cx] W fun e w'=>∃ v,e=.returned v∧w'.ownsRow W.heap.size 62 2 v s.x.F.length (zCs Z0)∧Below W.heap.size W w':=fun W b=>by
  rw [←hZl]
  exact cloneL_ok ax cx Z0 W (by omega) hx2 (hrow.carry b) HSL (by omega)
 have HW:Hd (∀ W (v:Value) (y:Fa) av nv cv,Below w.heap.size w W→Calls Tryz.prog 48 #[.agg (stB s v (.slice ar s.run.length cr)),.agg #[.int .u64 y.r,.int .i64 y.g,.int .i64 y.n,.int .i64 y.o,.slice av nv cv]] W fun e w'=>(∃ u,e=.returned (.agg (stB { s with x:=y } (.slice av nv cv) u))∧OwnT w' (W.heap.size+3) u s.run)∧Below W.heap.size W w'):=⟨fun W v y av nv cv b=>swith_ok s v ar cr y av nv cv W (hr.carry b) hl⟩
 have HZL:Hd (Z0.length=s.x.F.length):=⟨hZl⟩
 have HLZ:Hd (∀ W,Below w.heap.size w W→∀ (k:Nat),k<s.x.F.length→∃ v a c,Z0[k]?=some (gl s.x.F k,v)∧v=.slice a (gl s.x.F k).L.length c∧SlR W a c (gl s.x.F k).L):=⟨fun W b k hk=>by
  obtain ⟨v,hv⟩:=map_fst_get hZ0 hk
  obtain ⟨a,c,e,r⟩:=hz0 _ (List.mem_of_getElem? hv)
  exact ⟨v,a,c,hv,e,r.carry b⟩⟩
 have HF:Hd (Few s.x.F∧Z0.map Prod.fst=s.x.F):=⟨hf,hZ0⟩
 obtain ⟨n,hn⟩:∃ n,s.x.F.length=n:=⟨_,rfl⟩
 obtain ⟨m,hm⟩:∃ m,s.run.length=m:=⟨_,rfl⟩
 have HL:Hd (s.x.F.length=n∧s.run.length=m):=⟨hn,hm⟩
 rw [hn] at hln CLN HLZ ⊢
 rw [hm] at hl HW ⊢
 clear hx1 hx2 hZ0 hrow hz0 hZl HSL hf hr hn hm
 obtain ⟨w2,hw2⟩:∃ w2,w2=((w.alloc (.cells (stB s (.slice ax n cx) (.slice ar m cr)) 34)).alloc (.cells zsT 34)).alloc (.cells #[.int .u64 s.x.r,.int .i64 s.x.g,.int .i64 s.x.n,.int .i64 s.x.o,.slice ax n cx] 31):=⟨_,rfl⟩
 have BX:=boxes3 w 34 34 31 (stB s (.slice ax n cx) (.slice ar m cr)) zsT #[.int .u64 s.x.r,.int .i64 s.x.g,.int .i64 s.x.n,.int .i64 s.x.o,.slice ax n cx]
 rw [←hw2] at BX
 obtain ⟨B,N1,N2,N3⟩:=BX
 have BX2:=boxes w 34 34 (stB s (.slice ax n cx) (.slice ar m cr)) zsT
 obtain ⟨⟨c0,c1,c2,c3,c4⟩,-⟩:=Blk.stx BX2.2.1
 obtain ⟨A,hA⟩:∃ A,A=w.heap.size:=⟨_,rfl⟩
 have HA:Hd (A=w.heap.size):=⟨hA⟩
 have CL1:=CLN w2 B
 have HN:Hd (Below A w w2∧(Blk w2 A 34 (stB s (.slice ax n cx) (.slice ar m cr))∧Blk w2 (A+1) 34 (stB sZ (.slice none 0 0) (.slice none 0 0))∧Blk w2 (A+1+1) 31 (faA s.x.r s.x.g s.x.n s.x.o (.slice ax n cx)))∧w2.heap.size=A+3):=⟨by rw [hA];exact B,⟨by rw [hA];exact N1,by rw [hA];exact N2,by rw [hA];exact N3⟩,by rw [hA,hw2];simp⟩
 have y4:w2.cell? ⟨A+1+1,4,none⟩=some (.slice ax n cx):=HN.out.2.1.2.2.cellv 4 rfl
 clear N1 N2 N3 B BX2 CLN
 go_enter Tryz.func35,Tryz.ntmps35
 go_upto_region 2 with fail
 rw [←hw2]
 clear hw2
 rw [←hA] at c0 c1 c2 c3 c4 ⊢
 clear hA c0 c1 c2 c3 c4
 go_wp2_with fail
 go_at_call 66
 refine CL1.mono ?_
 rintro e w3 ⟨v3,rfl,r3,b3⟩
 obtain ⟨a3,c3,rfl⟩:=row_shape r3
 clear CL1 y4
 have M0:Blk w3 A 34 (stB s (.slice ax n cx) (.slice ar m cr)):=HN.out.2.1.1.kept (Kept.of_below b3 (fun _=>False)) id
 have M1:Blk w3 (A+1) 34 (stB sZ (.slice none 0 0) (.slice none 0 0)):=HN.out.2.1.2.1.kept (Kept.of_below b3 (fun _=>False)) id
 have M2:Blk w3 (A+1+1) 31 (faA s.x.r s.x.g s.x.n s.x.o (.slice ax n cx)):=HN.out.2.1.2.2.kept (Kept.of_below b3 (fun _=>False)) id
 obtain ⟨⟨-,-,-,-,x4⟩,-,-,-,-,f4⟩:=M2.fair
 obtain ⟨Q2,K2⟩:=fair_lanes M2 (.slice a3 n c3)
 rw [HN.out.2.2] at r3 b3
 have B4:Below A w (w3.setCell ⟨A+1+1,4,none⟩ (.slice a3 n c3)):=(HN.out.1.trans (b3.mono (by omega))).trans (K2.below (by have:=b3.size;have:=HN.out.2.2;omega) (fun k e=>by omega))
 have C0:CkR w A s (stB s (.slice ax n cx) (.slice ar m cr)) (.slice a3 n c3) Z0 0 (w3.setCell ⟨A+1+1,4,none⟩ (.slice a3 n c3)):=by
  refine ⟨⟨[],by simp,?_,(fun z hz=>by cases hz),List.Pairwise.nil⟩,⟨M0.kept K2 (by omega),M1.kept K2 (by omega),Q2⟩,B4⟩
  rw [List.nil_append,List.drop_zero,HL.out.1]
  exact ownsRow_kept r3 K2 (fun j ej=>by have:=(r3.lt j ej).1;omega)
 have HC0:Hd (CkR w A s (stB s (.slice ax n cx) (.slice ar m cr)) (.slice a3 n c3) Z0 0 (w3.setCell ⟨A+1+1,4,none⟩ (.slice a3 n c3))):=⟨C0⟩
 have z4:(w3.setCell ⟨A+1+1,4,none⟩ (.slice a3 n c3)).cell? ⟨A+1+1,4,none⟩=some (.slice a3 n c3):=Q2.cellv 4 rfl
 have HBS:Hd (A+3≤(w3.setCell ⟨A+1+1,4,none⟩ (.slice a3 n c3)).heap.size):=⟨by have:=K2.size;have:=b3.size;have:=HN.out.2.2;omega⟩
 clear C0 M0 M1 M2 Q2 K2 r3 b3 B4 HN
 go_upto_region 3 with fail
 clear x4 f4
 generalize w3.setCell ⟨A+1+1,4,none⟩ (.slice a3 n c3)=w4 at *
 go_wp2_with fail
 clear z4
 go_loopw [4,5,15] (fun _ _ vi wr=>∃ k:Nat,k≤n∧vi=.int .i64 k∧Hd (CkR w A s (stB s (.slice ax n cx) (.slice ar m cr)) (.slice a3 n c3) Z0 k wr)) (fun _ _ vi _=>n - (intOf vi).toNat)
 case atStart=>exact ⟨0,Nat.zero_le _,rfl,HC0⟩
 case round =>
  obtain ⟨k,hk,rfl,hC⟩:=hrel
  clear HC0 HBS
  by_cases hlt:k<n
  ·obtain ⟨vk,a1,c1,hv,rfl,hs1⟩:=HLZ.out wr (by rw [←HA.out];exact hC.out.below) k hlt
   obtain ⟨g,cap,e3,hg3,hgw,⟨d0,d1⟩,NX⟩:=hC.out.next HZL.out (by rw [HL.out.1];exact hlt) hv
   obtain ⟨rfl,rfl⟩:a3=some ⟨g,0,none⟩∧c3=cap:=by injection e3 with x1 x2 x3;exact ⟨x1,x3⟩
   have HNX:=Hd.mk NX
   obtain ⟨wa,hwa⟩:∃ wa,wa=wr.alloc (.cells #[.int .u64 (gl s.x.F k).s,.slice a1 (gl s.x.F k).L.length c1] 62):=⟨_,rfl⟩
   have BA:Below wr.heap.size wr wa:=by rw [hwa];exact alloc_below _ _
   have MA:Blk wa.drew wr.heap.size 62 (lnA (gl s.x.F k).s (.slice a1 (gl s.x.F k).L.length c1)):=by rw [hwa];exact Blk.new wr 62 _
   have CL:=clone_ok a1 c1 (gl s.x.F k).L wa.drew ((hs1.carry BA).carry (Below.refl _ _).drew) (by have:=(HF.out.1.at k).2;omega)
   have HB:Hd (Below wr.heap.size wr wa.drew):=⟨BA.drew⟩
   have HX:Hd (A+1+1<wr.heap.size∧A+3≤g∧g<wr.heap.size):=⟨by omega,hg3,hgw⟩
   have FA:Blk wa.drew (A+1+1) 31 (faA s.x.r s.x.g s.x.n s.x.o (.slice (some ⟨g,0,none⟩) n c3)):=hC.out.box.2.2.kept (Kept.of_below BA.drew (fun _=>False)) id
   clear NX hs1 BA e3 hC hv
   generalize (gl s.x.F k).L.length=l1 at *
   generalize (gl s.x.F k).s=s1 at *
   have i1:(k:Int)<(n:Int):=by omega
   go_upto_region 6 with fail
   rw [←hwa]
   clear hwa d0 d1
   obtain ⟨y,hy⟩:∃ y,y=wr.heap.size:=⟨_,rfl⟩
   have HY:Hd (y=wr.heap.size):=⟨hy⟩
   rw [←hy] at MA ⊢
   clear hy
   refine AnyG.start (T:=fun W=>Blk W y 62 (lnA s1 (.slice a1 l1 c1))∧Blk W (A+1+1) 31 (faA s.x.r s.x.g s.x.n s.x.o (.slice (some ⟨g,0,none⟩) n c3))) (U:=fun _=>True) (j0:=100) (by kernel_rfl) ?_
   generalize wa.drew=w5 at *
   have X0:Hd (∀ W,Blk W y 62 (lnA s1 (.slice a1 l1 c1))→W.cell? ⟨y,1,none⟩=some (.slice a1 l1 c1)):=⟨fun W q=>q.cellv 1 rfl⟩
   have X1:Hd (∀ W,Blk W (A+1+1) 31 (faA s.x.r s.x.g s.x.n s.x.o (.slice (some ⟨g,0,none⟩) n c3))→W.cell? ⟨A+1+1,4,none⟩=some (.slice (some ⟨g,0,none⟩) n c3)):=⟨fun W q=>q.cellv 4 rfl⟩
   have R5:Blk w5 y 62 (lnA s1 (.slice a1 l1 c1))∧Blk w5 (A+1+1) 31 (faA s.x.r s.x.g s.x.n s.x.o (.slice (some ⟨g,0,none⟩) n c3)):=⟨MA,FA⟩
   clear MA FA
   refine .tq 0 20 R5 ?_;simp only [oqA,oqB,oqC]
   refine .tq 1 21 R5 ?_ (hy:=fun w hSw=>by have s:=X1.out w hSw.2;go_simp;rfl);simp only [oqA,oqB,oqC]
   refine .tq 2 22 R5 ?_;simp only [oqA,oqB,oqC]
   refine .tq 3 23 R5 ?_;simp only [oqA,oqB,oqC]
   refine .tq 4 24 R5 ?_ (hy:=fun w hSw=>by have s:=X0.out w hSw.1;go_simp;rfl);simp only [oqA,oqB,oqC]
   refine AnyG.ready (rs:=[5]) (by kernel_rfl) (by simp) ?_
   refine AllG.cons rfl (fun K hK=>?_) AllG.nil
   go_simp
   refine CL.mono ?_
   rintro e w6 ⟨v6,rfl,o6,b6⟩
   have R6:Blk w6 y 62 (lnA s1 (.slice a1 l1 c1))∧Blk w6 (A+1+1) 31 (faA s.x.r s.x.g s.x.n s.x.o (.slice (some ⟨g,0,none⟩) n c3)):=⟨R5.1.kept (Kept.of_below b6 (fun _=>False)) id,R5.2.kept (Kept.of_below b6 (fun _=>False)) id⟩
   refine hK.out _ _ ⟨R6,fun _=>trivial⟩ ?_
   clear hK K CL R5
   obtain ⟨⟨r0,f0⟩,CN⟩:=HNX.out w6 v6 (HB.out.trans (b6.mono HB.out.size)) (o6.low HB.out.size)
   obtain ⟨a6,c6,rfl,-⟩:=o6.read
   refine .tq 6 26 R6 ?_;simp only [oqA,oqB,oqC]
   refine .tq 7 27 R6 ?_;simp only [oqA,oqB,oqC]
   refine AnyG.ready (rs:=[8]) (by kernel_rfl) (by simp) ?_
   refine AllG.cons rfl (fun K hK=>?_) AllG.nil
   go_simp
   have R7:Blk (w6.setCell ⟨g,k*2+1,none⟩ (.slice a6 (gl s.x.F k).L.length c6)) y 62 (lnA s1 (.slice a1 l1 c1))∧Blk (w6.setCell ⟨g,k*2+1,none⟩ (.slice a6 (gl s.x.F k).L.length c6)) (A+1+1) 31 (faA s.x.r s.x.g s.x.n s.x.o (.slice (some ⟨g,0,none⟩) n c3)):=⟨R6.1.other (by have:=HX.out;have:=HY.out;intro e;simp at e;omega) _,R6.2.other (by have:=HX.out;intro e;simp at e;omega) _⟩
   refine hK.out _ _ ⟨R7,fun _=>trivial⟩ ?_
   clear hK K r0 f0 o6 b6 R6
   refine AnyG.done (by kernel_rfl) ?_ _
   have HCN:=Hd.mk CN
   clear CN R7
   go_wp2
   go_roundw
   case rel=>exact ⟨k+1,by omega,by go_num,HCN⟩
   case measure=>simp [intOf];omega
  ·obtain rfl:k=n:=by omega
   have HY:=HW.out wr (.slice ax k cx) s.x a3 k c3 (by rw [←HA.out];exact hC.out.below)
   obtain ⟨b1,b2,b3⟩:=hC.out.box
   obtain ⟨⟨y0,y1,y2,y3,y4⟩,-⟩:=b3.fair
   have HCk:CkR w A s (stB s (.slice ax k cx) (.slice ar m cr)) (.slice a3 s.x.F.length c3) Z0 s.x.F.length wr:=by rw [HL.out.1];exact hC.out
   have HF2:Hd (∀ w5 u,Below wr.heap.size wr w5→OwnT w5 wr.heap.size u s.run→∀ w6,Kept (fun j=>j=A+1) w5 w6→StO w6 (A+3) s (.slice a3 k c3) u∧Below A w w6):=⟨fun w5 u h1 h2 w6 k6=>by
    have q:=HCk.fin HZL.out h1 h2 b3.lt w6 k6
    rw [HL.out.1] at q
    exact q⟩
   have HB2:Hd (Blk wr A 34 (stB s (.slice ax k cx) (.slice ar m cr))∧Blk wr (A+1) 34 (stB sZ (.slice none 0 0) (.slice none 0 0))):=⟨b1,b2⟩
   clear hC b1 b2 b3 HLZ HF HW HCk
   go_wp2_with (refine wpl_loadSt rfl _ rfl A rfl _ HB2.out.1 rfl ?_)
   go_at_call 48
   refine HY.mono ?_
   rintro e w5 ⟨⟨u5,rfl,o5⟩,b5⟩
   obtain ⟨a5,c5,e5,-⟩:=o5.read
   rw [HL.out.2] at e5
   subst e5
   have M5:Blk w5 (A+1) 34 (stB sZ (.slice none 0 0) (.slice none 0 0)):=HB2.out.2.kept (Kept.of_below b5 (fun _=>False)) id
   have HE:Hd (∀ w6,Kept (fun j=>j=A+1) w5 w6→StO w6 (A+3) s (.slice a3 k c3) (.slice a5 m c5)∧Below A w w6):=⟨HF2.out w5 _ b5 (o5.low (by omega))⟩
   clear HY HB2 o5 b5 HF2 y0 y1 y2 y3 y4
   go_wp2_with (refine wpl_storeSt rfl _ _ rfl (A+1) rfl (stB s (.slice a3 k c3) (.slice a5 m c5)) _ rfl M5 rfl rfl (st_one _ _ _ _ _ _ _) ?_;intro w9 n9 k9)
   refine bodyPost_ret (resSt39 _ _ _ rfl rfl n9) rfl ?_
   obtain ⟨o9,b9⟩:=HE.out w9 k9
   rw [←HA.out]
   exact ⟨⟨_,_,rfl,o9.low (by omega)⟩,b9⟩
theorem StR.stp {S T:Nat→Prop} {w w2:World} {a:Option Addr} {c:Nat} {F:List Ln} (h:StR S w a c F) (k:Kept S w w2) (e:∀ j,j<w.heap.size→T j→S j):StR T w2 a c F:=by
 obtain ⟨h1,h2,Z,h3,h4⟩:=h
 exact ⟨h1,h2,Z,h3,fun W kk=>h4 W (k.then kk e)⟩
theorem TkS.high {S T:Nat→Prop} {w w2:World} {a:Option Addr} {c:Nat} {L:List Tk} (h:TkS S w a c L) (b:Below w.heap.size w w2) (e:∀ j,j<w.heap.size→T j→S j):TkS T w2 a c L:=h.step (Kept.of_below b S) e
theorem sZ_v (S:Nat→Prop) (w:World):StV S w sZ (.agg zsT):=⟨none,0,none,0,rfl,StR.nil S w,TkS.nil S w⟩
def Sx (S:Nat→Prop) (A B:Nat) (j:Nat):Prop:=S j∨(A≤j∧j<B)
theorem Sx.lt {S:Nat→Prop} {A B:Nat} (hS:∀ j,S j→j<A) (hB:A≤B):∀ j,Sx S A B j→j<B:=fun j e=>e.elim (fun e=>by have:=hS j e;omega) (fun e=>e.2)
theorem Sx.old {S:Nat→Prop} {A B:Nat} : ∀ j,j<A→Sx S A B j→S j:=fun j hj e=>e.resolve_right (fun q=>by omega)
theorem StR.sx {S:Nat→Prop} {w w2:World} {a:Option Addr} {c A B:Nat} {F:List Ln} (h:StR S w a c F) (b:Below w.heap.size w w2) (hA:A=w.heap.size):StR (Sx S A B) w2 a c F:=h.high b (by rw [hA];exact Sx.old)
theorem TkS.sx {S:Nat→Prop} {w w2:World} {a:Option Addr} {c A B:Nat} {L:List Tk} (h:TkS S w a c L) (b:Below w.heap.size w w2) (hA:A=w.heap.size):TkS (Sx S A B) w2 a c L:=h.high b (by rw [hA];exact Sx.old)
def orZ (e:Int) (s:St):St:=if e=0 then s else sZ
theorem orZ_no {e:Int} (h:e≠0) (s:St):orZ e s=sZ:=if_neg h
theorem orZ_yes (s:St):orZ 0 s=s:=rfl
set_option maxRecDepth 20000 in
set_option maxHeartbeats 2000000 in
theorem wait_ok (s:St) (t:Tk) (ax:Option Addr) (cx:Nat) (ar:Option Addr) (cr:Nat) (ah:Option Addr) (nh ch:Nat) (H0:Nat→Int) (w:World) (S:Nat→Prop) (hx:StR S w ax cx s.x.F) (hr:SlR w ar cr s.run) (hS:∀ j,S j→j<w.heap.size) (hf:Few s.x.F) (hl:s.run.length≤2000) (hh:HnR w ah nh H0) (hnh:nh≤1000) :
  Calls Tryz.prog 33 #[.agg (stB s (.slice ax s.x.F.length cx) (.slice ar s.run.length cr)),.agg #[.int .i64 t.id,.int .i64 t.wid,.int .i64 t.sts,.int .i64 t.sin,.int .i64 t.unt],.slice ah nh ch] w fun e w'=>(∃ v,e=.returned (.tuple #[v,.int .i64 (jnE s.x (chF s.x.F s.x.o H0 nh))])∧StV S w' (orZ (jnE s.x (chF s.x.F s.x.o H0 nh)) { s with x:=jnX s.x (chF s.x.F s.x.o H0 nh) (seated t 0) }) v)∧Below w.heap.size w w':=by
 obtain ⟨w2,hw2⟩:∃ w2,w2=(((w.alloc (.cells (stB s (.slice ax s.x.F.length cx) (.slice ar s.run.length cr)) 34)).alloc (.cells #[.int .i64 t.id,.int .i64 t.wid,.int .i64 t.sts,.int .i64 t.sin,.int .i64 t.unt] 36)).alloc (.cells zsT 34)):=⟨_,rfl⟩
 have BX:=boxes3 w 34 36 34 (stB s (.slice ax s.x.F.length cx) (.slice ar s.run.length cr)) #[.int .i64 t.id,.int .i64 t.wid,.int .i64 t.sts,.int .i64 t.sin,.int .i64 t.unt] zsT
 rw [←hw2] at BX
 obtain ⟨B,N1,N2,N3⟩:=BX
 have hs2:w2.heap.size=w.heap.size+3:=by rw [hw2];simp
 obtain ⟨A,hA⟩:∃ A,A=w.heap.size:=⟨_,rfl⟩
 have HA:Hd (A=w.heap.size):=⟨hA⟩
 rw [←hA] at B N1 N2 N3 hs2
 obtain ⟨⟨e0,e1,e2,e3,e4⟩,g0,g1,g2,g3,g4⟩:=Blk.five N2
 have T2:=N2.set 2 (.int .i64 0)
 have T2:Blk (w2.setCell ⟨A+1,2,none⟩ (.int .i64 0)) (A+1) 36 (tkA (seated t 0)):=T2
 have K2:Kept (fun j=>j=A+1) w2 (w2.setCell ⟨A+1,2,none⟩ (.int .i64 0)):=(Kept.refl _ _).setCell _ _ (.inl rfl)
 obtain ⟨w3,hw3⟩:∃ w3,w3=w2.setCell ⟨A+1,2,none⟩ (.int .i64 0):=⟨_,rfl⟩
 rw [←hw3] at T2 K2
 have B3:Below A w w3:=B.trans (K2.below (by omega) (fun j e=>by omega))
 have hs3:w3.heap.size=A+3:=by rw [hw3];simpa using hs2
 have M1:=N1.kept K2 (by omega)
 have M3:=N3.kept K2 (by omega)
 have hx3:StR (Sx S A (A+3)) w3 ax cx s.x.F:=hx.sx (by rw [←hA];exact B3) hA
 have JN:=join_st s.x ax cx ah nh ch H0 (seated t 0) w3 (Sx S A (A+3)) hx3 (by rw [hs3];exact Sx.lt (by rw [hA];exact hS) (by omega)) hf (hh.carry (by rw [←hA];exact B3)) hnh
 have HW:Hd (∀ W (y:Fa) av nv cv,Below A w W→Calls Tryz.prog 48 #[.agg (stB s (.slice ax s.x.F.length cx) (.slice ar s.run.length cr)),.agg #[.int .u64 y.r,.int .i64 y.g,.int .i64 y.n,.int .i64 y.o,.slice av nv cv]] W fun e w'=>(∃ u,e=.returned (.agg (stB { s with x:=y } (.slice av nv cv) u))∧OwnT w' (W.heap.size+3) u s.run)∧Below W.heap.size W w'):=⟨fun W y av nv cv b=>swith_ok s _ ar cr y av nv cv W (hr.carry (by rw [←hA];exact b)) hl⟩
 have HSZ:Hd (∀ j,S j→j<A):=⟨fun j e=>by rw [hA];exact hS j e⟩
 have HM:Hd (Below A w w3∧w3.heap.size=A+3):=⟨B3,hs3⟩
 generalize s.run.length=m at *
 generalize s.x.F.length=n at *
 obtain ⟨⟨c0,c1,c2,c3,c4⟩,-⟩:=M1.stx
 obtain ⟨⟨d0,d1,d2,d3,d4⟩,-⟩:=T2.five
 have HB:Hd (Blk w3 A 34 (stB s (.slice ax n cx) (.slice ar m cr))∧Blk w3 (A+1+1) 34 (stB sZ (.slice none 0 0) (.slice none 0 0))):=⟨M1,M3⟩
 clear N1 N2 N3 M1 M3 T2 K2 B B3 hx hx3 hr hf hh hs2 hs3 hS
 generalize jnX s.x (chF s.x.F s.x.o H0 nh) (seated t 0)=y at *
 generalize jnK s.x (chF s.x.F s.x.o H0 nh)=kk at *
 generalize jnE s.x (chF s.x.F s.x.o H0 nh)=er at *
 go_enter Tryz.func33,Tryz.ntmps33
 go_upto_region 1 with fail
 rw [←hw2]
 clear hw2
 rw [←hA]
 clear hA
 go_upto_region 2 with fail
 rw [←hw3]
 clear hw3 e0 e1 e2 e3 e4 g0 g1 g2 g3 g4
 go_wp2_with fail
 go_at_call 65
 refine JN.mono ?_
 rintro e w5 ⟨⟨v5,rfl,a5,c5,rfl,s5⟩,b5⟩
 clear JN c0 c1 c2 c3 c4 d0 d1 d2 d3 d4
 obtain ⟨l5,hl5⟩:∃ l5,l5=y.F.length:=⟨_,rfl⟩
 have HL5:Hd (l5=y.F.length):=⟨hl5⟩
 rw [←hl5]
 clear hl5
 obtain ⟨w6,hw6⟩:∃ w6,w6=w5.alloc (.cells #[.int .u64 y.r,.int .i64 y.g,.int .i64 y.n,.int .i64 y.o,.slice a5 l5 c5] 31):=⟨_,rfl⟩
 have B6:Below w5.heap.size w5 w6:=by rw [hw6];exact alloc_below _ _
 have N6:Blk w6 w5.heap.size 31 (faA y.r y.g y.n y.o (.slice a5 l5 c5)):=by rw [hw6];exact Blk.new _ _ _
 have b36:Below w3.heap.size w3 w6:=b5.trans (B6.mono b5.size)
 have H6:Hd (Below A w w6∧Blk w6 A 34 (stB s (.slice ax n cx) (.slice ar m cr))∧Blk w6 (A+1+1) 34 (stB sZ (.slice none 0 0) (.slice none 0 0))∧A+3≤w6.heap.size):=⟨HM.out.1.trans (b36.mono (by have:=HM.out.2;omega)),HB.out.1.kept (Kept.of_below b36 (fun _=>False)) id,HB.out.2.kept (Kept.of_below b36 (fun _=>False)) id,by have:=HM.out.2;have:=b36.size;omega⟩
 have HS6:Hd (StR (Sx S A (A+3)) w6 a5 c5 y.F):=⟨s5.high B6 (fun _ _ h=>h)⟩
 obtain ⟨⟨y0,y1,y2,y3,y4⟩,-⟩:=Blk.fair N6
 clear s5 b5 B6 N6 b36 HB HM
 by_cases he:er=0
 ·subst he
  have HW6:=HW.out w6 y a5 l5 c5 H6.out.1
  go_upto_region 3 with fail
  rw [←hw6]
  clear hw6
  go_wp2_with (refine wpl_loadSt rfl _ rfl A rfl _ H6.out.2.1 rfl ?_)
  go_at_call 48
  refine HW6.mono ?_
  rintro e w7 ⟨⟨u7,rfl,o7⟩,b7⟩
  obtain ⟨a7,c7,e7,-⟩:=o7.read
  obtain ⟨m7,hm7⟩:∃ m7,m7=s.run.length:=⟨_,rfl⟩
  rw [←hm7] at e7
  subst e7
  have M7:Blk w7 (A+1+1) 34 (stB sZ (.slice none 0 0) (.slice none 0 0)):=H6.out.2.2.1.kept (Kept.of_below b7 (fun _=>False)) id
  have HE:Hd (∀ w9,Kept (fun j=>j=A+1+1) w7 w9→StV S w9 { s with x:=y } (.agg (stB { s with x:=y } (.slice a5 l5 c5) (.slice a7 m7 c7)))∧Below A w w9):=⟨fun w9 k9=>by
   have hs:=H6.out.2.2.2
   have hs7:=b7.size
   refine ⟨⟨a5,c5,a7,c7,by rw [HL5.out,hm7],?_,?_⟩,(H6.out.1.trans (b7.mono (by omega))).trans (k9.below (by omega) (fun j e=>by omega))⟩
   ·have q:=(HS6.out.high b7 (T:=Sx S A (A+3)) (fun _ _ h=>h)).stp (k9.mono (T:=Sx S A (A+3)) (fun j _ e=>.inr ⟨by omega,by omega⟩)) (T:=S) (fun j _ e=>.inl e)
    exact q
   ·have q:=(o7.kept k9 (fun j hj e=>by omega)).ts (S:=S) (fun j hj e=>by have:=HSZ.out j e;omega)
    obtain ⟨a',c',e',r'⟩:=q
    obtain ⟨rfl,-,rfl⟩:a7=a'∧True∧c7=c':=by injection e' with x1 x2 x3;exact ⟨x1,trivial,x3⟩
    exact r'⟩
  clear hm7 o7 b7 y0 y1 y2 y3 y4
  go_wp2_with (refine wpl_storeSt rfl _ _ rfl (A+1+1) rfl (stB { s with x:=y } (.slice a5 l5 c5) (.slice a7 m7 c7)) _ rfl M7 rfl rfl (st_one _ _ _ _ _ _ _) ?_;intro w9 n9 k9)
  refine bodyPost_ret (resSt38 _ _ _ rfl rfl n9) rfl ?_
  obtain ⟨o9,b9⟩:=HE.out w9 k9
  rw [←HA.out]
  exact ⟨⟨_,rfl,by rw [orZ_yes];exact o9⟩,b9⟩
 ·have he2:(er == 0)=false:=by simpa using he
  have he3:(er != 0)=true:=by simpa using he
  have HE:Hd (∀ w9,Kept (fun j=>j=A+1+1) w6 w9→Below A w w9):=⟨fun w9 k9=>H6.out.1.trans (k9.below (by have:=H6.out.2.2.2;omega) (fun j e=>by omega))⟩
  clear HW HS6 y0 y1 y2 y3 y4
  go_upto_region 3 with fail
  rw [←hw6]
  clear hw6
  go_wp2_with (refine wpl_storeSt rfl _ _ rfl (A+1+1) rfl (stB sZ (.slice none 0 0) (.slice none 0 0)) _ rfl H6.out.2.2.1 rfl rfl (st_one _ _ _ _ _ _ _) ?_;intro w9 n9 k9)
  refine bodyPost_ret (resSt38 _ _ _ rfl rfl n9) rfl ?_
  have b9:=HE.out w9 k9
  rw [←HA.out]
  exact ⟨⟨_,rfl,by rw [orZ_no he];exact sZ_v S w9⟩,b9⟩
end Go.Proofs.YtlgibnmoogbdcaaGreat
