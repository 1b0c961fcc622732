/-
  Lanes that are shaped anew, by the program.
  Lanes that are shaped anew, by the reference.
-/
import Derived.Test.YtlgibnmoogbdcaaGreatR12
import Derived.Test.YtlgibnmoogbdcaaGreatR13
namespace Go.Proofs.YtlgibnmoogbdcaaGreat
open Go.RowKit
theorem resFn14 (tmps:Array Value) (w:World) (b:Nat) {r g n o:Int} {a:Option Addr} {l c:Nat} (x:Value) (ht:tmps[8]?.getD undef=.pointer (some ⟨b,0,none⟩)) (hx:tmps[9]?.getD undef=x) (h:Blk w b 31 (faA r g n o (.slice a l c))) :
  (results Tryz.f57 tmps).run Tryz.prog w=.ok (.tuple #[.agg #[.int .u64 r,.int .i64 g,.int .i64 n,.int .i64 o,.slice a l c],x]) w:=by
 obtain ⟨⟨c0,c1,c2,c3,c4⟩,-⟩:=h.fair
 simp [results,Tryz.results57,go_sem,ht,hx,c0,c1,c2,c3,c4]
theorem resFn15 (tmps:Array Value) (w:World) (b:Nat) {r g n o:Int} {a:Option Addr} {l c:Nat} (x:Value) (ht:tmps[8]?.getD undef=.pointer (some ⟨b,0,none⟩)) (hx:tmps[9]?.getD undef=x) (h:Blk w b 31 (faA r g n o (.slice a l c))) :
  (results Tryz.f59 tmps).run Tryz.prog w=.ok (.tuple #[.agg #[.int .u64 r,.int .i64 g,.int .i64 n,.int .i64 o,.slice a l c],x]) w:=by
 obtain ⟨⟨c0,c1,c2,c3,c4⟩,-⟩:=h.fair
 simp [results,Tryz.results59,go_sem,ht,hx,c0,c1,c2,c3,c4]
def shF (F:List Ln) (m:Nat):List Ln:=F++List.replicate (m - F.length) lnZ
theorem shF_same {F:List Ln} {m:Nat} (h:m≤F.length):shF F m=F:=by
 unfold shF;rw [Nat.sub_eq_zero_of_le h];simp
theorem shF_len (F:List Ln) (m:Nat):(shF F m).length=max F.length m:=by
 unfold shF;rw [List.length_append,List.length_replicate];omega
theorem Few.sh {F:List Ln} (h:Few F) {m:Nat} (hm:m≤64):Few (shF F m) :=
 ⟨by rw [shF_len];have:=h.len;omega,fun l hl=>by
  rcases List.mem_append.1 hl with c | c
  ·exact h.each l c
  ·rw [(List.mem_replicate.1 c).2];exact ⟨⟨by decide,by decide⟩,by decide⟩⟩
theorem OwL.drop {w:World} {B m c:Nat} {q:Option Addr} {F:List Ln} (h:OwL w B (.slice q m c) F) (hm:m=F.length) {n:Nat} (hn:n<m) :
  ∃ b:Nat,q=some ⟨b,0,none⟩∧m≤c∧∃ M:List Lz,M.map Prod.fst=F.drop n∧M.length=m - n∧RowR w (some ⟨b,n*2,none⟩) (zCs M)∧∀ z∈M,OwnT w B z.2 z.1.L:=by
 obtain ⟨Z,hZ,ho,hz⟩:=h
 have hl:Z.length=F.length:=by rw [←hZ,List.length_map]
 rcases id ho.2 with ⟨e,e0⟩ | ⟨g,cap,cur,e,hb,hg,hc,r⟩
 ·omega
 ·obtain ⟨rfl,-,rfl⟩:q=some ⟨g,0,none⟩∧True∧c=cap:=by injection e with x1 x2 x3;exact ⟨x1,trivial,x3⟩
  refine ⟨g,rfl,by omega,Z.drop n,by rw [List.map_drop,hZ],by rw [List.length_drop];omega,fun _=>⟨g,n*2,rfl,(ho.lt g (by rw [e];rfl)).2,fun j u hj=>?_⟩,fun z hzm=>hz z (List.mem_of_mem_drop hzm)⟩
  subst hm
  have hcells:=ho.cells rfl (n*2+j) u (by
   have e1:zCs Z=zCs (Z.take n)++zCs (Z.drop n):=by rw [←zCs_append,List.take_append_drop]
   rw [e1,List.getElem?_append_right (by rw [zCs_len,List.length_take];omega),zCs_len,List.length_take,Nat.min_eq_left (by omega),Nat.add_sub_cancel_left]
   exact hj)
  rw [Go.WideShapes.add_plain,Nat.zero_add] at hcells
  exact hcells
theorem OwL.off {w:World} {B b:Nat} {v:Value} {F:List Ln} {x:Array Value} (h:OwL w B v F) (hb:Blk w b 31 x):¬ v.ownBlock=some b:=fun e=>by
 obtain ⟨Z,-,ho,-⟩:=h
 rcases ho.2 with ⟨rfl,-⟩ | ⟨g,cap,cur,rfl,-,hg,-⟩
 ·cases e
 ·injection e with e
  have e:g=b:=e
  subst e
  exact hb.ne' hg (by decide) rfl
set_option maxRecDepth 20000 in
set_option maxHeartbeats 1000000 in
theorem shape_no (r g nn o o' g' n':Int) (a:Option Addr) (c:Nat) (F:List Ln) (w:World) (h:¬ Good o' g' n') :
  Calls Tryz.prog 57 #[.agg #[.int .u64 r,.int .i64 g,.int .i64 nn,.int .i64 o,.slice a F.length c],.int .i64 o',.int .i64 g',.int .i64 n'] w fun e w'=>e=.returned (.tuple #[faZ,.int .i64 1])∧Below w.heap.size w w':=by
 obtain ⟨w2,hw2⟩:∃ w2,w2=(w.alloc (.cells #[.int .u64 r,.int .i64 g,.int .i64 nn,.int .i64 o,.slice a F.length c] 31)).alloc (.cells #[.int .u64 0,.int .i64 0,.int .i64 0,.int .i64 0,.slice none 0 0] 31):=⟨_,rfl⟩
 have BX:=boxes w 31 31 #[.int .u64 r,.int .i64 g,.int .i64 nn,.int .i64 o,.slice a F.length c] #[.int .u64 0,.int .i64 0,.int .i64 0,.int .i64 0,.slice none 0 0]
 rw [←hw2] at BX
 obtain ⟨B,N1,N2⟩:=BX
 have NW:=new_no o' g' n' w2 h
 have HN:Hd (Below w.heap.size w w2∧Blk w2 (w.heap.size+1) 31 (faA 0 0 0 0 (.slice none 0 0))):=⟨B,N2⟩
 have hs:=N2.lt
 clear B N1 N2 h
 generalize F.length=n at *
 go_enter Tryz.func57,Tryz.ntmps57
 go_upto_region 1 with fail
 rw [←hw2]
 clear hw2
 obtain ⟨A,hA⟩:∃ A,A=w.heap.size:=⟨_,rfl⟩
 have HA:Hd (A=w.heap.size):=⟨hA⟩
 rw [←hA] at HN hs ⊢
 clear hA
 go_wp2_with fail
 go_at_call 38
 refine NW.mono ?_
 rintro e w3 ⟨rfl,b3⟩
 clear NW
 obtain ⟨w4,hw4⟩:∃ w4,w4=w3.alloc (.cells #[.int .u64 0,.int .i64 0,.int .i64 0,.int .i64 0,.slice none 0 0] 31):=⟨_,rfl⟩
 have B4:Below w3.heap.size w3 w4:=by rw [hw4];exact alloc_below _ _
 have NR:=(HN.out.2.kept (Kept.of_below b3 (fun _=>False)) id).kept (Kept.of_below B4 (fun _=>False)) id
 obtain ⟨⟨y0,y1,y2,y3,y4⟩,yf0,yf1,yf2,yf3,yf4⟩:=NR.fair
 obtain ⟨q2,k2⟩:=fair_set NR 0 0 0 0 (.slice none 0 0)
 have HE:Hd (_∧_):=⟨q2,(HN.out.1.trans ((b3.mono (show A≤w2.heap.size by omega)).trans (B4.mono (show A≤w3.heap.size by have:=b3.size;omega)))).trans (k2.below (B:=A) (by have:=NR.lt;omega) (fun j e=>by omega))⟩
 clear b3 B4 NR q2 k2 HN
 subst hw4
 go_wp2_with fail
 refine bodyPost_ret (resFn14 _ _ _ (.int .i64 1) rfl rfl HE.out.1) rfl ?_
 rw [←HA.out]
 exact ⟨rfl,HE.out.2⟩
set_option maxRecDepth 20000 in
set_option maxHeartbeats 2000000 in
theorem shape_yes (r g nn o g' n':Int) (m:Nat) (a:Option Addr) (c:Nat) (F:List Ln) (w:World) (h:LsR w a c F) (hf:Few F) (hg:Good m g' n') :
  Calls Tryz.prog 57 #[.agg #[.int .u64 r,.int .i64 g,.int .i64 nn,.int .i64 o,.slice a F.length c],.int .i64 m,.int .i64 g',.int .i64 n'] w fun e w'=>(∃ v,e=.returned (.tuple #[v,.int .i64 0])∧FaS (fun j=>j<w.heap.size) w' r g' n' m (trm (shF F m) m) v)∧Below w.heap.size w w':=by
 obtain ⟨w2,hw2⟩:∃ w2,w2=(w.alloc (.cells #[.int .u64 r,.int .i64 g,.int .i64 nn,.int .i64 o,.slice a F.length c] 31)).alloc (.cells #[.int .u64 0,.int .i64 0,.int .i64 0,.int .i64 0,.slice none 0 0] 31):=⟨_,rfl⟩
 have BX:=boxes w 31 31 #[.int .u64 r,.int .i64 g,.int .i64 nn,.int .i64 o,.slice a F.length c] #[.int .u64 0,.int .i64 0,.int .i64 0,.int .i64 0,.slice none 0 0]
 rw [←hw2] at BX
 obtain ⟨B,N1,N2⟩:=BX
 have NW:=new_yes m g' n' w2 hg
 have HF:Hd (Few F):=⟨hf⟩
 have hlen:=hf.len
 have hm:m≤64:=by have:=hg.1;omega
 obtain ⟨n,hn⟩:∃ n,F.length=n:=⟨_,rfl⟩
 have HL:Hd (F.length=n):=⟨hn⟩
 have HN:Hd (LsR w a c F∧Below w.heap.size w w2∧Blk w2 w.heap.size 31 (faA r g nn o (.slice a n c))∧Blk w2 (w.heap.size+1) 31 (faA 0 0 0 0 (.slice none 0 0))):=⟨h,B,by rw [←hn];exact N1,N2⟩
 have hs:=N2.lt
 rw [hn] at hlen hw2 ⊢
 clear hn B N1 N2 h hf hg
 go_enter Tryz.func57,Tryz.ntmps57
 go_upto_region 1 with fail
 rw [←hw2]
 clear hw2
 obtain ⟨A,hA⟩:∃ A,A=w.heap.size:=⟨_,rfl⟩
 have HA:Hd (A=w.heap.size):=⟨hA⟩
 rw [←hA] at HN hs ⊢
 clear hA
 go_wp2_with fail
 go_at_call 38
 refine NW.mono ?_
 rintro e w3 ⟨⟨v3,rfl,u3,rfl,o3⟩,b3⟩
 clear NW
 obtain ⟨a3,c3,e3,-⟩:=o3.read
 rw [nwF_len] at e3
 subst e3
 obtain ⟨w4,hw4⟩:∃ w4,w4=w3.alloc (.cells #[.int .u64 0,.int .i64 g',.int .i64 n',.int .i64 m,.slice a3 m c3] 31):=⟨_,rfl⟩
 have B4:Below w3.heap.size w3 w4:=by rw [hw4];exact alloc_below _ _
 have N4:Blk w4 w3.heap.size 31 (faA 0 g' n' m (.slice a3 m c3)):=by rw [hw4];exact Blk.new _ _ _
 have b24:Below w2.heap.size w2 w4:=b3.trans (B4.mono b3.size)
 have b04:Below A w w4:=HN.out.2.1.trans (b24.mono (show A≤w2.heap.size by omega))
 have O4:=o3.kept (Kept.of_below B4 (fun _=>False)) (fun _ _ h=>h)
 have NA:=HN.out.2.2.1.kept (Kept.of_below b24 (fun _=>False)) id
 have NR:=HN.out.2.2.2.kept (Kept.of_below b24 (fun _=>False)) id
 have CP:=fcopied_ok r g nn o a c F w4 (HN.out.1.carry (by rw [←HA.out];exact b04)) HF.out
 rw [HL.out] at CP
 obtain ⟨⟨x0,x1,x2,x3,x4⟩,-⟩:=NA.fair
 have H4:Hd (Below A w w4∧Blk w4 (A+1) 31 (faA 0 0 0 0 (.slice none 0 0))∧OwL w4 w2.heap.size (.slice a3 m c3) (nwF m)∧Blk w4 w3.heap.size 31 (faA 0 g' n' m (.slice a3 m c3))∧w2.heap.size≤w4.heap.size):=⟨b04,NR,O4,N4,b24.size⟩
 clear o3 b3 B4 N4 b24 b04 O4 NA NR HN
 go_upto_region 4 with fail
 rw [←hw4]
 clear hw4
 generalize w3.heap.size=y3 at *
 go_wp2_with fail
 go_at_call 74
 refine CP.mono ?_
 rintro e w5 ⟨⟨v5,rfl,u5,rfl,o5⟩,b5⟩
 clear CP x0 x1 x2 x3 x4
 obtain ⟨a5,c5,e5,-⟩:=o5.read
 rw [HL.out] at e5
 subst e5
 obtain ⟨w6,hw6⟩:∃ w6,w6=w5.alloc (.cells #[.int .u64 r,.int .i64 g',.int .i64 n',.int .i64 m,.slice a5 n c5] 31):=⟨_,rfl⟩
 have B6:Below w5.heap.size w5 w6:=by rw [hw6];exact alloc_below _ _
 have N6:Blk w6 w5.heap.size 31 (faA r g' n' m (.slice a5 n c5)):=by rw [hw6];exact Blk.new _ _ _
 have b46:Below w4.heap.size w4 w6:=b5.trans (B6.mono b5.size)
 have b06:Below A w w6:=H4.out.1.trans (b46.mono (show A≤w4.heap.size by have:=H4.out.2.1.lt;omega))
 have H6:Hd (Below A w w6∧Blk w6 (A+1) 31 (faA 0 0 0 0 (.slice none 0 0))∧OwL w6 w2.heap.size (.slice a3 m c3) (nwF m)∧Blk w6 y3 31 (faA 0 g' n' m (.slice a3 m c3))∧OwL w6 w2.heap.size (.slice a5 n c5) F∧Blk w6 w5.heap.size 31 (faA r g' n' m (.slice a5 n c5))) :=
  ⟨b06,H4.out.2.1.kept (Kept.of_below b46 (fun _=>False)) id,H4.out.2.2.1.kept (Kept.of_below b46 (fun _=>False)) (fun _ _ h=>h),H4.out.2.2.2.1.kept (Kept.of_below b46 (fun _=>False)) id,(o5.kept (Kept.of_below B6 (fun _=>False)) (fun _ _ h=>h)).low H4.out.2.2.2.2,N6⟩
 have hs6:w2.heap.size≤w6.heap.size:=Nat.le_trans H4.out.2.2.2.2 b46.size
 have hs5:w2.heap.size≤w5.heap.size:=Nat.le_trans H4.out.2.2.2.2 b5.size
 clear o5 b5 B6 N6 b46 b06 H4
 by_cases hmn:n<m
 ·go_upto_region 8 with fail
  rw [←hw6]
  clear hw6
  obtain ⟨q3,rfl,hmc,M,hM1,hM2,hM3,hM4⟩:=H6.out.2.2.1.drop (nwF_len m).symm hmn
  have HM:Hd (M.map Prod.fst=(nwF m).drop n∧M.length=m - n):=⟨hM1,hM2⟩
  obtain ⟨w7,hw7⟩:∃ w7,w7=w6.drew:=⟨_,rfl⟩
  have B7:Below w6.heap.size w6 w7:=by rw [hw7];exact (Below.refl _ _).drew
  have H7:Hd (Below A w w7∧Blk w7 (A+1) 31 (faA 0 0 0 0 (.slice none 0 0))∧OwL w7 w2.heap.size (.slice a5 n c5) F∧Blk w7 w5.heap.size 31 (faA r g' n' m (.slice a5 n c5))∧RowR w7 (some ⟨q3,n*2,none⟩) (zCs M)∧(∀ z∈M,OwnT w7 w2.heap.size z.2 z.1.L)∧w2.heap.size≤w7.heap.size) :=
   ⟨H6.out.1.trans (B7.mono (show A≤w6.heap.size by omega)),H6.out.2.1.kept (Kept.of_below B7 (fun _=>False)) id,H6.out.2.2.2.2.1.kept (Kept.of_below B7 (fun _=>False)) (fun _ _ h=>h),H6.out.2.2.2.2.2.kept (Kept.of_below B7 (fun _=>False)) id,hM3.carry B7,fun z hz=>(hM4 z hz).kept (Kept.of_below B7 (fun _=>False)) (fun _ _ h=>h),Nat.le_trans hs6 B7.size⟩
  obtain ⟨⟨-,-,-,-,x4⟩,-,-,-,-,xf4⟩:=H7.out.2.2.2.1.fair
  obtain ⟨⟨-,-,-,-,z4⟩,-⟩:=(H6.out.2.2.2.1.kept (Kept.of_below B7 (fun _=>False)) id).fair
  have hne:¬ c3=n:=by omega
  have hn0:(0:Int)≤(n:Int):=by omega
  have hnm:(n:Int)≤(m:Int):=by omega
  have hnc:n≤c3:=by omega
  refine region_tail 6 (by kernel_rfl) ?_
  simp only [List.take_succ_cons,List.take_zero,List.drop_succ_cons,List.drop_zero]
  rw [←hw7]
  clear hM1 hM2 hM3 hM4 B7 hw7 H6
  repeat still_step
  refine wpStill_nil ?_
  have HSH:Hd (F++M.map Prod.fst=shF F m∧(shF F m).length=m):=⟨by rw [HM.out.1];unfold shF nwF;rw [HL.out,List.drop_replicate],by rw [shF_len,HL.out];omega⟩
  have HAP:Hd (∀ v8 w8,OwL w8 w2.heap.size v8 (F++M.map Prod.fst)→w7.grownBy w8 (Value.ownBlock (.slice a5 n c5))→∃ a8 c8,v8=.slice a8 m c8∧Below A w w8∧Blk w8 (A+1) 31 (faA 0 0 0 0 (.slice none 0 0))∧Blk w8 w5.heap.size 31 (faA r g' n' m (.slice a5 n c5))∧OwL w8 w2.heap.size (.slice a8 m c8) (shF F m)):=⟨fun v8 w8 o8 g8=>by
   have K:Kept (fun k=>Value.ownBlock (.slice a5 n c5)=some k) w7 w8:=Kept.of_grown g8 (fun k e=>e)
   have hoff:∀ b x,Blk w7 b 31 x→¬ Value.ownBlock (.slice a5 n c5)=some b:=fun b x hb=>H7.out.2.2.1.off hb
   rw [HSH.out.1] at o8
   obtain ⟨a8,c8,e8,-⟩:=o8.read
   rw [HSH.out.2] at e8
   subst e8
   exact ⟨a8,c8,rfl,H7.out.1.grown g8 (by have:=H7.out.2.1.lt;omega) (fun q e=>by have:=(H7.out.2.2.1.lt q e).1;omega),H7.out.2.1.kept K (hoff _ _ H7.out.2.1),H7.out.2.2.2.1.kept K (hoff _ _ H7.out.2.2.2.1),o8⟩⟩
  go_wp2_with (at_builtin;refine wpl_own rfl _ _ rfl w2.heap.size _ F M rfl H7.out.2.2.1 (some ⟨q3,n*2,none⟩) (m - n) (c3 - n) HM.out.2 rfl (by omega) (fun e=>by cases e) H7.out.2.2.2.2.1 H7.out.2.2.2.2.2.1 (by have:=HM.out.2;have:=HL.out;omega) H7.out.2.2.2.2.2.2 ?_;intro v8 w8 o8 g8;obtain ⟨a8,c8,rfl,b8,nr8,n8,O8⟩:=HAP.out v8 w8 o8 g8;clear o8 g8 x4 xf4 z4;obtain ⟨⟨x0,x1,x2,x3,x4⟩,xf0,xf1,xf2,xf3,xf4⟩:=n8.fair;obtain ⟨q9,k9⟩:=fair_lanes n8 (.slice a8 m c8);have HP:Hd (_∧_∧_∧_):=⟨b8.trans (k9.below (B:=A) (by have:=nr8.lt;omega) (fun j e=>by have:=H7.out.2.2.2.1.lt;have:=hs6;omega)),nr8.kept k9 (by omega),O8.other n8 k9,q9⟩;clear b8 nr8 n8 O8 q9 k9)
  obtain ⟨a9,c9,e9,st9⟩:=HP.out.2.2.1.st (S:=fun j=>j<A+2) (fun j hj e=>by have:j<A+2:=e;omega)
  rw [HSH.out.2] at e9
  obtain ⟨rfl,rfl⟩:a8=a9∧c8=c9:=by injection e9 with x1 x2 x3;exact ⟨x1,x3⟩
  have TR:=trimmed_ok (fun j=>j<A+2) r g' n' m _ _ (shF F m) _ st9 (HF.out.sh hm)
  rw [HSH.out.2] at TR
  clear st9 e9
  refine TR.mono ?_
  rintro e w10 ⟨⟨v10,rfl,a10,c10,rfl,r10⟩,b10⟩
  have NR:=HP.out.2.1.kept (Kept.of_below b10 (fun _=>False)) id
  obtain ⟨⟨y0,y1,y2,y3',y4⟩,yf0,yf1,yf2,yf3,yf4⟩:=NR.fair
  obtain ⟨q2,k2⟩:=fair_set NR r g' n' m (.slice a10 (trm (shF F m) m).length c10)
  have HE:Hd (_∧_∧_):=⟨q2,(r10.next (k2.mono (T:=fun j=>j<A+2) (fun j _ e=>by have:j=A+1:=e;omega))).low (T:=fun j=>j<A) (fun j _ h=>by have:j<A:=h;show j<A+2;omega),(HP.out.1.trans (b10.mono (by have:=HP.out.2.1.lt;omega))).trans (k2.below (B:=A) (by have:=NR.lt;omega) (fun j e=>by omega))⟩
  clear TR r10 b10 NR q2 k2 HP
  go_wp2_with fail
  refine bodyPost_ret (resFn14 _ _ _ (.int .i64 0) rfl rfl HE.out.1) rfl ?_
  rw [←HA.out]
  exact ⟨⟨_,rfl,_,_,rfl,HE.out.2.1⟩,HE.out.2.2⟩
 ·have HSH:Hd (shF F m=F∧(shF F m).length=n):=⟨shF_same (by have:=HL.out;omega),by rw [shF_same (by have:=HL.out;omega)];exact HL.out⟩
  have HP:Hd (Below A w w6∧Blk w6 (A+1) 31 (faA 0 0 0 0 (.slice none 0 0))∧OwL w6 w2.heap.size (.slice a5 n c5) (shF F m)∧True):=⟨H6.out.1,H6.out.2.1,by rw [HSH.out.1];exact H6.out.2.2.2.2.1,trivial⟩
  obtain ⟨⟨x0,x1,x2,x3,x4⟩,-⟩:=H6.out.2.2.2.2.2.fair
  clear H6
  subst hw6
  go_wp2_with fail
  go_at_call 77
  obtain ⟨a9,c9,e9,st9⟩:=HP.out.2.2.1.st (S:=fun j=>j<A+2) (fun j hj e=>by have:j<A+2:=e;omega)
  rw [HSH.out.2] at e9
  obtain ⟨rfl,rfl⟩:a5=a9∧c5=c9:=by injection e9 with x1 x2 x3;exact ⟨x1,x3⟩
  have TR:=trimmed_ok (fun j=>j<A+2) r g' n' m _ _ (shF F m) _ st9 (HF.out.sh hm)
  rw [HSH.out.2] at TR
  clear st9 e9
  refine TR.mono ?_
  rintro e w10 ⟨⟨v10,rfl,a10,c10,rfl,r10⟩,b10⟩
  have NR:=HP.out.2.1.kept (Kept.of_below b10 (fun _=>False)) id
  obtain ⟨⟨y0,y1,y2,y3',y4⟩,yf0,yf1,yf2,yf3,yf4⟩:=NR.fair
  obtain ⟨q2,k2⟩:=fair_set NR r g' n' m (.slice a10 (trm (shF F m) m).length c10)
  have HE:Hd (_∧_∧_):=⟨q2,(r10.next (k2.mono (T:=fun j=>j<A+2) (fun j _ e=>by have:j=A+1:=e;omega))).low (T:=fun j=>j<A) (fun j _ h=>by have:j<A:=h;show j<A+2;omega),(HP.out.1.trans (b10.mono (by have:=HP.out.2.1.lt;omega))).trans (k2.below (B:=A) (by have:=NR.lt;omega) (fun j e=>by omega))⟩
  clear TR r10 b10 NR q2 k2 HP
  go_wp2_with fail
  refine bodyPost_ret (resFn14 _ _ _ (.int .i64 0) rfl rfl HE.out.1) rfl ?_
  rw [←HA.out]
  exact ⟨⟨_,rfl,_,_,rfl,HE.out.2.1⟩,HE.out.2.2⟩
theorem fair_nums {w:World} {b:Nat} {r g n o:Int} {v:Value} (h:Blk w b 31 (faA r g n o v)) (g' n' o':Int) :
  Blk (((w.setCell ⟨b,3,none⟩ (.int .i64 o')).setCell ⟨b,1,none⟩ (.int .i64 g')).setCell ⟨b,2,none⟩ (.int .i64 n')) b 31 (faA r g' n' o' v)∧Kept (fun k=>k=b) w (((w.setCell ⟨b,3,none⟩ (.int .i64 o')).setCell ⟨b,1,none⟩ (.int .i64 g')).setCell ⟨b,2,none⟩ (.int .i64 n')):=by
 refine ⟨?_,(((Kept.refl (fun k=>k=b) w).setCell _ _ (.inl rfl)).setCell _ _ (.inl rfl)).setCell _ _ (.inl rfl)⟩
 have:=((h.set 3 (.int .i64 o')).set 1 (.int .i64 g')).set 2 (.int .i64 n')
 simpa [faA] using this
set_option maxRecDepth 20000 in
set_option maxHeartbeats 1000000 in
theorem rshape_no (r g nn o o' g' n':Int) (a:Option Addr) (c:Nat) (F:List Ln) (w:World) (h:¬ Good o' g' n') :
  Calls Tryz.prog 59 #[.agg #[.int .u64 r,.int .i64 g,.int .i64 nn,.int .i64 o,.slice a F.length c],.int .i64 o',.int .i64 g',.int .i64 n'] w fun e w'=>e=.returned (.tuple #[faZ,.int .i64 1])∧Below w.heap.size w w':=by
 obtain ⟨w2,hw2⟩:∃ w2,w2=(w.alloc (.cells #[.int .u64 r,.int .i64 g,.int .i64 nn,.int .i64 o,.slice a F.length c] 31)).alloc (.cells #[.int .u64 0,.int .i64 0,.int .i64 0,.int .i64 0,.slice none 0 0] 31):=⟨_,rfl⟩
 have BX:=boxes w 31 31 #[.int .u64 r,.int .i64 g,.int .i64 nn,.int .i64 o,.slice a F.length c] #[.int .u64 0,.int .i64 0,.int .i64 0,.int .i64 0,.slice none 0 0]
 rw [←hw2] at BX
 obtain ⟨B,N1,N2⟩:=BX
 have WR:=wrong_ok o' g' n' w2
 rw [decide_eq_true h] at WR
 obtain ⟨⟨y0,y1,y2,y3,y4⟩,yf0,yf1,yf2,yf3,yf4⟩:=Blk.fair N2
 obtain ⟨q2,k2⟩:=fair_set N2 0 0 0 0 (.slice none 0 0)
 have HE:Hd (_∧_):=⟨q2,B.trans (k2.below B.size (fun j e=>by omega))⟩
 clear B N1 N2 q2 k2 h
 generalize F.length=n at *
 go_enter Tryz.func59,Tryz.ntmps59
 go_upto_region 1 with fail
 rw [←hw2]
 clear hw2
 go_wp2_with fail
 go_at_call 72
 refine WR.mono ?_
 rintro e w3 ⟨rfl,rfl⟩
 go_wp2_with fail
 refine bodyPost_ret (resFn15 _ _ _ (.int .i64 1) rfl rfl HE.out.1) rfl ?_
 exact ⟨rfl,HE.out.2⟩
set_option maxRecDepth 20000 in
set_option maxHeartbeats 2000000 in
theorem rshape_yes (r g nn o g' n':Int) (m:Nat) (a:Option Addr) (c:Nat) (F:List Ln) (w:World) (h:LsR w a c F) (hf:Few F) (hg:Good m g' n') :
  Calls Tryz.prog 59 #[.agg #[.int .u64 r,.int .i64 g,.int .i64 nn,.int .i64 o,.slice a F.length c],.int .i64 m,.int .i64 g',.int .i64 n'] w fun e w'=>(∃ v,e=.returned (.tuple #[v,.int .i64 0])∧FaS (fun j=>j<w.heap.size) w' r g' n' m (trm (shF F m) m) v)∧Below w.heap.size w w':=by
 obtain ⟨w2,hw2⟩:∃ w2,w2=(w.alloc (.cells #[.int .u64 r,.int .i64 g,.int .i64 nn,.int .i64 o,.slice a F.length c] 31)).alloc (.cells #[.int .u64 0,.int .i64 0,.int .i64 0,.int .i64 0,.slice none 0 0] 31):=⟨_,rfl⟩
 have BX:=boxes w 31 31 #[.int .u64 r,.int .i64 g,.int .i64 nn,.int .i64 o,.slice a F.length c] #[.int .u64 0,.int .i64 0,.int .i64 0,.int .i64 0,.slice none 0 0]
 rw [←hw2] at BX
 obtain ⟨B,N1,N2⟩:=BX
 have WR:=wrong_ok m g' n' w2
 rw [decide_eq_false (fun x=>x hg)] at WR
 have HF:Hd (Few F):=⟨hf⟩
 have hlen:=hf.len
 have hm:m≤64:=by have:=hg.1;omega
 have CP:=rcopy_ok r g nn o a c F w2 (h.carry B) hf
 obtain ⟨n,hn⟩:∃ n,F.length=n:=⟨_,rfl⟩
 have HL:Hd (F.length=n):=⟨hn⟩
 obtain ⟨⟨x0,x1,x2,x3,x4⟩,-⟩:=Blk.fair N1
 have HN:Hd (Below w.heap.size w w2∧Blk w2 (w.heap.size+1) 31 (faA 0 0 0 0 (.slice none 0 0))):=⟨B,N2⟩
 have hs:=N2.lt
 rw [hn] at hlen hw2 CP x4 ⊢
 clear hn B N1 N2 h hf hg
 go_enter Tryz.func59,Tryz.ntmps59
 go_upto_region 1 with fail
 rw [←hw2]
 clear hw2
 obtain ⟨A,hA⟩:∃ A,A=w.heap.size:=⟨_,rfl⟩
 have HA:Hd (A=w.heap.size):=⟨hA⟩
 rw [←hA] at HN hs x0 x1 x2 x3 x4 ⊢
 clear hA
 go_wp2_with fail
 go_at_call 72
 refine WR.mono ?_
 rintro e w3 ⟨rfl,rfl⟩
 clear WR
 go_wp2_with fail
 go_at_call 32
 refine CP.mono ?_
 rintro e w5 ⟨⟨v5,rfl,u5,rfl,o5⟩,b5⟩
 clear CP x0 x1 x2 x3 x4
 obtain ⟨a5,c5,e5,-⟩:=o5.read
 rw [HL.out] at e5
 subst e5
 obtain ⟨w6,hw6⟩:∃ w6,w6=w5.alloc (.cells #[.int .u64 r,.int .i64 g,.int .i64 nn,.int .i64 o,.slice a5 n c5] 31):=⟨_,rfl⟩
 have B6:Below w5.heap.size w5 w6:=by rw [hw6];exact alloc_below _ _
 have N6:Blk w6 w5.heap.size 31 (faA r g nn o (.slice a5 n c5)):=by rw [hw6];exact Blk.new _ _ _
 have b36:Below w3.heap.size w3 w6:=b5.trans (B6.mono b5.size)
 have hs5:=b5.size
 have hs6:=b36.size
 have H6:Hd (Below A w w6∧Blk w6 (A+1) 31 (faA 0 0 0 0 (.slice none 0 0))∧Blk w6 w5.heap.size 31 (faA r g nn o (.slice a5 n c5))∧OwL w6 w3.heap.size (.slice a5 n c5) F) :=
  ⟨HN.out.1.trans (b36.mono (show A≤w3.heap.size by omega)),HN.out.2.kept (Kept.of_below b36 (fun _=>False)) id,N6,o5.kept (Kept.of_below B6 (fun _=>False)) (fun _ _ h=>h)⟩
 clear o5 b5 B6 N6 b36 HN
 go_upto_region 4 with fail
 rw [←hw6]
 clear hw6
 have hlt6:w5.heap.size<w6.heap.size:=H6.out.2.2.1.lt
 generalize w5.heap.size=y at *
 go_loopw [] (fun wr=>∃ (j:Nat) (a':Option Addr) (c':Nat),(j=0∨n+j≤m)∧Blk wr y 31 (faA r g nn o (.slice a' (n+j) c'))∧OwL wr w3.heap.size (.slice a' (n+j) c') (F++List.replicate j lnZ)∧Below A w wr∧Blk wr (A+1) 31 (faA 0 0 0 0 (.slice none 0 0))) (fun wr=>match wr.cell? ⟨y,4,none⟩ with | some (.slice _ k _)=>m - k | _=>0)
 case atStart=>exact ⟨0,a5,c5,.inl rfl,H6.out.2.2.1,by rw [List.replicate_zero,List.append_nil];exact H6.out.2.2.2,H6.out.1,H6.out.2.1⟩
 case round =>
  clear H6
  obtain ⟨j,a',c',hj,NY,OL,BW,NR⟩:=hrel
  have hyr:=NY.lt
  obtain ⟨⟨x0,x1,x2,x3,x4⟩,xf0,xf1,xf2,xf3,xf4⟩:=NY.fair
  by_cases hlt:n+j<m
  ·have hrep:F++List.replicate (j+1) lnZ=F++List.replicate j lnZ ++ [lnZ]:=by rw [List.append_assoc,← List.replicate_succ']
   obtain ⟨w7,hw7⟩:∃ w7,w7=wr.alloc (.cells #[.int .u64 0,.slice none 0 0] 62):=⟨_,rfl⟩
   have B7:Below wr.heap.size wr w7:=by rw [hw7];exact alloc_below _ _
   have N7:Blk w7 wr.heap.size 62 (lnA 0 (.slice none 0 0)):=by rw [hw7];exact Blk.new _ _ _
   have hsz:w3.heap.size≤w7.heap.size:=by have:=B7.size;omega
   have hnL:Hd ((F++List.replicate j lnZ).length=n+j):=⟨by rw [List.length_append,List.length_replicate,HL.out]⟩
   have H7:Hd (OwL w7 w3.heap.size (.slice a' (n+j) c') (F++List.replicate j lnZ)∧RowR w7 (some ⟨wr.heap.size,0,none⟩) (zCs [lzZ])∧Below A w w7∧Blk w7 (A+1) 31 (faA 0 0 0 0 (.slice none 0 0))∧Blk w7 y 31 (faA r g nn o (.slice a' (n+j) c'))) :=
    ⟨OL.kept (Kept.of_below B7 (fun _=>False)) (fun _ _ h=>h),lane_row N7 _ rfl,BW.trans (B7.mono (by omega)),NR.kept (Kept.of_below B7 (fun _=>False)) id,NY.kept (Kept.of_below B7 (fun _=>False)) id⟩
   have HAP:Hd (∀ v8 w8,OwL w8 w3.heap.size v8 (F++List.replicate j lnZ ++ [lzZ].map Prod.fst)→w7.grownBy w8 (Value.ownBlock (.slice a' (n+j) c'))→∃ a8 c8,v8=.slice a8 (n+(j+1)) c8∧Below A w w8∧Blk w8 (A+1) 31 (faA 0 0 0 0 (.slice none 0 0))∧Blk w8 y 31 (faA r g nn o (.slice a' (n+j) c'))∧OwL w8 w3.heap.size (.slice a8 (n+(j+1)) c8) (F++List.replicate (j+1) lnZ)):=⟨fun v8 w8 o8 g8=>by
    have K:Kept (fun k=>Value.ownBlock (.slice a' (n+j) c')=some k) w7 w8:=Kept.of_grown g8 (fun k e=>e)
    rw [hrep]
    have o8:OwL w8 w3.heap.size v8 (F++List.replicate j lnZ ++ [lnZ]):=o8
    obtain ⟨a8,c8,e8,-⟩:=o8.read
    rw [List.length_append,hnL.out] at e8
    have e8:v8=.slice a8 (n+(j+1)) c8:=e8
    subst e8
    exact ⟨a8,c8,rfl,H7.out.2.2.1.grown g8 (by have:=H7.out.2.2.2.1.lt;omega) (fun q e=>by have:=(H7.out.1.lt q e).1;omega),H7.out.2.2.2.1.kept K (H7.out.1.off H7.out.2.2.2.1),H7.out.2.2.2.2.kept K (H7.out.1.off H7.out.2.2.2.2),o8⟩⟩
   obtain ⟨⟨-,-,-,-,z4⟩,-⟩:=H7.out.2.2.2.2.fair
   clear NY OL BW NR B7 N7
   subst hw7
   go_wp2_with (at_builtin;refine wpl_own rfl _ _ rfl w3.heap.size _ (F++List.replicate j lnZ) [lzZ] rfl H7.out.1 (some ⟨wr.heap.size,0,none⟩) 1 1 rfl rfl (by decide) (fun e=>by cases e) H7.out.2.1 (fun z hz=>by rw [List.mem_singleton.1 hz];exact World.ownsRow_nil _ _ _ _) (by have:=hnL.out;simp at *;omega) hsz ?_;intro v8 w8 o8 g8;obtain ⟨a8,c8,rfl,b8,nr8,n8,O8⟩:=HAP.out v8 w8 o8 g8;clear o8 g8;obtain ⟨⟨p0,p1,p2,p3,p4⟩,pf0,pf1,pf2,pf3,pf4⟩:=n8.fair;obtain ⟨q9,k9⟩:=fair_lanes n8 (.slice a8 (n+(j+1)) c8);have W9:=q9.cellv (v:=.slice a8 (n+(j+1)) c8) 4 rfl;have HP:Hd (_∧_∧_∧_):=⟨b8.trans (k9.below (B:=A) (by have:=nr8.lt;omega) (fun j e=>by omega)),nr8.kept k9 (by omega),O8.other n8 k9,q9⟩;clear b8 nr8 n8 O8 q9 k9)
   go_roundw
   case rel=>exact ⟨j+1,a8,c8,.inr (by omega),HP.out.2.2.2,HP.out.2.2.1,HP.out.1,HP.out.2.1⟩
   case measure=>rw [W9,x4];simp;omega
  ·have HSH:Hd (F++List.replicate j lnZ=shF F m∧(shF F m).length=n+j):=by
    have e1:j=m - n:=by omega
    have e2:F++List.replicate j lnZ=shF F m:=by unfold shF;rw [HL.out,e1]
    exact ⟨⟨e2,by rw [←e2,List.length_append,List.length_replicate,HL.out]⟩⟩
   rw [HSH.out.1] at OL
   obtain ⟨q8,k8⟩:=fair_nums NY g' n' m
   obtain ⟨⟨z0,z1,z2,z3,z4⟩,-⟩:=q8.fair
   have HP:Hd (Below A w _∧Blk _ (A+1) 31 (faA 0 0 0 0 (.slice none 0 0))∧OwL _ w3.heap.size (.slice a' (n+j) c') (shF F m)):=⟨BW.trans (k8.below (B:=A) (by have:=NR.lt;omega) (fun j e=>by omega)),NR.kept k8 (by omega),OL.other NY k8⟩
   clear NY OL BW NR q8 k8
   go_wp2_with fail
   go_at_call 80
   obtain ⟨a9,c9,e9,st9⟩:=HP.out.2.2.st (S:=fun j=>j<A+2) (fun j hj e=>by have:j<A+2:=e;omega)
   rw [HSH.out.2] at e9
   obtain ⟨rfl,rfl⟩:a'=a9∧c'=c9:=by injection e9 with x1 x2 x3;exact ⟨x1,x3⟩
   have TR:=rtrim_ok (fun j=>j<A+2) r g' n' m _ _ (shF F m) _ st9 (fun j e=>by have:j<A+2:=e;have:=HP.out.2.1.lt;omega) (HF.out.sh hm)
   rw [HSH.out.2] at TR
   clear st9 e9
   refine TR.mono ?_
   rintro e w10 ⟨⟨v10,rfl,a10,c10,rfl,r10⟩,b10⟩
   have NR:=HP.out.2.1.kept (Kept.of_below b10 (fun _=>False)) id
   obtain ⟨⟨y0,y1,y2,y3',y4⟩,yf0,yf1,yf2,yf3,yf4⟩:=NR.fair
   obtain ⟨q2,k2⟩:=fair_set NR r g' n' m (.slice a10 (trm (shF F m) m).length c10)
   have HE:Hd (_∧_∧_):=⟨q2,(r10.next (k2.mono (T:=fun j=>j<A+2) (fun j _ e=>by have:j=A+1:=e;omega))).low (T:=fun j=>j<A) (fun j _ h=>by have:j<A:=h;show j<A+2;omega),(HP.out.1.trans (b10.mono (by have:=HP.out.2.1.lt;omega))).trans (k2.below (B:=A) (by have:=NR.lt;omega) (fun j e=>by omega))⟩
   clear TR r10 b10 NR q2 k2 HP
   go_wp2_with fail
   refine bodyPost_ret (resFn15 _ _ _ (.int .i64 0) rfl rfl HE.out.1) rfl ?_
   rw [←HA.out]
   exact ⟨⟨_,rfl,_,_,rfl,HE.out.2.1⟩,HE.out.2.2⟩
end Go.Proofs.YtlgibnmoogbdcaaGreat
