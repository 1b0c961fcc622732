/-
  Somebody is dropped, by the program and the reference, where nobody has the number.
  Somebody is dropped, by the program, somebody has the number.
-/
import Derived.Test.YtlgibnmoogbdcaaGreatR16
import Derived.Test.YtlgibnmoogbdcaaGreatR20
namespace Go.Proofs.YtlgibnmoogbdcaaGreat
open Go.RowKit
theorem resFt25 (tmps:Array Value) (w:World) (b q:Nat) {r g n o:Int} {a:Option Addr} {l c:Nat} {t:Tk} (x:Bool) (ht:tmps[4]?.getD undef=.pointer (some ⟨b,0,none⟩)) (hu:tmps[5]?.getD undef=.pointer (some ⟨q,0,none⟩)) (hx:tmps[6]?.getD undef=.bool x) (h:Blk w b 31 (faA r g n o (.slice a l c))) (k:Blk w q 36 (tkA t)) :
  (results Tryz.f47 tmps).run Tryz.prog w=.ok (.tuple #[.agg #[.int .u64 r,.int .i64 g,.int .i64 n,.int .i64 o,.slice a l c],.agg #[.int .i64 t.id,.int .i64 t.wid,.int .i64 t.sts,.int .i64 t.sin,.int .i64 t.unt],.bool x]) w:=by
 obtain ⟨⟨c0,c1,c2,c3,c4⟩,-⟩:=h.fair
 obtain ⟨⟨d0,d1,d2,d3,d4⟩,-⟩:=k.five
 simp [results,Tryz.results47,go_sem,ht,hu,hx,c0,c1,c2,c3,c4,d0,d1,d2,d3,d4]
theorem resFt26 (tmps:Array Value) (w:World) (b q:Nat) {r g n o:Int} {a:Option Addr} {l c:Nat} {t:Tk} (x:Bool) (ht:tmps[4]?.getD undef=.pointer (some ⟨b,0,none⟩)) (hu:tmps[5]?.getD undef=.pointer (some ⟨q,0,none⟩)) (hx:tmps[6]?.getD undef=.bool x) (h:Blk w b 31 (faA r g n o (.slice a l c))) (k:Blk w q 36 (tkA t)) :
  (results Tryz.f49 tmps).run Tryz.prog w=.ok (.tuple #[.agg #[.int .u64 r,.int .i64 g,.int .i64 n,.int .i64 o,.slice a l c],.agg #[.int .i64 t.id,.int .i64 t.wid,.int .i64 t.sts,.int .i64 t.sin,.int .i64 t.unt],.bool x]) w:=by
 obtain ⟨⟨c0,c1,c2,c3,c4⟩,-⟩:=h.fair
 obtain ⟨⟨d0,d1,d2,d3,d4⟩,-⟩:=k.five
 simp [results,Tryz.results49,go_sem,ht,hu,hx,c0,c1,c2,c3,c4,d0,d1,d2,d3,d4]
set_option maxRecDepth 20000 in
set_option maxHeartbeats 2000000 in
theorem fdrop_none (r g nn o:Int) (a:Option Addr) (c:Nat) (F:List Ln) (id:Int) (w:World) (h:LsR w a c F) (hf:Few F) (hno:∀ j,j<F.length→drB id (gl F j).L=false) :
  Calls Tryz.prog 47 #[.agg #[.int .u64 r,.int .i64 g,.int .i64 nn,.int .i64 o,.slice a F.length c],.int .i64 id] w fun e w'=>(∃ v,e=.returned (.tuple #[v,.agg #[.int .i64 0,.int .i64 0,.int .i64 0,.int .i64 0,.int .i64 0],.bool false])∧FaS (fun j=>j<w.heap.size) w' r g nn o F v)∧Below w.heap.size w w':=by
 obtain ⟨w2,hw2⟩:∃ w2,w2=((w.alloc (.cells #[.int .u64 r,.int .i64 g,.int .i64 nn,.int .i64 o,.slice a F.length c] 31)).alloc (.cells #[.int .u64 0,.int .i64 0,.int .i64 0,.int .i64 0,.slice none 0 0] 31)).alloc (.cells #[.int .i64 0,.int .i64 0,.int .i64 0,.int .i64 0,.int .i64 0] 36):=⟨_,rfl⟩
 have BX:=boxes3 w 31 31 36 #[.int .u64 r,.int .i64 g,.int .i64 nn,.int .i64 o,.slice a F.length c] #[.int .u64 0,.int .i64 0,.int .i64 0,.int .i64 0,.slice none 0 0] #[.int .i64 0,.int .i64 0,.int .i64 0,.int .i64 0,.int .i64 0]
 rw [←hw2] at BX
 obtain ⟨B,N1,N2,N3⟩:=BX
 have HF:Hd (Few F):=⟨hf⟩
 have HW:Hd (LsR w a c F):=⟨h⟩
 have hlen:=hf.len
 obtain ⟨n,hn⟩:∃ n,F.length=n:=⟨_,rfl⟩
 have HL:Hd (F.length=n):=⟨hn⟩
 have HN:Hd (LsR w2 a c F∧Below w.heap.size w w2∧Blk w2 w.heap.size 31 (faA r g nn o (.slice a n c))∧Blk w2 (w.heap.size+1) 31 (faA 0 0 0 0 (.slice none 0 0))∧Blk w2 (w.heap.size+1+1) 36 (tkA tkZ)):=⟨h.carry B,B,by rw [←hn];exact N1,N2,N3⟩
 have hs:=N3.lt
 obtain ⟨⟨x0,x1,x2,x3,x4⟩,-⟩:=Blk.fair N1
 rw [hn] at hlen hw2 x4 ⊢
 have HNO:Hd (∀ j,j<n→drB id (gl F j).L=false):=⟨fun j hj=>hno j (by omega)⟩
 clear hno hn B N1 N2 N3 h hf
 go_enter Tryz.func47,Tryz.ntmps47
 go_upto_region 1 with fail
 rw [←hw2]
 clear hw2
 obtain ⟨A,hA⟩:∃ A,A=w.heap.size:=⟨_,rfl⟩
 have HA:Hd (A=w.heap.size):=⟨hA⟩
 rw [←hA] at HN hs x0 x1 x2 x3 x4 ⊢
 clear hA
 go_wp2
 clear x0 x1 x2 x3 x4
 go_loopw [14] (fun i wr=>∃ j:Nat,j≤n∧i=.int .i64 j∧Below w2.heap.size w2 wr) (fun i _=>n - (intOf i).toNat)
 case atStart=>exact ⟨0,Nat.zero_le _,rfl,Below.refl _ _⟩
 case round =>
  obtain ⟨j,hj,rfl,p3⟩:=hrel
  have H3:Hd (LsR wr a c F∧Below A w wr∧Blk wr A 31 (faA r g nn o (.slice a n c))∧Blk wr (A+1) 31 (faA 0 0 0 0 (.slice none 0 0))∧Blk wr (A+1+1) 36 (tkA tkZ)) :=
   ⟨HN.out.1.carry p3,HN.out.2.1.trans (p3.mono (show A≤w2.heap.size by omega)),HN.out.2.2.1.kept (Kept.of_below p3 (fun _=>False)) (fun h=>h),HN.out.2.2.2.1.kept (Kept.of_below p3 (fun _=>False)) (fun h=>h),HN.out.2.2.2.2.kept (Kept.of_below p3 (fun _=>False)) (fun h=>h)⟩
  by_cases hlt:j<n
  ·skip
   obtain ⟨b1,o1,a1,c1,rfl,hb1,d0,d1,s1⟩:=H3.out.1.at (k:=j) (by rw [HL.out];omega)
   have HK:=HF.out.at j
   have hjn:j<n:=by omega
   obtain ⟨⟨x0,x1,x2,x3,x4⟩,-⟩:=H3.out.2.2.1.fair
   have DP:=drop_ok (gl F j).s a1 c1 (gl F j).L id wr s1 (by omega)
   rw [HNO.out j (by omega)] at DP
   obtain ⟨tt,htt⟩:∃ tt,tt=drT id (gl F j).L:=⟨_,rfl⟩
   rw [←htt] at DP
   clear htt
   obtain ⟨t0,t1,t2,t3,t4⟩:=tt
   simp only at DP
   have P:Hd (Below w2.heap.size w2 wr):=⟨p3⟩
   clear p3 H3 s1 hb1
   generalize (gl F j).L.length=m at *
   obtain ⟨s,hs'⟩:∃ s,s=(gl F j).s:=⟨_,rfl⟩
   rw [←hs'] at DP d0
   clear hs'
   go_wp2_with fail
   go_at_call 81
   refine DP.mono ?_
   rintro e w5 ⟨⟨v5,rfl,⟨a5,c5,rfl,-⟩,-⟩,b5⟩
   clear DP d0 d1 x0 x1 x2 x3 x4
   generalize (drL id (gl F j).L).length=m5 at *
   obtain ⟨B6,N6,N7⟩:=boxes w5 62 36 #[.int .u64 s,.slice a5 m5 c5] #[.int .i64 t0,.int .i64 t1,.int .i64 t2,.int .i64 t3,.int .i64 t4]
   have R6:Hd (Below w2.heap.size w2 ((w5.alloc (.cells #[.int .u64 s,.slice a5 m5 c5] 62)).alloc (.cells #[.int .i64 t0,.int .i64 t1,.int .i64 t2,.int .i64 t3,.int .i64 t4] 36))):=⟨P.out.trans ((b5.trans (B6.mono b5.size)).mono P.out.size)⟩
   clear b5 B6 N6 N7
   go_wp2
   go_roundw
   case rel=>exact ⟨j+1,by omega,by go_num,R6.out⟩
   case measure=>simp [intOf];omega
  ·obtain rfl:j=n:=by omega
   have CP:=fcopied_ok r g nn o a c F wr H3.out.1 HF.out
   rw [HL.out] at CP
   have hs3:=p3.size
   obtain ⟨⟨x0,x1,x2,x3,x4⟩,-⟩:=H3.out.2.2.1.fair
   clear p3
   go_wp2_with fail
   go_at_call 74
   refine CP.mono ?_
   rintro e w5 ⟨⟨v5,rfl,u5,rfl,o5⟩,b5⟩
   clear CP x0 x1 x2 x3 x4
   obtain ⟨a5,c5,e5,-⟩:=o5.read
   rw [HL.out] at e5
   subst e5
   have NR:=H3.out.2.2.2.1.kept (Kept.of_below b5 (fun _=>False)) (fun h=>h)
   have NT:=H3.out.2.2.2.2.kept (Kept.of_below b5 (fun _=>False)) (fun h=>h)
   have BW:=H3.out.2.1.trans (b5.mono (show A≤wr.heap.size by omega))
   obtain ⟨⟨y0,y1,y2,y3,y4⟩,yf0,yf1,yf2,yf3,yf4⟩:=NR.fair
   obtain ⟨⟨-,p2,-⟩,q1,q2,k2⟩:=ft_put NR NT r g nn o (.slice a5 j c5) tkZ
   obtain ⟨⟨d0,d1,d2,d3,d4⟩,e0,e1,e2,e3,e4⟩:=p2.five
   have HE:Hd (_∧_∧_∧_):=⟨q1,q2,o5.kept k2 (fun j hj e=>by omega),BW.trans (k2.below (B:=A) (by have:=NR.lt;omega) (fun j e=>by omega))⟩
   clear NR NT BW q1 q2 k2 o5 b5 H3 p2
   simp only [tkZ] at HE d0 d1 d2 d3 d4
   go_wp2_with fail
   refine bodyPost_ret (resFt25 (t:=tkZ) _ _ _ _ false rfl rfl rfl HE.out.1 HE.out.2.1) rfl ?_
   obtain ⟨a9,c9,e9,r9⟩:=HE.out.2.2.1.st (S:=fun j=>j<w.heap.size) (fun j hj e=>by have:j<w.heap.size:=e;have:=HA.out;omega)
   rw [HL.out] at e9
   obtain ⟨rfl,rfl⟩:a5=a9∧c5=c9:=by injection e9 with x1 x2 x3;exact ⟨x1,x3⟩
   exact ⟨⟨_,rfl,_,_,by rw [HL.out],r9⟩,by rw [←HA.out];exact HE.out.2.2.2⟩
set_option maxRecDepth 20000 in
set_option maxHeartbeats 2000000 in
theorem rfdrop_none (r g nn o:Int) (a:Option Addr) (c:Nat) (F:List Ln) (id:Int) (w:World) (h:LsR w a c F) (hf:Few F) (hno:∀ j,j<F.length→drB id (gl F j).L=false) :
  Calls Tryz.prog 49 #[.agg #[.int .u64 r,.int .i64 g,.int .i64 nn,.int .i64 o,.slice a F.length c],.int .i64 id] w fun e w'=>(∃ v,e=.returned (.tuple #[v,.agg #[.int .i64 0,.int .i64 0,.int .i64 0,.int .i64 0,.int .i64 0],.bool false])∧v=.agg #[.int .u64 r,.int .i64 g,.int .i64 nn,.int .i64 o,.slice a F.length c])∧Below w.heap.size w w':=by
 obtain ⟨w2,hw2⟩:∃ w2,w2=((w.alloc (.cells #[.int .u64 r,.int .i64 g,.int .i64 nn,.int .i64 o,.slice a F.length c] 31)).alloc (.cells #[.int .u64 0,.int .i64 0,.int .i64 0,.int .i64 0,.slice none 0 0] 31)).alloc (.cells #[.int .i64 0,.int .i64 0,.int .i64 0,.int .i64 0,.int .i64 0] 36):=⟨_,rfl⟩
 have BX:=boxes3 w 31 31 36 #[.int .u64 r,.int .i64 g,.int .i64 nn,.int .i64 o,.slice a F.length c] #[.int .u64 0,.int .i64 0,.int .i64 0,.int .i64 0,.slice none 0 0] #[.int .i64 0,.int .i64 0,.int .i64 0,.int .i64 0,.int .i64 0]
 rw [←hw2] at BX
 obtain ⟨B,N1,N2,N3⟩:=BX
 have HF:Hd (Few F):=⟨hf⟩
 have HW:Hd (LsR w a c F):=⟨h⟩
 have hlen:=hf.len
 obtain ⟨n,hn⟩:∃ n,F.length=n:=⟨_,rfl⟩
 have HL:Hd (F.length=n):=⟨hn⟩
 have HN:Hd (LsR w2 a c F∧Below w.heap.size w w2∧Blk w2 w.heap.size 31 (faA r g nn o (.slice a n c))∧Blk w2 (w.heap.size+1) 31 (faA 0 0 0 0 (.slice none 0 0))∧Blk w2 (w.heap.size+1+1) 36 (tkA tkZ)):=⟨h.carry B,B,by rw [←hn];exact N1,N2,N3⟩
 have hs:=N3.lt
 obtain ⟨⟨x0,x1,x2,x3,x4⟩,-⟩:=Blk.fair N1
 rw [hn] at hlen hw2 x4 ⊢
 have HNO:Hd (∀ j,j<n→drB id (gl F j).L=false):=⟨fun j hj=>hno j (by omega)⟩
 clear hno hn B N1 N2 N3 h hf
 go_enter Tryz.func49,Tryz.ntmps49
 go_upto_region 1 with fail
 rw [←hw2]
 clear hw2
 obtain ⟨A,hA⟩:∃ A,A=w.heap.size:=⟨_,rfl⟩
 have HA:Hd (A=w.heap.size):=⟨hA⟩
 rw [←hA] at HN hs x0 x1 x2 x3 x4 ⊢
 clear hA
 go_wp2
 clear x0 x1 x2 x3 x4
 go_loopw [7] (fun i wr=>∃ j:Nat,j≤n∧i=.int .i64 j∧Below w2.heap.size w2 wr) (fun i _=>n - (intOf i).toNat)
 case atStart=>exact ⟨0,Nat.zero_le _,rfl,Below.refl _ _⟩
 case round =>
  obtain ⟨j,hj,rfl,p3⟩:=hrel
  have H3:Hd (LsR wr a c F∧Below A w wr∧Blk wr A 31 (faA r g nn o (.slice a n c))∧Blk wr (A+1) 31 (faA 0 0 0 0 (.slice none 0 0))∧Blk wr (A+1+1) 36 (tkA tkZ)) :=
   ⟨HN.out.1.carry p3,HN.out.2.1.trans (p3.mono (show A≤w2.heap.size by omega)),HN.out.2.2.1.kept (Kept.of_below p3 (fun _=>False)) (fun h=>h),HN.out.2.2.2.1.kept (Kept.of_below p3 (fun _=>False)) (fun h=>h),HN.out.2.2.2.2.kept (Kept.of_below p3 (fun _=>False)) (fun h=>h)⟩
  by_cases hlt:j<n
  ·skip
   obtain ⟨b1,o1,a1,c1,rfl,hb1,d0,d1,s1⟩:=H3.out.1.at (k:=j) (by rw [HL.out];omega)
   have HK:=HF.out.at j
   have hjn:j<n:=by omega
   obtain ⟨⟨x0,x1,x2,x3,x4⟩,-⟩:=H3.out.2.2.1.fair
   have DP:=rdrop_ok (gl F j).s a1 c1 (gl F j).L id wr s1 (by omega)
   rw [HNO.out j (by omega)] at DP
   obtain ⟨tt,htt⟩:∃ tt,tt=drT id (gl F j).L:=⟨_,rfl⟩
   rw [←htt] at DP
   clear htt
   obtain ⟨t0,t1,t2,t3,t4⟩:=tt
   simp only at DP
   have P:Hd (Below w2.heap.size w2 wr):=⟨p3⟩
   clear p3 H3 s1 hb1
   generalize (gl F j).L.length=m at *
   obtain ⟨s,hs'⟩:∃ s,s=(gl F j).s:=⟨_,rfl⟩
   rw [←hs'] at DP d0
   clear hs'
   go_wp2_with fail
   go_at_call 82
   refine DP.mono ?_
   rintro e w5 ⟨⟨v5,rfl,⟨a5,c5,rfl,-⟩,-⟩,b5⟩
   clear DP d0 d1 x0 x1 x2 x3 x4
   generalize (drL id (gl F j).L).length=m5 at *
   obtain ⟨B6,N6,N7⟩:=boxes w5 62 36 #[.int .u64 s,.slice a5 m5 c5] #[.int .i64 t0,.int .i64 t1,.int .i64 t2,.int .i64 t3,.int .i64 t4]
   have R6:Hd (Below w2.heap.size w2 ((w5.alloc (.cells #[.int .u64 s,.slice a5 m5 c5] 62)).alloc (.cells #[.int .i64 t0,.int .i64 t1,.int .i64 t2,.int .i64 t3,.int .i64 t4] 36))):=⟨P.out.trans ((b5.trans (B6.mono b5.size)).mono P.out.size)⟩
   clear b5 B6 N6 N7
   go_wp2
   go_roundw
   case rel=>exact ⟨j+1,by omega,by go_num,R6.out⟩
   case measure=>simp [intOf];omega
  ·obtain rfl:j=n:=by omega
   obtain ⟨⟨x0,x1,x2,x3,x4⟩,-⟩:=H3.out.2.2.1.fair
   have NR:=H3.out.2.2.2.1
   have NT:=H3.out.2.2.2.2
   obtain ⟨⟨y0,y1,y2,y3,y4⟩,yf0,yf1,yf2,yf3,yf4⟩:=NR.fair
   obtain ⟨⟨-,p2,-⟩,q1,q2,k2⟩:=ft_put NR NT r g nn o (.slice a j c) tkZ
   obtain ⟨⟨d0,d1,d2,d3,d4⟩,e0,e1,e2,e3,e4⟩:=p2.five
   have HE:Hd (_∧_∧_):=⟨q1,q2,H3.out.2.1.trans (k2.below (B:=A) (by have:=NR.lt;omega) (fun j e=>by omega))⟩
   clear NR NT q1 q2 k2 H3 p2 p3
   simp only [tkZ] at HE d0 d1 d2 d3 d4
   go_wp2_with fail
   refine bodyPost_ret (resFt26 (t:=tkZ) _ _ _ _ false rfl rfl rfl HE.out.1 HE.out.2.1) rfl ?_
   exact ⟨⟨_,rfl,rfl⟩,by rw [←HA.out];exact HE.out.2.2⟩
set_option maxRecDepth 20000 in
set_option maxHeartbeats 2000000 in
theorem fdrop_yes (r g nn o:Int) (a:Option Addr) (c:Nat) (F:List Ln) (id:Int) (w:World) (h:LsR w a c F) (hf:Few F) (k:Nat) (hk:k<F.length) (hno:∀ j,j<k→drB id (gl F j).L=false) (hyes:drB id (gl F k).L=true) :
  Calls Tryz.prog 47 #[.agg #[.int .u64 r,.int .i64 g,.int .i64 nn,.int .i64 o,.slice a F.length c],.int .i64 id] w fun e w'=>(∃ v,e=.returned (.tuple #[v,.agg #[.int .i64 (drT id (gl F k).L).id,.int .i64 (drT id (gl F k).L).wid,.int .i64 (drT id (gl F k).L).sts,.int .i64 (drT id (gl F k).L).sin,.int .i64 (drT id (gl F k).L).unt],.bool true])∧FaS (fun j=>j<w.heap.size) w' r g nn o (trm (F.set k ⟨(gl F k).s,drL id (gl F k).L⟩) o) v)∧Below w.heap.size w w':=by
 obtain ⟨uu,huu⟩:∃ uu,uu=drT id (gl F k).L:=⟨_,rfl⟩
 have HUU:Hd (uu=drT id (gl F k).L):=⟨huu⟩
 rw [←huu]
 clear huu
 obtain ⟨u0,u1,u2,u3,u4⟩:=uu
 simp only
 obtain ⟨w2,hw2⟩:∃ w2,w2=((w.alloc (.cells #[.int .u64 r,.int .i64 g,.int .i64 nn,.int .i64 o,.slice a F.length c] 31)).alloc (.cells #[.int .u64 0,.int .i64 0,.int .i64 0,.int .i64 0,.slice none 0 0] 31)).alloc (.cells #[.int .i64 0,.int .i64 0,.int .i64 0,.int .i64 0,.int .i64 0] 36):=⟨_,rfl⟩
 have BX:=boxes3 w 31 31 36 #[.int .u64 r,.int .i64 g,.int .i64 nn,.int .i64 o,.slice a F.length c] #[.int .u64 0,.int .i64 0,.int .i64 0,.int .i64 0,.slice none 0 0] #[.int .i64 0,.int .i64 0,.int .i64 0,.int .i64 0,.int .i64 0]
 rw [←hw2] at BX
 obtain ⟨B,N1,N2,N3⟩:=BX
 have HF:Hd (Few F):=⟨hf⟩
 have HW:Hd (LsR w a c F):=⟨h⟩
 have hlen:=hf.len
 obtain ⟨n,hn⟩:∃ n,F.length=n:=⟨_,rfl⟩
 have HL:Hd (F.length=n):=⟨hn⟩
 have HN:Hd (LsR w2 a c F∧Below w.heap.size w w2∧Blk w2 w.heap.size 31 (faA r g nn o (.slice a n c))∧Blk w2 (w.heap.size+1) 31 (faA 0 0 0 0 (.slice none 0 0))∧Blk w2 (w.heap.size+1+1) 36 (tkA tkZ)):=⟨h.carry B,B,by rw [←hn];exact N1,N2,N3⟩
 have hs:=N3.lt
 obtain ⟨⟨x0,x1,x2,x3,x4⟩,-⟩:=Blk.fair N1
 rw [hn] at hlen hw2 x4 ⊢
 have HNO:Hd (∀ j,j<k→drB id (gl F j).L=false):=⟨hno⟩
 have HYES:Hd (drB id (gl F k).L=true):=⟨hyes⟩
 have hkn:k<n:=by omega
 clear hno hyes hk hn B N1 N2 N3 h hf
 go_enter Tryz.func47,Tryz.ntmps47
 go_upto_region 1 with fail
 rw [←hw2]
 clear hw2
 obtain ⟨A,hA⟩:∃ A,A=w.heap.size:=⟨_,rfl⟩
 have HA:Hd (A=w.heap.size):=⟨hA⟩
 rw [←hA] at HN hs x0 x1 x2 x3 x4 ⊢
 clear hA
 go_wp2
 clear x0 x1 x2 x3 x4
 go_loopw [14] (fun i wr=>∃ j:Nat,j≤k∧i=.int .i64 j∧Below w2.heap.size w2 wr) (fun i _=>n - (intOf i).toNat)
 case atStart=>exact ⟨0,Nat.zero_le _,rfl,Below.refl _ _⟩
 case round =>
  obtain ⟨j,hj,rfl,p3⟩:=hrel
  have H3:Hd (LsR wr a c F∧Below A w wr∧Blk wr A 31 (faA r g nn o (.slice a n c))∧Blk wr (A+1) 31 (faA 0 0 0 0 (.slice none 0 0))∧Blk wr (A+1+1) 36 (tkA tkZ)) :=
   ⟨HN.out.1.carry p3,HN.out.2.1.trans (p3.mono (show A≤w2.heap.size by omega)),HN.out.2.2.1.kept (Kept.of_below p3 (fun _=>False)) (fun h=>h),HN.out.2.2.2.1.kept (Kept.of_below p3 (fun _=>False)) (fun h=>h),HN.out.2.2.2.2.kept (Kept.of_below p3 (fun _=>False)) (fun h=>h)⟩
  by_cases hlt:j<k
  ·skip
   obtain ⟨b1,o1,a1,c1,rfl,hb1,d0,d1,s1⟩:=H3.out.1.at (k:=j) (by rw [HL.out];omega)
   have HK:=HF.out.at j
   have hjn:j<n:=by omega
   obtain ⟨⟨x0,x1,x2,x3,x4⟩,-⟩:=H3.out.2.2.1.fair
   have DP:=drop_ok (gl F j).s a1 c1 (gl F j).L id wr s1 (by omega)
   rw [HNO.out j (by omega)] at DP
   obtain ⟨tt,htt⟩:∃ tt,tt=drT id (gl F j).L:=⟨_,rfl⟩
   rw [←htt] at DP
   clear htt
   obtain ⟨t0,t1,t2,t3,t4⟩:=tt
   simp only at DP
   have P:Hd (Below w2.heap.size w2 wr):=⟨p3⟩
   clear p3 H3 s1 hb1
   generalize (gl F j).L.length=m at *
   obtain ⟨s,hs'⟩:∃ s,s=(gl F j).s:=⟨_,rfl⟩
   rw [←hs'] at DP d0
   clear hs'
   go_wp2_with fail
   go_at_call 81
   refine DP.mono ?_
   rintro e w5 ⟨⟨v5,rfl,⟨a5,c5,rfl,-⟩,-⟩,b5⟩
   clear DP d0 d1 x0 x1 x2 x3 x4
   generalize (drL id (gl F j).L).length=m5 at *
   obtain ⟨B6,N6,N7⟩:=boxes w5 62 36 #[.int .u64 s,.slice a5 m5 c5] #[.int .i64 t0,.int .i64 t1,.int .i64 t2,.int .i64 t3,.int .i64 t4]
   have R6:Hd (Below w2.heap.size w2 ((w5.alloc (.cells #[.int .u64 s,.slice a5 m5 c5] 62)).alloc (.cells #[.int .i64 t0,.int .i64 t1,.int .i64 t2,.int .i64 t3,.int .i64 t4] 36))):=⟨P.out.trans ((b5.trans (B6.mono b5.size)).mono P.out.size)⟩
   clear b5 B6 N6 N7
   go_wp2
   go_roundw
   case rel=>exact ⟨j+1,by omega,by go_num,R6.out⟩
   case measure=>simp [intOf];omega
  ·skip
   obtain rfl:j=k:=by omega
   obtain ⟨b1,o1,a1,c1,rfl,hb1,d0,d1,s1⟩:=H3.out.1.at (k:=j) (by rw [HL.out];omega)
   have HK:=HF.out.at j
   have HKH:Hd (Word (gl F j).s∧(gl F j).L.length≤1000):=⟨HK⟩
   have hs3:=p3.size
   obtain ⟨⟨x0,x1,x2,x3,x4⟩,-⟩:=H3.out.2.2.1.fair
   have DP:=drop_ok (gl F j).s a1 c1 (gl F j).L id wr s1 (by omega)
   rw [HYES.out,← HUU.out] at DP
   simp only at DP
   have HDL:Hd ((drL id (gl F j).L).length≤(gl F j).L.length):=⟨drL_len _ _⟩
   clear p3 s1 hb1
   generalize (gl F j).L.length=m at *
   obtain ⟨D,hD⟩:∃ D,D=drL id (gl F j).L:=⟨_,rfl⟩
   have HD:Hd (D=drL id (gl F j).L):=⟨hD⟩
   rw [←hD] at DP HDL
   clear hD
   obtain ⟨s,hs'⟩:∃ s,s=(gl F j).s:=⟨_,rfl⟩
   have HS':Hd (s=(gl F j).s):=⟨hs'⟩
   have HSD:Hd (F.set j ⟨(gl F j).s,drL id (gl F j).L⟩=F.set j ⟨s,D⟩):=⟨by rw [HS'.out,HD.out]⟩
   rw [←hs'] at DP d0 HKH
   clear hs'
   go_wp2_with fail
   go_at_call 81
   refine DP.mono ?_
   rintro e w5 ⟨⟨v5,rfl,-,hv5⟩,b5⟩
   obtain ⟨a5,c5,rfl,-,o5⟩:=hv5 rfl
   clear DP d0 d1 x0 x1 x2 x3 x4 hv5
   obtain ⟨m5,hm5⟩:∃ m5,m5=D.length:=⟨_,rfl⟩
   have HM5:Hd (m5=D.length):=⟨hm5⟩
   rw [←hm5] at o5 HDL ⊢
   clear hm5
   obtain ⟨B7,N7,N8⟩:=boxes w5 62 36 #[.int .u64 s,.slice a5 m5 c5] #[.int .i64 u0,.int .i64 u1,.int .i64 u2,.int .i64 u3,.int .i64 u4]
   obtain ⟨w7,hw7⟩:∃ w7,w7=(w5.alloc (.cells #[.int .u64 s,.slice a5 m5 c5] 62)).alloc (.cells #[.int .i64 u0,.int .i64 u1,.int .i64 u2,.int .i64 u3,.int .i64 u4] 36):=⟨_,rfl⟩
   rw [←hw7] at B7 N7 N8
   have b37:Below wr.heap.size wr w7:=b5.trans (B7.mono b5.size)
   have H7:Hd (LsR w7 (some ⟨b1,o1,none⟩) c F∧Below A w w7∧Blk w7 A 31 (faA r g nn o (.slice (some ⟨b1,o1,none⟩) n c))∧Blk w7 (A+1) 31 (faA 0 0 0 0 (.slice none 0 0))∧Blk w7 (A+1+1) 36 (tkA tkZ)∧Blk w7 w5.heap.size 62 (lnA s (.slice a5 m5 c5))∧Blk w7 (w5.heap.size+1) 36 (tkA ⟨u0,u1,u2,u3,u4⟩)∧OwnT w7 wr.heap.size (.slice a5 m5 c5) D) :=
    ⟨H3.out.1.carry b37,H3.out.2.1.trans (b37.mono (show A≤wr.heap.size by omega)),H3.out.2.2.1.kept (Kept.of_below b37 (fun _=>False)) (fun h=>h),H3.out.2.2.2.1.kept (Kept.of_below b37 (fun _=>False)) (fun h=>h),H3.out.2.2.2.2.kept (Kept.of_below b37 (fun _=>False)) (fun h=>h),N7,N8,o5.kept (Kept.of_below B7 (fun _=>False)) (fun _ _ h=>h)⟩
   have hs5:wr.heap.size≤w5.heap.size:=b5.size
   clear o5 b5 B7 N7 N8 b37 H3
   go_upto_region 6 with fail
   rw [←hw7]
   clear hw7
   refine AnyG.start (T:=fun Y=>Kept (fun q0=>q0=A+1∨q0=A+1+1) w7.drew Y) (U:=fun _=>True) (j0:=100) (by kernel_rfl) ?_
   obtain ⟨w8,hw8⟩:∃ w8,w8=w7.drew:=⟨_,rfl⟩
   have B8:Below w7.heap.size w7 w8:=by rw [hw8];exact (Below.refl _ _).drew
   have H8:Hd (LsR w8 (some ⟨b1,o1,none⟩) c F∧Below A w w8∧Blk w8 A 31 (faA r g nn o (.slice (some ⟨b1,o1,none⟩) n c))∧Blk w8 (A+1) 31 (faA 0 0 0 0 (.slice none 0 0))∧Blk w8 (A+1+1) 36 (tkA tkZ)∧Blk w8 w5.heap.size 62 (lnA s (.slice a5 m5 c5))∧Blk w8 (w5.heap.size+1) 36 (tkA ⟨u0,u1,u2,u3,u4⟩)∧OwnT w8 wr.heap.size (.slice a5 m5 c5) D):=by
    have K8:Kept (fun _=>False) w7 w8:=Kept.of_below B8 _
    obtain ⟨h1,h2,h3,h4,h5,h6,h7,h8⟩:=H7.out
    exact ⟨⟨h1.carry B8,h2.trans (B8.mono (by have:=h3.lt;omega)),h3.kept K8 (fun h=>h),h4.kept K8 (fun h=>h),h5.kept K8 (fun h=>h),h6.kept K8 (fun h=>h),h7.kept K8 (fun h=>h),h8.kept K8 (fun _ _ h=>h)⟩⟩
   rw [←hw8]
   clear hw8 B8 H7
   generalize w5.heap.size=y at *
   have R:Kept (fun q0=>q0=A+1∨q0=A+1+1) w8 w8:=Kept.refl _ _
   have XA:Hd (∀ Y,Kept (fun q0=>q0=A+1∨q0=A+1+1) w8 Y→Y.cell? ⟨A,0,none⟩=some (.int .u64 r)∧Y.cell? ⟨A,1,none⟩=some (.int .i64 g)∧Y.cell? ⟨A,2,none⟩=some (.int .i64 nn)∧Y.cell? ⟨A,3,none⟩=some (.int .i64 o)∧Y.cell? ⟨A,4,none⟩=some (.slice (some ⟨b1,o1,none⟩) n c)):=⟨fun Y q=>(H8.out.2.2.1.kept q (by omega)).fair.1⟩
   have XL:Hd (∀ Y,Kept (fun q0=>q0=A+1∨q0=A+1+1) w8 Y→Y.cell? ⟨y,0,none⟩=some (.int .u64 s)∧Y.cell? ⟨y,1,none⟩=some (.slice a5 m5 c5)):=⟨fun Y q=>(H8.out.2.2.2.2.2.1.kept q (by omega)).lane.1⟩
   have XT:Hd (∀ Y,Kept (fun q0=>q0=A+1∨q0=A+1+1) w8 Y→Y.cell? ⟨y+1,0,none⟩=some (.int .i64 u0)∧Y.cell? ⟨y+1,1,none⟩=some (.int .i64 u1)∧Y.cell? ⟨y+1,2,none⟩=some (.int .i64 u2)∧Y.cell? ⟨y+1,3,none⟩=some (.int .i64 u3)∧Y.cell? ⟨y+1,4,none⟩=some (.int .i64 u4)):=⟨fun Y q=>(H8.out.2.2.2.2.2.2.1.kept q (by omega)).five.1⟩
   refine .tq 0 29 R ?_ (hy:=fun w hSw=>by have s:=XA.out w hSw;go_simp;rfl);simp only [oqA,oqB,oqC]
   refine .tq 1 30 R ?_;simp only [oqA,oqB,oqC]
   refine .tq 2 31 R ?_ (hy:=fun w hSw=>by have s:=XL.out w hSw;go_simp;rfl);simp only [oqA,oqB,oqC]
   refine .tq 5 34 R ?_ (hy:=fun w hSw=>by have s:=XT.out w hSw;go_simp;rfl);simp only [oqA,oqB,oqC]
   have WT:=with_ok r g nn o (some ⟨b1,o1,none⟩) c j F s a5 c5 D wr.heap.size w8 H8.out.1 HF.out (by rw [HL.out];exact hkn) (by rw [←HM5.out];exact H8.out.2.2.2.2.2.2.2) (by have:=H8.out.2.2.2.2.2.1.lt;omega)
   rw [HL.out,← HM5.out] at WT
   refine AnyG.ready (rs:=[3]) (by kernel_rfl) (by simp) ?_
   refine AllG.cons rfl (fun K hK=>?_) AllG.nil
   go_simp
   refine WT.mono ?_
   rintro e w9 ⟨⟨v9,rfl,u9,rfl,o9⟩,b9⟩
   obtain ⟨a6,c6,e6,-⟩:=o9.read
   rw [List.length_set,HL.out] at e6
   subst e6
   have R9:Kept (fun q0=>q0=A+1∨q0=A+1+1) w8 w9:=Kept.of_below b9 _
   refine hK.out _ _ ⟨R9,fun _=>trivial⟩ ?_
   clear hK K WT
   have NR9:=H8.out.2.2.2.1.kept (Kept.of_below b9 (fun _=>False)) (fun h=>h)
   have NT9:=H8.out.2.2.2.2.1.kept (Kept.of_below b9 (fun _=>False)) (fun h=>h)
   have BW9:=H8.out.2.1.trans (b9.mono (show A≤w8.heap.size by have:=H8.out.2.2.1.lt;omega))
   obtain ⟨a9,c9,e9,st9⟩:=o9.st (S:=fun q0=>q0<A+3) (fun q0 hj e=>by have:q0<A+3:=e;omega)
   rw [List.length_set,HL.out] at e9
   obtain ⟨rfl,rfl⟩:a6=a9∧c6=c9:=by injection e9 with x1 x2 x3;exact ⟨x1,x3⟩
   have FS:Few (F.set j ⟨s,D⟩):=HF.out.set ⟨HKH.out.1,by have:=HKH.out.2;have:=HDL.out;have:=HM5.out;show D.length≤1000;omega⟩
   have TR:=trimmed_ok (fun q0=>q0<A+3) r g nn o _ _ (F.set j ⟨s,D⟩) w9 st9 FS
   rw [List.length_set,HL.out] at TR
   refine AnyG.ready (rs:=[4]) (by kernel_rfl) (by simp) ?_
   refine AllG.cons rfl (fun K hK=>?_) AllG.nil
   go_simp
   refine TR.mono ?_
   rintro e w10 ⟨⟨v10,rfl,a10,c10,rfl,r10⟩,b10⟩
   obtain ⟨m10,hm10⟩:∃ m10,m10=(trm (F.set j ⟨s,D⟩) o).length:=⟨_,rfl⟩
   have HM10:Hd (m10=(trm (F.set j ⟨s,D⟩) o).length):=⟨hm10⟩
   rw [←hm10]
   clear hm10
   have R10:Kept (fun q0=>q0=A+1∨q0=A+1+1) w8 w10:=R9.trans (Kept.of_below b10 _)
   refine hK.out _ _ ⟨R10,fun _=>trivial⟩ ?_
   clear hK K TR st9 e9
   have NR:=NR9.kept (Kept.of_below b10 (fun _=>False)) (fun h=>h)
   have NT:=NT9.kept (Kept.of_below b10 (fun _=>False)) (fun h=>h)
   have BW:=BW9.trans (b10.mono (show A≤w9.heap.size by have:=NR9.lt;omega))
   obtain ⟨⟨y0,y1,y2,y3,y4⟩,yf0,yf1,yf2,yf3,yf4⟩:=NR.fair
   obtain ⟨⟨-,p2,pk⟩,q1,q2,k2⟩:=ft_put NR NT r g nn o (.slice a10 m10 c10) ⟨u0,u1,u2,u3,u4⟩
   obtain ⟨⟨d0,d1,d2,d3,d4⟩,e0,e1,e2,e3,e4⟩:=p2.five
   simp only [tkZ] at d0 d1 d2 d3 d4 q1 q2 k2
   refine AnyG.ready (rs:=[6]) (by kernel_rfl) (by simp) ?_
   refine AllG.cons rfl (fun K hK=>?_) AllG.nil
   go_simp
   refine hK.out _ _ ⟨R10.trans (pk.mono (fun j _ e=>.inl e)),fun _=>trivial⟩ ?_
   clear hK K
   refine AnyG.ready (rs:=[7]) (by kernel_rfl) (by simp) ?_
   refine AllG.cons rfl (fun K hK=>?_) AllG.nil
   go_simp
   have R11:=R10.trans k2
   refine hK.out _ _ ⟨R11,fun _=>trivial⟩ ?_
   clear hK K
   refine .tq 8 6 R11 ?_;simp only [oqA,oqB,oqC]
   refine AnyG.done (by kernel_rfl) ?_ _
   have HE:Hd (_∧_∧_∧_):=⟨q1,q2,(r10.next (k2.mono (T:=fun j=>j<A+3) (fun j _ e=>by have:j=A+1∨j=A+1+1:=e;show j<A+3;omega))).low (T:=fun j=>j<A) (fun j _ h=>by have:j<A:=h;show j<A+3;omega),BW.trans (k2.below (B:=A) (by have:=NR.lt;omega) (fun j e=>by omega))⟩
   clear NR NT BW p2 pk q1 q2 k2 r10 b10 y0 y1 y2 y3 y4 yf0 yf1 yf2 yf3 yf4 d0 d1 d2 d3 d4 e0 e1 e2 e3 e4 R10 R11 R R9 XA XL XT H8 b9 o9 NR9 NT9 BW9
   go_wp2_with fail
   refine bodyPost_ret (resFt25 (t:=⟨u0,u1,u2,u3,u4⟩) _ _ _ _ true rfl rfl rfl HE.out.1 HE.out.2.1) rfl ?_
   rw [←HA.out,HSD.out]
   exact ⟨⟨_,rfl,_,_,by rw [HM10.out],HE.out.2.2.1⟩,HE.out.2.2.2⟩
end Go.Proofs.YtlgibnmoogbdcaaGreat
