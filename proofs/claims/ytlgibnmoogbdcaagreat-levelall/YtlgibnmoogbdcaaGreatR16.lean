/-
  Who is next is taken, by the program and the reference, where nobody waits.
  Who is taken, by the reference.
-/
import Derived.Test.YtlgibnmoogbdcaaGreatR15
import Derived.Test.YtlgibnmoogbdcaaGreatR8
namespace Go.Proofs.YtlgibnmoogbdcaaGreat
open Go.RowKit
theorem resFt23 (tmps:Array Value) (w:World) (b q:Nat) {r g n o:Int} {a:Option Addr} {l c:Nat} {t:Tk} (x:Bool) (ht:tmps[2]?.getD undef=.pointer (some ⟨b,0,none⟩)) (hu:tmps[3]?.getD undef=.pointer (some ⟨q,0,none⟩)) (hx:tmps[4]?.getD undef=.bool x) (h:Blk w b 31 (faA r g n o (.slice a l c))) (k:Blk w q 36 (tkA t)) :
  (results Tryz.f41 tmps).run Tryz.prog w=.ok (.tuple #[.agg #[.int .u64 r,.int .i64 g,.int .i64 n,.int .i64 o,.slice a l c],.agg #[.int .i64 t.id,.int .i64 t.wid,.int .i64 t.sts,.int .i64 t.sin,.int .i64 t.unt],.bool x]) w:=by
 obtain ⟨⟨c0,c1,c2,c3,c4⟩,-⟩:=h.fair
 obtain ⟨⟨d0,d1,d2,d3,d4⟩,-⟩:=k.five
 simp [results,Tryz.results41,go_sem,ht,hu,hx,c0,c1,c2,c3,c4,d0,d1,d2,d3,d4]
theorem resFt24 (tmps:Array Value) (w:World) (b q:Nat) {r g n o:Int} {a:Option Addr} {l c:Nat} {t:Tk} (x:Bool) (ht:tmps[2]?.getD undef=.pointer (some ⟨b,0,none⟩)) (hu:tmps[3]?.getD undef=.pointer (some ⟨q,0,none⟩)) (hx:tmps[4]?.getD undef=.bool x) (h:Blk w b 31 (faA r g n o (.slice a l c))) (k:Blk w q 36 (tkA t)) :
  (results Tryz.f43 tmps).run Tryz.prog w=.ok (.tuple #[.agg #[.int .u64 r,.int .i64 g,.int .i64 n,.int .i64 o,.slice a l c],.agg #[.int .i64 t.id,.int .i64 t.wid,.int .i64 t.sts,.int .i64 t.sin,.int .i64 t.unt],.bool x]) w:=by
 obtain ⟨⟨c0,c1,c2,c3,c4⟩,-⟩:=h.fair
 obtain ⟨⟨d0,d1,d2,d3,d4⟩,-⟩:=k.five
 simp [results,Tryz.results43,go_sem,ht,hu,hx,c0,c1,c2,c3,c4,d0,d1,d2,d3,d4]
theorem ft_put {w:World} {b q:Nat} {r g n o:Int} {v:Value} {t0:Tk} (h:Blk w b 31 (faA r g n o v)) (k:Blk w q 36 (tkA t0)) (r' g' n' o':Int) (v':Value) (t':Tk) :
  (Blk (((((w.setCell ⟨b,0,none⟩ (.int .u64 r')).setCell ⟨b,1,none⟩ (.int .i64 g')).setCell ⟨b,2,none⟩ (.int .i64 n')).setCell ⟨b,3,none⟩ (.int .i64 o')).setCell ⟨b,4,none⟩ (v')) b 31 (faA r' g' n' o' v')∧Blk (((((w.setCell ⟨b,0,none⟩ (.int .u64 r')).setCell ⟨b,1,none⟩ (.int .i64 g')).setCell ⟨b,2,none⟩ (.int .i64 n')).setCell ⟨b,3,none⟩ (.int .i64 o')).setCell ⟨b,4,none⟩ (v')) q 36 (tkA t0)∧Kept (fun k=>k=b) w (((((w.setCell ⟨b,0,none⟩ (.int .u64 r')).setCell ⟨b,1,none⟩ (.int .i64 g')).setCell ⟨b,2,none⟩ (.int .i64 n')).setCell ⟨b,3,none⟩ (.int .i64 o')).setCell ⟨b,4,none⟩ (v')))
  ∧ Blk ((((((((((w.setCell ⟨b,0,none⟩ (.int .u64 r')).setCell ⟨b,1,none⟩ (.int .i64 g')).setCell ⟨b,2,none⟩ (.int .i64 n')).setCell ⟨b,3,none⟩ (.int .i64 o')).setCell ⟨b,4,none⟩ (v')).setCell ⟨q,0,none⟩ (.int .i64 t'.id)).setCell ⟨q,1,none⟩ (.int .i64 t'.wid)).setCell ⟨q,2,none⟩ (.int .i64 t'.sts)).setCell ⟨q,3,none⟩ (.int .i64 t'.sin)).setCell ⟨q,4,none⟩ (.int .i64 t'.unt)) b 31 (faA r' g' n' o' v')∧Blk ((((((((((w.setCell ⟨b,0,none⟩ (.int .u64 r')).setCell ⟨b,1,none⟩ (.int .i64 g')).setCell ⟨b,2,none⟩ (.int .i64 n')).setCell ⟨b,3,none⟩ (.int .i64 o')).setCell ⟨b,4,none⟩ (v')).setCell ⟨q,0,none⟩ (.int .i64 t'.id)).setCell ⟨q,1,none⟩ (.int .i64 t'.wid)).setCell ⟨q,2,none⟩ (.int .i64 t'.sts)).setCell ⟨q,3,none⟩ (.int .i64 t'.sin)).setCell ⟨q,4,none⟩ (.int .i64 t'.unt)) q 36 (tkA t')∧Kept (fun k=>k=b∨k=q) w ((((((((((w.setCell ⟨b,0,none⟩ (.int .u64 r')).setCell ⟨b,1,none⟩ (.int .i64 g')).setCell ⟨b,2,none⟩ (.int .i64 n')).setCell ⟨b,3,none⟩ (.int .i64 o')).setCell ⟨b,4,none⟩ (v')).setCell ⟨q,0,none⟩ (.int .i64 t'.id)).setCell ⟨q,1,none⟩ (.int .i64 t'.wid)).setCell ⟨q,2,none⟩ (.int .i64 t'.sts)).setCell ⟨q,3,none⟩ (.int .i64 t'.sin)).setCell ⟨q,4,none⟩ (.int .i64 t'.unt)):=by
 have hne:b≠q:=h.ne k (by decide)
 obtain ⟨q1,q2⟩:=fair_set h r' g' n' o' v'
 have k1:=k.kept q2 (Ne.symm hne)
 obtain ⟨u1,u2⟩:=five_set k1 t'
 exact ⟨⟨q1,k1,q2⟩,q1.kept u2 hne,u1,(q2.mono (fun k _ e=>.inl e)).trans (u2.mono (fun k _ e=>.inr e))⟩
set_option maxRecDepth 20000 in
set_option maxHeartbeats 1000000 in
theorem ftake_none (r g nn o:Int) (a:Option Addr) (c:Nat) (F:List Ln) (w:World) (h:LsR w a c F) (hf:Few F) (hc:nxt F g=-1) :
  Calls Tryz.prog 41 #[.agg #[.int .u64 r,.int .i64 g,.int .i64 nn,.int .i64 o,.slice a F.length c]] w fun e w'=>(∃ v,e=.returned (.tuple #[v,.agg #[.int .i64 0,.int .i64 0,.int .i64 0,.int .i64 0,.int .i64 0],.bool false])∧FaS (fun j=>j<w.heap.size) w' r g nn o F v)∧Below w.heap.size w w':=by
 obtain ⟨w2,hw2⟩:∃ w2,w2=((w.alloc (.cells #[.int .u64 r,.int .i64 g,.int .i64 nn,.int .i64 o,.slice a F.length c] 31)).alloc (.cells #[.int .u64 0,.int .i64 0,.int .i64 0,.int .i64 0,.slice none 0 0] 31)).alloc (.cells #[.int .i64 0,.int .i64 0,.int .i64 0,.int .i64 0,.int .i64 0] 36):=⟨_,rfl⟩
 have BX:=boxes3 w 31 31 36 #[.int .u64 r,.int .i64 g,.int .i64 nn,.int .i64 o,.slice a F.length c] #[.int .u64 0,.int .i64 0,.int .i64 0,.int .i64 0,.slice none 0 0] #[.int .i64 0,.int .i64 0,.int .i64 0,.int .i64 0,.int .i64 0]
 rw [←hw2] at BX
 obtain ⟨B,N1,N2,N3⟩:=BX
 have HF:Hd (Few F):=⟨hf⟩
 have HW:Hd (LsR w a c F):=⟨h⟩
 have hlen:=hf.len
 have NXT:=next_ok r g nn o a c F w2 (h.carry B) hf
 rw [hc,show nI (-1)=0 from rfl,show nB (-1)=false from rfl] at NXT
 obtain ⟨n,hn⟩:∃ n,F.length=n:=⟨_,rfl⟩
 have HL:Hd (F.length=n):=⟨hn⟩
 have HN:Hd (LsR w2 a c F∧Below w.heap.size w w2∧Blk w2 w.heap.size 31 (faA r g nn o (.slice a n c))∧Blk w2 (w.heap.size+1) 31 (faA 0 0 0 0 (.slice none 0 0))∧Blk w2 (w.heap.size+1+1) 36 (tkA tkZ)):=⟨h.carry B,B,by rw [←hn];exact N1,N2,N3⟩
 have hs:=N3.lt
 obtain ⟨⟨x0,x1,x2,x3,x4⟩,-⟩:=Blk.fair N1
 rw [hn] at hlen hw2 x4 NXT ⊢
 clear hn B N1 N2 N3 h hf
 go_enter Tryz.func41,Tryz.ntmps41
 go_upto_region 1 with fail
 rw [←hw2]
 clear hw2
 obtain ⟨A,hA⟩:∃ A,A=w.heap.size:=⟨_,rfl⟩
 have HA:Hd (A=w.heap.size):=⟨hA⟩
 rw [←hA] at HN hs x0 x1 x2 x3 x4 ⊢
 clear hA
 go_wp2_with fail
 go_at_call 73
 refine NXT.mono ?_
 rintro e w3 ⟨rfl,b3⟩
 clear NXT x0 x1 x2 x3 x4
 have hs3:=b3.size
 have H3:Hd (LsR w3 a c F∧Below A w w3∧Blk w3 A 31 (faA r g nn o (.slice a n c))∧Blk w3 (A+1) 31 (faA 0 0 0 0 (.slice none 0 0))∧Blk w3 (A+1+1) 36 (tkA tkZ)) :=
  ⟨HN.out.1.carry b3,HN.out.2.1.trans (b3.mono (show A≤w2.heap.size by omega)),HN.out.2.2.1.kept (Kept.of_below b3 (fun _=>False)) id,HN.out.2.2.2.1.kept (Kept.of_below b3 (fun _=>False)) id,HN.out.2.2.2.2.kept (Kept.of_below b3 (fun _=>False)) id⟩
 clear HN b3
 have CP:=fcopied_ok r g nn o a c F w3 H3.out.1 HF.out
 rw [HL.out] at CP
 obtain ⟨⟨x0,x1,x2,x3,x4⟩,-⟩:=H3.out.2.2.1.fair
 go_wp2_with fail
 go_at_call 74
 refine CP.mono ?_
 rintro e w5 ⟨⟨v5,rfl,u5,rfl,o5⟩,b5⟩
 clear CP x0 x1 x2 x3 x4
 obtain ⟨a5,c5,e5,-⟩:=o5.read
 rw [HL.out] at e5
 subst e5
 have NR:=H3.out.2.2.2.1.kept (Kept.of_below b5 (fun _=>False)) id
 have NT:=H3.out.2.2.2.2.kept (Kept.of_below b5 (fun _=>False)) id
 have BW:=H3.out.2.1.trans (b5.mono (show A≤w3.heap.size by omega))
 obtain ⟨⟨y0,y1,y2,y3,y4⟩,yf0,yf1,yf2,yf3,yf4⟩:=NR.fair
 obtain ⟨⟨-,p2,-⟩,q1,q2,k2⟩:=ft_put NR NT r g nn o (.slice a5 n c5) tkZ
 obtain ⟨⟨d0,d1,d2,d3,d4⟩,e0,e1,e2,e3,e4⟩:=p2.five
 have HE:Hd (_∧_∧_∧_):=⟨q1,q2,o5.kept k2 (fun j hj e=>by omega),BW.trans (k2.below (B:=A) (by have:=NR.lt;omega) (fun j e=>by omega))⟩
 clear NR NT BW q1 q2 k2 o5 b5 H3 p2
 simp only [tkZ] at HE d0 d1 d2 d3 d4
 go_wp2_with fail
 refine bodyPost_ret (resFt23 (t:=tkZ) _ _ _ _ false rfl rfl rfl HE.out.1 HE.out.2.1) rfl ?_
 obtain ⟨a9,c9,e9,r9⟩:=HE.out.2.2.1.st (S:=fun j=>j<w.heap.size) (fun j hj e=>by have:j<w.heap.size:=e;have:=HA.out;omega)
 rw [HL.out] at e9
 obtain ⟨rfl,rfl⟩:a5=a9∧c5=c9:=by injection e9 with x1 x2 x3;exact ⟨x1,x3⟩
 exact ⟨⟨_,rfl,_,_,by rw [HL.out],r9⟩,by rw [←HA.out];exact HE.out.2.2.2⟩
set_option maxRecDepth 20000 in
set_option maxHeartbeats 1000000 in
theorem rftake_none (r g nn o:Int) (a:Option Addr) (c:Nat) (F:List Ln) (w:World) (h:LsR w a c F) (hf:Few F) (hc:nxt F g=-1) :
  Calls Tryz.prog 43 #[.agg #[.int .u64 r,.int .i64 g,.int .i64 nn,.int .i64 o,.slice a F.length c]] w fun e w'=>(∃ v,e=.returned (.tuple #[v,.agg #[.int .i64 0,.int .i64 0,.int .i64 0,.int .i64 0,.int .i64 0],.bool false])∧v=.agg #[.int .u64 r,.int .i64 g,.int .i64 nn,.int .i64 o,.slice a F.length c])∧Below w.heap.size w w':=by
 obtain ⟨w2,hw2⟩:∃ w2,w2=((w.alloc (.cells #[.int .u64 r,.int .i64 g,.int .i64 nn,.int .i64 o,.slice a F.length c] 31)).alloc (.cells #[.int .u64 0,.int .i64 0,.int .i64 0,.int .i64 0,.slice none 0 0] 31)).alloc (.cells #[.int .i64 0,.int .i64 0,.int .i64 0,.int .i64 0,.int .i64 0] 36):=⟨_,rfl⟩
 have BX:=boxes3 w 31 31 36 #[.int .u64 r,.int .i64 g,.int .i64 nn,.int .i64 o,.slice a F.length c] #[.int .u64 0,.int .i64 0,.int .i64 0,.int .i64 0,.slice none 0 0] #[.int .i64 0,.int .i64 0,.int .i64 0,.int .i64 0,.int .i64 0]
 rw [←hw2] at BX
 obtain ⟨B,N1,N2,N3⟩:=BX
 have HF:Hd (Few F):=⟨hf⟩
 have HW:Hd (LsR w a c F):=⟨h⟩
 have hlen:=hf.len
 have NXT:=rnext_ok r g nn o a c F w2 (h.carry B) hf
 rw [hc,show nI (-1)=0 from rfl,show nB (-1)=false from rfl] at NXT
 obtain ⟨n,hn⟩:∃ n,F.length=n:=⟨_,rfl⟩
 have HL:Hd (F.length=n):=⟨hn⟩
 have HN:Hd (LsR w2 a c F∧Below w.heap.size w w2∧Blk w2 w.heap.size 31 (faA r g nn o (.slice a n c))∧Blk w2 (w.heap.size+1) 31 (faA 0 0 0 0 (.slice none 0 0))∧Blk w2 (w.heap.size+1+1) 36 (tkA tkZ)):=⟨h.carry B,B,by rw [←hn];exact N1,N2,N3⟩
 have hs:=N3.lt
 obtain ⟨⟨x0,x1,x2,x3,x4⟩,-⟩:=Blk.fair N1
 rw [hn] at hlen hw2 x4 NXT ⊢
 clear hn B N1 N2 N3 h hf
 go_enter Tryz.func43,Tryz.ntmps43
 go_upto_region 1 with fail
 rw [←hw2]
 clear hw2
 obtain ⟨A,hA⟩:∃ A,A=w.heap.size:=⟨_,rfl⟩
 have HA:Hd (A=w.heap.size):=⟨hA⟩
 rw [←hA] at HN hs x0 x1 x2 x3 x4 ⊢
 clear hA
 go_wp2_with fail
 go_at_call 42
 refine NXT.mono ?_
 rintro e w3 ⟨rfl,b3⟩
 clear NXT x0 x1 x2 x3 x4
 have hs3:=b3.size
 have H3:Hd (LsR w3 a c F∧Below A w w3∧Blk w3 A 31 (faA r g nn o (.slice a n c))∧Blk w3 (A+1) 31 (faA 0 0 0 0 (.slice none 0 0))∧Blk w3 (A+1+1) 36 (tkA tkZ)) :=
  ⟨HN.out.1.carry b3,HN.out.2.1.trans (b3.mono (show A≤w2.heap.size by omega)),HN.out.2.2.1.kept (Kept.of_below b3 (fun _=>False)) id,HN.out.2.2.2.1.kept (Kept.of_below b3 (fun _=>False)) id,HN.out.2.2.2.2.kept (Kept.of_below b3 (fun _=>False)) id⟩
 clear HN b3
 obtain ⟨⟨x0,x1,x2,x3,x4⟩,-⟩:=H3.out.2.2.1.fair
 have NR:=H3.out.2.2.2.1
 have NT:=H3.out.2.2.2.2
 obtain ⟨⟨y0,y1,y2,y3,y4⟩,yf0,yf1,yf2,yf3,yf4⟩:=NR.fair
 obtain ⟨⟨-,p2,-⟩,q1,q2,k2⟩:=ft_put NR NT r g nn o (.slice a n c) tkZ
 obtain ⟨⟨d0,d1,d2,d3,d4⟩,e0,e1,e2,e3,e4⟩:=p2.five
 have HE:Hd (_∧_∧_):=⟨q1,q2,H3.out.2.1.trans (k2.below (B:=A) (by have:=NR.lt;omega) (fun j e=>by omega))⟩
 clear NR NT q1 q2 k2 H3 p2
 simp only [tkZ] at HE d0 d1 d2 d3 d4
 go_wp2_with fail
 refine bodyPost_ret (resFt24 (t:=tkZ) _ _ _ _ false rfl rfl rfl HE.out.1 HE.out.2.1) rfl ?_
 exact ⟨⟨_,rfl,rfl⟩,by rw [←HA.out];exact HE.out.2.2⟩
set_option maxRecDepth 20000 in
set_option maxHeartbeats 2000000 in
theorem rtake_ok (s:Int) (a:Option Addr) (c:Nat) (L:List Tk) (g:Int) (w:World) (hs:Word s) (h:SlR w a c L) (hl:L.length≤2000) :
  Calls Tryz.prog 79 #[.agg #[.int .u64 s,.slice a L.length c],.int .i64 g] w fun e w'=>(∃ v,e=.returned (.tuple #[v,.agg #[.int .i64 (gt L 0).id,.int .i64 (gt L 0).wid,.int .i64 (gt L 0).sts,.int .i64 (gt L 0).sin,.int .i64 (gt L 0).unt],.bool (hasI L)])∧LnW w' w.heap.size (tkS s L g) L.tail v (hasI L))∧Below w.heap.size w w':=by
 obtain ⟨w2,hw2⟩:∃ w2,w2=((w.alloc (.cells #[.int .u64 s,.slice a L.length c] 62)).alloc (.cells #[.int .u64 0,.slice none 0 0] 62)).alloc (.cells #[.int .i64 0,.int .i64 0,.int .i64 0,.int .i64 0,.int .i64 0] 36):=⟨_,rfl⟩
 have BX:=boxes3 w 62 62 36 #[.int .u64 s,.slice a L.length c] #[.int .u64 0,.slice none 0 0] #[.int .i64 0,.int .i64 0,.int .i64 0,.int .i64 0,.int .i64 0]
 rw [←hw2] at BX
 obtain ⟨B,N1,N2,N3⟩:=BX
 have F:=rfinish_ok s a c L g w2 hs (h.carry B).2.2 hl
 obtain ⟨⟨c0,c1⟩,-⟩:=Blk.lane N1
 have H:Hd (∀ W,Below w2.heap.size w2 W→Blk W w.heap.size 62 (lnA s (.slice a L.length c))∧Blk W (w.heap.size+1) 62 (lnA 0 (.slice none 0 0))∧Blk W (w.heap.size+1+1) 36 (tkA tkZ)∧SlR W a c L∧Below w.heap.size w W):=⟨fun W b=>⟨N1.kept (Kept.of_below b (fun _=>False)) id,N2.kept (Kept.of_below b (fun _=>False)) id,N3.kept (Kept.of_below b (fun _=>False)) id,(h.carry B).carry b,B.trans (b.mono B.size)⟩⟩
 have HZ:Hd (w.heap.size+1+1<w2.heap.size):=⟨N3.lt⟩
 have HC:Hd (a=none→c=0):=⟨h.2.1⟩
 by_cases hn:L=[]
 ·subst hn
  clear N1 N2 N3 B h hs
  simp only [List.length_nil,finI_nil,hasI_nil] at *
  rw [tkS_nil]
  go_enter Tryz.func79,Tryz.ntmps79
  go_upto_region 1 with fail
  rw [←hw2]
  clear hw2
  go_upto_region 2 with (go_at_call 78;refine F.mono ?_;rintro e w3 ⟨rfl,b3⟩)
  obtain ⟨x1,x2,x3,-,x5⟩:=H.out w3 b3
  clear c0 c1 F
  obtain ⟨⟨c0,c1⟩,-⟩:=x1.lane
  obtain ⟨q1,q2,q3⟩:=two_put x2 x3 s (.slice a 0 c) tkZ
  obtain ⟨⟨r0,r1⟩,f0,f1⟩:=x2.lane
  obtain ⟨⟨d0,d1,d2,d3,d4⟩,e0,e1,e2,e3,e4⟩:=x3.five
  have Q:Hd (_∧_∧_):=⟨q1,q2,x5.trans (q3.below x5.size (fun k e=>by omega))⟩
  clear x1 x2 x3 x5 q1 q2 q3 b3 H
  simp only [tkZ] at Q d0 d1 d2 d3 d4
  go_wp2_with fail
  refine bodyPost_ret (resTk11 (t:=tkZ) _ _ _ _ false rfl rfl rfl Q.out.1 Q.out.2.1) rfl ?_
  exact ⟨⟨_,rfl,⟨a,c,rfl,Nat.zero_le _,HC.out,TkR.nil _ _⟩,fun e=>by cases e⟩,Q.out.2.2⟩
 ·rw [hasI_some hn,tkS_some hn]
  rw [hasI_some hn] at F
  have hp:=len_pos hn
  obtain ⟨b,off,rfl,hb,-⟩:=h.2.2.at hp
  have hc:=h.1
  have HB:Hd (b<w.heap.size):=⟨hb⟩
  have HT:Hd (∀ W,Below w.heap.size w W→W.cell? ⟨b,off,none⟩=some (.int .i64 (gt L 0).id)∧W.cell? ⟨b,off+1,none⟩=some (.int .i64 (gt L 0).wid)∧W.cell? ⟨b,off+2,none⟩=some (.int .i64 (gt L 0).sts)∧W.cell? ⟨b,off+3,none⟩=some (.int .i64 (gt L 0).sin)∧W.cell? ⟨b,off+4,none⟩=some (.int .i64 (gt L 0).unt)):=⟨fun W q=>by
   obtain ⟨b',off',e',-,y⟩:=(h.2.2.carry q).at hp
   cases e'
   simpa using y⟩
  have SD:Hd (∀ W,Below w.heap.size w W→SlR W (some (if c=1 then ⟨b,off,none⟩ else ⟨b,off+1*5,none⟩)) (c - 1) L.tail):=⟨fun W q=>by
   have:=(h.carry q).drop 1 hp
   rwa [List.drop_one] at this⟩
  have HD:Hd (L.tail.length=L.length - 1):=⟨List.length_tail⟩
  clear N1 N2 N3 B h hs hb
  obtain ⟨x2,hx2⟩:∃ x2,x2=(if c=1 then (⟨b,off,none⟩:Addr) else ⟨b,off+1*5,none⟩):=⟨_,rfl⟩
  rw [←hx2] at SD
  have HX:Hd ((if c=1 then some (⟨b,off,none⟩:Addr) else some ⟨b,off+5,none⟩)=some x2):=⟨by rw [hx2];split <;> rfl⟩
  clear hx2
  generalize finI s L g=f at *
  generalize gt L 0=t at *
  obtain ⟨t0,t1,t2,t3,t4⟩:=t
  simp only at *
  generalize L.tail=D at *
  clear hn
  obtain ⟨n,hn⟩:∃ n,n=L.length:=⟨_,rfl⟩
  rw [←hn] at hw2 hl F H hp c1 hc HD ⊢
  clear hn
  go_enter Tryz.func79,Tryz.ntmps79
  go_upto_region 1 with fail
  rw [←hw2]
  clear hw2
  go_upto_region 4 with (go_at_call 78;refine F.mono ?_;rintro e w3 ⟨rfl,b3⟩)
  obtain ⟨x1,y2,y3,-,y5⟩:=H.out w3.drew b3.drew
  have S3:=SD.out w3.drew y5
  have T3:=HT.out w3.drew y5
  have hz:w.heap.size+1+1<w3.drew.heap.size:=y3.lt
  clear c0 c1 F H SD HT b3 HZ
  obtain ⟨A,hA⟩:∃ A,A=w.heap.size:=⟨_,rfl⟩
  have HA:Hd (A=w.heap.size):=⟨hA⟩
  rw [←hA] at x1 y2 y3 y5 hz HB ⊢
  clear hA
  refine AnyG.start (T:=fun W=>Kept (fun k=>A+1≤k) w3.drew W) (U:=fun _=>True) (j0:=100) (by kernel_rfl) ?_
  generalize w3.drew=w4 at *
  have R:Kept (fun k=>A+1≤k) w4 w4:=Kept.refl _ _
  have X1:Hd (∀ W,Kept (fun k=>A+1≤k) w4 W→W.cell? ⟨A,1,none⟩=some (.slice (some ⟨b,off,none⟩) n c)):=⟨fun W q=>(x1.kept q (by omega)).cellv 1 rfl⟩
  have XB:∀ (W:World) (j:Nat),Kept (fun k=>A+1≤k) w4 W→W.cell? ⟨b,j,none⟩=w4.cell? ⟨b,j,none⟩:=fun W j q=>World.cell?_of_block (q.block b (by have:=HB.out;omega) (by have:=HB.out;omega))
  have X2:Hd (∀ W,Kept (fun k=>A+1≤k) w4 W→W.cell? ⟨b,off,none⟩=some (.int .i64 t0)∧W.cell? ⟨b,off+1,none⟩=some (.int .i64 t1)∧W.cell? ⟨b,off+2,none⟩=some (.int .i64 t2)∧W.cell? ⟨b,off+3,none⟩=some (.int .i64 t3)∧W.cell? ⟨b,off+4,none⟩=some (.int .i64 t4)):=⟨fun W q=>⟨(XB W _ q).trans T3.1,(XB W _ q).trans T3.2.1,(XB W _ q).trans T3.2.2.1,(XB W _ q).trans T3.2.2.2.1,(XB W _ q).trans T3.2.2.2.2⟩⟩
  clear T3 XB
  refine .tq 0 19 R ?_;simp only [oqA,oqB,oqC]
  refine .tq 2 21 R ?_;simp only [oqA,oqB,oqC]
  refine .tq 3 22 R ?_ (hy:=fun w hSw=>by have s:=X1.out w hSw;go_simp;rfl);simp only [oqA,oqB,oqC]
  refine .tq (v:=.slice (some x2) (n - 1) (c - 1)) 4 23 R ?_ (hy:=fun w hSw=>by go_simp;rw [HX.out,if_pos (by omega)]);simp only [oqA,oqB,oqC]
  refine .tq 7 26 R ?_;simp only [oqA,oqB,oqC]
  refine .tq 8 27 R ?_ (hy:=fun w hSw=>by have s:=X1.out w hSw;go_simp;rfl);simp only [oqA,oqB,oqC]
  refine .tq 9 28 R ?_;simp only [oqA,oqB,oqC]
  refine .tq 10 29 R ?_ (hy:=fun w hSw=>by have s:=X2.out w hSw;go_simp;rfl);simp only [oqA,oqB,oqC]
  have B5:Below w4.heap.size w4 (w4.alloc (.cells #[] 36)):=alloc_below _ _
  have O5:OwnT (w4.alloc (.cells #[] 36)) w4.heap.size (.slice (some ⟨w4.heap.size,0,none⟩) 0 0) []:=OwnT.lit w4 _ (Nat.le_refl _)
  have S5:=S3.carry B5
  have hz5:=B5.size
  refine AnyG.ready (rs:=[1]) (by kernel_rfl) (by simp) ?_
  refine AllG.cons rfl (fun K hK=>?_) AllG.nil
  go_simp
  refine hK.out _ _ ⟨Kept.of_below B5 _,fun _=>trivial⟩ ?_
  clear hK K
  generalize w4.alloc (.cells #[] 36)=w5 at *
  refine AnyG.ready (rs:=[5]) (by kernel_rfl) (by simp) ?_
  refine AllG.cons rfl (fun K hK=>?_) AllG.nil
  refine step_tks rfl _ _ rfl w4.heap.size _ [] D rfl O5 (some x2) (n - 1) (c - 1) HD.out rfl S5 (by have:=HD.out;simp;omega) hz5 ?_
  intro v6 w6 o6 g6
  have b6:=O5.below B5 hz5 g6
  have T6:Kept (fun k=>A+1≤k) w4 w6:=Kept.of_below b6 _
  have P2:=y2.kept (Kept.of_below b6 (fun _=>False)) id
  have P3:=y3.kept (Kept.of_below b6 (fun _=>False)) id
  refine hK.out _ _ ⟨T6,fun _=>trivial⟩ ?_
  clear hK K O5 S5 B5 hz5 g6
  obtain ⟨m,hm⟩:∃ m,m=D.length:=⟨_,rfl⟩
  obtain ⟨a4,c4,e4,-⟩:=o6.read
  rw [List.nil_append] at e4 o6
  rw [←hm] at e4
  subst e4
  have HM:Hd (m=D.length):=⟨hm⟩
  clear hm
  refine AnyG.ready (rs:=[6]) (by kernel_rfl) (by simp) ?_
  refine AllG.cons rfl (fun K hK=>?_) AllG.nil
  go_simp
  refine hK.out _ _ ⟨T6,fun _=>trivial⟩ ?_
  clear hK K
  obtain ⟨q1,q2,q3⟩:=two_put P2 P3 f (.slice a4 m c4) ⟨t0,t1,t2,t3,t4⟩
  obtain ⟨q1',q3'⟩:=lane_set P2 f (.slice a4 m c4)
  have P3':=P3.kept q3' (by omega)
  obtain ⟨⟨r0,r1⟩,f0,f1⟩:=P2.lane
  obtain ⟨⟨d0,d1,d2,d3,d4⟩,e0,e1,e2,e3,e4⟩:=P3'.five
  simp only at q1 q2 q3
  refine AnyG.ready (rs:=[11]) (by kernel_rfl) (by simp) ?_
  refine AllG.cons rfl (fun K hK=>?_) AllG.nil
  go_simp
  refine hK.out _ _ ⟨T6.trans (q3'.mono (fun k _ e=>by omega)),fun _=>trivial⟩ ?_
  clear hK K
  refine AnyG.ready (rs:=[12]) (by kernel_rfl) (by simp) ?_
  refine AllG.cons rfl (fun K hK=>?_) AllG.nil
  go_simp
  refine hK.out _ _ ⟨T6.trans (q3.mono (fun k _ e=>by omega)),fun _=>trivial⟩ ?_
  clear hK K
  refine AnyG.ready (rs:=[13]) (by kernel_rfl) (by simp) ?_
  refine AllG.cons rfl (fun K hK=>?_) AllG.nil
  go_simp
  refine hK.out _ _ ⟨T6.trans (q3.mono (fun k _ e=>by omega)),fun _=>trivial⟩ ?_
  clear hK K
  refine AnyG.done (by kernel_rfl) ?_ _
  have HLO:Hd (A≤w4.heap.size):=⟨by omega⟩
  have o8:=o6.kept q3 (fun j hj e=>by omega)
  have b8:=(y5.trans (b6.mono (by omega))).trans (q3.below (B:=A) (by have:=b6.size;omega) (fun k e=>by omega))
  have HR:Hd (_∧_∧_∧_):=⟨q1,q2,o8.lnW (b:=true) (s:=f) (B:=A) HM.out (by have:=HLO.out;omega),b8⟩
  clear q1 q2 q3 q1' q3' P2 P3 P3' r0 r1 f0 f1 d0 d1 d2 d3 d4 e0 e1 e2 e3 e4 o8 b8 R X1 X2 T6
  go_wp2_with fail
  refine bodyPost_ret (resTk11 (t:=⟨t0,t1,t2,t3,t4⟩) _ _ _ _ true rfl rfl rfl HR.out.1 HR.out.2.1) rfl ?_
  exact ⟨⟨_,rfl,by rw [←HA.out];exact HR.out.2.2.1⟩,by rw [←HA.out];exact HR.out.2.2.2⟩
end Go.Proofs.YtlgibnmoogbdcaaGreat
