/-
  Two lanes that hold the same are the same to the reference.
-/
import Derived.Test.YtlgibnmoogbdcaaGreatR8
namespace Go.Proofs.YtlgibnmoogbdcaaGreat
open Go.RowKit
set_option maxRecDepth 20000 in
set_option maxHeartbeats 1000000 in
theorem same22_ok (r g nn o:Int) (a b:Option Addr) (c d:Nat) (F:List Ln) (w:World) (h1:LsR w a c F) (h2:LsR w b d F) (hf:Few F) :
  Calls Tryz.prog 37 #[.agg #[.int .u64 r,.int .i64 g,.int .i64 nn,.int .i64 o,.slice a F.length c],.agg #[.int .u64 r,.int .i64 g,.int .i64 nn,.int .i64 o,.slice b F.length d]] w fun e w'=>e=.returned (.bool true)∧Below w.heap.size w w':=by
 obtain ⟨w2,hw2⟩:∃ w2,w2=(w.alloc (.cells #[.int .u64 r,.int .i64 g,.int .i64 nn,.int .i64 o,.slice a F.length c] 31)).alloc (.cells #[.int .u64 r,.int .i64 g,.int .i64 nn,.int .i64 o,.slice b F.length d] 31):=⟨_,rfl⟩
 have BX:=boxes w 31 31 #[.int .u64 r,.int .i64 g,.int .i64 nn,.int .i64 o,.slice a F.length c] #[.int .u64 r,.int .i64 g,.int .i64 nn,.int .i64 o,.slice b F.length d]
 rw [←hw2] at BX
 obtain ⟨B,N1,N2⟩:=BX
 have H:Hd (LsR w2 a c F∧LsR w2 b d F∧Below w.heap.size w w2):=⟨h1.carry B,h2.carry B,B⟩
 have HF:Hd (Few F):=⟨hf⟩
 have hl:=hf.len
 obtain ⟨⟨x0,x1,x2,x3,x4⟩,-⟩:=Blk.fair N1
 obtain ⟨⟨y0,y1,y2,y3,y4⟩,-⟩:=Blk.fair N2
 obtain ⟨n,hn⟩:∃ n,F.length=n:=⟨_,rfl⟩
 have HL:Hd (F.length=n):=⟨hn⟩
 have HN:Hd (Blk w2 w.heap.size 31 (faA r g nn o (.slice a n c))∧Blk w2 (w.heap.size+1) 31 (faA r g nn o (.slice b n d))):=⟨by rw [←hn];exact N1,by rw [←hn];exact N2⟩
 rw [hn] at hl hw2 x4 y4 ⊢
 clear hn N1 N2 B h1 h2 hf
 go_enter Tryz.func37,Tryz.ntmps37
 go_upto_region 1 with fail
 rw [←hw2]
 clear hw2
 obtain ⟨A,hA⟩:∃ A,A=w.heap.size:=⟨_,rfl⟩
 rw [←hA] at HN x0 x1 x2 x3 x4 y0 y1 y2 y3 y4 ⊢
 clear hA
 go_wp2
 clear x0 x1 x2 x3 x4 y0 y1 y2 y3 y4
 go_loopw [5] (fun i wr=>∃ k:Nat,k≤n∧i=.int .i64 k∧Below w2.heap.size w2 wr) (fun i _=>n - (intOf i).toNat)
 case atStart=>exact ⟨0,Nat.zero_le _,rfl,Below.refl _ _⟩
 case round =>
  obtain ⟨k,hk,rfl,p3⟩:=hrel
  obtain ⟨⟨-,-,-,-,x4⟩,-⟩:=Blk.fair (HN.out.1.kept (Kept.of_below p3 (fun _=>False)) id)
  obtain ⟨⟨-,-,-,-,y4⟩,-⟩:=Blk.fair (HN.out.2.kept (Kept.of_below p3 (fun _=>False)) id)
  by_cases hlt:k<n
  ·obtain ⟨b1,o1,a1,c1,rfl,hb1,d0,d1,s1⟩:=(H.out.1.carry p3).at (k:=k) (by rw [HL.out];exact hlt)
   obtain ⟨b2,o2,a2,c2,rfl,hb2,e0,e1,s2⟩:=(H.out.2.1.carry p3).at (k:=k) (by rw [HL.out];exact hlt)
   have P:Hd (Below w2.heap.size w2 wr):=⟨p3⟩
   have hm:=(HF.out.at k).2
   have W:Hd (∀ W,Below wr.heap.size wr W→Calls Tryz.prog 70 #[.agg #[.int .u64 (gl F k).s,.slice a1 (gl F k).L.length c1],.agg #[.int .u64 (gl F k).s,.slice a2 (gl F k).L.length c2]] W fun e w'=>e=.returned (.bool true)∧Below W.heap.size W w'):=⟨fun W q=>samel_ok _ _ _ _ _ _ W (s1.carry q).2.2 (s2.carry q).2.2 (by omega)⟩
   have BW:Hd (Below wr.heap.size wr wr.drew):=⟨(Below.refl _ _).drew⟩
   clear p3 s1 s2
   generalize (gl F k).L.length=m at *
   generalize (gl F k).s=z at *
   go_upto_region 6 with fail
   refine region_tail 10 (by kernel_rfl) ?_
   simp only [List.take_succ_cons,List.take_zero,List.drop_succ_cons,List.drop_zero]
   repeat still_step
   refine wpStill_nil ?_
   go_wp2_with (go_at_call 70;refine (W.out _ BW.out).mono ?_;rintro e w4 ⟨rfl,b4⟩)
   go_roundw
   case rel=>exact ⟨k+1,by omega,by go_num,P.out.trans ((BW.out.trans b4).mono P.out.size)⟩
   case measure=>simp [intOf];omega
  ·obtain rfl:k=n:=by omega
   go_wp2
   go_ret
   exact ⟨rfl,H.out.2.2.trans (p3.mono H.out.2.2.size)⟩
end Go.Proofs.YtlgibnmoogbdcaaGreat
