/-
  Two neighbouring parts that are in order, merged in place, by the library (slices.symMergeCmpFunc).
  A row sorted in place, stably, by the library (slices.stableCmpFunc, slices.SortStableFunc).
-/
import Derived.Test.YtlgibnmoogbdcaaGreatR27
namespace Go.Proofs.YtlgibnmoogbdcaaGreat
open Go.RowKit
structure RtW (g z n a m b h s e:Nat) (L:List Tk) (w wr:World):Prop where
 ex:∃ M,M.length=n∧Rw wr g z M∧Rtd a m b h s e L M
 kept:Kept (fun j=>j=g) w wr
structure HfW (g z n a b h e:Nat) (L:List Tk) (w wr:World):Prop where
 ex:∃ M,M.length=n∧Rw wr g z M∧Hf1 a b h e L M
 kept:Kept (fun j=>j=g) w wr
def SymT (g z n c N:Nat):Prop:=∀ (a m b:Nat) (L:List Tk) (w:World),b - a≤N→a<m→m<b→b≤n→Rw w g z L→L.length=n→Sd a m L→Sd m b L →
  Calls Tryz.prog 96 #[.slice (some ⟨g,0,none⟩) n c,.int .i64 a,.int .i64 m,.int .i64 b,.func (.func 55) #[] #[]] w fun e w'=>e=.returned (.tuple #[])∧OutR g z n a b b L w w'
theorem rotC (g z n a m b h s e c:Nat) (L:List Tk) (w wr:World) (f:Value) (hl:n≤2000) (hb:b≤n) (hn:L.length=n) (hR:Rw wr g z L) (hK:Kept (fun j=>j=g) w wr) (x:Cut a m b h L s e) (d1:Sd a m L) (d2:Sd m b L) (hs:s<m) (he:m<e) :
  Calls Tryz.prog 102 #[.slice (some ⟨g,0,none⟩) n c,.int .i64 s,.int .i64 m,.int .i64 e,f] wr fun r w'=>r=.returned (.tuple #[])∧RtW g z n a m b h s e L w w':=by
 obtain ⟨⟨r1,r2⟩,⟨r3,r4⟩,⟨r5,r6⟩,r7,r8,r9⟩:=x.rng
 obtain ⟨P,U,V,S,rfl,lP,lU,lV⟩:=cut4 (L:=L) (a:=s) (m:=m) (b:=e) (by omega) (by omega) (by omega)
 refine (rot_ok g z s m e n c P U V S f wr hR hn lP (by omega) (by omega) (by omega) (by omega) hl).mono ?_
 rintro r w' ⟨rfl,q1,q2⟩
 have hlen:(P++V++U++S).length=n:=by rw [←hn];simp;omega
 have hrl:Rl s e (P++U++V++S) (P++V++U++S):=by
  have key:=Rl.rot (P:=P) (U:=U) (V:=V) (S:=S) (fun u hu v hv=>by
   obtain ⟨i,hi,rfl⟩:=List.mem_iff_getElem.1 hu
   obtain ⟨j,hj,rfl⟩:=List.mem_iff_getElem.1 hv
   have gi:=gt_get hi
   have gj:=gt_get hj
   rw [List.getElem?_eq_getElem hi] at gi
   rw [List.getElem?_eq_getElem hj] at gj
   injection gi with gi
   injection gj with gj
   rw [gi,gj]
   have k:=x.gr (s+i) (m+j) (by omega) (by omega) (by omega) (by omega)
   have e1:gt (P++U++V++S) (s+i)=gt U i:=by
    rw [gt_app_l (by simp;omega),gt_app_l (by simp;omega),← lP,gt_app_at]
   have e2:gt (P++U++V++S) (m+j)=gt V j:=by
    rw [gt_app_l (by simp;omega),gt_app_r (by simp;omega)]
    congr 1
    simp
    omega
   rw [e1,e2] at k
   omega)
  rw [lP,show s+U.length+V.length=e from by omega] at key
  exact key
 refine ⟨rfl,⟨_,hlen,q1,x.rtd d1 d2 hrl (fun k k1 k2=>?_) (fun k k1 k2=>?_)⟩,hK.trans q2⟩
 ·rw [(rot_at (P:=P) (U:=U) (V:=V) (S:=S) (by omega)).1 (by omega),lU]
 ·rw [(rot_at (P:=P) (U:=U) (V:=V) (S:=S) (by omega)).2 (by omega) (by omega),lV]
set_option maxRecDepth 20000 in
set_option maxHeartbeats 4000000 in
theorem symC_ok (g z n c N a m b:Nat) (L:List Tk) (w:World) (IH:SymT g z n c N) (hN:b - a≤N+1) (ham:a+1<m) (hmb:m+1<b) (hb:b≤n) (hRw:Rw w g z L) (hn:L.length=n) (hl:n≤2000) (d1:Sd a m L) (d2:Sd m b L) :
  Calls Tryz.prog 96 #[.slice (some ⟨g,0,none⟩) n c,.int .i64 a,.int .i64 m,.int .i64 b,.func (.func 55) #[] #[]] w fun e w'=>e=.returned (.tuple #[])∧OutR g z n a b b L w w':=by
 have eg:∀ args w,(callFunc 55 args).run Tryz.prog w=.ok (.enter 55 args) w:=enters_of Tryz.func55 (by kernel_rfl) rfl
 obtain ⟨h,hh⟩:∃ h,h=(a+b) / 2:=⟨_,rfl⟩
 have MD:Mid a m b h:=⟨by omega,by omega,by omega,by omega⟩
 have HMD:Hd (Mid a m b h):=⟨MD⟩
 have HR:Hd (Rw w g z L∧(Sd a m L∧Sd m b L)∧L.length=n):=⟨hRw,⟨d1,d2⟩,hn⟩
 have HIH:Hd (SymT g z n c N):=⟨IH⟩
 obtain ⟨lo,hlo⟩:∃ lo,lo=syLo a m b h:=⟨_,rfl⟩
 obtain ⟨hi,hhi⟩:∃ hi,hi=syHi m h:=⟨_,rfl⟩
 have HSC:Hd (Sch a m b h L lo hi):=⟨by rw [hlo,hhi];exact Sch.start MD L⟩
 have HLO:Hd ((h<m→((h:Int)+(m:Int) - (b:Int)=(lo:Int))∧hi=h)∧(¬ h<m→lo=a∧hi=m)):=⟨fun e=>by
  rw [hlo,hhi];unfold syLo syHi;rw [if_pos e,if_pos e];exact ⟨by omega,rfl⟩,fun e=>by rw [hlo,hhi];unfold syLo syHi;rw [if_neg e,if_neg e];exact ⟨rfl,rfl⟩⟩
 have hrg:a≤lo∧lo≤hi∧hi≤m:=by
  rw [hlo,hhi];exact ⟨MD.rng.1,MD.rng.2.1,MD.rng.2.2.1⟩
 have ea:((a:Int)+(b:Int)) / 2=(h:Int):=by omega
 have hhb:a<h∧h<b:=by omega
 clear MD hRw hn d1 d2 IH hlo hhi hh
 have q1:((m:Int) - (a:Int) == 1)=false:=by simp;omega
 have q2:((b:Int) - (m:Int) == 1)=false:=by simp;omega
 go_enter Tryz.func96,Tryz.ntmps96
 go_upto_if 140 with fail
 go_cut [20,21] (fun s20 s21 wx=>s20=.int .i64 lo∧s21=.int .i64 hi∧wx=w)
 case first =>
  by_cases c:h<m
  ·obtain ⟨e1,e2⟩:=HLO.out.1 c
   have c':(h:Int)<(m:Int):=by omega
   go_wp2_with fail
   go_meet
   exact ⟨by first | rfl | rw [e1],by first | rfl | rw [e2],rfl⟩
  ·obtain ⟨e1,e2⟩:=HLO.out.2 c
   have c':¬ (h:Int)<(m:Int):=by omega
   go_wp2_with fail
   go_meet
   exact ⟨by first | rfl | rw [e1],by first | rfl | rw [e2],rfl⟩
 case rest =>
  obtain ⟨rfl,rfl,hw⟩:=hcut
  obtain rfl:=hw.symm
  clear HLO
  go_wp2_with fail
  go_loopw [20,21,23] (fun vs vr _ wr=>∃ s r:Nat,vs=.int .i64 s∧vr=.int .i64 r∧s≤r∧lo≤s∧r≤hi∧Hd (Sch a m b h L s r)∧Hd (Below w.heap.size w wr)) (fun vs vr _ _=>(intOf vr).toNat - (intOf vs).toNat)
  case atStart=>exact ⟨lo,hi,rfl,rfl,hrg.2.1,Nat.le_refl _,Nat.le_refl _,HSC,⟨Below.refl _ _⟩⟩
  case round =>
   obtain ⟨s,r,rfl,rfl,h1,h2,h3,hS,hB⟩:=hrel
   clear HSC
   by_cases hsr:s<r
   ·as_aux_lemma =>
     obtain ⟨q,hq⟩:∃ q,q=(s+r) / 2:=⟨_,rfl⟩
     have ea2:((s:Int)+(r:Int)) / 2=(q:Int):=by omega
     have hq1:s≤q:=by omega
     have hq2:q<r:=by omega
     clear hq
     obtain ⟨t1,t2,t3,t4,t5⟩:=HMD.out.at (c:=q) (by have:=hS.out.lo;omega) (by have:=hS.out.hi;omega)
     have hRw:=HR.out.1.below hB.out
     have hln:=HR.out.2.2
     obtain ⟨x,hx⟩:∃ x,x=gt L (h+m - 1 - q):=⟨_,rfl⟩
     obtain ⟨y,hy⟩:∃ y,y=gt L q:=⟨_,rfl⟩
     have HX:Hd (x=gt L (h+m - 1 - q)):=⟨hx⟩
     have HY:Hd (y=gt L q):=⟨hy⟩
     clear hx hy
     obtain ⟨p,hp⟩:∃ p,p=h+m - 1 - q:=⟨_,rfl⟩
     obtain ⟨x0,x1,x2,x3,x4⟩:=hRw.at (k:=h+m - 1 - q) (by omega)
     obtain ⟨y0,y1,y2,y3,y4⟩:=hRw.at (k:=q) (by omega)
     rw [←HX.out,← hp] at x0 x1 x2 x3 x4
     rw [←HY.out] at y0 y1 y2 y3 y4
     have C:=cmp_ok x y
     have i1:(q:Int)<(n:Int):=by omega
     have v1:IntKind.i64.wrap ((h:Int)+(m:Int) - 1 - (q:Int))=(p:Int):=by rw [IntKind.wrap_i64] <;> omega
     have i2:(p:Int)<(n:Int):=by omega
     clear hRw hln hp
     by_cases hlt:x.id<y.id
     ·have hc:cmI x.id y.id<0:=(cmI_neg _ _).2 hlt
      have HZ:Hd (Sch a m b h L s q):=⟨hS.out.down HMD.out HR.out.2.1.1 HR.out.2.1.2 hq1 hq2 (by rw [←HX.out,← HY.out];exact hlt)⟩
      clear hlt hS HX HY
      generalize cmI x.id y.id=cv at *
      go_wp2_with fail
      refine region_tail 11 (by kernel_rfl) ?_
      simp only [List.take_succ_cons,List.take_zero,List.drop_succ_cons,List.drop_zero]
      repeat still_step
      refine wpStill_nil ?_
      go_wp2_with (go_at_fn 55;refine (C _).mono ?_;rintro e w2 ⟨rfl,b2⟩)
      go_roundw
      case rel=>exact ⟨s,q,rfl,rfl,hq1,h2,by omega,HZ,⟨hB.out.trans ((⟨b2.os,b2.tape,b2.output,b2.size,b2.block⟩:Below wr.heap.size wr w2).mono hB.out.size)⟩⟩
      case measure=>simp [intOf];omega
     ·have hc:¬ cmI x.id y.id<0:=fun h=>hlt ((cmI_neg _ _).1 h)
      have hc2:0≤cmI x.id y.id:=by omega
      have hd:decide (cmI x.id y.id<0)=false:=decide_eq_false hc
      have HZ:Hd (Sch a m b h L (q+1) r):=⟨hS.out.up HMD.out HR.out.2.1.1 HR.out.2.1.2 hq1 hq2 (by rw [←HX.out,← HY.out];exact hlt)⟩
      clear hlt hS HX HY
      generalize cmI x.id y.id=cv at *
      go_wp2_with fail
      refine region_tail 11 (by kernel_rfl) ?_
      simp only [List.take_succ_cons,List.take_zero,List.drop_succ_cons,List.drop_zero]
      repeat still_step
      refine wpStill_nil ?_
      go_wp2_with (go_at_fn 55;refine (C _).mono ?_;rintro e w2 ⟨rfl,b2⟩)
      go_roundw
      case rel=>exact ⟨q+1,r,by go_num,rfl,by omega,by omega,h3,HZ,⟨hB.out.trans ((⟨b2.os,b2.tape,b2.output,b2.size,b2.block⟩:Below wr.heap.size wr w2).mono hB.out.size)⟩⟩
      case measure=>simp [intOf];omega
   ·as_aux_lemma =>
     obtain rfl:s=r:=by omega
     obtain ⟨e,he⟩:∃ e,e=h+m - s:=⟨_,rfl⟩
     have CU:=hS.out.cut HMD.out HR.out.2.1.1 HR.out.2.1.2
     rw [←he] at CU
     have HC:Hd (Cut a m b h L s e):=⟨CU⟩
     obtain ⟨⟨g1,g2⟩,⟨g3,g4⟩,⟨g5,g6⟩,g7,g8,g9⟩:=CU.rng
     have ee:(h:Int)+(m:Int) - (s:Int)=(e:Int):=by omega
     have hRw:Hd (Rw wr g z L∧Kept (fun j=>j=g) w wr):=⟨HR.out.1.below hB.out,Kept.of_below hB.out _⟩
     clear hS CU he hB
     go_upto_region 39 with fail
     go_cut [185] (fun sv wx=>∃ t:Bool,sv=.bool t∧Hd (t=true ↔ s<m∧m<e)∧wx=wr)
     case first =>
      by_cases c1:s<m
      ·have i1:(s:Int)<(m:Int):=by omega
       by_cases c2:m<e
       ·have i2:(m:Int)<(e:Int):=by omega
        go_wp2_with fail
        go_meet
        exact ⟨true,rfl,⟨⟨fun _=>⟨c1,c2⟩,fun _=>rfl⟩⟩,rfl⟩
       ·have i2:¬ (m:Int)<(e:Int):=by omega
        go_wp2_with fail
        go_meet
        exact ⟨false,rfl,⟨⟨fun h=>(by cases h),fun h=>absurd h.2 c2⟩⟩,rfl⟩
      ·have i1:¬ (s:Int)<(m:Int):=by omega
       go_wp2_with fail
       go_meet
       exact ⟨false,rfl,⟨⟨fun h=>(by cases h),fun h=>absurd h.1 c1⟩⟩,rfl⟩
     case rest =>
      as_aux_lemma =>
       obtain ⟨t,rfl,ht,hw⟩:=hcut
       rw [←hw] at hRw
       clear hw
       go_upto_if 185 with fail
       go_cut [] (fun wx=>Hd (RtW g z n a m b h s e L w wx))
       case first =>
        cases t with
        | true =>
         obtain ⟨c1,c2⟩:=ht.out.1 rfl
         have C:=rotC g z n a m b h s e c L w _ (.func (.func 55) #[] #[]) hl hb HR.out.2.2 hRw.out.1 hRw.out.2 HC.out HR.out.2.1.1 HR.out.2.1.2 c1 c2
         go_wp2_with (go_at_call 102;refine C.mono ?_;rintro e w2 ⟨rfl,r2⟩)
         go_meet
         exact ⟨r2⟩
        | false =>
         have c2:¬ (s<m∧m<e):=fun k=>by have:=ht.out.2 k;cases this
         have HZ:Hd (RtW g z n a m b h s e L w _):=⟨⟨L,HR.out.2.2,hRw.out.1,HC.out.none HR.out.2.1.1 HR.out.2.1.2 c2⟩,hRw.out.2⟩
         go_wp2_with fail
         go_meet
         exact HZ
       case rest =>
        have hcut2:Hd (RtW g z n a m b h s e L w wc):=hcut
        clear hcut ht hRw
        go_upto_region 41 with fail
        obtain ⟨w5,hw5⟩:∃ w5,w5=wc:=⟨_,rfl⟩
        rw [←hw5] at hcut2 ⊢
        clear hw5
        go_cut [199] (fun sv wx=>∃ t:Bool,sv=.bool t∧Hd (t=true ↔ a<s∧s<h)∧wx=w5)
        case first =>
         by_cases c1:a<s
         ·have i1:(a:Int)<(s:Int):=by omega
          by_cases c2:s<h
          ·have i2:(s:Int)<(h:Int):=by omega
           go_wp2_with fail
           go_meet
           exact ⟨true,rfl,⟨⟨fun _=>⟨c1,c2⟩,fun _=>rfl⟩⟩,rfl⟩
          ·have i2:¬ (s:Int)<(h:Int):=by omega
           go_wp2_with fail
           go_meet
           exact ⟨false,rfl,⟨⟨fun h=>(by cases h),fun h=>absurd h.2 c2⟩⟩,rfl⟩
         ·have i1:¬ (a:Int)<(s:Int):=by omega
          go_wp2_with fail
          go_meet
          exact ⟨false,rfl,⟨⟨fun h=>(by cases h),fun h=>absurd h.1 c1⟩⟩,rfl⟩
        case rest =>
         as_aux_lemma =>
          obtain ⟨t,rfl,ht,hw⟩:=hcut
          rw [←hw] at hcut2
          clear hw
          go_upto_if 199 with fail
          go_cut [] (fun wx=>Hd (HfW g z n a b h e L w wx))
          case first =>
           obtain ⟨⟨M,hM,hMr,hMx⟩,hMk⟩:=hcut2.out
           cases t with
           | true =>
            obtain ⟨c1,c2⟩:=ht.out.1 rfl
            have C:=HIH.out a s h M _ (by omega) c1 c2 (by omega) hMr hM hMx.s1 hMx.s2
            have HZ:Hd (∀ W,OutR g z n a h h M _ W→HfW g z n a b h e L w W):=⟨fun W o=>by
             obtain ⟨⟨M2,o1,o2,o3,o4⟩,o5⟩:=o
             exact ⟨⟨M2,o1,o2,hMx.half (by omega) g6 o3 o4⟩,hMk.trans o5⟩⟩
            clear hcut2 hMr hMx hMk hM ht
            go_wp2_with (go_at_call 96;refine C.mono ?_;rintro e w2 ⟨rfl,r2⟩)
            go_meet
            exact ⟨HZ.out _ r2⟩
           | false =>
            have c2:¬ (a<s∧s<h):=fun k=>by have:=ht.out.2 k;cases this
            have HZ:Hd (HfW g z n a b h e L w _):=⟨⟨M,hM,hMr,hMx.half0 g1 g5 c2⟩,hMk⟩
            clear hcut2 hMr hMx hMk hM ht
            go_wp2_with fail
            go_meet
            exact HZ
          case rest =>
           as_aux_lemma =>
            have hcut3:Hd (HfW g z n a b h e L w wc):=hcut
            clear hcut hcut2 ht
            obtain ⟨⟨M,hM,hMr,hMx⟩,hMk⟩:=hcut3.out
            clear hcut3
            by_cases c1:h<e
            ·have i1:(h:Int)<(e:Int):=by omega
             by_cases c2:e<b
             ·have i2:(e:Int)<(b:Int):=by omega
              have C:=HIH.out h e b M _ (by omega) c1 c2 (by omega) hMr hM hMx.s3 hMx.s4
              have HZ:Hd (∀ W,OutR g z n h b b M _ W→OutR g z n a b b L w W):=⟨fun W o=>by
               obtain ⟨⟨M2,o1,o2,o3,o4⟩,o5⟩:=o
               have k:=hMx.all (by omega) o3 o4
               exact ⟨⟨M2,o1,o2,k.1,k.2⟩,hMk.trans o5⟩⟩
              clear hMr hMx hMk hM
              go_wp2_with (go_at_call 96;refine C.mono ?_;rintro e w2 ⟨rfl,r2⟩)
              go_end0
              exact ⟨rfl,HZ.out _ r2⟩
             ·have k:=hMx.all0 g6 g4 (fun k=>c2 k.2)
              have HZ:Hd (OutR g z n a b b L w _):=⟨⟨M,hM,hMr,k.1,k.2⟩,hMk⟩
              have i2:¬ (e:Int)<(b:Int):=by omega
              clear hMr hMx hMk hM k
              go_wp2_with fail
              go_end0
              exact ⟨rfl,HZ.out⟩
            ·have k:=hMx.all0 g6 g4 (fun k=>c1 k.1)
             have HZ:Hd (OutR g z n a b b L w _):=⟨⟨M,hM,hMr,k.1,k.2⟩,hMk⟩
             have i1:¬ (h:Int)<(e:Int):=by omega
             clear hMr hMx hMk hM k
             go_wp2_with fail
             go_end0
             exact ⟨rfl,HZ.out⟩
theorem sym_ok (g z n c:Nat) (hl:n≤2000):∀ N,SymT g z n c N
 | 0=>fun a m b L w h1 h2 h3=>by omega
 | N+1=>fun a m b L w h1 h2 h3 h4 h5 h6 h7 h8=>by
  by_cases c1:m=a+1
  ·subst c1
   exact symA_ok g z a b n c L w h5 h6 h3 h4 hl h8
  ·by_cases c2:b=m+1
   ·subst c2
    exact symB_ok g z a m n c L w h5 h6 (by omega) (by omega) hl h7
   ·exact symC_ok g z n c N a m b L w (sym_ok g z n c hl N) h1 (by omega) (by omega) h4 h5 h6 hl h7 h8
def Blks (bs t:Nat) (M:List Tk):Prop:=∀ j,Sd (j*bs) (min (j*bs+bs) t) M
theorem mul_next {j k bs:Nat} (h:j<k):j*bs+bs≤k*bs:=by
 rw [←Nat.succ_mul]
 exact Nat.mul_le_mul_right _ h
theorem Blks.put {bs a t k:Nat} {M N:List Tk} (h:Blks bs a M) (ha:a=k*bs) (ht:t≤a+bs) (hta:a≤t) (r:Rl a t M N) (s:Sd a t N):Blks bs t N:=fun j=>by
 rcases Nat.lt_trichotomy j k with c | rfl | c
 ·have e:=mul_next (bs:=bs) c
  rw [←ha] at e
  have k1:=r.sd (h j) (.inl (by omega))
  rw [Nat.min_eq_left (by omega)] at k1
  rw [Nat.min_eq_left (by omega)]
  exact k1
 ·rw [←ha,Nat.min_eq_right ht]
  exact s
 ·have e:=mul_next (bs:=bs) c
  rw [←ha] at e
  exact Sd.none (by omega)
structure Ph (bs a:Nat) (M:List Tk):Prop where
 mul:∃ k,a=k*bs
 blks:Blks bs a M
theorem Ph.start (bs:Nat) (M:List Tk):Ph bs 0 M:=⟨⟨0,by rw [Nat.zero_mul]⟩,fun j=>Sd.none (by omega)⟩
theorem Ph.step {bs a:Nat} {M N:List Tk} (h:Ph bs a M) (r:Rl a (a+bs) M N) (s:Sd a (a+bs) N):Ph bs (a+bs) N:=by
 obtain ⟨⟨k,hk⟩,hb⟩:=h
 exact ⟨⟨k+1,by rw [Nat.succ_mul,hk]⟩,hb.put hk (Nat.le_refl _) (Nat.le_add_right _ _) r s⟩
theorem Ph.last {bs a n:Nat} {M N:List Tk} (h:Ph bs a M) (h1:a≤n) (h2:n<a+bs) (r:Rl a n M N) (s:Sd a n N):Blks bs n N:=by
 obtain ⟨⟨k,hk⟩,hb⟩:=h
 exact hb.put hk (by omega) h1 r s
structure Mg (bs a n:Nat) (M:List Tk):Prop where
 mul:∃ k,a=k*(2*bs)
 blks:Blks (2*bs) a M
 old:∀ i,a≤i*bs→Sd (i*bs) (min (i*bs+bs) n) M
theorem Mg.start {bs n:Nat} {M:List Tk} (h:Blks bs n M):Mg bs 0 n M:=⟨⟨0,by rw [Nat.zero_mul]⟩,fun j=>Sd.none (by omega),fun i _=>h i⟩
theorem Mg.one {bs a n:Nat} {M:List Tk} (h:Mg bs a n M):Sd a (min (a+bs) n) M:=by
 obtain ⟨⟨k,hk⟩,-,ho⟩:=h
 have e:(2*k)*bs=a:=by rw [hk,Nat.mul_comm 2 k,Nat.mul_assoc]
 have:=ho (2*k) (by omega)
 rw [e] at this
 exact this
theorem Mg.two {bs a n:Nat} {M:List Tk} (h:Mg bs a n M):Sd (a+bs) (min (a+bs+bs) n) M:=by
 obtain ⟨⟨k,hk⟩,-,ho⟩:=h
 have e:(2*k+1)*bs=a+bs:=by rw [Nat.succ_mul,hk,Nat.mul_comm 2 k,Nat.mul_assoc]
 have:=ho (2*k+1) (by omega)
 rw [e] at this
 exact this
theorem Mg.step {bs a n:Nat} {M N:List Tk} (h:Mg bs a n M) (hb:0<bs) (r:Rl a (a+2*bs) M N) (s:Sd a (a+2*bs) N):Mg bs (a+2*bs) n N:=by
 obtain ⟨⟨k,hk⟩,hbk,ho⟩:=h
 exact ⟨⟨k+1,by rw [Nat.succ_mul k,hk]⟩,hbk.put hk (Nat.le_refl _) (Nat.le_add_right _ _) r s,fun i hi=>r.sd (ho i (by omega)) (.inr hi)⟩
theorem Mg.last {bs a n:Nat} {M N:List Tk} (h:Mg bs a n M) (h1:a≤n) (h2:n<a+2*bs) (r:Rl a n M N) (s:Sd a n N):Blks (2*bs) n N:=by
 obtain ⟨⟨k,hk⟩,hbk,-⟩:=h
 exact hbk.put hk (by omega) h1 r s
theorem Blks.all {bs n:Nat} {M:List Tk} (h:Blks bs n M) (hn:n≤bs):Sd 0 n M:=by
 have:=h 0
 rw [Nat.zero_mul,Nat.zero_add,Nat.min_eq_right hn] at this
 exact this
structure StP (g z n a:Nat) (L:List Tk) (w wr:World):Prop where
 ex:∃ M,M.length=n∧Rw wr g z M∧Rl 0 n L M∧Ph 20 a M
 kept:Kept (fun j=>j=g) w wr
structure StB (g z n bs:Nat) (L:List Tk) (w wr:World):Prop where
 ex:∃ M,M.length=n∧Rw wr g z M∧Rl 0 n L M∧Blks bs n M
 kept:Kept (fun j=>j=g) w wr
structure StM (g z n bs a:Nat) (L:List Tk) (w wr:World):Prop where
 ex:∃ M,M.length=n∧Rw wr g z M∧Rl 0 n L M∧Mg bs a n M
 kept:Kept (fun j=>j=g) w wr
set_option maxRecDepth 20000 in
set_option maxHeartbeats 2000000 in
theorem stable_ok (g z n c:Nat) (L:List Tk) (w:World) (h:Rw w g z L) (hn:L.length=n) (hl:n≤2000) :
  Calls Tryz.prog 83 #[.slice (some ⟨g,0,none⟩) n c,.int .i64 n,.func (.func 55) #[] #[]] w fun e w'=>e=.returned (.tuple #[])∧OutR g z n 0 n n L w w':=by
 have H0:Hd (StP g z n 0 L w w):=⟨⟨L,hn,h,Rl.refl _ _ _,Ph.start _ _⟩,Kept.refl _ _⟩
 clear h hn
 go_enter Tryz.func83,Tryz.ntmps83
 go_wp2_with fail
 go_loopw [7,8] (fun va vb wr=>∃ a:Nat,va=.int .i64 a∧vb=.int .i64 ((a+20:Nat):Int)∧a≤n∧Hd (StP g z n a L w wr)) (fun va _ _=>n+20 - (intOf va).toNat)
 case atStart=>exact ⟨0,rfl,rfl,Nat.zero_le _,H0⟩
 case round =>
  obtain ⟨a,rfl,rfl,ha,hP⟩:=hrel
  clear H0
  obtain ⟨⟨M,hM,hR,hL,hX⟩,hK⟩:=hP.out
  obtain ⟨b,hb⟩:∃ b,b=a+20:=⟨_,rfl⟩
  rw [←hb]
  by_cases hbn:b≤n
  ·have C:=ins_ok g z a b n c M wr hR hM (by omega) hbn hl
   have HZ:Hd (∀ W,OutR g z n a b b M wr W→StP g z n b L w W):=⟨fun W o=>by
    obtain ⟨⟨M2,o1,o2,o3,o4⟩,o5⟩:=o
    rw [hb] at o3 o4 ⊢
    exact ⟨⟨M2,o1,o2,hL.trans (o3.wide (Nat.zero_le _) (by omega)),hX.step o3 o4⟩,hK.trans o5⟩⟩
   have HB:Hd (b=a+20):=⟨hb⟩
   have hba:a<b:=by omega
   clear hP hR hL hX hK hM hb
   go_wp2_with (go_at_call 95;refine C.mono ?_;rintro e w2 ⟨rfl,r2⟩)
   go_roundw
   case rel=>exact ⟨b,rfl,by go_num,hbn,⟨HZ.out _ r2⟩⟩
   case measure=>simp [intOf];omega
  ·have C:=ins_ok g z a n n c M wr hR hM ha (Nat.le_refl _) hl
   have HZ:Hd (∀ W,OutR g z n a n n M wr W→StB g z n 20 L w W):=⟨fun W o=>by
    obtain ⟨⟨M2,o1,o2,o3,o4⟩,o5⟩:=o
    exact ⟨⟨M2,o1,o2,hL.trans (o3.wide (Nat.zero_le _) (Nat.le_refl _)),hX.last ha (by omega) o3 o4⟩,hK.trans o5⟩⟩
   clear hP hR hL hX hK hM hb
   go_wp2_with (go_at_call 95;refine C.mono ?_;rintro e w2 ⟨rfl,r2⟩)
   have HB:Hd (StB g z n 20 L w w2):=⟨HZ.out _ r2⟩
   clear HZ r2 C
   go_loopw [6,7,8,9] (fun vs _ _ _ wr=>∃ bs:Nat,vs=.int .i64 bs∧20≤bs∧bs≤2*n+20∧Hd (StB g z n bs L w wr)) (fun vs _ _ _ _=>n - (intOf vs).toNat)
   case atStart=>exact ⟨20,rfl,Nat.le_refl _,by omega,HB⟩
   case round =>
    obtain ⟨bs,rfl,h1,h2,hB⟩:=hrel
    clear HB
    by_cases hbs:bs<n
    ·have HM:Hd (StM g z n bs 0 L w wr):=by
      obtain ⟨⟨M,o1,o2,o3,o4⟩,o5⟩:=hB.out
      exact ⟨⟨M,o1,o2,o3,Mg.start o4⟩,o5⟩
     clear hB
     go_wp2_with fail
     go_loopw [7,8] (fun va vb wr=>∃ a:Nat,va=.int .i64 a∧vb=.int .i64 ((a+2*bs:Nat):Int)∧a≤n∧Hd (StM g z n bs a L w wr)) (fun va _ _=>n+2*bs - (intOf va).toNat)
     case atStart=>exact ⟨0,rfl,by go_num,Nat.zero_le _,HM⟩
     case round =>
      obtain ⟨a,rfl,rfl,ha,hP⟩:=hrel
      clear HM
      obtain ⟨⟨M,hM,hR,hL,hX⟩,hK⟩:=hP.out
      obtain ⟨b,hb⟩:∃ b,b=a+2*bs:=⟨_,rfl⟩
      rw [←hb]
      have hba:a<b:=by omega
      by_cases hbn:b≤n
      ·have s1:=hX.one
       have s2:=hX.two
       rw [Nat.min_eq_left (by omega)] at s1 s2
       have C:=sym_ok g z n c hl _ a (a+bs) (a+bs+bs) M wr (Nat.le_refl _) (by omega) (by omega) (by omega) hR hM s1 s2
       rw [show a+bs+bs=b from by omega] at C
       have C':Calls Tryz.prog 96 #[.slice (some ⟨g,0,none⟩) n c,.int .i64 a,.int .i64 ((a:Int)+(bs:Int)),.int .i64 b,.func (.func 55) #[] #[]] wr fun e w'=>e=.returned (.tuple #[])∧OutR g z n a b b M wr w':=by
        rw [←Int.natCast_add];exact C
       have HZ:Hd (∀ W,OutR g z n a b b M wr W→StM g z n bs b L w W):=⟨fun W o=>by
        obtain ⟨⟨M2,o1,o2,o3,o4⟩,o5⟩:=o
        rw [hb] at o3 o4 ⊢
        exact ⟨⟨M2,o1,o2,hL.trans (o3.wide (Nat.zero_le _) (by omega)),hX.step (by omega) o3 o4⟩,hK.trans o5⟩⟩
       have HB2:Hd (b=a+2*bs):=⟨hb⟩
       clear hP hR hL hX hK hM hb s1 s2 C
       go_wp2_with (go_at_call 96;refine C'.mono ?_;rintro e w2 ⟨rfl,r2⟩)
       go_roundw
       case rel=>exact ⟨b,rfl,by go_num,hbn,⟨HZ.out _ r2⟩⟩
       case measure=>simp [intOf];omega
      ·by_cases hm:a+bs<n
       ·have s1:=hX.one
        have s2:=hX.two
        rw [Nat.min_eq_left (by omega)] at s1
        rw [Nat.min_eq_right (by omega)] at s2
        have C:=sym_ok g z n c hl _ a (a+bs) n M wr (Nat.le_refl _) (by omega) hm (Nat.le_refl _) hR hM s1 s2
        have C':Calls Tryz.prog 96 #[.slice (some ⟨g,0,none⟩) n c,.int .i64 a,.int .i64 ((a:Int)+(bs:Int)),.int .i64 n,.func (.func 55) #[] #[]] wr fun e w'=>e=.returned (.tuple #[])∧OutR g z n a n n M wr w':=by
         rw [←Int.natCast_add];exact C
        have HZ:Hd (∀ W,OutR g z n a n n M wr W→StB g z n (2*bs) L w W):=⟨fun W o=>by
         obtain ⟨⟨M2,o1,o2,o3,o4⟩,o5⟩:=o
         exact ⟨⟨M2,o1,o2,hL.trans (o3.wide (Nat.zero_le _) (Nat.le_refl _)),hX.last ha (by omega) o3 o4⟩,hK.trans o5⟩⟩
        have hm':(a:Int)+(bs:Int)<(n:Int):=by omega
        clear hP hR hL hX hK hM hb s1 s2 C
        go_wp2_with (go_at_call 96;refine C'.mono ?_;rintro e w2 ⟨rfl,r2⟩)
        go_roundw
        case rel=>exact ⟨2*bs,by go_num,by omega,by omega,⟨HZ.out _ r2⟩⟩
        case measure=>simp [intOf];omega
       ·have s1:=hX.one
        rw [Nat.min_eq_right (by omega)] at s1
        have HZ:Hd (StB g z n (2*bs) L w wr):=⟨⟨M,hM,hR,hL,hX.last ha (by omega) (Rl.refl _ _ _) s1⟩,hK⟩
        have hm':¬ (a:Int)+(bs:Int)<(n:Int):=by omega
        clear hP hR hL hX hK hM hb s1
        go_wp2_with fail
        go_roundw
        case rel=>exact ⟨2*bs,by go_num,by omega,by omega,HZ⟩
        case measure=>simp [intOf];omega
    ·have HZ:Hd (OutR g z n 0 n n L w wr):=by
      obtain ⟨⟨M,o1,o2,o3,o4⟩,o5⟩:=hB.out
      exact ⟨⟨M,o1,o2,o3,o4.all (by omega)⟩,o5⟩
     clear hB
     go_wp2_with fail
     go_end0
     exact ⟨rfl,HZ.out⟩
theorem sort_ok (g z n c:Nat) (L:List Tk) (w:World) (h:Rw w g z L) (hn:L.length=n) (hl:n≤2000) :
  Calls Tryz.prog 54 #[.slice (some ⟨g,0,none⟩) n c,.func (.func 55) #[] #[]] w fun e w'=>e=.returned (.tuple #[])∧Rw w' g z (srt L)∧Kept (fun j=>j=g) w w':=by
 have C:=stable_ok g z n c L w h hn hl
 have HZ:Hd (∀ W,OutR g z n 0 n n L w W→Rw W g z (srt L)∧Kept (fun j=>j=g) w W):=⟨fun W o=>by
  obtain ⟨⟨M,o1,o2,o3,o4⟩,o5⟩:=o
  subst hn
  rw [←sorted_is o3 o4]
  exact ⟨o2,o5⟩⟩
 clear h hn
 go_enter Tryz.func54,Tryz.ntmps54
 go_wp2_with (go_at_call 83;refine C.mono ?_;rintro e w2 ⟨rfl,r2⟩)
 go_end0
 exact ⟨rfl,HZ.out _ r2⟩
end Go.Proofs.YtlgibnmoogbdcaaGreat
