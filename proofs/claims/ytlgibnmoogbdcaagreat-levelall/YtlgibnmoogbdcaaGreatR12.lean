/-
  New lanes, by the program and by the reference.
  Somebody joins a lane of a hand, by the program and by the reference.
  Somebody joins a lane of a hand, by the reference.
-/
import Derived.Test.YtlgibnmoogbdcaaGreatR9
import Derived.Test.YtlgibnmoogbdcaaGreatR11
import Derived.Test.YtlgibnmoogbdcaaGreatR6
import Derived.Test.YtlgibnmoogbdcaaGreatR10
namespace Go.Proofs.YtlgibnmoogbdcaaGreat
open Go.RowKit
theorem resFn12 (tmps:Array Value) (w:World) (b:Nat) {r g n o:Int} {a:Option Addr} {l c:Nat} (x:Value) (ht:tmps[6]?.getD undef=.pointer (some ⟨b,0,none⟩)) (hx:tmps[7]?.getD undef=x) (h:Blk w b 31 (faA r g n o (.slice a l c))) :
  (results Tryz.f38 tmps).run Tryz.prog w=.ok (.tuple #[.agg #[.int .u64 r,.int .i64 g,.int .i64 n,.int .i64 o,.slice a l c],x]) w:=by
 obtain ⟨⟨c0,c1,c2,c3,c4⟩,-⟩:=h.fair
 simp [results,Tryz.results38,go_sem,ht,hx,c0,c1,c2,c3,c4]
theorem resFn13 (tmps:Array Value) (w:World) (b:Nat) {r g n o:Int} {a:Option Addr} {l c:Nat} (x:Value) (ht:tmps[6]?.getD undef=.pointer (some ⟨b,0,none⟩)) (hx:tmps[7]?.getD undef=x) (h:Blk w b 31 (faA r g n o (.slice a l c))) :
  (results Tryz.f39 tmps).run Tryz.prog w=.ok (.tuple #[.agg #[.int .u64 r,.int .i64 g,.int .i64 n,.int .i64 o,.slice a l c],x]) w:=by
 obtain ⟨⟨c0,c1,c2,c3,c4⟩,-⟩:=h.fair
 simp [results,Tryz.results39,go_sem,ht,hx,c0,c1,c2,c3,c4]
abbrev faZ:Value:=.agg #[.int .u64 0,.int .i64 0,.int .i64 0,.int .i64 0,.slice none 0 0]
set_option maxRecDepth 20000 in
set_option maxHeartbeats 1000000 in
theorem wrong_ok (o g n:Int) (w:World):Calls Tryz.prog 72 #[.int .i64 o,.int .i64 g,.int .i64 n] w fun e w'=>e=.returned (.bool (decide (¬ Good o g n)))∧w'=w:=by
 by_cases h1:o<1
 ·have e:Hd (decide (¬ Good o g n)=true):=⟨decide_eq_true (fun h=>by obtain ⟨⟨a1,a2⟩,⟨a3,a4⟩,a5,a6⟩:=h;omega)⟩
  generalize decide (¬ Good o g n)=b at *
  go_enter Tryz.func72,Tryz.ntmps72
  go_wp2
  go_ret
  exact ⟨by rw [e.out];rfl,rfl⟩
 ·skip
  by_cases h2:64<o
  ·have e:Hd (decide (¬ Good o g n)=true):=⟨decide_eq_true (fun h=>by obtain ⟨⟨a1,a2⟩,⟨a3,a4⟩,a5,a6⟩:=h;omega)⟩
   generalize decide (¬ Good o g n)=b at *
   go_enter Tryz.func72,Tryz.ntmps72
   go_wp2
   go_ret
   exact ⟨by rw [e.out];rfl,rfl⟩
  ·skip
   by_cases h3:g<1
   ·have e:Hd (decide (¬ Good o g n)=true):=⟨decide_eq_true (fun h=>by obtain ⟨⟨a1,a2⟩,⟨a3,a4⟩,a5,a6⟩:=h;omega)⟩
    generalize decide (¬ Good o g n)=b at *
    go_enter Tryz.func72,Tryz.ntmps72
    go_wp2
    go_ret
    exact ⟨by rw [e.out];rfl,rfl⟩
   ·skip
    by_cases h4:1000<g
    ·have e:Hd (decide (¬ Good o g n)=true):=⟨decide_eq_true (fun h=>by obtain ⟨⟨a1,a2⟩,⟨a3,a4⟩,a5,a6⟩:=h;omega)⟩
     generalize decide (¬ Good o g n)=b at *
     go_enter Tryz.func72,Tryz.ntmps72
     go_wp2
     go_ret
     exact ⟨by rw [e.out];rfl,rfl⟩
    ·skip
     by_cases h5:n<1
     ·have e:Hd (decide (¬ Good o g n)=true):=⟨decide_eq_true (fun h=>by obtain ⟨⟨a1,a2⟩,⟨a3,a4⟩,a5,a6⟩:=h;omega)⟩
      generalize decide (¬ Good o g n)=b at *
      go_enter Tryz.func72,Tryz.ntmps72
      go_wp2
      go_ret
      exact ⟨by rw [e.out];rfl,rfl⟩
     ·skip
      by_cases h6:64<n
      ·have e:Hd (decide (¬ Good o g n)=true):=⟨decide_eq_true (fun h=>by obtain ⟨⟨a1,a2⟩,⟨a3,a4⟩,a5,a6⟩:=h;omega)⟩
       generalize decide (¬ Good o g n)=b at *
       go_enter Tryz.func72,Tryz.ntmps72
       go_wp2
       go_ret
       exact ⟨by rw [e.out];rfl,rfl⟩
      ·have e:Hd (decide (¬ Good o g n)=false):=⟨decide_eq_false (fun h=>h ⟨⟨by omega,by omega⟩,⟨by omega,by omega⟩,by omega,by omega⟩)⟩
       generalize decide (¬ Good o g n)=b at *
       go_enter Tryz.func72,Tryz.ntmps72
       go_wp2
       go_ret
       exact ⟨by rw [e.out];rfl,rfl⟩
set_option maxRecDepth 20000 in
set_option maxHeartbeats 1000000 in
theorem new_no (o g n:Int) (w:World) (h:¬ Good o g n):Calls Tryz.prog 38 #[.int .i64 o,.int .i64 g,.int .i64 n] w fun e w'=>e=.returned (.tuple #[faZ,.int .i64 1])∧Below w.heap.size w w':=by
 obtain ⟨w1,hw1⟩:∃ w1,w1=w.alloc (.cells #[.int .u64 0,.int .i64 0,.int .i64 0,.int .i64 0,.slice none 0 0] 31):=⟨_,rfl⟩
 have N1:Blk w1 w.heap.size 31 (faA 0 0 0 0 (.slice none 0 0)):=by rw [hw1];exact Blk.new _ _ _
 have B1:Below w.heap.size w w1:=by rw [hw1];exact alloc_below _ _
 have C1:Hd (∀ w,Calls Tryz.prog 71 #[.int .i64 o,.int .i64 64] w fun e w'=>e=.returned (.bool (decide (1≤o∧o≤64)))∧w'=w):=⟨within_ok o 64⟩
 have C2:Hd (∀ w,Calls Tryz.prog 71 #[.int .i64 g,.int .i64 1000] w fun e w'=>e=.returned (.bool (decide (1≤g∧g≤1000)))∧w'=w):=⟨within_ok g 1000⟩
 have C3:Hd (∀ w,Calls Tryz.prog 71 #[.int .i64 n,.int .i64 64] w fun e w'=>e=.returned (.bool (decide (1≤n∧n≤64)))∧w'=w):=⟨within_ok n 64⟩
 obtain ⟨q1,k1⟩:=fair_set N1 0 0 0 0 (.slice none 0 0)
 obtain ⟨⟨y0,y1,y2,y3,y4⟩,yf0,yf1,yf2,yf3,yf4⟩:=N1.fair
 have HE:Hd (_∧_):=⟨q1,B1.trans (k1.below B1.size (fun j e=>by omega))⟩
 clear N1 B1 q1 k1
 by_cases h1:1≤o∧o≤64
 ·rw [decide_eq_true h1] at C1
  by_cases h2:1≤g∧g≤1000
  ·rw [decide_eq_true h2] at C2
   have h3:¬ (1≤n∧n≤64):=fun h3=>h ⟨h1,h2,h3⟩
   rw [decide_eq_false h3] at C3
   clear h h1 h2 h3
   go_enter Tryz.func38,Tryz.ntmps38
   go_upto_region 1 with fail
   rw [←hw1]
   clear hw1
   go_wp2_with fail
   go_at_call 71
   refine (C1.out _).mono ?_
   rintro e w4 ⟨rfl,rfl⟩
   go_wp2_with fail
   go_at_call 71
   refine (C2.out _).mono ?_
   rintro e w4 ⟨rfl,rfl⟩
   go_wp2_with fail
   go_at_call 71
   refine (C3.out _).mono ?_
   rintro e w4 ⟨rfl,rfl⟩
   go_wp2_with fail
   refine bodyPost_ret (resFn12 _ _ _ (.int .i64 1) rfl rfl HE.out.1) rfl ?_
   exact ⟨rfl,HE.out.2⟩
  ·rw [decide_eq_false h2] at C2
   clear h h1 h2 C3
   go_enter Tryz.func38,Tryz.ntmps38
   go_upto_region 1 with fail
   rw [←hw1]
   clear hw1
   go_wp2_with fail
   go_at_call 71
   refine (C1.out _).mono ?_
   rintro e w4 ⟨rfl,rfl⟩
   go_wp2_with fail
   go_at_call 71
   refine (C2.out _).mono ?_
   rintro e w4 ⟨rfl,rfl⟩
   go_wp2_with fail
   refine bodyPost_ret (resFn12 _ _ _ (.int .i64 1) rfl rfl HE.out.1) rfl ?_
   exact ⟨rfl,HE.out.2⟩
 ·rw [decide_eq_false h1] at C1
  clear h h1 C2 C3
  go_enter Tryz.func38,Tryz.ntmps38
  go_upto_region 1 with fail
  rw [←hw1]
  clear hw1
  go_wp2_with fail
  go_at_call 71
  refine (C1.out _).mono ?_
  rintro e w4 ⟨rfl,rfl⟩
  go_wp2_with fail
  refine bodyPost_ret (resFn12 _ _ _ (.int .i64 1) rfl rfl HE.out.1) rfl ?_
  exact ⟨rfl,HE.out.2⟩
set_option maxRecDepth 20000 in
set_option maxHeartbeats 1000000 in
theorem new_yes (m:Nat) (g n:Int) (w:World) (h:Good m g n):Calls Tryz.prog 38 #[.int .i64 m,.int .i64 g,.int .i64 n] w fun e w'=>(∃ v,e=.returned (.tuple #[v,.int .i64 0])∧FaO w' w.heap.size 0 g n m (nwF m) v)∧Below w.heap.size w w':=by
 obtain ⟨i0,hi,hz0,hz1,hz2⟩:=info_parts Tryz.info62
 obtain ⟨o,ho⟩:∃ o:Int,o=m:=⟨_,rfl⟩
 have HO:Hd (o=m):=⟨ho⟩
 rw [←ho] at h
 obtain ⟨w1,hw1⟩:∃ w1,w1=w.alloc (.cells #[.int .u64 0,.int .i64 0,.int .i64 0,.int .i64 0,.slice none 0 0] 31):=⟨_,rfl⟩
 have N1:Blk w1 w.heap.size 31 (faA 0 0 0 0 (.slice none 0 0)):=by rw [hw1];exact Blk.new _ _ _
 have B1:Below w.heap.size w w1:=by rw [hw1];exact alloc_below _ _
 have C1:Hd (∀ w,Calls Tryz.prog 71 #[.int .i64 o,.int .i64 64] w fun e w'=>e=.returned (.bool (decide (1≤o∧o≤64)))∧w'=w):=⟨within_ok o 64⟩
 have C2:Hd (∀ w,Calls Tryz.prog 71 #[.int .i64 g,.int .i64 1000] w fun e w'=>e=.returned (.bool (decide (1≤g∧g≤1000)))∧w'=w):=⟨within_ok g 1000⟩
 have C3:Hd (∀ w,Calls Tryz.prog 71 #[.int .i64 n,.int .i64 64] w fun e w'=>e=.returned (.bool (decide (1≤n∧n≤64)))∧w'=w):=⟨within_ok n 64⟩
 obtain ⟨h1,h2,h3⟩:=h
 rw [decide_eq_true h1] at C1
 rw [decide_eq_true h2] at C2
 rw [decide_eq_true h3] at C3
 rw [HO.out] at C1 h1
 have hm:m≤64:=by omega
 have HN:Hd (Blk w1 w.heap.size 31 (faA 0 0 0 0 (.slice none 0 0))∧Below w.heap.size w w1):=⟨N1,B1⟩
 have hs1:=B1.size
 clear ho HO N1 B1 h1 h2 h3
 go_enter Tryz.func38,Tryz.ntmps38
 go_upto_region 1 with fail
 rw [←hw1]
 clear hw1
 go_wp2_with fail
 go_at_call 71
 refine (C1.out _).mono ?_
 rintro e w4 ⟨rfl,rfl⟩
 go_wp2_with fail
 go_at_call 71
 refine (C2.out _).mono ?_
 rintro e w5 ⟨rfl,rfl⟩
 go_wp2_with fail
 go_at_call 71
 refine (C3.out _).mono ?_
 rintro e w6 ⟨rfl,rfl⟩
 go_wp2_with (at_make;refine wpList_make_full _ rfl (.tmp 25) (.tmp 25) 29 rfl w.heap.size 62 i0 (.agg #[.int .u64 0,.slice none 0 0]) 2 Tryz.underlying29 hi hz0 hz1 _ _ _ _ m rfl rfl rfl rfl (by rw [hz2];omega) (by unfold maxLen;omega) hs1 ?_;intro w3 hown3 hgrow3;have OM:=OwL.made hown3;have b3:=HN.out.2.grown hgrow3 hs1 (by simp);have NR:=HN.out.1.kept (Kept.of_grown (S:=fun _=>False) hgrow3 (fun k e=>by cases e)) id;obtain ⟨⟨y0,y1,y2,y3,y4⟩,yf0,yf1,yf2,yf3,yf4⟩:=NR.fair;obtain ⟨q1,k1⟩:=fair_set NR 0 g n m (.slice (some ⟨w6.heap.size,0,none⟩) m m);have HE:Hd (_∧_∧_):=⟨q1,OM.other NR k1,b3.trans (k1.below b3.size (fun j e=>by omega))⟩;clear OM b3 NR q1 k1 hown3 hgrow3)
 refine bodyPost_ret (resFn12 _ _ _ (.int .i64 0) rfl rfl HE.out.1) rfl ?_
 exact ⟨⟨_,rfl,_,rfl,HE.out.2.1⟩,HE.out.2.2⟩
set_option maxRecDepth 20000 in
set_option maxHeartbeats 1000000 in
theorem rnew_no (o g n:Int) (w:World) (h:¬ Good o g n):Calls Tryz.prog 39 #[.int .i64 o,.int .i64 g,.int .i64 n] w fun e w'=>e=.returned (.tuple #[faZ,.int .i64 1])∧Below w.heap.size w w':=by
 obtain ⟨w1,hw1⟩:∃ w1,w1=w.alloc (.cells #[.int .u64 0,.int .i64 0,.int .i64 0,.int .i64 0,.slice none 0 0] 31):=⟨_,rfl⟩
 have N1:Blk w1 w.heap.size 31 (faA 0 0 0 0 (.slice none 0 0)):=by rw [hw1];exact Blk.new _ _ _
 have B1:Below w.heap.size w w1:=by rw [hw1];exact alloc_below _ _
 obtain ⟨q1,k1⟩:=fair_set N1 0 0 0 0 (.slice none 0 0)
 obtain ⟨⟨y0,y1,y2,y3,y4⟩,yf0,yf1,yf2,yf3,yf4⟩:=N1.fair
 have HE:Hd (_∧_):=⟨q1,B1.trans (k1.below B1.size (fun j e=>by omega))⟩
 have WR:=wrong_ok o g n w1
 rw [decide_eq_true h] at WR
 clear N1 B1 q1 k1 h
 go_enter Tryz.func39,Tryz.ntmps39
 go_upto_region 1 with fail
 rw [←hw1]
 clear hw1
 go_wp2_with fail
 go_at_call 72
 refine WR.mono ?_
 rintro e w4 ⟨rfl,rfl⟩
 go_wp2_with fail
 refine bodyPost_ret (resFn13 _ _ _ (.int .i64 1) rfl rfl HE.out.1) rfl ?_
 exact ⟨rfl,HE.out.2⟩
set_option maxRecDepth 20000 in
set_option maxHeartbeats 1000000 in
theorem rnew_yes (m:Nat) (g n:Int) (w:World) (h:Good m g n):Calls Tryz.prog 39 #[.int .i64 m,.int .i64 g,.int .i64 n] w fun e w'=>(∃ v,e=.returned (.tuple #[v,.int .i64 0])∧FaO w' w.heap.size 0 g n m (nwF m) v)∧Below w.heap.size w w':=by
 obtain ⟨i0,hi,hz0,hz1,hz2⟩:=info_parts Tryz.info62
 obtain ⟨w1,hw1⟩:∃ w1,w1=w.alloc (.cells #[.int .u64 0,.int .i64 0,.int .i64 0,.int .i64 0,.slice none 0 0] 31):=⟨_,rfl⟩
 have N1:Blk w1 w.heap.size 31 (faA 0 0 0 0 (.slice none 0 0)):=by rw [hw1];exact Blk.new _ _ _
 have B1:Below w.heap.size w w1:=by rw [hw1];exact alloc_below _ _
 have WR:=wrong_ok m g n w1
 rw [decide_eq_false (fun x=>x h)] at WR
 have hm:m≤64:=by have:=h.1;omega
 have HN:Hd (Blk w1 w.heap.size 31 (faA 0 0 0 0 (.slice none 0 0))∧Below w.heap.size w w1):=⟨N1,B1⟩
 have hs1:=B1.size
 clear N1 B1 h
 go_enter Tryz.func39,Tryz.ntmps39
 go_upto_region 1 with fail
 rw [←hw1]
 clear hw1
 go_wp2_with fail
 go_at_call 72
 refine WR.mono ?_
 rintro e w6 ⟨rfl,rfl⟩
 clear WR
 go_wp2_with (at_make;refine wpList_make_full _ rfl (.tmp 16) (.tmp 16) 29 rfl w.heap.size 62 i0 (.agg #[.int .u64 0,.slice none 0 0]) 2 Tryz.underlying29 hi hz0 hz1 _ _ _ _ m rfl rfl rfl rfl (by rw [hz2];omega) (by unfold maxLen;omega) hs1 ?_;intro w3 hown3 hgrow3;have OM:=OwL.made hown3;have b3:=HN.out.2.grown hgrow3 hs1 (by simp);have NR:=HN.out.1.kept (Kept.of_grown (S:=fun _=>False) hgrow3 (fun k e=>by cases e)) id;obtain ⟨⟨y0,y1,y2,y3,y4⟩,yf0,yf1,yf2,yf3,yf4⟩:=NR.fair;obtain ⟨q1,k1⟩:=fair_set NR 0 g n m (.slice (some ⟨w6.heap.size,0,none⟩) m m);have HE:Hd (_∧_∧_):=⟨q1,OM.other NR k1,b3.trans (k1.below b3.size (fun j e=>by omega))⟩;clear OM b3 NR q1 k1 hown3 hgrow3)
 refine bodyPost_ret (resFn13 _ _ _ (.int .i64 0) rfl rfl HE.out.1) rfl ?_
 exact ⟨⟨_,rfl,_,rfl,HE.out.2.1⟩,HE.out.2.2⟩
theorem resFj19 (tmps:Array Value) (w:World) (b:Nat) {r g n o:Int} {a:Option Addr} {l c:Nat} (x y:Value) (ht:tmps[6]?.getD undef=.pointer (some ⟨b,0,none⟩)) (hx:tmps[7]?.getD undef=x) (hy:tmps[8]?.getD undef=y) (h:Blk w b 31 (faA r g n o (.slice a l c))) :
  (results Tryz.f65 tmps).run Tryz.prog w=.ok (.tuple #[.agg #[.int .u64 r,.int .i64 g,.int .i64 n,.int .i64 o,.slice a l c],x,y]) w:=by
 obtain ⟨⟨c0,c1,c2,c3,c4⟩,-⟩:=h.fair
 simp [results,Tryz.results65,go_sem,ht,hx,hy,c0,c1,c2,c3,c4]
theorem resFj20 (tmps:Array Value) (w:World) (b:Nat) {r g n o:Int} {a:Option Addr} {l c:Nat} (x y:Value) (ht:tmps[6]?.getD undef=.pointer (some ⟨b,0,none⟩)) (hx:tmps[7]?.getD undef=x) (hy:tmps[8]?.getD undef=y) (h:Blk w b 31 (faA r g n o (.slice a l c))) :
  (results Tryz.f36 tmps).run Tryz.prog w=.ok (.tuple #[.agg #[.int .u64 r,.int .i64 g,.int .i64 n,.int .i64 o,.slice a l c],x,y]) w:=by
 obtain ⟨⟨c0,c1,c2,c3,c4⟩,-⟩:=h.fair
 simp [results,Tryz.results36,go_sem,ht,hx,hy,c0,c1,c2,c3,c4]
theorem OwL.blk {w:World} {B:Nat} {v:Value} {F:List Ln} (h:OwL w B v F) (hn:0<F.length):∃ q c,v=.slice (some ⟨q,0,none⟩) F.length c∧B≤q∧q<w.heap.size:=by
 obtain ⟨Z,-,ho,-⟩:=h
 rcases id ho.2 with ⟨-,e⟩ | ⟨g,cap,cur,rfl,hb,-⟩
 ·omega
 ·exact ⟨g,cap,rfl,hb,(ho.lt g rfl).2⟩
set_option maxRecDepth 20000 in
set_option maxHeartbeats 1000000 in
theorem fjoin_none (r g nn o:Int) (a:Option Addr) (c:Nat) (F:List Ln) (ah:Option Addr) (nh ch:Nat) (H0:Nat→Int) (t:Tk) (w:World) (h:LsR w a c F) (hf:Few F) (hh:HnR w ah nh H0) (hnh:nh≤1000) (hc:chF F o H0 nh=-1) :
  Calls Tryz.prog 65 #[.agg #[.int .u64 r,.int .i64 g,.int .i64 nn,.int .i64 o,.slice a F.length c],.slice ah nh ch,.agg #[.int .i64 t.id,.int .i64 t.wid,.int .i64 t.sts,.int .i64 t.sin,.int .i64 t.unt]] w fun e w'=>e=.returned (.tuple #[faZ,.int .i64 0,.int .i64 6])∧Below w.heap.size w w':=by
 obtain ⟨w2,hw2⟩:∃ w2,w2=((w.alloc (.cells #[.int .u64 r,.int .i64 g,.int .i64 nn,.int .i64 o,.slice a F.length c] 31)).alloc (.cells #[.int .i64 t.id,.int .i64 t.wid,.int .i64 t.sts,.int .i64 t.sin,.int .i64 t.unt] 36)).alloc (.cells #[.int .u64 0,.int .i64 0,.int .i64 0,.int .i64 0,.slice none 0 0] 31):=⟨_,rfl⟩
 have BX:=boxes3 w 31 36 31 #[.int .u64 r,.int .i64 g,.int .i64 nn,.int .i64 o,.slice a F.length c] #[.int .i64 t.id,.int .i64 t.wid,.int .i64 t.sts,.int .i64 t.sin,.int .i64 t.unt] #[.int .u64 0,.int .i64 0,.int .i64 0,.int .i64 0,.slice none 0 0]
 rw [←hw2] at BX
 obtain ⟨B,N1,N2,N3⟩:=BX
 have HF:Hd (Few F):=⟨hf⟩
 have HW:Hd (LsR w a c F):=⟨h⟩
 have hlen:=hf.len
 have CHO:=choose_ok r g nn o a c F ah nh ch H0 w2 (h.carry B) hf (hh.carry B) hnh
 rw [hc] at CHO
 obtain ⟨n,hn⟩:∃ n,F.length=n:=⟨_,rfl⟩
 have HL:Hd (F.length=n):=⟨hn⟩
 have HN:Hd (LsR w2 a c F∧Below w.heap.size w w2∧Blk w2 w.heap.size 31 (faA r g nn o (.slice a n c))∧Blk w2 (w.heap.size+1) 36 (tkA t)∧Blk w2 (w.heap.size+1+1) 31 (faA 0 0 0 0 (.slice none 0 0))):=⟨h.carry B,B,by rw [←hn];exact N1,N2,N3⟩
 have hs:=N3.lt
 obtain ⟨⟨x0,x1,x2,x3,x4⟩,-⟩:=Blk.fair N1
 rw [hn] at hlen hw2 x4 CHO ⊢
 clear hn B N1 N2 N3 h hf hh hnh
 obtain ⟨t0,t1,t2,t3,t4⟩:=t
 simp only [tkA] at hw2 HN ⊢
 go_enter Tryz.func65,Tryz.ntmps65
 go_upto_region 1 with fail
 rw [←hw2]
 clear hw2
 obtain ⟨A,hA⟩:∃ A,A=w.heap.size:=⟨_,rfl⟩
 have HA:Hd (A=w.heap.size):=⟨hA⟩
 rw [←hA] at HN hs x0 x1 x2 x3 x4 ⊢
 clear hA
 go_wp2_with fail
 go_at_call 87
 refine CHO.mono ?_
 rintro e w3 ⟨rfl,b3⟩
 clear CHO x0 x1 x2 x3 x4
 have hs3:=b3.size
 have H3:Hd (LsR w3 a c F∧Below A w w3∧Blk w3 A 31 (faA r g nn o (.slice a n c))∧Blk w3 (A+1) 36 #[.int .i64 t0,.int .i64 t1,.int .i64 t2,.int .i64 t3,.int .i64 t4]∧Blk w3 (A+1+1) 31 (faA 0 0 0 0 (.slice none 0 0))) :=
  ⟨HN.out.1.carry b3,HN.out.2.1.trans (b3.mono (show A≤w2.heap.size by omega)),HN.out.2.2.1.kept (Kept.of_below b3 (fun _=>False)) id,HN.out.2.2.2.1.kept (Kept.of_below b3 (fun _=>False)) id,HN.out.2.2.2.2.kept (Kept.of_below b3 (fun _=>False)) id⟩
 clear HN b3
 have NR:=H3.out.2.2.2.2
 have BW:=H3.out.2.1
 obtain ⟨⟨y0,y1,y2,y3,y4⟩,yf0,yf1,yf2,yf3,yf4⟩:=NR.fair
 obtain ⟨q2,k2⟩:=fair_set NR 0 0 0 0 (.slice none 0 0)
 have HE:Hd (_∧_):=⟨q2,BW.trans (k2.below (B:=A) (by have:=NR.lt;omega) (fun j e=>by omega))⟩
 clear NR BW q2 k2 H3
 go_wp2_with fail
 refine bodyPost_ret (resFj19 _ _ _ (.int .i64 0) (.int .i64 6) rfl rfl rfl HE.out.1) rfl ?_
 exact ⟨rfl,by rw [←HA.out];exact HE.out.2⟩
set_option maxRecDepth 20000 in
set_option maxHeartbeats 1000000 in
theorem fjoin_full (r g nn o:Int) (a:Option Addr) (c:Nat) (F:List Ln) (ah:Option Addr) (nh ch:Nat) (H0:Nat→Int) (t:Tk) (w:World) (h:LsR w a c F) (hf:Few F) (hh:HnR w ah nh H0) (hnh:nh≤1000) (k:Nat) (hk:k<F.length) (hc:chF F o H0 nh=k) (hfull:nn≤((gl F k).L.length:Int)) :
  Calls Tryz.prog 65 #[.agg #[.int .u64 r,.int .i64 g,.int .i64 nn,.int .i64 o,.slice a F.length c],.slice ah nh ch,.agg #[.int .i64 t.id,.int .i64 t.wid,.int .i64 t.sts,.int .i64 t.sin,.int .i64 t.unt]] w fun e w'=>e=.returned (.tuple #[faZ,.int .i64 0,.int .i64 7])∧Below w.heap.size w w':=by
 obtain ⟨w2,hw2⟩:∃ w2,w2=((w.alloc (.cells #[.int .u64 r,.int .i64 g,.int .i64 nn,.int .i64 o,.slice a F.length c] 31)).alloc (.cells #[.int .i64 t.id,.int .i64 t.wid,.int .i64 t.sts,.int .i64 t.sin,.int .i64 t.unt] 36)).alloc (.cells #[.int .u64 0,.int .i64 0,.int .i64 0,.int .i64 0,.slice none 0 0] 31):=⟨_,rfl⟩
 have BX:=boxes3 w 31 36 31 #[.int .u64 r,.int .i64 g,.int .i64 nn,.int .i64 o,.slice a F.length c] #[.int .i64 t.id,.int .i64 t.wid,.int .i64 t.sts,.int .i64 t.sin,.int .i64 t.unt] #[.int .u64 0,.int .i64 0,.int .i64 0,.int .i64 0,.slice none 0 0]
 rw [←hw2] at BX
 obtain ⟨B,N1,N2,N3⟩:=BX
 have HF:Hd (Few F):=⟨hf⟩
 have HW:Hd (LsR w a c F):=⟨h⟩
 have hlen:=hf.len
 have CHO:=choose_ok r g nn o a c F ah nh ch H0 w2 (h.carry B) hf (hh.carry B) hnh
 rw [hc] at CHO
 obtain ⟨n,hn⟩:∃ n,F.length=n:=⟨_,rfl⟩
 have HL:Hd (F.length=n):=⟨hn⟩
 have HN:Hd (LsR w2 a c F∧Below w.heap.size w w2∧Blk w2 w.heap.size 31 (faA r g nn o (.slice a n c))∧Blk w2 (w.heap.size+1) 36 (tkA t)∧Blk w2 (w.heap.size+1+1) 31 (faA 0 0 0 0 (.slice none 0 0))):=⟨h.carry B,B,by rw [←hn];exact N1,N2,N3⟩
 have hs:=N3.lt
 obtain ⟨⟨x0,x1,x2,x3,x4⟩,-⟩:=Blk.fair N1
 rw [hn] at hlen hw2 x4 CHO ⊢
 clear hn B N1 N2 N3 h hf hh hnh
 obtain ⟨t0,t1,t2,t3,t4⟩:=t
 simp only [tkA] at hw2 HN ⊢
 go_enter Tryz.func65,Tryz.ntmps65
 go_upto_region 1 with fail
 rw [←hw2]
 clear hw2
 obtain ⟨A,hA⟩:∃ A,A=w.heap.size:=⟨_,rfl⟩
 have HA:Hd (A=w.heap.size):=⟨hA⟩
 rw [←hA] at HN hs x0 x1 x2 x3 x4 ⊢
 clear hA
 go_wp2_with fail
 go_at_call 87
 refine CHO.mono ?_
 rintro e w3 ⟨rfl,b3⟩
 clear CHO x0 x1 x2 x3 x4
 have hs3:=b3.size
 have H3:Hd (LsR w3 a c F∧Below A w w3∧Blk w3 A 31 (faA r g nn o (.slice a n c))∧Blk w3 (A+1) 36 #[.int .i64 t0,.int .i64 t1,.int .i64 t2,.int .i64 t3,.int .i64 t4]∧Blk w3 (A+1+1) 31 (faA 0 0 0 0 (.slice none 0 0))) :=
  ⟨HN.out.1.carry b3,HN.out.2.1.trans (b3.mono (show A≤w2.heap.size by omega)),HN.out.2.2.1.kept (Kept.of_below b3 (fun _=>False)) id,HN.out.2.2.2.1.kept (Kept.of_below b3 (fun _=>False)) id,HN.out.2.2.2.2.kept (Kept.of_below b3 (fun _=>False)) id⟩
 clear HN b3
 have hk0:(0:Int)≤(k:Int):=by omega
 have hkn:k<n:=by have:=HL.out;omega
 obtain ⟨b1,o1,a1,c1,rfl,hb1,d0,d1,s1⟩:=H3.out.1.at (k:=k) hk
 have hbA:b1<A:=by
  obtain ⟨b',o',a',c',e',hb',-⟩:=HW.out.at hk
  injection e' with e'
  injection e' with e1 e2
  rw [HA.out,e1]
  exact hb'
 have B4:Below w3.heap.size w3 w3.drew:=(Below.refl _ _).drew
 have K4:Kept (fun _=>False) w3 w3.drew:=Kept.of_below B4 _
 have e0:=(World.cell?_of_block (K4.block b1 hb1 id)).trans d0
 have e1:=(World.cell?_of_block (K4.block b1 hb1 id)).trans d1
 have H4:Hd (LsR w3.drew (some ⟨b1,o1,none⟩) c F∧Below A w w3.drew∧Blk w3.drew A 31 (faA r g nn o (.slice (some ⟨b1,o1,none⟩) n c))∧Blk w3.drew (A+1) 36 #[.int .i64 t0,.int .i64 t1,.int .i64 t2,.int .i64 t3,.int .i64 t4]∧Blk w3.drew (A+1+1) 31 (faA 0 0 0 0 (.slice none 0 0))∧SlR w3.drew a1 c1 (gl F k).L∧b1<w3.drew.heap.size) :=
  ⟨H3.out.1.carry B4,H3.out.2.1.drew,H3.out.2.2.1.kept K4 id,H3.out.2.2.2.1.kept K4 id,H3.out.2.2.2.2.kept K4 id,s1.carry B4,Nat.lt_of_lt_of_le hb1 B4.size⟩
 have hs4:w3.heap.size≤w3.drew.heap.size:=B4.size
 obtain ⟨⟨x0,x1,x2,x3,x4⟩,-⟩:=H4.out.2.2.1.fair
 have HK:=HF.out.at k
 clear H3 B4 K4 d0 d1 s1 hb1
 go_upto_region 4 with fail
 refine region_tail 9 (by kernel_rfl) ?_
 simp only [List.take_succ_cons,List.take_zero,List.drop_succ_cons,List.drop_zero]
 generalize w3.drew=w4 at *
 generalize (gl F k).L.length=m at *
 repeat still_step
 refine wpStill_nil ?_
 have NR:=H4.out.2.2.2.2.1
 have BW:=H4.out.2.1
 clear x0 x1 x2 x3 x4 e0 e1
 obtain ⟨⟨y0,y1,y2,y3,y4⟩,yf0,yf1,yf2,yf3,yf4⟩:=NR.fair
 obtain ⟨q2,k2⟩:=fair_set NR 0 0 0 0 (.slice none 0 0)
 have HE:Hd (_∧_):=⟨q2,BW.trans (k2.below (B:=A) (by have:=NR.lt;omega) (fun j e=>by omega))⟩
 clear NR BW q2 k2 H4
 go_wp2_with fail
 refine bodyPost_ret (resFj19 _ _ _ (.int .i64 0) (.int .i64 7) rfl rfl rfl HE.out.1) rfl ?_
 exact ⟨rfl,by rw [←HA.out];exact HE.out.2⟩
set_option maxRecDepth 20000 in
set_option maxHeartbeats 1000000 in
theorem rfjoin_none (r g nn o:Int) (a:Option Addr) (c:Nat) (F:List Ln) (ah:Option Addr) (nh ch:Nat) (H0:Nat→Int) (t:Tk) (w:World) (h:LsR w a c F) (hf:Few F) (hh:HnR w ah nh H0) (hnh:nh≤1000) (hc:chF F o H0 nh=-1) :
  Calls Tryz.prog 36 #[.agg #[.int .u64 r,.int .i64 g,.int .i64 nn,.int .i64 o,.slice a F.length c],.slice ah nh ch,.agg #[.int .i64 t.id,.int .i64 t.wid,.int .i64 t.sts,.int .i64 t.sin,.int .i64 t.unt]] w fun e w'=>e=.returned (.tuple #[faZ,.int .i64 0,.int .i64 6])∧Below w.heap.size w w':=by
 obtain ⟨w2,hw2⟩:∃ w2,w2=((w.alloc (.cells #[.int .u64 r,.int .i64 g,.int .i64 nn,.int .i64 o,.slice a F.length c] 31)).alloc (.cells #[.int .i64 t.id,.int .i64 t.wid,.int .i64 t.sts,.int .i64 t.sin,.int .i64 t.unt] 36)).alloc (.cells #[.int .u64 0,.int .i64 0,.int .i64 0,.int .i64 0,.slice none 0 0] 31):=⟨_,rfl⟩
 have BX:=boxes3 w 31 36 31 #[.int .u64 r,.int .i64 g,.int .i64 nn,.int .i64 o,.slice a F.length c] #[.int .i64 t.id,.int .i64 t.wid,.int .i64 t.sts,.int .i64 t.sin,.int .i64 t.unt] #[.int .u64 0,.int .i64 0,.int .i64 0,.int .i64 0,.slice none 0 0]
 rw [←hw2] at BX
 obtain ⟨B,N1,N2,N3⟩:=BX
 have HF:Hd (Few F):=⟨hf⟩
 have HW:Hd (LsR w a c F):=⟨h⟩
 have hlen:=hf.len
 have CHO:=rchoose_ok r g nn o a c F ah nh ch H0 w2 (h.carry B) hf (hh.carry B) hnh
 rw [hc] at CHO
 obtain ⟨n,hn⟩:∃ n,F.length=n:=⟨_,rfl⟩
 have HL:Hd (F.length=n):=⟨hn⟩
 have HN:Hd (LsR w2 a c F∧Below w.heap.size w w2∧Blk w2 w.heap.size 31 (faA r g nn o (.slice a n c))∧Blk w2 (w.heap.size+1) 36 (tkA t)∧Blk w2 (w.heap.size+1+1) 31 (faA 0 0 0 0 (.slice none 0 0))):=⟨h.carry B,B,by rw [←hn];exact N1,N2,N3⟩
 have hs:=N3.lt
 obtain ⟨⟨x0,x1,x2,x3,x4⟩,-⟩:=Blk.fair N1
 rw [hn] at hlen hw2 x4 CHO ⊢
 clear hn B N1 N2 N3 h hf hh hnh
 obtain ⟨t0,t1,t2,t3,t4⟩:=t
 simp only [tkA] at hw2 HN ⊢
 go_enter Tryz.func36,Tryz.ntmps36
 go_upto_region 1 with fail
 rw [←hw2]
 clear hw2
 obtain ⟨A,hA⟩:∃ A,A=w.heap.size:=⟨_,rfl⟩
 have HA:Hd (A=w.heap.size):=⟨hA⟩
 rw [←hA] at HN hs x0 x1 x2 x3 x4 ⊢
 clear hA
 go_wp2_with fail
 go_at_call 68
 refine CHO.mono ?_
 rintro e w3 ⟨rfl,b3⟩
 clear CHO x0 x1 x2 x3 x4
 have hs3:=b3.size
 have H3:Hd (LsR w3 a c F∧Below A w w3∧Blk w3 A 31 (faA r g nn o (.slice a n c))∧Blk w3 (A+1) 36 #[.int .i64 t0,.int .i64 t1,.int .i64 t2,.int .i64 t3,.int .i64 t4]∧Blk w3 (A+1+1) 31 (faA 0 0 0 0 (.slice none 0 0))) :=
  ⟨HN.out.1.carry b3,HN.out.2.1.trans (b3.mono (show A≤w2.heap.size by omega)),HN.out.2.2.1.kept (Kept.of_below b3 (fun _=>False)) id,HN.out.2.2.2.1.kept (Kept.of_below b3 (fun _=>False)) id,HN.out.2.2.2.2.kept (Kept.of_below b3 (fun _=>False)) id⟩
 clear HN b3
 have NR:=H3.out.2.2.2.2
 have BW:=H3.out.2.1
 obtain ⟨⟨y0,y1,y2,y3,y4⟩,yf0,yf1,yf2,yf3,yf4⟩:=NR.fair
 obtain ⟨q2,k2⟩:=fair_set NR 0 0 0 0 (.slice none 0 0)
 have HE:Hd (_∧_):=⟨q2,BW.trans (k2.below (B:=A) (by have:=NR.lt;omega) (fun j e=>by omega))⟩
 clear NR BW q2 k2 H3
 go_wp2_with fail
 refine bodyPost_ret (resFj20 _ _ _ (.int .i64 0) (.int .i64 6) rfl rfl rfl HE.out.1) rfl ?_
 exact ⟨rfl,by rw [←HA.out];exact HE.out.2⟩
set_option maxRecDepth 20000 in
set_option maxHeartbeats 1000000 in
theorem rfjoin_full (r g nn o:Int) (a:Option Addr) (c:Nat) (F:List Ln) (ah:Option Addr) (nh ch:Nat) (H0:Nat→Int) (t:Tk) (w:World) (h:LsR w a c F) (hf:Few F) (hh:HnR w ah nh H0) (hnh:nh≤1000) (k:Nat) (hk:k<F.length) (hc:chF F o H0 nh=k) (hfull:nn≤((gl F k).L.length:Int)) :
  Calls Tryz.prog 36 #[.agg #[.int .u64 r,.int .i64 g,.int .i64 nn,.int .i64 o,.slice a F.length c],.slice ah nh ch,.agg #[.int .i64 t.id,.int .i64 t.wid,.int .i64 t.sts,.int .i64 t.sin,.int .i64 t.unt]] w fun e w'=>e=.returned (.tuple #[faZ,.int .i64 0,.int .i64 7])∧Below w.heap.size w w':=by
 obtain ⟨w2,hw2⟩:∃ w2,w2=((w.alloc (.cells #[.int .u64 r,.int .i64 g,.int .i64 nn,.int .i64 o,.slice a F.length c] 31)).alloc (.cells #[.int .i64 t.id,.int .i64 t.wid,.int .i64 t.sts,.int .i64 t.sin,.int .i64 t.unt] 36)).alloc (.cells #[.int .u64 0,.int .i64 0,.int .i64 0,.int .i64 0,.slice none 0 0] 31):=⟨_,rfl⟩
 have BX:=boxes3 w 31 36 31 #[.int .u64 r,.int .i64 g,.int .i64 nn,.int .i64 o,.slice a F.length c] #[.int .i64 t.id,.int .i64 t.wid,.int .i64 t.sts,.int .i64 t.sin,.int .i64 t.unt] #[.int .u64 0,.int .i64 0,.int .i64 0,.int .i64 0,.slice none 0 0]
 rw [←hw2] at BX
 obtain ⟨B,N1,N2,N3⟩:=BX
 have HF:Hd (Few F):=⟨hf⟩
 have HW:Hd (LsR w a c F):=⟨h⟩
 have hlen:=hf.len
 have CHO:=rchoose_ok r g nn o a c F ah nh ch H0 w2 (h.carry B) hf (hh.carry B) hnh
 rw [hc] at CHO
 obtain ⟨n,hn⟩:∃ n,F.length=n:=⟨_,rfl⟩
 have HL:Hd (F.length=n):=⟨hn⟩
 have HN:Hd (LsR w2 a c F∧Below w.heap.size w w2∧Blk w2 w.heap.size 31 (faA r g nn o (.slice a n c))∧Blk w2 (w.heap.size+1) 36 (tkA t)∧Blk w2 (w.heap.size+1+1) 31 (faA 0 0 0 0 (.slice none 0 0))):=⟨h.carry B,B,by rw [←hn];exact N1,N2,N3⟩
 have hs:=N3.lt
 obtain ⟨⟨x0,x1,x2,x3,x4⟩,-⟩:=Blk.fair N1
 rw [hn] at hlen hw2 x4 CHO ⊢
 clear hn B N1 N2 N3 h hf hh hnh
 obtain ⟨t0,t1,t2,t3,t4⟩:=t
 simp only [tkA] at hw2 HN ⊢
 go_enter Tryz.func36,Tryz.ntmps36
 go_upto_region 1 with fail
 rw [←hw2]
 clear hw2
 obtain ⟨A,hA⟩:∃ A,A=w.heap.size:=⟨_,rfl⟩
 have HA:Hd (A=w.heap.size):=⟨hA⟩
 rw [←hA] at HN hs x0 x1 x2 x3 x4 ⊢
 clear hA
 go_wp2_with fail
 go_at_call 68
 refine CHO.mono ?_
 rintro e w3 ⟨rfl,b3⟩
 clear CHO x0 x1 x2 x3 x4
 have hs3:=b3.size
 have H3:Hd (LsR w3 a c F∧Below A w w3∧Blk w3 A 31 (faA r g nn o (.slice a n c))∧Blk w3 (A+1) 36 #[.int .i64 t0,.int .i64 t1,.int .i64 t2,.int .i64 t3,.int .i64 t4]∧Blk w3 (A+1+1) 31 (faA 0 0 0 0 (.slice none 0 0))) :=
  ⟨HN.out.1.carry b3,HN.out.2.1.trans (b3.mono (show A≤w2.heap.size by omega)),HN.out.2.2.1.kept (Kept.of_below b3 (fun _=>False)) id,HN.out.2.2.2.1.kept (Kept.of_below b3 (fun _=>False)) id,HN.out.2.2.2.2.kept (Kept.of_below b3 (fun _=>False)) id⟩
 clear HN b3
 have hk0:(0:Int)≤(k:Int):=by omega
 have hkn:k<n:=by have:=HL.out;omega
 obtain ⟨b1,o1,a1,c1,rfl,hb1,d0,d1,s1⟩:=H3.out.1.at (k:=k) hk
 have hbA:b1<A:=by
  obtain ⟨b',o',a',c',e',hb',-⟩:=HW.out.at hk
  injection e' with e'
  injection e' with e1 e2
  rw [HA.out,e1]
  exact hb'
 have B4:Below w3.heap.size w3 w3.drew:=(Below.refl _ _).drew
 have K4:Kept (fun _=>False) w3 w3.drew:=Kept.of_below B4 _
 have e0:=(World.cell?_of_block (K4.block b1 hb1 id)).trans d0
 have e1:=(World.cell?_of_block (K4.block b1 hb1 id)).trans d1
 have H4:Hd (LsR w3.drew (some ⟨b1,o1,none⟩) c F∧Below A w w3.drew∧Blk w3.drew A 31 (faA r g nn o (.slice (some ⟨b1,o1,none⟩) n c))∧Blk w3.drew (A+1) 36 #[.int .i64 t0,.int .i64 t1,.int .i64 t2,.int .i64 t3,.int .i64 t4]∧Blk w3.drew (A+1+1) 31 (faA 0 0 0 0 (.slice none 0 0))∧SlR w3.drew a1 c1 (gl F k).L∧b1<w3.drew.heap.size) :=
  ⟨H3.out.1.carry B4,H3.out.2.1.drew,H3.out.2.2.1.kept K4 id,H3.out.2.2.2.1.kept K4 id,H3.out.2.2.2.2.kept K4 id,s1.carry B4,Nat.lt_of_lt_of_le hb1 B4.size⟩
 have hs4:w3.heap.size≤w3.drew.heap.size:=B4.size
 obtain ⟨⟨x0,x1,x2,x3,x4⟩,-⟩:=H4.out.2.2.1.fair
 have HK:=HF.out.at k
 clear H3 B4 K4 d0 d1 s1 hb1
 go_upto_region 4 with fail
 refine region_tail 9 (by kernel_rfl) ?_
 simp only [List.take_succ_cons,List.take_zero,List.drop_succ_cons,List.drop_zero]
 generalize w3.drew=w4 at *
 generalize (gl F k).L.length=m at *
 repeat still_step
 refine wpStill_nil ?_
 have NR:=H4.out.2.2.2.2.1
 have BW:=H4.out.2.1
 clear x0 x1 x2 x3 x4 e0 e1
 obtain ⟨⟨y0,y1,y2,y3,y4⟩,yf0,yf1,yf2,yf3,yf4⟩:=NR.fair
 obtain ⟨q2,k2⟩:=fair_set NR 0 0 0 0 (.slice none 0 0)
 have HE:Hd (_∧_):=⟨q2,BW.trans (k2.below (B:=A) (by have:=NR.lt;omega) (fun j e=>by omega))⟩
 clear NR BW q2 k2 H4
 go_wp2_with fail
 refine bodyPost_ret (resFj20 _ _ _ (.int .i64 0) (.int .i64 7) rfl rfl rfl HE.out.1) rfl ?_
 exact ⟨rfl,by rw [←HA.out];exact HE.out.2⟩
end Go.Proofs.YtlgibnmoogbdcaaGreat
