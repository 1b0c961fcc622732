/-
  What the functions of 'rules' that look at rules and schemas,and at what lacks,answer.
  What 'lackingNumber' and 'lackingPart' of 'rules' answer.
  What the library's reflection answers at the types that errors.As and errors.Is of this program meet (api's number,the program's Fault,the library's plain error).
-/
import Derived.Test.YthkdbphgiobcdaaGreatDoorE9
import Derived.Test.YthkdbphgiobcdaaGreatDoorProg
import Derived.WalkKit
import Derived.LaidEql
import Derived.Stop.Asserts
import Derived.RowKitTokens
namespace Go.Proofs.YthkdbphgiobcdaaGreatDoor
open Go.RowKit
set_option maxRecDepth 20000 in
theorem rlAll_ok (v0 v1 v2 v3 v4:Value) (r:Rl) (w:World) (h:RuR w v0 v1 v2 v3 v4 r) :
  Calls Tryz.prog 166 #[.agg #[v0,v1,v2,v3,v4]] w fun e w'=>e=.returned (.bool (rlAll r))∧Below w.heap.size w w':=by
 have AL:=alloc_below w (.cells #[v0,v1,v2,v3,v4] 54)
 have NB:=Blk.new w 54 #[v0,v1,v2,v3,v4]
 obtain ⟨h0,h1,h2,h3,h4⟩:=h.carry AL
 have I0:=isAll_ok v0 r.users _ h0
 have I2:=isAll_ok v2 r.verbs _ h2
 have I3:=isAll_ok v3 r.resources _ h3
 have I4:=isAll_ok v4 r.spaces _ h4
 have c0:=NB.cellv (v:=v0) 0 rfl
 have c2:=NB.cellv (v:=v2) 2 rfl
 have c3:=NB.cellv (v:=v3) 3 rfl
 have c4:=NB.cellv (v:=v4) 4 rfl
 obtain ⟨a0,p0,rfl,-⟩:=h0
 obtain ⟨a1,p1,rfl,-⟩:=h1
 obtain ⟨a2,p2,rfl,-⟩:=h2
 obtain ⟨a3,p3,rfl,-⟩:=h3
 obtain ⟨a4,p4,rfl,-⟩:=h4
 have e:rlAll r=(isStar r.users && (isStar r.verbs && (isStar r.resources && isStar r.spaces))):=rfl
 rw [e]
 clear e h NB
 generalize isStar r.users=x0 at *
 generalize isStar r.verbs=x2 at *
 generalize isStar r.resources=x3 at *
 generalize isStar r.spaces=x4 at *
 generalize r.users.length=m0 at *
 generalize r.groups.length=m1 at *
 generalize r.verbs.length=m2 at *
 generalize r.resources.length=m3 at *
 generalize r.spaces.length=m4 at *
 go_enter Tryz.func166,Tryz.ntmps166
 go_upto_region 1 with fail
 generalize w.alloc _=w1 at *
 cases x0 with
 | false =>
  go_wp2_with (go_at_call 167;refine I0.mono ?_;rintro e w' ⟨rfl,hw⟩;obtain rfl:=hw.symm)
  go_ret
  exact ⟨rfl,AL⟩
 | true =>
  go_wp2_with fail
  go_at_call 167
  refine I0.mono ?_
  rintro e w' ⟨rfl,hw⟩
  obtain rfl:=hw.symm
  cases x2 with
  | false =>
   go_wp2_with fail
   go_at_call 167
   refine I2.mono ?_
   rintro e w' ⟨rfl,hw⟩
   obtain rfl:=hw.symm
   go_wp2_with fail
   go_ret
   exact ⟨rfl,AL⟩
  | true =>
   go_wp2_with fail
   go_at_call 167
   refine I2.mono ?_
   rintro e w' ⟨rfl,hw⟩
   obtain rfl:=hw.symm
   cases x3 with
   | false =>
    go_wp2_with fail
    go_at_call 167
    refine I3.mono ?_
    rintro e w' ⟨rfl,hw⟩
    obtain rfl:=hw.symm
    go_wp2_with fail
    go_ret
    exact ⟨rfl,AL⟩
   | true =>
    go_wp2_with fail
    go_at_call 167
    refine I3.mono ?_
    rintro e w' ⟨rfl,hw⟩
    obtain rfl:=hw.symm
    go_wp2_with fail
    go_at_call 167
    refine I4.mono ?_
    rintro e w' ⟨rfl,hw⟩
    obtain rfl:=hw.symm
    go_wp2_with fail
    go_ret
    exact ⟨rfl,AL⟩
set_option maxRecDepth 20000 in
theorem indexRl (rs:List Rl) (a:Option Addr) (c:Nat) (w:World) (h:RlR w (.slice a rs.length c) rs) :
  Calls Tryz.prog 182 #[.slice a rs.length c,.func (.func 166) #[] #[]] w fun e w'=>(∃ q:Int,e=.returned (.int .i64 q)∧decide (0≤q)=rs.any rlAll)∧Below w.heap.size w w':=by
 have eg:∀ args w,(callFunc 166 args).run Tryz.prog w=.ok (.enter 166 args) w:=enters_of Tryz.func166 (by kernel_rfl) rfl
 have HR:Hd (RlR w (.slice a rs.length c) rs):=⟨h⟩
 obtain ⟨_,_,_,hl,-⟩:=h
 obtain ⟨n,hn⟩:∃ n,n=rs.length:=⟨_,rfl⟩
 have HN:Hd (n=rs.length):=⟨hn⟩
 rw [←hn] at hl ⊢
 clear hn
 go_enter Tryz.func182,Tryz.ntmps182
 go_wp2_with fail
 go_loopw [8] (fun i wr=>∃ k:Nat,k≤n∧i=.int .i64 k∧Hd ((∀ j (h:j<rs.length),j<k→rlAll rs[j]=false)∧Below w.heap.size w wr)) (fun i _=>n - (intOf i).toNat)
 case atStart=>exact ⟨0,Nat.zero_le _,rfl,⟨fun _ _ h=>absurd h (Nat.not_lt_zero _),Below.refl _ _⟩⟩
 case round =>
  obtain ⟨k,hk,rfl,hI⟩:=hrel
  by_cases hlt:k<n
  ·have hkL:k<rs.length:=by rw [←HN.out];exact hlt
   obtain ⟨a',c',e',-,hrow⟩:=HR.out.carry hI.out.2
   injection e' with e1 e2 e3
   subst e1 e3
   obtain ⟨b,off,rfl,hb,hcs⟩:=hrow (by omega)
   obtain ⟨v0,v1,v2,v3,v4,⟨x0,x1,x2,x3,x4⟩,hru⟩:=hcs k hkL
   have HYes:Hd (rlAll rs[k]=true→rs.any rlAll=true):=⟨fun e=>List.any_eq_true.2 ⟨rs[k],List.getElem_mem hkL,e⟩⟩
   have HStep:Hd (rlAll rs[k]=false→∀ j (h:j<rs.length),j<k+1→rlAll rs[j]=false):=⟨fun h1 j hj hjk=>by
    rcases Nat.lt_or_eq_of_le (Nat.le_of_lt_succ hjk) with h' | h'
    ·exact hI.out.1 j hj h'
    ·subst h';exact h1⟩
   have RW:=rlAll_ok v0 v1 v2 v3 v4 rs[k] wr hru
   obtain ⟨⟨q0,p0,e0,-⟩,⟨q1,p1,e1,-⟩,⟨q2,p2,e2,-⟩,⟨q3,p3,e3,-⟩,⟨q4,p4,e4,-⟩⟩:=id hru
   have BB:Hd (Below w.heap.size w wr):=⟨hI.out.2⟩
   have HK:Hd (k<n):=⟨hlt⟩
   clear hcs hrow hru hI
   generalize rs[k]=r at *
   clear hkL
   generalize hn0:r.users.length=m0 at e0
   generalize hn1:r.groups.length=m1 at e1
   generalize hn2:r.verbs.length=m2 at e2
   generalize hn3:r.resources.length=m3 at e3
   generalize hn4:r.spaces.length=m4 at e4
   subst e0 e1 e2 e3 e4
   clear hn0 hn1 hn2 hn3 hn4
   have i1:(k:Int)<(n:Int):=by omega
   cases hok:rlAll r with
   | true =>
    rw [hok] at RW
    have A:Hd (rs.any rlAll=true):=⟨HYes.out hok⟩
    clear hok HYes HStep
    go_wp2_with (go_at_fn 166;refine RW.mono ?_;rintro e w2 ⟨rfl,h2⟩)
    go_ret
    exact ⟨⟨k,rfl,by rw [A.out];exact decide_eq_true (by omega)⟩,BB.out.trans (h2.mono BB.out.size)⟩
   | false =>
    rw [hok] at RW
    have F3:Hd (∀ j (h:j<rs.length),j<k+1→rlAll rs[j]=false):=⟨HStep.out hok⟩
    clear hok HYes HStep
    go_wp2_with (go_at_fn 166;refine RW.mono ?_;rintro e w2 ⟨rfl,h2⟩)
    go_roundw
    case rel =>
     first
      | exact ⟨k+1,HK.out,by go_num,⟨F3.out,BB.out.trans (h2.mono BB.out.size)⟩⟩
      | ((repeat apply Exists.intro);exact ⟨⟨k+1,HK.out,by go_num,⟨F3.out,BB.out.trans (h2.mono BB.out.size)⟩⟩,rfl⟩)
    case measure=>have:=HK.out;simp [intOf];omega
  ·obtain rfl:k=n:=by omega
   have A:Hd (rs.any rlAll=false):=⟨by
    rw [List.any_eq_false]
    intro l hl'
    obtain ⟨j,hj,rfl⟩:=List.getElem_of_mem hl'
    rw [hI.out.1 j hj (by rw [HN.out];exact hj)]
    decide⟩
   go_wp2_with fail
   go_ret
   exact ⟨⟨-1,rfl,by rw [A.out];decide⟩,hI.out.2⟩
theorem ruleOfAll_ok (v:Value) (rs:List Rl) (w:World) (h:RlR w v rs):Calls Tryz.prog 138 #[v] w fun e w'=>e=.returned (.bool (rs.any rlAll))∧Below w.heap.size w w':=by
 obtain ⟨a,c,rfl,-⟩:=id h
 have I:=indexRl rs a c w h
 clear h
 generalize rs.any rlAll=b at *
 generalize rs.length=n at *
 have J:Calls Tryz.prog 165 #[.slice a n c,.func (.func 166) #[] #[]] w fun e w'=>e=.returned (.bool b)∧Below w.heap.size w w':=by
  go_enter Tryz.func165,Tryz.ntmps165
  go_wp2_with (go_at_call 182;refine I.mono ?_;rintro e w' ⟨⟨q,rfl,hq⟩,hb⟩)
  go_ret
  exact ⟨by rw [←hq];rfl,hb⟩
 clear I
 go_enter Tryz.func138,Tryz.ntmps138
 go_wp2_with (go_at_call 165;refine J.mono ?_;rintro e w' ⟨rfl,hb⟩)
 go_ret
 exact ⟨rfl,hb⟩
set_option maxRecDepth 20000 in
theorem scFits_ok (s:Sc) (v:Value) (w:World) (h:RlR w v s.rules) :
  Calls Tryz.prog 89 #[.agg #[.string s.name,.string s.level,.int .i64 s.rank,.int .i64 s.way,v]] w fun e w'=>e=.returned (.bool (scFit s))∧Below w.heap.size w w':=by
 have AL:=alloc_below w (.cells #[.string s.name,.string s.level,.int .i64 s.rank,.int .i64 s.way,v] 47)
 have NB:=Blk.new w 47 #[.string s.name,.string s.level,.int .i64 s.rank,.int .i64 s.way,v]
 have RU:=ruleOfAll_ok v s.rules _ (h.carry AL)
 obtain ⟨a,c,rfl,-⟩:=h
 have c0:=NB.cellv (v:=.string s.name) 0 rfl
 have c1:=NB.cellv (v:=.string s.level) 1 rfl
 have c2:=NB.cellv (v:=.int .i64 s.rank) 2 rfl
 have c4:=NB.cellv (v:=.slice a s.rules.length c) 4 rfl
 have HE:Hd (scFit s=if s.name=tExempt then decide (s.level=tExempt) && s.rank == 1 else if s.name=tCatch then decide (s.level=tCatch) && (s.rank == 10000 && s.rules.any rlAll) else true):=⟨rfl⟩
 generalize scFit s=R at *
 clear NB
 generalize s.rules.any rlAll=x at *
 generalize s.rules.length=n at *
 go_enter Tryz.func89,Tryz.ntmps89
 go_upto_region 1 with fail
 generalize w.alloc _=w1 at *
 by_cases h1:s.name=tExempt
 ·have q1:=lit_yes h1
  have HR:Hd (R=(decide (s.level=tExempt) && s.rank == 1)):=⟨by rw [HE.out,if_pos h1]⟩
  clear HE h1 RU
  by_cases h3:s.level=tExempt
  ·have q3:=lit_yes h3
   have HS:Hd (R=(s.rank == 1)):=⟨by rw [HR.out,decide_eq_true h3];rfl⟩
   clear HR h3
   go_wp2_with fail
   go_ret
   exact ⟨by rw [HS.out];rfl,AL⟩
  ·have q3:=lit_no h3
   have HS:Hd (R=false):=⟨by rw [HR.out,decide_eq_false h3];rfl⟩
   clear HR h3
   go_wp2_with fail
   go_ret
   exact ⟨by rw [HS.out];rfl,AL⟩
 ·have q1:=lit_no h1
  by_cases h2:s.name=tCatch
  ·have q2:=lit_yes h2
   have HR:Hd (R=(decide (s.level=tCatch) && (s.rank == 10000 && x))):=⟨by rw [HE.out,if_neg h1,if_pos h2]⟩
   clear HE h1 h2
   by_cases h3:s.level=tCatch
   ·have q3:=lit_yes h3
    cases h4:(s.rank == 10000) with
    | true =>
     have HS:Hd (R=x):=⟨by rw [HR.out,decide_eq_true h3,h4];rfl⟩
     clear HR h3
     go_wp2_with (go_at_call 138;refine RU.mono ?_;rintro e w' ⟨rfl,b2⟩)
     go_ret
     exact ⟨by rw [HS.out];rfl,AL.trans (b2.mono AL.size)⟩
    | false =>
     have HS:Hd (R=false):=⟨by rw [HR.out,decide_eq_true h3,h4];rfl⟩
     clear HR h3 RU
     go_wp2_with fail
     go_ret
     exact ⟨by rw [HS.out];rfl,AL⟩
   ·have q3:=lit_no h3
    have HS:Hd (R=false):=⟨by rw [HR.out,decide_eq_false h3];rfl⟩
    clear HR h3 RU
    go_wp2_with fail
    go_ret
    exact ⟨by rw [HS.out];rfl,AL⟩
  ·have q2:=lit_no h2
   have HR:Hd (R=true):=⟨by rw [HE.out,if_neg h1,if_neg h2]⟩
   clear HE h1 h2 RU
   go_wp2_with fail
   go_ret
   exact ⟨by rw [HR.out];rfl,AL⟩
set_option maxRecDepth 20000 in
theorem scErr_ok (s:Sc) (v:Value) (aL:Option Addr) (cL:Nat) (L:List Lv) (w:World) (h:RlR w v s.rules) (hL:LvR w aL L) (hl:L.length≤65536) :
  Calls Tryz.prog 46 #[.agg #[.string s.name,.string s.level,.int .i64 s.rank,.int .i64 s.way,v],.slice aL L.length cL] w fun e w'=>e=.returned (.int .i64 (scErr L s))∧Below w.heap.size w w':=by
 have AL:=alloc_below w (.cells #[.string s.name,.string s.level,.int .i64 s.rank,.int .i64 s.way,v] 47)
 have NB:=Blk.new w 47 #[.string s.name,.string s.level,.int .i64 s.rank,.int .i64 s.way,v]
 have HL:=rhasLv_ok aL cL L s.level _ (hL.carry AL) hl
 have SF:Hd (∀ W,Below w.heap.size w W→Calls Tryz.prog 89 #[.agg #[.string s.name,.string s.level,.int .i64 s.rank,.int .i64 s.way,v]] W fun e w'=>e=.returned (.bool (scFit s))∧Below W.heap.size W w'):=⟨fun W b=>scFits_ok s v W (h.carry b)⟩
 obtain ⟨a,c,rfl,-⟩:=h
 have HE:Hd (scErr L s=if anyL L s.level then (if scFit s then 0 else 11) else 6):=⟨rfl⟩
 generalize scErr L s=R at *
 clear hL hl
 generalize anyL L s.level=x at *
 generalize scFit s=y at *
 generalize s.rules.length=n at *
 generalize L.length=m at *
 have c1:=NB.cellv (v:=.string s.level) 1 rfl
 go_enter Tryz.func46,Tryz.ntmps46
 go_upto_region 1 with fail
 generalize w.alloc _=w1 at *
 go_wp2_with fail
 go_at_call 88
 refine HL.mono ?_
 rintro e w2 ⟨rfl,b2⟩
 have B2:Below w.heap.size w w2:=AL.trans (b2.mono AL.size)
 have N2:=NB.kept (Kept.of_below b2 (fun _=>False)) id
 have F2:=SF.out w2 B2
 have d0:=N2.cellv (v:=.string s.name) 0 rfl
 have d1:=N2.cellv (v:=.string s.level) 1 rfl
 have d2:=N2.cellv (v:=.int .i64 s.rank) 2 rfl
 have d3:=N2.cellv (v:=.int .i64 s.way) 3 rfl
 have d4:=N2.cellv (v:=.slice a n c) 4 rfl
 clear HL AL NB c1 b2 N2 SF
 cases x with
 | false =>
  go_wp2_with fail
  go_ret
  exact ⟨by rw [HE.out];rfl,B2⟩
 | true =>
  cases y with
  | false =>
   go_wp2_with (go_at_call 89;refine F2.mono ?_;rintro e w' ⟨rfl,b3⟩)
   go_ret
   exact ⟨by rw [HE.out];rfl,B2.trans (b3.mono B2.size)⟩
  | true =>
   go_wp2_with (go_at_call 89;refine F2.mono ?_;rintro e w' ⟨rfl,b3⟩)
   go_ret
   exact ⟨by rw [HE.out];rfl,B2.trans (b3.mono B2.size)⟩
set_option maxRecDepth 20000 in
theorem lackN_ok (v:Value) (C:Cf) (w:World) (h:CfR w v C):Calls Tryz.prog 43 #[v] w fun e w'=>e=.returned (.string (lackN C))∧Below w.heap.size w w':=by
 obtain ⟨aL,cL,aS,cS,V,rfl,-⟩:=h.ex
 have AL:=alloc_below w (.cells #[.int .i64 C.total,.int .i64 C.period,.int .i64 C.perSeat,.int .i64 C.most,.slice aL C.levels.length cL,.slice aS C.schemas.length cS] 25)
 have NB:=Blk.new w 25 #[.int .i64 C.total,.int .i64 C.period,.int .i64 C.perSeat,.int .i64 C.most,.slice aL C.levels.length cL,.slice aS C.schemas.length cS]
 have c0:=NB.cellv (v:=.int .i64 C.total) 0 rfl
 have c1:=NB.cellv (v:=.int .i64 C.period) 1 rfl
 have c2:=NB.cellv (v:=.int .i64 C.perSeat) 2 rfl
 have HE:Hd (lackN C=if C.total=0 then tTotal else if C.period=0 then tPeriod else if C.perSeat=0 then tSeats else ⟨#[]⟩):=⟨rfl⟩
 generalize lackN C=R at *
 clear NB h
 generalize C.levels.length=n at *
 generalize C.schemas.length=m at *
 generalize C.total=x0 at *
 generalize C.period=x1 at *
 generalize C.perSeat=x2 at *
 generalize C.most=x3 at *
 go_enter Tryz.func43,Tryz.ntmps43
 go_upto_region 1 with fail
 generalize w.alloc _=w1 at *
 by_cases h0:x0=0
 ·have q0:(x0 == 0)=true:=by simp [h0]
  have HR:Hd (R=tTotal):=⟨by rw [HE.out,if_pos h0]⟩
  clear HE h0
  go_wp2_with fail
  go_ret
  exact ⟨by rw [HR.out];rfl,AL⟩
 have q0:(x0 == 0)=false:=by simpa using h0
 by_cases h1:x1=0
 ·have q1:(x1 == 0)=true:=by simp [h1]
  have HR:Hd (R=tPeriod):=⟨by rw [HE.out,if_neg h0,if_pos h1]⟩
  clear HE h0 h1
  go_wp2_with fail
  go_ret
  exact ⟨by rw [HR.out];rfl,AL⟩
 have q1:(x1 == 0)=false:=by simpa using h1
 by_cases h2:x2=0
 ·have q2:(x2 == 0)=true:=by simp [h2]
  have HR:Hd (R=tSeats):=⟨by rw [HE.out,if_neg h0,if_neg h1,if_pos h2]⟩
  clear HE h0 h1 h2
  go_wp2_with fail
  go_ret
  exact ⟨by rw [HR.out];rfl,AL⟩
 have q2:(x2 == 0)=false:=by simpa using h2
 have HR:Hd (R=⟨#[]⟩):=⟨by rw [HE.out,if_neg h0,if_neg h1,if_neg h2]⟩
 clear HE h0 h1 h2
 go_wp2_with fail
 go_ret
 exact ⟨by rw [HR.out];rfl,AL⟩
set_option maxRecDepth 20000 in
set_option maxHeartbeats 4000000 in
theorem lackP_ok (v:Value) (C:Cf) (w:World) (h:CfR w v C) (hl:C.levels.length≤65536) (hs:C.schemas.length≤65536):Calls Tryz.prog 48 #[v] w fun e w'=>e=.returned (.string (lackP C))∧Below w.heap.size w w':=by
 obtain ⟨aL,cL,aS,cS,V,rfl,-,-,hLv,hV,hSc,-⟩:=h.ex
 have LE:Hd (∀ W,Below w.heap.size w W→Calls Tryz.prog 88 #[.slice aL C.levels.length cL,.string tExempt] W fun e w'=>e=.returned (.bool (anyL C.levels tExempt))∧Below W.heap.size W w'):=⟨fun W b=>rhasLv_ok aL cL C.levels tExempt W (hLv.carry b) hl⟩
 have LC:Hd (∀ W,Below w.heap.size w W→Calls Tryz.prog 88 #[.slice aL C.levels.length cL,.string tCatch] W fun e w'=>e=.returned (.bool (anyL C.levels tCatch))∧Below W.heap.size W w'):=⟨fun W b=>rhasLv_ok aL cL C.levels tCatch W (hLv.carry b) hl⟩
 have SE:Hd (∀ W,Below w.heap.size w W→Calls Tryz.prog 90 #[.slice aS C.schemas.length cS,.string tExempt] W fun e w'=>e=.returned (.bool (anyS C.schemas tExempt))∧Below W.heap.size W w'):=⟨fun W b=>rhasSc_ok aS cS C.schemas V tExempt W (hSc.carry b) hV hs⟩
 have SC:Hd (∀ W,Below w.heap.size w W→Calls Tryz.prog 90 #[.slice aS C.schemas.length cS,.string tCatch] W fun e w'=>e=.returned (.bool (anyS C.schemas tCatch))∧Below W.heap.size W w'):=⟨fun W b=>rhasSc_ok aS cS C.schemas V tCatch W (hSc.carry b) hV hs⟩
 have T1:=fun W=>lvText_ok tExempt W (by decide)
 have T2:=fun W=>lvText_ok tCatch W (by decide)
 have T3:=fun W=>scText_ok tExempt W (by decide)
 have T4:=fun W=>scText_ok tCatch W (by decide)
 have AL:=alloc_below w (.cells #[.int .i64 C.total,.int .i64 C.period,.int .i64 C.perSeat,.int .i64 C.most,.slice aL C.levels.length cL,.slice aS C.schemas.length cS] 25)
 have NB:=Blk.new w 25 #[.int .i64 C.total,.int .i64 C.period,.int .i64 C.perSeat,.int .i64 C.most,.slice aL C.levels.length cL,.slice aS C.schemas.length cS]
 have HE:Hd (lackP C=if anyL C.levels tExempt then if anyL C.levels tCatch then if anyS C.schemas tExempt then if anyS C.schemas tCatch then ⟨#[]⟩ else scT tCatch else scT tExempt else lvT tCatch else lvT tExempt):=⟨rfl⟩
 generalize lackP C=R at *
 generalize lvT tExempt=r1 at *
 generalize lvT tCatch=r2 at *
 generalize scT tExempt=r3 at *
 generalize scT tCatch=r4 at *
 clear h hl hs hLv hV hSc
 generalize anyL C.levels tExempt=y1 at *
 generalize anyL C.levels tCatch=y2 at *
 generalize anyS C.schemas tExempt=y3 at *
 generalize anyS C.schemas tCatch=y4 at *
 generalize C.levels.length=n at *
 generalize C.schemas.length=m at *
 generalize C.total=x0 at *
 generalize C.period=x1 at *
 generalize C.perSeat=x2 at *
 generalize C.most=x3 at *
 unfold tExempt at LE SE T1 T3
 unfold tCatch at LC SC T2 T4
 go_enter Tryz.func48,Tryz.ntmps48
 go_upto_region 1 with fail
 generalize w.alloc _=w1 at *
 generalize hgc:w.heap.size=gc at NB ⊢
 have AB:=alloc_below w1 (.cells #[.string ⟨#[101,120,101,109,112,116]⟩,.string ⟨#[99,97,116,99,104,45,97,108,108]⟩] 9)
 have B2:Below w.heap.size w (w1.alloc (.cells #[.string ⟨#[101,120,101,109,112,116]⟩,.string ⟨#[99,97,116,99,104,45,97,108,108]⟩] 9)):=AL.trans (AB.mono AL.size)
 have N2:=NB.kept (Kept.of_below AB (fun _=>False)) id
 have G2:=Blk.new w1 9 #[.string ⟨#[101,120,101,109,112,116]⟩,.string ⟨#[99,97,116,99,104,45,97,108,108]⟩]
 clear AB AL NB
 go_wp2_with fail
 generalize w1.alloc _=w2 at *
 generalize w1.heap.size=g1 at *
 refine wp_loop_rounds 3 ?_
 rw [rounds_succ]
 have c4:=N2.cellv (v:=.slice aL n cL) 4 rfl
 have g0:=G2.cellv (v:=.string ⟨#[101,120,101,109,112,116]⟩) 0 rfl
 have P:=LE.out w2 B2
 go_wp2_with fail
 go_at_call 88
 refine P.mono ?_
 rintro e w3 ⟨rfl,b3⟩
 have B3:Below w.heap.size w w3:=B2.trans (b3.mono B2.size)
 have N3:=N2.kept (Kept.of_below b3 (fun _=>False)) id
 have G3:=G2.kept (Kept.of_below b3 (fun _=>False)) id
 clear P b3 c4 g0 B2 N2 G2
 by_cases hy:y1=false
 ·subst hy
  go_wp2_with (go_at_call 45;refine (T1 _).mono ?_;rintro e w' ⟨rfl,hw⟩;obtain rfl:=hw.symm)
  go_ret
  exact ⟨by rw [HE.out];rfl,B3⟩
 have hy:y1=true:=by simpa using hy
 subst hy
 go_wp2_with fail
 rw [rounds_succ]
 have c4:=N3.cellv (v:=.slice aL n cL) 4 rfl
 have g0:=G3.cellv (v:=.string ⟨#[99,97,116,99,104,45,97,108,108]⟩) 1 rfl
 have P:=LC.out w3 B3
 go_wp2_with fail
 go_at_call 88
 refine P.mono ?_
 rintro e w4 ⟨rfl,b4⟩
 have B4:Below w.heap.size w w4:=B3.trans (b4.mono B3.size)
 have N4:=N3.kept (Kept.of_below b4 (fun _=>False)) id
 have G4:=G3.kept (Kept.of_below b4 (fun _=>False)) id
 clear P b4 c4 g0 B3 N3 G3
 by_cases hy:y2=false
 ·subst hy
  go_wp2_with (go_at_call 45;refine (T2 _).mono ?_;rintro e w' ⟨rfl,hw⟩;obtain rfl:=hw.symm)
  go_ret
  exact ⟨by rw [HE.out];rfl,B4⟩
 have hy:y2=true:=by simpa using hy
 subst hy
 go_wp2_with fail
 rw [rounds_succ]
 have AB:=alloc_below w4 (.cells #[.string ⟨#[101,120,101,109,112,116]⟩,.string ⟨#[99,97,116,99,104,45,97,108,108]⟩] 9)
 have B5:Below w.heap.size w (w4.alloc (.cells #[.string ⟨#[101,120,101,109,112,116]⟩,.string ⟨#[99,97,116,99,104,45,97,108,108]⟩] 9)):=B4.trans (AB.mono B4.size)
 have N5:=N4.kept (Kept.of_below AB (fun _=>False)) id
 have G5:=Blk.new w4 9 #[.string ⟨#[101,120,101,109,112,116]⟩,.string ⟨#[99,97,116,99,104,45,97,108,108]⟩]
 clear AB B4 N4 G4
 go_wp2_with fail
 generalize w4.alloc _=w5 at *
 generalize w4.heap.size=g2 at *
 refine wp_loop_rounds 3 ?_
 rw [rounds_succ]
 have c4:=N5.cellv (v:=.slice aS m cS) 5 rfl
 have g0:=G5.cellv (v:=.string ⟨#[101,120,101,109,112,116]⟩) 0 rfl
 have P:=SE.out w5 B5
 go_wp2_with fail
 go_at_call 90
 refine P.mono ?_
 rintro e w6 ⟨rfl,b6⟩
 have B6:Below w.heap.size w w6:=B5.trans (b6.mono B5.size)
 have N6:=N5.kept (Kept.of_below b6 (fun _=>False)) id
 have G6:=G5.kept (Kept.of_below b6 (fun _=>False)) id
 clear P b6 c4 g0 B5 N5 G5
 by_cases hy:y3=false
 ·subst hy
  go_wp2_with (go_at_call 47;refine (T3 _).mono ?_;rintro e w' ⟨rfl,hw⟩;obtain rfl:=hw.symm)
  go_ret
  exact ⟨by rw [HE.out];rfl,B6⟩
 have hy:y3=true:=by simpa using hy
 subst hy
 go_wp2_with fail
 rw [rounds_succ]
 have c4:=N6.cellv (v:=.slice aS m cS) 5 rfl
 have g0:=G6.cellv (v:=.string ⟨#[99,97,116,99,104,45,97,108,108]⟩) 1 rfl
 have P:=SC.out w6 B6
 go_wp2_with fail
 go_at_call 90
 refine P.mono ?_
 rintro e w7 ⟨rfl,b7⟩
 have B7:Below w.heap.size w w7:=B6.trans (b7.mono B6.size)
 have N7:=N6.kept (Kept.of_below b7 (fun _=>False)) id
 have G7:=G6.kept (Kept.of_below b7 (fun _=>False)) id
 clear P b7 c4 g0 B6 N6 G6
 by_cases hy:y4=false
 ·subst hy
  go_wp2_with (go_at_call 47;refine (T4 _).mono ?_;rintro e w' ⟨rfl,hw⟩;obtain rfl:=hw.symm)
  go_ret
  exact ⟨by rw [HE.out];rfl,B7⟩
 have hy:y4=true:=by simpa using hy
 subst hy
 go_wp2_with fail
 rw [rounds_succ]
 go_wp2_with fail
 go_ret
 exact ⟨by rw [HE.out];rfl,B7⟩
end Go.Proofs.YthkdbphgiobcdaaGreatDoor

namespace Go.Proofs.YthkdbphgiobcdaaGreatDoor
open Go.RowKit Go.Extern.Stop Go.Stop Go.Extern
theorem Tryz.valueOf57 (t:Addr) (w:World):(ReflectliteValue.unpack (.iface 72 (.pointer (some t)))).run Tryz.prog w
  = .ok (.agg #[.pointer (some ⟨5,72,none⟩),.pointer (some ⟨w.heap.size,0,none⟩),.int .u64 150]) (w.alloc (.cells #[.pointer (some t)] 72)):=by kernel_rfl
theorem Tryz.type57 (a : Addr) (w : World) : (ReflectliteValue.methodAny (ReflectliteValue.valueError "reflectlite.Value.Type" 0) (fun t _ _ _ => ReflectliteType.toType t) #[.agg #[.pointer (some ⟨5, 72, none⟩), .pointer (some a), .int .u64 150]]).run Tryz.prog w
  = .ok (.iface 163 (.agg #[.pointer (some ⟨5,72,none⟩)])) w:=by kernel_rfl
theorem Tryz.parts57 (a:Addr) (w:World):(ReflectliteValue.parts (.agg #[.pointer (some ⟨5,72,none⟩),.pointer (some a),.int .u64 150])).run Tryz.prog w=.ok (some (72,a,150)) w:=by kernel_rfl
theorem Tryz.valueOf77 (t:Addr) (w:World):(ReflectliteValue.unpack (.iface 115 (.pointer (some t)))).run Tryz.prog w
  = .ok (.agg #[.pointer (some ⟨5,115,none⟩),.pointer (some ⟨w.heap.size,0,none⟩),.int .u64 150]) (w.alloc (.cells #[.pointer (some t)] 115)):=by kernel_rfl
theorem Tryz.type77 (a : Addr) (w : World) : (ReflectliteValue.methodAny (ReflectliteValue.valueError "reflectlite.Value.Type" 0) (fun t _ _ _ => ReflectliteType.toType t) #[.agg #[.pointer (some ⟨5, 115, none⟩), .pointer (some a), .int .u64 150]]).run Tryz.prog w
  = .ok (.iface 163 (.agg #[.pointer (some ⟨5,115,none⟩)])) w:=by kernel_rfl
theorem Tryz.parts77 (a:Addr) (w:World):(ReflectliteValue.parts (.agg #[.pointer (some ⟨5,115,none⟩),.pointer (some a),.int .u64 150])).run Tryz.prog w=.ok (some (115,a,150)) w:=by kernel_rfl
theorem Tryz.methodKind (h : Value) (w : World) : (Go.method 352 163 (.agg #[h]) "Kind").run Tryz.prog w = .ok (217, h) w := by kernel_rfl
theorem Tryz.methodElem (h : Value) (w : World) : (Go.method 352 163 (.agg #[h]) "Elem").run Tryz.prog w = .ok (230, .agg #[h]) w := by kernel_rfl
theorem Tryz.methodImplements (h : Value) (w : World) : (Go.method 352 163 (.agg #[h]) "Implements").run Tryz.prog w = .ok (231, .agg #[h]) w := by kernel_rfl
theorem Tryz.methodAssignableTo (h : Value) (w : World) : (Go.method 352 163 (.agg #[h]) "AssignableTo").run Tryz.prog w = .ok (228, .agg #[h]) w := by kernel_rfl
theorem Tryz.methodUnwrap (a b c : Value) (w : World) : (Go.method 352 74 (.agg #[a, b, c]) "Unwrap").run Tryz.prog w = .ok (222, .agg #[a, b, c]) w := by kernel_rfl
theorem Tryz.elem57 (w:World):(ReflectliteType.method ReflectliteType.elem #[.agg #[.pointer (some ⟨5,72,none⟩)]]).run Tryz.prog w=.ok (.iface 163 (.agg #[.pointer (some ⟨5,38,none⟩)])) w:=by kernel_rfl
theorem Tryz.implements31 (w : World) : (ReflectliteType.relation "Implements" ReflectliteType.implements_ #[.agg #[.pointer (some ⟨5, 38, none⟩)], .iface 163 (.agg #[.pointer (some ⟨5, 33, none⟩)])]).run Tryz.prog w = .ok (.bool true) w := by kernel_rfl
theorem Tryz.elemOf57 (w:World):(Rtype.elem? 72).run Tryz.prog w=.ok (some 38) w:=by kernel_rfl
theorem Tryz.elem77 (w:World):(ReflectliteType.method ReflectliteType.elem #[.agg #[.pointer (some ⟨5,115,none⟩)]]).run Tryz.prog w=.ok (.iface 163 (.agg #[.pointer (some ⟨5,74,none⟩)])) w:=by kernel_rfl
theorem Tryz.implements44 (w : World) : (ReflectliteType.relation "Implements" ReflectliteType.implements_ #[.agg #[.pointer (some ⟨5, 74, none⟩)], .iface 163 (.agg #[.pointer (some ⟨5, 33, none⟩)])]).run Tryz.prog w = .ok (.bool true) w := by kernel_rfl
theorem Tryz.elemOf77 (w:World):(Rtype.elem? 115).run Tryz.prog w=.ok (some 74) w:=by kernel_rfl
theorem Tryz.typeOf31 (v:Value) (w:World):(ReflectliteType.typeOf #[.iface 38 v]).run Tryz.prog w=.ok (.iface 163 (.agg #[.pointer (some ⟨5,38,none⟩)])) w:=by kernel_rfl
theorem Tryz.typeOf44 (v:Value) (w:World):(ReflectliteType.typeOf #[.iface 74 v]).run Tryz.prog w=.ok (.iface 163 (.agg #[.pointer (some ⟨5,74,none⟩)])) w:=by kernel_rfl
theorem Tryz.assign31to31 (w : World) : (ReflectliteType.relation "AssignableTo" ReflectliteType.assignableTo #[.agg #[.pointer (some ⟨5, 38, none⟩)], .iface 163 (.agg #[.pointer (some ⟨5, 38, none⟩)])]).run Tryz.prog w = .ok (.bool true) w := by kernel_rfl
theorem Tryz.assign31to44 (w : World) : (ReflectliteType.relation "AssignableTo" ReflectliteType.assignableTo #[.agg #[.pointer (some ⟨5, 38, none⟩)], .iface 163 (.agg #[.pointer (some ⟨5, 74, none⟩)])]).run Tryz.prog w = .ok (.bool false) w := by kernel_rfl
theorem Tryz.assign44to31 (w : World) : (ReflectliteType.relation "AssignableTo" ReflectliteType.assignableTo #[.agg #[.pointer (some ⟨5, 74, none⟩)], .iface 163 (.agg #[.pointer (some ⟨5, 38, none⟩)])]).run Tryz.prog w = .ok (.bool false) w := by kernel_rfl
theorem Tryz.assign44to44 (w : World) : (ReflectliteType.relation "AssignableTo" ReflectliteType.assignableTo #[.agg #[.pointer (some ⟨5, 74, none⟩)], .iface 163 (.agg #[.pointer (some ⟨5, 74, none⟩)])]).run Tryz.prog w = .ok (.bool true) w := by kernel_rfl
theorem Tryz.valueOf31 (n:Int) (w:World):(ReflectliteValue.unpack (.iface 38 (.int .i64 n))).run Tryz.prog w
  = .ok (.agg #[.pointer (some ⟨5,38,none⟩),.pointer (some ⟨w.heap.size,0,none⟩),.int .u64 130]) (w.alloc (.cells #[.int .i64 n] 38)):=by kernel_rfl
theorem Tryz.valueOf44 (a b c:Value) (w:World):(ReflectliteValue.unpack (.iface 74 (.agg #[a,b,c]))).run Tryz.prog w
  = .ok (.agg #[.pointer (some ⟨5,74,none⟩),.pointer (some ⟨w.heap.size,0,none⟩),.int .u64 153]) (w.alloc (.cells #[a,b,c] 74)):=by kernel_rfl
theorem Tryz.mk31 (p:Addr) (w:World):(ReflectliteValue.mk 38 p ReflectliteValue.flagAddr).run Tryz.prog w=.ok (.agg #[.pointer (some ⟨5,38,none⟩),.pointer (some p),.int .u64 386]) w:=by kernel_rfl
theorem Tryz.mk44 (p:Addr) (w:World):(ReflectliteValue.mk 74 p ReflectliteValue.flagAddr).run Tryz.prog w=.ok (.agg #[.pointer (some ⟨5,74,none⟩),.pointer (some p),.int .u64 409]) w:=by kernel_rfl
theorem Tryz.as31_85 (v:Value) (x:TypeId) (w:World):(Instr.typeAssert (.iface 38 v) x 168 true).run Tryz.prog w=.ok (.tuple #[.nilIface,.bool false]) w:=run_typeAssert_lacksB Tryz.underlying168 (by kernel_rfl) (by kernel_rfl) v x w
theorem Tryz.as44_85 (v:Value) (x:TypeId) (w:World):(Instr.typeAssert (.iface 74 v) x 168 true).run Tryz.prog w=.ok (.tuple #[.nilIface,.bool false]) w:=run_typeAssert_lacksB Tryz.underlying168 (by kernel_rfl) (by kernel_rfl) v x w
theorem Tryz.as44_88 (v:Value) (x:TypeId) (w:World):(Instr.typeAssert (.iface 74 v) x 171 true).run Tryz.prog w=.ok (.tuple #[.iface 74 v,.bool true]) w:=run_typeAssert_hasB Tryz.underlying171 (by kernel_rfl) v x w
theorem Tryz.as31_88 (v:Value) (x:TypeId) (w:World):(Instr.typeAssert (.iface 38 v) x 171 true).run Tryz.prog w=.ok (.tuple #[.nilIface,.bool false]) w:=run_typeAssert_lacksB Tryz.underlying171 (by kernel_rfl) (by kernel_rfl) v x w
theorem Tryz.as31_89 (v:Value) (x:TypeId) (w:World):(Instr.typeAssert (.iface 38 v) x 173 true).run Tryz.prog w=.ok (.tuple #[.nilIface,.bool false]) w:=run_typeAssert_lacksB Tryz.underlying173 (by kernel_rfl) (by kernel_rfl) v x w
end Go.Proofs.YthkdbphgiobcdaaGreatDoor
