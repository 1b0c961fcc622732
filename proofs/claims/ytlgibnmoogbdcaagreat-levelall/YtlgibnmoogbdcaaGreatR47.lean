/-
  A state that came in: how it lies in memory.
-/
import Derived.Test.YtlgibnmoogbdcaaGreatR35
import Derived.Test.YtlgibnmoogbdcaaGreatR46
import Derived.OpenShut
namespace Go.Proofs.YtlgibnmoogbdcaaGreat
open Go.ChangeShapes Go.WideShapes Go.ChangeAt Go.RowKit
theorem cl4:Tryz.prog.cellsOf 4=1:=by kernel_rfl
theorem cl9:Tryz.prog.cellsOf 9=1:=by kernel_rfl
theorem clv:Tryz.prog.cellsOf 23=10:=by kernel_rfl
theorem len_succ {α:Type} {n:Nat} : ∀ {l:List α},l.length=n+1→∃ a t,l=a :: t∧t.length=n
 | a :: t,h=>⟨a,t,rfl,by simpa using h⟩
theorem len6 {α:Type} {l:List α} (h:l.length=6):∃ x0 x1 x2 x3 x4 x5,l=[x0,x1,x2,x3,x4,x5]:=by
 obtain ⟨x0,t0,rfl,h0⟩:=len_succ h
 obtain ⟨x1,t1,rfl,h1⟩:=len_succ h0
 obtain ⟨x2,t2,rfl,h2⟩:=len_succ h1
 obtain ⟨x3,t3,rfl,h3⟩:=len_succ h2
 obtain ⟨x4,t4,rfl,h4⟩:=len_succ h3
 obtain ⟨x5,t5,rfl,h5⟩:=len_succ h4
 obtain rfl:=List.length_eq_zero_iff.1 h5
 exact ⟨x0,x1,x2,x3,x4,x5,rfl⟩
theorem len10 {α:Type} {l:List α} (h:l.length=10):∃ x0 x1 x2 x3 x4 x5 x6 x7 x8 x9,l=[x0,x1,x2,x3,x4,x5,x6,x7,x8,x9]:=by
 obtain ⟨x0,t0,rfl,h0⟩:=len_succ h
 obtain ⟨x1,t1,rfl,h1⟩:=len_succ h0
 obtain ⟨x2,t2,rfl,h2⟩:=len_succ h1
 obtain ⟨x3,t3,rfl,h3⟩:=len_succ h2
 obtain ⟨x4,t4,rfl,h4⟩:=len_succ h3
 obtain ⟨x5,t5,rfl,h5⟩:=len_succ h4
 obtain ⟨x6,t6,rfl,h6⟩:=len_succ h5
 obtain ⟨x7,t7,rfl,h7⟩:=len_succ h6
 obtain ⟨x8,t8,rfl,h8⟩:=len_succ h7
 obtain ⟨x9,t9,rfl,h9⟩:=len_succ h8
 obtain rfl:=List.length_eq_zero_iff.1 h9
 exact ⟨x0,x1,x2,x3,x4,x5,x6,x7,x8,x9,rfl⟩
theorem clb:Tryz.prog.cellsOf 25=3:=by kernel_rfl
theorem cld:Tryz.prog.cellsOf 27=2:=by kernel_rfl
theorem cls:Tryz.prog.cellsOf 34=23:=by kernel_rfl
theorem len3 {α:Type} {l:List α} (h:l.length=3):∃ a b c,l=[a,b,c]:=by
 obtain ⟨a,t,rfl,h0⟩:=len_succ h
 obtain ⟨b,u,rfl,h1⟩:=len_succ h0
 obtain ⟨c,v,rfl,h2⟩:=len_succ h1
 obtain rfl:=List.length_eq_zero_iff.1 h2
 exact ⟨a,b,c,rfl⟩
theorem len7 {α:Type} {l:List α} (h:l.length=7):∃ a b c d e f g,l=[a,b,c,d,e,f,g]:=by
 obtain ⟨g,t,rfl,h0⟩:=len_succ h
 obtain ⟨a,b,c,d,e,f,rfl⟩:=len6 h0
 exact ⟨g,a,b,c,d,e,f,rfl⟩
theorem len23 {α:Type} {l:List α} (h:l.length=23):∃ x0 x1 x2 x3 x4 x5 x6 x7 x8 x9 y0 y1 y2 y3 y4 y5 y6 y7 y8 y9 a b c,l=[x0,x1,x2,x3,x4,x5,x6,x7,x8,x9,y0,y1,y2,y3,y4,y5,y6,y7,y8,y9,a,b,c]:=by
 have e:=List.take_append_drop 10 l
 obtain ⟨x0,x1,x2,x3,x4,x5,x6,x7,x8,x9,e1⟩:=len10 (show (l.take 10).length=10 by rw [List.length_take];omega)
 have e':=List.take_append_drop 10 (l.drop 10)
 obtain ⟨y0,y1,y2,y3,y4,y5,y6,y7,y8,y9,e2⟩:=len10 (show ((l.drop 10).take 10).length=10 by rw [List.length_take,List.length_drop];omega)
 obtain ⟨a,b,c,e3⟩:=len3 (show ((l.drop 10).drop 10).length=3 by rw [List.length_drop,List.length_drop];omega)
 rw [e2,e3] at e'
 rw [e1,← e'] at e
 exact ⟨x0,x1,x2,x3,x4,x5,x6,x7,x8,x9,y0,y1,y2,y3,y4,y5,y6,y7,y8,y9,a,b,c,e.symm⟩
section
variable {H:Type} {enc:TypeId × Value→H} {W:World} {base:Nat} {sp:Nat→Bool} {held:Bool} {fuel:Nat} {x:DataW H × List MemPlace}
theorem open_level {cs:List Value} (h:DataW.trod enc Tryz.prog W base sp held fuel 23 cs=some x):∃ l:Lv,cs=(lvA l).toList:=by
 obtain ⟨xs,k,hk,hxy,hcl,hxl,hf⟩:=DataW.trod_struct Tryz.underlying23 h
 rw [clv] at hcl
 obtain ⟨v0,v1,v2,v3,v4,v5,v6,v7,v8,v9,rfl⟩:=len10 hcl
 obtain ⟨y0,y1,y2,y3,y4,y5,y6,y7,y8,y9,rfl⟩:=len10 (show xs.length=10 from hxl)
 have g0:=hf 0 _ rfl
 have g1:=hf 1 _ rfl
 have g2:=hf 2 _ rfl
 have g3:=hf 3 _ rfl
 have g4:=hf 4 _ rfl
 have g5:=hf 5 _ rfl
 have g6:=hf 6 _ rfl
 have g7:=hf 7 _ rfl
 have g8:=hf 8 _ rfl
 have g9:=hf 9 _ rfl
 simp [cl3,cl9] at g0 g1 g2 g3 g4 g5 g6 g7 g8 g9
 obtain ⟨s0,h0,_,_⟩:=DataW.trod_string Tryz.underlying9 g0
 obtain ⟨n1,h1,_,_⟩:=DataW.trod_int Tryz.underlying3 g1
 obtain ⟨n2,h2,_,_⟩:=DataW.trod_int Tryz.underlying3 g2
 obtain ⟨n3,h3,_,_⟩:=DataW.trod_int Tryz.underlying3 g3
 obtain ⟨n4,h4,_,_⟩:=DataW.trod_int Tryz.underlying3 g4
 obtain ⟨n5,h5,_,_⟩:=DataW.trod_int Tryz.underlying3 g5
 obtain ⟨n6,h6,_,_⟩:=DataW.trod_int Tryz.underlying3 g6
 obtain ⟨n7,h7,_,_⟩:=DataW.trod_int Tryz.underlying3 g7
 obtain ⟨n8,h8,_,_⟩:=DataW.trod_int Tryz.underlying3 g8
 obtain ⟨n9,h9,_,_⟩:=DataW.trod_int Tryz.underlying3 g9
 simp at h0 h1 h2 h3 h4 h5 h6 h7 h8 h9
 subst h0 h1 h2 h3 h4 h5 h6 h7 h8 h9
 exact ⟨⟨s0,n1,n2,n3,n4,n5,n6,n7,n8,n9⟩,rfl⟩
theorem open_levelA {cs:Array Value} (h:DataW.trod enc Tryz.prog W base sp held fuel 23 cs.toList=some x):∃ l:Lv,cs=lvA l:=by
 obtain ⟨l,e⟩:=open_level h
 exact ⟨l,Array.toList_inj.1 e⟩
theorem open_bound {cs:List Value} (h:DataW.trod enc Tryz.prog W base sp held fuel 25 cs=some x):∃ a b c,cs=[.int .i64 a,.int .i64 b,.int .i64 c]:=by
 obtain ⟨xs,k,hk,hxy,hcl,hxl,hf⟩:=DataW.trod_struct Tryz.underlying25 h
 rw [clb] at hcl
 obtain ⟨v0,v1,v2,rfl⟩:=len3 hcl
 obtain ⟨y0,y1,y2,rfl⟩:=len3 (show xs.length=3 from hxl)
 have g0:=hf 0 _ rfl
 have g1:=hf 1 _ rfl
 have g2:=hf 2 _ rfl
 simp [cl3] at g0 g1 g2
 obtain ⟨n0,h0,_,_⟩:=DataW.trod_int Tryz.underlying3 g0
 obtain ⟨n1,h1,_,_⟩:=DataW.trod_int Tryz.underlying3 g1
 obtain ⟨n2,h2,_,_⟩:=DataW.trod_int Tryz.underlying3 g2
 simp at h0 h1 h2
 subst h0 h1 h2
 exact ⟨_,_,_,rfl⟩
theorem open_demand {cs:List Value} (h:DataW.trod enc Tryz.prog W base sp held fuel 27 cs=some x):∃ a b,cs=[.int .i64 a,.int .i64 b]:=by
 obtain ⟨xs,k,hk,hxy,hcl,hxl,hf⟩:=DataW.trod_struct Tryz.underlying27 h
 rw [cld] at hcl
 obtain ⟨v0,v1,rfl⟩:=len2 hcl
 obtain ⟨y0,y1,rfl⟩:=len2 (show xs.length=2 from hxl)
 have g0:=hf 0 _ rfl
 have g1:=hf 1 _ rfl
 simp [cl3] at g0 g1
 obtain ⟨n0,h0,_,_⟩:=DataW.trod_int Tryz.underlying3 g0
 obtain ⟨n1,h1,_,_⟩:=DataW.trod_int Tryz.underlying3 g1
 simp at h0 h1
 subst h0 h1
 exact ⟨_,_,rfl⟩
theorem open_state1 {cs:List Value} (h:DataW.trod enc Tryz.prog W base sp held fuel 34 cs=some x):∃ (s:St) (ax:Option Addr) (cx:Nat) (ar:Option Addr) (cr:Nat),cs=(stB s (.slice ax s.x.F.length cx) (.slice ar s.run.length cr)).toList∧LsR W ax cx s.x.F∧Word s.x.r∧(∀ l∈s.x.F,Word l.s)∧s.x.F.length≤9223372036854775807∧(∀ l∈s.x.F,l.L.length≤9223372036854775807)∧SlR W ar cr s.run∧s.run.length≤9223372036854775807:=by
 obtain ⟨xs,k,hk,hxy,hcl,hxl,hf⟩:=DataW.trod_struct Tryz.underlying34 h
 rw [cls] at hcl
 obtain ⟨v0,v1,v2,v3,v4,v5,v6,v7,v8,v9,v10,v11,v12,v13,v14,v15,v16,v17,v18,v19,v20,v21,v22,rfl⟩:=len23 hcl
 obtain ⟨y0,y1,y2,y3,y4,y5,y6,rfl⟩:=len7 (show xs.length=7 from hxl)
 have g0:=hf 0 _ rfl
 have g1:=hf 1 _ rfl
 have g2:=hf 2 _ rfl
 have g3:=hf 3 _ rfl
 have g4:=hf 4 _ rfl
 have g5:=hf 5 _ rfl
 have g6:=hf 6 _ rfl
 simp [cl3,cl4,clv,clb,cld,cl25,cl63] at g0 g1 g2 g3 g4 g5 g6
 obtain ⟨l,h0⟩:=open_level g0
 obtain ⟨b1,h1,_⟩:=DataW.trod_bool Tryz.underlying4 g1
 obtain ⟨n2,h2,_,_⟩:=DataW.trod_int Tryz.underlying3 g2
 obtain ⟨b3,c3,d3,h3⟩:=open_bound g3
 obtain ⟨d4,e4,h4⟩:=open_demand g4
 obtain ⟨r,gg,nn,oo,F,a,c,h5,hr,hwr,hw,hb,hb2⟩:=open_fair (cs:=#[v17,v18,v19,v20,v21]) g5
 obtain ⟨L,ar,cr,h6,hs,hb3⟩:=open_tickets g6
 simp [lvA] at h0 h1 h2 h3 h4 h5 h6
 obtain ⟨rfl,rfl,rfl,rfl,rfl,rfl,rfl,rfl,rfl,rfl⟩:=h0
 obtain ⟨rfl,rfl,rfl⟩:=h3
 obtain ⟨rfl,rfl⟩:=h4
 obtain ⟨rfl,rfl,rfl,rfl,rfl⟩:=h5
 subst h1 h2 h6
 exact ⟨⟨l,b1,n2,b3,c3,d3,d4,e4,⟨r,gg,nn,oo,F⟩,L⟩,a,c,ar,cr,rfl,hr,hwr,hw,hb,hb2,hs,hb3⟩
theorem open_state {cs:Array Value} (h:DataW.trod enc Tryz.prog W base sp held fuel 34 cs.toList=some x):∃ (s:St) (ax:Option Addr) (cx:Nat) (ar:Option Addr) (cr:Nat),cs=stB s (.slice ax s.x.F.length cx) (.slice ar s.run.length cr)∧LsR W ax cx s.x.F∧Word s.x.r∧(∀ l∈s.x.F,Word l.s)∧s.x.F.length≤9223372036854775807∧(∀ l∈s.x.F,l.L.length≤9223372036854775807)∧SlR W ar cr s.run∧s.run.length≤9223372036854775807:=by
 obtain ⟨s,ax,cx,ar,cr,e,r⟩:=open_state1 h
 exact ⟨s,ax,cx,ar,cr,Array.toList_inj.1 e,r⟩
end
end Go.Proofs.YtlgibnmoogbdcaaGreat
