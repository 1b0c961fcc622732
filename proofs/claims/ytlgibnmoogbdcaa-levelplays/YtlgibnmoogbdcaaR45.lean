/-
  Lanes, tickets, lists of tickets and scripts that came in: how they lie in memory.
-/
import Derived.Test.YtlgibnmoogbdcaaR9
import Derived.Deep.SlicePairs
import Derived.OpenShut
namespace Go.Proofs.Ytlgibnmoogbdcaa
open Go.ChangeShapes Go.WideShapes Go.ChangeAt Go.RowKit
theorem cl3:Try.prog.cellsOf 3=1:=by kernel_rfl
theorem cl26:Try.prog.cellsOf 43=1:=by kernel_rfl
theorem cl28:Try.prog.cellsOf 42=5:=by kernel_rfl
theorem len5 {α:Type} {l:List α} (h:l.length=5):∃ a b c d e,l=[a,b,c,d,e]:=by
 match l,h with
 | [a,b,c,d,e],_=>exact ⟨a,b,c,d,e,rfl⟩
section
variable {H:Type} {enc:TypeId × Value→H} {W:World} {base:Nat} {sp:Nat→Bool} {held:Bool} {fuel:Nat} {x:DataW H × List MemPlace}
theorem open_tk1 {cs:List Value} (h:DataW.trod enc Try.prog W base sp held fuel 42 cs=some x):∃ t:Tk,cs=tkC t:=by
 obtain ⟨xs,k,hk,hxy,hcl,hxl,hf⟩:=DataW.trod_struct Try.underlying42 h
 rw [cl28] at hcl
 obtain ⟨v0,v1,v2,v3,v4,rfl⟩:=len5 hcl
 obtain ⟨y0,y1,y2,y3,y4,rfl⟩:=len5 (show xs.length=5 from hxl)
 have g0:=hf 0 _ rfl
 have g1:=hf 1 _ rfl
 have g2:=hf 2 _ rfl
 have g3:=hf 3 _ rfl
 have g4:=hf 4 _ rfl
 simp [cl3] at g0 g1 g2 g3 g4
 obtain ⟨n0,h0,_,_⟩:=DataW.trod_int Try.underlying3 g0
 obtain ⟨n1,h1,_,_⟩:=DataW.trod_int Try.underlying3 g1
 obtain ⟨n2,h2,_,_⟩:=DataW.trod_int Try.underlying3 g2
 obtain ⟨n3,h3,_,_⟩:=DataW.trod_int Try.underlying3 g3
 obtain ⟨n4,h4,_,_⟩:=DataW.trod_int Try.underlying3 g4
 simp at h0 h1 h2 h3 h4
 subst h0 h1 h2 h3 h4
 exact ⟨⟨n0,n1,n2,n3,n4⟩,rfl⟩
theorem open_hand {v:Value} (h:DataW.trod enc Try.prog W base sp held fuel 43 [v]=some x) :
  ∃ Hn a n c,v=.slice a n c∧HnR W a n Hn∧n≤9223372036854775807∧n≤c∧(a=none→c=0):=by
 rcases Go.Deep.open_slice Try.underlying43 h with ⟨hcs,_⟩ | ⟨a,l,c,m,n,D,Pl,hcs,_,hl,hm,hmm,hx,hc⟩
 ·obtain rfl:v=.slice none 0 0:=by simpa using hcs
  exact ⟨fun _=>0,none,0,0,rfl,(fun h=>absurd h (Nat.lt_irrefl _)),by decide,Nat.le_refl _,fun _=>rfl⟩
 ·obtain rfl:v=.slice (some a) l c:=by simpa using hcs
  have hlm:l≤m:=by rw [hmm];split <;> omega
  have each:∀ k,k<l→∃ z:Int,W.cell? (a.add k)=some (.int .i64 z):=by
   intro k hk
   obtain ⟨cs',h1,h2⟩:=hc k (by omega)
   rw [cl3] at h1
   obtain ⟨_,hlen,hcell⟩:=World.cells?_some h1
   obtain ⟨z,e,_,_⟩:=DataW.trod_int Try.underlying3 h2
   subst e
   refine ⟨z,?_⟩
   have:=hcell 0 (by decide)
   rw [Go.Deep.add_add,Nat.mul_one,Nat.add_zero] at this
   exact this
  obtain ⟨q,hq⟩:=Go.Deep.choose_lt each
  refine ⟨q,some a,l,c,rfl,fun hn=>?_,by unfold maxLen at hm;omega,hl,fun e=>by cases e⟩
  obtain ⟨b,off,spot⟩:=a
  have hu0:=hq 0 hn
  have hspot:spot=none:=by simpa [Addr.add] using World.cell?_spot hu0
  subst hspot
  rw [Go.WideShapes.add_plain] at hu0
  refine ⟨b,off,rfl,World.block_lt_of_cell? _ _ hu0,fun k hk=>?_⟩
  have:=hq k hk
  rw [Go.WideShapes.add_plain] at this
  exact this
end
end Go.Proofs.Ytlgibnmoogbdcaa
