/-
  Lanes, tickets, lists of tickets and scripts that came in: how they lie in memory.
-/
import Derived.Test.YtlgibnmoogbdcaaGreatR9
import Derived.Deep.SlicePairs
import Derived.OpenShut
namespace Go.Proofs.YtlgibnmoogbdcaaGreat
open Go.ChangeShapes Go.WideShapes Go.ChangeAt Go.RowKit
theorem word_of {x:Int} (h:(Lit.int .u64 x).wf=true):Word x:=by
 simp [Lit.wf,IntKind.min,IntKind.max,IntKind.bits,IntKind.signed] at h
 exact ⟨by omega,by omega⟩
theorem cl3:Tryz.prog.cellsOf 3=1:=by kernel_rfl
theorem cl22:Tryz.prog.cellsOf 28=1:=by kernel_rfl
theorem cl63:Tryz.prog.cellsOf 32=1:=by kernel_rfl
theorem cl23:Tryz.prog.cellsOf 29=1:=by kernel_rfl
theorem cl25:Tryz.prog.cellsOf 31=5:=by kernel_rfl
theorem cl65:Tryz.prog.cellsOf 62=2:=by kernel_rfl
theorem cl28:Tryz.prog.cellsOf 36=5:=by kernel_rfl
theorem len2 {α:Type} {l:List α} (h:l.length=2):∃ a b,l=[a,b]:=by
 match l,h with
 | [a,b],_=>exact ⟨a,b,rfl⟩
theorem len5 {α:Type} {l:List α} (h:l.length=5):∃ a b c d e,l=[a,b,c,d,e]:=by
 match l,h with
 | [a,b,c,d,e],_=>exact ⟨a,b,c,d,e,rfl⟩
section
variable {H:Type} {enc:TypeId × Value→H} {W:World} {base:Nat} {sp:Nat→Bool} {held:Bool} {fuel:Nat} {x:DataW H × List MemPlace}
theorem open_tk1 {cs:List Value} (h:DataW.trod enc Tryz.prog W base sp held fuel 36 cs=some x):∃ t:Tk,cs=tkC t:=by
 obtain ⟨xs,k,hk,hxy,hcl,hxl,hf⟩:=DataW.trod_struct Tryz.underlying36 h
 rw [cl28] at hcl
 obtain ⟨v0,v1,v2,v3,v4,rfl⟩:=len5 hcl
 obtain ⟨y0,y1,y2,y3,y4,rfl⟩:=len5 (show xs.length=5 from hxl)
 have g0:=hf 0 _ rfl
 have g1:=hf 1 _ rfl
 have g2:=hf 2 _ rfl
 have g3:=hf 3 _ rfl
 have g4:=hf 4 _ rfl
 simp [cl3] at g0 g1 g2 g3 g4
 obtain ⟨n0,h0,_,_⟩:=DataW.trod_int Tryz.underlying3 g0
 obtain ⟨n1,h1,_,_⟩:=DataW.trod_int Tryz.underlying3 g1
 obtain ⟨n2,h2,_,_⟩:=DataW.trod_int Tryz.underlying3 g2
 obtain ⟨n3,h3,_,_⟩:=DataW.trod_int Tryz.underlying3 g3
 obtain ⟨n4,h4,_,_⟩:=DataW.trod_int Tryz.underlying3 g4
 simp at h0 h1 h2 h3 h4
 subst h0 h1 h2 h3 h4
 exact ⟨⟨n0,n1,n2,n3,n4⟩,rfl⟩
theorem gt_map (f:Nat→Tk):∀ (n k:Nat),k<n→gt ((List.range n).map f) k=f k:=fun n k h=>by
 unfold gt
 rw [List.getD_eq_getElem?_getD,List.getElem?_map,List.getElem?_range h]
 rfl
theorem open_tickets {v:Value} (h:DataW.trod enc Tryz.prog W base sp held fuel 32 [v]=some x) :
  ∃ L a c,v=.slice a L.length c∧SlR W a c L∧L.length≤9223372036854775807:=by
 rcases Go.Deep.open_slice Tryz.underlying32 h with ⟨hcs,_⟩ | ⟨a,l,c,m,n,D,Pl,hcs,_,hl,hm,hmm,hx,hc⟩
 ·obtain rfl:v=.slice none 0 0:=by simpa using hcs
  exact ⟨[],none,0,rfl,⟨Nat.le_refl _,fun _=>rfl,TkR.nil _ _⟩,by decide⟩
 ·obtain rfl:v=.slice (some a) l c:=by simpa using hcs
  have hlm:l≤m:=by rw [hmm];split <;> omega
  have each:∀ k,k<l→∃ r:Tk,∀ j,j<5→W.cell? (a.add (k*5+j))=(tkC r)[j]?:=by
   intro k hk
   obtain ⟨cs',h1,h2⟩:=hc k (by omega)
   rw [cl28] at h1
   obtain ⟨_,hlen,hcell⟩:=World.cells?_some h1
   obtain ⟨r,rfl⟩:=open_tk1 h2
   exact ⟨r,fun j hj=>by have:=hcell j hj;rw [Go.Deep.add_add] at this;exact this⟩
  have:Inhabited Tk:=⟨tkZ⟩
  obtain ⟨q,hq⟩:=Go.Deep.choose_lt each
  have hlen:((List.range l).map q).length=l:=by simp
  refine ⟨(List.range l).map q,some a,c,by rw [hlen],⟨by rw [hlen];exact hl,(fun h=>by cases h),fun hn=>?_⟩,by rw [hlen];unfold maxLen at hm;omega⟩
  have hn0:0<l:=by
   rcases Nat.eq_zero_or_pos l with e | e
   ·rw [e] at hn;exact absurd rfl hn
   ·exact e
  obtain ⟨b,off,spot⟩:=a
  have hu0:W.cell? (Addr.add ⟨b,off,spot⟩ (0*5+0))=some (.int .i64 (q 0).id):=hq 0 hn0 0 (by decide)
  have hspot:spot=none:=by simpa [Addr.add] using World.cell?_spot hu0
  subst hspot
  rw [Go.WideShapes.add_plain] at hu0
  refine ⟨b,off,rfl,World.block_lt_of_cell? _ _ hu0,fun j u hj=>?_⟩
  have hjl:j<l*5:=by
   rcases Nat.lt_or_ge j (l*5) with e | e
   ·exact e
   ·rw [List.getElem?_eq_none (by rw [tkCs_len,hlen];exact e)] at hj;cases hj
  have e1:j / 5*5+j % 5=j:=by omega
  have y:=hq (j / 5) (by omega) (j % 5) (by omega)
  have z:=tkCs_at ((List.range l).map q) (j / 5) (by rw [hlen];omega) (j % 5) (by omega)
  rw [gt_map q l (j / 5) (by omega),e1,hj] at z
  rw [Go.WideShapes.add_plain,e1,← z] at y
  exact y
theorem open_ticket {cs:Array Value} (h:DataW.trod enc Tryz.prog W base sp held fuel 36 cs.toList=some x):∃ t:Tk,cs=tkA t:=by
 obtain ⟨t,e⟩:=open_tk1 h
 obtain ⟨cs⟩:=cs
 simp only at e
 subst e
 exact ⟨t,rfl⟩
theorem open_lane1 {cs:List Value} (h:DataW.trod enc Tryz.prog W base sp held fuel 62 cs=some x):∃ z:Lz,cs=zC z∧Word z.1.s∧LzR W z∧z.1.L.length≤9223372036854775807:=by
 obtain ⟨xs,k,hk,hxy,hcl,hxl,hf⟩:=DataW.trod_struct Tryz.underlying62 h
 rw [cl65] at hcl
 obtain ⟨v0,v1,rfl⟩:=len2 hcl
 obtain ⟨y0,y1,rfl⟩:=len2 (show xs.length=2 from hxl)
 have g0:=hf 0 _ rfl
 have g1:=hf 1 _ rfl
 simp [cl22,cl63] at g0 g1
 obtain ⟨s0,h0,_,w0⟩:=DataW.trod_int Tryz.underlying28 g0
 obtain ⟨L,a,c,e1,r,hb⟩:=open_tickets g1
 simp at h0
 subst h0 e1
 exact ⟨(⟨s0,L⟩,.slice a L.length c),rfl,word_of w0,⟨a,c,rfl,r⟩,hb⟩
theorem open_lanes {v:Value} (h:DataW.trod enc Tryz.prog W base sp held fuel 29 [v]=some x) :
  ∃ F a c,v=.slice a F.length c∧LsR W a c F∧(∀ l∈F,Word l.s)∧F.length≤9223372036854775807∧∀ l∈F,l.L.length≤9223372036854775807:=by
 rcases Go.Deep.open_slice Tryz.underlying29 h with ⟨hcs,_⟩ | ⟨a,l,c,m,n,D,Pl,hcs,_,hl,hm,hmm,hx,hc⟩
 ·obtain rfl:v=.slice none 0 0:=by simpa using hcs
  exact ⟨[],none,0,rfl,LsR.nil W,(fun _ h=>by cases h),by decide,fun _ h=>by cases h⟩
 ·obtain rfl:v=.slice (some a) l c:=by simpa using hcs
  have hlm:l≤m:=by rw [hmm];split <;> omega
  have each:∀ k,k<l→∃ z:Lz,(∀ j,j<2→W.cell? (a.add (k*2+j))=(zC z)[j]?)∧Word z.1.s∧LzR W z∧z.1.L.length≤9223372036854775807:=by
   intro k hk
   obtain ⟨cs',h1,h2⟩:=hc k (by omega)
   rw [cl65] at h1
   obtain ⟨_,hlen,hcell⟩:=World.cells?_some h1
   obtain ⟨z,rfl,hw,hr,hb⟩:=open_lane1 h2
   exact ⟨z,fun j hj=>by have:=hcell j hj;rw [Go.Deep.add_add] at this;exact this,hw,hr,hb⟩
  have:Inhabited Lz:=⟨(lnZ,.slice none 0 0)⟩
  obtain ⟨q,hq⟩:=Go.Deep.choose_lt each
  have hlen:((List.range l).map q).length=l:=by simp
  have hmem:∀ z∈(List.range l).map q,∃ k,k<l∧z=q k:=fun z hz=>by
   obtain ⟨k,hk,e⟩:=List.mem_map.1 hz
   exact ⟨k,List.mem_range.1 hk,e.symm⟩
  have hget:∀ k,k<l→((List.range l).map q)[k]?=some (q k):=fun k hk=>by rw [List.getElem?_map,List.getElem?_range hk];rfl
  refine ⟨((List.range l).map q).map Prod.fst,some a,c,by rw [List.length_map,hlen],⟨by rw [List.length_map,hlen];exact hl,(fun h=>by cases h),(List.range l).map q,rfl,fun hn=>?_,fun z hz=>by obtain ⟨k,hk,rfl⟩:=hmem z hz;exact (hq k hk).2.2.1⟩,?_,by rw [List.length_map,hlen];unfold maxLen at hm;omega,?_⟩
  ·have hn0:0<l:=by
    rcases Nat.eq_zero_or_pos l with e | e
    ·rw [e] at hn;simp [zCs] at hn
    ·exact e
   obtain ⟨b,off,spot⟩:=a
   have hu0:W.cell? (Addr.add ⟨b,off,spot⟩ (0*2+0))=some (.int .u64 (q 0).1.s):=(hq 0 hn0).1 0 (by decide)
   have hspot:spot=none:=by simpa [Addr.add] using World.cell?_spot hu0
   subst hspot
   rw [Go.WideShapes.add_plain] at hu0
   refine ⟨b,off,rfl,World.block_lt_of_cell? _ _ hu0,fun j u hj=>?_⟩
   have hjl:j<l*2:=by
    rcases Nat.lt_or_ge j (l*2) with e | e
    ·exact e
    ·rw [List.getElem?_eq_none (by rw [zCs_len,hlen];exact e)] at hj;cases hj
   have e1:j / 2*2+j % 2=j:=by omega
   have y:=(hq (j / 2) (by omega)).1 (j % 2) (by omega)
   have z:=zCs_at ((List.range l).map q) (j / 2) _ (hget (j / 2) (by omega)) (j % 2) (by omega)
   rw [e1,hj] at z
   rw [Go.WideShapes.add_plain,e1,← z] at y
   exact y
  ·intro ln hln
   obtain ⟨z,hz,rfl⟩:=List.mem_map.1 hln
   obtain ⟨k,hk,rfl⟩:=hmem z hz
   exact (hq k hk).2.1
  ·intro ln hln
   obtain ⟨z,hz,rfl⟩:=List.mem_map.1 hln
   obtain ⟨k,hk,rfl⟩:=hmem z hz
   exact (hq k hk).2.2.2
theorem open_fair {cs:Array Value} (h:DataW.trod enc Tryz.prog W base sp held fuel 31 cs.toList=some x):∃ r g nn o F a c,cs=#[.int .u64 r,.int .i64 g,.int .i64 nn,.int .i64 o,.slice a F.length c]∧LsR W a c F∧Word r∧(∀ l∈F,Word l.s)∧F.length≤9223372036854775807∧∀ l∈F,l.L.length≤9223372036854775807:=by
 obtain ⟨xs,k,hk,hxy,hcl,hxl,hf⟩:=DataW.trod_struct Tryz.underlying31 h
 rw [cl25] at hcl
 obtain ⟨cs⟩:=cs
 simp only at h hf hcl ⊢
 obtain ⟨v0,v1,v2,v3,v4,rfl⟩:=len5 hcl
 obtain ⟨y0,y1,y2,y3,y4,rfl⟩:=len5 (show xs.length=5 from hxl)
 have g0:=hf 0 _ rfl
 have g1:=hf 1 _ rfl
 have g2:=hf 2 _ rfl
 have g3:=hf 3 _ rfl
 have g4:=hf 4 _ rfl
 simp [cl22,cl3,cl23] at g0 g1 g2 g3 g4
 obtain ⟨r,h0,_,w0⟩:=DataW.trod_int Tryz.underlying28 g0
 obtain ⟨n1,h1,_,_⟩:=DataW.trod_int Tryz.underlying3 g1
 obtain ⟨n2,h2,_,_⟩:=DataW.trod_int Tryz.underlying3 g2
 obtain ⟨n3,h3,_,_⟩:=DataW.trod_int Tryz.underlying3 g3
 obtain ⟨F,a,c,e4,rr,hw,hb,hb2⟩:=open_lanes g4
 simp at h0 h1 h2 h3
 subst h0 h1 h2 h3 e4
 exact ⟨r,n1,n2,n3,F,a,c,rfl,rr,word_of w0,hw,hb,hb2⟩
theorem open_hand {v:Value} (h:DataW.trod enc Tryz.prog W base sp held fuel 37 [v]=some x) :
  ∃ Hn a n c,v=.slice a n c∧HnR W a n Hn∧n≤9223372036854775807∧n≤c∧(a=none→c=0):=by
 rcases Go.Deep.open_slice Tryz.underlying37 h with ⟨hcs,_⟩ | ⟨a,l,c,m,n,D,Pl,hcs,_,hl,hm,hmm,hx,hc⟩
 ·obtain rfl:v=.slice none 0 0:=by simpa using hcs
  exact ⟨fun _=>0,none,0,0,rfl,(fun h=>absurd h (Nat.lt_irrefl _)),by decide,Nat.le_refl _,fun _=>rfl⟩
 ·obtain rfl:v=.slice (some a) l c:=by simpa using hcs
  have hlm:l≤m:=by rw [hmm];split <;> omega
  have each:∀ k,k<l→∃ z:Int,W.cell? (a.add k)=some (.int .i64 z):=by
   intro k hk
   obtain ⟨cs',h1,h2⟩:=hc k (by omega)
   rw [cl3] at h1
   obtain ⟨_,hlen,hcell⟩:=World.cells?_some h1
   obtain ⟨z,e,_,_⟩:=DataW.trod_int Tryz.underlying3 h2
   subst e
   refine ⟨z,?_⟩
   have:=hcell 0 (by decide)
   rw [Go.Deep.add_add,Nat.mul_one,Nat.add_zero] at this
   exact this
  obtain ⟨q,hq⟩:=Go.Deep.choose_lt each
  refine ⟨q,some a,l,c,rfl,fun hn=>?_,by unfold maxLen at hm;omega,hl,fun e=>by cases e⟩
  obtain ⟨b,off,spot⟩:=a
  have hu0:=hq 0 hn
  have hspot:spot=none:=by simpa [Addr.add] using World.cell?_spot hu0
  subst hspot
  rw [Go.WideShapes.add_plain] at hu0
  refine ⟨b,off,rfl,World.block_lt_of_cell? _ _ hu0,fun k hk=>?_⟩
  have:=hq k hk
  rw [Go.WideShapes.add_plain] at this
  exact this
end
end Go.Proofs.YtlgibnmoogbdcaaGreat
