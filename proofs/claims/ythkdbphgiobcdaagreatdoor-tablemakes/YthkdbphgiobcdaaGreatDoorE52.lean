/-
  A configuration that comes in,opened,with the reach of its numbers.
  The table of powers that the rows list,as the library's theorem on strconv.Itoa asks it.
  What the rows' list gives a walk: errorType's cell and the library's table of powers;and a world that meets the list.
-/
import Derived.Test.YthkdbphgiobcdaaGreatDoorE17
import Derived.Test.YthkdbphgiobcdaaGreatDoorE41
import Derived.Test.YthkdbphgiobcdaaGreatDoorE24
import Derived.Lib.LaidU8
import Derived.Test.YthkdbphgiobcdaaGreatDoorE13
import Derived.ChangeVars
import Derived.LaidHandle
import Derived.LaidLaws
import Derived.Stop.Joined
import Derived.JoinedOf
import Derived.LaidSub
import Derived.Lay
namespace Go.Proofs.YthkdbphgiobcdaaGreatDoor
open Go.RowKit
theorem wf_top {x:Int} (h:(Lit.int .i64 x).wf=true):x≤9223372036854775807:=by
 simp [Lit.wf,IntKind.min,IntKind.max,IntKind.bits,IntKind.signed] at h;omega
theorem openW_level {H:Type} {enc:TypeId × Value→H} {W:World} {base:Nat} {sp:Nat→Bool} {held:Bool} {fuel:Nat} {x:DataW H × List MemPlace} {cs:List Value} (h:DataW.trod enc Tryz.prog W base sp held fuel 43 cs=some x):∃ l:Lv,cs=lvC l∧LvG l:=by
 obtain ⟨xs,k,hk,hxy,hcl,hxl,hf⟩:=DataW.trod_struct Tryz.underlying43 h
 rw [cl38] at hcl
 obtain ⟨v0,v1,v2,v3,v4,v5,v6,v7,v8,v9,rfl⟩:=len10 hcl
 obtain ⟨y0,y1,y2,y3,y4,y5,y6,y7,y8,y9,rfl⟩:=len10 (show xs.length=10 from hxl)
 ·skip
  have g0:=hf 0 _ rfl
  have g1:=hf 1 _ rfl
  have g2:=hf 2 _ rfl
  have g3:=hf 3 _ rfl
  have g4:=hf 4 _ rfl
  have g5:=hf 5 _ rfl
  have g6:=hf 6 _ rfl
  have g7:=hf 7 _ rfl
  have g8:=hf 8 _ rfl
  have g9:=hf 9 _ rfl
  simp [cl3,cl9] at g0 g1 g2 g3 g4 g5 g6 g7 g8 g9
  obtain ⟨s0,h0,_,w0⟩:=DataW.trod_string Tryz.underlying9 g0
  obtain ⟨n1,h1,_,g1'⟩:=DataW.trod_int Tryz.underlying3 g1
  obtain ⟨n2,h2,_,g2'⟩:=DataW.trod_int Tryz.underlying3 g2
  obtain ⟨n3,h3,_,g3'⟩:=DataW.trod_int Tryz.underlying3 g3
  obtain ⟨n4,h4,_,g4'⟩:=DataW.trod_int Tryz.underlying3 g4
  obtain ⟨n5,h5,_,g5'⟩:=DataW.trod_int Tryz.underlying3 g5
  obtain ⟨n6,h6,_,g6'⟩:=DataW.trod_int Tryz.underlying3 g6
  obtain ⟨n7,h7,_,g7'⟩:=DataW.trod_int Tryz.underlying3 g7
  obtain ⟨n8,h8,_,g8'⟩:=DataW.trod_int Tryz.underlying3 g8
  obtain ⟨n9,h9,_,g9'⟩:=DataW.trod_int Tryz.underlying3 g9
  simp at h0 h1 h2 h3 h4 h5 h6 h7 h8 h9
  subst h0 h1 h2 h3 h4 h5 h6 h7 h8 h9
  exact ⟨⟨s0,n1,n2,n3,n4,n5,n6,n7,n8,n9⟩,rfl,by unfold maxLen at w0;simp only;omega,wf_top g1',wf_top g2',wf_top g3',wf_top g4',wf_top g5',wf_top g6',wf_top g7',wf_top g8',wf_top g9'⟩
theorem openW_schema {H:Type} {enc:TypeId × Value→H} {W:World} {base:Nat} {sp:Nat→Bool} {held:Bool} {fuel:Nat} {x:DataW H × List MemPlace} {cs:List Value} (h:DataW.trod enc Tryz.prog W base sp held fuel 47 cs=some x):∃ p:Sc × Value,cs=scC p.1 p.2∧ScG p.1∧RlR W p.2 p.1.rules:=by
 obtain ⟨xs,k,hk,hxy,hcl,hxl,hf⟩:=DataW.trod_struct Tryz.underlying47 h
 rw [cl41] at hcl
 obtain ⟨v0,v1,v2,v3,v4,rfl⟩:=len5 hcl
 obtain ⟨y0,y1,y2,y3,y4,rfl⟩:=len5 (show xs.length=5 from hxl)
 ·skip
  have g0:=hf 0 _ rfl
  have g1:=hf 1 _ rfl
  have g2:=hf 2 _ rfl
  have g3:=hf 3 _ rfl
  have g4:=hf 4 _ rfl
  simp [cl3,cl9,cl39] at g0 g1 g2 g3 g4
  obtain ⟨s0,h0,_,w0⟩:=DataW.trod_string Tryz.underlying9 g0
  obtain ⟨s1,h1,_,w1⟩:=DataW.trod_string Tryz.underlying9 g1
  obtain ⟨n2,h2,_,g2'⟩:=DataW.trod_int Tryz.underlying3 g2
  obtain ⟨n3,h3,_,g3'⟩:=DataW.trod_int Tryz.underlying3 g3
  obtain ⟨rs,hr⟩:=open_rules g4
  simp at h0 h1 h2 h3
  subst h0 h1 h2 h3
  exact ⟨(⟨s0,s1,n2,n3,rs⟩,v4),rfl,⟨by unfold maxLen at w0;simp only;omega,by unfold maxLen at w1;simp only;omega,wf_top g2',wf_top g3'⟩,hr⟩
theorem openW_levels {H:Type} {enc:TypeId × Value→H} {W:World} {base:Nat} {sp:Nat→Bool} {held:Bool} {fuel:Nat} {x:DataW H × List MemPlace} {v:Value} (h:DataW.trod enc Tryz.prog W base sp held fuel 22 [v]=some x):∃ L a c,v=.slice a L.length c∧L.length≤c∧c≤9223372036854775807∧LvR W a L∧∀ l∈L,LvG l:=by
 rcases Go.Deep.open_slice Tryz.underlying22 h with ⟨hcs,_⟩ | ⟨a,l,c,m,n,D,Pl,hcs,_,hl,hm,hmm,_,hc⟩
 ·obtain rfl:v=.slice none 0 0:=by simpa using hcs
  exact ⟨[],none,0,rfl,Nat.le_refl _,Nat.zero_le _,fun h=>absurd h (Nat.lt_irrefl 0),fun _ h=>by cases h⟩
 ·obtain rfl:v=.slice (some a) l c:=by simpa using hcs
  have hlm:l≤m:=by rw [hmm];split <;> omega
  have hm9:c≤9223372036854775807:=by unfold maxLen at hm;omega
  have each:∀ k,k<l→∃ r:Lv,(∀ j,j<10→W.cell? (a.add (k*10+j))=(lvC r)[j]?)∧LvG r:=by
   intro k hk
   obtain ⟨cs',h1,h2⟩:=hc k (by omega)
   rw [cl38] at h1
   obtain ⟨_,hlen,hcell⟩:=World.cells?_some h1
   obtain ⟨r,rfl,hr⟩:=openW_level h2
   exact ⟨r,fun j hj=>by have:=hcell j hj;rw [Go.Deep.add_add] at this;exact this,hr⟩
  have:Inhabited Lv:=⟨⟨⟨#[]⟩,0,0,0,0,0,0,0,0,0⟩⟩
  obtain ⟨q,hq⟩:=Go.Deep.choose_lt each
  have hlen:((List.range l).map q).length=l:=by simp
  refine ⟨(List.range l).map q,some a,c,by rw [hlen],by omega,hm9,fun hn=>?_,fun y hy=>?_⟩
  ·rw [hlen] at hn
   obtain ⟨b,off,spot⟩:=a
   have hu0:W.cell? (Addr.add ⟨b,off,spot⟩ (0*10+0))=some (.string (q 0).name):=(hq 0 hn).1 0 (by decide)
   have hspot:spot=none:=by simpa [Addr.add] using World.cell?_spot hu0
   subst hspot
   rw [Go.WideShapes.add_plain] at hu0
   refine ⟨b,off,rfl,World.block_lt_of_cell? _ _ hu0,fun k hk j hj=>?_⟩
   have e:((List.range l).map q)[k]=q k:=by simp
   have:=(hq k (by rw [hlen] at hk;exact hk)).1 j hj
   rw [Go.WideShapes.add_plain,← Nat.add_assoc] at this
   rw [e]
   exact this
  ·obtain ⟨k,hk,rfl⟩:=List.mem_map.1 hy
   exact (hq k (List.mem_range.1 hk)).2
theorem openW_schemas {H:Type} {enc:TypeId × Value→H} {W:World} {base:Nat} {sp:Nat→Bool} {held:Bool} {fuel:Nat} {x:DataW H × List MemPlace} {v:Value} (h:DataW.trod enc Tryz.prog W base sp held fuel 23 [v]=some x):∃ S V a c,v=.slice a S.length c∧S.length≤c∧c≤9223372036854775807∧V.length=S.length∧ScR W a S V∧(∀ s∈S,ScG s)∧∀ k (h:k<S.length) (h':k<V.length),RlR W V[k] S[k].rules:=by
 rcases Go.Deep.open_slice Tryz.underlying23 h with ⟨hcs,_⟩ | ⟨a,l,c,m,n,D,Pl,hcs,_,hl,hm,hmm,_,hc⟩
 ·obtain rfl:v=.slice none 0 0:=by simpa using hcs
  exact ⟨[],[],none,0,rfl,Nat.le_refl _,Nat.zero_le _,rfl,(fun h=>absurd h (Nat.lt_irrefl 0)),(fun s h=>absurd h List.not_mem_nil),(fun k h=>absurd h (Nat.not_lt_zero _))⟩
 ·obtain rfl:v=.slice (some a) l c:=by simpa using hcs
  have hlm:l≤m:=by rw [hmm];split <;> omega
  have hm9:c≤9223372036854775807:=by unfold maxLen at hm;omega
  have each:∀ k,k<l→∃ p:Sc × Value,(∀ j,j<5→W.cell? (a.add (k*5+j))=(scC p.1 p.2)[j]?)∧ScG p.1∧RlR W p.2 p.1.rules:=by
   intro k hk
   obtain ⟨cs',h1,h2⟩:=hc k (by omega)
   rw [cl41] at h1
   obtain ⟨_,hlen,hcell⟩:=World.cells?_some h1
   obtain ⟨r,rfl,hr⟩:=openW_schema h2
   exact ⟨r,fun j hj=>by have:=hcell j hj;rw [Go.Deep.add_add] at this;exact this,hr⟩
  have:Inhabited (Sc × Value):=⟨(⟨⟨#[]⟩,⟨#[]⟩,0,0,[]⟩,.nilIface)⟩
  obtain ⟨q,hq⟩:=Go.Deep.choose_lt each
  have hlen:((List.range l).map fun k=>(q k).1).length=l:=by simp
  have hlenV:((List.range l).map fun k=>(q k).2).length=l:=by simp
  refine ⟨(List.range l).map fun k=>(q k).1,(List.range l).map fun k=>(q k).2,some a,c,by rw [hlen],by omega,hm9,by rw [hlen,hlenV],fun hn=>?_,fun y hy=>?_,fun k hk hk'=>?_⟩
  ·rw [hlen] at hn
   obtain ⟨b,off,spot⟩:=a
   have hu0:W.cell? (Addr.add ⟨b,off,spot⟩ (0*5+0))=some (.string (q 0).1.name):=(hq 0 hn).1 0 (by decide)
   have hspot:spot=none:=by simpa [Addr.add] using World.cell?_spot hu0
   subst hspot
   rw [Go.WideShapes.add_plain] at hu0
   refine ⟨b,off,rfl,World.block_lt_of_cell? _ _ hu0,fun k hk hk' j hj=>?_⟩
   have e:((List.range l).map fun k=>(q k).1)[k]=(q k).1:=by simp
   have e':((List.range l).map fun k=>(q k).2)[k]=(q k).2:=by simp
   have:=(hq k (by rw [hlen] at hk;exact hk)).1 j hj
   rw [Go.WideShapes.add_plain,← Nat.add_assoc] at this
   rw [e,e']
   exact this
  ·obtain ⟨k,hk,rfl⟩:=List.mem_map.1 hy
   exact (hq k (List.mem_range.1 hk)).2.1
  ·have e:((List.range l).map fun k=>(q k).1)[k]=(q k).1:=by simp
   have e':((List.range l).map fun k=>(q k).2)[k]=(q k).2:=by simp
   rw [e,e']
   exact (hq k (by rw [hlen] at hk;exact hk)).2.2
theorem open_confW {H:Type} {enc:TypeId × Value→H} {W:World} {base:Nat} {sp:Nat→Bool} {held:Bool} {fuel:Nat} {x:DataW H × List MemPlace} {cs:Array Value} (h:DataW.trod enc Tryz.prog W base sp held fuel 25 cs.toList=some x):∃ C,CfR W (.agg cs) C∧Wfc C:=by
 obtain ⟨xs,k,hk,hxy,hcl,hxl,hf⟩:=DataW.trod_struct Tryz.underlying25 h
 rw [cl25] at hcl
 obtain ⟨cs⟩:=cs
 simp only at h hf hcl ⊢
 obtain ⟨v0,v1,v2,v3,v4,v5,rfl⟩:=len6 hcl
 obtain ⟨y0,y1,y2,y3,y4,y5,rfl⟩:=len6 (show xs.length=6 from hxl)
 ·skip
  have g0:=hf 0 _ rfl
  have g1:=hf 1 _ rfl
  have g2:=hf 2 _ rfl
  have g3:=hf 3 _ rfl
  have g4:=hf 4 _ rfl
  have g5:=hf 5 _ rfl
  simp [cl3,cl22,cl23] at g0 g1 g2 g3 g4 g5
  obtain ⟨n0,h0,_,g0'⟩:=DataW.trod_int Tryz.underlying3 g0
  obtain ⟨n1,h1,_,g1'⟩:=DataW.trod_int Tryz.underlying3 g1
  obtain ⟨n2,h2,_,g2'⟩:=DataW.trod_int Tryz.underlying3 g2
  obtain ⟨n3,h3,_,g3'⟩:=DataW.trod_int Tryz.underlying3 g3
  obtain ⟨L,aL,cL,rfl,l1,l2,l3,l4⟩:=openW_levels g4
  obtain ⟨S,V,aS,cS,rfl,s1,s2,s3,s4,s5,s6⟩:=openW_schemas g5
  simp at h0 h1 h2 h3
  subst h0 h1 h2 h3
  exact ⟨⟨n0,n1,n2,n3,L,S⟩,⟨⟨by simp only;omega,by simp only;omega⟩,⟨fun l hl=>(l4 l hl).nm,fun s hs=>⟨(s5 s hs).nm,(s5 s hs).lv⟩⟩,aL,cL,aS,cS,V,rfl,l1,s1,l3,s3,s4,s6⟩,⟨wf_top g0',wf_top g1',wf_top g2',wf_top g3',l4,s5⟩⟩
end Go.Proofs.YthkdbphgiobcdaaGreatDoor

namespace Go.Proofs.YthkdbphgiobcdaaGreatDoor
open Go.Lib
theorem pow_datum:(Rows.laid_internal_strconv_uint64pow10:DataW Unit)=tabData .u64 pow10Tab:=by kernel_rfl
theorem pow_tab {W:World} (h:VarReads Tryz.prog W powName Rows.laid_internal_strconv_uint64pow10):Tab W:=by
 obtain ⟨g,t,cs,fuel,p,hg,ht,hv,hd⟩:=h
 obtain rfl:2=g:=Option.some.inj ((show Tryz.prog.globalNamed powName=some 2 by kernel_rfl).symm.trans hg)
 obtain rfl:221=t:=Option.some.inj ((show (Tryz.prog.globals[2]?).map (·.type)=some 221 by kernel_rfl).symm.trans ht)
 rw [pow_datum] at hd
 unfold Tab TabIs
 rw [hv,← cells_of_tab Tryz.underlying221 Tryz.underlying29 (by kernel_rfl) (by kernel_rfl) hd]
end Go.Proofs.YthkdbphgiobcdaaGreatDoor

namespace Go.Proofs.YthkdbphgiobcdaaGreatDoor
open Go.ChangeShapes Go.WideShapes Go.RowKit Go.Lib
theorem etNumber : Tryz.prog.globalNamed "errors.errorType" = some 0 := by kernel_rfl
theorem oneRow:((List.range 252).filter fun t=>Tryz.prog.rowNamed t [101,114,114,111,114])=[33]:=by kernel_rfl
theorem typesSize:Tryz.prog.types.size=252:=by kernel_rfl
theorem et_of {W : World} (h : handlesMet Tryz.prog [("errors.errorType", Rows.laid_errors_errorType)] W) : ET W := by
 obtain ⟨name,u,ty,e1,e2,e3,e4,e5⟩:=h _ (List.mem_singleton.2 rfl)
 have en:name=[101,114,114,111,114]:=(Option.some.inj e1).symm
 subst en
 obtain rfl:u=163:=(Option.some.inj (Eq.trans (by kernel_rfl) e2)).symm
 have hm:ty∈(List.range 252).filter fun t=>Tryz.prog.rowNamed t [101,114,114,111,114]:=List.mem_filter.2 ⟨List.mem_range.2 (by rw [←typesSize];exact e3),e4⟩
 rw [oneRow] at hm
 obtain rfl:=List.mem_singleton.1 hm
 have hh:typeHandle Tryz.prog 33=.pointer (some ⟨5,33,none⟩):=by kernel_rfl
 rw [hh] at e5
 unfold ET
 simpa using World.var?_cell etNumber e5 0
theorem dataOf:(Rows.tableMakesRow.laid.filter fun x=>x.2.handleName?.isNone)=Rows.tableMakesRow.laid.take 3:=by kernel_rfl
theorem handleOf : (Rows.tableMakesRow.laid.filter fun x => x.2.handleName?.isSome) = [("errors.errorType", Rows.laid_errors_errorType)] := by kernel_rfl
theorem both_of_laid {W:World} (h:laidMetH Tryz.prog Rows.tableMakesRow.laid W):ET W∧Tab W:=by
 obtain ⟨h1,h2⟩:=laidMetH_iff.1 h
 rw [dataOf] at h1
 rw [handleOf] at h2
 exact ⟨et_of h2,pow_tab (Lib.laidMet.reads h1 (.tail _ (.tail _ (.head _))))⟩
theorem ttWorld_met (os:Os) (args:Array Value):laidMetH Tryz.prog Rows.tableMakesRow.laid (({ World.laidAll Tryz.prog os (Rows.tableMakesRow.laid.take 3) with heap:=(World.laidAll Tryz.prog os (Rows.tableMakesRow.laid.take 3)).heap.modify 0 (fun | .cells _ t frozen=>.cells #[.iface 163 (.agg #[.pointer (some ⟨5,33,none⟩)])] t frozen | o=>o) } : World).forCall (fun _ _=>0) ⟨#[],args,[]⟩).memory :=
 laidMetH_of_parts (laidMet_of_run' 8 (by kernel_rfl) (by kernel_rfl)) (by kernel_rfl)
end Go.Proofs.YthkdbphgiobcdaaGreatDoor
