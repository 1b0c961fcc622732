/-
  What 'schemasFormed' and 'Formed' of 'print' answer.
  What the functions of 'rules' that look at one level,one rule,one schema answer.
-/
import Derived.Test.YthkdbphgiobcdaaGreatDoorE7
import Derived.Test.YthkdbphgiobcdaaGreatDoorE8
import Derived.Test.YthkdbphgiobcdaaGreatDoorE4
namespace Go.Proofs.YthkdbphgiobcdaaGreatDoor
open Go.RowKit
def freshS (L:List Sc) (k:Nat) (h:k<L.length):Bool:=!((L.take k).any fun l=>decide (l.name=L[k].name))
theorem freshS_iff {L:List Sc} {k:Nat} {h:k<L.length} : freshS L k h=true ↔ ∀ j (hj:j<k),L[j].name≠L[k].name:=by
 unfold freshS
 rw [Bool.not_eq_true',List.any_eq_false]
 constructor
 ·intro H j hj
  have:=H L[j] (by rw [List.mem_take_iff_getElem];exact ⟨j,by omega,rfl⟩)
  simpa using this
 ·intro H l hl
  rw [List.mem_take_iff_getElem] at hl
  obtain ⟨j,hj,rfl⟩:=hl
  simpa using H j (by omega)
theorem schemas_bad {L:List Sc} {k:Nat} (h:k<L.length) (hb:freshS L k h=false∨scOk L[k]=false):schemasOk L=false:=by
 cases hL:schemasOk L with
 | false=>rfl
 | true =>
  unfold schemasOk at hL
  simp only [Bool.and_eq_true,decide_eq_true_eq,List.all_eq_true] at hL
  rcases hb with hb | hb
  ·have:freshS L k h=true:=freshS_iff.2 fun j hj=>List.pairwise_iff_getElem.1 hL.2.2 j k (by omega) h hj
   rw [hb] at this
   cases this
  ·have:=hL.2.1 L[k] (List.getElem_mem h)
   rw [hb] at this
   cases this
theorem schemas_good {L:List Sc} (h16:L.length≤32) (h:∀ k (h:k<L.length),freshS L k h=true∧scOk L[k]=true):schemasOk L=true:=by
 unfold schemasOk
 simp only [Bool.and_eq_true,decide_eq_true_eq,List.all_eq_true]
 refine ⟨h16,fun l hl=>?_,List.pairwise_iff_getElem.2 fun i j hi hj hij=>freshS_iff.1 (h j hj).1 i hij⟩
 obtain ⟨k,hk,rfl⟩:=List.getElem_of_mem hl
 exact (h k hk).2
theorem ScR.take {w:World} {b off:Nat} {L:List Sc} {V:List Value} (hc:∀ k (h:k<L.length) (h':k<V.length),∀ j,j<5→w.cell? ⟨b,off+k*5+j,none⟩=(scC L[k] V[k])[j]?) (hb:b<w.heap.size) (n:Nat):ScR w (some ⟨b,off,none⟩) (L.take n) (V.take n):=fun _ =>
 ⟨b,off,rfl,hb,fun k hk hk' j hj=>by rw [List.getElem_take,List.getElem_take];exact hc k (by rw [List.length_take] at hk;omega) (by rw [List.length_take] at hk';omega) j hj⟩
set_option maxRecDepth 20000 in
theorem schemas_ok (a:Option Addr) (c:Nat) (L:List Sc) (V:List Value) (w:World) (hr:ScR w a L V) (hV:V.length=L.length) (hRl:∀ k (h:k<L.length) (h':k<V.length),RlR w V[k] L[k].rules) (hc:L.length≤c) (hl:L.length≤9223372036854775807) (hn:∀ l∈L,l.name.size≤9223372036854775807∧l.level.size≤9223372036854775807) :
  Calls Tryz.prog 85 #[.slice a L.length c] w fun e w'=>e=.returned (.bool (schemasOk L))∧Below w.heap.size w w':=by
 by_cases h16:32<L.length
 ·have e:schemasOk L=false:=by unfold schemasOk;rw [decide_eq_false (by omega)];rfl
  rw [e]
  clear e hr hn hc hRl hV
  generalize L.length=n at *
  go_enter Tryz.func85,Tryz.ntmps85
  go_wp2_with fail
  go_ret
  exact ⟨rfl,Below.refl _ _⟩
 have HL:Hd (L.length≤32):=⟨by omega⟩
 have HB:Hd (∀ k (h:k<L.length),(freshS L k h=false∨scOk L[k]=false)→schemasOk L=false):=⟨fun k h=>schemas_bad h⟩
 have HG:Hd ((∀ k (h:k<L.length),freshS L k h=true∧scOk L[k]=true)→schemasOk L=true):=⟨schemas_good (by omega)⟩
 have HR:Hd (ScR w a L V∧(∀ l∈L,l.name.size≤9223372036854775807∧l.level.size≤9223372036854775807)∧V.length=L.length∧∀ k (h:k<L.length) (h':k<V.length),RlR w V[k] L[k].rules):=⟨hr,hn,hV,hRl⟩
 generalize schemasOk L=R at *
 obtain ⟨n,hnl⟩:∃ n,n=L.length:=⟨_,rfl⟩
 have HN:Hd (n=L.length):=⟨hnl⟩
 rw [←hnl]
 rw [←hnl] at hc
 have n16:n≤32:=by omega
 clear hr hn hl h16 hnl hV hRl
 go_enter Tryz.func85,Tryz.ntmps85
 go_wp2_with fail
 go_loopw [3,4,5,11] (fun i3 i4 i5 i wr=>∃ k:Nat,k≤n∧i=.int .i64 k∧Hd ((∀ j (h:j<L.length),j<k→freshS L j h=true∧scOk L[j]=true)∧Below w.heap.size w wr)) (fun _ _ _ i _=>n - (intOf i).toNat)
 case atStart=>exact ⟨0,Nat.zero_le _,rfl,⟨fun _ _ h=>absurd h (Nat.not_lt_zero _),Below.refl _ _⟩⟩
 case round =>
  obtain ⟨k,hk,rfl,hI⟩:=hrel
  by_cases hlt:k<n
  ·have hkL:k<L.length:=by rw [←HN.out];exact hlt
   obtain ⟨b,off,rfl,hb,hcs⟩:=(HR.out.1.carry hI.out.2) (by omega)
   have hkV:k<V.length:=by rw [HR.out.2.2.1];exact hkL
   have x0:wr.cell? ⟨b,off+k*5,none⟩=some (.string L[k].name):=hcs k hkL hkV 0 (by decide)
   have x1:wr.cell? ⟨b,off+k*5+1,none⟩=some (.string L[k].level):=hcs k hkL hkV 1 (by decide)
   have x2:wr.cell? ⟨b,off+k*5+2,none⟩=some (.int .i64 L[k].rank):=hcs k hkL hkV 2 (by decide)
   have x3:wr.cell? ⟨b,off+k*5+3,none⟩=some (.int .i64 L[k].way):=hcs k hkL hkV 3 (by decide)
   have x4:wr.cell? ⟨b,off+k*5+4,none⟩=some V[k]:=hcs k hkL hkV 4 (by decide)
   have HRl:Hd (RlR wr V[k] L[k].rules):=⟨(HR.out.2.2.2 k hkL hkV).carry hI.out.2⟩
   obtain ⟨va,vc,eV,-⟩:=id HRl.out
   have AL:=alloc_below wr (.cells #[.string L[k].name,.string L[k].level,.int .i64 L[k].rank,.int .i64 L[k].way,V[k]] 47)
   have NB:=Blk.new wr 47 #[.string L[k].name,.string L[k].level,.int .i64 L[k].rank,.int .i64 L[k].way,V[k]]
   have PH:=phasSc (some ⟨b,off,none⟩) c (L.take k) (V.take k) wr.heap.size L[k].name (wr.alloc (.cells #[.string L[k].name,.string L[k].level,.int .i64 L[k].rank,.int .i64 L[k].way,V[k]] 47)) (NB.cellv 0 rfl) ((ScR.take hcs hb k).carry AL) (by rw [List.length_take,List.length_take,HR.out.2.2.1]) (by rw [List.length_take];omega)
   have LO:Hd (∀ W,Below wr.heap.size wr W→Calls Tryz.prog 136 #[.agg #[.string L[k].name,.string L[k].level,.int .i64 L[k].rank,.int .i64 L[k].way,V[k]]] W fun e w'=>e=.returned (.bool (scOk L[k]))∧Below W.heap.size W w'):=⟨fun W hW=>schema_ok L[k] V[k] W (HRl.out.carry hW) (HR.out.2.1 L[k] (List.getElem_mem hkL)).1 (HR.out.2.1 L[k] (List.getElem_mem hkL)).2⟩
   have hf:((L.take k).any fun l=>decide (l.name=L[k].name))=!freshS L k hkL:=by unfold freshS;rw [Bool.not_not]
   have hlen:(L.take k).length=k:=by rw [List.length_take];omega
   rw [hf,hlen] at PH
   have HBad:Hd ((freshS L k hkL=false∨scOk L[k]=false)→R=false):=⟨HB.out k hkL⟩
   have HStep:Hd (freshS L k hkL=true→scOk L[k]=true→∀ j (h:j<L.length),j<k+1→freshS L j h=true∧scOk L[j]=true):=⟨fun h1 h2 j hj hjk=>by
    rcases Nat.lt_or_eq_of_le (Nat.le_of_lt_succ hjk) with h' | h'
    ·exact hI.out.1 j hj h'
    ·subst h';exact ⟨h1,h2⟩⟩
   have B1:Hd (Below w.heap.size w (wr.alloc (.cells #[.string L[k].name,.string L[k].level,.int .i64 L[k].rank,.int .i64 L[k].way,V[k]] 47))):=⟨hI.out.2.trans (AL.mono hI.out.2.size)⟩
   have HK:Hd (k<n):=⟨hlt⟩
   have AL0:Hd _:=⟨AL⟩
   clear hcs hf hlen AL hI HRl
   generalize freshS L k hkL=fr at *
   generalize L[k]=l at *
   generalize V[k]=vv at *
   clear hkL hkV
   generalize l.rules.length=rn at *
   subst eV
   have i1:(k:Int)<(n:Int):=by omega
   go_upto_region 6 with fail
   generalize wr.alloc _=w1 at *
   clear x0 x1 x2 x3 x4
   go_wp2_with fail
   go_at_call 130
   refine PH.mono ?_
   rintro e w2 ⟨rfl,b2⟩
   have B2:Hd (Below w.heap.size w w2):=⟨B1.out.trans (b2.mono B1.out.size)⟩
   have N2:=NB.kept (Kept.of_below b2 (fun _=>False)) id
   have LO2:=LO.out w2 (AL0.out.trans (b2.mono AL0.out.size))
   clear PH NB b2 B1 LO AL0
   cases fr with
   | false =>
    have hR:=HBad.out (.inl rfl)
    subst hR
    go_wp2_with fail
    go_ret
    exact ⟨rfl,B2.out⟩
   | true =>
    have d0:=N2.cellv 0 rfl
    have d1:=N2.cellv 1 rfl
    have d2:=N2.cellv 2 rfl
    have d3:=N2.cellv 3 rfl
    have d4:=N2.cellv 4 rfl
    simp at d0 d1 d2 d3 d4
    clear N2
    generalize scOk l=ok at *
    cases ok with
    | false =>
     have hR:=HBad.out (.inr rfl)
     subst hR
     go_wp2_with (go_at_call 136;refine LO2.mono ?_;rintro e w3 ⟨rfl,b3⟩)
     go_ret
     exact ⟨rfl,B2.out.trans (b3.mono B2.out.size)⟩
    | true =>
     go_wp2_with (go_at_call 136;refine LO2.mono ?_;rintro e w3 ⟨rfl,b3⟩)
     have F3:Hd ((∀ j (h:j<L.length),j<k+1→freshS L j h=true∧scOk L[j]=true)∧Below w.heap.size w w3):=⟨HStep.out (by first | exact rfl | trivial) (by first | exact rfl | trivial),B2.out.trans (b3.mono B2.out.size)⟩
     go_roundw
     case rel =>
      first
       | exact ⟨k+1,HK.out,by go_num,F3⟩
       | ((repeat apply Exists.intro);exact ⟨⟨k+1,HK.out,by go_num,F3⟩,rfl⟩)
     case measure=>have:=HK.out;simp [intOf];omega
  ·obtain rfl:k=n:=by omega
   have hR:=HG.out fun j h=>hI.out.1 j h (by rw [HN.out];exact h)
   subst hR
   go_wp2_with fail
   go_ret
   exact ⟨rfl,hI.out.2⟩
set_option maxRecDepth 20000 in
theorem formed_ok (v:Value) (C:Cf) (w:World) (h:CfR w v C):Calls Tryz.prog 42 #[v] w fun e w'=>e=.returned (.bool (formed C))∧Below w.heap.size w w':=by
 obtain ⟨aL,cL,aS,cS,V,rfl,hcL,hcS,hLv,hV,hSc,hRl⟩:=h.ex
 have sz:=h.sz
 have nm:=h.nm
 have W1:=fun W=>within_ok C.total 0 4096 W
 have W2:=fun W=>within_ok C.period 0 1000 W
 have W3:=fun W=>seats_ok C.perSeat C.most W
 have AL:=alloc_below w (.cells #[.int .i64 C.total,.int .i64 C.period,.int .i64 C.perSeat,.int .i64 C.most,.slice aL C.levels.length cL,.slice aS C.schemas.length cS] 25)
 have NB:=Blk.new w 25 #[.int .i64 C.total,.int .i64 C.period,.int .i64 C.perSeat,.int .i64 C.most,.slice aL C.levels.length cL,.slice aS C.schemas.length cS]
 have LV:=levels_ok aL cL C.levels _ (hLv.carry AL) hcL sz.1 nm.1
 have SC:Hd (∀ W,Below w.heap.size w W→Calls Tryz.prog 85 #[.slice aS C.schemas.length cS] W fun e w'=>e=.returned (.bool (schemasOk C.schemas))∧Below W.heap.size W w'):=⟨fun W hW=>schemas_ok aS cS C.schemas V W (hSc.carry hW) hV (fun k h1 h2=>(hRl k h1 h2).carry hW) hcS sz.2 nm.2⟩
 have e:formed C=(inI C.total 0 4096 && (inI C.period 0 1000 && (seatsOk C.perSeat C.most && (levelsOk C.levels && schemasOk C.schemas)))):=rfl
 rw [e]
 clear e h sz nm hLv hV hSc hRl hcL hcS
 generalize inI C.total 0 4096=p1 at *
 generalize inI C.period 0 1000=p2 at *
 generalize seatsOk C.perSeat C.most=p3 at *
 generalize levelsOk C.levels=p4 at *
 generalize schemasOk C.schemas=p5 at *
 generalize C.levels.length=nL at *
 generalize C.schemas.length=nS at *
 have AL0:Hd _:=⟨AL⟩
 go_enter Tryz.func42,Tryz.ntmps42
 go_upto_region 1 with fail
 generalize w.alloc _=w1 at *
 have d0:=NB.cellv 0 rfl
 have d1:=NB.cellv 1 rfl
 have d2:=NB.cellv 2 rfl
 have d3:=NB.cellv 3 rfl
 have d4:=NB.cellv 4 rfl
 simp at d0 d1 d2 d3 d4
 cases p1 with
 | false =>
  go_wp2_with (go_at_call 82;refine (W1 _).mono ?_;rintro e w' ⟨rfl,hw⟩;obtain rfl:=hw.symm)
  go_ret
  exact ⟨rfl,AL⟩
 | true =>
  go_wp2_with fail
  go_at_call 82
  refine (W1 _).mono ?_
  rintro e w2 ⟨rfl,hw⟩
  obtain rfl:=hw.symm
  cases p2 with
  | false =>
   go_wp2_with (go_at_call 82;refine (W2 _).mono ?_;rintro e w' ⟨rfl,hw⟩;obtain rfl:=hw.symm)
   go_ret
   exact ⟨rfl,AL⟩
  | true =>
   go_wp2_with fail
   go_at_call 82
   refine (W2 _).mono ?_
   rintro e w2 ⟨rfl,hw⟩
   obtain rfl:=hw.symm
   cases p3 with
   | false =>
    go_wp2_with (go_at_call 83;refine (W3 _).mono ?_;rintro e w' ⟨rfl,hw⟩;obtain rfl:=hw.symm)
    go_ret
    exact ⟨rfl,AL⟩
   | true =>
    go_wp2_with fail
    go_at_call 83
    refine (W3 _).mono ?_
    rintro e w2 ⟨rfl,hw⟩
    obtain rfl:=hw.symm
    go_wp2_with fail
    go_at_call 84
    refine LV.mono ?_
    rintro e w3 ⟨rfl,b3⟩
    have B3:Hd (Below w.heap.size w w3):=⟨AL0.out.trans (b3.mono AL0.out.size)⟩
    have N3:=NB.kept (Kept.of_below b3 (fun _=>False)) id
    have d5:=N3.cellv 5 rfl
    simp at d5
    have SC3:=SC.out w3 B3.out
    clear LV SC N3 NB b3 AL AL0 d0 d1 d2 d3 d4
    cases p4 with
    | false =>
     go_wp2_with fail
     go_ret
     exact ⟨rfl,B3.out⟩
    | true =>
     go_wp2_with (go_at_call 85;refine SC3.mono ?_;rintro e w4 ⟨rfl,b4⟩)
     go_ret
     exact ⟨rfl,B3.out.trans (b4.mono B3.out.size)⟩
theorem lit_yes {x:ByteArray} {a:Array UInt8} (h:x=⟨a⟩):(x.toList == a.toList)=true:=by subst h;rw [ByteArray.toList_eq];simp
theorem lit_no {x:ByteArray} {a:Array UInt8} (h:x≠⟨a⟩):(x.toList == a.toList)=false:=by
 have:=str_ne h
 rw [ByteArray.toList_eq (⟨a⟩:ByteArray)] at this
 exact this
theorem lvText_ok (x:ByteArray) (w:World) (hx:x.size≤9223372036854775000):Calls Tryz.prog 45 #[.string x] w fun e w'=>e=.returned (.string (lvT x))∧w'=w:=by
 have hz:(⟨#[108,101,118,101,108,32]⟩:ByteArray).size=6:=rfl
 unfold lvT
 go_enter Tryz.func45,Tryz.ntmps45
 go_wp2_with fail
 go_ret
 exact ⟨rfl,rfl⟩
theorem scText_ok (x:ByteArray) (w:World) (hx:x.size≤9223372036854775000):Calls Tryz.prog 47 #[.string x] w fun e w'=>e=.returned (.string (scT x))∧w'=w:=by
 have hz:(⟨#[115,99,104,101,109,97,32]⟩:ByteArray).size=7:=rfl
 unfold scT
 go_enter Tryz.func47,Tryz.ntmps47
 go_wp2_with fail
 go_ret
 exact ⟨rfl,rfl⟩
set_option maxRecDepth 20000 in
theorem lvFits_ok (l:Lv) (w:World):Calls Tryz.prog 87 #[.agg (lvA l)] w fun e w'=>e=.returned (.bool (lvFit l))∧Below w.heap.size w w':=by
 have B1:=alloc_below w (.cells (lvA l) 43)
 have N1:=Blk.new w 43 (lvA l)
 have c0:=N1.cellv (v:=.string l.name) 0 rfl
 have c1:=N1.cellv (v:=.int .i64 l.kind) 1 rfl
 have c2:=N1.cellv (v:=.int .i64 l.shares) 2 rfl
 show Calls Tryz.prog 87 #[.agg #[.string l.name,.int .i64 l.kind,.int .i64 l.shares,.int .i64 l.lend,.int .i64 l.borrow,.int .i64 l.queues,.int .i64 l.hand,.int .i64 l.length,.int .i64 l.wait,.int .i64 l.guess]] w _
 unfold lvA at B1 c0 c1 c2
 have HE:Hd (lvFit l=if l.name=tExempt then l.kind == 1 else if l.name=tCatch then l.kind != 1 && l.shares != 0 else true):=⟨rfl⟩
 generalize lvFit l=R at *
 clear N1
 go_enter Tryz.func87,Tryz.ntmps87
 go_upto_region 1 with fail
 generalize w.alloc _=w1 at *
 by_cases h1:l.name=tExempt
 ·have q1:=lit_yes h1
  have HR:Hd (R=(l.kind == 1)):=⟨by rw [HE.out,if_pos h1]⟩
  clear HE h1
  go_wp2_with fail
  go_ret
  exact ⟨by rw [HR.out];rfl,B1⟩
 ·have q1:=lit_no h1
  by_cases h2:l.name=tCatch
  ·have q2:=lit_yes h2
   have HR:Hd (R=(l.kind != 1 && l.shares != 0)):=⟨by rw [HE.out,if_neg h1,if_pos h2]⟩
   clear HE h1 h2
   cases hk:(l.kind != 1) with
   | false =>
    have HS:Hd (R=false):=⟨by rw [HR.out,hk];rfl⟩
    clear HR
    go_wp2_with fail
    go_ret
    exact ⟨by rw [HS.out];rfl,B1⟩
   | true =>
    have HS:Hd (R=(l.shares != 0)):=⟨by rw [HR.out,hk];rfl⟩
    clear HR
    go_wp2_with fail
    go_ret
    exact ⟨by rw [HS.out];rfl,B1⟩
  ·have q2:=lit_no h2
   have HR:Hd (R=true):=⟨by rw [HE.out,if_neg h1,if_neg h2]⟩
   clear HE h1 h2
   go_wp2_with fail
   go_ret
   exact ⟨by rw [HR.out];rfl,B1⟩
set_option maxRecDepth 20000 in
theorem lvErr_ok (l:Lv) (w:World):Calls Tryz.prog 44 #[.agg (lvA l)] w fun e w'=>e=.returned (.int .i64 (lvErr l))∧Below w.heap.size w w':=by
 have B1:=alloc_below w (.cells (lvA l) 43)
 have N1:=Blk.new w 43 (lvA l)
 have c0:=N1.cellv (v:=.string l.name) 0 rfl
 have c1:=N1.cellv (v:=.int .i64 l.kind) 1 rfl
 have c2:=N1.cellv (v:=.int .i64 l.shares) 2 rfl
 have c3:=N1.cellv (v:=.int .i64 l.lend) 3 rfl
 have c4:=N1.cellv (v:=.int .i64 l.borrow) 4 rfl
 have c5:=N1.cellv (v:=.int .i64 l.queues) 5 rfl
 have c6:=N1.cellv (v:=.int .i64 l.hand) 6 rfl
 have c7:=N1.cellv (v:=.int .i64 l.length) 7 rfl
 have c8:=N1.cellv (v:=.int .i64 l.wait) 8 rfl
 have c9:=N1.cellv (v:=.int .i64 l.guess) 9 rfl
 have LF:=fun W=>lvFits_ok l W
 show Calls Tryz.prog 44 #[.agg #[.string l.name,.int .i64 l.kind,.int .i64 l.shares,.int .i64 l.lend,.int .i64 l.borrow,.int .i64 l.queues,.int .i64 l.hand,.int .i64 l.length,.int .i64 l.wait,.int .i64 l.guess]] w _
 unfold lvA at B1 c0 c1 c2 c3 c4 c5 c6 c7 c8 c9 LF
 have HE:Hd (lvErr l=if l.kind=3∧refH l.queues l.hand≠0 then refH l.queues l.hand else if lvFit l then 0 else 11):=⟨rfl⟩
 generalize lvErr l=R at *
 clear N1
 go_enter Tryz.func44,Tryz.ntmps44
 go_upto_region 1 with fail
 generalize w.alloc _=w1 at *
 have FIN:Hd (¬ (l.kind=3∧refH l.queues l.hand≠0)→R=if lvFit l then 0 else 11):=⟨fun h=>by rw [HE.out,if_neg h]⟩
 generalize lvFit l=ft at *
 by_cases hk:l.kind=3
 ·have kb:(l.kind == 3)=true:=by simp [hk]
  cases hh:(refH l.queues l.hand == 0) with
  | false =>
   have HN:=fun W=>hands_no l.queues l.hand W hh
   have HR:Hd (R=refH l.queues l.hand):=⟨by rw [HE.out,if_pos ⟨hk,by simpa using hh⟩]⟩
   have hne:(refH l.queues l.hand != 0)=true:=by simpa using hh
   clear HE FIN hk
   generalize refH l.queues l.hand=z at *
   go_wp2_with (go_at_call 86;refine (HN _).mono ?_;rintro e w' ⟨rfl,hw⟩;obtain rfl:=hw.symm)
   go_ret
   exact ⟨by rw [HR.out];rfl,B1⟩
  | true =>
   have hz:refH l.queues l.hand=0:=by simpa using hh
   obtain ⟨D,m,e1,e2,hg⟩:=hgood_of hz
   have HY:=fun W=>hands_yes D m W hg
   have HR:Hd (R=if ft then 0 else 11):=⟨FIN.out (fun h=>h.2 hz)⟩
   rw [e1] at c5 LF ⊢
   rw [e2] at c6 LF ⊢
   clear HE FIN hk hz hh hg e1 e2
   generalize hP D m=z at *
   cases ft with
   | false =>
    go_wp2_with (first | (go_at_call 86;refine (HY _).mono ?_;rintro e w' ⟨rfl,hw⟩;obtain rfl:=hw.symm) | (go_at_call 87;refine (LF _).mono ?_;rintro e w' ⟨rfl,b2⟩))
    go_ret
    exact ⟨by rw [HR.out];rfl,B1.trans (b2.mono B1.size)⟩
   | true =>
    go_wp2_with (first | (go_at_call 86;refine (HY _).mono ?_;rintro e w' ⟨rfl,hw⟩;obtain rfl:=hw.symm) | (go_at_call 87;refine (LF _).mono ?_;rintro e w' ⟨rfl,b2⟩))
    go_ret
    exact ⟨by rw [HR.out];rfl,B1.trans (b2.mono B1.size)⟩
 ·have kb:(l.kind == 3)=false:=by simpa using hk
  have HR:Hd (R=if ft then 0 else 11):=⟨FIN.out (fun h=>hk h.1)⟩
  clear HE FIN hk
  cases ft with
  | false =>
   go_wp2_with (go_at_call 87;refine (LF _).mono ?_;rintro e w' ⟨rfl,b2⟩)
   go_ret
   exact ⟨by rw [HR.out];rfl,B1.trans (b2.mono B1.size)⟩
  | true =>
   go_wp2_with (go_at_call 87;refine (LF _).mono ?_;rintro e w' ⟨rfl,b2⟩)
   go_ret
   exact ⟨by rw [HR.out];rfl,B1.trans (b2.mono B1.size)⟩
theorem rhasLv_ok (a:Option Addr) (c:Nat) (L:List Lv) (x:ByteArray) (w:World) (hr:LvR w a L) (hl:L.length≤65536) :
  Calls Tryz.prog 88 #[.slice a L.length c,.string x] w fun e w'=>e=.returned (.bool (anyL L x))∧Below w.heap.size w w':=by
 have AL:=alloc_below w (.cells #[.string x] 9)
 have P:=phasLvR a c L w.heap.size x (w.alloc (.cells #[.string x] 9)) ((Blk.new w 9 #[.string x]).cellv 0 rfl) (hr.carry AL) hl
 have BB:Hd (Below w.heap.size w (w.alloc (.cells #[.string x] 9))):=⟨AL⟩
 unfold anyL
 clear AL hr
 generalize (L.any fun l=>decide (l.name=x))=b at *
 generalize L.length=m at *
 go_enter Tryz.func88,Tryz.ntmps88
 go_wp2_with (go_at_call 126;refine P.mono ?_;rintro e w' ⟨rfl,hb⟩)
 go_ret
 exact ⟨rfl,BB.out.trans (hb.mono BB.out.size)⟩
theorem rhasSc_ok (a:Option Addr) (c:Nat) (L:List Sc) (V:List Value) (x:ByteArray) (w:World) (hr:ScR w a L V) (hV:V.length=L.length) (hl:L.length≤65536) :
  Calls Tryz.prog 90 #[.slice a L.length c,.string x] w fun e w'=>e=.returned (.bool (anyS L x))∧Below w.heap.size w w':=by
 have AL:=alloc_below w (.cells #[.string x] 9)
 have P:=phasScR a c L V w.heap.size x (w.alloc (.cells #[.string x] 9)) ((Blk.new w 9 #[.string x]).cellv 0 rfl) (hr.carry AL) hV hl
 have BB:Hd (Below w.heap.size w (w.alloc (.cells #[.string x] 9))):=⟨AL⟩
 unfold anyS
 clear AL hr hV
 generalize (L.any fun l=>decide (l.name=x))=b at *
 generalize L.length=m at *
 go_enter Tryz.func90,Tryz.ntmps90
 go_wp2_with (go_at_call 130;refine P.mono ?_;rintro e w' ⟨rfl,hb⟩)
 go_ret
 exact ⟨rfl,BB.out.trans (hb.mono BB.out.size)⟩
theorem isAll_ok (v:Value) (L:List ByteArray) (w:World) (h:LsR w v L):Calls Tryz.prog 167 #[v] w fun e w'=>e=.returned (.bool (isStar L))∧w'=w:=by
 obtain ⟨a,c,rfl,hr,-,hl,-⟩:=h
 by_cases h1:L.length=1
 ·obtain ⟨x,rfl⟩:∃ x,L=[x]:=by
   match L,h1 with
   | [x],_=>exact ⟨x,rfl⟩
  have e:isStar [x]=decide (x=tStar):=by unfold isStar;simp
  rw [e]
  clear e h1
  obtain ⟨b,off,rfl,hb,hc⟩:=hr Nat.one_pos
  have c0:w.cell? ⟨b,off,none⟩=some (.string x):=hc 0 Nat.one_pos
  have e2:(x.toList == [42])=decide (x=tStar):=by
   have:=name_eq x tStar
   rw [ByteArray.toList_eq tStar] at this
   exact this
  clear hr hc
  generalize decide (x=tStar)=d at *
  simp only [List.length_cons,List.length_nil]
  go_enter Tryz.func167,Tryz.ntmps167
  go_wp2_with fail
  go_ret
  exact ⟨rfl,rfl⟩
 ·have e:isStar L=false:=by unfold isStar;rw [decide_eq_false];intro e;rw [e] at h1;exact h1 rfl
  rw [e]
  clear e hr
  generalize L.length=n at *
  have q:((n:Int) == 1)=false:=by simp;omega
  go_enter Tryz.func167,Tryz.ntmps167
  go_wp2_with fail
  go_ret
  exact ⟨rfl,rfl⟩
end Go.Proofs.YthkdbphgiobcdaaGreatDoor
