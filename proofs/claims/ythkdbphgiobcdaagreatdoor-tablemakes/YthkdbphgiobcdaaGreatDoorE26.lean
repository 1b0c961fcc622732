/-
  The lines of a schema and of a rule,as 'schemaLine' and 'ruleLine' of 'print' answer them.
  What 'Print' of 'print' answers.
  The hash: as plain mathematics,over Nat,byte by byte;what Sum and More of the program and of the reference answer.
  The table of a configuration as plain mathematics: filled,in order;its error;its digest;in whatever order it was told;made again.
  A row that is put in order by exchanges: the mathematics,and what the exchange of two elements does to memory.
-/
import Derived.Test.YthkdbphgiobcdaaGreatDoorE25
import Derived.Test.YthkdbphgiobcdaaGreatDoorE8
import Derived.Test.YthkdbphgiobcdaaGreatDoorRows
import Derived.WalkKit
import Derived.Laws.Bits64b
import Derived.Laws.BitsAllLaws
import Derived.Test.YthkdbphgiobcdaaGreatDoorE23
import Derived.Test.YthkdbphgiobcdaaGreatDoorE22
import Derived.Test.YthkdbphgiobcdaaGreatDoorE14
namespace Go.Proofs.YthkdbphgiobcdaaGreatDoor
open Go.RowKit Go.Lib
theorem joinB_size (L:List ByteArray):(joinB L).size≤1000:=by
 unfold joinB
 split
 ·rw [mk_size];decide
 split
 ·rw [mk_size];decide
 cases hg:good L with
 | false=>rw [if_neg (by decide),mk_size];decide
 | true =>
  rw [if_pos rfl,mk_size]
  have h:=good_iff.1 hg
  have hw:=good_words h
  have h8:=h.1
  cases L with
  | nil=>exact Nat.zero_le _
  | cons x r =>
   rw [List.map_cons,join_cons,List.length_append]
   have h1:=word_short (hw x (List.mem_cons_self ..))
   rw [←size_list] at h1
   have h2:=tail_len 44 (r.map (·.data.toList)) (fun y hy=>by
    obtain ⟨z,hz,rfl⟩:=List.mem_map.1 hy
    have:=word_short (hw z (List.mem_cons_of_mem _ hz))
    rwa [←size_list] at this)
   rw [List.length_map] at h2
   rw [List.length_cons] at h8
   omega
theorem by_short (n:Int):(byW n).size≤1000:=by
 unfold byW
 split
 ·decide
 ·split
  ·decide
  ·split <;> decide
set_option maxRecDepth 20000 in
set_option maxHeartbeats 4000000 in
theorem schemaLine_ok (s:Sc) (a:Option Addr) (n c:Nat) (w:World) (h:scOk s=true) (hT:Tab w) :
  Calls Tryz.prog 57 #[.agg #[.string s.name,.string s.level,.int .i64 s.rank,.int .i64 s.way,.slice a n c]] w fun e w'=>e=.returned (.string (lnB (scWs s)))∧Below w.heap.size w w':=by
 obtain ⟨h1,h2,⟨h3,h4⟩,-⟩:=scOk_iff.1 h
 have n1:=name_shortP h1
 have n2:=name_shortP h2
 have hT0:Hd (Tab w):=⟨hT⟩
 have D0:Hd (∀ W,Below w.heap.size w W→Calls Tryz.prog 112 #[.int .i64 s.rank] W fun e w'=>e=.returned (.string (digB s.rank))∧Below W.heap.size W w'):=⟨fun W hW=>digits_ok s.rank (by omega) (by omega) W (hT0.out.stays hW)⟩
 have D1:Hd (∀ W,Below w.heap.size w W→Calls Tryz.prog 114 #[.int .i64 s.way] W fun e w'=>e=.returned (.string (byW s.way))∧Below W.heap.size W w'):=⟨fun W _=>Calls.mono (by_ok s.way W) fun e w' h=>⟨h.1,by rw [h.2];exact Below.refl _ _⟩⟩
 have LN:Hd (∀ W:World,Calls Tryz.prog 111 #[.slice (some ⟨W.heap.size,0,none⟩) 5 5] (W.alloc (.cells #[.string tSchema,.string s.name,.string s.level,.string (digB s.rank),.string (byW s.way)] 9)) fun e w'=>e=.returned (.string (lnB (scWs s)))∧Below (W.alloc (.cells #[.string tSchema,.string s.name,.string s.level,.string (digB s.rank),.string (byW s.way)] 9)).heap.size (W.alloc (.cells #[.string tSchema,.string s.name,.string s.level,.string (digB s.rank),.string (byW s.way)] 9)) w'):=⟨fun W=>line_ok _ 5 (scWs s) _ (row_lit W (scWs s)) (Nat.le_refl _) (by unfold scWs;simp) (by unfold scWs;simp) (by
  have:=line_bound (ws:=scWs s) (fun x hx=>by
   simp only [scWs,List.mem_cons,List.not_mem_nil,or_false] at hx
   rcases hx with rfl | rfl | rfl | rfl | rfl
   ·decide
   ·exact n1
   ·exact n2
   ·exact dig_short _ (by omega)
   ·exact by_short _)
  have e:(scWs s).length=5:=rfl
  rw [e] at this;omega)⟩
 generalize lnB (scWs s)=RR at *
 generalize digB s.rank=x0 at *
 generalize byW s.way=x1 at *
 unfold tSchema at LN
 have AL:=alloc_below w (.cells #[.string s.name,.string s.level,.int .i64 s.rank,.int .i64 s.way,.slice a n c] 47)
 have NB:=Blk.new w 47 #[.string s.name,.string s.level,.int .i64 s.rank,.int .i64 s.way,.slice a n c]
 clear h h1 h2 h3 h4 n1 n2 hT
 go_enter Tryz.func57,Tryz.ntmps57
 go_upto_region 1 with fail
 generalize w.alloc _=w1 at *
 have DR:Below w1.heap.size w1 w1.drew:=⟨rfl,rfl,rfl,Nat.le_refl _,fun _ _=>rfl⟩
 have B0:Below w.heap.size w w1.drew:=AL.trans (DR.mono AL.size)
 have A0:=NB.kept (Kept.of_below DR (fun _=>False)) id
 refine AnyG.start (T:=fun w'=>Blk w' w.heap.size 47 #[.string s.name,.string s.level,.int .i64 s.rank,.int .i64 s.way,.slice a n c]) (U:=fun _=>True) (j0:=100) (by kernel_rfl) ?_
 clear DR AL NB
 generalize w1.drew=w0 at *
 refine .tq 0 3 A0 ?_;simp only [tkA,tkB,tkC]
 refine .tq 1 4 A0 ?_ (hy:=fun w hSw=>by have s4:=hSw.cellv (v:=.string s.name) 0 rfl;go_simp;rfl);simp only [tkA,tkB,tkC]
 refine .tq 2 5 A0 ?_;simp only [tkA,tkB,tkC]
 refine .tq 3 6 A0 ?_ (hy:=fun w hSw=>by have s4:=hSw.cellv (v:=.string s.level) 1 rfl;go_simp;rfl);simp only [tkA,tkB,tkC]
 refine .tq 4 7 A0 ?_;simp only [tkA,tkB,tkC]
 refine .tq 5 8 A0 ?_ (hy:=fun w hSw=>by have s4:=hSw.cellv (v:=.int .i64 s.rank) 2 rfl;go_simp;rfl);simp only [tkA,tkB,tkC]
 refine .tq 7 10 A0 ?_;simp only [tkA,tkB,tkC]
 refine .tq 8 11 A0 ?_ (hy:=fun w hSw=>by have s4:=hSw.cellv (v:=.int .i64 s.way) 3 rfl;go_simp;rfl);simp only [tkA,tkB,tkC]
 refine AnyG.ready (rs:=[6]) (by kernel_rfl) (by simp) ?_
 refine AllG.cons rfl (fun K hK=>?_) AllG.nil
 go_simp
 refine (D0.out w0 B0).mono ?_
 rintro e wk1 ⟨rfl,b1⟩
 have Ak1:=A0.kept (Kept.of_below b1 (fun _=>False)) id
 have Bk1:Below w.heap.size w wk1:=B0.trans (b1.mono B0.size)
 refine hK.out _ _ ⟨Ak1,fun _=>trivial⟩ ?_
 clear hK K b1 A0 B0
 refine AnyG.ready (rs:=[9]) (by kernel_rfl) (by simp) ?_
 refine AllG.cons rfl (fun K hK=>?_) AllG.nil
 go_simp
 refine (D1.out wk1 Bk1).mono ?_
 rintro e wk2 ⟨rfl,b2⟩
 have Ak2:=Ak1.kept (Kept.of_below b2 (fun _=>False)) id
 have Bk2:Below w.heap.size w wk2:=Bk1.trans (b2.mono Bk1.size)
 refine hK.out _ _ ⟨Ak2,fun _=>trivial⟩ ?_
 clear hK K b2 Ak1 Bk1
 have LL:=LN.out wk2
 refine AnyG.ready (rs:=[10]) (by kernel_rfl) (by simp) ?_
 refine AllG.cons rfl (fun K hK=>?_) AllG.nil
 go_simp
 have AL3:=alloc_below wk2 (.cells #[.string ⟨#[115,99,104,101,109,97]⟩,.string s.name,.string s.level,.string x0,.string x1] 9)
 have Ak3:=Ak2.kept (Kept.of_below AL3 (fun _=>False)) id
 have Bk3:Below w.heap.size w (wk2.alloc (.cells #[.string ⟨#[115,99,104,101,109,97]⟩,.string s.name,.string s.level,.string x0,.string x1] 9)):=Bk2.trans (AL3.mono Bk2.size)
 refine hK.out _ _ ⟨Ak3,fun _=>trivial⟩ ?_
 clear hK K AL3 Ak2 Bk2
 generalize wk2.alloc (.cells #[.string ⟨#[115,99,104,101,109,97]⟩,.string s.name,.string s.level,.string x0,.string x1] 9)=wk3 at *
 generalize wk2.heap.size=gk3 at *
 refine AnyG.ready (rs:=[11]) (by kernel_rfl) (by simp) ?_
 refine AllG.cons rfl (fun K hK=>?_) AllG.nil
 go_simp
 refine (LL).mono ?_
 rintro e wk4 ⟨rfl,b4⟩
 have Ak4:=Ak3.kept (Kept.of_below b4 (fun _=>False)) id
 have Bk4:Below w.heap.size w wk4:=Bk3.trans (b4.mono Bk3.size)
 refine hK.out _ _ ⟨Ak4,fun _=>trivial⟩ ?_
 clear hK K b4 Ak3 Bk3
 refine .tq 12 2 Ak4 ?_;simp only [tkA,tkB,tkC]
 refine AnyG.done (by kernel_rfl) ?_ _
 go_wp2_with fail
 go_ret
 exact ⟨rfl,Bk4⟩
theorem line_cons (x y:ByteArray) (r:List ByteArray):lineL (x :: y :: r)=x.data.toList++32 :: lineL (y :: r):=by
 unfold lineL
 simp only [List.map_cons]
 rw [join_cons,tail_cons,join_cons]
theorem rule_line (r:Rl):(⟨#[114,117,108,101,32]⟩:ByteArray)++lnB (rlJ r)=lnB (rlWs r):=by
 apply list_inj
 rw [cat_list]
 unfold lnB
 rw [mk_list,mk_list]
 unfold rlWs rlJ
 rw [line_cons tRule]
 simp [tRule]
set_option maxRecDepth 20000 in
theorem ruleLine_ok (v0 v1 v2 v3 v4:Value) (r:Rl) (w:World) (h:RuR w v0 v1 v2 v3 v4 r) :
  Calls Tryz.prog 58 #[.agg #[v0,v1,v2,v3,v4]] w fun e w'=>e=.returned (.string (lnB (rlWs r)))∧Below w.heap.size w w':=by
 have AL:=alloc_below w (.cells #[v0,v1,v2,v3,v4] 54)
 have NB:=Blk.new w 54 #[v0,v1,v2,v3,v4]
 have RW:=ruleWords_ok v0 v1 v2 v3 v4 r _ (h.carry AL)
 obtain ⟨⟨a0,c0,rfl,-⟩,⟨a1,c1,rfl,-⟩,⟨a2,c2,rfl,-⟩,⟨a3,c3,rfl,-⟩,⟨a4,c4,rfl,-⟩⟩:=h
 have hb:(lineL (rlJ r)).length≤1001*5:=line_bound (fun x hx=>by
  simp only [rlJ,List.mem_cons,List.not_mem_nil,or_false] at hx
  rcases hx with rfl | rfl | rfl | rfl | rfl <;> exact joinB_size _)
 have hsz:(lnB (rlJ r)).size≤6000:=by unfold lnB;rw [mk_size,List.length_append];simp;omega
 have LN:Hd (∀ a W,RowL W a (rlJ r)→Calls Tryz.prog 111 #[.slice a 5 5] W fun e w'=>e=.returned (.string (lnB (rlJ r)))∧Below W.heap.size W w'):=⟨fun a W hr=>line_ok a 5 (rlJ r) W hr (Nat.le_refl _) (by show 5≤_;omega) (by unfold rlJ;simp) (by omega)⟩
 have HE:Hd ((⟨#[114,117,108,101,32]⟩:ByteArray)++lnB (rlJ r)=lnB (rlWs r)):=⟨rule_line r⟩
 have five:(⟨#[114,117,108,101,32]⟩:ByteArray).size=5:=rfl
 generalize lnB (rlWs r)=RR at *
 generalize r.users.length=n0 at *
 generalize r.groups.length=n1 at *
 generalize r.verbs.length=n2 at *
 generalize r.resources.length=n3 at *
 generalize r.spaces.length=n4 at *
 clear hb
 go_enter Tryz.func58,Tryz.ntmps58
 go_upto_region 1 with fail
 generalize w.alloc _=w1 at *
 have d0:=NB.cellv 0 rfl
 have d1:=NB.cellv 1 rfl
 have d2:=NB.cellv 2 rfl
 have d3:=NB.cellv 3 rfl
 have d4:=NB.cellv 4 rfl
 simp at d0 d1 d2 d3 d4
 go_wp2_with fail
 go_at_call 115
 refine RW.mono ?_
 rintro e w2 ⟨a2',rfl,r2,b2⟩
 have LN2:=LN.out a2' w2 r2
 have B2:Hd (Below w.heap.size w w2):=⟨AL.trans (b2.mono AL.size)⟩
 clear RW b2 AL NB d0 d1 d2 d3 d4 LN r2
 generalize lnB (rlJ r)=y at *
 go_wp2_with (go_at_call 111;refine LN2.mono ?_;rintro e w3 ⟨rfl,b3⟩)
 go_ret
 exact ⟨by rw [←HE.out];rfl,B2.out.trans (b3.mono B2.out.size)⟩
theorem join_flat:∀ L:List (List UInt8),join L []=L.flatten
 | []=>rfl
 | x :: r=>by
  rw [join_cons]
  have:∀ R:List (List UInt8),joinTail [] R=R.flatten:=by
   intro R
   induction R with
   | nil=>rfl
   | cons y t ih=>unfold joinTail at ih ⊢;simp at ih ⊢
  rw [this]
  rfl
theorem flat_text:∀ Ws:List (List ByteArray),((Ws.map lnB).map (·.data.toList)).flatten=textL Ws
 | []=>rfl
 | x :: r=>by
  rw [List.map_cons,List.map_cons,List.flatten_cons,flat_text r,textL_cons]
  unfold lnB
  rw [mk_list]
theorem join_out (C:Cf):mk (join (((cfWs C).map lnB).map (·.data.toList)) [])=outB C:=by
 rw [join_flat,flat_text]
 rfl
def printE (C:Cf):Int:=if formed C then (if 65536<(outB C).size then 3 else 0) else 2
def printS (C:Cf):ByteArray:=if printE C=0 then outB C else ⟨#[]⟩
theorem short_lv {l:Lv} (h:lvOk l=true):(∀ x∈lvWs l,x.size≤1000)∧(lvWs l).length≤11:=by
 obtain ⟨hn,hk⟩:=lvOk_iff.1 h
 have ns:=name_shortP hn
 rcases hk with ⟨k,_⟩ | ⟨k,sh,_⟩ | ⟨k,sh,ln⟩
 ·have e:lvWs l=[tLevel,l.name,tExempt]:=by unfold lvWs;rw [if_pos k]
  rw [e]
  refine ⟨fun x hx=>?_,by simp⟩
  simp only [List.mem_cons,List.not_mem_nil,or_false] at hx
  rcases hx with rfl | rfl | rfl <;> first | exact ns | decide
 ·obtain ⟨⟨s1,s2⟩,⟨s3,s4⟩,s5⟩:=sharesOk_iff.1 sh
  have e:lvWs l=[tLevel,l.name,digB l.shares,digB l.lend,borW l.borrow,tReject]:=by unfold lvWs;rw [if_neg (by omega),if_pos k]
  rw [e]
  refine ⟨fun x hx=>?_,by simp⟩
  simp only [List.mem_cons,List.not_mem_nil,or_false] at hx
  rcases hx with rfl | rfl | rfl | rfl | rfl | rfl <;> first | exact ns | decide | exact dig_short _ (by omega) | exact bor_short _ (by rcases s5 with h | h <;> omega)
 ·obtain ⟨⟨s1,s2⟩,⟨s3,s4⟩,s5⟩:=sharesOk_iff.1 sh
  obtain ⟨⟨z1,z2⟩,⟨z3,z4⟩,⟨z5,z6⟩,⟨z7,z8⟩,⟨z9,z0⟩⟩:=lanesOk_iff.1 ln
  have e:lvWs l=[tLevel,l.name,digB l.shares,digB l.lend,borW l.borrow,tQueue,digB l.queues,digB l.hand,digB l.length,digB l.wait,digB l.guess]:=by unfold lvWs;rw [if_neg (by omega),if_neg (by omega),if_pos k]
  rw [e]
  refine ⟨fun x hx=>?_,by simp⟩
  simp only [List.mem_cons,List.not_mem_nil,or_false] at hx
  rcases hx with rfl | rfl | rfl | rfl | rfl | rfl | rfl | rfl | rfl | rfl | rfl <;> first | exact ns | decide | exact dig_short _ (by omega) | exact bor_short _ (by rcases s5 with h | h <;> omega)
theorem short_sc {s:Sc} (h:scOk s=true):∀ ws∈scLs s,(∀ x∈ws,x.size≤1000)∧ws.length≤11:=by
 obtain ⟨h1,h2,⟨h3,h4⟩,h5,h6,h7⟩:=scOk_iff.1 h
 intro ws hw
 rcases List.mem_cons.1 hw with rfl | hw
 ·refine ⟨fun x hx=>?_,by unfold scWs;simp⟩
  simp only [scWs,List.mem_cons,List.not_mem_nil,or_false] at hx
  rcases hx with rfl | rfl | rfl | rfl | rfl
  ·decide
  ·exact name_shortP h1
  ·exact name_shortP h2
  ·exact dig_short _ (by omega)
  ·exact by_short _
 ·obtain ⟨r,_,rfl⟩:=List.mem_map.1 hw
  refine ⟨fun x hx=>?_,by unfold rlWs rlJ;simp⟩
  simp only [rlWs,rlJ,List.mem_cons,List.not_mem_nil,or_false] at hx
  rcases hx with rfl | rfl | rfl | rfl | rfl | rfl
  ·decide
  ·exact joinB_size _
  ·exact joinB_size _
  ·exact joinB_size _
  ·exact joinB_size _
  ·exact joinB_size _
theorem short_cf {C:Cf} (h:Formed C):∀ ws∈cfWs C,(∀ x∈ws,x.size≤1000)∧ws.length≤11:=by
 intro ws hw
 unfold cfWs numWs at hw
 rcases List.mem_append.1 hw with hw | hw
 ·rcases List.mem_append.1 hw with hw | hw
  ·split at hw
   ·cases hw
   ·obtain rfl:=List.mem_singleton.1 hw
    refine ⟨fun x hx=>?_,by simp⟩
    simp only [List.mem_cons,List.not_mem_nil,or_false] at hx
    rcases hx with rfl | rfl
    ·decide
    ·exact dig_short _ (by have:=h.t;omega)
  ·rcases List.mem_append.1 hw with hw | hw
   ·split at hw
    ·cases hw
    ·obtain rfl:=List.mem_singleton.1 hw
     refine ⟨fun x hx=>?_,by simp⟩
     simp only [List.mem_cons,List.not_mem_nil,or_false] at hx
     rcases hx with rfl | rfl
     ·decide
     ·exact dig_short _ (by have:=h.p;omega)
   ·split at hw
    ·cases hw
    ·obtain rfl:=List.mem_singleton.1 hw
     refine ⟨fun x hx=>?_,by simp⟩
     simp only [List.mem_cons,List.not_mem_nil,or_false] at hx
     rcases hx with rfl | rfl | rfl
     ·decide
     ·exact dig_short _ (by rcases h.s with h | h <;> omega)
     ·exact dig_short _ (by rcases h.s with h | h <;> omega)
 ·rcases List.mem_append.1 hw with hw | hw
  ·obtain ⟨l,hl,rfl⟩:=List.mem_map.1 hw
   exact short_lv (h.lv l hl)
  ·obtain ⟨s,hs,hw⟩:=List.mem_flatMap.1 hw
   exact short_sc (h.sc s hs) ws hw
theorem text_bound:∀ Ws:List (List ByteArray),(∀ ws∈Ws,(∀ x∈ws,x.size≤1000)∧ws.length≤11)→(textL Ws).length≤12000*Ws.length
 | [],_=>Nat.le_refl _
 | x :: r,h=>by
  have i1:=text_bound r fun y hy=>h y (List.mem_cons_of_mem _ hy)
  have i2:=h x (List.mem_cons_self ..)
  have i3:=line_bound i2.1
  have i4:=i2.2
  rw [textL_cons,List.length_append,List.length_append,List.length_cons]
  simp only [List.length_cons,List.length_nil]
  omega
theorem flat_len:∀ ss:List Sc,(∀ s∈ss,s.rules.length≤8)→(ss.flatMap scLs).length≤9*ss.length
 | [],_=>Nat.le_refl _
 | s :: ss,h=>by
  have i1:=flat_len ss fun y hy=>h y (List.mem_cons_of_mem _ hy)
  have i2:=h s (List.mem_cons_self ..)
  rw [List.flatMap_cons,List.length_append,List.length_cons]
  have e:(scLs s).length=s.rules.length+1:=by unfold scLs;simp
  omega
theorem num_len (C:Cf):(numWs C).length≤3:=by
 unfold numWs
 by_cases a:C.total=0 <;> by_cases b:C.period=0 <;> by_cases c:C.perSeat=0 <;> simp [a,b,c]
theorem cf_len {C:Cf} (h:Formed C):(cfWs C).length≤400:=by
 unfold cfWs
 have h1:=num_len C
 have h2:=flat_len C.schemas fun s hs=>(scOk_iff.1 (h.sc s hs)).2.2.2.2.1
 have h3:=h.nl
 have h4:=h.ns
 rw [List.length_append,List.length_append,List.length_map]
 omega
theorem out_bound {C:Cf} (h:Formed C):(outB C).size≤4800000:=by
 unfold outB textB
 rw [mk_size]
 have h1:=text_bound (cfWs C) (short_cf h)
 have h2:=cf_len h
 omega
end Go.Proofs.YthkdbphgiobcdaaGreatDoor

namespace Go.Proofs.YthkdbphgiobcdaaGreatDoor.Fn
open Go.RowKit
def stp (h:Nat) (b:UInt8):Nat:=(h ^^^ b.toNat)*1099511628211 % 18446744073709551616
def hsh (h:Nat) (l:List UInt8):Nat:=l.foldl stp h
theorem stp_lt (h:Nat) (b:UInt8):stp h b<18446744073709551616:=by unfold stp;omega
theorem hsh_nil (h:Nat):hsh h []=h:=rfl
theorem hsh_app (h:Nat) (l m:List UInt8):hsh h (l++m)=hsh (hsh h l) m:=by unfold hsh;rw [List.foldl_append]
theorem hsh_cons (h:Nat) (b:UInt8) (l:List UInt8):hsh h (b :: l)=hsh (stp h b) l:=by unfold hsh;rw [List.foldl_cons]
theorem hsh_snoc (h:Nat) (l:List UInt8) (b:UInt8):hsh h (l ++ [b])=stp (hsh h l) b:=by rw [hsh_app,hsh_cons,hsh_nil]
theorem hsh_lt (l:List UInt8):∀ (h:Nat),h<18446744073709551616→hsh h l<18446744073709551616:=by
 induction l with
 | nil=>intro h hh;rw [hsh_nil];exact hh
 | cons b l ih=>intro h _;rw [hsh_cons];exact ih _ (stp_lt h b)
theorem xor_byte_lt (h:Nat) (b:UInt8) (hh:h<18446744073709551616):h ^^^ b.toNat<18446744073709551616:=by
 have e:(18446744073709551616:Nat)=2 ^ 64:=by decide
 have hb:b.toNat<256:=b.toNat_lt
 rw [e] at hh ⊢
 exact Nat.xor_lt_two_pow hh (by omega)
theorem back_of (a:Nat) (ha:a<18446744073709551616):a*1099511628211 % 18446744073709551616*14886173955864302971 % 18446744073709551616=a:=by omega
theorem mul_inj {a b:Nat} (ha:a<18446744073709551616) (hb:b<18446744073709551616) (h:a*1099511628211 % 18446744073709551616=b*1099511628211 % 18446744073709551616):a=b:=by
 rw [←back_of a ha,← back_of b hb,h]
theorem stp_inj {h k:Nat} {b c:UInt8} (hh:h<18446744073709551616) (hk:k<18446744073709551616) (he:stp h b=stp k c):h ^^^ b.toNat=k ^^^ c.toNat :=
 mul_inj (xor_byte_lt h b hh) (xor_byte_lt k c hk) he
theorem xor_left {a b c:Nat} (h:a ^^^ b=a ^^^ c):b=c:=by
 have:=congrArg (fun x=>a ^^^ x) h
 simpa [←Nat.xor_assoc] using this
theorem hsh_inj (l:List UInt8):∀ (g h:Nat),g<18446744073709551616→h<18446744073709551616→hsh g l=hsh h l→g=h:=by
 induction l with
 | nil=>intro g h _ _ he;rw [hsh_nil,hsh_nil] at he;exact he
 | cons b l ih =>
  intro g h hg hh he
  rw [hsh_cons,hsh_cons] at he
  have h1:=stp_inj hg hh (ih _ _ (stp_lt g b) (stp_lt h b) he)
  rw [Nat.xor_comm g,Nat.xor_comm h] at h1
  exact xor_left h1
theorem last_inj {h:Nat} {a b:UInt8} (hh:h<18446744073709551616) (he:stp h a=stp h b):a=b :=
 UInt8.toNat_inj.1 (xor_left (stp_inj hh hh he))
def start:Nat:=14695981039346656037
theorem start_lt:start<18446744073709551616:=by unfold start;omega
def more (h:Nat) (s:ByteArray):Nat:=hsh h s.data.toList
def sum (s:ByteArray):Nat:=more start s
def flow (s t:ByteArray):Nat:=more (stp (sum s) 0) t
theorem more_eq (h:Nat) (s:ByteArray):more h s=hsh h s.data.toList:=rfl
theorem sum_eq (s:ByteArray):sum s=more start s:=rfl
theorem flow_eq (s t:ByteArray):flow s t=more (stp (sum s) 0) t:=rfl
theorem more_lt {h:Nat} (hh:h<18446744073709551616) (s:ByteArray):more h s<18446744073709551616:=hsh_lt _ _ hh
theorem sum_lt (s:ByteArray):sum s<18446744073709551616:=more_lt start_lt s
theorem flow_lt (s t:ByteArray):flow s t<18446744073709551616:=more_lt (stp_lt _ _) t
def upTo (h:Nat) (s:ByteArray) (k:Nat):Nat:=hsh h (s.data.toList.take k)
def intOf:Value→Int
 | .int _ n=>n
 | _=>0
theorem upTo_zero (h:Nat) (s:ByteArray):upTo h s 0=h:=by unfold upTo;rw [List.take_zero,hsh_nil]
theorem upTo_lt {h:Nat} (hh:h<18446744073709551616) (s:ByteArray) (k:Nat):upTo h s k<18446744073709551616:=hsh_lt _ _ hh
theorem upTo_all (h:Nat) (s:ByteArray):upTo h s s.size=more h s:=by
 unfold upTo
 rw [more_eq]
 rw [List.take_of_length_le]
 rw [Array.length_toList]
 exact Nat.le_refl _
theorem upTo_succ (h:Nat) (s:ByteArray) (k:Nat) (hk:k<s.size):upTo h s (k+1)=stp (upTo h s k) s[k]:=by
 unfold upTo
 have hl:k<s.data.toList.length:=by rw [Array.length_toList];exact hk
 rw [List.take_add_one,List.getElem?_eq_getElem hl,Option.toList_some,hsh_snoc]
 rfl
theorem byte_lt (b:UInt8):b.toNat<256:=b.toNat_lt
theorem byte_wrap (b:UInt8):IntKind.u64.wrap (b.toNat:Int)=(b.toNat:Int):=by
 have:=byte_lt b
 rw [IntKind.wrap_u64]
 omega
theorem step_eq (x:Nat) (hx:x<18446744073709551616) (b:UInt8) :
  IntKind.u64.wrap (bits .xor .u64 (x:Int) (IntKind.u64.wrap (b.toNat:Int))*1099511628211)=((stp x b:Nat):Int):=by
 have:=byte_lt b
 rw [byte_wrap,bits_xor_u64_nat x b.toNat hx (by omega),IntKind.wrap_u64]
 unfold stp
 generalize x ^^^ b.toNat=y
 omega
theorem more_ok (h:Nat) (s:ByteArray) (hh:h<18446744073709551616) (hs:s.size≤9223372036854775807) (w:World) :
  Calls Tryz.prog 60 #[.int .u64 h,.string s] w fun e w'=>e=.returned (.int .u64 (more h s:Nat))∧w'=w:=by
 go_enter Tryz.func60,Tryz.ntmps60
 go_wp2
 go_loop [0,8] (fun x i=>∃ k:Nat,k≤s.size∧i=.int .i64 k∧x=.int .u64 (upTo h s k:Nat)) (fun _ i=>s.size - (intOf i).toNat)
 case atStart=>exact ⟨0,Nat.zero_le _,rfl,by rw [upTo_zero]⟩
 case round =>
  obtain ⟨k,hk,rfl,rfl⟩:=hrel
  by_cases hlt:k<s.size
  ·have e:IntKind.u64.wrap (bits .xor .u64 ((upTo h s k:Nat):Int) (IntKind.u64.wrap (s[k].toNat:Int))*1099511628211)=((upTo h s (k+1):Nat):Int):=by
    rw [upTo_succ h s k hlt];exact step_eq _ (upTo_lt hh s k) _
   go_wp2
   go_round
   case rel=>exact ⟨k+1,by omega,by go_num,rfl⟩
   case measure=>simp [intOf];omega
  ·obtain rfl:k=s.size:=by omega
   go_wp2
   go_ret
   exact ⟨by rw [upTo_all];rfl,rfl⟩
theorem start_eq:((start:Nat):Int)=14695981039346656037:=by unfold start;rfl
theorem sum_ok (s:ByteArray) (hs:s.size≤9223372036854775807) (w:World) :
  Calls Tryz.prog 26 #[.string s] w fun e w'=>e=.returned (.int .u64 (sum s:Nat))∧w'=w:=by
 go_enter Tryz.func26,Tryz.ntmps26
 go_wp2_with fail
 go_at_call 60
 have H:=more_ok start s start_lt hs w
 rw [←sum_eq,start_eq] at H
 refine H.mono ?_
 rintro e w' ⟨rfl,rfl⟩
 go_wp2
 go_ret
 exact ⟨rfl,rfl⟩
theorem mask_bit (i:Nat):(18446744073709551615 - 255:Nat).testBit i=(decide (i<64) && !decide (i<8)):=by
 have e:(18446744073709551615 - 255:Nat)=2 ^ 64 - (255+1):=by decide
 rw [e,Nat.testBit_two_pow_sub_succ (by decide)]
 have e2:(255:Nat)=2 ^ 8 - 1:=by decide
 rw [e2,Nat.testBit_two_pow_sub_one]
theorem low_eight (x b:Nat) (hx:x<18446744073709551616) (hb:b<256):(x &&& (18446744073709551615 - 255)) ||| (x % 256 ^^^ b)=x ^^^ b:=by
 apply Nat.eq_of_testBit_eq
 intro i
 have e:x % 256=x % 2 ^ 8:=rfl
 rw [Nat.testBit_or,Nat.testBit_and,Nat.testBit_xor,Nat.testBit_xor,mask_bit,e,Nat.testBit_mod_two_pow]
 by_cases c:i<8
 ·simp [c]
 ·have hbi:b.testBit i=false:=Nat.testBit_lt_two_pow (Nat.lt_of_lt_of_le hb (by
   have:2 ^ 8≤2 ^ i:=Nat.pow_le_pow_right (by decide) (by omega)
   exact this))
  by_cases d:i<64
  ·simp [c,d,hbi]
  ·have hxi:x.testBit i=false:=Nat.testBit_lt_two_pow (Nat.lt_of_lt_of_le hx (by
    have:2 ^ 64≤2 ^ i:=Nat.pow_le_pow_right (by decide) (by omega)
    exact this))
   simp [c,d,hbi,hxi]
theorem turned (x:Nat) (hx:x<18446744073709551616) (b:UInt8) :
  bits .or .u64 (bits .andNot .u64 (x:Int) 255) (bits .xor .u64 ((x:Int) % 256) (IntKind.u64.wrap (b.toNat:Int)))=((x ^^^ b.toNat:Nat):Int):=by
 have hb:=byte_lt b
 have e1:bits .andNot .u64 (x:Int) 255=((x &&& (18446744073709551615 - 255):Nat):Int):=u64_andNot_nat x 255 hx (by omega)
 have e2:((x:Int) % 256)=((x % 256:Nat):Int):=by omega
 have l1:x &&& (18446744073709551615 - 255)<18446744073709551616:=Nat.lt_of_le_of_lt Nat.and_le_left hx
 have l2:x % 256 ^^^ b.toNat<18446744073709551616:=xor_byte_lt _ b (by omega)
 rw [e1,e2,byte_wrap,bits_xor_u64_nat _ _ (by omega) (by omega),bits_or_u64_nat _ _ l1 l2,low_eight x b.toNat hx hb]
theorem rstep_eq (x:Nat) (hx:x<18446744073709551616) (b:UInt8) :
  IntKind.u64.wrap (IntKind.u64.wrap (IntKind.u64.wrap (bits .or .u64 (bits .andNot .u64 (x:Int) 255) (bits .xor .u64 ((x:Int) % 256) (IntKind.u64.wrap (b.toNat:Int)))*1099511627776)
   + IntKind.u64.wrap (bits .or .u64 (bits .andNot .u64 (x:Int) 255) (bits .xor .u64 ((x:Int) % 256) (IntKind.u64.wrap (b.toNat:Int)))*256))
   + IntKind.u64.wrap (179*bits .or .u64 (bits .andNot .u64 (x:Int) 255) (bits .xor .u64 ((x:Int) % 256) (IntKind.u64.wrap (b.toNat:Int)))))=((stp x b:Nat):Int):=by
 rw [turned x hx b]
 simp only [IntKind.wrap_u64]
 unfold stp
 generalize x ^^^ b.toNat=y
 omega
theorem rmore_ok (h:Nat) (s:ByteArray) (hh:h<18446744073709551616) (hs:s.size≤9223372036854775807) (w:World) :
  Calls Tryz.prog 67 #[.int .u64 h,.string s] w fun e w'=>e=.returned (.int .u64 (more h s:Nat))∧w'=w:=by
 go_enter Tryz.func67,Tryz.ntmps67
 go_wp2
 go_loop [0,5] (fun x i=>∃ k:Nat,k≤s.size∧i=.int .i64 k∧x=.int .u64 (upTo h s k:Nat)) (fun _ i=>s.size - (intOf i).toNat)
 case atStart=>exact ⟨0,Nat.zero_le _,rfl,by rw [upTo_zero]⟩
 case round =>
  obtain ⟨k,hk,rfl,rfl⟩:=hrel
  by_cases hlt:k<s.size
  ·have lt:=upTo_lt hh s k
   go_wp2
   go_round
   case rel=>exact ⟨k+1,by omega,by go_num,by rw [rstep_eq _ lt,← upTo_succ h s k hlt]⟩
   case measure=>simp [intOf];omega
  ·obtain rfl:k=s.size:=by omega
   go_wp2
   go_ret
   exact ⟨by rw [upTo_all];rfl,rfl⟩
theorem rsum_ok (s:ByteArray) (hs:s.size≤9223372036854775807) (w:World) :
  Calls Tryz.prog 30 #[.string s] w fun e w'=>e=.returned (.int .u64 (sum s:Nat))∧w'=w:=by
 go_enter Tryz.func30,Tryz.ntmps30
 go_wp2_with fail
 go_at_call 67
 have H:=rmore_ok start s start_lt hs w
 rw [←sum_eq,start_eq] at H
 refine H.mono ?_
 rintro e w' ⟨rfl,rfl⟩
 go_wp2
 go_ret
 exact ⟨rfl,rfl⟩
end Go.Proofs.YthkdbphgiobcdaaGreatDoor.Fn

namespace Go.Proofs.YthkdbphgiobcdaaGreatDoor
def tblC (C:Cf):Cf:=⟨(fillC C).total,(fillC C).period,(fillC C).perSeat,(fillC C).most,srtB ltL (fillC C).levels,srtB ltS (fillC C).schemas⟩
def mkE (C:Cf):Int × ByteArray:=if (chk (fillC C)).1=0 then (printE (tblC C),⟨#[]⟩) else chk (fillC C)
def mkC (C:Cf):Cf:=if (mkE C).1=0 then tblC C else cf0
def mkD (C:Cf):Nat:=if (mkE C).1=0 then Fn.sum (outB (tblC C)) else 0
theorem aptL {L : List Lv} (h : L.Pairwise fun a b => a.name ≠ b.name) : Apt ltL L := h.imp fun e => txLt_apart e
theorem aptS {S : List Sc} (h : S.Pairwise fun a b => a.name ≠ b.name) : Apt ltS S := h.imp fun {a b} e => by
  unfold ltS
  simp only [Bool.or_eq_true, Bool.and_eq_true, decide_eq_true_eq]
  rcases Int.lt_trichotomy a.rank b.rank with h | h | h
  · exact .inl (.inl h)
  · exact (txLt_apart e).elim (fun k => .inl (.inr ⟨h, k⟩)) (fun k => .inr (.inr ⟨h.symm, k⟩))
  · exact .inr (.inl h)
theorem Passes.aptL {C:Cf} (h:Passes C):Apt ltL C.levels:=Go.Proofs.YthkdbphgiobcdaaGreatDoor.aptL h.f.pl
theorem Passes.aptS {C:Cf} (h:Passes C):Apt ltS C.schemas:=Go.Proofs.YthkdbphgiobcdaaGreatDoor.aptS h.f.ps
theorem fillL_pos (L:List Lv):0<(fillL L).length:=by
 rcases hn:fillL L with - | ⟨x,r⟩
 ·have:=(fillL_has L).1;rw [hn] at this;cases this
 ·simp
theorem fillS_pos (L:List Sc):0<(fillS L).length:=by
 rcases hn:fillS L with - | ⟨x,r⟩
 ·have:=(fillS_has L).1;rw [hn] at this;cases this
 ·simp
theorem Passes.tbl {C:Cf} (h:Passes (fillC C)):Passes (tblC C):=h.turn (srtB_perm _) (srtB_perm _)
theorem printE_passes {C:Cf} (h:Passes C):printE C=if 65536<(outB C).size then 3 else 0:=by
 unfold printE;rw [if_pos (formed_iff.2 h.f)]
theorem mkE_ok {C:Cf} (h:(mkE C).1=0):Passes (fillC C)∧printE (tblC C)=0:=by
 unfold mkE at h
 by_cases c:(chk (fillC C)).1=0
 ·rw [if_pos c] at h;exact ⟨chk_zero.1 c,h⟩
 ·rw [if_neg c] at h;exact absurd h c
/-! Whatever order. -/
theorem Fits.turn {C:Cf} (h:Fits C) {L:List Lv} {S:List Sc} (hL:L.Perm C.levels) (hS:S.Perm C.schemas):Fits ⟨C.total,C.period,C.perSeat,C.most,L,S⟩ :=
 ⟨⟨by show L.length≤_;rw [hL.length_eq];exact h.sz.1,by show S.length≤_;rw [hS.length_eq];exact h.sz.2⟩,⟨fun l hl=>h.nm.1 l (hL.mem_iff.1 hl),fun s hs=>h.nm.2 s (hS.mem_iff.1 hs)⟩,fun s hs=>h.rl s (hS.mem_iff.1 hs)⟩
theorem Bnd.turn {n:Nat} {C:Cf} (h:Bnd n C) {L:List Lv} {S:List Sc} (hL:L.Perm C.levels) (hS:S.Perm C.schemas):Bnd n ⟨C.total,C.period,C.perSeat,C.most,L,S⟩ :=
 ⟨by show L.length≤_;rw [hL.length_eq];exact h.lv,by show S.length≤_;rw [hS.length_eq];exact h.sc,fun s hs=>h.rl s (hS.mem_iff.1 hs)⟩
end Go.Proofs.YthkdbphgiobcdaaGreatDoor

namespace Go.Proofs.YthkdbphgiobcdaaGreatDoor
open Go.RowKit
def swX {α:Type} (M:List α) (i k:Nat):List α:=if h:i<M.length∧k<M.length then (M.toArray.swap i k (by simpa using h.1) (by simpa using h.2)).toList else M
theorem swX_perm {α:Type} (M:List α) (i k:Nat):(swX M i k).Perm M:=by
 unfold swX
 split
 ·rename_i h
  exact Array.perm_iff_toList_perm.1 (Array.swap_perm (xs:=M.toArray) (by simpa using h.1) (by simpa using h.2))
 ·exact List.Perm.refl _
theorem swX_at {α:Type} {M:List α} {i k:Nat} (hi:i<M.length) (hk:k<M.length) (j:Nat):(swX M i k)[j]?=if k=j then M[i]? else if i=j then M[k]? else M[j]?:=by
 unfold swX
 rw [dif_pos ⟨hi,hk⟩,Array.getElem?_toList,Array.getElem?_swap]
 simp only [List.getElem_toArray,List.getElem?_toArray]
 rw [List.getElem?_eq_getElem hi,List.getElem?_eq_getElem hk]
section
variable {α:Type} {lt:α→α→Bool}
structure Xs (lt:α→α→Bool) (M:List α) (i k:Nat):Prop where
 pre:∀ a b x y,a<i→a<b→M[a]?=some x→M[b]?=some y→lt y x=false
 cur:∀ b x y,i<b→b<k→M[i]?=some x→M[b]?=some y→lt y x=false
theorem Xs.zero (M:List α):Xs lt M 0 1:=⟨fun _ _ _ _ h=>absurd h (Nat.not_lt_zero _),fun b _ _ h1 h2=>absurd h2 (by omega)⟩
theorem Xs.stay {M:List α} {i k:Nat} (h:Xs lt M i k) {x y:α} (hx:M[i]?=some x) (hy:M[k]?=some y) (e:lt y x=false):Xs lt M i (k+1) :=
 ⟨h.pre,fun b x' y' h1 h2 e1 e2=>by
  rcases Nat.lt_or_eq_of_le (Nat.le_of_lt_succ h2) with c | c
  ·exact h.cur b x' y' h1 c e1 e2
  ·subst c
   rw [hx] at e1;rw [hy] at e2
   cases e1;cases e2
   exact e⟩
theorem Xs.swap (hs:Strict lt) {M:List α} {i k:Nat} (h:Xs lt M i k) (hik:i<k) (hk:k<M.length) {x y:α} (hx:M[i]?=some x) (hy:M[k]?=some y) (e:lt y x=true):Xs lt (swX M i k) i (k+1):=by
 have hi:i<M.length:=by omega
 refine ⟨fun a b x' y' h1 h2 e1 e2=>?_,fun b x' y' h1 h2 e1 e2=>?_⟩
 ·rw [swX_at hi hk,if_neg (by omega),if_neg (by omega)] at e1
  rw [swX_at hi hk] at e2
  split at e2
  ·exact h.pre a i x' y' h1 h1 e1 e2
  ·split at e2
   ·exact h.pre a k x' y' h1 (by omega) e1 e2
   ·exact h.pre a b x' y' h1 h2 e1 e2
 ·rw [swX_at hi hk,if_neg (by omega),if_pos rfl,hy] at e1
  cases e1
  rw [swX_at hi hk] at e2
  by_cases c:k=b
  ·rw [if_pos c,hx] at e2
   cases e2
   exact hs.asym e
  ·rw [if_neg c,if_neg (by omega)] at e2
   cases c2:lt y' y with
   | false=>rfl
   | true =>
    have:=h.cur b x y' h1 (by omega) hx e2
    rw [hs.tr _ _ _ c2 e] at this
    cases this
theorem Xs.next {M:List α} {i k:Nat} (h:Xs lt M i k) (hk:M.length≤k):Xs lt M (i+1) (i+1+1) :=
 ⟨fun a b x y h1 h2 e1 e2=>by
  rcases Nat.lt_or_eq_of_le (Nat.le_of_lt_succ h1) with c | c
  ·exact h.pre a b x y c h2 e1 e2
  ·subst c
   have hb:b<M.length:=(List.getElem?_eq_some_iff.1 e2).1
   exact h.cur b x y h2 (by omega) e1 e2,fun b _ _ h1 h2=>absurd h2 (by omega)⟩
theorem Xs.done {M:List α} {i k:Nat} (h:Xs lt M i k) (hi:M.length≤i):M.Pairwise fun a b=>lt b a=false:=by
 rw [List.pairwise_iff_getElem]
 intro a b ha hb hab
 exact h.pre a b _ _ (by omega) hab (List.getElem?_eq_getElem ha) (List.getElem?_eq_getElem hb)
end
def scG (P:List (Sc × Value)) (k:Nat):List Value:=(P[k]?.map fun p=>scC p.1 p.2).getD []
def ltP (p q:Sc × Value):Bool:=ltS p.1 q.1
theorem strictP:Strict ltP:=⟨fun _=>strictS.no _,fun _ _ _=>strictS.tr _ _ _⟩
theorem scG_at {P:List (Sc × Value)} {k:Nat} (h:k<P.length):scG P k=scC P[k].1 P[k].2:=by unfold scG;rw [List.getElem?_eq_getElem h];rfl
theorem scG_scF (P:List (Sc × Value)) (k:Nat):scG P k=scF (P.map (·.1)) (P.map (·.2)) k:=by
 unfold scG scF
 rw [List.getElem?_map,List.getElem?_map]
 cases P[k]? <;> rfl
theorem lvF_swX {M:List Lv} {i k:Nat} (hi:i<M.length) (hk:k<M.length):lvF (swX M i k) i=(if k=i then lvC M[i] else lvC M[k])∧lvF (swX M i k) k=lvC M[i]∧∀ x,x≠i→x≠k→lvF (swX M i k) x=lvF M x:=by
 refine ⟨?_,?_,fun x h1 h2=>?_⟩
 ·unfold lvF;rw [swX_at hi hk]
  split
  ·rw [List.getElem?_eq_getElem hi];rfl
  ·rw [if_pos rfl,List.getElem?_eq_getElem hk];rfl
 ·unfold lvF;rw [swX_at hi hk,if_pos rfl,List.getElem?_eq_getElem hi];rfl
 ·unfold lvF;rw [swX_at hi hk,if_neg (Ne.symm h2),if_neg (Ne.symm h1)]
theorem scG_swX {M:List (Sc × Value)} {i k:Nat} (hi:i<M.length) (hk:k<M.length):scG (swX M i k) i=(if k=i then scC M[i].1 M[i].2 else scC M[k].1 M[k].2)∧scG (swX M i k) k=scC M[i].1 M[i].2∧∀ x,x≠i→x≠k→scG (swX M i k) x=scG M x:=by
 refine ⟨?_,?_,fun x h1 h2=>?_⟩
 ·unfold scG;rw [swX_at hi hk]
  split
  ·rw [List.getElem?_eq_getElem hi];rfl
  ·rw [if_pos rfl,List.getElem?_eq_getElem hk];rfl
 ·unfold scG;rw [swX_at hi hk,if_pos rfl,List.getElem?_eq_getElem hi];rfl
 ·unfold scG;rw [swX_at hi hk,if_neg (Ne.symm h2),if_neg (Ne.symm h1)]
theorem Wr.at5 {w:World} {g t n i:Nat} {F F':Nat→List Value} (h:Wr w g t 5 n n F) (hi:i<n) (v0 v1 v2 v3 v4:Value) (hF:F' i=[v0,v1,v2,v3,v4]) (hF':∀ k,k≠i→F' k=F k) :
  Wr (((((w.setCell ⟨g,i*5,none⟩ v0).setCell ⟨g,i*5+1,none⟩ v1).setCell ⟨g,i*5+2,none⟩ v2).setCell ⟨g,i*5+3,none⟩ v3).setCell ⟨g,i*5+4,none⟩ v4) g t 5 n n F'
  ∧ Kept (fun k=>k=g) w (((((w.setCell ⟨g,i*5,none⟩ v0).setCell ⟨g,i*5+1,none⟩ v1).setCell ⟨g,i*5+2,none⟩ v2).setCell ⟨g,i*5+3,none⟩ v3).setCell ⟨g,i*5+4,none⟩ v4):=by
 obtain ⟨cur,hb,hs,hc⟩:=h
 refine ⟨⟨_,((((hb.set (i*5) v0).set (i*5+1) v1).set (i*5+2) v2).set (i*5+3) v3).set (i*5+4) v4,by simpa using hs,fun k hk j hj=>?_⟩,
  (((((Kept.refl (fun k=>k=g) w).setCell _ _ (.inl rfl)).setCell _ _ (.inl rfl)).setCell _ _ (.inl rfl)).setCell _ _ (.inl rfl)).setCell _ _ (.inl rfl)⟩
 have hlt:i*5+4<cur.size:=by omega
 by_cases h':k=i
 ·subst h'
  rw [hF]
  repeat rw [set_get (by first | omega | (simp only [Array.size_setIfInBounds];omega))]
  match j,hj with
  | 0,_=>simp
  | 1,_=>simp
  | 2,_=>simp
  | 3,_=>simp
  | 4,_=>simp
 ·rw [hF' k h',← hc k hk j hj]
  repeat rw [set_get (by first | omega | (simp only [Array.size_setIfInBounds];omega))]
  repeat rw [if_neg (by omega)]
theorem Wr.rd {w:World} {g t z n i:Nat} {F:Nat→List Value} (h:Wr w g t z n i F) {k j:Nat} (hk:k<i) (hj:j<z):w.cell? ⟨g,k*z+j,none⟩=(F k)[j]?:=by
 obtain ⟨cur,hb,-,hc⟩:=h
 rw [hb.cell,hc k hk j hj]
structure E10 (w:World) (g i:Nat) (l:Lv):Prop where
 c0:w.cell? ⟨g,i*10,none⟩=some (.string l.name)
 c1:w.cell? ⟨g,i*10+1,none⟩=some (.int .i64 l.kind)
 c2:w.cell? ⟨g,i*10+2,none⟩=some (.int .i64 l.shares)
 c3:w.cell? ⟨g,i*10+3,none⟩=some (.int .i64 l.lend)
 c4:w.cell? ⟨g,i*10+4,none⟩=some (.int .i64 l.borrow)
 c5:w.cell? ⟨g,i*10+5,none⟩=some (.int .i64 l.queues)
 c6:w.cell? ⟨g,i*10+6,none⟩=some (.int .i64 l.hand)
 c7:w.cell? ⟨g,i*10+7,none⟩=some (.int .i64 l.length)
 c8:w.cell? ⟨g,i*10+8,none⟩=some (.int .i64 l.wait)
 c9:w.cell? ⟨g,i*10+9,none⟩=some (.int .i64 l.guess)
theorem Wr.e10 {w:World} {g t n i k:Nat} {F:Nat→List Value} {l:Lv} (h:Wr w g t 10 n i F) (hk:k<i) (e:F k=lvC l):E10 w g k l:=by
 have r:∀ j,j<10→w.cell? ⟨g,k*10+j,none⟩=(lvC l)[j]?:=fun j hj=>by rw [h.rd hk hj,e]
 exact ⟨r 0 (by decide),r 1 (by decide),r 2 (by decide),r 3 (by decide),r 4 (by decide),r 5 (by decide),r 6 (by decide),r 7 (by decide),r 8 (by decide),r 9 (by decide)⟩
structure E5 (w:World) (g i:Nat) (s:Sc) (v:Value):Prop where
 c0:w.cell? ⟨g,i*5,none⟩=some (.string s.name)
 c1:w.cell? ⟨g,i*5+1,none⟩=some (.string s.level)
 c2:w.cell? ⟨g,i*5+2,none⟩=some (.int .i64 s.rank)
 c3:w.cell? ⟨g,i*5+3,none⟩=some (.int .i64 s.way)
 c4:w.cell? ⟨g,i*5+4,none⟩=some v
theorem Wr.e5 {w:World} {g t n i k:Nat} {F:Nat→List Value} {s:Sc} {v:Value} (h:Wr w g t 5 n i F) (hk:k<i) (e:F k=scC s v):E5 w g k s v:=by
 have r:∀ j,j<5→w.cell? ⟨g,k*5+j,none⟩=(scC s v)[j]?:=fun j hj=>by rw [h.rd hk hj,e]
 exact ⟨r 0 (by decide),r 1 (by decide),r 2 (by decide),r 3 (by decide),r 4 (by decide)⟩
theorem LvW.wr {B:Nat} {w:World} {v:Value} {L:List Lv} (h:LvW B w v L) (hn:0<L.length):∃ g c,v=.slice (some ⟨g,0,none⟩) L.length c∧L.length≤c∧B≤g∧Wr w g 43 10 L.length L.length (lvF L):=by
 obtain ⟨a,c,rfl,hc,hr⟩:=owns_read h
 obtain ⟨g,cur,rfl,hB,hb,hs,hx⟩:=hr hn
 refine ⟨g,c,rfl,hc,hB,cur,hb,by rw [hs];exact Nat.mul_le_mul_right _ hc,fun k hk j hj=>?_⟩
 rw [lvF_at hk,← hb.cell]
 have e:=lvCs_flat L k j hk hj
 have hl:j<(lvC L[k]).length:=hj
 rw [List.getElem?_eq_getElem hl] at e ⊢
 exact hx _ _ e
theorem ScW.wr {B:Nat} {w:World} {v:Value} {S:List Sc} {V:List Value} (h:ScW B w v S V) (hn:0<S.length):∃ g c,v=.slice (some ⟨g,0,none⟩) S.length c∧S.length≤c∧B≤g∧Wr w g 47 5 S.length S.length (scG (S.zip V)):=by
 obtain ⟨a,c,rfl,hc,hr⟩:=owns_read h.own
 obtain ⟨g,cur,rfl,hB,hb,hs,hx⟩:=hr hn
 refine ⟨g,c,rfl,hc,hB,cur,hb,by rw [hs];exact Nat.mul_le_mul_right _ hc,fun k hk j hj=>?_⟩
 have hv:k<V.length:=by rw [h.len];exact hk
 rw [scG_at (by rw [List.length_zip];omega),List.getElem_zip,← hb.cell]
 have e:=scCs_at S V k j hk hv hj
 have hl:j<(scC S[k] V[k]).length:=hj
 rw [List.getElem?_eq_getElem hl] at e ⊢
 exact hx _ _ e
end Go.Proofs.YthkdbphgiobcdaaGreatDoor
