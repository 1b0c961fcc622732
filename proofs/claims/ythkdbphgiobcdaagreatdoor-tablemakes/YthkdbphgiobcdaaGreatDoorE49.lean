/-
  What the reference's 'Print' answers.
  What is filled in is within reach;what an answer of 'Check' says.
-/
import Derived.Test.YthkdbphgiobcdaaGreatDoorE47
import Derived.Test.YthkdbphgiobcdaaGreatDoorE26
import Derived.Test.YthkdbphgiobcdaaGreatDoorE22
import Derived.Test.YthkdbphgiobcdaaGreatDoorE42
import Derived.Test.YthkdbphgiobcdaaGreatDoorE41
namespace Go.Proofs.YthkdbphgiobcdaaGreatDoor
open Go.RowKit
def preT (Ws:List (List ByteArray)) (k:Nat):ByteArray:=mk (textL (Ws.take k))
theorem preT_zero (Ws:List (List ByteArray)):preT Ws 0=⟨#[]⟩:=rfl
theorem preT_succ {Ws:List (List ByteArray)} {k:Nat} (h:k<Ws.length):preT Ws (k+1)=preT Ws k++(mk (lineL Ws[k]) ++ ⟨#[10]⟩):=by
 apply list_inj
 unfold preT
 rw [cat_list,cat_list,mk_list,mk_list,mk_list,List.take_add_one,List.getElem?_eq_getElem h,Option.toList_some,textL_append,textL_cons]
 unfold textL
 simp
theorem preT_all (Ws:List (List ByteArray)):preT Ws Ws.length=textB Ws:=by unfold preT textB;rw [List.take_length]
theorem mkz_size (l:List UInt8):(mk l).size=l.length:=by
 show (mk l).data.size=_
 rw [←Array.length_toList,mk_list]
theorem preT_le (Ws:List (List ByteArray)) (k:Nat):(preT Ws k).size≤(textB Ws).size:=by
 unfold preT textB
 rw [mkz_size,mkz_size]
 have:textL Ws=textL (Ws.take k)++textL (Ws.drop k):=by rw [←textL_append,List.take_append_drop]
 rw [this,List.length_append]
 omega
set_option maxRecDepth 20000 in
set_option maxHeartbeats 8000000 in
theorem rprint_ok (v:Value) (C:Cf) (w:World) (h:CfR w v C) (g:Wfc C) (nm:Nms C) (hb:Bnd 900 C) :
  Calls Tryz.prog 29 #[v] w fun e w'=>e=.returned (.tuple #[.string (printS C),.int .i64 (printE C)])∧Below w.heap.size w w':=by
 have HFM:Hd (∀ W,Below w.heap.size w W→Calls Tryz.prog 63 #[v] W fun e w'=>e=.returned (.bool (formed C))∧Below W.heap.size W w'):=⟨fun W b=>rformed_ok v C W (h.carry b) g nm hb⟩
 have HLN:Hd (∀ W,Below w.heap.size w W→Calls Tryz.prog 66 #[v] W fun e w'=>∃ u,e=.returned u∧OwnT W.heap.size w' u (rLines C)∧Below W.heap.size W w'):=⟨fun W b=>rlines_ok v C W (h.carry b) g nm hb⟩
 have HSZ:Hd (∀ k,k<(rLines C).length→(gt (rLines C) k).size≤9000):=⟨fun k hk=>lin_le g nm _ (gt_mem hk)⟩
 obtain ⟨aL,cL,aS,cS,V,rfl,-,-,-,-,-,-⟩:=h.ex
 clear h g nm hb
 have HE:Hd (printE C=(if formed C then (if 65536<(outB C).size then 3 else 0) else 2)∧printS C=(if printE C=0 then outB C else ⟨#[]⟩)):=⟨rfl,rfl⟩
 have HA:Hd (formed C=true→rLines C=(cfWs C).map fun ws=>mk (lineL ws)):=⟨fun e=>f_all (formed_iff.1 e)⟩
 have HO:Hd (outB C=textB (cfWs C)):=⟨rfl⟩
 have B0:Hd (Below w.heap.size w (w.alloc (.cells #[.int .i64 C.total,.int .i64 C.period,.int .i64 C.perSeat,.int .i64 C.most,.slice aL C.levels.length cL,.slice aS C.schemas.length cS] 25))):=⟨alloc_below w _⟩
 have F0:Hd (Blk (w.alloc (.cells #[.int .i64 C.total,.int .i64 C.period,.int .i64 C.perSeat,.int .i64 C.most,.slice aL C.levels.length cL,.slice aS C.schemas.length cS] 25)) w.heap.size 25 #[.int .i64 C.total,.int .i64 C.period,.int .i64 C.perSeat,.int .i64 C.most,.slice aL C.levels.length cL,.slice aS C.schemas.length cS]):=⟨Blk.new w 25 _⟩
 generalize C.total=x0 at *
 generalize C.period=x1 at *
 generalize C.perSeat=x2 at *
 generalize C.most=x3 at *
 generalize C.levels.length=nL at *
 generalize C.schemas.length=nS at *
 go_enter Tryz.func29,Tryz.ntmps29
 go_wp2_with fail
 generalize w.alloc _=w0 at *
 go_at_call 63
 refine (HFM.out w0 B0.out).mono ?_
 rintro e w1 ⟨rfl,b1⟩
 have B1:Hd (Below w.heap.size w w1):=⟨B0.out.trans (b1.mono B0.out.size)⟩
 have F1:Hd (Blk w1 w.heap.size 25 _):=⟨F0.out.kept (Kept.of_below b1 (fun _=>False)) id⟩
 clear b1 B0 F0 HFM
 obtain ⟨⟨l0,l1,l2,l3,l4,l5⟩,-⟩:=F1.out.six
 cases hf:formed C with
 | false =>
  have HZ:Hd (printE C=2∧printS C=⟨#[]⟩):=⟨by
   have e1:printE C=2:=by rw [HE.out.1,hf];rfl
   exact ⟨e1,by rw [HE.out.2,e1];rfl⟩⟩
  clear hf HE HA HO HLN HSZ
  go_wp2_with fail
  go_ret2
  exact ⟨by rw [HZ.out.1,HZ.out.2];rfl,B1.out⟩
 | true =>
  have HL:=HA.out hf
  have HE1:Hd (printE C=(if 65536<(outB C).size then 3 else 0)):=⟨by rw [HE.out.1,hf];rfl⟩
  have HE2:Hd (printS C=(if printE C=0 then outB C else ⟨#[]⟩)):=⟨HE.out.2⟩
  have HG:Hd (∀ k (hk:k<(cfWs C).length),gt (rLines C) k=mk (lineL (cfWs C)[k])):=⟨fun k hk=>by
   rw [HL,gt_eq (by rw [List.length_map];exact hk),List.getElem_map]⟩
  have HLen:Hd ((rLines C).length=(cfWs C).length):=⟨by rw [HL,List.length_map]⟩
  clear hf HE HA HL
  go_wp2_with fail
  go_at_call 66
  refine (HLN.out w1 B1.out).mono ?_
  rintro e w2 ⟨u,rfl,ho,b2⟩
  have hn9:=own_len ho
  obtain ⟨a,c,rfl,hr⟩:=ho.shape
  have B2:Hd (Below w.heap.size w w2):=⟨B1.out.trans (b2.mono B1.out.size)⟩
  have HR:Hd (RowL w2 a (rLines C)):=⟨hr⟩
  clear l0 l1 l2 l3 l4 l5 ho hr b2 F1 B1 HLN
  generalize outB C=ob at *
  generalize rLines C=RL at *
  generalize cfWs C=Ws at *
  go_wp2_with fail
  go_loop [4,6] (fun s i=>∃ k:Nat,k≤RL.length∧i=.int .i64 k∧s=.string (preT Ws k)∧Hd ((preT Ws k).size≤65536)) (fun _ i=>RL.length - (intOf i).toNat)
  case atStart=>exact ⟨0,Nat.zero_le _,rfl,by rw [preT_zero],⟨by rw [preT_zero];decide⟩⟩
  case round =>
   obtain ⟨k,hk,rfl,rfl,hs⟩:=hrel
   by_cases hlt:k<RL.length
   ·obtain ⟨b,off,rfl,hbb,hcs⟩:=HR.out (by omega)
    have hcell:=hcs k hlt
    have hz:=HSZ.out k hlt
    have hW:k<Ws.length:=by rw [←HLen.out];exact hlt
    have hnx:=preT_succ hW
    rw [←HG.out k hW] at hnx
    have hs1:=hs.out
    have ten:(⟨#[10]⟩:ByteArray).size=1:=rfl
    have i1:(k:Int)<(RL.length:Int):=by omega
    have sz2:(gt RL k ++ ⟨#[10]⟩:ByteArray).size≤9001:=by rw [cat_size,ten];omega
    have HK:Hd (k<RL.length):=⟨hlt⟩
    clear hcs hbb HR
    have hnz:(preT Ws k++(gt RL k ++ ⟨#[10]⟩):ByteArray).size≤75000:=by rw [cat_size];omega
    have HX:Hd (preT Ws k++(gt RL k ++ ⟨#[10]⟩)=preT Ws (k+1)):=⟨hnx.symm⟩
    clear hnx
    generalize gt RL k=ln at *
    by_cases hbig:65536<(preT Ws (k+1)).size
    ·have HZ:Hd (printE C=3∧printS C=⟨#[]⟩):=⟨by
      have:=preT_le Ws (k+1)
      have e1:printE C=3:=by rw [HE1.out,if_pos (by rw [HO.out];omega)]
      exact ⟨e1,by rw [HE2.out,e1];rfl⟩⟩
     rw [←HX.out] at hbig
     clear hs HSZ HG HE1 HE2 ten hW hlt hk HLen HX
     generalize preT Ws k=sk at *
     go_upto_region 9 with fail
     generalize sk++(ln++(⟨#[10]⟩:ByteArray))=nx at *
     have hb2:(65536:Int)<((nx.size:Nat):Int):=by omega
     clear sz2 hz hs1 hbig
     go_wp2_with fail
     go_ret2
     exact ⟨by rw [HZ.out.1,HZ.out.2];rfl,B2.out⟩
    ·rw [←HX.out] at hbig
     clear hs HSZ HG HE1 HE2 ten hW hlt hk HLen HO
     generalize preT Ws k=sk at *
     go_upto_region 9 with fail
     generalize sk++(ln++(⟨#[10]⟩:ByteArray))=nx at *
     have hb2:¬ ((65536:Int)<((nx.size:Nat):Int)):=by omega
     have HB:Hd (nx.size≤65536):=⟨by omega⟩
     clear sz2 hz hs1 hbig
     go_wp2_with fail
     go_round
     case rel=>exact ⟨k+1,HK.out,by go_num,by rw [HX.out],⟨by rw [←HX.out];exact HB.out⟩⟩
     case measure=>have:=HK.out;simp [intOf];omega
   ·obtain rfl:k=RL.length:=by omega
    have HZ:Hd (printE C=0∧printS C=preT Ws RL.length):=⟨by
     have e0:preT Ws RL.length=ob:=by rw [HLen.out,preT_all,HO.out]
     have e1:printE C=0:=by rw [HE1.out,if_neg (by rw [←e0];have:=hs.out;omega)]
     exact ⟨e1,by rw [HE2.out,e1,if_pos rfl,e0]⟩⟩
    clear hs HSZ HG HE1 HE2 hlt hk HLen HO HR
    generalize preT Ws RL.length=sk at *
    go_wp2_with fail
    go_ret2
    exact ⟨by rw [HZ.out.1,HZ.out.2];rfl,B2.out⟩
theorem mem_putX {α:Type} {b:Bool} {L:List α} {x y:α} (h:y∈putX b L x):y∈L∨y=x:=by
 unfold putX at h
 split at h
 ·exact .inl h
 ·rcases List.mem_append.1 h with h | h
  ·exact .inl h
  ·exact .inr (List.mem_singleton.1 h)
theorem mem_fillL {L:List Lv} {l:Lv} (h:l∈fillL L):l∈L∨l=lvX∨l=lvY:=by
 rcases mem_putX h with h | h
 ·rcases mem_putX h with h | h
  ·exact .inl h
  ·exact .inr (.inl h)
 ·exact .inr (.inr h)
theorem mem_fillS {L:List Sc} {l:Sc} (h:l∈fillS L):l∈L∨l=scX∨l=scY:=by
 rcases mem_putX h with h | h
 ·rcases mem_putX h with h | h
  ·exact .inl h
  ·exact .inr (.inl h)
 ·exact .inr (.inr h)
theorem orU_le {x u:Int} (h:x≤9223372036854775807) (hu:u≤9223372036854775807):orU x u≤9223372036854775807:=by
 unfold orU;split <;> assumption
theorem lvX_g:LvG lvX∧LvG lvY:=⟨⟨by decide,by decide,by decide,by decide,by decide,by decide,by decide,by decide,by decide,by decide⟩,⟨by decide,by decide,by decide,by decide,by decide,by decide,by decide,by decide,by decide,by decide⟩⟩
theorem scX_g:ScG scX∧ScG scY:=⟨⟨by decide,by decide,by decide,by decide⟩,⟨by decide,by decide,by decide,by decide⟩⟩
theorem Wfc.fill {C:Cf} (h:Wfc C):Wfc (fillC C) :=
 ⟨orU_le h.t (by decide),orU_le h.p (by decide),orU_le h.s (by decide),orU_le h.m (by decide),fun l hl=>by
  rcases mem_fillL hl with hl | rfl | rfl
  ·exact h.lv l hl
  ·exact lvX_g.1
  ·exact lvX_g.2,fun s hs=>by
  rcases mem_fillS hs with hs | rfl | rfl
  ·exact h.sc s hs
  ·exact scX_g.1
  ·exact scX_g.2⟩
theorem Nms.fill {C:Cf} (h:Nms C):Nms (fillC C) :=
 ⟨fun l hl=>by
  rcases mem_fillL hl with hl | rfl | rfl
  ·exact h.lv l hl
  ·decide
  ·decide,fun s hs=>by
  rcases mem_fillS hs with hs | rfl | rfl
  ·exact h.sc s hs
  ·decide
  ·decide⟩
theorem code_err (p:Int × ByteArray) (w:World) (he:ET w):Calls Tryz.prog 12 #[errV p] w fun e w'=>e=.returned (.int .i64 p.1)∧Below w.heap.size w w':=by
 obtain ⟨n,s⟩:=p
 by_cases h:n=0
 ·subst h
  rw [errV_nil]
  exact code_nil w
 ·rw [errV_no h]
  exact code_val n s w he
theorem what_err (p:Int × ByteArray) (w:World) (he:ET w) (hp:p.1=0→p=(0,⟨#[]⟩)):Calls Tryz.prog 13 #[errV p] w fun e w'=>e=.returned (.string p.2)∧Below w.heap.size w w':=by
 obtain ⟨n,s⟩:=p
 by_cases h:n=0
 ·have:=hp h
  rw [this,errV_nil]
  exact what_ok (.inr ()) [] w he
 ·rw [errV_no h]
  exact what_val n s w he
end Go.Proofs.YthkdbphgiobcdaaGreatDoor
