/-
  The reference of layers 8 and 10 (RfR).
-/
import Derived.Test.YthkdbphgiobcdaaGreatDoorE38
import Derived.Test.YthkdbphgiobcdaaGreatDoorE30
import Derived.Test.YthkdbphgiobcdaaGreatDoorE8
namespace Go.Proofs.YthkdbphgiobcdaaGreatDoor
open Go.RowKit Go.Lib
theorem info73b:(Tryz.prog.info? 54).map (fun i=>(i.zero,i.size,i.bytes))=some (some (.agg #[.slice none 0 0,.slice none 0 0,.slice none 0 0,.slice none 0 0,.slice none 0 0]),5,120):=by kernel_rfl
set_option maxRecDepth 20000 in
set_option maxHeartbeats 4000000 in
theorem rrule_go {B:Nat} (b off c:Nat) (ws:List ByteArray) (w:World) (T P S M:Int) (lv:List Lv) (ini:List Sc) (s:Sc) (vL vS:Value) (V:List Value) (hL:LvOwn B w vL lv) (hS:ScOwn B w vS (ini ++ [s]) V) (hb:b<w.heap.size)
  (hc:∀ k,k<ws.length→w.cell? ⟨b,off+k,none⟩=some (.string (gt ws k))) (h6:ws.length=6) (hsz:∀ k,(gt ws k).size≤65536) (hns:(ini ++ [s]).length≤32) (hB:B≤w.heap.size) :
  Calls Tryz.prog 156 #[.agg #[.int .i64 T,.int .i64 P,.int .i64 S,.int .i64 M,vL,vS],.slice (some ⟨b,off,none⟩) 6 c] w fun e w'=>∃ v,e=.returned (.tuple #[v,.int .i64 (ruleE ⟨T,P,S,M,lv,ini ++ [s]⟩ ws.tail)])∧Below w.heap.size w w'∧Six v
   ∧ (ruleE ⟨T,P,S,M,lv,ini ++ [s]⟩ ws.tail=0→CfV B w' v ⟨T,P,S,M,lv,addRule (ruleOf ws.tail) (ini ++ [s])⟩):=by
 have X0:Hd (∀ vL vS,LvOwn B w vL lv→ScOwn B w vS (ini ++ [s]) V→Bx B w _ ⟨T,P,S,M,lv,ini ++ [s]⟩ vL vS V):=⟨fun _ _ h1 h2=>Bx.start (C:=⟨T,P,S,M,lv,ini ++ [s]⟩) h1 h2⟩
 have hO:LvOwn B w vL lv∧ScOwn B w vS (ini ++ [s]) V:=⟨hL,hS⟩
 obtain ⟨aL,cL,rfl⟩:=own_form hL
 obtain ⟨aS,cS,rfl⟩:=own_form hS.own
 have HO:Hd _:=⟨hO⟩
 clear hL hS hO
 generalize hE:ruleE ⟨T,P,S,M,lv,ini ++ [s]⟩ ws.tail=E
 have HE:Hd (ruleE ⟨T,P,S,M,lv,ini ++ [s]⟩ ws.tail=E):=⟨hE⟩
 have HW:Hd ((∀ k,k<6→w.cell? ⟨b,off+k,none⟩=some (.string (gt ws k)))∧ws.length=6∧∀ k,(gt ws k).size≤65536):=⟨fun k hk=>hc k (by omega),h6,hsz⟩
 clear hE hc h6 hsz
 obtain ⟨n,hn⟩:∃ n,n=lv.length:=⟨_,rfl⟩
 rw [←hn]
 rw [←hn] at HO
 have HN:Hd (n=lv.length):=⟨hn⟩
 clear hn
 obtain ⟨m,hm⟩:∃ m,m=ini.length:=⟨_,rfl⟩
 have hm1:(ini ++ [s]).length=m+1:=by simp [hm]
 rw [hm1]
 rw [hm1] at HO hns
 have HM:Hd (m=ini.length):=⟨hm⟩
 have m0:(((m+1:Nat):Int) == 0)=false:=by simp;omega
 clear hm hm1
 go_enter Tryz.func156,Tryz.ntmps156
 go_upto_region 1 with fail
 generalize hw2:World.alloc _ _=w2
 have X2:Hd (Bx B w w2 ⟨T,P,S,M,lv,ini ++ [s]⟩ (.slice aL n cL) (.slice aS (m+1) cS) V∧w2.heap.size=w.heap.size+1+1):=⟨by rw [←hw2];exact ⟨X0.out _ _ HO.out.1 HO.out.2,by simp⟩⟩
 clear hw2 X0 HO
 obtain ⟨y0,y1,y2,y3,y4,y5⟩:=X2.out.1.reads
 have hs2:=X2.out.2
 go_upto_region 4 with fail
 generalize hw3:World.alloc _ _=w3
 have X3:Hd (Rx B w w3 ⟨T,P,S,M,lv,ini ++ [s]⟩ (.slice aL n cL) (.slice aS (m+1) cS) V ws []):=⟨by rw [←hw3];exact Rx.start X2.out.1 X2.out.2 ws⟩
 clear hw3 X2 y0 y1 y2 y3 y4 y5 hs2 m0
 go_wp2_with fail
 go_loopw [7,8,9] (fun i k8 k9 wr=>∃ vs:List Value,vs.length≤5∧i=.int .i64 (vs.length:Nat)∧Hd (Rx B w wr ⟨T,P,S,M,lv,ini ++ [s]⟩ (.slice aL n cL) (.slice aS (m+1) cS) V ws vs)) (fun i _ _ _=>5 - (intOf i).toNat)
 case atStart=>exact ⟨[],Nat.zero_le _,rfl,X3⟩
 case round =>
  obtain ⟨vs,hk,rfl,hR⟩:=hrel
  clear X3
  by_cases hlt:vs.length<5
  ·have hcell:=(hR.out.x.bel.cell (p:=⟨b,off+(vs.length+1),none⟩) hb).trans (HW.out.1 (vs.length+1) (by omega))
   have hsz:=HW.out.2.2 (vs.length+1)
   have RL:=fun W=>rlist_y (gt ws (vs.length+1)) W (by omega)
   have HL8:=list_len (gt ws (vs.length+1))
   have HB2:Hd (listOk (gt ws (vs.length+1))=false→E=2):=⟨fun h=>by rw [←HE.out];exact rule_bad hlt (by rw [gt_tail];exact h)⟩
   have HNX:Hd (∀ W v,Rx B w W ⟨T,P,S,M,lv,ini ++ [s]⟩ (.slice aL n cL) (.slice aS (m+1) cS) V ws vs→Lst B W v (listOf (gt ws (vs.length+1)))→listOk (gt ws (vs.length+1))=true→Rx B w (W.setCell ⟨w.heap.size+1+1,vs.length,none⟩ v) ⟨T,P,S,M,lv,ini ++ [s]⟩ (.slice aL n cL) (.slice aS (m+1) cS) V ws (vs ++ [v])):=⟨fun W v h1 h2 h3=>h1.next hlt h2 h3⟩
   have HCL:Hd (∀ W,Rx B w W ⟨T,P,S,M,lv,ini ++ [s]⟩ (.slice aL n cL) (.slice aS (m+1) cS) V ws vs→W.cell? ⟨w.heap.size+1+1,vs.length,none⟩=some (.slice none 0 0)∧W.frozen? ⟨w.heap.size+1+1,vs.length,none⟩=false):=⟨fun W h=>⟨h.q.cellv vs.length (arr5_at vs hlt),h.q.frozen _⟩⟩
   have HK:Hd (vs.length<5):=⟨hlt⟩
   have HBW:Hd (B≤wr.heap.size):=⟨Nat.le_trans hB (Nat.le_of_lt hR.out.x.c.lt)⟩
   generalize gt ws (vs.length+1)=x at *
   generalize hLx:listOf x=L at *
   generalize hob:listOk x=ob at *
   obtain ⟨q,hq⟩:∃ q,q=L.length:=⟨_,rfl⟩
   have HQ:Hd (q=L.length∧q≤8):=⟨hq,by omega⟩
   rw [←hq] at RL
   obtain ⟨k,hkk⟩:∃ k,k=vs.length:=⟨_,rfl⟩
   rw [←hkk] at hcell HCL HNX
   rw [←hkk]
   have HKK:Hd (k=vs.length):=⟨hkk⟩
   have i1:(k:Int)+1<6:=by omega
   have i2:(k:Int)<5:=by omega
   have i3:IntKind.i64.wrap ((k:Int)+1)=(k:Int)+1:=by rw [IntKind.wrap_i64];omega
   clear hkk hq HL8 hlt hk
   go_wp2_with fail
   go_at_call 176
   refine (RL _).mono ?_
   rintro e w4 ⟨a4,c4,rfl,r4,k4,b4⟩
   have X4:Hd (Rx B w w4 ⟨T,P,S,M,lv,ini ++ [s]⟩ (.slice aL n cL) (.slice aS (m+1) cS) V ws vs):=⟨hR.out.grown b4⟩
   have L4:Hd (Lst B w4 (.slice a4 q c4) L):=⟨a4,c4,by rw [HQ.out.1],r4.mono HBW.out,by rw [←HQ.out.1];exact k4,by have:=HQ.out;omega⟩
   clear b4 r4 k4 hR hcell RL
   cases ob with
   | false =>
    obtain ⟨y0,y1,y2,y3,y4,y5⟩:=X4.out.x.reads
    obtain ⟨r0,r1,r2,r3,r4,r5,f0,f1,f2,f3,f4,f5⟩:=X4.out.x.room
    go_wp2_with fail
    have EE:E=2:=HB2.out (by first | exact rfl | trivial)
    subst EE
    obtain ⟨q1,q2,q3⟩:=X4.out.x.sets (.int .i64 T) (.int .i64 P) (.int .i64 S) (.int .i64 M) (.slice aL n cL) (.slice aS (m+1) cS)
    refine bodyPost_ret (resC38 _ _ _ _ _ _ _ _ _ _ rfl rfl q1) rfl ?_
    exact ⟨_,rfl,q2,⟨_,_,_,_,_,_,_,_,_,_,rfl⟩,fun h=>absurd h (by decide)⟩
   | true =>
    obtain ⟨p1,p2⟩:=HCL.out w4 X4.out
    go_wp2_with fail
    have F4:Hd _:=⟨HNX.out w4 _ X4.out L4.out (by first | exact rfl | trivial)⟩
    go_roundw
    case rel =>
     have hlen:(vs ++ [Value.slice a4 q c4]).length=k+1:=by rw [List.length_append,← HKK.out];rfl
     repeat apply Exists.intro
     exact ⟨⟨vs ++ [Value.slice a4 q c4],by rw [hlen];have:=HK.out;have:=HKK.out;omega,by rw [hlen];go_num,F4⟩,rfl⟩
    case measure=>have:=HK.out;have:=HKK.out;simp [intOf];omega
  ·have h5:vs.length=5:=by omega
   obtain ⟨a0,n0,c0,a1,n1,c1,a2,n2,c2,a3,n3,c3,a4,n4,c4,rfl,RV⟩:=hR.out.five h5
   have HF:Hd (E=ifE (decide ((s.rules.length:Int)<8)) 3):=⟨by
    rw [←HE.out,rule_fine (by rw [List.length_tail,HW.out.2.1]) (by simp) (fun k hk=>by rw [gt_tail];exact hR.out.ok k hk)]
    unfold lastRules
    rw [List.getLast?_concat]⟩
   have hs:=hR.out.x.s
   dsimp only at hs
   obtain ⟨Vi,vr,rfl⟩:∃ Vi vr,V=Vi ++ [vr]:=by
    have h0:V≠[]:=fun e=>by have:=hs.len;rw [e] at this;simp at this
    exact ⟨V.dropLast,V.getLast h0,(List.dropLast_concat_getLast h0).symm⟩
   have hV:Vi.length=ini.length:=by have:=hs.len;simp at this;exact this
   have hm1:m+1=(ini ++ [s]).length:=by rw [HM.out];simp
   have hs':=hs
   rw [hm1] at hs'
   obtain ⟨g1,rfl,hg1,C1⟩:=sc_rd hs' (by simp)
   have HVM:Hd (Vi.length=m):=⟨by rw [hV,HM.out]⟩
   have cr:wr.cell? ⟨g1,m*5+4,none⟩=some vr:=by
    have h1:=C1 m (by rw [←hm1];omega) (by simp;have:=HVM.out;omega) 4 (by decide)
    rw [h1]
    have e2:(Vi ++ [vr])[m]'(by simp;have:=HVM.out;omega)=vr:=by
     rw [List.getElem_append_right (by have:=HVM.out;omega)]
     simp
    simp [scC,e2]
   have hro:=hs.rls m (by rw [←hm1];omega) (by simp;have:=HVM.out;omega)
   have e3:(Vi ++ [vr])[m]'(by simp;have:=HVM.out;omega)=vr:=by
    rw [List.getElem_append_right (by have:=HVM.out;omega)]
    simp
   have e4:(ini ++ [s])[m]'(by rw [←hm1];omega)=s:=by
    rw [List.getElem_append_right (by rw [HM.out];exact Nat.le_refl _)]
    simp
   rw [e3,e4] at hro
   obtain ⟨rcs,hown,hrv⟩:=hro
   obtain ⟨ar,cr',rfl⟩:=own_form hown
   have HRV:Hd _:=⟨And.intro hown hrv⟩
   have HX:Hd _:=⟨And.intro hR.out RV⟩
   have HVi:Hd (Vi.length=ini.length):=⟨hV⟩
   obtain ⟨nr,hnr⟩:∃ nr,nr=s.rules.length:=⟨_,rfl⟩
   rw [←hnr] at cr HRV HX
   have HNR:Hd (nr=s.rules.length):=⟨hnr⟩
   have nr2:Hd (nr≤9223372036854775807):=⟨own_len HRV.out.1⟩
   obtain ⟨y0,y1,y2,y3,y4,y5⟩:=hR.out.x.reads
   clear hs hs' hV hm1 C1 e3 e4 hown hrv hR RV h5 hnr hlt hk
   have j1:(m:Int)<(m:Int)+1:=by omega
   by_cases h8:nr<8
   ·have gg:decide ((nr:Int) ≥ 8)=false:=by simp;omega
    go_upto_region 14 with fail
    clear gg
    have HR8:Hd (nr<8):=⟨h8⟩
    have aW:w.heap.size<wr.heap.size:=HX.out.1.x.c.lt
    obtain ⟨i0,hi,hz0,hz1,hz2⟩:=info_parts info42
    have OWN:(wr.alloc (.cells #[] 47)).ownsRow B 47 5 (.slice (some ⟨g1,0,none⟩) (m+1) cS) (m+1) (scCs (ini ++ [s]) (Vi ++ [.slice ar nr cr'])):=by
     have h1:wr.ownsRow B 47 5 _ _ _:=HX.out.1.x.s.own
     have e1:(ini ++ [s]).length=m+1:=by rw [HM.out];simp
     dsimp only at h1
     rw [e1] at h1
     exact World.ownsRow.alloc h1 _
    have ONES:=HX.out.1.x.s.ones
    have ROOM:Hd (∀ W,Below wr.heap.size wr W→W.cell? ⟨w.heap.size,5,none⟩=some (.slice (some ⟨g1,0,none⟩) (m+1) cS)∧W.frozen? ⟨w.heap.size,5,none⟩=false):=⟨fun W hW=>⟨(hW.cell (p:=⟨w.heap.size,5,none⟩) aW).trans y5,(HX.out.1.x.grown hW).c.frozen 5⟩⟩
    have AL:Below wr.heap.size wr (wr.alloc (.cells #[] 47)):=(Below.refl _ _).alloc (Nat.le_refl _) _
    have NW:Blk (wr.alloc (.cells #[] 47)) wr.heap.size 47 #[]:=Blk.new wr 47 #[]
    have m32:m+1≤32:=hns
    go_wp2_with (at_builtin;refine wpList_copy rfl (.tmp 53) (.tmp 55) 23 rfl wr.heap.size 47 i0 (.agg #[.string ⟨#[]⟩,.string ⟨#[]⟩,.int .i64 0,.int .i64 0,.slice none 0 0]) 5 72 Tryz.underlying23 hi hz0 hz1 hz2 rfl (by decide) wr.heap.size rfl NW (Nat.le_refl _) B (some ⟨g1,0,none⟩) (m+1) cS rfl _ OWN ONES (by unfold maxLen;omega) (by omega) ?_;intro g5 cap5 w5 own5 gr5 lt5;have bc5:Below wr.heap.size wr w5:=AL.grown gr5 AL.size (fun k hk=>by injection hk with hk;omega);obtain ⟨e5,f5⟩:=ROOM.out w5 bc5)
    have X5:Hd (Rx B w w5 ⟨T,P,S,M,lv,ini ++ [s]⟩ (.slice aL n cL) (.slice (some ⟨g1,0,none⟩) (m+1) cS) (Vi ++ [.slice ar nr cr']) ws [.slice a0 n0 c0,.slice a1 n1 c1,.slice a2 n2 c2,.slice a3 n3 c3,.slice a4 n4 c4]):=⟨HX.out.1.grown bc5⟩
    have G5:Hd (w.heap.size≤g5):=⟨by have:=(own5.lt g5 rfl).1;omega⟩
    generalize hw6:w5.setCell _ _=w6
    have X6:Hd (Rx B w w6 ⟨T,P,S,M,lv,ini ++ [s]⟩ (.slice aL n cL) (.slice (some ⟨g5,0,none⟩) (m+1) cap5) (Vi ++ [.slice ar nr cr']) ws [.slice a0 n0 c0,.slice a1 n1 c1,.slice a2 n2 c2,.slice a3 n3 c3,.slice a4 n4 c4]):=⟨by
     rw [←hw6]
     have e1:(ini ++ [s]).length=m+1:=by rw [HM.out];simp
     exact X5.out.swap (by dsimp only;rw [e1];exact owns_mono own5 (Nat.le_trans hB (Nat.le_of_lt aW)))⟩
    clear hw6 X5 own5 gr5 lt5 bc5 e5 f5 OWN ONES ROOM AL NW i0 hi hz0 hz1 hz2 HX HRV cr y0 y1 y2 y3 y4 y5 hg1 aW
    obtain ⟨y0,y1,y2,y3,y4,y5⟩:=X6.out.x.reads
    have hs:=X6.out.x.s
    dsimp only at hs
    have hm1:m+1=(ini ++ [s]).length:=by rw [HM.out];simp
    have hs':=hs
    rw [hm1] at hs'
    obtain ⟨g6,e6,hg6,C1⟩:=sc_rd hs' (by simp)
    obtain rfl:g5=g6:=by injection e6 with e6;injection e6
    have cr:w6.cell? ⟨g5,m*5+4,none⟩=some (.slice ar nr cr'):=by
     have h1:=C1 m (by rw [←hm1];omega) (by simp;have:=HVM.out;omega) 4 (by decide)
     rw [h1]
     have e2:(Vi ++ [Value.slice ar nr cr'])[m]'(by simp;have:=HVM.out;omega)=.slice ar nr cr':=by
      rw [List.getElem_append_right (by have:=HVM.out;omega)]
      simp
     simp [scC,e2]
    have hro:=hs.rls m (by rw [←hm1];omega) (by simp;have:=HVM.out;omega)
    have e3:(Vi ++ [Value.slice ar nr cr'])[m]'(by simp;have:=HVM.out;omega)=.slice ar nr cr':=by
     rw [List.getElem_append_right (by have:=HVM.out;omega)]
     simp
    have e4:(ini ++ [s])[m]'(by rw [←hm1];omega)=s:=by
     rw [List.getElem_append_right (by rw [HM.out];exact Nat.le_refl _)]
     simp
    rw [e3,e4] at hro
    obtain ⟨rcs,hown,hrv⟩:=hro
    rw [←HNR.out] at hown
    have ONES:=rls_ones rcs _ hrv
    have RV6:=X6.out.rlv rfl
    have SZ6:w.heap.size<w6.heap.size:=X6.out.x.c.lt
    have BW:B≤w6.heap.size:=Nat.le_trans hB (Nat.le_of_lt SZ6)
    have TT:∀ W,Below w6.heap.size w6 W→W.cell? ⟨w.heap.size,5,none⟩=some (.slice (some ⟨g5,0,none⟩) (m+1) cap5)∧W.cell? ⟨g5,m*5+4,none⟩=some (.slice ar nr cr')∧Blk W (w.heap.size+1+1) 206 #[.slice a0 n0 c0,.slice a1 n1 c1,.slice a2 n2 c2,.slice a3 n3 c3,.slice a4 n4 c4]:=fun W hW =>
     ⟨(hW.cell (p:=⟨w.heap.size,5,none⟩) SZ6).trans y5,(hW.cell (p:=⟨g5,m*5+4,none⟩) hg6).trans cr,X6.out.q.kept (Kept.of_below hW (fun _=>False)) id⟩
    have OWN:∀ W,Below w6.heap.size w6 W→W.ownsRow B 54 5 (.slice ar nr cr') nr rcs:=fun W hW=>owns_kept hown (Kept.of_below hW (fun _=>False)) (fun _ _=>id)
    obtain ⟨i0,hi,hz0,hz1,hz2⟩:=info_parts info73b
    have ONE:∀ u∈([.slice a0 n0 c0,.slice a1 n1 c1,.slice a2 n2 c2,.slice a3 n3 c3,.slice a4 n4 c4]:List Value),u.oneCell'=true:=by
     intro u hu
     simp only [List.mem_cons,List.not_mem_nil,or_false] at hu
     rcases hu with rfl | rfl | rfl | rfl | rfl <;> rfl
    have FIN:Hd (∀ q cap W,W.ownsRow B 54 5 (.slice (some ⟨q,0,none⟩) (nr+1) cap) (nr+1) (rcs ++ [.slice a0 n0 c0,.slice a1 n1 c1,.slice a2 n2 c2,.slice a3 n3 c3,.slice a4 n4 c4])→Below w6.heap.size w6 W→Bx B w (W.setCell ⟨g5,m*5+4,none⟩ (.slice (some ⟨q,0,none⟩) (nr+1) cap)) ⟨T,P,S,M,lv,addRule (ruleOf ws.tail) (ini ++ [s])⟩ (.slice aL n cL) (.slice (some ⟨g5,0,none⟩) (m+1) cap5) (Vi ++ [.slice (some ⟨q,0,none⟩) (nr+1) cap])):=⟨fun q cap W hO hW=>by
     rw [HNR.out] at hO ⊢
     exact Bx.rule (X6.out.x.grown hW) HM.out HVi.out G5.out (RlsV.kept (Kept.of_below hW (fun _=>False)) (fun _ _ _ _=>id) _ _ hrv) (RV6.kept (Kept.of_below hW (fun _=>False)) (fun _ _ _ _=>id)) hO⟩
    have ROOM:Hd (∀ W,Below w6.heap.size w6 W→W.cell? ⟨g5,m*5+4,none⟩=some (.slice ar nr cr')∧W.frozen? ⟨g5,m*5+4,none⟩=false):=⟨fun W hW=>⟨(TT W hW).2.1,by
     obtain ⟨cur,hb⟩:=owns_type (X6.out.x.grown hW).s.own (g:=g5) rfl
     exact hb.frozen _⟩⟩
    have HEND:Hd (∀ (W W':World) (V':List Value),Blk W' (w.heap.size+1) 25 #[.int .i64 T,.int .i64 P,.int .i64 S,.int .i64 M,.slice aL n cL,.slice (some ⟨g5,0,none⟩) (m+1) cap5]→Below w.heap.size w W'→Kept (fun k=>k=w.heap.size+1) W W'→Bx B w W ⟨T,P,S,M,lv,addRule (ruleOf ws.tail) (ini ++ [s])⟩ (.slice aL n cL) (.slice (some ⟨g5,0,none⟩) (m+1) cap5) V' →
      ∃ v',Ending.returned (.tuple #[.agg #[.int .i64 T,.int .i64 P,.int .i64 S,.int .i64 M,.slice aL n cL,.slice (some ⟨g5,0,none⟩) (m+1) cap5],.int .i64 0])=Ending.returned (.tuple #[v',.int .i64 E])∧Below w.heap.size w W'∧Six v'∧(E=0→CfV B W' v' ⟨T,P,S,M,lv,addRule (ruleOf ws.tail) (ini ++ [s])⟩)):=⟨fun W W' V' _ q2 q3 X9=>by
     have E0:E=0:=by rw [HF.out,← HNR.out];have:=HR8.out;simp [ifE];omega
     subst E0
     have cf:CfV B W' (.agg #[.int .i64 T,.int .i64 P,.int .i64 S,.int .i64 M,.slice aL n cL,.slice (some ⟨g5,0,none⟩) (m+1) cap5]) ⟨T,P,S,M,lv,addRule (ruleOf ws.tail) (ini ++ [s])⟩:=⟨_,_,V',rfl,X9.l.off q3 (off_blkR X9.r (by decide)),X9.s.off q3 (off_blkR X9.r (by decide)) (off_blkR X9.r (by decide)) (off_blkR X9.r (by decide))⟩
     exact ⟨_,rfl,q2,cf.six,fun _=>cf⟩⟩
    have r8:=HR8.out
    clear hs hs' C1 e3 e4 hown hrv RV6 X6 cr y0 y1 y2 y3 y4 y5 h8 e6 hm1
    refine AnyG.start (T:=fun _=>True) (U:=fun w'=>w'.cell? ⟨w.heap.size,5,none⟩=some (.slice (some ⟨g5,0,none⟩) (m+1) cap5)∧w'.cell? ⟨g5,m*5+4,none⟩=some (.slice ar nr cr')∧Blk w' (w.heap.size+1+1) 206 #[.slice a0 n0 c0,.slice a1 n1 c1,.slice a2 n2 c2,.slice a3 n3 c3,.slice a4 n4 c4]) (j0:=26) (by kernel_rfl) ?_
    have bel0:Below w6.heap.size w6 w6.drew:=⟨rfl,rfl,rfl,Nat.le_refl _,fun _ _=>rfl⟩
    generalize w6.drew=w0 at *
    have h0:=TT w0 bel0
    refine .tr 0 58 ⟨trivial,fun _=>h0⟩ ?_;simp only [tkA,tkB,tkC]
    refine .er 1 59 ⟨trivial,fun _=>h0⟩ ?_ (hy:=fun w hSw=>by obtain ⟨-,s1,s2,s3⟩:=hSw;go_simp;rfl);simp only [tkA,tkB,tkC]
    refine .tr 2 60 ⟨trivial,fun _=>h0⟩ ?_;simp only [tkA,tkB,tkC]
    refine .tr 4 62 ⟨trivial,fun _=>h0⟩ ?_;simp only [tkA,tkB,tkC]
    refine .er 5 63 ⟨trivial,fun _=>h0⟩ ?_ (hy:=fun w hSw=>by obtain ⟨-,s1,s2,s3⟩:=hSw;go_simp;rfl);simp only [tkA,tkB,tkC]
    refine .tr 6 64 ⟨trivial,fun _=>h0⟩ ?_;simp only [tkA,tkB,tkC]
    refine .tr 7 65 ⟨trivial,fun _=>h0⟩ ?_;simp only [tkA,tkB,tkC]
    refine .tr 8 66 ⟨trivial,fun _=>h0⟩ ?_;simp only [tkA,tkB,tkC]
    refine .er 9 67 ⟨trivial,fun _=>h0⟩ ?_ (hy:=fun w hSw=>by obtain ⟨-,s1,s2,s3⟩:=hSw;go_simp;rfl);simp only [tkA,tkB,tkC]
    refine .tr 11 69 ⟨trivial,fun _=>h0⟩ ?_;simp only [tkA,tkB,tkC]
    refine .er 12 70 ⟨trivial,fun _=>h0⟩ ?_ (hy:=fun w hSw=>by obtain ⟨-,s1,s2,s3⟩:=hSw;have s4:=s3.cellv (v:=.slice a0 n0 c0) 0 rfl;go_simp;rfl);simp only [tkA,tkB,tkC]
    refine .tr 13 71 ⟨trivial,fun _=>h0⟩ ?_;simp only [tkA,tkB,tkC]
    refine .er 14 72 ⟨trivial,fun _=>h0⟩ ?_ (hy:=fun w hSw=>by obtain ⟨-,s1,s2,s3⟩:=hSw;have s4:=s3.cellv (v:=.slice a1 n1 c1) 1 rfl;go_simp;rfl);simp only [tkA,tkB,tkC]
    refine .tr 15 73 ⟨trivial,fun _=>h0⟩ ?_;simp only [tkA,tkB,tkC]
    refine .er 16 74 ⟨trivial,fun _=>h0⟩ ?_ (hy:=fun w hSw=>by obtain ⟨-,s1,s2,s3⟩:=hSw;have s4:=s3.cellv (v:=.slice a2 n2 c2) 2 rfl;go_simp;rfl);simp only [tkA,tkB,tkC]
    refine .tr 17 75 ⟨trivial,fun _=>h0⟩ ?_;simp only [tkA,tkB,tkC]
    refine .er 18 76 ⟨trivial,fun _=>h0⟩ ?_ (hy:=fun w hSw=>by obtain ⟨-,s1,s2,s3⟩:=hSw;have s4:=s3.cellv (v:=.slice a3 n3 c3) 3 rfl;go_simp;rfl);simp only [tkA,tkB,tkC]
    refine .tr 19 77 ⟨trivial,fun _=>h0⟩ ?_;simp only [tkA,tkB,tkC]
    refine .er 20 78 ⟨trivial,fun _=>h0⟩ ?_ (hy:=fun w hSw=>by obtain ⟨-,s1,s2,s3⟩:=hSw;have s4:=s3.cellv (v:=.slice a4 n4 c4) 4 rfl;go_simp;rfl);simp only [tkA,tkB,tkC]
    refine .tr 21 79 ⟨trivial,fun _=>h0⟩ ?_;simp only [tkA,tkB,tkC]
    refine AnyG.ready (rs:=[3,22]) (by kernel_rfl) (by simp) ?_
    refine AllG.cons rfl (fun K hK=>?_) (AllG.cons rfl (fun K hK=>?_) AllG.nil)
    ·skip
     go_simp
     have bn1:Below w6.heap.size w6 (w0.alloc (.cells #[] 54)):=bel0.alloc bel0.size _
     refine hK.out _ _ ⟨trivial,fun _=>TT _ bn1⟩ ?_
     clear hK K
     have hn1:Blk (w0.alloc (.cells #[] 54)) w0.heap.size 54 #[]:=Blk.new w0 54 _
     have hb1:w6.heap.size≤w0.heap.size:=bel0.size
     generalize w0.alloc (.cells #[] 54)=wa1 at *
     generalize w0.heap.size=qa1 at *
     refine AnyG.ready (rs:=[10,22]) (by kernel_rfl) (by simp) ?_
     refine AllG.cons rfl (fun K hK=>?_) (AllG.cons rfl (fun K hK=>?_) AllG.nil)
     ·skip
      refine step_copy rfl (.tmp 61) (.tmp 67) 45 rfl w6.heap.size 54 i0 (.agg #[.slice none 0 0,.slice none 0 0,.slice none 0 0,.slice none 0 0,.slice none 0 0]) 5 120 Tryz.underlying45 hi hz0 hz1 hz2 rfl (by decide) qa1 (by simp [Act.eval]) hn1 hb1 B ar nr cr' (by simp [Act.eval]) rcs (OWN _ bn1) ONES (by unfold maxLen;omega) (by omega) ?_
      intro g12 cap12 wc2 own2 gr2 lt2
      have bc2:Below w6.heap.size w6 wc2:=bn1.grown gr2 bn1.size (fun k hk=>by injection hk with hk;have:=hb1;omega)
      refine hK.out _ _ ⟨trivial,fun _=>TT _ bc2⟩ ?_
      clear hK K
      refine AnyG.putAt 68 rfl ?_
      simp only [List.setIfInBounds_toArray,List.set_cons_zero,List.set_cons_succ]
      refine AnyG.ready (rs:=[22]) (by kernel_rfl) (by simp) ?_
      refine AllG.cons rfl (fun K hK=>?_) AllG.nil
      go_simp
      have bn3:Below w6.heap.size w6 (wc2.alloc (.cells #[.slice a0 n0 c0,.slice a1 n1 c1,.slice a2 n2 c2,.slice a3 n3 c3,.slice a4 n4 c4] 54)):=bc2.alloc bc2.size _
      refine hK.out _ _ ⟨trivial,fun _=>TT _ bn3⟩ ?_
      clear hK K
      have hn3:Blk (wc2.alloc (.cells #[.slice a0 n0 c0,.slice a1 n1 c1,.slice a2 n2 c2,.slice a3 n3 c3,.slice a4 n4 c4] 54)) wc2.heap.size 54 #[.slice a0 n0 c0,.slice a1 n1 c1,.slice a2 n2 c2,.slice a3 n3 c3,.slice a4 n4 c4]:=Blk.new wc2 54 _
      have hb3:w6.heap.size≤wc2.heap.size:=bc2.size
      have ho3:=World.ownsRow.alloc own2 (.cells #[.slice a0 n0 c0,.slice a1 n1 c1,.slice a2 n2 c2,.slice a3 n3 c3,.slice a4 n4 c4] 54)
      generalize wc2.alloc (.cells #[.slice a0 n0 c0,.slice a1 n1 c1,.slice a2 n2 c2,.slice a3 n3 c3,.slice a4 n4 c4] 54)=wa3 at *
      generalize wc2.heap.size=pa3 at *
      refine AnyG.ready (rs:=[23]) (by kernel_rfl) (by simp) ?_
      refine AllG.cons rfl (fun K hK=>?_) AllG.nil
      refine step_append_lies wa3 rfl (.tmp 68) (.tmp 80) 45 rfl w6.heap.size 54 i0 (.agg #[.slice none 0 0,.slice none 0 0,.slice none 0 0,.slice none 0 0,.slice none 0 0]) 5 120 Tryz.underlying45 hi hz0 hz1 hz2 rfl (by decide) _ nr rcs (by simp [Act.eval]) ho3 ⟨pa3,0,none⟩ 1 1 [.slice a0 n0 c0,.slice a1 n1 c1,.slice a2 n2 c2,.slice a3 n3 c3,.slice a4 n4 c4] (by simp [Act.eval]) rfl (World.news_of_block hn3) ONE (by decide) (by unfold maxLen;omega) (by omega) bn3.size _ rfl ?_
      intro q8 cap8 w8 hown hgrow hat hlt
      have b8:Below w6.heap.size w6 w8:=bn3.grown hgrow bn3.size (fun k hk=>(ho3.lt k hk).1)
      refine hK.out _ _ ⟨trivial,fun _=>TT _ b8⟩ ?_
      clear hK K
      refine AnyG.putAt 81 rfl ?_
      simp only [List.setIfInBounds_toArray,List.set_cons_zero,List.set_cons_succ]
      have h8:=TT w8 b8
      refine .tr 24 82 ⟨trivial,fun _=>h8⟩ ?_;simp only [tkA,tkB,tkC]
      refine .tr 25 83 ⟨trivial,fun _=>h8⟩ ?_;simp only [tkA,tkB,tkC]
      refine AnyG.ready (rs:=[26]) (by kernel_rfl) (by simp) ?_
      refine AllG.cons rfl (fun K hK=>?_) AllG.nil
      obtain ⟨e8,f8⟩:=ROOM.out w8 b8
      have X9:=FIN.out q8 cap8 w8 (owns_mono hown BW) b8
      go_simp
      refine hK.out _ _ ⟨trivial,fun h=>by cases h⟩ ?_
      clear hK K
      refine AnyG.done (by kernel_rfl) ?_ _
      generalize w8.setCell _ _=w9 at *
      obtain ⟨y0,y1,y2,y3,y4,y5⟩:=X9.reads
      obtain ⟨r0,r1,r2,r3,r4,r5,f0,f1,f2,f3,f4,f5⟩:=X9.room
      clear TT OWN ONES ROOM FIN h8 e8 f8 hown hgrow
      go_wp2_with fail
      obtain ⟨q1,q2,q3⟩:=X9.sets (.int .i64 T) (.int .i64 P) (.int .i64 S) (.int .i64 M) (.slice aL n cL) (.slice (some ⟨g5,0,none⟩) (m+1) cap5)
      refine bodyPost_ret (resC38 _ _ _ _ _ _ _ _ _ _ rfl rfl q1) rfl ?_
      exact HEND.out _ _ _ q1 q2 q3 X9
     ·skip
      go_simp
      have bn4:Below w6.heap.size w6 (wa1.alloc (.cells #[.slice a0 n0 c0,.slice a1 n1 c1,.slice a2 n2 c2,.slice a3 n3 c3,.slice a4 n4 c4] 54)):=bn1.alloc bn1.size _
      refine hK.out _ _ ⟨trivial,fun _=>TT _ bn4⟩ ?_
      clear hK K
      have hn4:Blk (wa1.alloc (.cells #[.slice a0 n0 c0,.slice a1 n1 c1,.slice a2 n2 c2,.slice a3 n3 c3,.slice a4 n4 c4] 54)) wa1.heap.size 54 #[.slice a0 n0 c0,.slice a1 n1 c1,.slice a2 n2 c2,.slice a3 n3 c3,.slice a4 n4 c4]:=Blk.new wa1 54 _
      have hb4:w6.heap.size≤wa1.heap.size:=bn1.size
      have hc4:=hn1.kept (Kept.of_below ((Below.refl wa1.heap.size wa1).alloc (Nat.le_refl _) (.cells #[.slice a0 n0 c0,.slice a1 n1 c1,.slice a2 n2 c2,.slice a3 n3 c3,.slice a4 n4 c4] 54)) (fun _=>False)) id
      generalize wa1.alloc (.cells #[.slice a0 n0 c0,.slice a1 n1 c1,.slice a2 n2 c2,.slice a3 n3 c3,.slice a4 n4 c4] 54)=wa4 at *
      generalize wa1.heap.size=pa4 at *
      refine AnyG.ready (rs:=[10]) (by kernel_rfl) (by simp) ?_
      refine AllG.cons rfl (fun K hK=>?_) AllG.nil
      refine step_copy rfl (.tmp 61) (.tmp 67) 45 rfl w6.heap.size 54 i0 (.agg #[.slice none 0 0,.slice none 0 0,.slice none 0 0,.slice none 0 0,.slice none 0 0]) 5 120 Tryz.underlying45 hi hz0 hz1 hz2 rfl (by decide) qa1 (by simp [Act.eval]) hc4 hb1 B ar nr cr' (by simp [Act.eval]) rcs (OWN _ bn4) ONES (by unfold maxLen;omega) (by omega) ?_
      intro g15 cap15 wc5 own5 gr5 lt5
      have bc5:Below w6.heap.size w6 wc5:=bn4.grown gr5 bn4.size (fun k hk=>by injection hk with hk;have:=hb1;omega)
      refine hK.out _ _ ⟨trivial,fun _=>TT _ bc5⟩ ?_
      clear hK K
      refine AnyG.putAt 68 rfl ?_
      simp only [List.setIfInBounds_toArray,List.set_cons_zero,List.set_cons_succ]
      have hd5:=hn4.kept (Kept.of_grown (S:=fun k=>k=qa1) gr5 (fun k e=>(Option.some.inj e).symm)) (fun e=>by rw [e] at hn4;have h:=hn4.symm.trans hc4;simp at h)
      refine AnyG.ready (rs:=[23]) (by kernel_rfl) (by simp) ?_
      refine AllG.cons rfl (fun K hK=>?_) AllG.nil
      refine step_append_lies wc5 rfl (.tmp 68) (.tmp 80) 45 rfl w6.heap.size 54 i0 (.agg #[.slice none 0 0,.slice none 0 0,.slice none 0 0,.slice none 0 0,.slice none 0 0]) 5 120 Tryz.underlying45 hi hz0 hz1 hz2 rfl (by decide) _ nr rcs (by simp [Act.eval]) own5 ⟨pa4,0,none⟩ 1 1 [.slice a0 n0 c0,.slice a1 n1 c1,.slice a2 n2 c2,.slice a3 n3 c3,.slice a4 n4 c4] (by simp [Act.eval]) rfl (World.news_of_block hd5) ONE (by decide) (by unfold maxLen;omega) (by omega) bc5.size _ rfl ?_
      intro q8 cap8 w8 hown hgrow hat hlt
      have b8:Below w6.heap.size w6 w8:=bc5.grown hgrow bc5.size (fun k hk=>(own5.lt k hk).1)
      refine hK.out _ _ ⟨trivial,fun _=>TT _ b8⟩ ?_
      clear hK K
      refine AnyG.putAt 81 rfl ?_
      simp only [List.setIfInBounds_toArray,List.set_cons_zero,List.set_cons_succ]
      have h8:=TT w8 b8
      refine .tr 24 82 ⟨trivial,fun _=>h8⟩ ?_;simp only [tkA,tkB,tkC]
      refine .tr 25 83 ⟨trivial,fun _=>h8⟩ ?_;simp only [tkA,tkB,tkC]
      refine AnyG.ready (rs:=[26]) (by kernel_rfl) (by simp) ?_
      refine AllG.cons rfl (fun K hK=>?_) AllG.nil
      obtain ⟨e8,f8⟩:=ROOM.out w8 b8
      have X9:=FIN.out q8 cap8 w8 (owns_mono hown BW) b8
      go_simp
      refine hK.out _ _ ⟨trivial,fun h=>by cases h⟩ ?_
      clear hK K
      refine AnyG.done (by kernel_rfl) ?_ _
      generalize w8.setCell _ _=w9 at *
      obtain ⟨y0,y1,y2,y3,y4,y5⟩:=X9.reads
      obtain ⟨r0,r1,r2,r3,r4,r5,f0,f1,f2,f3,f4,f5⟩:=X9.room
      clear TT OWN ONES ROOM FIN h8 e8 f8 hown hgrow
      go_wp2_with fail
      obtain ⟨q1,q2,q3⟩:=X9.sets (.int .i64 T) (.int .i64 P) (.int .i64 S) (.int .i64 M) (.slice aL n cL) (.slice (some ⟨g5,0,none⟩) (m+1) cap5)
      refine bodyPost_ret (resC38 _ _ _ _ _ _ _ _ _ _ rfl rfl q1) rfl ?_
      exact HEND.out _ _ _ q1 q2 q3 X9
    ·skip
     go_simp
     have bn6:Below w6.heap.size w6 (w0.alloc (.cells #[.slice a0 n0 c0,.slice a1 n1 c1,.slice a2 n2 c2,.slice a3 n3 c3,.slice a4 n4 c4] 54)):=bel0.alloc bel0.size _
     refine hK.out _ _ ⟨trivial,fun _=>TT _ bn6⟩ ?_
     clear hK K
     have hn6:Blk (w0.alloc (.cells #[.slice a0 n0 c0,.slice a1 n1 c1,.slice a2 n2 c2,.slice a3 n3 c3,.slice a4 n4 c4] 54)) w0.heap.size 54 #[.slice a0 n0 c0,.slice a1 n1 c1,.slice a2 n2 c2,.slice a3 n3 c3,.slice a4 n4 c4]:=Blk.new w0 54 _
     have hb6:w6.heap.size≤w0.heap.size:=bel0.size
     generalize w0.alloc (.cells #[.slice a0 n0 c0,.slice a1 n1 c1,.slice a2 n2 c2,.slice a3 n3 c3,.slice a4 n4 c4] 54)=wa6 at *
     generalize w0.heap.size=pa6 at *
     refine AnyG.ready (rs:=[3]) (by kernel_rfl) (by simp) ?_
     refine AllG.cons rfl (fun K hK=>?_) AllG.nil
     go_simp
     have bn7:Below w6.heap.size w6 (wa6.alloc (.cells #[] 54)):=bn6.alloc bn6.size _
     refine hK.out _ _ ⟨trivial,fun _=>TT _ bn7⟩ ?_
     clear hK K
     have hn7:Blk (wa6.alloc (.cells #[] 54)) wa6.heap.size 54 #[]:=Blk.new wa6 54 _
     have hb7:w6.heap.size≤wa6.heap.size:=bn6.size
     have hc7:=hn6.kept (Kept.of_below ((Below.refl wa6.heap.size wa6).alloc (Nat.le_refl _) (.cells #[] 54)) (fun _=>False)) id
     generalize wa6.alloc (.cells #[] 54)=wa7 at *
     generalize wa6.heap.size=qa7 at *
     refine AnyG.ready (rs:=[10]) (by kernel_rfl) (by simp) ?_
     refine AllG.cons rfl (fun K hK=>?_) AllG.nil
     refine step_copy rfl (.tmp 61) (.tmp 67) 45 rfl w6.heap.size 54 i0 (.agg #[.slice none 0 0,.slice none 0 0,.slice none 0 0,.slice none 0 0,.slice none 0 0]) 5 120 Tryz.underlying45 hi hz0 hz1 hz2 rfl (by decide) qa7 (by simp [Act.eval]) hn7 hb7 B ar nr cr' (by simp [Act.eval]) rcs (OWN _ bn7) ONES (by unfold maxLen;omega) (by omega) ?_
     intro g18 cap18 wc8 own8 gr8 lt8
     have bc8:Below w6.heap.size w6 wc8:=bn7.grown gr8 bn7.size (fun k hk=>by injection hk with hk;have:=hb7;omega)
     refine hK.out _ _ ⟨trivial,fun _=>TT _ bc8⟩ ?_
     clear hK K
     refine AnyG.putAt 68 rfl ?_
     simp only [List.setIfInBounds_toArray,List.set_cons_zero,List.set_cons_succ]
     have hd8:=hc7.kept (Kept.of_grown (S:=fun k=>k=qa7) gr8 (fun k e=>(Option.some.inj e).symm)) (fun e=>by rw [e] at hc7;have h:=hc7.symm.trans hn7;simp at h)
     refine AnyG.ready (rs:=[23]) (by kernel_rfl) (by simp) ?_
     refine AllG.cons rfl (fun K hK=>?_) AllG.nil
     refine step_append_lies wc8 rfl (.tmp 68) (.tmp 80) 45 rfl w6.heap.size 54 i0 (.agg #[.slice none 0 0,.slice none 0 0,.slice none 0 0,.slice none 0 0,.slice none 0 0]) 5 120 Tryz.underlying45 hi hz0 hz1 hz2 rfl (by decide) _ nr rcs (by simp [Act.eval]) own8 ⟨pa6,0,none⟩ 1 1 [.slice a0 n0 c0,.slice a1 n1 c1,.slice a2 n2 c2,.slice a3 n3 c3,.slice a4 n4 c4] (by simp [Act.eval]) rfl (World.news_of_block hd8) ONE (by decide) (by unfold maxLen;omega) (by omega) bc8.size _ rfl ?_
     intro q8 cap8 w8 hown hgrow hat hlt
     have b8:Below w6.heap.size w6 w8:=bc8.grown hgrow bc8.size (fun k hk=>(own8.lt k hk).1)
     refine hK.out _ _ ⟨trivial,fun _=>TT _ b8⟩ ?_
     clear hK K
     refine AnyG.putAt 81 rfl ?_
     simp only [List.setIfInBounds_toArray,List.set_cons_zero,List.set_cons_succ]
     have h8:=TT w8 b8
     refine .tr 24 82 ⟨trivial,fun _=>h8⟩ ?_;simp only [tkA,tkB,tkC]
     refine .tr 25 83 ⟨trivial,fun _=>h8⟩ ?_;simp only [tkA,tkB,tkC]
     refine AnyG.ready (rs:=[26]) (by kernel_rfl) (by simp) ?_
     refine AllG.cons rfl (fun K hK=>?_) AllG.nil
     obtain ⟨e8,f8⟩:=ROOM.out w8 b8
     have X9:=FIN.out q8 cap8 w8 (owns_mono hown BW) b8
     go_simp
     refine hK.out _ _ ⟨trivial,fun h=>by cases h⟩ ?_
     clear hK K
     refine AnyG.done (by kernel_rfl) ?_ _
     generalize w8.setCell _ _=w9 at *
     obtain ⟨y0,y1,y2,y3,y4,y5⟩:=X9.reads
     obtain ⟨r0,r1,r2,r3,r4,r5,f0,f1,f2,f3,f4,f5⟩:=X9.room
     clear TT OWN ONES ROOM FIN h8 e8 f8 hown hgrow
     go_wp2_with fail
     obtain ⟨q1,q2,q3⟩:=X9.sets (.int .i64 T) (.int .i64 P) (.int .i64 S) (.int .i64 M) (.slice aL n cL) (.slice (some ⟨g5,0,none⟩) (m+1) cap5)
     refine bodyPost_ret (resC38 _ _ _ _ _ _ _ _ _ _ rfl rfl q1) rfl ?_
     exact HEND.out _ _ _ q1 q2 q3 X9
   ·have gg:decide ((nr:Int) ≥ 8)=true:=by simp;omega
    have HEE:Hd (E=3):=⟨by rw [HF.out,← HNR.out];simp [ifE];omega⟩
    obtain ⟨r0,r1,r2,r3,r4,r5,f0,f1,f2,f3,f4,f5⟩:=HX.out.1.x.room
    have nr3:=nr2.out
    go_wp2_with fail
    obtain rfl:=HEE.out
    obtain ⟨q1,q2,q3⟩:=HX.out.1.x.sets (.int .i64 T) (.int .i64 P) (.int .i64 S) (.int .i64 M) (.slice aL n cL) (.slice (some ⟨g1,0,none⟩) (m+1) cS)
    refine bodyPost_ret (resC38 _ _ _ _ _ _ _ _ _ _ rfl rfl q1) rfl ?_
    exact ⟨_,rfl,q2,⟨_,_,_,_,_,_,_,_,_,_,rfl⟩,fun h=>absurd h (by decide)⟩
theorem rrule_no {B:Nat} (a:Option Addr) (c n:Nat) (w:World) (C:Cf) (vL vS:Value) (V:List Value) (hL:LvOwn B w vL C.levels) (hS:ScOwn B w vS C.schemas V) (h:n≠6∨(n=6∧C.schemas.length=0)) :
  Calls Tryz.prog 156 #[.agg #[.int .i64 C.total,.int .i64 C.period,.int .i64 C.perSeat,.int .i64 C.most,vL,vS],.slice a n c] w fun e w'=>∃ v,e=.returned (.tuple #[v,.int .i64 2])∧Below w.heap.size w w'∧Six v:=by
 have X0:Hd _:=⟨Bx.start hL hS⟩
 obtain ⟨aL,cL,rfl⟩:=own_form hL
 obtain ⟨aS,cS,rfl⟩:=own_form hS.own
 clear hL hS
 rcases h with h | ⟨rfl,h⟩
 ·have n1:((n:Int) != 6)=true:=by simp;omega
  clear h
  go_enter Tryz.func156,Tryz.ntmps156
  go_upto_region 1 with fail
  generalize hw2:World.alloc _ _=w2
  have X2:Hd (Bx B w w2 C (.slice aL C.levels.length cL) (.slice aS C.schemas.length cS) V):=⟨by rw [←hw2];exact X0.out⟩
  clear hw2 X0
  obtain ⟨y0,y1,y2,y3,y4,y5⟩:=X2.out.reads
  obtain ⟨r0,r1,r2,r3,r4,r5,f0,f1,f2,f3,f4,f5⟩:=X2.out.room
  go_wp2_with fail
  obtain ⟨q1,q2,q3⟩:=X2.out.sets (.int .i64 C.total) (.int .i64 C.period) (.int .i64 C.perSeat) (.int .i64 C.most) (.slice aL C.levels.length cL) (.slice aS C.schemas.length cS)
  refine bodyPost_ret (resC38 _ _ _ _ _ _ _ _ _ _ rfl rfl q1) rfl ?_
  exact ⟨_,rfl,q2,⟨_,_,_,_,_,_,_,_,_,_,rfl⟩⟩
 ·rw [h] at X0
  rw [h]
  go_enter Tryz.func156,Tryz.ntmps156
  go_upto_region 1 with fail
  generalize hw2:World.alloc _ _=w2
  have X2:Hd (Bx B w w2 C (.slice aL C.levels.length cL) (.slice aS 0 cS) V):=⟨by rw [←hw2];exact X0.out⟩
  clear hw2 X0
  obtain ⟨y0,y1,y2,y3,y4,y5⟩:=X2.out.reads
  obtain ⟨r0,r1,r2,r3,r4,r5,f0,f1,f2,f3,f4,f5⟩:=X2.out.room
  go_wp2_with fail
  obtain ⟨q1,q2,q3⟩:=X2.out.sets (.int .i64 C.total) (.int .i64 C.period) (.int .i64 C.perSeat) (.int .i64 C.most) (.slice aL C.levels.length cL) (.slice aS 0 cS)
  refine bodyPost_ret (resC38 _ _ _ _ _ _ _ _ _ _ rfl rfl q1) rfl ?_
  exact ⟨_,rfl,q2,⟨_,_,_,_,_,_,_,_,_,_,rfl⟩⟩
theorem rrule_ok {B:Nat} (a:Option Addr) (c:Nat) (ws:List ByteArray) (w:World) (C:Cf) (v:Value) (hv:CfV B w v C) (hr:RowL w a ws) (hl:0<ws.length) (hsz:∀ k,(gt ws k).size≤65536) (hns:C.schemas.length≤32) (hB:B≤w.heap.size) :
  Calls Tryz.prog 156 #[v,.slice a ws.length c] w fun e w'=>∃ v',e=.returned (.tuple #[v',.int .i64 (ruleE C ws.tail)])∧Below w.heap.size w w'∧Six v'
   ∧ (ruleE C ws.tail=0→CfV B w' v' ⟨C.total,C.period,C.perSeat,C.most,C.levels,addRule (ruleOf ws.tail) C.schemas⟩):=by
 obtain ⟨vL,vS,V,rfl,hL,hS⟩:=hv
 obtain ⟨b,off,rfl,hb,hc⟩:=hr hl
 by_cases h6:ws.length=6∧C.schemas.length≠0
 ·obtain ⟨h6,h0⟩:=h6
  rcases C with ⟨T,P,S,M,lv,sc⟩
  dsimp only at *
  obtain ⟨ini,s,rfl⟩:∃ ini s,sc=ini ++ [s]:=by
   have hne:sc≠[]:=fun e=>h0 (by rw [e];rfl)
   exact ⟨sc.dropLast,sc.getLast hne,(List.dropLast_concat_getLast hne).symm⟩
  have:=rrule_go b off c ws w T P S M lv ini s vL vS V hL hS hb hc h6 hsz hns hB
  rw [h6]
  exact this
 ·have e2:ruleE C ws.tail=2:=rule_none (by
   by_cases h:ws.length=6
   ·right
    exact Classical.byContradiction fun h0=>h6 ⟨h,h0⟩
   ·left
    rw [List.length_tail]
    omega)
  rw [e2]
  refine (rrule_no (some ⟨b,off,none⟩) c ws.length w C vL vS V hL hS (by
   by_cases h:ws.length=6
   ·right
    exact ⟨h,Classical.byContradiction fun h0=>h6 ⟨h,h0⟩⟩
   ·left
    exact h)).mono ?_
  rintro e w' ⟨v,rfl,hb,h6⟩
  exact ⟨v,rfl,hb,h6,fun h=>absurd h (by decide)⟩
end Go.Proofs.YthkdbphgiobcdaaGreatDoor
