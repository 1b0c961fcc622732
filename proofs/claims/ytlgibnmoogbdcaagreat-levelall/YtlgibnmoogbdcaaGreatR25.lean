/-
  One taken out of a row in place, by the library (slices.Delete): what stands behind it moves up, the last place is cleared.
  Numbers compared, by the library and by the program; two parts of a row exchanged (slices.swapRangeCmpFunc).
  Two parts of a row exchanged, by the library (slices.swapRangeCmpFunc).
  Two neighbouring parts of a row, the one put in the other one's place, by the library (slices.rotateCmpFunc).
-/
import Derived.Test.YtlgibnmoogbdcaaGreatR24
import Derived.Test.YtlgibnmoogbdcaaGreatR5
namespace Go.Proofs.YtlgibnmoogbdcaaGreat
open Go.RowKit
theorem Blk.sets {b t:Nat} : ∀ (vs:List Value) (o:Nat) {w:World} {cs:Array Value},Blk w b t cs→∃ cs':Array Value,Blk (w.setCells b o vs) b t cs'∧cs'.size=cs.size∧(∀ j,j<o∨o+vs.length≤j→cs'[j]?=cs[j]?)∧(∀ j,j<vs.length→o+j<cs.size→cs'[o+j]?=vs[j]?)∧Kept (fun k=>k=b) w (w.setCells b o vs)
 | [],o,w,cs,h=>⟨cs,h,rfl,fun _ _=>rfl,fun j hj=>absurd hj (Nat.not_lt_zero j),Kept.refl _ _⟩
 | v :: vs,o,w,cs,h=>by
  obtain ⟨c',h1,h2,h3,h4,h5⟩:=Blk.sets vs (o+1) (h.set o v)
  rw [Array.size_setIfInBounds] at h2 h4
  refine ⟨c',h1,h2,fun j hj=>?_,fun j hj hs=>?_,((Kept.refl (fun k=>k=b) w).setCell _ _ (.inl rfl)).trans h5⟩
  ·rw [List.length_cons] at hj
   rw [h3 j (by omega),Array.getElem?_setIfInBounds_ne (by omega)]
  ·cases j with
   | zero =>
    rw [Nat.add_zero,h3 o (.inl (Nat.lt_succ_self o)),Array.getElem?_setIfInBounds_self_of_lt (by omega)]
    rfl
   | succ j =>
    rw [show o+(j+1)=o+1+j from by omega,h4 j (by rw [List.length_cons] at hj;omega) (by omega)]
    rfl
theorem Rw.sets {w:World} {g z:Nat} {A B C D:List Tk} (h:Rw w g z (A++B++C)) (hD:D.length=B.length):Rw (w.setCells g (A.length*5) (tkCs D)) g z (A++D++C)∧Kept (fun k=>k=g) w (w.setCells g (A.length*5) (tkCs D)):=by
 obtain ⟨cur,hb,⟨hs,hz⟩,hc⟩:=h
 obtain ⟨c',h1,h2,h3,h4,h5⟩:=hb.sets (tkCs D) (A.length*5)
 have hz2:A.length+B.length+C.length≤z:=by rw [List.length_append,List.length_append] at hz;exact hz
 have hz3:(A.length+B.length+C.length)*5≤cur.size:=by rw [hs];exact Nat.mul_le_mul_right _ hz2
 refine ⟨⟨c',h1,⟨by rw [h2,hs],by simp only [List.length_append];omega⟩,fun j u hj=>?_⟩,h5⟩
 rw [tkCs_append,tkCs_append] at hj
 have lD:=tkCs_len D
 have lA:=tkCs_len A
 have lB:=tkCs_len B
 rw [lD] at h3 h4
 by_cases c1:j<A.length*5
 ·rw [h3 j (.inl c1)]
  refine hc j u ?_
  rw [tkCs_append,tkCs_append]
  rw [List.append_assoc,List.getElem?_append_left (by omega)] at hj ⊢
  exact hj
 ·by_cases c2:j<A.length*5+D.length*5
  ·obtain ⟨q,rfl⟩:∃ q,j=A.length*5+q:=⟨j - A.length*5,by omega⟩
   rw [h4 q (by omega) (by omega)]
   rw [List.append_assoc,List.getElem?_append_right (by omega),List.getElem?_append_left (by omega)] at hj
   rw [←hj]
   congr 1
   omega
  ·rw [h3 j (.inr (by omega))]
   refine hc j u ?_
   rw [tkCs_append,tkCs_append]
   rw [List.getElem?_append_right (by simp only [List.length_append];omega)] at hj ⊢
   rw [←hj]
   congr 1
   simp only [List.length_append]
   omega
theorem run_clear_tk (w:World) (ty:TypeId) (g z o n c:Nat) (L:List Tk) (h:Rw w g z L) (hn:o+n≤L.length) (h0:0<n) :
  (Builtin.clear_ #[32] ty #[.slice (some ⟨g,o*5,none⟩) n c]).run Tryz.prog w=.ok (.tuple #[]) (w.setCells g (o*5) (tkCs (List.replicate n tkZ))):=by
 have hv:(zeroValue 36).run Tryz.prog w=.ok (.agg #[.int .i64 0,.int .i64 0,.int .i64 0,.int .i64 0,.int .i64 0]) w:=by
  first | (go_simp;done) | (go_simp;rfl) | kernel_rfl
 have hzc:(Builtin.zeroCells (Value.cells (.agg #[.int .i64 0,.int .i64 0,.int .i64 0,.int .i64 0,.int .i64 0])) n).toList=tkCs (List.replicate n tkZ):=by
  apply List.ext_getElem?
  intro j
  by_cases c:j<n*5
  ·have e:=tkCs_at (List.replicate n tkZ) (j / 5) (by rw [List.length_replicate];omega) (j % 5) (Nat.mod_lt _ (by decide))
   rw [show j / 5*5+j % 5=j from by omega] at e
   rw [e]
   have:gt (List.replicate n tkZ) (j / 5)=tkZ:=by
    unfold gt
    rw [List.getD_eq_getElem?_getD,List.getElem?_replicate]
    split <;> rfl
   rw [this]
   have hm:j % 5=0∨j % 5=1∨j % 5=2∨j % 5=3∨j % 5=4:=by omega
   simp [Builtin.zeroCells,Value.cells,c]
   rcases hm with d | d | d | d | d <;> simp [d,tkC,tkZ]
  ·rw [List.getElem?_eq_none (by simp [Builtin.zeroCells,Value.cells];omega),List.getElem?_eq_none (by rw [tkCs_len,List.length_replicate];omega)]
 obtain ⟨cur,hb,⟨hs,hz⟩,hc⟩:=h
 have hst:=run_storeCells_cells (P:=Tryz.prog) g (o*5) (tkCs (List.replicate n tkZ)) 0 w (fun j hj=>by
  rw [tkCs_len,List.length_replicate] at hj
  rw [Nat.add_zero,hb.cell]
  rw [Array.getElem?_eq_getElem (by omega)]
  rfl) (fun j _=>hb.frozen _) tkCs_one
 rw [Nat.add_zero] at hst
 obtain ⟨m,rfl⟩:∃ m,n=m+1:=⟨n - 1,by omega⟩
 simp [Builtin.clear_,run_underlying Tryz.underlying32,hv,hzc,hst]
theorem Rw.sl {w:World} {g z:Nat} {L:List Tk} (h:Rw w g z L):SlR w (some ⟨g,0,none⟩) z L:=by
 obtain ⟨cur,hb,⟨hs,hz⟩,hc⟩:=h
 exact ⟨hz,(fun e=>by cases e),fun _=>⟨g,0,rfl,hb.lt,fun j u hj=>by rw [Nat.zero_add,hb.cell];exact hc j u hj⟩⟩
theorem Rw.room {w:World} {g z:Nat} {L:List Tk} (h:Rw w g z L) {q:Nat} (hq:q<z*5):(w.cell? ⟨g,q,none⟩).isSome=true∧w.frozen? ⟨g,q,none⟩=false:=by
 obtain ⟨cur,hb,⟨hs,hz⟩,hc⟩:=h
 exact ⟨by rw [hb.cell,Array.getElem?_eq_getElem (by omega)];rfl,hb.frozen q⟩
set_option maxRecDepth 20000 in
set_option maxHeartbeats 1000000 in
theorem delete_ok (g i n c:Nat) (L:List Tk) (w:World) (h:Rw w g c L) (hn:L.length=n) (hi:i<n) (hl:n≤2000) (hc:n≤c) (hcm:c≤maxLen) :
  Calls Tryz.prog 46 #[.slice (some ⟨g,0,none⟩) n c,.int .i64 i,.int .i64 ((i:Int)+1)] w fun e w'=>e=.returned (.slice (some ⟨g,0,none⟩) (n - 1) c)∧Rw w' g c (L.take i++L.drop (i+1))∧Kept (fun k=>k=g) w w':=by
 obtain ⟨i0,hi0,hz0,hz1,hz2⟩:=info_parts Tryz.info36
 obtain ⟨p,hp⟩:∃ p,n=p+1:=⟨n - 1,by omega⟩
 have lT:(L.take i).length=i:=by rw [List.length_take];omega
 have lD:(L.drop (i+1)).length=n - (i+1):=by rw [List.length_drop];omega
 obtain ⟨B,C,hBC,lB,lC⟩:∃ B C,L=L.take i++B++C∧B.length=(L.drop (i+1)).length∧C.length=1:=by
  refine ⟨(L.drop i).take (n - (i+1)),(L.drop i).drop (n - (i+1)),?_,?_,?_⟩
  ·rw [List.append_assoc,List.take_append_drop,List.take_append_drop]
  ·rw [lD,List.length_take,List.length_drop];omega
  ·rw [List.length_drop,List.length_drop];omega
 have h2:Rw w.drew g c (L.take i++B++C):=by rw [←hBC];exact h
 obtain ⟨S1,S2⟩:=h2.sets (D:=L.drop (i+1)) lB.symm
 rw [lT] at S1 S2
 obtain ⟨w1,hw1⟩:∃ w1,w1=w.drew.setCells g (i*5) (tkCs (L.drop (i+1))):=⟨_,rfl⟩
 rw [←hw1] at S1 S2
 have lM:(L.take i++L.drop (i+1)).length=p:=by rw [List.length_append,lT,lD];omega
 have hcl:∀ ty,(Builtin.clear_ #[32] ty #[.slice (some ⟨g,p*5,none⟩) 1 (c - p)]).run Tryz.prog w1=.ok (.tuple #[]) (w1.setCells g (p*5) (tkCs (List.replicate 1 tkZ))):=fun ty=>run_clear_tk w1 ty g c p 1 (c - p) _ S1 (by rw [List.length_append,lM,lC];omega) (by decide)
 have S3:Rw w1 g c ((L.take i++L.drop (i+1))++C ++ []):=by rw [List.append_nil];exact S1
 obtain ⟨S4,S5⟩:=S3.sets (D:=List.replicate 1 tkZ) (by rw [lC];rfl)
 rw [lM,List.append_nil] at S4
 rw [lM] at S5
 have HZ:Hd (Rw (w1.setCells g (p*5) (tkCs (List.replicate 1 tkZ))) g c (L.take i++L.drop (i+1))∧Kept (fun k=>k=g) w (w1.setCells g (p*5) (tkCs (List.replicate 1 tkZ)))):=⟨S4.first,((Kept.refl _ w).drew.trans S2).trans S5⟩
 have HW:Hd (w1=w.drew.setCells g (0+i*5) (tkCs (L.drop (i+1)))):=⟨by rw [Nat.zero_add];exact hw1⟩
 have HR:Hd (∀ W,Rw W g c L→SlR W (some (if c=i+1 then ⟨g,0,none⟩ else ⟨g,0+(i+1)*5,none⟩)) (c - (i+1)) (L.drop (i+1))∧∀ j,j<(tkCs (L.drop (i+1))).length→(W.cell? ⟨g,0+i*5+j,none⟩).isSome=true∧W.frozen? ⟨g,0+i*5+j,none⟩=false):=⟨fun W r=>⟨r.sl.drop (i+1) (by omega),fun j hj=>by
  rw [tkCs_len,lD] at hj
  rw [Nat.zero_add]
  exact r.room (by omega)⟩⟩
 have HL:Hd ((tkCs (L.drop (i+1))).length=(n - (i+1))*5):=⟨by rw [tkCs_len,lD]⟩
 have HT:Hd (Rw w.drew g c L):=⟨h⟩
 obtain ⟨x2,hx2⟩:∃ x2,x2=(if c=i+1 then (⟨g,0,none⟩:Addr) else ⟨g,0+(i+1)*5,none⟩):=⟨_,rfl⟩
 rw [←hx2] at HR
 have HX:Hd ((if c=i+1 then some (⟨g,0,none⟩:Addr) else some ⟨g,(i+1)*5,none⟩)=some x2):=⟨by rw [hx2,Nat.zero_add];split <;> rfl⟩
 have HP:Hd (i+(n - (i+1))=p∧n=p+1):=⟨by omega,hp⟩
 have hpc:¬ c=p:=by omega
 have hpn:n - p=1:=by omega
 have hpl:p<n:=by omega
 have hpi:n - 1=p:=by omega
 have hcw:(c:Int)≤9223372036854775807:=by unfold maxLen at hcm;omega
 clear hx2 h h2 hBC lB lC S1 S2 S3 S4 S5 hw1 lT lD lM hp
 have v1:IntKind.i64.wrap ((i:Int)+1)=(i:Int)+1:=by rw [IntKind.wrap_i64];omega
 have hne:((i:Int) == (i:Int)+1)=false:=by simp;omega
 go_enter Tryz.func46,Tryz.ntmps46
 go_upto_region 5 with fail
 clear hn
 refine AnyG.start (T:=fun W=>True) (U:=fun W=>W=w.drew) (j0:=6) (by kernel_rfl) ?_
 generalize w.drew=wd at *
 refine .tr 0 20 ⟨trivial,fun _=>rfl⟩ ?_;simp only [oqA,oqB,oqC]
 refine .tr 1 21 ⟨trivial,fun _=>rfl⟩ ?_;simp only [oqA,oqB,oqC]
 refine .tr (v:=.slice (some ⟨g,0,none⟩) i c) 2 22 ⟨trivial,fun _=>rfl⟩ ?_ (hy:=fun w hSw=>by go_simp;intro hlt;omega);simp only [oqA,oqB,oqC]
 refine .tr 3 23 ⟨trivial,fun _=>rfl⟩ ?_;simp only [oqA,oqB,oqC]
 refine .tr 4 24 ⟨trivial,fun _=>rfl⟩ ?_;simp only [oqA,oqB,oqC]
 refine .tr (v:=.slice (some x2) (n - (i+1)) (c - (i+1))) 5 25 ⟨trivial,fun _=>rfl⟩ ?_ (hy:=fun w hSw=>by go_simp;rw [if_pos (by omega),HX.out]);simp only [oqA,oqB,oqC]
 refine AnyG.ready (rs:=[6]) (by kernel_rfl) (by simp) ?_
 refine AllG.cons rfl (fun K hK=>?_) AllG.nil
 have HS:=HR.out _ HT.out
 refine step_append_room rfl (.tmp 22) (.tmp 25) 32 rfl 36 i0 5 Tryz.underlying32 hi0 hz1 g 0 i c rfl x2 (n - (i+1)) (c - (i+1)) (tkCs (L.drop (i+1))) rfl HL.out HS.1.2.2.cells tkCs_one (by omega) HS.2 ?_
 rw [←HW.out,HP.out.1]
 refine hK.out _ _ ⟨trivial,fun h=>by cases h⟩ ?_
 clear hK K HS
 refine AnyG.putAt 26 rfl ?_;simp only [oqA,oqB,oqC]
 refine .tr 7 0 ⟨trivial,fun h=>by cases h⟩ ?_;simp only [oqA,oqB]
 refine AnyG.done (by kernel_rfl) ?_ _
 go_wp2_with fail
 go_ret
 exact ⟨by rw [hpi];rfl,HZ.out⟩
def cmI (a b:Int):Int:=if a<b then -1 else if b<a then 1 else 0
theorem cmI_neg (a b:Int):cmI a b<0 ↔ a<b:=by
 unfold cmI
 by_cases c:a<b
 ·rw [if_pos c];exact ⟨fun _=>c,fun _=>by decide⟩
 ·rw [if_neg c]
  by_cases d:b<a
  ·rw [if_pos d];exact ⟨fun h=>absurd h (by decide),fun h=>absurd h c⟩
  ·rw [if_neg d];exact ⟨fun h=>absurd h (by decide),fun h=>absurd h c⟩
theorem nan_ok (a:Int) (w:World):Calls Tryz.prog 84 #[.int .i64 a] w fun e w'=>e=.returned (.bool false)∧w'=w:=by
 go_enter Tryz.func84,Tryz.ntmps84
 go_wp2
 go_ret
 exact ⟨by simp,rfl⟩
theorem compare_ok (a b:Int) (w:World):Calls Tryz.prog 56 #[.int .i64 a,.int .i64 b] w fun e w'=>e=.returned (.int .i64 (cmI a b))∧w'=w:=by
 unfold cmI
 by_cases c:a<b
 ·rw [if_pos c]
  go_enter Tryz.func56,Tryz.ntmps56
  go_wp2_with (go_at_call 84;refine (nan_ok _ _).mono ?_;rintro e w' ⟨rfl,rfl⟩)
  go_ret
  exact ⟨rfl,rfl⟩
 ·rw [if_neg c]
  by_cases d:b<a
  ·rw [if_pos d]
   go_enter Tryz.func56,Tryz.ntmps56
   go_wp2_with (go_at_call 84;refine (nan_ok _ _).mono ?_;rintro e w' ⟨rfl,rfl⟩)
   go_ret
   exact ⟨rfl,rfl⟩
  ·rw [if_neg d]
   go_enter Tryz.func56,Tryz.ntmps56
   go_wp2_with (go_at_call 84;refine (nan_ok _ _).mono ?_;rintro e w' ⟨rfl,rfl⟩)
   go_ret
   exact ⟨rfl,rfl⟩
theorem cmp_ok (x y:Tk) (w:World):Calls Tryz.prog 55 #[.agg #[.int .i64 x.id,.int .i64 x.wid,.int .i64 x.sts,.int .i64 x.sin,.int .i64 x.unt],.agg #[.int .i64 y.id,.int .i64 y.wid,.int .i64 y.sts,.int .i64 y.sin,.int .i64 y.unt]] w fun e w'=>e=.returned (.int .i64 (cmI x.id y.id))∧Below w.heap.size w w':=by
 obtain ⟨w2,hw2⟩:∃ w2,w2=(w.alloc (.cells #[.int .i64 x.id,.int .i64 x.wid,.int .i64 x.sts,.int .i64 x.sin,.int .i64 x.unt] 36)).alloc (.cells #[.int .i64 y.id,.int .i64 y.wid,.int .i64 y.sts,.int .i64 y.sin,.int .i64 y.unt] 36):=⟨_,rfl⟩
 have BX:=boxes w 36 36 #[.int .i64 x.id,.int .i64 x.wid,.int .i64 x.sts,.int .i64 x.sin,.int .i64 x.unt] #[.int .i64 y.id,.int .i64 y.wid,.int .i64 y.sts,.int .i64 y.sin,.int .i64 y.unt]
 rw [←hw2] at BX
 obtain ⟨B,N1,N2⟩:=BX
 have B:Hd (Below w.heap.size w w2):=⟨B⟩
 have c1:=N1.cellv (v:=.int .i64 x.id) 0 rfl
 have c2:=N2.cellv (v:=.int .i64 y.id) 0 rfl
 clear N1 N2
 go_enter Tryz.func55,Tryz.ntmps55
 go_upto_region 1 with fail
 rw [←hw2]
 clear hw2
 go_wp2_with (go_at_call 56;refine (compare_ok _ _ _).mono ?_;rintro e w' ⟨rfl,rfl⟩)
 go_ret;exact ⟨rfl,B.out⟩
def swR (P U M V S:List Tk) (k:Nat):List Tk:=(P++V.take k)++(U.drop k++M++U.take k)++V.drop k++S
theorem swR_zero (P U M V S:List Tk):swR P U M V S 0=P++U++M++V++S:=by simp [swR]
theorem swR_all {P U M V S:List Tk} (h:U.length=V.length):swR P U M V S U.length=P++V++M++U++S:=by
 unfold swR
 rw [List.take_of_length_le (l:=V) (by omega),List.drop_of_length_le (l:=U) (Nat.le_refl _),List.take_of_length_le (l:=U) (Nat.le_refl _),List.drop_of_length_le (l:=V) (by omega)]
 simp
theorem swR_step {P U M V S:List Tk} (h:U.length=V.length) {k:Nat} (hk:k<U.length):swT (swR P U M V S k) (P.length+k) (P.length+U.length+M.length+k)=swR P U M V S (k+1):=by
 have e1:U.drop k=gt U k :: U.drop (k+1):=by
  rw [List.drop_eq_getElem_cons hk]
  have:=gt_get hk
  rw [List.getElem?_eq_getElem hk] at this
  injection this with this
  rw [this]
 have e2:V.drop k=gt V k :: V.drop (k+1):=by
  have hk:k<V.length:=by omega
  rw [List.drop_eq_getElem_cons hk]
  have:=gt_get hk
  rw [List.getElem?_eq_getElem hk] at this
  injection this with this
  rw [this]
 have e3:V.take (k+1)=V.take k ++ [gt V k]:=by rw [List.take_add_one,gt_get (by omega)];rfl
 have e4:U.take (k+1)=U.take k ++ [gt U k]:=by rw [List.take_add_one,gt_get hk];rfl
 have key:=swT_list (P++V.take k) (U.drop (k+1)++M++U.take k) (V.drop (k+1)++S) (gt U k) (gt V k)
 have l1:(P++V.take k).length=P.length+k:=by rw [List.length_append,List.length_take];omega
 have l2:(P++V.take k).length+1+(U.drop (k+1)++M++U.take k).length=P.length+U.length+M.length+k:=by
  rw [l1]
  simp only [List.length_append,List.length_take,List.length_drop]
  omega
 rw [l2,l1] at key
 have a1:swR P U M V S k=P++V.take k++gt U k :: (U.drop (k+1)++M++U.take k)++gt V k :: (V.drop (k+1)++S):=by
  unfold swR
  rw [e1,e2]
  simp
 have a2:swR P U M V S (k+1)=P++V.take k++gt V k :: (U.drop (k+1)++M++U.take k)++gt U k :: (V.drop (k+1)++S):=by
  unfold swR
  rw [e3,e4]
  simp
 rw [a1,a2]
 exact key
theorem swR_len {P U M V S:List Tk} (h:U.length=V.length) (k:Nat) (hk:k≤U.length):(swR P U M V S k).length=P.length+U.length+M.length+V.length+S.length:=by
 unfold swR
 simp only [List.length_append,List.length_take,List.length_drop]
 omega
def C5 (w:World) (g i:Nat) (t:Tk):Prop:=w.cell? ⟨g,i*5,none⟩=some (.int .i64 t.id)∧w.cell? ⟨g,i*5+1,none⟩=some (.int .i64 t.wid)∧w.cell? ⟨g,i*5+2,none⟩=some (.int .i64 t.sts)∧w.cell? ⟨g,i*5+3,none⟩=some (.int .i64 t.sin)∧w.cell? ⟨g,i*5+4,none⟩=some (.int .i64 t.unt)
set_option maxRecDepth 20000 in
set_option maxHeartbeats 1000000 in
theorem swr_ok (g z a b m n:Nat) (c:Nat) (P U M V S:List Tk) (f:Value) (w:World) (h:Rw w g z (P++U++M++V++S)) (hUV:U.length=V.length) (hn:(P++U++M++V++S).length=n) (ha:P.length=a) (hb:P.length+U.length+M.length=b) (hm:U.length=m) (hl:n≤2000) :
  Calls Tryz.prog 105 #[.slice (some ⟨g,0,none⟩) n c,.int .i64 a,.int .i64 b,.int .i64 m,f] w fun e w'=>e=.returned (.tuple #[])∧Rw w' g z (P++V++M++U++S)∧Kept (fun j=>j=g) w w':=by
 have HE:Hd (Rw w g z (swR P U M V S 0)∧swR P U M V S m=P++V++M++U++S):=⟨by rw [swR_zero];exact h,by rw [←hm];exact swR_all hUV⟩
 have HS:Hd (∀ k,k<m→swT (swR P U M V S k) (a+k) (b+k)=swR P U M V S (k+1)):=⟨fun k hk=>by rw [←ha,← hb];exact swR_step hUV (by omega)⟩
 have HN:Hd (∀ k,k≤m→(swR P U M V S k).length=n):=⟨fun k hk=>by rw [swR_len hUV k (by omega),← hn];simp only [List.length_append]⟩
 have hbm:b+m≤n:=by rw [←hn];simp only [List.length_append];omega
 have ham:a+m≤b:=by omega
 have hE:=HE.out.2
 rw [←hE]
 clear hE h hUV hn ha hb hm
 generalize swR P U M V S=R at *
 go_enter Tryz.func105,Tryz.ntmps105
 go_wp2_with fail
 go_loopw [10] (fun i wr=>∃ k:Nat,k≤m∧i=.int .i64 k∧Hd (Rw wr g z (R k))∧Hd (Kept (fun j=>j=g) w wr)) (fun i _=>m - (intOf i).toNat)
 case atStart=>exact ⟨0,Nat.zero_le _,rfl,⟨HE.out.1⟩,⟨Kept.refl _ _⟩⟩
 case round =>
  obtain ⟨k,hk,rfl,hR,hK⟩:=hrel
  by_cases hlt:k<m
  ·have hlen:=HN.out k (by omega)
   have HT:=HS.out k hlt
   obtain ⟨L0,hL0⟩:∃ L0,L0=R k:=⟨_,rfl⟩
   rw [←hL0] at hR hlen HT
   have HT:Hd (swT L0 (a+k) (b+k)=R (k+1)):=⟨HT⟩
   clear hL0
   obtain ⟨x,hx⟩:∃ x,x=gt L0 (a+k):=⟨_,rfl⟩
   obtain ⟨y,hy⟩:∃ y,y=gt L0 (b+k):=⟨_,rfl⟩
   have HX:Hd (x=gt L0 (a+k)):=⟨hx⟩
   have HY:Hd (y=gt L0 (b+k)):=⟨hy⟩
   clear hx hy
   have i1:(a:Int)+(k:Int)<(n:Int):=by omega
   have i2:(b:Int)+(k:Int)<(n:Int):=by omega
   have e1:((a:Int)+(k:Int)).toNat=a+k:=by omega
   have e2:((b:Int)+(k:Int)).toNat=b+k:=by omega
   have p1:(0:Int)≤(a:Int)+(k:Int):=by omega
   have p2:(0:Int)≤(b:Int)+(k:Int):=by omega
   have V1:Hd (IntKind.i64.wrap ((a:Int)+(k:Int))=(a:Int)+(k:Int)):=⟨by rw [IntKind.wrap_i64];omega⟩
   have V2:Hd (IntKind.i64.wrap ((b:Int)+(k:Int))=(b:Int)+(k:Int)):=⟨by rw [IntKind.wrap_i64];omega⟩
   go_wp2_with fail
   have RD:Hd (Rw wr.drew g z L0):=⟨hR.out⟩
   have UU:C5 wr.drew g (a+k) x∧C5 wr.drew g (b+k) y:=⟨by rw [HX.out];exact RD.out.at (by omega),by rw [HY.out];exact RD.out.at (by omega)⟩
   have HXY:Hd (∀ W,Rw W g z ((L0.set ((a+k)) y).set ((b+k)) x)→Rw W g z (swT L0 ((a+k)) ((b+k)))):=⟨fun W h=>by rw [HX.out,HY.out] at h;exact h⟩
   clear HX HY
   have KD:Hd (Kept (fun q=>q=g) wr wr.drew):=⟨(Kept.refl _ _).drew⟩
   refine AnyG.start (T:=fun _=>True) (U:=fun W=>C5 W g (a+k) x∧C5 W g (b+k) y) (j0:=21) (by kernel_rfl) ?_
   generalize wr.drew=wd at *
   refine .tr 0 16 ⟨trivial,fun _=>UU⟩ ?_;simp only [oqA,oqB,oqC]
   refine .tr 1 17 ⟨trivial,fun _=>UU⟩ ?_;simp only [oqA,oqB,oqC]
   refine .tr 2 18 ⟨trivial,fun _=>UU⟩ ?_;simp only [oqA,oqB,oqC]
   refine .tr (v:=.int .i64 ((a:Int)+(k:Int))) 3 19 ⟨trivial,fun _=>UU⟩ ?_ (hy:=fun w hSw=>by have s:=V1.out;go_simp;try rfl);simp only [oqA,oqB,oqC]
   refine .tr 4 20 ⟨trivial,fun _=>UU⟩ ?_;simp only [oqA,oqB,oqC]
   refine .tr 5 21 ⟨trivial,fun _=>UU⟩ ?_;simp only [oqA,oqB,oqC]
   refine .tr 6 22 ⟨trivial,fun _=>UU⟩ ?_;simp only [oqA,oqB,oqC]
   refine .tr (v:=.int .i64 ((b:Int)+(k:Int))) 7 23 ⟨trivial,fun _=>UU⟩ ?_ (hy:=fun w hSw=>by have s:=V2.out;go_simp;try rfl);simp only [oqA,oqB,oqC]
   refine .tr 8 24 ⟨trivial,fun _=>UU⟩ ?_;simp only [oqA,oqB,oqC]
   refine .tr 9 25 ⟨trivial,fun _=>UU⟩ ?_;simp only [oqA,oqB,oqC]
   refine .tr 10 26 ⟨trivial,fun _=>UU⟩ ?_;simp only [oqA,oqB,oqC]
   refine .tr (v:=.int .i64 ((b:Int)+(k:Int))) 11 27 ⟨trivial,fun _=>UU⟩ ?_ (hy:=fun w hSw=>by have s:=V2.out;go_simp;try rfl);simp only [oqA,oqB,oqC]
   refine .tr 12 28 ⟨trivial,fun _=>UU⟩ ?_;simp only [oqA,oqB,oqC]
   refine .er 13 29 ⟨trivial,fun _=>UU⟩ ?_ (hy:=fun w hSw=>by obtain ⟨-,-,⟨c0,c1,c2,c3,c4⟩⟩:=hSw;go_simp;rfl);simp only [oqA,oqB,oqC]
   refine .tr 14 30 ⟨trivial,fun _=>UU⟩ ?_;simp only [oqA,oqB,oqC]
   refine .tr 15 31 ⟨trivial,fun _=>UU⟩ ?_;simp only [oqA,oqB,oqC]
   refine .tr 16 32 ⟨trivial,fun _=>UU⟩ ?_;simp only [oqA,oqB,oqC]
   refine .tr (v:=.int .i64 ((a:Int)+(k:Int))) 17 33 ⟨trivial,fun _=>UU⟩ ?_ (hy:=fun w hSw=>by have s:=V1.out;go_simp;try rfl);simp only [oqA,oqB,oqC]
   refine .tr 18 34 ⟨trivial,fun _=>UU⟩ ?_;simp only [oqA,oqB,oqC]
   refine .er 19 35 ⟨trivial,fun _=>UU⟩ ?_ (hy:=fun w hSw=>by obtain ⟨-,⟨c0,c1,c2,c3,c4⟩,-⟩:=hSw;go_simp;rfl);simp only [oqA,oqB,oqC]
   refine .tr 20 36 ⟨trivial,fun _=>UU⟩ ?_;simp only [oqA,oqB,oqC]
   refine AnyG.ready (rs:=[21]) (by kernel_rfl) (by simp) ?_
   refine AllG.cons rfl (fun K hK=>?_) AllG.nil
   obtain ⟨⟨a0,a1,a2,a3,a4⟩,-⟩:=UU
   have fz:=RD.out.frozen
   obtain ⟨P1,P2⟩:=RD.out.put (k:=(a+k)) (by omega) y
   go_simp
   refine hK.out _ _ ⟨trivial,fun h=>by cases h⟩ ?_
   clear hK K a0 a1 a2 a3 a4 fz
   generalize (((((wd.setCell ⟨g,(a+k)*5,none⟩ (.int .i64 y.id)).setCell ⟨g,(a+k)*5+1,none⟩ (.int .i64 y.wid)).setCell ⟨g,(a+k)*5+2,none⟩ (.int .i64 y.sts)).setCell ⟨g,(a+k)*5+3,none⟩ (.int .i64 y.sin)).setCell ⟨g,(a+k)*5+4,none⟩ (.int .i64 y.unt))=w6 at P1 P2 ⊢
   refine .tr 22 37 ⟨trivial,fun h=>by cases h⟩ ?_;simp only [oqA,oqB,oqC]
   refine AnyG.ready (rs:=[23]) (by kernel_rfl) (by simp) ?_
   refine AllG.cons rfl (fun K hK=>?_) AllG.nil
   obtain ⟨a0,a1,a2,a3,a4⟩:=P1.at (k:=(b+k)) (by rw [List.length_set];omega)
   have fz:=P1.frozen
   obtain ⟨P3,P4⟩:=P1.put (k:=(b+k)) (by rw [List.length_set];omega) x
   go_simp
   refine hK.out _ _ ⟨trivial,fun h=>by cases h⟩ ?_
   clear hK K a0 a1 a2 a3 a4 fz
   generalize (((((w6.setCell ⟨g,(b+k)*5,none⟩ (.int .i64 x.id)).setCell ⟨g,(b+k)*5+1,none⟩ (.int .i64 x.wid)).setCell ⟨g,(b+k)*5+2,none⟩ (.int .i64 x.sts)).setCell ⟨g,(b+k)*5+3,none⟩ (.int .i64 x.sin)).setCell ⟨g,(b+k)*5+4,none⟩ (.int .i64 x.unt))=w9 at P3 P4 ⊢
   refine AnyG.done (by kernel_rfl) ?_ _
   have HZ:Hd (Rw w9 g z (swT L0 (a+k) (b+k))∧Kept (fun q=>q=g) wr w9):=⟨HXY.out _ P3,KD.out.trans (P2.trans P4)⟩
   clear P1 P2 P3 P4 RD KD HXY
   rw [HT.out] at HZ
   clear hR HT
   go_wp2_with fail
   go_roundw
   case rel=>exact ⟨k+1,by omega,by go_num,⟨HZ.out.1⟩,⟨hK.out.trans HZ.out.2⟩⟩
   case measure=>simp [intOf];omega
  ·obtain rfl:k=m:=by omega
   go_wp2_with fail
   go_end0
   exact ⟨rfl,hR.out,hK.out⟩
structure RoI (g z n m:Nat) (T:List Tk) (w wr:World) (i j:Nat):Prop where
 ex:∃ P U V S,(0<i∧0<j)∧(U.length=i∧V.length=j∧P.length+i=m)∧P++V++U++S=T∧(P++U++V++S).length=n∧Rw wr g z (P++U++V++S)
 kept:Kept (fun q=>q=g) w wr
set_option maxRecDepth 20000 in
set_option maxHeartbeats 1000000 in
theorem rot_ok (g z a m b n:Nat) (c:Nat) (P U V S:List Tk) (f:Value) (w:World) (h:Rw w g z (P++U++V++S)) (hn:(P++U++V++S).length=n) (ha:P.length=a) (hm:P.length+U.length=m) (hb:P.length+U.length+V.length=b) (hU:0<U.length) (hV:0<V.length) (hl:n≤2000) :
  Calls Tryz.prog 102 #[.slice (some ⟨g,0,none⟩) n c,.int .i64 a,.int .i64 m,.int .i64 b,f] w fun e w'=>e=.returned (.tuple #[])∧Rw w' g z (P++V++U++S)∧Kept (fun j=>j=g) w w':=by
 obtain ⟨T,hT⟩:∃ T,T=P++V++U++S:=⟨_,rfl⟩
 rw [←hT]
 have hbn:b≤n:=by rw [←hn];simp only [List.length_append];omega
 have ham:a<m:=by omega
 have hmb:m<b:=by omega
 have H0:Hd (RoI g z n m T w w (m - a) (b - m)):=⟨⟨P,U,V,S,⟨by omega,by omega⟩,⟨by omega,by omega,by omega⟩,hT.symm,hn,h⟩,Kept.refl _ _⟩
 clear h hn ha hm hb hU hV hT
 go_enter Tryz.func102,Tryz.ntmps102
 go_wp2_with fail
 go_loopw [10,11] (fun vi vj wr=>∃ i j:Nat,vi=.int .i64 i∧vj=.int .i64 j∧i≤m∧m+j≤n∧Hd (RoI g z n m T w wr i j)) (fun vi vj _=>(intOf vi).toNat+(intOf vj).toNat)
 case atStart=>exact ⟨m - a,b - m,by go_num,by go_num,by omega,by omega,H0⟩
 case round =>
  obtain ⟨i,j,rfl,rfl,hi,hj,hR⟩:=hrel
  obtain ⟨⟨P',U',V',S',⟨i0,j0⟩,⟨lU,lV,lP⟩,eT,hN,hRw⟩,hK⟩:=hR.out
  clear H0 hR
  by_cases hij:i=j
  ·subst hij
   have C:Calls Tryz.prog 105 #[.slice (some ⟨g,0,none⟩) n c,.int .i64 ((m:Int) - (i:Int)),.int .i64 m,.int .i64 i,f] wr fun e w'=>e=.returned (.tuple #[])∧Rw w' g z (P' ++ V' ++ []++U' ++ S')∧Kept (fun j=>j=g) wr w':=by
    rw [show (m:Int) - (i:Int)=((m - i:Nat):Int) from by omega]
    exact swr_ok g z (m - i) m i n c P' U' [] V' S' f wr (by rw [List.append_nil];exact hRw) (by omega) (by rw [List.append_nil];exact hN) (by omega) (by simp;omega) lU hl
   rw [List.append_nil,eT] at C
   have hK:Hd (Kept (fun q=>q=g) w wr):=⟨hK⟩
   clear hRw hN eT lU lV lP
   go_wp2_with (go_at_call 105;refine C.mono ?_;rintro e w' ⟨rfl,r1,r2⟩)
   go_end0
   exact ⟨rfl,r1,hK.out.trans r2⟩
  ·by_cases hlt:j<i
   ·obtain ⟨U1,hU1⟩:∃ U1,U1=U'.take j:=⟨_,rfl⟩
    obtain ⟨U2,hU2⟩:∃ U2,U2=U'.drop j:=⟨_,rfl⟩
    have eU:U'=U1++U2:=by rw [hU1,hU2,List.take_append_drop]
    have l1:U1.length=j:=by rw [hU1,List.length_take];omega
    have l2:U2.length=i - j:=by rw [hU2,List.length_drop];omega
    clear hU1 hU2
    subst eU
    have C:Calls Tryz.prog 105 #[.slice (some ⟨g,0,none⟩) n c,.int .i64 ((m:Int) - (i:Int)),.int .i64 m,.int .i64 j,f] wr fun e w'=>e=.returned (.tuple #[])∧Rw w' g z (P' ++ V' ++ U2++U1++S')∧Kept (fun j=>j=g) wr w':=by
     rw [show (m:Int) - (i:Int)=((m - i:Nat):Int) from by omega]
     exact swr_ok g z (m - i) m j n c P' U1 U2 V' S' f wr (by rw [←List.append_assoc] at hRw;exact hRw) (by omega) (by rw [←List.append_assoc] at hN;exact hN) (by omega) (by omega) l1 hl
    have HX:Hd (∀ W,Rw W g z (P' ++ V' ++ U2++U1++S')→Kept (fun q=>q=g) wr W→RoI g z n m T w W (i - j) j):=⟨fun W r k=>⟨⟨P' ++ V',U2,U1,S',⟨by omega,j0⟩,⟨l2,l1,by simp;omega⟩,by rw [←eT];simp,by rw [←hN];simp;omega,r⟩,hK.trans k⟩⟩
    clear hRw hN eT lU lV lP hK l1 l2
    have hij':¬ (i:Int)=(j:Int):=by omega
    go_wp2_with (go_at_call 105;refine C.mono ?_;rintro e w' ⟨rfl,r1,r2⟩)
    go_roundw
    case rel=>exact ⟨i - j,j,by go_num,rfl,by omega,by omega,⟨HX.out _ r1 r2⟩⟩
    case measure=>simp [intOf];omega
   ·obtain ⟨V1,hV1⟩:∃ V1,V1=V'.take (j - i):=⟨_,rfl⟩
    obtain ⟨V2,hV2⟩:∃ V2,V2=V'.drop (j - i):=⟨_,rfl⟩
    have eV:V'=V1++V2:=by rw [hV1,hV2,List.take_append_drop]
    have l1:V1.length=j - i:=by rw [hV1,List.length_take];omega
    have l2:V2.length=i:=by rw [hV2,List.length_drop];omega
    clear hV1 hV2
    subst eV
    have C:Calls Tryz.prog 105 #[.slice (some ⟨g,0,none⟩) n c,.int .i64 ((m:Int) - (i:Int)),.int .i64 ((m:Int)+(j:Int) - (i:Int)),.int .i64 i,f] wr fun e w'=>e=.returned (.tuple #[])∧Rw w' g z (P' ++ V2++V1++U' ++ S')∧Kept (fun j=>j=g) wr w':=by
     rw [show (m:Int) - (i:Int)=((m - i:Nat):Int) from by omega,show (m:Int)+(j:Int) - (i:Int)=((m+j - i:Nat):Int) from by omega]
     exact swr_ok g z (m - i) (m+j - i) i n c P' U' V1 V2 S' f wr (by rw [←List.append_assoc] at hRw;exact hRw) (by omega) (by rw [←List.append_assoc] at hN;exact hN) (by omega) (by omega) lU hl
    have HX:Hd (∀ W,Rw W g z (P' ++ V2++V1++U' ++ S')→Kept (fun q=>q=g) wr W→RoI g z n m T w W i (j - i)):=⟨fun W r k=>⟨⟨P',V2,V1,U' ++ S',⟨i0,by omega⟩,⟨l2,l1,lP⟩,by rw [←eT];simp,by rw [←hN];simp;omega,by rw [←List.append_assoc];exact r⟩,hK.trans k⟩⟩
    clear hRw hN eT lU lV lP hK l1 l2
    have hij':¬ (i:Int)=(j:Int):=by omega
    go_wp2_with (go_at_call 105;refine C.mono ?_;rintro e w' ⟨rfl,r1,r2⟩)
    go_roundw
    case rel=>exact ⟨i,j - i,rfl,by go_num,by omega,by omega,⟨HX.out _ r1 r2⟩⟩
    case measure=>simp [intOf];omega
end Go.Proofs.YtlgibnmoogbdcaaGreat
