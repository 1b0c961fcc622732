/-
  The reference of layers 8 and 10 (RfA).
  The reference of layers 8 and 10 (RfB).
  The reference of layers 8 and 10 (BxP).
  The reference of layers 8 and 10 (BxS).
-/
import Derived.Test.YthkdbphgiobcdaaGreatDoorE30
import Derived.Test.YthkdbphgiobcdaaGreatDoorE31
import Derived.Test.YthkdbphgiobcdaaGreatDoorE1
namespace Go.Proofs.YthkdbphgiobcdaaGreatDoor
open Go.RowKit
theorem one_new (w:World) (x:Int):∀ j u,([.int .i64 x]:List Value)[j]?=some u→(w.alloc (.cells #[.int .i64 x] 3)).cell? ((⟨w.heap.size,0,none⟩:Addr).add j)=some u:=by
 intro j u hj
 match j,hj with
 | 0,hj=>simp at hj;subst hj;simp [Addr.add]
theorem one_cell (x:Int):∀ u∈([.int .i64 x]:List Value),u.oneCell'=true:=by
 intro u hu;simp at hu;subst hu;rfl
theorem info3:(Tryz.prog.info? 3).map (fun i=>(i.zero,i.size,i.bytes))=some (some (.int .i64 0),1,8):=by kernel_rfl
def OwnN (B:Nat) (w:World) (v:Value) (l:List Int):Prop:=w.ownsRow B 3 1 v l.length (l.map (Value.int .i64))
theorem OwnN.put {B:Nat} {w:World} {v:Value} {l:List Int} {x:Int} (h:w.ownsRow B 3 1 v (l.length+1) (l.map (Value.int .i64) ++ [.int .i64 x])):OwnN B w v (l ++ [x]):=by
 unfold OwnN
 rw [List.length_append,List.map_append]
 exact h
def BRow (w:World) (g q:Nat) (lo hi:Nat→Int):Prop:=g<w.heap.size∧∀ k,k<q→w.cell? ⟨g,k*2,none⟩=some (.int .i64 (lo k))∧w.cell? ⟨g,k*2+1,none⟩=some (.int .i64 (hi k))
def numsTo (ws:List ByteArray) (lo hi:Nat→Int) (k:Nat):List Int:=(List.range k).map fun j=>numOf (gt ws (j+1)) (lo j) (hi j)
theorem numsTo_succ (ws:List ByteArray) (lo hi:Nat→Int) (k:Nat):numsTo ws lo hi (k+1)=numsTo ws lo hi k ++ [numOf (gt ws (k+1)) (lo k) (hi k)]:=by
 unfold numsTo;rw [List.range_succ,List.map_append];rfl
theorem numsTo_len (ws:List ByteArray) (lo hi:Nat→Int) (k:Nat):(numsTo ws lo hi k).length=k:=by unfold numsTo;simp
set_option maxRecDepth 20000 in
set_option maxHeartbeats 4000000 in
theorem nums_go (a:Option Addr) (c:Nat) (ws:List ByteArray) (g cb q:Nat) (lo hi:Nat→Int) (w:World) (hr:RowL w a ws) (hsz:∀ k,(gt ws k).size≤65536) (hb:BRow w g q lo hi) (hn:ws.length=q+1) (hq:q≤10) :
  Calls Tryz.prog 153 #[.slice a ws.length c,.int .i64 ((q+1:Nat):Int),.slice (some ⟨g,0,none⟩) q cb] w fun e w'=>Below w.heap.size w w' ∧
   (((∃ j,j<q∧numIn (gt ws (j+1)) (lo j) (hi j)=false)∧e=.returned (.tuple #[.slice none 0 0,.int .i64 8])) ∨
    ((∀ j,j<q→numIn (gt ws (j+1)) (lo j) (hi j)=true)∧∃ v,e=.returned (.tuple #[v,.int .i64 0])∧OwnN w.heap.size w' v (numsTo ws lo hi q))):=by
 obtain ⟨i0,hi0,hz0,hz1,hz2⟩:=info_parts info3
 have HW:Hd (RowL w a ws∧BRow w g q lo hi∧ws.length=q+1∧∀ k,(gt ws k).size≤65536):=⟨hr,hb,hn,hsz⟩
 rw [hn]
 clear hr hb hn hsz
 go_enter Tryz.func153,Tryz.ntmps153
 go_wp2_with fail
 go_loopw [6,7,8,9] (fun _ _ v i wr=>∃ k:Nat,k≤q∧i=.int .i64 k∧Hd ((∀ j,j<k→numIn (gt ws (j+1)) (lo j) (hi j)=true)∧OwnN w.heap.size wr v (numsTo ws lo hi k)∧Below w.heap.size w wr)) (fun _ _ _ i _=>q - (intOf i).toNat)
 case atStart=>exact ⟨0,Nat.zero_le _,rfl,⟨fun j h=>absurd h (Nat.not_lt_zero _),World.ownsRow_nil _ _ _ _,Below.refl _ _⟩⟩
 case round =>
  obtain ⟨k,hk,rfl,hI⟩:=hrel
  by_cases hlt:k<q
  ·obtain ⟨b,off,rfl,hbl',hcs⟩:=HW.out.1 (by rw [HW.out.2.2.1];omega)
   have hcell:=(hI.out.2.2.cell (p:=⟨b,off+(k+1),none⟩) hbl').trans (hcs (k+1) (by rw [HW.out.2.2.1];omega))
   obtain ⟨hg,hbc⟩:=HW.out.2.1
   have c1:=(hI.out.2.2.cell (p:=⟨g,k*2,none⟩) hg).trans (hbc k hlt).1
   have c2:=(hI.out.2.2.cell (p:=⟨g,k*2+1,none⟩) hg).trans (hbc k hlt).2
   have RN:=fun W=>rnumber_ok (gt ws (k+1)) (lo k) (hi k) (by have:=HW.out.2.2.2 (k+1);omega) W
   have HS:Hd (numsTo ws lo hi (k+1)=numsTo ws lo hi k ++ [numOf (gt ws (k+1)) (lo k) (hi k)]):=⟨numsTo_succ ws lo hi k⟩
   have HC:Hd ((numIn (gt ws (k+1)) (lo k) (hi k)=false→∃ j,j<q∧numIn (gt ws (j+1)) (lo j) (hi j)=false)∧(numIn (gt ws (k+1)) (lo k) (hi k)=true→∀ j,j<k+1→numIn (gt ws (j+1)) (lo j) (hi j)=true)):=⟨fun h=>⟨k,hlt,h⟩,fun h j hj=>by
    rcases Nat.lt_or_eq_of_le (Nat.le_of_lt_succ hj) with h' | h'
    ·exact hI.out.1 j h'
    ·subst h';exact h⟩
   have HK:Hd (k<q):=⟨hlt⟩
   have BB:Hd (Below w.heap.size w wr):=⟨hI.out.2.2⟩
   have own:=hI.out.2.1
   have OL:=numsTo_len ws lo hi k
   have i1:(k:Int)+1<(q:Int)+1:=by omega
   have i2:(k:Int)<(q:Int):=by omega
   have i3:IntKind.i64.wrap ((k:Int)+1)=(k:Int)+1:=by rw [IntKind.wrap_i64];omega
   have bsz:=BB.out.size
   have S1:b<wr.heap.size:=Nat.lt_of_lt_of_le hbl' bsz
   have S2:g<wr.heap.size:=Nat.lt_of_lt_of_le hg bsz
   clear hcs hbc hI HW hg hbl'
   generalize gt ws (k+1)=x at *
   generalize lo k=l0 at *
   generalize hi k=h0 at *
   generalize numOf x l0 h0=nv at *
   generalize hnb:numIn x l0 h0=nb at *
   go_wp2_with fail
   go_region_held (fun w'=>w'.cell? ⟨b,off+(k+1),none⟩=some (.string x)∧w'.cell? ⟨g,k*2,none⟩=some (.int .i64 l0)∧w'.cell? ⟨g,k*2+1,none⟩=some (.int .i64 h0)) (first | exact ⟨s1,s2,s3⟩ | exact ⟨hcell,c1,c2⟩)
    (first | (go_at_call 174;refine (RN _).mono ?_;rintro e w3 ⟨rfl,b3⟩;have s1:=(b3.cell (p:=⟨b,off+(k+1),none⟩) S1).trans hcell;have s2:=(b3.cell (p:=⟨g,k*2,none⟩) S2).trans c1;have s3:=(b3.cell (p:=⟨g,k*2+1,none⟩) S2).trans c2))
   have B3:Hd (Below w.heap.size w w3):=⟨BB.out.drew.trans (b3.mono bsz)⟩
   have own3:w3.ownsRow w.heap.size 3 1 u8 k ((numsTo ws lo hi k).map (Value.int .i64)):=by
    have h1:wr.ownsRow w.heap.size 3 1 u8 (numsTo ws lo hi k).length ((numsTo ws lo hi k).map (Value.int .i64)):=own
    rw [OL] at h1
    exact owns_kept (owns_kept h1 ((Kept.refl (fun _=>False) wr).drew) (fun _ _=>id)) (Kept.of_below b3 (fun _=>False)) (fun _ _=>id)
   have bs3:=B3.out.size
   clear s1 s2 s3 b3 own hcell c1 c2 RN
   cases nb with
   | false =>
    go_wp2_with fail
    go_ret2
    exact ⟨B3.out,.inl ⟨HC.out.1 (by first | exact rfl | trivial),rfl⟩⟩
   | true =>
    go_wp2_with (at_builtin;refine wpList_append_own _ rfl _ _ 144 rfl w.heap.size 3 i0 (.int .i64 0) 1 8 Tryz.underlying144 hi0 hz0 hz1 hz2 rfl (by decide) _ _ _ rfl (World.ownsRow.alloc own3 _) ⟨w3.heap.size,0,none⟩ 1 1 [.int .i64 nv] rfl rfl (one_new _ _) (one_cell _) (by unfold maxLen;omega) (by omega) (by simp;omega) ?_;intro v' w4 hown' hgrow _)
    have P4:Hd (Below w.heap.size w w4):=⟨(B3.out.alloc B3.out.size _).grown hgrow (by simp;omega) (fun k hk=>(own3.lt k hk).1)⟩
    have O4:Hd (OwnN w.heap.size w4 v' (numsTo ws lo hi (k+1))):=⟨by rw [HS.out];exact OwnN.put (by rw [OL];exact hown')⟩
    go_roundw
    case rel=>exact ⟨u6,u7,v',.int .i64 ((k:Int)+1),⟨k+1,HK.out,by go_num,⟨HC.out.2 (by first | exact rfl | trivial),O4.out,P4.out⟩⟩,rfl,rfl,rfl,rfl⟩
    case measure=>have:=HK.out;simp [intOf];omega
  ·obtain rfl:q=k:=by omega
   have R:Hd _:=hI
   obtain ⟨va,vc,rfl⟩:=own_form hI.out.2.1
   clear hI
   go_wp2_with fail
   go_ret2
   exact ⟨R.out.2.2,.inr ⟨R.out.1,_,rfl,R.out.2.1⟩⟩
end Go.Proofs.YthkdbphgiobcdaaGreatDoor

namespace Go.Proofs.YthkdbphgiobcdaaGreatDoor
open Go.RowKit Go.Lib
theorem row_ownedZ {w:World} {B c:Nat} {a:Option Addr} {L:List ByteArray} (h:OwnT B w (.slice a L.length c) L):RowY B w a L:=by
 intro hn
 rcases id h.2 with ⟨e,_⟩ | ⟨g,cap,cur,e,_⟩
 ·injection e with _ e2 _
  omega
 ·injection e with e1 _ e3
  subst e1
  exact row_ownedY h hn
set_option maxRecDepth 20000 in
theorem rcut_y (s:ByteArray) (c:UInt8) (ci:Int) (hci:ci=(c.toNat:Int)) (w:World) (hs:s.size≤131072) :
  Calls Tryz.prog 157 #[.string s,.int .u8 ci] w fun e w'=>∃ a cap,e=.returned (.slice a (cutB c s).length cap)∧RowY w.heap.size w' a (cutB c s)∧(cutB c s).length≤cap∧Below w.heap.size w w':=by
 obtain ⟨i0,hi,hz0,hz1,hz2⟩:=info_parts info9
 go_enter Tryz.func157,Tryz.ntmps157
 go_wp2
 go_loopw [5,6,7] (fun s5 s6 i wr=>∃ (k fr:Nat) (P:List ByteArray),k≤s.size∧fr≤k∧i=.int .i64 k∧s6=.int .i64 fr∧Hd (Cut c s P fr k)∧P.length≤k∧Hd (OwnT w.heap.size wr s5 P)∧Below w.heap.size w wr) (fun _ _ i _=>s.size - (intOf i).toNat)
 case atStart=>exact ⟨0,0,[],Nat.zero_le _,Nat.le_refl _,rfl,rfl,⟨Cut.start c s⟩,Nat.le_refl _,⟨⟨rfl,.inl ⟨rfl,rfl⟩⟩⟩,Below.refl _ _⟩
 case round =>
  obtain ⟨k,fr,P,hk,hfr,rfl,rfl,hC,hP,hown,p3⟩:=hrel
  have hsz:=p3.size
  by_cases hlt:k<s.size
  ·by_cases hb:s[k]=c
   ·have hC':Hd (Cut c s (P ++ [s.extract fr k]) (k+1) (k+1)):=⟨hC.out.hit hlt hb⟩
    have e1:((s[k].toNat:Int) == ci)=true:=by rw [hb,hci];simp
    clear hC hb
    generalize hx:s.extract fr k=x at *
    clear hci
    go_wp2_with (at_builtin;refine wpList_append_own _ rfl _ _ 52 rfl w.heap.size 9 i0 (.string ByteArray.empty) 1 16 Tryz.underlying52 hi hz0 hz1 hz2 rfl (by decide) _ _ _ rfl (hown.out.alloc _) ⟨wr.heap.size,0,none⟩ 1 1 [.string x] rfl rfl (one_newT _ _) (one_cellT _) (by unfold maxLen;omega) (by omega) (by simp;omega) ?_;intro v' w2 hown' hgrow _)
    have P4:Hd (Below w.heap.size w w2):=⟨(p3.alloc p3.size _).grown hgrow (by simp;omega) (fun j hj=>(hown.out.lt j hj).1)⟩
    have O4:Hd (OwnT w.heap.size w2 v' (P ++ [x])):=⟨OwnT.put hown'⟩
    clear hown' hgrow hown p3
    go_roundw
    case rel=>exact ⟨k+1,k+1,P ++ [x],by omega,by omega,by go_num,by go_num,hC',by simp;omega,O4,P4.out⟩
    case measure=>simp [intOf];omega
   ·have hC':Hd (Cut c s P fr (k+1)):=⟨hC.out.miss hlt hb⟩
    have e1:((s[k].toNat:Int) == ci)=false:=by
     rw [hci]
     cases h:((s[k].toNat:Int) == (c.toNat:Int)) with
     | false=>rfl
     | true=>exact absurd (UInt8.toNat_inj.1 (by have:=eq_of_beq h;omega)) hb
    clear hC hb hci
    go_wp2
    go_roundw
    case rel=>exact ⟨k+1,fr,P,by omega,by omega,by go_num,rfl,hC',by omega,hown,p3⟩
    case measure=>simp [intOf];omega
  ·obtain rfl:k=s.size:=by omega
   have hF:Hd (P ++ [s.extract fr s.size]=cutB c s):=⟨hC.out.fin⟩
   clear hC hci
   generalize hx:s.extract fr s.size=x at *
   go_wp2_with (at_builtin;refine wpList_append_own _ rfl _ _ 52 rfl w.heap.size 9 i0 (.string ByteArray.empty) 1 16 Tryz.underlying52 hi hz0 hz1 hz2 rfl (by decide) _ _ _ rfl (hown.out.alloc _) ⟨wr.heap.size,0,none⟩ 1 1 [.string x] rfl rfl (one_newT _ _) (one_cellT _) (by unfold maxLen;omega) (by omega) (by simp;omega) ?_;intro v' w2 hown' hgrow _)
   have P4:Hd (Below w.heap.size w w2):=⟨(p3.alloc p3.size _).grown hgrow (by simp;omega) (fun j hj=>(hown.out.lt j hj).1)⟩
   have O4:OwnT w.heap.size w2 v' (P ++ [x]):=OwnT.put hown'
   rw [hF.out] at O4
   obtain ⟨a,cap,rfl,hrow0,hcap⟩:=O4.shape2
   have hrow:RowY w.heap.size w2 a (cutB c s):=row_ownedZ O4
   go_ret
   exact ⟨a,cap,rfl,hrow,hcap,P4.out⟩
theorem rlist_y (s:ByteArray) (w:World) (hs:s.size≤131072) :
  Calls Tryz.prog 176 #[.string s] w fun e w'=>∃ a c,e=.returned (.tuple #[.slice a (listOf s).length c,.bool (listOk s)])∧RowY w.heap.size w' a (listOf s)∧(listOf s).length≤c∧Below w.heap.size w w':=by
 by_cases h1:s=mk [45]
 ·have e1:listOf s=[]:=by unfold listOf;rw [if_pos h1]
  have e2:listOk s=true:=by unfold listOk;rw [if_pos h1]
  rw [e1,e2]
  subst h1
  show Calls Tryz.prog 176 #[.string ⟨#[45]⟩] w _
  go_enter Tryz.func176,Tryz.ntmps176
  go_wp2_with fail
  go_ret2
  exact ⟨none,0,rfl,RowY.nil _ _ _,Nat.le_refl _,Below.refl _ _⟩
 have n1:(s.toList == [45])=false:=by have:=str_ne h1;rw [ByteArray.toList_eq (mk [45]),mk_list] at this;exact this
 obtain ⟨g1,g2⟩:=goodS_cut h1
 rw [g1,g2]
 clear g1 g2 h1
 have C:=rcut_y s 44 44 (by decide) w hs
 have G:=fun (a:Option Addr) (c:Nat) w hr=>rgood_ok a c (cutB 44 s) w hr (short_cut 44 s (by omega)) (by rw [cutB_len];have:=count_le s 44;omega)
 generalize cutB 44 s=L at *
 cases hg:goodS L with
 | false =>
  rw [hg] at G
  rw [if_neg (by decide)]
  clear hg
  go_enter Tryz.func176,Tryz.ntmps176
  go_wp2_with fail
  go_at_call 157
  refine C.mono ?_
  rintro e w1 ⟨a1,c1,rfl,r1,k1,hb1⟩
  have G1:=G a1 c1 w1 r1.row
  clear C G
  have HR:Hd (RowY w.heap.size w1 a1 L):=⟨r1⟩
  clear r1
  generalize hlen:L.length=m at *
  have HL:Hd (L.length=m):=⟨hlen⟩
  clear hlen
  go_wp2_with (go_at_call 177;refine G1.mono ?_;rintro e w2 ⟨rfl,hb2⟩)
  go_ret2
  exact ⟨none,0,rfl,RowY.nil _ _ _,Nat.le_refl _,hb1.trans (hb2.mono hb1.size)⟩
 | true =>
  rw [hg] at G
  rw [if_pos rfl]
  clear hg
  go_enter Tryz.func176,Tryz.ntmps176
  go_wp2_with fail
  go_at_call 157
  refine C.mono ?_
  rintro e w1 ⟨a1,c1,rfl,r1,k1,hb1⟩
  have G1:=G a1 c1 w1 r1.row
  clear C G
  have HR:Hd (RowY w.heap.size w1 a1 L):=⟨r1⟩
  clear r1
  generalize hlen:L.length=m at *
  have HL:Hd (L.length=m):=⟨hlen⟩
  clear hlen
  go_wp2_with (go_at_call 177;refine G1.mono ?_;rintro e w2 ⟨rfl,hb2⟩)
  go_ret2
  exact ⟨a1,c1,by rw [HL.out];rfl,HR.out.below hb2,by rw [HL.out];exact k1,hb1.trans (hb2.mono hb1.size)⟩
structure Bx (B:Nat) (w wr:World) (C:Cf) (vL vS:Value) (V:List Value):Prop where
 bel:Below w.heap.size w wr
 c:Blk wr w.heap.size 25 #[.int .i64 C.total,.int .i64 C.period,.int .i64 C.perSeat,.int .i64 C.most,vL,vS]
 r:Blk wr (w.heap.size+1) 25 #[.int .i64 0,.int .i64 0,.int .i64 0,.int .i64 0,.slice none 0 0,.slice none 0 0]
 l:LvOwn B wr vL C.levels
 s:ScOwn B wr vS C.schemas V
theorem Bx.start {B:Nat} {w:World} {C:Cf} {vL vS:Value} {V:List Value} (hL:LvOwn B w vL C.levels) (hS:ScOwn B w vS C.schemas V) :
  Bx B w ((w.alloc (.cells #[.int .i64 C.total,.int .i64 C.period,.int .i64 C.perSeat,.int .i64 C.most,vL,vS] 25)).alloc (.cells #[.int .i64 0,.int .i64 0,.int .i64 0,.int .i64 0,.slice none 0 0,.slice none 0 0] 25)) C vL vS V:=by
 have b0:Below w.heap.size w ((w.alloc (.cells #[.int .i64 C.total,.int .i64 C.period,.int .i64 C.perSeat,.int .i64 C.most,vL,vS] 25)).alloc (.cells #[.int .i64 0,.int .i64 0,.int .i64 0,.int .i64 0,.slice none 0 0,.slice none 0 0] 25)):=((Below.refl _ _).alloc (Nat.le_refl _) _).alloc (by simp) _
 have k:Kept (fun _=>False) w _:=Kept.of_below b0 _
 have f:∀ t,OffR t (fun _=>False) w:=fun _ _ _ _ _=>id
 refine ⟨b0,(Blk.new w 25 _).kept (Kept.of_below ((Below.refl _ _).alloc (Nat.le_refl _) _) (fun _=>False)) id,?_,hL.off k (f _),hS.off k (f _) (f _) (f _)⟩
 have:=Blk.new (w.alloc (.cells #[.int .i64 C.total,.int .i64 C.period,.int .i64 C.perSeat,.int .i64 C.most,vL,vS] 25)) 25 #[.int .i64 0,.int .i64 0,.int .i64 0,.int .i64 0,.slice none 0 0,.slice none 0 0]
 simpa using this
theorem Bx.grown {B:Nat} {w wr w':World} {C:Cf} {vL vS:Value} {V:List Value} (h:Bx B w wr C vL vS V) (b:Below wr.heap.size wr w'):Bx B w w' C vL vS V:=by
 have k:Kept (fun _=>False) wr w':=Kept.of_below b _
 have f:∀ t,OffR t (fun _=>False) wr:=fun _ _ _ _ _=>id
 exact ⟨h.bel.trans (b.mono h.bel.size),h.c.off k (f _),h.r.off k (f _),h.l.off k (f _),h.s.off k (f _) (f _) (f _)⟩
theorem resC36 (tmps:Array Value) (w:World) (r0:Nat) (v0 v1 v2 v3 v4 v5 er:Value) (ht:tmps[4]?.getD undef=.pointer (some ⟨r0,0,none⟩)) (he:tmps[5]?.getD undef=er) (h:Blk w r0 25 #[v0,v1,v2,v3,v4,v5]) :
  (results Tryz.f154 tmps).run Tryz.prog w=.ok (.tuple #[.agg #[v0,v1,v2,v3,v4,v5],er]) w:=by
 have c0:=h.cellv 0 rfl
 have c1:=h.cellv 1 rfl
 have c2:=h.cellv 2 rfl
 have c3:=h.cellv 3 rfl
 have c4:=h.cellv 4 rfl
 have c5:=h.cellv 5 rfl
 simp at c0 c1 c2 c3 c4 c5
 simp [results,Tryz.results154,go_sem,ht,he,c0,c1,c2,c3,c4,c5]
theorem resC37 (tmps:Array Value) (w:World) (r0:Nat) (v0 v1 v2 v3 v4 v5 er:Value) (ht:tmps[4]?.getD undef=.pointer (some ⟨r0,0,none⟩)) (he:tmps[5]?.getD undef=er) (h:Blk w r0 25 #[v0,v1,v2,v3,v4,v5]) :
  (results Tryz.f155 tmps).run Tryz.prog w=.ok (.tuple #[.agg #[v0,v1,v2,v3,v4,v5],er]) w:=by
 have c0:=h.cellv 0 rfl
 have c1:=h.cellv 1 rfl
 have c2:=h.cellv 2 rfl
 have c3:=h.cellv 3 rfl
 have c4:=h.cellv 4 rfl
 have c5:=h.cellv 5 rfl
 simp at c0 c1 c2 c3 c4 c5
 simp [results,Tryz.results155,go_sem,ht,he,c0,c1,c2,c3,c4,c5]
theorem resC38 (tmps:Array Value) (w:World) (r0:Nat) (v0 v1 v2 v3 v4 v5 er:Value) (ht:tmps[4]?.getD undef=.pointer (some ⟨r0,0,none⟩)) (he:tmps[5]?.getD undef=er) (h:Blk w r0 25 #[v0,v1,v2,v3,v4,v5]) :
  (results Tryz.f156 tmps).run Tryz.prog w=.ok (.tuple #[.agg #[v0,v1,v2,v3,v4,v5],er]) w:=by
 have c0:=h.cellv 0 rfl
 have c1:=h.cellv 1 rfl
 have c2:=h.cellv 2 rfl
 have c3:=h.cellv 3 rfl
 have c4:=h.cellv 4 rfl
 have c5:=h.cellv 5 rfl
 simp at c0 c1 c2 c3 c4 c5
 simp [results,Tryz.results156,go_sem,ht,he,c0,c1,c2,c3,c4,c5]
theorem resC16 (tmps:Array Value) (w:World) (r0:Nat) (v0 v1 v2 v3 v4 v5 er:Value) (ht:tmps[4]?.getD undef=.pointer (some ⟨r0,0,none⟩)) (he:tmps[5]?.getD undef=er) (h:Blk w r0 25 #[v0,v1,v2,v3,v4,v5]) :
  (results Tryz.f119 tmps).run Tryz.prog w=.ok (.tuple #[.agg #[v0,v1,v2,v3,v4,v5],er]) w:=by
 have c0:=h.cellv 0 rfl
 have c1:=h.cellv 1 rfl
 have c2:=h.cellv 2 rfl
 have c3:=h.cellv 3 rfl
 have c4:=h.cellv 4 rfl
 have c5:=h.cellv 5 rfl
 simp at c0 c1 c2 c3 c4 c5
 simp [results,Tryz.results119,go_sem,ht,he,c0,c1,c2,c3,c4,c5]
end Go.Proofs.YthkdbphgiobcdaaGreatDoor

namespace Go.Proofs.YthkdbphgiobcdaaGreatDoor
open Go
theorem scCs_ones:∀ (ss:List Sc) (V:List Value),(∀ v∈V,v.oneCell'=true)→∀ u∈scCs ss V,u.oneCell'=true
 | [],_,_,u,hu=>by simp [scCs] at hu
 | s :: l,[],_,u,hu=>by simp [scCs] at hu
 | s :: l,v :: V,h,u,hu=>by
  simp only [scCs,List.mem_append] at hu
  rcases hu with hu | hu
  ·simp only [scC,List.mem_cons,List.not_mem_nil,or_false] at hu
   rcases hu with rfl | rfl | rfl | rfl | rfl
   ·rfl
   ·rfl
   ·rfl
   ·rfl
   ·exact h _ List.mem_cons_self
  ·exact scCs_ones l V (fun v hv=>h v (List.mem_cons_of_mem _ hv)) u hu
theorem ScOwn.ones {B:Nat} {w:World} {v:Value} {ss:List Sc} {V:List Value} (h:ScOwn B w v ss V):∀ u∈scCs ss V,u.oneCell'=true:=by
 refine scCs_ones ss V fun v hv=>?_
 obtain ⟨k,hk,rfl⟩:=List.getElem_of_mem hv
 obtain ⟨cs,ho,_⟩:=h.rls k (by rw [←h.len];exact hk) hk
 obtain ⟨a,c,e⟩:=own_form ho
 rw [e]
 rfl
theorem Bx.sc {B:Nat} {w w8:World} {C:Cf} {vL vS v':Value} {V:List Value} {s:Sc} (h:Bx B w w8 C vL vS V) (hs:s.rules=[])
  (hown:w8.ownsRow B 47 5 v' (C.schemas.length+1) (scCs C.schemas V++scC s (.slice none 0 0))) :
  Bx B w (w8.setCell ⟨w.heap.size,5,none⟩ v') ⟨C.total,C.period,C.perSeat,C.most,C.levels,C.schemas ++ [s]⟩ vL v' (V ++ [.slice none 0 0]):=by
 have k9:Kept (fun k=>k=w.heap.size) w8 (w8.setCell ⟨w.heap.size,5,none⟩ v'):=(Kept.refl (fun k=>k=w.heap.size) w8).setCell ⟨w.heap.size,5,none⟩ v' (.inl rfl)
 have hS:=h.s
 refine ⟨h.bel.trans (k9.below h.bel.size (fun j hj=>by omega)),h.c.set 5 _,h.r.kept k9 (by omega),h.l.off k9 (off_blkR h.c (by decide)),⟨?_,?_,?_⟩⟩
 ·simp [hS.len]
 ·dsimp only
  rw [scCs_appendR _ _ _ _ hS.len,List.length_append]
  exact owns_offR hown k9 (off_blkR h.c (by decide))
 ·intro i hi hi'
  by_cases c:i<C.schemas.length
  ·have cV:i<V.length:=by rw [hS.len];exact c
   dsimp only
   rw [List.getElem_append_left c,List.getElem_append_left cV]
   exact (hS.rls i c cV).off k9 (off_blkR h.c (by decide)) (off_blkR h.c (by decide))
  ·obtain rfl:i=C.schemas.length:=by simp at hi;omega
   have e1:(C.schemas ++ [s])[C.schemas.length]=s:=by simp
   have e2:(V ++ [(.slice none 0 0:Value)])[C.schemas.length]'hi'=.slice none 0 0:=by
    rw [List.getElem_append_right (by rw [hS.len];exact Nat.le_refl _)]
    simp
   dsimp only
   rw [e1,e2,hs]
   exact ⟨[],World.ownsRow_nil _ _ _ _,rfl⟩
end Go.Proofs.YthkdbphgiobcdaaGreatDoor

namespace Go.Proofs.YthkdbphgiobcdaaGreatDoor
open Go.RowKit Go.Lib
def Six (v:Value):Prop:=∃ (x0 x1 x2 x3:Int) (a1:Option Addr) (n1 c1:Nat) (a2:Option Addr) (n2 c2:Nat),v=.agg #[.int .i64 x0,.int .i64 x1,.int .i64 x2,.int .i64 x3,.slice a1 n1 c1,.slice a2 n2 c2]
theorem CfV.six {B:Nat} {w:World} {v:Value} {C:Cf} (h:CfV B w v C):Six v:=by
 obtain ⟨vL,vS,V,rfl,hL,hS⟩:=h
 obtain ⟨a1,c1,rfl⟩:=own_form hL
 obtain ⟨a2,c2,rfl⟩:=own_form hS.own
 exact ⟨_,_,_,_,_,_,_,_,_,_,rfl⟩
theorem Bx.sets {B:Nat} {w wr:World} {C:Cf} {vL vS:Value} {V:List Value} (h:Bx B w wr C vL vS V) (v0 v1 v2 v3 v4 v5:Value) :
  Blk ((((((wr.setCell ⟨w.heap.size+1,0,none⟩ v0).setCell ⟨w.heap.size+1,1,none⟩ v1).setCell ⟨w.heap.size+1,2,none⟩ v2).setCell ⟨w.heap.size+1,3,none⟩ v3).setCell ⟨w.heap.size+1,4,none⟩ v4).setCell ⟨w.heap.size+1,5,none⟩ v5) (w.heap.size+1) 25 #[v0,v1,v2,v3,v4,v5]
  ∧ Below w.heap.size w ((((((wr.setCell ⟨w.heap.size+1,0,none⟩ v0).setCell ⟨w.heap.size+1,1,none⟩ v1).setCell ⟨w.heap.size+1,2,none⟩ v2).setCell ⟨w.heap.size+1,3,none⟩ v3).setCell ⟨w.heap.size+1,4,none⟩ v4).setCell ⟨w.heap.size+1,5,none⟩ v5)
  ∧ Kept (fun k=>k=w.heap.size+1) wr ((((((wr.setCell ⟨w.heap.size+1,0,none⟩ v0).setCell ⟨w.heap.size+1,1,none⟩ v1).setCell ⟨w.heap.size+1,2,none⟩ v2).setCell ⟨w.heap.size+1,3,none⟩ v3).setCell ⟨w.heap.size+1,4,none⟩ v4).setCell ⟨w.heap.size+1,5,none⟩ v5):=by
 have k:Kept (fun k=>k=w.heap.size+1) wr ((((((wr.setCell ⟨w.heap.size+1,0,none⟩ v0).setCell ⟨w.heap.size+1,1,none⟩ v1).setCell ⟨w.heap.size+1,2,none⟩ v2).setCell ⟨w.heap.size+1,3,none⟩ v3).setCell ⟨w.heap.size+1,4,none⟩ v4).setCell ⟨w.heap.size+1,5,none⟩ v5):=((((((Kept.refl (fun k=>k=w.heap.size+1) wr).setCell ⟨w.heap.size+1,0,none⟩ v0 (.inl rfl)).setCell ⟨w.heap.size+1,1,none⟩ v1 (.inl rfl)).setCell ⟨w.heap.size+1,2,none⟩ v2 (.inl rfl)).setCell ⟨w.heap.size+1,3,none⟩ v3 (.inl rfl)).setCell ⟨w.heap.size+1,4,none⟩ v4 (.inl rfl)).setCell ⟨w.heap.size+1,5,none⟩ v5 (.inl rfl)
 exact ⟨(((((h.r.set 0 v0).set 1 v1).set 2 v2).set 3 v3).set 4 v4).set 5 v5,h.bel.trans (k.below h.bel.size (fun j hj=>by omega)),k⟩
theorem Bx.reads {B:Nat} {w wr:World} {C:Cf} {vL vS:Value} {V:List Value} (h:Bx B w wr C vL vS V) :
  wr.cell? ⟨w.heap.size,0,none⟩=some (.int .i64 C.total)∧wr.cell? ⟨w.heap.size,1,none⟩=some (.int .i64 C.period)∧wr.cell? ⟨w.heap.size,2,none⟩=some (.int .i64 C.perSeat)∧wr.cell? ⟨w.heap.size,3,none⟩=some (.int .i64 C.most)∧wr.cell? ⟨w.heap.size,4,none⟩=some vL∧wr.cell? ⟨w.heap.size,5,none⟩=some vS :=
 ⟨h.c.cellv 0 rfl,h.c.cellv 1 rfl,h.c.cellv 2 rfl,h.c.cellv 3 rfl,h.c.cellv 4 rfl,h.c.cellv 5 rfl⟩
theorem Bx.room {B:Nat} {w wr:World} {C:Cf} {vL vS:Value} {V:List Value} (h:Bx B w wr C vL vS V) :
  wr.cell? ⟨w.heap.size+1,0,none⟩=some (.int .i64 0)∧wr.cell? ⟨w.heap.size+1,1,none⟩=some (.int .i64 0)∧wr.cell? ⟨w.heap.size+1,2,none⟩=some (.int .i64 0)∧wr.cell? ⟨w.heap.size+1,3,none⟩=some (.int .i64 0)∧wr.cell? ⟨w.heap.size+1,4,none⟩=some (.slice none 0 0)∧wr.cell? ⟨w.heap.size+1,5,none⟩=some (.slice none 0 0)
  ∧ wr.frozen? ⟨w.heap.size+1,0,none⟩=false∧wr.frozen? ⟨w.heap.size+1,1,none⟩=false∧wr.frozen? ⟨w.heap.size+1,2,none⟩=false∧wr.frozen? ⟨w.heap.size+1,3,none⟩=false∧wr.frozen? ⟨w.heap.size+1,4,none⟩=false∧wr.frozen? ⟨w.heap.size+1,5,none⟩=false :=
 ⟨h.r.cellv 0 rfl,h.r.cellv 1 rfl,h.r.cellv 2 rfl,h.r.cellv 3 rfl,h.r.cellv 4 rfl,h.r.cellv 5 rfl,h.r.frozen 0,h.r.frozen 1,h.r.frozen 2,h.r.frozen 3,h.r.frozen 4,h.r.frozen 5⟩
theorem blk_two (w:World) (cs:Array Value):Blk ((w.alloc (.cells cs 25)).alloc (.cells cs 25)) (w.heap.size+1) 25 cs:=by
 have:=Blk.new (w.alloc (.cells cs 25)) 25 cs
 simpa using this
end Go.Proofs.YthkdbphgiobcdaaGreatDoor
