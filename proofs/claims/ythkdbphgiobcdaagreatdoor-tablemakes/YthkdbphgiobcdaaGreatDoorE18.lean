/-
  'copied' of fill,at levels,schemas,rules and texts: a row in memory of its own.
  Is a level,a schema of a name there? (The closures of fill.) Condition: what is read lies in memory.
-/
import Derived.Test.YthkdbphgiobcdaaGreatDoorE17
import Derived.Test.YthkdbphgiobcdaaGreatDoorE6
namespace Go.Proofs.YthkdbphgiobcdaaGreatDoor
open Go.RowKit
theorem q5C_one {w:World} : ∀ (Q:List Q5) (rs:List Rl),Q.length=rs.length→(∀ k (h:k<rs.length) (h':k<Q.length),RuR w Q[k].v0 Q[k].v1 Q[k].v2 Q[k].v3 Q[k].v4 rs[k])→∀ u∈q5C Q,u.oneCell'=true
 | [],_,_,_,u,h=>by simp [q5C] at h
 | _ :: _,[],h,_,_,_=>by simp at h
 | q :: Q,r :: rs,hl,hr,u,h=>by
  obtain ⟨⟨a0,c0,e0,-⟩,⟨a1,c1,e1,-⟩,⟨a2,c2,e2,-⟩,⟨a3,c3,e3,-⟩,⟨a4,c4,e4,-⟩⟩:=hr 0 (by simp) (by simp)
  simp only [List.getElem_cons_zero] at e0 e1 e2 e3 e4
  simp only [q5C,q5L,List.cons_append,List.nil_append,List.mem_cons] at h
  rcases h with rfl | rfl | rfl | rfl | rfl | h
  ·rw [e0];rfl
  ·rw [e1];rfl
  ·rw [e2];rfl
  ·rw [e3];rfl
  ·rw [e4];rfl
  ·exact q5C_one Q rs (by simpa using hl) (fun k h1 h2=>hr (k+1) (by simpa using h1) (by simpa using h2)) u h
theorem scCs_one {w:World} : ∀ (L:List Sc) (V:List Value),(∀ k (h:k<L.length) (h':k<V.length),RlR w V[k] L[k].rules)→∀ u∈scCs L V,u.oneCell'=true
 | [],_,_,u,h=>by simp [scCs] at h
 | _ :: _,[],_,_,h=>by simp [scCs] at h
 | s :: L,v :: V,hr,u,h=>by
  obtain ⟨a0,c0,e0,-⟩:=hr 0 (by simp) (by simp)
  simp only [List.getElem_cons_zero] at e0
  simp only [scCs,scC,List.cons_append,List.nil_append,List.mem_cons] at h
  rcases h with rfl | rfl | rfl | rfl | rfl | h
  ·rfl
  ·rfl
  ·rfl
  ·rfl
  ·rw [e0];rfl
  ·exact scCs_one L V (fun k h1 h2=>hr (k+1) (by simpa using h1) (by simpa using h2)) u h
structure Cpd (w:World) (et sz n:Nat) (xs:List Value) (e:Ending) (w':World):Prop where
 ex:∃ v',e=.returned v'∧w'.ownsRow w.heap.size et sz v' n xs
 bel:Below w.heap.size w w'
set_option maxRecDepth 20000 in
theorem cpLv_ok (a:Option Addr) (n c:Nat) (xs:List Value) (w:World) (hl:xs.length=n*10) (hn:0<n→∃ b off,a=some ⟨b,off,none⟩∧b<w.heap.size∧∀ i u,xs[i]?=some u→w.cell? ⟨b,off+i,none⟩=some u)
  (h1:∀ u∈xs,u.oneCell'=true) (h8:n≤1000):Calls Tryz.prog 75 #[.slice a n c] w fun e w'=>Cpd w 43 10 n xs e w':=by
 obtain ⟨i0,hi,hz0,hz1,hz2⟩:=info_parts info37c
 have own0:w.ownsRow w.heap.size 43 10 (.slice none 0 0) 0 []:=⟨by simp,.inl ⟨rfl,rfl⟩⟩
 have HL:Hd (n≤1000):=⟨h8⟩
 have HX:Hd (xs.length=n*10):=⟨hl⟩
 have H0:Hd (n=0→Cpd w 43 10 n xs (.returned (.slice none 0 0)) w):=⟨fun h=>by
  subst h
  have:xs=[]:=List.length_eq_zero_iff.1 (by omega)
  subst this
  exact ⟨⟨_,rfl,own0⟩,Below.refl _ _⟩⟩
 cases a with
 | none =>
  obtain rfl:n=0:=by
   rcases Nat.eq_zero_or_pos n with h | h
   ·exact h
   ·obtain ⟨b,off,e,_⟩:=hn h;cases e
  clear hn h1 hl h8 HL
  go_enter Tryz.func75,Tryz.ntmps75
  go_wp2_with (at_builtin;refine wpList_append_own_none rfl _ _ 22 rfl w.heap.size 43 i0 10 Tryz.underlying22 hi _ _ _ rfl own0 rfl ?_)
  go_ret
  exact H0.out trivial
 | some ad =>
  have NW:∀ j u,xs[j]?=some u→w.cell? (ad.add j)=some u:=fun j u hu=>by
   rcases Nat.eq_zero_or_pos n with h | h
   ·subst h
    have:xs=[]:=List.length_eq_zero_iff.1 (by omega)
    subst this
    simp at hu
   ·obtain ⟨b,off,e,hb,hcs⟩:=hn h
    injection e with e
    subst e
    rw [Go.WideShapes.add_plain]
    exact hcs j u hu
  clear hn hl h8
  go_enter Tryz.func75,Tryz.ntmps75
  go_wp2_with (at_builtin;go_loud (refine wpList_append_own _ rfl _ _ 22 rfl w.heap.size 43 i0 (.agg #[.string ByteArray.empty,.int .i64 0,.int .i64 0,.int .i64 0,.int .i64 0,.int .i64 0,.int .i64 0,.int .i64 0,.int .i64 0,.int .i64 0]) 10 88 Tryz.underlying22 hi hz0 hz1 hz2 rfl (by decide) _ _ _ rfl own0 ad n c xs rfl HX.out NW h1 (by have:=HL.out;unfold maxLen;omega) (by have:=HL.out;omega) (Nat.le_refl _) ?_;intro v' w' hown hgr _;have F:Hd (Cpd w 43 10 n xs (.returned v') w'):=⟨⟨v',rfl,by simpa using hown⟩,(Below.refl _ _).grown hgr (Nat.le_refl _) (fun x hx=>by cases hx)⟩))
  go_ret
  exact F.out
set_option maxRecDepth 20000 in
theorem cpSc_ok (a:Option Addr) (n c:Nat) (xs:List Value) (w:World) (hl:xs.length=n*5) (hn:0<n→∃ b off,a=some ⟨b,off,none⟩∧b<w.heap.size∧∀ i u,xs[i]?=some u→w.cell? ⟨b,off+i,none⟩=some u)
  (h1:∀ u∈xs,u.oneCell'=true) (h8:n≤1000):Calls Tryz.prog 77 #[.slice a n c] w fun e w'=>Cpd w 47 5 n xs e w':=by
 obtain ⟨i0,hi,hz0,hz1,hz2⟩:=info_parts info40c
 have own0:w.ownsRow w.heap.size 47 5 (.slice none 0 0) 0 []:=⟨by simp,.inl ⟨rfl,rfl⟩⟩
 have HL:Hd (n≤1000):=⟨h8⟩
 have HX:Hd (xs.length=n*5):=⟨hl⟩
 have H0:Hd (n=0→Cpd w 47 5 n xs (.returned (.slice none 0 0)) w):=⟨fun h=>by
  subst h
  have:xs=[]:=List.length_eq_zero_iff.1 (by omega)
  subst this
  exact ⟨⟨_,rfl,own0⟩,Below.refl _ _⟩⟩
 cases a with
 | none =>
  obtain rfl:n=0:=by
   rcases Nat.eq_zero_or_pos n with h | h
   ·exact h
   ·obtain ⟨b,off,e,_⟩:=hn h;cases e
  clear hn h1 hl h8 HL
  go_enter Tryz.func77,Tryz.ntmps77
  go_wp2_with (at_builtin;refine wpList_append_own_none rfl _ _ 23 rfl w.heap.size 47 i0 5 Tryz.underlying23 hi _ _ _ rfl own0 rfl ?_)
  go_ret
  exact H0.out trivial
 | some ad =>
  have NW:∀ j u,xs[j]?=some u→w.cell? (ad.add j)=some u:=fun j u hu=>by
   rcases Nat.eq_zero_or_pos n with h | h
   ·subst h
    have:xs=[]:=List.length_eq_zero_iff.1 (by omega)
    subst this
    simp at hu
   ·obtain ⟨b,off,e,hb,hcs⟩:=hn h
    injection e with e
    subst e
    rw [Go.WideShapes.add_plain]
    exact hcs j u hu
  clear hn hl h8
  go_enter Tryz.func77,Tryz.ntmps77
  go_wp2_with (at_builtin;go_loud (refine wpList_append_own _ rfl _ _ 23 rfl w.heap.size 47 i0 (.agg #[.string ByteArray.empty,.string ByteArray.empty,.int .i64 0,.int .i64 0,.slice none 0 0]) 5 72 Tryz.underlying23 hi hz0 hz1 hz2 rfl (by decide) _ _ _ rfl own0 ad n c xs rfl HX.out NW h1 (by have:=HL.out;unfold maxLen;omega) (by have:=HL.out;omega) (Nat.le_refl _) ?_;intro v' w' hown hgr _;have F:Hd (Cpd w 47 5 n xs (.returned v') w'):=⟨⟨v',rfl,by simpa using hown⟩,(Below.refl _ _).grown hgr (Nat.le_refl _) (fun x hx=>by cases hx)⟩))
  go_ret
  exact F.out
set_option maxRecDepth 20000 in
theorem cpRl_ok (a:Option Addr) (n c:Nat) (xs:List Value) (w:World) (hl:xs.length=n*5) (hn:0<n→∃ b off,a=some ⟨b,off,none⟩∧b<w.heap.size∧∀ i u,xs[i]?=some u→w.cell? ⟨b,off+i,none⟩=some u)
  (h1:∀ u∈xs,u.oneCell'=true) (h8:n≤1000):Calls Tryz.prog 128 #[.slice a n c] w fun e w'=>Cpd w 54 5 n xs e w':=by
 obtain ⟨i0,hi,hz0,hz1,hz2⟩:=info_parts info43c
 have own0:w.ownsRow w.heap.size 54 5 (.slice none 0 0) 0 []:=⟨by simp,.inl ⟨rfl,rfl⟩⟩
 have HL:Hd (n≤1000):=⟨h8⟩
 have HX:Hd (xs.length=n*5):=⟨hl⟩
 have H0:Hd (n=0→Cpd w 54 5 n xs (.returned (.slice none 0 0)) w):=⟨fun h=>by
  subst h
  have:xs=[]:=List.length_eq_zero_iff.1 (by omega)
  subst this
  exact ⟨⟨_,rfl,own0⟩,Below.refl _ _⟩⟩
 cases a with
 | none =>
  obtain rfl:n=0:=by
   rcases Nat.eq_zero_or_pos n with h | h
   ·exact h
   ·obtain ⟨b,off,e,_⟩:=hn h;cases e
  clear hn h1 hl h8 HL
  go_enter Tryz.func128,Tryz.ntmps128
  go_wp2_with (at_builtin;refine wpList_append_own_none rfl _ _ 45 rfl w.heap.size 54 i0 5 Tryz.underlying45 hi _ _ _ rfl own0 rfl ?_)
  go_ret
  exact H0.out trivial
 | some ad =>
  have NW:∀ j u,xs[j]?=some u→w.cell? (ad.add j)=some u:=fun j u hu=>by
   rcases Nat.eq_zero_or_pos n with h | h
   ·subst h
    have:xs=[]:=List.length_eq_zero_iff.1 (by omega)
    subst this
    simp at hu
   ·obtain ⟨b,off,e,hb,hcs⟩:=hn h
    injection e with e
    subst e
    rw [Go.WideShapes.add_plain]
    exact hcs j u hu
  clear hn hl h8
  go_enter Tryz.func128,Tryz.ntmps128
  go_wp2_with (at_builtin;go_loud (refine wpList_append_own _ rfl _ _ 45 rfl w.heap.size 54 i0 (.agg #[.slice none 0 0,.slice none 0 0,.slice none 0 0,.slice none 0 0,.slice none 0 0]) 5 120 Tryz.underlying45 hi hz0 hz1 hz2 rfl (by decide) _ _ _ rfl own0 ad n c xs rfl HX.out NW h1 (by have:=HL.out;unfold maxLen;omega) (by have:=HL.out;omega) (Nat.le_refl _) ?_;intro v' w' hown hgr _;have F:Hd (Cpd w 54 5 n xs (.returned v') w'):=⟨⟨v',rfl,by simpa using hown⟩,(Below.refl _ _).grown hgr (Nat.le_refl _) (fun x hx=>by cases hx)⟩))
  go_ret
  exact F.out
set_option maxRecDepth 20000 in
theorem cpLs_ok (a:Option Addr) (n c:Nat) (xs:List Value) (w:World) (hl:xs.length=n*1) (hn:0<n→∃ b off,a=some ⟨b,off,none⟩∧b<w.heap.size∧∀ i u,xs[i]?=some u→w.cell? ⟨b,off+i,none⟩=some u)
  (h1:∀ u∈xs,u.oneCell'=true) (h8:n≤1000):Calls Tryz.prog 129 #[.slice a n c] w fun e w'=>Cpd w 9 1 n xs e w':=by
 obtain ⟨i0,hi,hz0,hz1,hz2⟩:=info_parts info9
 have own0:w.ownsRow w.heap.size 9 1 (.slice none 0 0) 0 []:=⟨by simp,.inl ⟨rfl,rfl⟩⟩
 have HL:Hd (n≤1000):=⟨h8⟩
 have HX:Hd (xs.length=n*1):=⟨hl⟩
 have H0:Hd (n=0→Cpd w 9 1 n xs (.returned (.slice none 0 0)) w):=⟨fun h=>by
  subst h
  have:xs=[]:=List.length_eq_zero_iff.1 (by omega)
  subst this
  exact ⟨⟨_,rfl,own0⟩,Below.refl _ _⟩⟩
 cases a with
 | none =>
  obtain rfl:n=0:=by
   rcases Nat.eq_zero_or_pos n with h | h
   ·exact h
   ·obtain ⟨b,off,e,_⟩:=hn h;cases e
  clear hn h1 hl h8 HL
  go_enter Tryz.func129,Tryz.ntmps129
  go_wp2_with (at_builtin;refine wpList_append_own_none rfl _ _ 52 rfl w.heap.size 9 i0 1 Tryz.underlying52 hi _ _ _ rfl own0 rfl ?_)
  go_ret
  exact H0.out trivial
 | some ad =>
  have NW:∀ j u,xs[j]?=some u→w.cell? (ad.add j)=some u:=fun j u hu=>by
   rcases Nat.eq_zero_or_pos n with h | h
   ·subst h
    have:xs=[]:=List.length_eq_zero_iff.1 (by omega)
    subst this
    simp at hu
   ·obtain ⟨b,off,e,hb,hcs⟩:=hn h
    injection e with e
    subst e
    rw [Go.WideShapes.add_plain]
    exact hcs j u hu
  clear hn hl h8
  go_enter Tryz.func129,Tryz.ntmps129
  go_wp2_with (at_builtin;go_loud (refine wpList_append_own _ rfl _ _ 52 rfl w.heap.size 9 i0 (.string ByteArray.empty) 1 16 Tryz.underlying52 hi hz0 hz1 hz2 rfl (by decide) _ _ _ rfl own0 ad n c xs rfl HX.out NW h1 (by have:=HL.out;unfold maxLen;omega) (by have:=HL.out;omega) (Nat.le_refl _) ?_;intro v' w' hown hgr _;have F:Hd (Cpd w 9 1 n xs (.returned v') w'):=⟨⟨v',rfl,by simpa using hown⟩,(Below.refl _ _).grown hgr (Nat.le_refl _) (fun x hx=>by cases hx)⟩))
  go_ret
  exact F.out
theorem cpT_ok (v:Value) (L:List ByteArray) (w:World) (h:LsR w v L) (h8:L.length≤1000):Calls Tryz.prog 129 #[v] w fun e w'=>Wd w L e w':=by
 obtain ⟨a,c,rfl,hr,hc,h9,hx⟩:=h
 refine (cpLs_ok a L.length c (L.map Value.string) w (by simp) (fun hn=>?_) (fun u hu=>?_) h8).mono ?_
 ·obtain ⟨b,off,e,hb,hcs⟩:=hr hn
  refine ⟨b,off,e,hb,fun i u hu=>?_⟩
  rw [List.getElem?_map] at hu
  by_cases hj:i<L.length
  ·rw [List.getElem?_eq_getElem hj] at hu
   have q:=hcs i hj
   rw [gt_eq hj] at q
   rw [q]
   exact hu
  ·rw [List.getElem?_eq_none (by omega)] at hu
   cases hu
 ·obtain ⟨x,_,rfl⟩:=List.mem_map.1 hu
  rfl
 ·rintro e w' ⟨⟨v',rfl,ho⟩,hb⟩
  exact ⟨⟨v',rfl,ho⟩,fun u hu=>by injection hu with hu;subst hu;exact own_ls ho h9 hx,hb⟩
theorem pisLv_okF (l:Lv) (g:Nat) (x:ByteArray) (w:World) (hg:w.cell? ⟨g,0,none⟩=some (.string x)) :
  Calls Tryz.prog 127 #[lvV l,.pointer (some ⟨g,0,none⟩)] w fun r w'=>r=.returned (.bool (decide (l.name=x)))∧Below w.heap.size w w':=by
 have hlt:g<w.heap.size:=by
  rcases Nat.lt_or_ge g w.heap.size with h1 | h1
  ·exact h1
  ·simp [World.cell?,Array.getElem?_eq_none h1] at hg
 rw [←name_eq]
 obtain ⟨n,a1,a2,a3,a4,a5,a6,a7,a8,a9⟩:=l
 have b1:Below w.heap.size w (w.alloc (.cells #[.string n,.int .i64 a1,.int .i64 a2,.int .i64 a3,.int .i64 a4,.int .i64 a5,.int .i64 a6,.int .i64 a7,.int .i64 a8,.int .i64 a9] 43)):=(Below.refl _ _).alloc (Nat.le_refl _) _
 have y1:(w.alloc (.cells #[.string n,.int .i64 a1,.int .i64 a2,.int .i64 a3,.int .i64 a4,.int .i64 a5,.int .i64 a6,.int .i64 a7,.int .i64 a8,.int .i64 a9] 43)).cell? ⟨g,0,none⟩=some (.string x):=(b1.cell (p:=⟨g,0,none⟩) hlt).trans hg
 have BB:Hd (Below w.heap.size w (w.alloc (.cells #[.string n,.int .i64 a1,.int .i64 a2,.int .i64 a3,.int .i64 a4,.int .i64 a5,.int .i64 a6,.int .i64 a7,.int .i64 a8,.int .i64 a9] 43))):=⟨b1⟩
 clear hg b1
 unfold lvV
 go_enter Tryz.func127,Tryz.ntmps127
 go_wp2_with fail
 go_ret
 exact ⟨rfl,BB.out⟩
theorem pisSc_okF (l:Sc) (v:Value) (g:Nat) (x:ByteArray) (w:World) (hg:w.cell? ⟨g,0,none⟩=some (.string x)) :
  Calls Tryz.prog 131 #[scV l v,.pointer (some ⟨g,0,none⟩)] w fun r w'=>r=.returned (.bool (decide (l.name=x)))∧Below w.heap.size w w':=by
 have hlt:g<w.heap.size:=by
  rcases Nat.lt_or_ge g w.heap.size with h1 | h1
  ·exact h1
  ·simp [World.cell?,Array.getElem?_eq_none h1] at hg
 rw [←name_eq]
 obtain ⟨n,a1,a2,a3,a4⟩:=l
 have b1:Below w.heap.size w (w.alloc (.cells #[.string n,.string a1,.int .i64 a2,.int .i64 a3,v] 47)):=(Below.refl _ _).alloc (Nat.le_refl _) _
 have y1:(w.alloc (.cells #[.string n,.string a1,.int .i64 a2,.int .i64 a3,v] 47)).cell? ⟨g,0,none⟩=some (.string x):=(b1.cell (p:=⟨g,0,none⟩) hlt).trans hg
 have BB:Hd (Below w.heap.size w (w.alloc (.cells #[.string n,.string a1,.int .i64 a2,.int .i64 a3,v] 47))):=⟨b1⟩
 clear hg b1
 unfold scV
 go_enter Tryz.func131,Tryz.ntmps131
 go_wp2_with fail
 go_ret
 exact ⟨rfl,BB.out⟩
theorem pindexLvF (L:List Lv) (g r ro cap:Nat) (x:ByteArray) (w:World) (hg:w.cell? ⟨g,0,none⟩=some (.string x)) (hr:r<w.heap.size) (hl:L.length≤65536)
  (hcs:∀ k (h:k<L.length),∀ j,j<10→w.cell? ⟨r,ro+k*10+j,none⟩=(lvC L[k])[j]?) :
  Calls Tryz.prog 37 #[.slice (some ⟨r,ro,none⟩) L.length cap,.func (.func 127) #[] #[.pointer (some ⟨g,0,none⟩)]] w fun e w'=>(∃ q:Int,e=.returned (.int .i64 q)∧decide (0≤q)=L.any fun l=>decide (l.name=x))∧Below w.heap.size w w':=by
 have hlt:g<w.heap.size:=by
  rcases Nat.lt_or_ge g w.heap.size with h1 | h1
  ·exact h1
  ·simp [World.cell?,Array.getElem?_eq_none h1] at hg
 have eg:∀ args w,(callFunc 127 args).run Tryz.prog w=.ok (.enter 127 args) w:=enters_of Tryz.func127 (by kernel_rfl) rfl
 have HC:Hd (∀ k (h:k<L.length),∀ j,j<10→w.cell? ⟨r,ro+k*10+j,none⟩=(lvC L[k])[j]?):=⟨hcs⟩
 clear hcs
 go_enter Tryz.func37,Tryz.ntmps37
 go_wp2_with fail
 go_loopw [8] (fun i wr=>∃ k:Nat,k≤L.length∧i=.int .i64 k∧Hd (∀ j (h:j<L.length),j<k→L[j].name≠x)∧Below w.heap.size w wr) (fun i _=>L.length - (intOf i).toNat)
 case atStart=>exact ⟨0,Nat.zero_le _,rfl,⟨fun j _ h=>absurd h (Nat.not_lt_zero _)⟩,Below.refl _ _⟩
 case round =>
  obtain ⟨k,hk,rfl,hno,hb⟩:=hrel
  by_cases hlt':k<L.length
  ·have hcs:=HC.out
   have hlt:=hlt'
   have HI:Hd (k<L.length):=⟨hlt⟩
   have cs:∀ j,j<10→wr.cell? ⟨r,ro+k*10+j,none⟩=(lvC L[k])[j]?:=fun j hj=>(hb.cell (p:=⟨r,ro+k*10+j,none⟩) hr).trans (hcs k hlt j hj)
   have I:=pisLv_okF L[k] g x wr ((hb.cell (p:=⟨g,0,none⟩) (by omega)).trans hg)
   have BB:Hd (Below w.heap.size w wr):=⟨hb⟩
   have hgl:Hd (g<w.heap.size):=⟨by omega⟩
   by_cases hx:L[k].name=x
   ·have A:Hd ((L.any fun l=>decide (l.name=x))=true):=⟨List.any_eq_true.2 ⟨L[k],List.getElem_mem hlt,decide_eq_true hx⟩⟩
    rw [decide_eq_true hx] at I
    clear hcs hb hno hx hg
    have x0:wr.cell? ⟨r,ro+k*10,none⟩=some (.string L[k].name):=cs 0 (by decide)
    have x1:wr.cell? ⟨r,ro+k*10+1,none⟩=some (.int .i64 L[k].kind):=cs 1 (by decide)
    have x2:wr.cell? ⟨r,ro+k*10+2,none⟩=some (.int .i64 L[k].shares):=cs 2 (by decide)
    have x3:wr.cell? ⟨r,ro+k*10+3,none⟩=some (.int .i64 L[k].lend):=cs 3 (by decide)
    have x4:wr.cell? ⟨r,ro+k*10+4,none⟩=some (.int .i64 L[k].borrow):=cs 4 (by decide)
    have x5:wr.cell? ⟨r,ro+k*10+5,none⟩=some (.int .i64 L[k].queues):=cs 5 (by decide)
    have x6:wr.cell? ⟨r,ro+k*10+6,none⟩=some (.int .i64 L[k].hand):=cs 6 (by decide)
    have x7:wr.cell? ⟨r,ro+k*10+7,none⟩=some (.int .i64 L[k].length):=cs 7 (by decide)
    have x8:wr.cell? ⟨r,ro+k*10+8,none⟩=some (.int .i64 L[k].wait):=cs 8 (by decide)
    have x9:wr.cell? ⟨r,ro+k*10+9,none⟩=some (.int .i64 L[k].guess):=cs 9 (by decide)
    clear cs
    unfold lvV at I
    generalize L[k]=l at *
    obtain ⟨n,a1,a2,a3,a4,a5,a6,a7,a8,a9⟩:=l
    go_wp2_with (go_at_fn 127;refine I.mono ?_;rintro e w2 ⟨rfl,h2⟩)
    go_ret
    exact ⟨⟨k,rfl,by rw [A.out];exact decide_eq_true (by omega)⟩,BB.out.trans (h2.mono BB.out.size)⟩
   ·have A:Hd (∀ j (h:j<L.length),j<k+1→L[j].name≠x):=⟨fun j hj hjk=>by
     rcases Nat.lt_or_eq_of_le (Nat.le_of_lt_succ hjk) with h | h
     ·exact hno.out j hj h
     ·subst h;exact hx⟩
    rw [decide_eq_false hx] at I
    clear hcs hb hno hx hg
    have x0:wr.cell? ⟨r,ro+k*10,none⟩=some (.string L[k].name):=cs 0 (by decide)
    have x1:wr.cell? ⟨r,ro+k*10+1,none⟩=some (.int .i64 L[k].kind):=cs 1 (by decide)
    have x2:wr.cell? ⟨r,ro+k*10+2,none⟩=some (.int .i64 L[k].shares):=cs 2 (by decide)
    have x3:wr.cell? ⟨r,ro+k*10+3,none⟩=some (.int .i64 L[k].lend):=cs 3 (by decide)
    have x4:wr.cell? ⟨r,ro+k*10+4,none⟩=some (.int .i64 L[k].borrow):=cs 4 (by decide)
    have x5:wr.cell? ⟨r,ro+k*10+5,none⟩=some (.int .i64 L[k].queues):=cs 5 (by decide)
    have x6:wr.cell? ⟨r,ro+k*10+6,none⟩=some (.int .i64 L[k].hand):=cs 6 (by decide)
    have x7:wr.cell? ⟨r,ro+k*10+7,none⟩=some (.int .i64 L[k].length):=cs 7 (by decide)
    have x8:wr.cell? ⟨r,ro+k*10+8,none⟩=some (.int .i64 L[k].wait):=cs 8 (by decide)
    have x9:wr.cell? ⟨r,ro+k*10+9,none⟩=some (.int .i64 L[k].guess):=cs 9 (by decide)
    clear cs
    unfold lvV at I
    generalize L[k]=l at *
    obtain ⟨n,a1,a2,a3,a4,a5,a6,a7,a8,a9⟩:=l
    go_wp2_with (go_at_fn 127;refine I.mono ?_;rintro e w2 ⟨rfl,h2⟩)
    go_roundw
    case rel=>exact ⟨k+1,HI.out,by go_num,A,BB.out.trans (h2.mono BB.out.size)⟩
    case measure=>have:=HI.out;simp [intOf];omega
  ·obtain rfl:k=L.length:=by omega
   have A:Hd ((L.any fun l=>decide (l.name=x))=false):=⟨by
    rw [List.any_eq_false]
    intro l hl'
    obtain ⟨j,hj,rfl⟩:=List.getElem_of_mem hl'
    simpa using hno.out j hj hj⟩
   clear hno hg
   go_wp2_with fail
   go_ret
   exact ⟨⟨-1,rfl,by rw [A.out];decide⟩,hb⟩
theorem pindexScF (L:List Sc) (V:List Value) (hV:V.length=L.length) (g r ro cap:Nat) (x:ByteArray) (w:World) (hg:w.cell? ⟨g,0,none⟩=some (.string x)) (hr:r<w.heap.size) (hl:L.length≤65536)
  (hcs:∀ k (h:k<L.length) (h':k<V.length),∀ j,j<5→w.cell? ⟨r,ro+k*5+j,none⟩=(scC L[k] V[k])[j]?) :
  Calls Tryz.prog 160 #[.slice (some ⟨r,ro,none⟩) L.length cap,.func (.func 131) #[] #[.pointer (some ⟨g,0,none⟩)]] w fun e w'=>(∃ q:Int,e=.returned (.int .i64 q)∧decide (0≤q)=L.any fun l=>decide (l.name=x))∧Below w.heap.size w w':=by
 have hlt:g<w.heap.size:=by
  rcases Nat.lt_or_ge g w.heap.size with h1 | h1
  ·exact h1
  ·simp [World.cell?,Array.getElem?_eq_none h1] at hg
 have eg:∀ args w,(callFunc 131 args).run Tryz.prog w=.ok (.enter 131 args) w:=enters_of Tryz.func131 (by kernel_rfl) rfl
 have HC:Hd (∀ k (h:k<L.length) (h':k<V.length),∀ j,j<5→w.cell? ⟨r,ro+k*5+j,none⟩=(scC L[k] V[k])[j]?):=⟨hcs⟩
 clear hcs
 go_enter Tryz.func160,Tryz.ntmps160
 go_wp2_with fail
 go_loopw [8] (fun i wr=>∃ k:Nat,k≤L.length∧i=.int .i64 k∧Hd (∀ j (h:j<L.length),j<k→L[j].name≠x)∧Below w.heap.size w wr) (fun i _=>L.length - (intOf i).toNat)
 case atStart=>exact ⟨0,Nat.zero_le _,rfl,⟨fun j _ h=>absurd h (Nat.not_lt_zero _)⟩,Below.refl _ _⟩
 case round =>
  obtain ⟨k,hk,rfl,hno,hb⟩:=hrel
  by_cases hlt':k<L.length
  ·have hcs:=HC.out
   have hlt:=hlt'
   have HI:Hd (k<L.length):=⟨hlt⟩
   have hkV:k<V.length:=by omega
   have cs:∀ j,j<5→wr.cell? ⟨r,ro+k*5+j,none⟩=(scC L[k] V[k])[j]?:=fun j hj=>(hb.cell (p:=⟨r,ro+k*5+j,none⟩) hr).trans (hcs k hlt (by omega) j hj)
   have I:=pisSc_okF L[k] V[k] g x wr ((hb.cell (p:=⟨g,0,none⟩) (by omega)).trans hg)
   have BB:Hd (Below w.heap.size w wr):=⟨hb⟩
   have hgl:Hd (g<w.heap.size):=⟨by omega⟩
   by_cases hx:L[k].name=x
   ·have A:Hd ((L.any fun l=>decide (l.name=x))=true):=⟨List.any_eq_true.2 ⟨L[k],List.getElem_mem hlt,decide_eq_true hx⟩⟩
    rw [decide_eq_true hx] at I
    clear hcs hb hno hx hg
    have x0:wr.cell? ⟨r,ro+k*5,none⟩=some (.string L[k].name):=cs 0 (by decide)
    have x1:wr.cell? ⟨r,ro+k*5+1,none⟩=some (.string L[k].level):=cs 1 (by decide)
    have x2:wr.cell? ⟨r,ro+k*5+2,none⟩=some (.int .i64 L[k].rank):=cs 2 (by decide)
    have x3:wr.cell? ⟨r,ro+k*5+3,none⟩=some (.int .i64 L[k].way):=cs 3 (by decide)
    have x4:wr.cell? ⟨r,ro+k*5+4,none⟩=some (V[k]):=cs 4 (by decide)
    clear cs
    unfold scV at I
    generalize V[k]=vv at *
    generalize L[k]=l at *
    obtain ⟨n,a1,a2,a3,a4⟩:=l
    go_wp2_with (go_at_fn 131;refine I.mono ?_;rintro e w2 ⟨rfl,h2⟩)
    go_ret
    exact ⟨⟨k,rfl,by rw [A.out];exact decide_eq_true (by omega)⟩,BB.out.trans (h2.mono BB.out.size)⟩
   ·have A:Hd (∀ j (h:j<L.length),j<k+1→L[j].name≠x):=⟨fun j hj hjk=>by
     rcases Nat.lt_or_eq_of_le (Nat.le_of_lt_succ hjk) with h | h
     ·exact hno.out j hj h
     ·subst h;exact hx⟩
    rw [decide_eq_false hx] at I
    clear hcs hb hno hx hg
    have x0:wr.cell? ⟨r,ro+k*5,none⟩=some (.string L[k].name):=cs 0 (by decide)
    have x1:wr.cell? ⟨r,ro+k*5+1,none⟩=some (.string L[k].level):=cs 1 (by decide)
    have x2:wr.cell? ⟨r,ro+k*5+2,none⟩=some (.int .i64 L[k].rank):=cs 2 (by decide)
    have x3:wr.cell? ⟨r,ro+k*5+3,none⟩=some (.int .i64 L[k].way):=cs 3 (by decide)
    have x4:wr.cell? ⟨r,ro+k*5+4,none⟩=some (V[k]):=cs 4 (by decide)
    clear cs
    unfold scV at I
    generalize V[k]=vv at *
    generalize L[k]=l at *
    obtain ⟨n,a1,a2,a3,a4⟩:=l
    go_wp2_with (go_at_fn 131;refine I.mono ?_;rintro e w2 ⟨rfl,h2⟩)
    go_roundw
    case rel=>exact ⟨k+1,HI.out,by go_num,A,BB.out.trans (h2.mono BB.out.size)⟩
    case measure=>have:=HI.out;simp [intOf];omega
  ·obtain rfl:k=L.length:=by omega
   have A:Hd ((L.any fun l=>decide (l.name=x))=false):=⟨by
    rw [List.any_eq_false]
    intro l hl'
    obtain ⟨j,hj,rfl⟩:=List.getElem_of_mem hl'
    simpa using hno.out j hj hj⟩
   clear hno hg
   go_wp2_with fail
   go_ret
   exact ⟨⟨-1,rfl,by rw [A.out];decide⟩,hb⟩
theorem phasLvF (a:Option Addr) (c:Nat) (L:List Lv) (g:Nat) (x:ByteArray) (w:World) (hg:w.cell? ⟨g,0,none⟩=some (.string x)) (hr:LvR w a L) (hl:L.length≤65536) :
  Calls Tryz.prog 126 #[.slice a L.length c,.func (.func 127) #[] #[.pointer (some ⟨g,0,none⟩)]] w fun e w'=>e=.returned (.bool (L.any fun l=>decide (l.name=x)))∧Below w.heap.size w w':=by
 cases L with
 | nil =>
  have I:Calls Tryz.prog 37 #[.slice a 0 c,.func (.func 127) #[] #[.pointer (some ⟨g,0,none⟩)]] w fun e w'=>e=.returned (.int .i64 (-1))∧w'=w:=by
   clear hg hr hl
   go_enter Tryz.func37,Tryz.ntmps37
   go_wp2_with fail
   refine wp_loop_rounds 1 ?_
   rw [rounds_succ]
   go_wp2_with fail
   go_ret
   exact ⟨rfl,rfl⟩
  clear hg hr hl
  show Calls Tryz.prog 126 #[.slice a 0 c,.func (.func 127) #[] #[.pointer (some ⟨g,0,none⟩)]] w _
  go_enter Tryz.func126,Tryz.ntmps126
  go_wp2_with (go_at_call 37;refine I.mono ?_;rintro e w' ⟨rfl,hw⟩;obtain rfl:=hw.symm)
  go_ret
  exact ⟨rfl,Below.refl _ _⟩
 | cons l0 L0 =>
  obtain ⟨r,ro,rfl,hb,hcs⟩:=hr (by simp)
  have I:=pindexLvF (l0 :: L0) g r ro c x w hg hb hl hcs
  clear hg hcs hr hb
  generalize ((l0 :: L0).any fun l=>decide (l.name=x))=b at *
  generalize (l0 :: L0).length=m at *
  go_enter Tryz.func126,Tryz.ntmps126
  go_wp2_with (go_at_call 37;refine I.mono ?_;rintro e w' ⟨⟨q,rfl,hq⟩,hb⟩)
  go_ret
  exact ⟨by rw [←hq];rfl,hb⟩
theorem phasScF (a:Option Addr) (c:Nat) (L:List Sc) (V:List Value) (g:Nat) (x:ByteArray) (w:World) (hg:w.cell? ⟨g,0,none⟩=some (.string x)) (hr:ScR w a L V) (hV:V.length=L.length) (hl:L.length≤65536) :
  Calls Tryz.prog 130 #[.slice a L.length c,.func (.func 131) #[] #[.pointer (some ⟨g,0,none⟩)]] w fun e w'=>e=.returned (.bool (L.any fun l=>decide (l.name=x)))∧Below w.heap.size w w':=by
 cases L with
 | nil =>
  have I:Calls Tryz.prog 160 #[.slice a 0 c,.func (.func 131) #[] #[.pointer (some ⟨g,0,none⟩)]] w fun e w'=>e=.returned (.int .i64 (-1))∧w'=w:=by
   clear hg hr hl hV
   go_enter Tryz.func160,Tryz.ntmps160
   go_wp2_with fail
   refine wp_loop_rounds 1 ?_
   rw [rounds_succ]
   go_wp2_with fail
   go_ret
   exact ⟨rfl,rfl⟩
  clear hg hr hl hV
  show Calls Tryz.prog 130 #[.slice a 0 c,.func (.func 131) #[] #[.pointer (some ⟨g,0,none⟩)]] w _
  go_enter Tryz.func130,Tryz.ntmps130
  go_wp2_with (go_at_call 160;refine I.mono ?_;rintro e w' ⟨rfl,hw⟩;obtain rfl:=hw.symm)
  go_ret
  exact ⟨rfl,Below.refl _ _⟩
 | cons l0 L0 =>
  obtain ⟨r,ro,rfl,hb,hcs⟩:=hr (by simp)
  have I:=pindexScF (l0 :: L0) V hV g r ro c x w hg hb hl hcs
  clear hg hcs hr hb hV
  generalize ((l0 :: L0).any fun l=>decide (l.name=x))=b at *
  generalize (l0 :: L0).length=m at *
  go_enter Tryz.func130,Tryz.ntmps130
  go_wp2_with (go_at_call 160;refine I.mono ?_;rintro e w' ⟨⟨q,rfl,hq⟩,hb⟩)
  go_ret
  exact ⟨by rw [←hq];rfl,hb⟩
end Go.Proofs.YthkdbphgiobcdaaGreatDoor
