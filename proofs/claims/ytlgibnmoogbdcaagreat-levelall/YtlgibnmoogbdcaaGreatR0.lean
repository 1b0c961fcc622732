/-
  Blocks of memory, tickets that are read, lanes.
-/
import Derived.Test.YtlgibnmoogbdcaaGreatRows
import Derived.WalkKit
import Derived.ProofKit
import Derived.OpenShut
import Derived.Below
import Derived.BigQuiet
import Derived.OwnWalk
import Derived.Deep.QuietTactic
import Derived.Deep.DeepMust
import Derived.Laws.Rows
import Derived.Deep.Cut
import Derived.Deep.CutBlock
import Derived.Deep.DeepCutAuto
import Derived.Lib.MinMax
import Derived.StillTailTactics
import Derived.Deep.AppendLies
import Derived.Laws.AppendOwnNone
namespace Go.Proofs.YtlgibnmoogbdcaaGreat
open Go.RowKit
structure Hd (p:Prop):Prop where
 out:p
structure Kept (S:Nat→Prop) (w w':World):Prop where
 os:w'.os=w.os
 tape:w'.tape=w.tape
 output:w'.output=w.output
 size:w.heap.size≤w'.heap.size
 block:∀ k,k<w.heap.size→¬ S k→w'.heap[k]?=w.heap[k]?
theorem Kept.refl (S:Nat→Prop) (w:World):Kept S w w:=⟨rfl,rfl,rfl,Nat.le_refl _,fun _ _ _=>rfl⟩
theorem Kept.trans {S:Nat→Prop} {a b c:World} (h:Kept S a b) (k:Kept S b c):Kept S a c :=
 ⟨k.os.trans h.os,k.tape.trans h.tape,k.output.trans h.output,Nat.le_trans h.size k.size,fun i hi hn=>(k.block i (Nat.lt_of_lt_of_le hi h.size) hn).trans (h.block i hi hn)⟩
theorem Kept.mono {S T:Nat→Prop} {w w':World} (h:Kept S w w') (e:∀ k,k<w.heap.size→S k→T k):Kept T w w' :=
 ⟨h.os,h.tape,h.output,h.size,fun k hk hn=>h.block k hk fun hs=>hn (e k hk hs)⟩
theorem Kept.then {S T:Nat→Prop} {a b c:World} (h:Kept S a b) (k:Kept T b c) (e:∀ j,j<a.heap.size→T j→S j):Kept S a c :=
 ⟨k.os.trans h.os,k.tape.trans h.tape,k.output.trans h.output,Nat.le_trans h.size k.size,fun i hi hn=>(k.block i (Nat.lt_of_lt_of_le hi h.size) fun ht=>hn (e i hi ht)).trans (h.block i hi hn)⟩
theorem Kept.of_below {w w':World} (h:Below w.heap.size w w') (S:Nat→Prop):Kept S w w':=⟨h.os,h.tape,h.output,h.size,fun k hk _=>h.block k hk⟩
theorem Kept.below {S:Nat→Prop} {B:Nat} {w w':World} (h:Kept S w w') (hB:B≤w.heap.size) (e:∀ k,S k→B≤k):Below B w w' :=
 ⟨h.os,h.tape,h.output,h.size,fun k hk=>h.block k (Nat.lt_of_lt_of_le hk hB) fun hs=>by have:=e k hs;omega⟩
theorem Kept.of_grown {S:Nat→Prop} {w w':World} {row:Option Nat} (h:w.grownBy w' row) (e:∀ k,row=some k→S k):Kept S w w' :=
 ⟨h.os,h.tape,h.output,h.size,fun k hk hn=>h.block k hk fun er=>hn (e k er.symm)⟩
theorem Kept.alloc {S:Nat→Prop} {a w:World} (h:Kept S a w) (o:Obj):Kept S a (w.alloc o):=h.trans (Kept.of_below ((Below.refl _ _).alloc (Nat.le_refl _) _) S)
theorem Kept.drew {S:Nat→Prop} {a w:World} (h:Kept S a w):Kept S a w.drew:=⟨h.os,h.tape,h.output,h.size,h.block⟩
theorem Kept.setCell {S:Nat→Prop} {a w:World} (h:Kept S a w) (p:Addr) (v:Value) (hp:S p.block∨a.heap.size≤p.block):Kept S a (w.setCell p v) :=
 ⟨h.os,h.tape,h.output,by simpa using h.size,fun k hk hn=>(Below.heap_setCell _ _ _ _ (fun e=>hp.elim (fun hp=>hn (by rw [e];exact hp)) (fun hp=>by omega))).trans (h.block k hk hn)⟩
def Blk (w:World) (b t:Nat) (cs:Array Value):Prop:=w.heap[b]?=some (.cells cs t (0,0))
theorem Blk.lt {w:World} {b t:Nat} {cs:Array Value} (h:Blk w b t cs):b<w.heap.size:=by
 unfold Blk at h
 rcases Nat.lt_or_ge b w.heap.size with h1 | h1
 ·exact h1
 ·rw [Array.getElem?_eq_none h1] at h;cases h
theorem Blk.cell {w:World} {b t:Nat} {cs:Array Value} (h:Blk w b t cs) (i:Nat):w.cell? ⟨b,i,none⟩=cs[i]?:=by
 unfold Blk at h;simp [World.cell?,h]
theorem Blk.cellv {w:World} {b t:Nat} {cs:Array Value} (h:Blk w b t cs) (i:Nat) {v:Value} (hv:cs[i]?=some v):w.cell? ⟨b,i,none⟩=some v:=(h.cell i).trans hv
theorem Blk.frozen {w:World} {b t:Nat} {cs:Array Value} (h:Blk w b t cs) (i:Nat):w.frozen? ⟨b,i,none⟩=false:=by
 unfold Blk at h;simp [World.frozen?,h]
theorem Blk.kept {S:Nat→Prop} {w w':World} {b t:Nat} {cs:Array Value} (h:Blk w b t cs) (k:Kept S w w') (hS:¬ S b):Blk w' b t cs:=(k.block b h.lt hS).trans h
theorem Blk.set {w:World} {b t:Nat} {cs:Array Value} (h:Blk w b t cs) (i:Nat) (v:Value):Blk (w.setCell ⟨b,i,none⟩ v) b t (cs.setIfInBounds i v):=heap_setCell_same w b i cs t v h
theorem Blk.other {w:World} {b t:Nat} {cs:Array Value} (h:Blk w b t cs) {p:Addr} (hp:b≠p.block) (v:Value):Blk (w.setCell p v) b t cs:=(Below.heap_setCell _ _ _ _ hp).trans h
theorem Blk.new (w:World) (t:Nat) (cs:Array Value):Blk (w.alloc (.cells cs t)) w.heap.size t cs:=by
 unfold Blk;show (w.heap.push _)[_]?=_;simp
theorem Blk.ne {w:World} {b b' t t':Nat} {cs cs':Array Value} (h:Blk w b t cs) (h':Blk w b' t' cs') (e:t≠t'):b≠b':=fun he=>by
 subst he;unfold Blk at h h';rw [h] at h';cases h';exact e rfl
theorem Blk.ne' {w:World} {b b' t t':Nat} {cs cs':Array Value} {f:Nat × Nat} (h:Blk w b t cs) (h':w.heap[b']?=some (.cells cs' t' f)) (e:t≠t'):b≠b':=fun he=>by
 subst he;unfold Blk at h;rw [h] at h';cases h';exact e rfl
theorem alloc_below (w:World) (o:Obj):Below w.heap.size w (w.alloc o):=(Below.refl _ _).alloc (Nat.le_refl _) _
theorem Blk.alloc {w:World} {b t:Nat} {cs:Array Value} (h:Blk w b t cs) (o:Obj):Blk (w.alloc o) b t cs:=h.kept (Kept.of_below (alloc_below w o) (fun _=>False)) id
theorem alloc_new (w:World) (o:Obj) (t:Nat) (cs:Array Value):Blk ((w.alloc o).alloc (.cells cs t)) (w.heap.size+1) t cs:=by
 have:=Blk.new (w.alloc o) t cs
 rwa [show (w.alloc o).heap.size=w.heap.size+1 from by simp] at this
theorem boxes (w:World) (t1 t2:Nat) (x y:Array Value):Below w.heap.size w ((w.alloc (.cells x t1)).alloc (.cells y t2))∧Blk ((w.alloc (.cells x t1)).alloc (.cells y t2)) w.heap.size t1 x∧Blk ((w.alloc (.cells x t1)).alloc (.cells y t2)) (w.heap.size+1) t2 y :=
 ⟨((Below.refl _ _).alloc (Nat.le_refl _) _).alloc (by simp) _,(Blk.new w t1 x).alloc _,alloc_new w _ t2 y⟩
theorem boxes3 (w:World) (t1 t2 t3:Nat) (x y z:Array Value):Below w.heap.size w (((w.alloc (.cells x t1)).alloc (.cells y t2)).alloc (.cells z t3))∧Blk (((w.alloc (.cells x t1)).alloc (.cells y t2)).alloc (.cells z t3)) w.heap.size t1 x∧Blk (((w.alloc (.cells x t1)).alloc (.cells y t2)).alloc (.cells z t3)) (w.heap.size+1) t2 y∧Blk (((w.alloc (.cells x t1)).alloc (.cells y t2)).alloc (.cells z t3)) (w.heap.size+1+1) t3 z:=by
 refine ⟨(((Below.refl _ _).alloc (Nat.le_refl _) _).alloc (by simp) _).alloc (by simp;omega) _,((Blk.new w t1 x).alloc _).alloc _,(alloc_new w _ t2 y).alloc _,?_⟩
 have:=alloc_new (w.alloc (.cells x t1)) (.cells y t2) t3 z
 rw [show (w.alloc (.cells x t1)).heap.size=w.heap.size+1 from by simp] at this
 exact this
theorem region_tail {id:Nat} {Q:Exit→Act→World→Prop} {a:Act} {w:World} {l:List Oper} (n:Nat) (hB:Region.lexTailB .any l.toArray n=true)
  (h:wpStill Tryz.prog l.toArray w.drew (fun a'=>wpList Tryz.prog l.toArray Q (l.drop n) a' w.drew) (l.take n) a):(Code.region id l.toArray true).wp Tryz.prog Q a w :=
 wp_region_still_tail n (by kernel_rfl) hB h
structure Tk where
 id:Int
 wid:Int
 sts:Int
 sin:Int
 unt:Int
def tkC (t:Tk):List Value:=[.int .i64 t.id,.int .i64 t.wid,.int .i64 t.sts,.int .i64 t.sin,.int .i64 t.unt]
def tkA (t:Tk):Array Value:=#[.int .i64 t.id,.int .i64 t.wid,.int .i64 t.sts,.int .i64 t.sin,.int .i64 t.unt]
def tkZ:Tk:=⟨0,0,0,0,0⟩
def tkCs (L:List Tk):List Value:=L.flatMap tkC
def gt (L:List Tk) (k:Nat):Tk:=L.getD k tkZ
theorem gt_cons_zero (t:Tk) (L:List Tk):gt (t :: L) 0=t:=rfl
theorem gt_cons_succ (t:Tk) (L:List Tk) (k:Nat):gt (t :: L) (k+1)=gt L k:=rfl
theorem gt_get {L:List Tk} {k:Nat} (h:k<L.length):L[k]?=some (gt L k):=by
 unfold gt;rw [List.getD_eq_getElem?_getD,List.getElem?_eq_getElem h];rfl
theorem tkCs_cons (t:Tk) (L:List Tk):tkCs (t :: L)=tkC t++tkCs L:=by simp [tkCs]
theorem tkCs_append (L M:List Tk):tkCs (L++M)=tkCs L++tkCs M:=by simp [tkCs]
theorem tkCs_single (t:Tk):tkCs [t]=tkC t:=by simp [tkCs]
theorem tkCs_len (L:List Tk):(tkCs L).length=L.length*5:=by
 induction L with
 | nil=>rfl
 | cons t L ih=>rw [tkCs_cons,List.length_append,ih];simp [tkC];omega
theorem tkCs_at:∀ (L:List Tk) (k:Nat),k<L.length→∀ j,j<5→(tkCs L)[k*5+j]?=(tkC (gt L k))[j]?
 | [],k,h,_,_=>absurd h (Nat.not_lt_zero k)
 | t :: L,0,_,j,hj=>by
  rw [tkCs_cons,gt_cons_zero,List.getElem?_append_left (by simp [tkC];omega)]
  simp
 | t :: L,k+1,h,j,hj=>by
  rw [tkCs_cons,gt_cons_succ,List.getElem?_append_right (by simp [tkC];omega)]
  rw [←tkCs_at L k (by simpa using h) j hj]
  congr 1
  simp [tkC];omega
theorem tkCs_one {L:List Tk} : ∀ u∈tkCs L,u.oneCell'=true:=by
 intro u hu
 unfold tkCs at hu
 obtain ⟨t,-,h⟩:=List.mem_flatMap.1 hu
 simp [tkC] at h
 rcases h with rfl | rfl | rfl | rfl | rfl <;> rfl
def TkR (w:World) (a:Option Addr) (L:List Tk):Prop:=L≠[]→∃ b off,a=some ⟨b,off,none⟩∧b<w.heap.size∧∀ j u,(tkCs L)[j]?=some u→w.cell? ⟨b,off+j,none⟩=some u
theorem TkR.nil (w:World) (a:Option Addr):TkR w a []:=fun h=>absurd rfl h
theorem TkR.carry {w w':World} {a:Option Addr} {L:List Tk} (h:TkR w a L) (b:Below w.heap.size w w'):TkR w' a L:=fun hn=>by
 obtain ⟨g,off,rfl,hg,hc⟩:=h hn
 exact ⟨g,off,rfl,Nat.lt_of_lt_of_le hg b.size,fun j u hj=>(b.cell (p:=⟨g,off+j,none⟩) hg).trans (hc j u hj)⟩
theorem TkR.keep {S:Nat→Prop} {w w':World} {a:Option Addr} {L:List Tk} (h:TkR w a L) (k:Kept S w w') (hS:∀ b off,a=some ⟨b,off,none⟩→¬ S b):TkR w' a L:=fun hn=>by
 obtain ⟨g,off,rfl,hg,hc⟩:=h hn
 refine ⟨g,off,rfl,Nat.lt_of_lt_of_le hg k.size,fun j u hj=>?_⟩
 rw [World.cell?_of_block (k.block g hg (hS g off rfl))]
 exact hc j u hj
theorem TkR.at {w:World} {a:Option Addr} {L:List Tk} (h:TkR w a L) {k:Nat} (hk:k<L.length):∃ b off,a=some ⟨b,off,none⟩∧b<w.heap.size∧w.cell? ⟨b,off+k*5,none⟩=some (.int .i64 (gt L k).id)∧w.cell? ⟨b,off+k*5+1,none⟩=some (.int .i64 (gt L k).wid)∧w.cell? ⟨b,off+k*5+2,none⟩=some (.int .i64 (gt L k).sts)∧w.cell? ⟨b,off+k*5+3,none⟩=some (.int .i64 (gt L k).sin)∧w.cell? ⟨b,off+k*5+4,none⟩=some (.int .i64 (gt L k).unt):=by
 obtain ⟨b,off,rfl,hb,hc⟩:=h (by intro e;rw [e] at hk;exact absurd hk (Nat.not_lt_zero k))
 exact ⟨b,off,rfl,hb,hc (k*5+0) _ (tkCs_at L k hk 0 (by decide)),hc (k*5+1) _ (tkCs_at L k hk 1 (by decide)),hc (k*5+2) _ (tkCs_at L k hk 2 (by decide)),hc (k*5+3) _ (tkCs_at L k hk 3 (by decide)),hc (k*5+4) _ (tkCs_at L k hk 4 (by decide))⟩
theorem TkR.cells {w:World} {x:Addr} {L:List Tk} (h:TkR w (some x) L):∀ j u,(tkCs L)[j]?=some u→w.cell? (x.add j)=some u:=fun j u hj=>by
 obtain ⟨b,off,e,-,hc⟩:=h (by intro e;rw [e] at hj;simp [tkCs] at hj)
 cases e
 rw [Go.WideShapes.add_plain]
 exact hc j u hj
theorem TkR.take {w:World} {a:Option Addr} {L M:List Tk} (h:TkR w a (L++M)):TkR w a L:=fun hn=>by
 obtain ⟨b,off,rfl,hb,hc⟩:=h (by intro e;exact hn (List.append_eq_nil_iff.1 e).1)
 refine ⟨b,off,rfl,hb,fun j u hj=>hc j u ?_⟩
 rw [tkCs_append]
 have:j<(tkCs L).length:=by
  rcases Nat.lt_or_ge j (tkCs L).length with c | c
  ·exact c
  ·rw [List.getElem?_eq_none c] at hj;cases hj
 rw [List.getElem?_append_left this]
 exact hj
theorem TkR.drop {w:World} {b off:Nat} {L M:List Tk} (h:TkR w (some ⟨b,off,none⟩) (L++M)):TkR w (some ⟨b,off+L.length*5,none⟩) M:=fun hn=>by
 obtain ⟨b',off',e,hb,hc⟩:=h (by intro e;exact hn (List.append_eq_nil_iff.1 e).2)
 cases e
 refine ⟨b,off+L.length*5,rfl,hb,fun j u hj=>?_⟩
 rw [Nat.add_assoc]
 refine hc (L.length*5+j) u ?_
 rw [tkCs_append,List.getElem?_append_right (by rw [tkCs_len];omega),tkCs_len,Nat.add_sub_cancel_left]
 exact hj
def SlR (w:World) (a:Option Addr) (c:Nat) (L:List Tk):Prop:=L.length≤c∧(a=none→c=0)∧TkR w a L
theorem SlR.carry {w w':World} {a:Option Addr} {c:Nat} {L:List Tk} (h:SlR w a c L) (b:Below w.heap.size w w'):SlR w' a c L:=⟨h.1,h.2.1,h.2.2.carry b⟩
theorem tk_owned {w:World} {base:Nat} {v:Value} {L:List Tk} (h:w.ownsRow base 36 5 v L.length (tkCs L)):∃ a c,v=.slice a L.length c∧SlR w a c L:=by
 rcases id h.2 with ⟨rfl,e⟩ | ⟨g,cap,cur,rfl,hb,hg,hc,r⟩
 ·have:L=[]:=List.eq_nil_of_length_eq_zero e
  subst this
  exact ⟨none,0,rfl,Nat.le_refl _,fun _=>rfl,TkR.nil _ _⟩
 ·refine ⟨some ⟨g,0,none⟩,cap,rfl,hc,(fun e=>by cases e),fun _=>⟨g,0,rfl,(h.lt g rfl).2,fun j u hj=>?_⟩⟩
  have:=h.cells rfl j u hj
  rw [Go.WideShapes.add_plain] at this
  exact this
theorem Tryz.info36:(Tryz.prog.info? 36).map (fun i=>(i.zero,i.size,i.bytes))=some (some (.agg #[.int .i64 0,.int .i64 0,.int .i64 0,.int .i64 0,.int .i64 0]),5,40):=by kernel_rfl
theorem Blk.five {w:World} {g:Nat} {t:Tk} (h:Blk w g 36 (tkA t)) :
  (w.cell? ⟨g,0,none⟩=some (.int .i64 t.id)∧w.cell? ⟨g,1,none⟩=some (.int .i64 t.wid)∧w.cell? ⟨g,2,none⟩=some (.int .i64 t.sts)∧w.cell? ⟨g,3,none⟩=some (.int .i64 t.sin)∧w.cell? ⟨g,4,none⟩=some (.int .i64 t.unt))
  ∧ w.frozen? ⟨g,0,none⟩=false∧w.frozen? ⟨g,1,none⟩=false∧w.frozen? ⟨g,2,none⟩=false∧w.frozen? ⟨g,3,none⟩=false∧w.frozen? ⟨g,4,none⟩=false :=
 ⟨⟨h.cellv 0 rfl,h.cellv 1 rfl,h.cellv 2 rfl,h.cellv 3 rfl,h.cellv 4 rfl⟩,h.frozen 0,h.frozen 1,h.frozen 2,h.frozen 3,h.frozen 4⟩
theorem five_set {w:World} {g:Nat} {z:Tk} (h:Blk w g 36 (tkA z)) (t:Tk) :
  Blk (((((w.setCell ⟨g,0,none⟩ (.int .i64 t.id)).setCell ⟨g,1,none⟩ (.int .i64 t.wid)).setCell ⟨g,2,none⟩ (.int .i64 t.sts)).setCell ⟨g,3,none⟩ (.int .i64 t.sin)).setCell ⟨g,4,none⟩ (.int .i64 t.unt)) g 36 (tkA t)
  ∧ Kept (fun k=>k=g) w (((((w.setCell ⟨g,0,none⟩ (.int .i64 t.id)).setCell ⟨g,1,none⟩ (.int .i64 t.wid)).setCell ⟨g,2,none⟩ (.int .i64 t.sts)).setCell ⟨g,3,none⟩ (.int .i64 t.sin)).setCell ⟨g,4,none⟩ (.int .i64 t.unt)):=by
 refine ⟨?_,(((((Kept.refl (fun k=>k=g) w).setCell _ _ (.inl rfl)).setCell _ _ (.inl rfl)).setCell _ _ (.inl rfl)).setCell _ _ (.inl rfl)).setCell _ _ (.inl rfl)⟩
 have:=((((h.set 0 (.int .i64 t.id)).set 1 (.int .i64 t.wid)).set 2 (.int .i64 t.sts)).set 3 (.int .i64 t.sin)).set 4 (.int .i64 t.unt)
 simpa [tkA] using this
def lnA (s:Int) (v:Value):Array Value:=#[.int .u64 s,v]
theorem Blk.lane {w:World} {g:Nat} {s:Int} {v:Value} (h:Blk w g 62 (lnA s v)) :
  (w.cell? ⟨g,0,none⟩=some (.int .u64 s)∧w.cell? ⟨g,1,none⟩=some v)∧w.frozen? ⟨g,0,none⟩=false∧w.frozen? ⟨g,1,none⟩=false :=
 ⟨⟨h.cellv 0 rfl,h.cellv 1 rfl⟩,h.frozen 0,h.frozen 1⟩
theorem lane_set {w:World} {g:Nat} {s:Int} {v:Value} (h:Blk w g 62 (lnA s v)) (s':Int) (v':Value) :
  Blk ((w.setCell ⟨g,0,none⟩ (.int .u64 s')).setCell ⟨g,1,none⟩ v') g 62 (lnA s' v')∧Kept (fun k=>k=g) w ((w.setCell ⟨g,0,none⟩ (.int .u64 s')).setCell ⟨g,1,none⟩ v'):=by
 refine ⟨?_,((Kept.refl (fun k=>k=g) w).setCell _ _ (.inl rfl)).setCell _ _ (.inl rfl)⟩
 have:=(h.set 0 (.int .u64 s')).set 1 v'
 simpa [lnA] using this
end Go.Proofs.YtlgibnmoogbdcaaGreat
