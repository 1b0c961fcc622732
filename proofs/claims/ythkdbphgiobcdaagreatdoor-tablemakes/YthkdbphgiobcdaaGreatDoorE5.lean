/-
  How the reader of a line and a configuration lie in memory;what stays when one of them is written.
  How a configuration lies in memory.
  What the small tests of 'print' answer: within,seatsFormed,sharesFormed,lanesFormed,levelFormed,byWord.
-/
import Derived.Test.YthkdbphgiobcdaaGreatDoorE1
import Derived.Below
import Derived.Laws.Rows
import Derived.OwnWalk
import Derived.Deep.AppendLies
import Derived.Laws.AppendOwnNone
import Derived.Test.YthkdbphgiobcdaaGreatDoorE2
import Derived.Deep.SlicePairs
import Derived.Deep.Cut
import Derived.Deep.RegionHeld
import Derived.Deep.RegionLaw
import Derived.Shelf.Abstract
namespace Go.Proofs.YthkdbphgiobcdaaGreatDoor
open Go.RowKit
structure Kept (S:Nat→Prop) (w w':World):Prop where
 os:w'.os=w.os
 tape:w'.tape=w.tape
 output:w'.output=w.output
 size:w.heap.size≤w'.heap.size
 block:∀ k,k<w.heap.size→¬ S k→w'.heap[k]?=w.heap[k]?
theorem Kept.refl (S:Nat→Prop) (w:World):Kept S w w:=⟨rfl,rfl,rfl,Nat.le_refl _,fun _ _ _=>rfl⟩
theorem Kept.trans {S:Nat→Prop} {a b c:World} (h:Kept S a b) (k:Kept S b c):Kept S a c :=
 ⟨k.os.trans h.os,k.tape.trans h.tape,k.output.trans h.output,Nat.le_trans h.size k.size,fun i hi hn=>(k.block i (Nat.lt_of_lt_of_le hi h.size) hn).trans (h.block i hi hn)⟩
theorem Kept.mono {S T:Nat→Prop} {w w':World} (h:Kept S w w') (e:∀ k,k<w.heap.size→S k→T k):Kept T w w' :=
 ⟨h.os,h.tape,h.output,h.size,fun k hk hn=>h.block k hk fun hs=>hn (e k hk hs)⟩
theorem Kept.of_below {w w':World} (h:Below w.heap.size w w') (S:Nat→Prop):Kept S w w':=⟨h.os,h.tape,h.output,h.size,fun k hk _=>h.block k hk⟩
theorem Kept.below {S:Nat→Prop} {B:Nat} {w w':World} (h:Kept S w w') (hB:B≤w.heap.size) (e:∀ k,S k→B≤k):Below B w w' :=
 ⟨h.os,h.tape,h.output,h.size,fun k hk=>h.block k (Nat.lt_of_lt_of_le hk hB) fun hs=>by have:=e k hs;omega⟩
theorem Kept.of_grown {S:Nat→Prop} {w w':World} {row:Option Nat} (h:w.grownBy w' row) (e:∀ k,row=some k→S k):Kept S w w' :=
 ⟨h.os,h.tape,h.output,h.size,fun k hk hn=>h.block k hk fun er=>hn (e k er.symm)⟩
theorem Kept.alloc {S:Nat→Prop} {a w:World} (h:Kept S a w) (o:Obj):Kept S a (w.alloc o):=h.trans (Kept.of_below ((Below.refl _ _).alloc (Nat.le_refl _) _) S)
theorem Kept.drew {S:Nat→Prop} {a w:World} (h:Kept S a w):Kept S a w.drew:=⟨h.os,h.tape,h.output,h.size,h.block⟩
theorem Kept.setCell {S:Nat→Prop} {a w:World} (h:Kept S a w) (p:Addr) (v:Value) (hp:S p.block∨a.heap.size≤p.block):Kept S a (w.setCell p v) :=
 ⟨h.os,h.tape,h.output,by simpa using h.size,fun k hk hn=>(Below.heap_setCell _ _ _ _ (fun e=>hp.elim (fun hp=>hn (by rw [e];exact hp)) (fun hp=>by omega))).trans (h.block k hk hn)⟩
def Blk (w:World) (b t:Nat) (cs:Array Value):Prop:=w.heap[b]?=some (.cells cs t (0,0))
theorem Blk.lt {w:World} {b t:Nat} {cs:Array Value} (h:Blk w b t cs):b<w.heap.size:=by
 unfold Blk at h
 rcases Nat.lt_or_ge b w.heap.size with h1 | h1
 ·exact h1
 ·rw [Array.getElem?_eq_none h1] at h;cases h
theorem Blk.cell {w:World} {b t:Nat} {cs:Array Value} (h:Blk w b t cs) (i:Nat):w.cell? ⟨b,i,none⟩=cs[i]?:=by
 unfold Blk at h;simp [World.cell?,h]
theorem Blk.cellv {w:World} {b t:Nat} {cs:Array Value} (h:Blk w b t cs) (i:Nat) {v:Value} (hv:cs[i]?=some v):w.cell? ⟨b,i,none⟩=some v:=(h.cell i).trans hv
theorem Blk.frozen {w:World} {b t:Nat} {cs:Array Value} (h:Blk w b t cs) (i:Nat):w.frozen? ⟨b,i,none⟩=false:=by
 unfold Blk at h;simp [World.frozen?,h]
theorem Blk.kept {S:Nat→Prop} {w w':World} {b t:Nat} {cs:Array Value} (h:Blk w b t cs) (k:Kept S w w') (hS:¬ S b):Blk w' b t cs:=(k.block b h.lt hS).trans h
theorem Blk.set {w:World} {b t:Nat} {cs:Array Value} (h:Blk w b t cs) (i:Nat) (v:Value):Blk (w.setCell ⟨b,i,none⟩ v) b t (cs.setIfInBounds i v):=heap_setCell_same w b i cs t v h
theorem Blk.other {w:World} {b t:Nat} {cs:Array Value} (h:Blk w b t cs) {p:Addr} (hp:b≠p.block) (v:Value):Blk (w.setCell p v) b t cs:=(Below.heap_setCell _ _ _ _ hp).trans h
theorem Blk.new (w:World) (t:Nat) (cs:Array Value):Blk (w.alloc (.cells cs t)) w.heap.size t cs:=by
 unfold Blk;show (w.heap.push _)[_]?=_;simp
theorem Blk.ne {w:World} {b b' t t':Nat} {cs cs':Array Value} (h:Blk w b t cs) (h':Blk w b' t' cs') (e:t≠t'):b≠b':=fun he=>by
 subst he;unfold Blk at h h';rw [h] at h';cases h';exact e rfl
theorem Blk.ne' {w:World} {b b' t t':Nat} {cs cs':Array Value} {f:Nat × Nat} (h:Blk w b t cs) (h':w.heap[b']?=some (.cells cs' t' f)) (e:t≠t'):b≠b':=fun he=>by
 subst he;unfold Blk at h;rw [h] at h';cases h';exact e rfl
def RowY (B:Nat) (w:World) (a:Option Addr) (L:List ByteArray):Prop :=
 0<L.length→∃ b off cur f,a=some ⟨b,off,none⟩∧B≤b∧w.heap[b]?=some (.cells cur 9 f)∧∀ k,k<L.length→cur[off+k]?=some (.string (gt L k))
theorem RowY.row {B:Nat} {w:World} {a:Option Addr} {L:List ByteArray} (h:RowY B w a L):RowL w a L:=fun hn=>by
 obtain ⟨b,off,cur,f,e,_,hb,hc⟩:=h hn
 refine ⟨b,off,e,?_,fun k hk=>?_⟩
 ·rcases Nat.lt_or_ge b w.heap.size with h1 | h1
  ·exact h1
  ·rw [Array.getElem?_eq_none h1] at hb;cases hb
 ·simp [World.cell?,hb,hc k hk]
theorem RowY.kept {B:Nat} {S:Nat→Prop} {w w':World} {a:Option Addr} {L:List ByteArray} (h:RowY B w a L) (k:Kept S w w') (hS:∀ b cur f,w.heap[b]?=some (.cells cur 9 f)→¬ S b):RowY B w' a L:=fun hn=>by
 obtain ⟨b,off,cur,f,e,hB,hb,hc⟩:=h hn
 refine ⟨b,off,cur,f,e,hB,(k.block b ?_ (hS b cur f hb)).trans hb,hc⟩
 rcases Nat.lt_or_ge b w.heap.size with h1 | h1
 ·exact h1
 ·rw [Array.getElem?_eq_none h1] at hb;cases hb
theorem RowY.below {B:Nat} {w w':World} {a:Option Addr} {L:List ByteArray} (h:RowY B w a L) (k:Below w.heap.size w w'):RowY B w' a L:=h.kept (Kept.of_below k (fun _=>False)) (fun _ _ _ _=>id)
theorem RowY.mono {B B':Nat} {w:World} {a:Option Addr} {L:List ByteArray} (h:RowY B w a L) (k:B'≤B):RowY B' w a L:=fun hn=>by
 obtain ⟨b,off,cur,f,e,hB,r⟩:=h hn
 exact ⟨b,off,cur,f,e,Nat.le_trans k hB,r⟩
theorem RowY.nil (B:Nat) (w:World) (a:Option Addr):RowY B w a []:=fun h=>absurd h (Nat.lt_irrefl 0)
theorem RowY.tail {B:Nat} {w:World} {b off:Nat} {L:List ByteArray} (h:RowY B w (some ⟨b,off,none⟩) L):RowY B w (some ⟨b,off+1,none⟩) L.tail:=fun hn=>by
 obtain ⟨b',off',cur,f,e,hB,hb,hc⟩:=h (by rw [List.length_tail] at hn;omega)
 cases e
 refine ⟨b,off+1,cur,f,rfl,hB,hb,fun k hk=>?_⟩
 rw [List.length_tail] at hk
 rw [gt_tail,show off+1+k=off+(k+1) by omega]
 exact hc (k+1) (by omega)
section
variable {B R A:Nat} {w w':World} {ws:List ByteArray} {e:Int}
end
def lvC (l:Lv):List Value:=[.string l.name,.int .i64 l.kind,.int .i64 l.shares,.int .i64 l.lend,.int .i64 l.borrow,.int .i64 l.queues,.int .i64 l.hand,.int .i64 l.length,.int .i64 l.wait,.int .i64 l.guess]
def lvCs:List Lv→List Value
 | []=>[]
 | l :: L=>lvC l++lvCs L
theorem lvCs_len:∀ L,(lvCs L).length=L.length*10
 | []=>rfl
 | l :: L=>by simp [lvCs,lvC,lvCs_len L];omega
theorem lvCs_append:∀ A B,lvCs (A++B)=lvCs A++lvCs B
 | [],B=>rfl
 | x :: A,B=>by simp [lvCs,lvCs_append A B]
theorem lvCs_at:∀ (L:List Lv) (i j:Nat) (h:i<L.length),j<10→(lvCs L)[i*10+j]?=(lvC L[i])[j]?
 | [],i,j,h,_=>by simp at h
 | x :: L,0,j,_,hj=>by
  simp only [lvCs,Nat.zero_mul,Nat.zero_add]
  rw [List.getElem?_append_left (by simpa [lvC] using hj)]
  rfl
 | x :: L,i+1,j,h,hj=>by
  have:=lvCs_at L i j (by simpa using h) hj
  simp only [lvCs]
  rw [List.getElem?_append_right (by simp [lvC];omega),show (i+1)*10+j - (lvC x).length=i*10+j by simp [lvC];omega]
  simpa using this
def LvOwn (B:Nat) (w:World) (v:Value) (L:List Lv):Prop:=w.ownsRow B 43 10 v L.length (lvCs L)
def Lst (B:Nat) (w:World) (v:Value) (L:List ByteArray):Prop:=∃ a c,v=.slice a L.length c∧RowY B w a L∧L.length≤c∧L.length≤65536
def RlV (B:Nat) (w:World) (cs:List Value) (r:Rl):Prop :=
 ∃ v0 v1 v2 v3 v4,cs=[v0,v1,v2,v3,v4]∧Lst B w v0 r.users∧Lst B w v1 r.groups∧Lst B w v2 r.verbs∧Lst B w v3 r.resources∧Lst B w v4 r.spaces
def RlsV (B:Nat) (w:World):List Value→List Rl→Prop
 | cs,[]=>cs=[]
 | cs,r :: rs=>∃ c cs',cs=c++cs'∧RlV B w c r∧RlsV B w cs' rs
def RlOwn (B:Nat) (w:World) (v:Value) (rs:List Rl):Prop:=∃ cs,w.ownsRow B 54 5 v rs.length cs∧RlsV B w cs rs
def scC (s:Sc) (v:Value):List Value:=[.string s.name,.string s.level,.int .i64 s.rank,.int .i64 s.way,v]
def scCs:List Sc→List Value→List Value
 | s :: ss,v :: vs=>scC s v++scCs ss vs
 | _,_=>[]
structure ScOwn (B:Nat) (w:World) (v:Value) (ss:List Sc) (V:List Value):Prop where
 len:V.length=ss.length
 own:w.ownsRow B 47 5 v ss.length (scCs ss V)
 rls:∀ k (h:k<ss.length) (h':k<V.length),RlOwn B w V[k] ss[k].rules
/-! ### what stays -/
section
variable {B:Nat} {S:Nat→Prop} {w w':World} {v:Value}
theorem owns_kept {e size n:Nat} {xs:List Value} (h:w.ownsRow B e size v n xs) (k:Kept S w w') (hS:∀ g,v.ownBlock=some g→¬ S g):w'.ownsRow B e size v n xs:=by
 have hl:=h.lt
 obtain ⟨h1,h2⟩:=h
 refine ⟨h1,h2.imp id ?_⟩
 rintro ⟨g,cap,cur,rfl,hb,hg,r⟩
 exact ⟨g,cap,cur,rfl,hb,(k.block g (hl g rfl).2 (hS g rfl)).trans hg,r⟩
theorem owns_type {e size n g:Nat} {xs:List Value} (h:w.ownsRow B e size v n xs) (hg:v.ownBlock=some g):∃ cur,Blk w g e cur:=by
 rcases h.2 with ⟨rfl,_⟩ | ⟨g',cap,cur,rfl,_,hb,_⟩
 ·cases hg
 ·cases hg
  exact ⟨cur,hb⟩
theorem owns_mono {B' e size n:Nat} {xs:List Value} (h:w.ownsRow B e size v n xs) (k:B'≤B):w.ownsRow B' e size v n xs:=by
 obtain ⟨h1,h2⟩:=h
 refine ⟨h1,h2.imp id ?_⟩
 rintro ⟨g,cap,cur,rfl,hb,r⟩
 exact ⟨g,cap,cur,rfl,Nat.le_trans k hb,r⟩
theorem Lst.kept {L:List ByteArray} (h:Lst B w v L) (k:Kept S w w') (hS:∀ b cur f,w.heap[b]?=some (.cells cur 9 f)→¬ S b):Lst B w' v L:=by
 obtain ⟨a,c,e,hr,hc⟩:=h
 exact ⟨a,c,e,hr.kept k hS,hc⟩
theorem RlV.kept {cs:List Value} {r:Rl} (h:RlV B w cs r) (k:Kept S w w') (hS:∀ b cur f,w.heap[b]?=some (.cells cur 9 f)→¬ S b):RlV B w' cs r:=by
 obtain ⟨v0,v1,v2,v3,v4,e,h0,h1,h2,h3,h4⟩:=h
 exact ⟨v0,v1,v2,v3,v4,e,h0.kept k hS,h1.kept k hS,h2.kept k hS,h3.kept k hS,h4.kept k hS⟩
theorem RlsV.kept (k:Kept S w w') (hS:∀ b cur f,w.heap[b]?=some (.cells cur 9 f)→¬ S b):∀ (cs:List Value) (rs:List Rl),RlsV B w cs rs→RlsV B w' cs rs
 | _,[],h=>h
 | _,_ :: rs,⟨c,cs',e,hr,ht⟩=>⟨c,cs',e,hr.kept k hS,RlsV.kept k hS cs' rs ht⟩
theorem RlOwn.kept {rs:List Rl} (h:RlOwn B w v rs) (k:Kept S w w') (hS:∀ b cur f,w.heap[b]?=some (.cells cur 9 f)→¬ S b) (hv:∀ g,v.ownBlock=some g→¬ S g):RlOwn B w' v rs:=by
 obtain ⟨cs,ho,hr⟩:=h
 exact ⟨cs,owns_kept ho k hv,RlsV.kept k hS cs rs hr⟩
structure Free (S:Nat→Prop) (w:World):Prop where
 s9:∀ (b:Nat) (cur:Array Value) (f:Nat × Nat),w.heap[b]?=some (.cells cur 9 f)→¬ S b
 s26:∀ b cur,Blk w b 25 cur→¬ S b
 s39:∀ b cur,Blk w b 43 cur→¬ S b
 s42:∀ b cur,Blk w b 47 cur→¬ S b
 s73:∀ b cur,Blk w b 54 cur→¬ S b
theorem RlOwn.free {rs:List Rl} (h:RlOwn B w v rs) (k:Kept S w w') (f:Free S w):RlOwn B w' v rs:=by
 refine h.kept k f.s9 (fun g hg=>?_)
 obtain ⟨cs,ho,_⟩:=h
 obtain ⟨cur,hb⟩:=owns_type ho hg
 exact f.s73 g cur hb
theorem ScOwn.free {ss:List Sc} {V:List Value} (h:ScOwn B w v ss V) (k:Kept S w w') (f:Free S w):ScOwn B w' v ss V :=
 ⟨h.len,owns_kept h.own k (fun g hg=>by obtain ⟨cur,hb⟩:=owns_type h.own hg;exact f.s42 g cur hb),fun i hi hi'=>(h.rls i hi hi').free k f⟩
theorem LvOwn.free {L:List Lv} (h:LvOwn B w v L) (k:Kept S w w') (f:Free S w):LvOwn B w' v L :=
 owns_kept h k (fun g hg=>by obtain ⟨cur,hb⟩:=owns_type h hg;exact f.s39 g cur hb)
end
def lvA (l:Lv):Array Value:=#[.string l.name,.int .i64 l.kind,.int .i64 l.shares,.int .i64 l.lend,.int .i64 l.borrow,.int .i64 l.queues,.int .i64 l.hand,.int .i64 l.length,.int .i64 l.wait,.int .i64 l.guess]
theorem within_ok (n lo hi:Int) (w:World):Calls Tryz.prog 82 #[.int .i64 n,.int .i64 lo,.int .i64 hi] w fun e w'=>e=.returned (.bool (inI n lo hi))∧w'=w:=by
 by_cases h1:lo≤n
 ·by_cases h2:n≤hi
  ·have e:inI n lo hi=true:=inI_iff.2 ⟨h1,h2⟩
   rw [e]
   go_enter Tryz.func82,Tryz.ntmps82
   go_wp2_with fail
   go_ret
   exact ⟨rfl,rfl⟩
  ·have e:inI n lo hi=false:=by unfold inI;simp [h2]
   rw [e]
   go_enter Tryz.func82,Tryz.ntmps82
   go_wp2_with fail
   go_ret
   exact ⟨rfl,rfl⟩
 ·have e:inI n lo hi=false:=by unfold inI;simp [h1]
  rw [e]
  go_enter Tryz.func82,Tryz.ntmps82
  go_wp2_with fail
  go_ret
  exact ⟨rfl,rfl⟩
theorem seats_ok (p m:Int) (w:World):Calls Tryz.prog 83 #[.int .i64 p,.int .i64 m] w fun e w'=>e=.returned (.bool (seatsOk p m))∧w'=w:=by
 have W1:=fun W=>within_ok p 1 1048576 W
 have W2:=fun W=>within_ok m 1 16 W
 have e:seatsOk p m=((p == 0 && m == 0) || (inI p 1 1048576 && inI m 1 16)):=rfl
 rw [e]
 clear e
 generalize inI p 1 1048576=x at *
 generalize inI m 1 16=y at *
 cases h1:(p == 0) <;> cases h2:(m == 0) <;> cases x <;> cases y <;> (go_enter Tryz.func83,Tryz.ntmps83;go_wp2_with (first | (go_at_call 82;with_reducible refine (W1 _).mono ?_;rintro e w' ⟨rfl,rfl⟩) | (go_at_call 82;with_reducible refine (W2 _).mono ?_;rintro e w' ⟨rfl,rfl⟩));go_ret;exact ⟨rfl,rfl⟩)
theorem by_ok (n:Int) (w:World):Calls Tryz.prog 114 #[.int .i64 n] w fun e w'=>e=.returned (.string (byW n))∧w'=w:=by
 by_cases h0:n=0
 ·subst h0
  go_enter Tryz.func114,Tryz.ntmps114
  go_wp2_with fail
  go_ret
  exact ⟨rfl,rfl⟩
 by_cases h1:n=1
 ·subst h1
  go_enter Tryz.func114,Tryz.ntmps114
  go_wp2_with fail
  go_ret
  exact ⟨rfl,rfl⟩
 by_cases h2:n=2
 ·subst h2
  go_enter Tryz.func114,Tryz.ntmps114
  go_wp2_with fail
  go_ret
  exact ⟨rfl,rfl⟩
 ·have e:byW n=mk []:=by unfold byW;rw [if_neg h0,if_neg h1,if_neg h2]
  rw [e]
  have b0:(n == 0)=false:=by simpa using h0
  have b1:(n == 1)=false:=by simpa using h1
  have b2:(n == 2)=false:=by simpa using h2
  clear h0 h1 h2 e
  go_enter Tryz.func114,Tryz.ntmps114
  go_wp2_with fail
  go_ret
  exact ⟨rfl,rfl⟩
theorem alloc_below (w:World) (o:Obj):Below w.heap.size w (w.alloc o):=(Below.refl _ _).alloc (Nat.le_refl _) _
theorem shares_ok (l:Lv) (w:World):Calls Tryz.prog 162 #[.agg (lvA l)] w fun e w'=>e=.returned (.bool (sharesOk l))∧Below w.heap.size w w':=by
 have W1:=fun W=>within_ok l.shares 0 10000 W
 have W2:=fun W=>within_ok l.lend 0 100 W
 have W3:=fun W=>within_ok l.borrow 0 1000 W
 have B1:=alloc_below w (.cells (lvA l) 43)
 have N1:=Blk.new w 43 (lvA l)
 have e:sharesOk l=(inI l.shares 0 10000 && (inI l.lend 0 100 && (l.borrow == -1 || inI l.borrow 0 1000))):=rfl
 rw [e]
 clear e
 show Calls Tryz.prog 162 #[.agg #[.string l.name,.int .i64 l.kind,.int .i64 l.shares,.int .i64 l.lend,.int .i64 l.borrow,.int .i64 l.queues,.int .i64 l.hand,.int .i64 l.length,.int .i64 l.wait,.int .i64 l.guess]] w _
 generalize inI l.shares 0 10000=x at *
 generalize inI l.lend 0 100=y at *
 generalize inI l.borrow 0 1000=z at *
 have c2:=N1.cellv (v:=.int .i64 l.shares) 2 rfl
 have c3:=N1.cellv (v:=.int .i64 l.lend) 3 rfl
 have c4:=N1.cellv (v:=.int .i64 l.borrow) 4 rfl
 unfold lvA at B1 c2 c3 c4
 go_enter Tryz.func162,Tryz.ntmps162
 go_upto_region 1 with fail
 generalize w.alloc _=w1 at *
 cases h1:(l.borrow == -1) <;> cases x <;> cases y <;> cases z <;> (go_wp2_with (first | (go_at_call 82;with_reducible refine (W1 _).mono ?_;rintro e w' ⟨rfl,rfl⟩) | (go_at_call 82;with_reducible refine (W2 _).mono ?_;rintro e w' ⟨rfl,rfl⟩) | (go_at_call 82;with_reducible refine (W3 _).mono ?_;rintro e w' ⟨rfl,rfl⟩));go_ret;exact ⟨(by first | rfl | (rw [h1];rfl)),B1⟩)
theorem lanes_ok (l:Lv) (w:World):Calls Tryz.prog 163 #[.agg (lvA l)] w fun e w'=>e=.returned (.bool (lanesOk l))∧Below w.heap.size w w':=by
 have W1:=fun W=>within_ok l.queues 1 64 W
 have W2:=fun W=>within_ok l.hand 1 8 W
 have W3:=fun W=>within_ok l.length 1 64 W
 have W4:=fun W=>within_ok l.wait 1 1000 W
 have W5:=fun W=>within_ok l.guess 1 1000 W
 have B1:=alloc_below w (.cells (lvA l) 43)
 have N1:=Blk.new w 43 (lvA l)
 have e:lanesOk l=(inI l.queues 1 64 && (inI l.hand 1 8 && (inI l.length 1 64 && (inI l.wait 1 1000 && inI l.guess 1 1000)))):=rfl
 rw [e]
 clear e
 show Calls Tryz.prog 163 #[.agg #[.string l.name,.int .i64 l.kind,.int .i64 l.shares,.int .i64 l.lend,.int .i64 l.borrow,.int .i64 l.queues,.int .i64 l.hand,.int .i64 l.length,.int .i64 l.wait,.int .i64 l.guess]] w _
 generalize inI l.queues 1 64=x at *
 generalize inI l.hand 1 8=y at *
 generalize inI l.length 1 64=z at *
 generalize inI l.wait 1 1000=t at *
 generalize inI l.guess 1 1000=u at *
 have c5:=N1.cellv (v:=.int .i64 l.queues) 5 rfl
 have c6:=N1.cellv (v:=.int .i64 l.hand) 6 rfl
 have c7:=N1.cellv (v:=.int .i64 l.length) 7 rfl
 have c8:=N1.cellv (v:=.int .i64 l.wait) 8 rfl
 have c9:=N1.cellv (v:=.int .i64 l.guess) 9 rfl
 unfold lvA at B1 c5 c6 c7 c8 c9
 go_enter Tryz.func163,Tryz.ntmps163
 go_upto_region 1 with fail
 generalize w.alloc _=w1 at *
 cases x with
 | false=>(go_wp2_with (first | (go_at_call 82;with_reducible refine (W1 _).mono ?_;rintro e w' ⟨rfl,rfl⟩) | (go_at_call 82;with_reducible refine (W2 _).mono ?_;rintro e w' ⟨rfl,rfl⟩) | (go_at_call 82;with_reducible refine (W3 _).mono ?_;rintro e w' ⟨rfl,rfl⟩) | (go_at_call 82;with_reducible refine (W4 _).mono ?_;rintro e w' ⟨rfl,rfl⟩) | (go_at_call 82;with_reducible refine (W5 _).mono ?_;rintro e w' ⟨rfl,rfl⟩));go_ret;exact ⟨rfl,B1⟩)
 | true =>
  cases y with
  | false=>(go_wp2_with (first | (go_at_call 82;with_reducible refine (W1 _).mono ?_;rintro e w' ⟨rfl,rfl⟩) | (go_at_call 82;with_reducible refine (W2 _).mono ?_;rintro e w' ⟨rfl,rfl⟩) | (go_at_call 82;with_reducible refine (W3 _).mono ?_;rintro e w' ⟨rfl,rfl⟩) | (go_at_call 82;with_reducible refine (W4 _).mono ?_;rintro e w' ⟨rfl,rfl⟩) | (go_at_call 82;with_reducible refine (W5 _).mono ?_;rintro e w' ⟨rfl,rfl⟩));go_ret;exact ⟨rfl,B1⟩)
  | true =>
   cases z with
   | false=>(go_wp2_with (first | (go_at_call 82;with_reducible refine (W1 _).mono ?_;rintro e w' ⟨rfl,rfl⟩) | (go_at_call 82;with_reducible refine (W2 _).mono ?_;rintro e w' ⟨rfl,rfl⟩) | (go_at_call 82;with_reducible refine (W3 _).mono ?_;rintro e w' ⟨rfl,rfl⟩) | (go_at_call 82;with_reducible refine (W4 _).mono ?_;rintro e w' ⟨rfl,rfl⟩) | (go_at_call 82;with_reducible refine (W5 _).mono ?_;rintro e w' ⟨rfl,rfl⟩));go_ret;exact ⟨rfl,B1⟩)
   | true =>
    cases t with
    | false=>(go_wp2_with (first | (go_at_call 82;with_reducible refine (W1 _).mono ?_;rintro e w' ⟨rfl,rfl⟩) | (go_at_call 82;with_reducible refine (W2 _).mono ?_;rintro e w' ⟨rfl,rfl⟩) | (go_at_call 82;with_reducible refine (W3 _).mono ?_;rintro e w' ⟨rfl,rfl⟩) | (go_at_call 82;with_reducible refine (W4 _).mono ?_;rintro e w' ⟨rfl,rfl⟩) | (go_at_call 82;with_reducible refine (W5 _).mono ?_;rintro e w' ⟨rfl,rfl⟩));go_ret;exact ⟨rfl,B1⟩)
    | true =>
     cases u with
     | false=>(go_wp2_with (first | (go_at_call 82;with_reducible refine (W1 _).mono ?_;rintro e w' ⟨rfl,rfl⟩) | (go_at_call 82;with_reducible refine (W2 _).mono ?_;rintro e w' ⟨rfl,rfl⟩) | (go_at_call 82;with_reducible refine (W3 _).mono ?_;rintro e w' ⟨rfl,rfl⟩) | (go_at_call 82;with_reducible refine (W4 _).mono ?_;rintro e w' ⟨rfl,rfl⟩) | (go_at_call 82;with_reducible refine (W5 _).mono ?_;rintro e w' ⟨rfl,rfl⟩));go_ret;exact ⟨rfl,B1⟩)
     | true=>(go_wp2_with (first | (go_at_call 82;with_reducible refine (W1 _).mono ?_;rintro e w' ⟨rfl,rfl⟩) | (go_at_call 82;with_reducible refine (W2 _).mono ?_;rintro e w' ⟨rfl,rfl⟩) | (go_at_call 82;with_reducible refine (W3 _).mono ?_;rintro e w' ⟨rfl,rfl⟩) | (go_at_call 82;with_reducible refine (W4 _).mono ?_;rintro e w' ⟨rfl,rfl⟩) | (go_at_call 82;with_reducible refine (W5 _).mono ?_;rintro e w' ⟨rfl,rfl⟩));go_ret;exact ⟨rfl,B1⟩)
set_option maxRecDepth 20000 in
theorem level_ok (l:Lv) (w:World) (hn:l.name.size≤9223372036854775807):Calls Tryz.prog 134 #[.agg (lvA l)] w fun e w'=>e=.returned (.bool (lvOk l))∧Below w.heap.size w w':=by
 have NM:=fun W=>name_ok l.name hn W
 have S1:=fun W=>shares_ok l W
 have S2:=fun W=>lanes_ok l W
 have B1:=alloc_below w (.cells (lvA l) 43)
 have N1:=Blk.new w 43 (lvA l)
 unfold lvA at S1 S2
 show Calls Tryz.prog 134 #[.agg #[.string l.name,.int .i64 l.kind,.int .i64 l.shares,.int .i64 l.lend,.int .i64 l.borrow,.int .i64 l.queues,.int .i64 l.hand,.int .i64 l.length,.int .i64 l.wait,.int .i64 l.guess]] w _
 have c0:=N1.cellv (v:=.string l.name) 0 rfl
 have c1:=N1.cellv (v:=.int .i64 l.kind) 1 rfl
 have c2:=N1.cellv (v:=.int .i64 l.shares) 2 rfl
 have c3:=N1.cellv (v:=.int .i64 l.lend) 3 rfl
 have c4:=N1.cellv (v:=.int .i64 l.borrow) 4 rfl
 have c5:=N1.cellv (v:=.int .i64 l.queues) 5 rfl
 have c6:=N1.cellv (v:=.int .i64 l.hand) 6 rfl
 have c7:=N1.cellv (v:=.int .i64 l.length) 7 rfl
 have c8:=N1.cellv (v:=.int .i64 l.wait) 8 rfl
 have c9:=N1.cellv (v:=.int .i64 l.guess) 9 rfl
 unfold lvA at B1 c0 c1 c2 c3 c4 c5 c6 c7 c8 c9
 have HE:Hd (lvOk l=(isName l.name && (if l.kind=1 then noShares l && noLanes l else if l.kind=2 then sharesOk l && noLanes l else if l.kind=3 then sharesOk l && lanesOk l else false))):=⟨rfl⟩
 generalize lvOk l=R at *
 clear hn N1
 go_enter Tryz.func134,Tryz.ntmps134
 go_upto_region 1 with fail
 generalize w.alloc _=w1 at *
 cases hN:isName l.name with
 | false =>
  rw [hN] at NM
  have hR:R=false:=by rw [HE.out,hN];rfl
  subst hR
  go_wp2_with (go_at_call 161;refine (NM _).mono ?_;rintro e w' ⟨rfl,rfl⟩)
  go_ret
  exact ⟨rfl,B1⟩
 | true =>
  rw [hN] at NM
  have HE2:Hd (R=if l.kind=1 then noShares l && noLanes l else if l.kind=2 then sharesOk l && noLanes l else if l.kind=3 then sharesOk l && lanesOk l else false):=⟨by rw [HE.out,hN];rfl⟩
  clear HE hN
  by_cases k1:l.kind=1
  ·rw [if_pos k1] at HE2
   have kb:(l.kind == 1)=true:=by simp [k1]
   clear S1 S2
   go_wp2_with (go_at_call 161;refine (NM _).mono ?_;rintro e w' ⟨rfl,rfl⟩)
   all_goals (go_ret;exact ⟨(by rw [HE2.out];unfold noShares noLanes;simp [*]),B1⟩)
  ·rw [if_neg k1] at HE2
   have kb1:(l.kind == 1)=false:=by simpa using k1
   by_cases k2:l.kind=2
   ·rw [if_pos k2] at HE2
    have kb:(l.kind == 2)=true:=by simp [k2]
    have HK:Hd (l.kind=2):=⟨k2⟩
    clear S2 k1 k2
    go_wp2_with (go_at_call 161;refine (NM _).mono ?_;rintro e w' ⟨rfl,rfl⟩)
    go_at_call 162
    refine (S1 _).mono ?_
    rintro e w2 ⟨rfl,b2⟩
    have B2:Hd (Below w.heap.size w w2):=⟨B1.trans (b2.mono B1.size)⟩
    have hlt:w.heap.size<w'.heap.size:=by
     rcases Nat.lt_or_ge w.heap.size w'.heap.size with h1 | h1
     ·exact h1
     ·simp [World.cell?,Array.getElem?_eq_none h1] at c0
    have d0:=(b2.cell (p:=⟨w.heap.size,0,none⟩) hlt).trans c0
    have d1:=(b2.cell (p:=⟨w.heap.size,1,none⟩) hlt).trans c1
    have d2:=(b2.cell (p:=⟨w.heap.size,2,none⟩) hlt).trans c2
    have d3:=(b2.cell (p:=⟨w.heap.size,3,none⟩) hlt).trans c3
    have d4:=(b2.cell (p:=⟨w.heap.size,4,none⟩) hlt).trans c4
    have d5:=(b2.cell (p:=⟨w.heap.size,5,none⟩) hlt).trans c5
    have d6:=(b2.cell (p:=⟨w.heap.size,6,none⟩) hlt).trans c6
    have d7:=(b2.cell (p:=⟨w.heap.size,7,none⟩) hlt).trans c7
    have d8:=(b2.cell (p:=⟨w.heap.size,8,none⟩) hlt).trans c8
    have d9:=(b2.cell (p:=⟨w.heap.size,9,none⟩) hlt).trans c9
    clear c0 c1 c2 c3 c4 c5 c6 c7 c8 c9 b2 hlt NM S1
    generalize sharesOk l=sx at *
    cases sx with
    | false =>
     go_wp2_with fail
     go_ret
     exact ⟨(by rw [HE2.out];rfl),B2.out⟩
    | true =>
     go_wp2_with fail
     all_goals (go_ret;exact ⟨(by rw [HE2.out];unfold noLanes;simp [*]),B2.out⟩)
   ·rw [if_neg k2] at HE2
    have kb2:(l.kind == 2)=false:=by simpa using k2
    by_cases k3:l.kind=3
    ·rw [if_pos k3] at HE2
     have kb:(l.kind == 3)=true:=by simp [k3]
     clear k1 k2 k3
     go_wp2_with (go_at_call 161;refine (NM _).mono ?_;rintro e w' ⟨rfl,rfl⟩)
     go_at_call 162
     refine (S1 _).mono ?_
     rintro e w2 ⟨rfl,b2⟩
     have B2:Hd (Below w.heap.size w w2):=⟨B1.trans (b2.mono B1.size)⟩
     have hlt:w.heap.size<w'.heap.size:=by
      rcases Nat.lt_or_ge w.heap.size w'.heap.size with h1 | h1
      ·exact h1
      ·simp [World.cell?,Array.getElem?_eq_none h1] at c0
     have d0:=(b2.cell (p:=⟨w.heap.size,0,none⟩) hlt).trans c0
     have d1:=(b2.cell (p:=⟨w.heap.size,1,none⟩) hlt).trans c1
     have d2:=(b2.cell (p:=⟨w.heap.size,2,none⟩) hlt).trans c2
     have d3:=(b2.cell (p:=⟨w.heap.size,3,none⟩) hlt).trans c3
     have d4:=(b2.cell (p:=⟨w.heap.size,4,none⟩) hlt).trans c4
     have d5:=(b2.cell (p:=⟨w.heap.size,5,none⟩) hlt).trans c5
     have d6:=(b2.cell (p:=⟨w.heap.size,6,none⟩) hlt).trans c6
     have d7:=(b2.cell (p:=⟨w.heap.size,7,none⟩) hlt).trans c7
     have d8:=(b2.cell (p:=⟨w.heap.size,8,none⟩) hlt).trans c8
     have d9:=(b2.cell (p:=⟨w.heap.size,9,none⟩) hlt).trans c9
     have LN:=S2 w2
     clear c0 c1 c2 c3 c4 c5 c6 c7 c8 c9 b2 hlt NM S1 S2
     generalize sharesOk l=sx at *
     generalize lanesOk l=ln at *
     cases sx with
     | false =>
      go_wp2_with fail
      go_ret
      exact ⟨(by rw [HE2.out];rfl),B2.out⟩
     | true =>
      go_wp2_with (go_at_call 163;refine LN.mono ?_;rintro e w3 ⟨rfl,b3⟩)
      go_ret
      exact ⟨(by rw [HE2.out];rfl),B2.out.trans (b3.mono B2.out.size)⟩
    ·rw [if_neg k3] at HE2
     have kb3:(l.kind == 3)=false:=by simpa using k3
     clear k1 k2 k3 S1 S2
     go_wp2_with (go_at_call 161;refine (NM _).mono ?_;rintro e w' ⟨rfl,rfl⟩)
     go_ret
     exact ⟨(by rw [HE2.out];rfl),B1⟩
end Go.Proofs.YthkdbphgiobcdaaGreatDoor
