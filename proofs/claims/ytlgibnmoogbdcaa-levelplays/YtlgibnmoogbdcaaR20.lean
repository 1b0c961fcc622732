/-
  What each call answers, told whatever becomes of blocks that were there ahead of it.
  The mathematics of emptying: how many wait, and their seats, behind a take and a trim.
  The mathematics of one level at work: who fits, who comes, who goes, who is late; what never grows, and that nobody is lost.
-/
import Derived.Test.YtlgibnmoogbdcaaR19
import Derived.Test.YtlgibnmoogbdcaaR14
namespace Go.Proofs.Ytlgibnmoogbdcaa
open Go.RowKit
def FaT (S:Nat→Prop) (w:World) (x:Fa) (v:Value):Prop:=FaS S w x.r x.g x.n x.o x.F v
theorem StR.nil (S:Nat→Prop) (w:World):StR S w none 0 []:=⟨Nat.le_refl _,fun _=>rfl,[],rfl,fun _ _=>⟨fun h=>absurd rfl h,fun _ h=>by cases h⟩⟩
theorem xZ_t (S:Nat→Prop) (w:World):FaT S w xZ faZ:=⟨none,0,rfl,StR.nil S w⟩
theorem FaS.low {S T:Nat→Prop} {w:World} {r g n o:Int} {F:List Ln} {v:Value} (h:FaS S w r g n o F v) (e:∀ j,j<w.heap.size→T j→S j):FaS T w r g n o F v:=by
 obtain ⟨a,c,e',s⟩:=h
 exact ⟨a,c,e',s.low e⟩
theorem FaT.w {S:Nat→Prop} {w:World} {x:Fa} {v:Value} (h:FaT S w x v):FaW w x v:=FaS.read h (Kept.refl _ _)
def suX (x:Fa):Fa:=⟨x.r,x.g,x.n,0,trm x.F 0⟩
theorem new_st (S:Nat→Prop) (o g n:Int) (w:World) (hS:∀ j,S j→j<w.heap.size):Calls Try.prog 21 #[.int .i64 o,.int .i64 g,.int .i64 n] w fun e w'=>(∃ v,e=.returned (.tuple #[v,.int .i64 (nwE o g n)])∧FaT S w' (nwX o g n) v)∧Below w.heap.size w w':=by
 unfold nwX nwE
 by_cases h:Good o g n
 ·rw [if_pos h,if_pos h]
  obtain ⟨m,rfl⟩:∃ m:Nat,o=m:=⟨o.toNat,by have:=h.1;omega⟩
  refine (new_yes m g n w h).mono ?_
  rintro e w' ⟨⟨v,rfl,hv⟩,b⟩
  exact ⟨⟨v,rfl,by rw [Int.toNat_natCast];exact hv.st (fun j hj hs=>absurd (hS j hs) (by omega))⟩,b⟩
 ·rw [if_neg h,if_neg h]
  refine (new_no o g n w h).mono ?_
  rintro e w' ⟨rfl,b⟩
  exact ⟨⟨_,rfl,xZ_t S w'⟩,b⟩
theorem rnew_st (S:Nat→Prop) (o g n:Int) (w:World) (hS:∀ j,S j→j<w.heap.size):Calls Try.prog 22 #[.int .i64 o,.int .i64 g,.int .i64 n] w fun e w'=>(∃ v,e=.returned (.tuple #[v,.int .i64 (nwE o g n)])∧FaT S w' (nwX o g n) v)∧Below w.heap.size w w':=by
 unfold nwX nwE
 by_cases h:Good o g n
 ·rw [if_pos h,if_pos h]
  obtain ⟨m,rfl⟩:∃ m:Nat,o=m:=⟨o.toNat,by have:=h.1;omega⟩
  refine (rnew_yes m g n w h).mono ?_
  rintro e w' ⟨⟨v,rfl,hv⟩,b⟩
  exact ⟨⟨v,rfl,by rw [Int.toNat_natCast];exact hv.st (fun j hj hs=>absurd (hS j hs) (by omega))⟩,b⟩
 ·rw [if_neg h,if_neg h]
  refine (rnew_no o g n w h).mono ?_
  rintro e w' ⟨rfl,b⟩
  exact ⟨⟨_,rfl,xZ_t S w'⟩,b⟩
section
variable (x:Fa) (a:Option Addr) (c:Nat) (w:World) (S:Nat→Prop) (h:StR S w a c x.F) (hS:∀ j,S j→j<w.heap.size) (hf:Few x.F)
include h hS hf
theorem shape_st (o g n:Int):Calls Try.prog 57 #[.agg #[.int .u64 x.r,.int .i64 x.g,.int .i64 x.n,.int .i64 x.o,.slice a x.F.length c],.int .i64 o,.int .i64 g,.int .i64 n] w fun e w'=>(∃ v,e=.returned (.tuple #[v,.int .i64 (nwE o g n)])∧FaT S w' (shX x o g n) v)∧Below w.heap.size w w':=by
 unfold shX nwE
 by_cases hg:Good o g n
 ·rw [if_pos hg,if_pos hg]
  obtain ⟨m,rfl⟩:∃ m:Nat,o=m:=⟨o.toNat,by have:=hg.1;omega⟩
  refine (shape_yes x.r x.g x.n x.o g n m a c x.F w (h.read (Kept.refl _ _)) hf hg).mono ?_
  rintro e w' ⟨⟨v,rfl,hv⟩,b⟩
  exact ⟨⟨v,rfl,by rw [Int.toNat_natCast];exact hv.low (fun j _ hs=>hS j hs)⟩,b⟩
 ·rw [if_neg hg,if_neg hg]
  refine (shape_no x.r x.g x.n x.o o g n a c x.F w hg).mono ?_
  rintro e w' ⟨rfl,b⟩
  exact ⟨⟨_,rfl,xZ_t S w'⟩,b⟩
theorem rshape_st (o g n:Int):Calls Try.prog 65 #[.agg #[.int .u64 x.r,.int .i64 x.g,.int .i64 x.n,.int .i64 x.o,.slice a x.F.length c],.int .i64 o,.int .i64 g,.int .i64 n] w fun e w'=>(∃ v,e=.returned (.tuple #[v,.int .i64 (nwE o g n)])∧FaT S w' (shX x o g n) v)∧Below w.heap.size w w':=by
 unfold shX nwE
 by_cases hg:Good o g n
 ·rw [if_pos hg,if_pos hg]
  obtain ⟨m,rfl⟩:∃ m:Nat,o=m:=⟨o.toNat,by have:=hg.1;omega⟩
  refine (rshape_yes x.r x.g x.n x.o g n m a c x.F w (h.read (Kept.refl _ _)) hf hg).mono ?_
  rintro e w' ⟨⟨v,rfl,hv⟩,b⟩
  exact ⟨⟨v,rfl,by rw [Int.toNat_natCast];exact hv.low (fun j _ hs=>hS j hs)⟩,b⟩
 ·rw [if_neg hg,if_neg hg]
  refine (rshape_no x.r x.g x.n x.o o g n a c x.F w hg).mono ?_
  rintro e w' ⟨rfl,b⟩
  exact ⟨⟨_,rfl,xZ_t S w'⟩,b⟩
end
section
variable (x:Fa) (a:Option Addr) (c:Nat) (ah:Option Addr) (nh ch:Nat) (H0:Nat→Int) (t:Tk) (w:World) (S:Nat→Prop) (h:StR S w a c x.F) (hS:∀ j,S j→j<w.heap.size) (hf:Few x.F) (hh:HnR w ah nh H0) (hnh:nh≤1000)
include h hS hf hh hnh
theorem join_st:Calls Try.prog 71 #[.agg #[.int .u64 x.r,.int .i64 x.g,.int .i64 x.n,.int .i64 x.o,.slice a x.F.length c],.slice ah nh ch,.agg #[.int .i64 t.id,.int .i64 t.wid,.int .i64 t.sts,.int .i64 t.sin,.int .i64 t.unt]] w fun e w'=>(∃ v,e=.returned (.tuple #[v,.int .i64 (jnK x (chF x.F x.o H0 nh)),.int .i64 (jnE x (chF x.F x.o H0 nh))])∧FaT S w' (jnX x (chF x.F x.o H0 nh) t) v)∧Below w.heap.size w w':=by
 rcases (chF_is x.F x.o H0 nh).rng with hk | hk
 ·rw [hk]
  refine (fjoin_none x.r x.g x.n x.o a c x.F ah nh ch H0 t w (h.read (Kept.refl _ _)) hf hh hnh hk).mono ?_
  rintro e w' ⟨rfl,b⟩
  exact ⟨⟨_,rfl,xZ_t S w'⟩,b⟩
 ·obtain ⟨k,hk2⟩:∃ k:Nat,chF x.F x.o H0 nh=k:=⟨(chF x.F x.o H0 nh).toNat,by have:=hk.1;omega⟩
  have hkn:k<x.F.length:=by have:=hk.2.2;omega
  have hneg:¬ (k:Int)<0:=by omega
  rw [hk2]
  simp only [jnX,jnK,jnE,if_neg hneg,Int.toNat_natCast]
  by_cases hfull:x.n≤((gl x.F k).L.length:Int)
  ·simp only [if_pos hfull]
   refine (fjoin_full x.r x.g x.n x.o a c x.F ah nh ch H0 t w (h.read (Kept.refl _ _)) hf hh hnh k hkn hk2 hfull).mono ?_
   rintro e w' ⟨rfl,b⟩
   exact ⟨⟨_,rfl,xZ_t S w'⟩,b⟩
  ·simp only [if_neg hfull]
   refine (fjoin_yes x.r x.g x.n x.o a c x.F ah nh ch H0 t w (h.read (Kept.refl _ _)) hf hh hnh k hkn hk2 (by omega)).mono ?_
   rintro e w' ⟨⟨v,rfl,hv⟩,b⟩
   exact ⟨⟨v,rfl,hv.low (fun j _ hs=>hS j hs)⟩,b⟩
theorem rjoin_st:Calls Try.prog 59 #[.agg #[.int .u64 x.r,.int .i64 x.g,.int .i64 x.n,.int .i64 x.o,.slice a x.F.length c],.slice ah nh ch,.agg #[.int .i64 t.id,.int .i64 t.wid,.int .i64 t.sts,.int .i64 t.sin,.int .i64 t.unt]] w fun e w'=>(∃ v,e=.returned (.tuple #[v,.int .i64 (jnK x (chF x.F x.o H0 nh)),.int .i64 (jnE x (chF x.F x.o H0 nh))])∧FaT S w' (jnX x (chF x.F x.o H0 nh) t) v)∧Below w.heap.size w w':=by
 rcases (chF_is x.F x.o H0 nh).rng with hk | hk
 ·rw [hk]
  refine (rfjoin_none x.r x.g x.n x.o a c x.F ah nh ch H0 t w (h.read (Kept.refl _ _)) hf hh hnh hk).mono ?_
  rintro e w' ⟨rfl,b⟩
  exact ⟨⟨_,rfl,xZ_t S w'⟩,b⟩
 ·obtain ⟨k,hk2⟩:∃ k:Nat,chF x.F x.o H0 nh=k:=⟨(chF x.F x.o H0 nh).toNat,by have:=hk.1;omega⟩
  have hkn:k<x.F.length:=by have:=hk.2.2;omega
  have hneg:¬ (k:Int)<0:=by omega
  rw [hk2]
  simp only [jnX,jnK,jnE,if_neg hneg,Int.toNat_natCast]
  by_cases hfull:x.n≤((gl x.F k).L.length:Int)
  ·simp only [if_pos hfull]
   refine (rfjoin_full x.r x.g x.n x.o a c x.F ah nh ch H0 t w (h.read (Kept.refl _ _)) hf hh hnh k hkn hk2 hfull).mono ?_
   rintro e w' ⟨rfl,b⟩
   exact ⟨⟨_,rfl,xZ_t S w'⟩,b⟩
  ·simp only [if_neg hfull]
   refine (rfjoin_yes x.r x.g x.n x.o a c x.F ah nh ch H0 t w (h.read (Kept.refl _ _)) hf hh hnh k hkn hk2 (by omega)).mono ?_
   rintro e w' ⟨⟨v,rfl,hv⟩,b⟩
   exact ⟨⟨v,rfl,hv.low (fun j _ hs=>hS j hs)⟩,b⟩
end
section
variable (x:Fa) (a:Option Addr) (c:Nat) (w:World) (S:Nat→Prop) (h:StR S w a c x.F) (hS:∀ j,S j→j<w.heap.size) (hf:Few x.F)
include h hS hf
theorem take_st:Calls Try.prog 41 #[.agg #[.int .u64 x.r,.int .i64 x.g,.int .i64 x.n,.int .i64 x.o,.slice a x.F.length c]] w fun e w'=>(∃ v,e=.returned (.tuple #[v,.agg #[.int .i64 (tkT x).id,.int .i64 (tkT x).wid,.int .i64 (tkT x).sts,.int .i64 (tkT x).sin,.int .i64 (tkT x).unt],.bool (tkO x)])∧FaT S w' (tkX x) v)∧Below w.heap.size w w':=by
 unfold tkX tkT tkO
 rcases (nxt_is x.F x.g).rng with hk | ⟨k,hk,-,-,-⟩
 ·rw [hk,if_pos (by decide),if_pos (by decide)]
  refine (ftake_none x.r x.g x.n x.o a c x.F w (h.read (Kept.refl _ _)) hf hk).mono ?_
  rintro e w' ⟨⟨v,rfl,hv⟩,b⟩
  exact ⟨⟨v,rfl,hv.low (fun j _ hs=>hS j hs)⟩,b⟩
 ·rw [hk,if_neg (by omega),if_neg (by omega),Int.toNat_natCast,decide_eq_true (by omega)]
  refine (ftake_yes x.r x.g x.n x.o a c x.F w (h.read (Kept.refl _ _)) hf k hk).mono ?_
  rintro e w' ⟨⟨v,rfl,hv⟩,b⟩
  exact ⟨⟨v,rfl,hv.low (fun j _ hs=>hS j hs)⟩,b⟩
theorem rtake_st:Calls Try.prog 63 #[.agg #[.int .u64 x.r,.int .i64 x.g,.int .i64 x.n,.int .i64 x.o,.slice a x.F.length c]] w fun e w'=>(∃ v,e=.returned (.tuple #[v,.agg #[.int .i64 (tkT x).id,.int .i64 (tkT x).wid,.int .i64 (tkT x).sts,.int .i64 (tkT x).sin,.int .i64 (tkT x).unt],.bool (tkO x)])∧FaT S w' (tkX x) v)∧Below w.heap.size w w':=by
 unfold tkX tkT tkO
 rcases (nxt_is x.F x.g).rng with hk | ⟨k,hk,-,-,-⟩
 ·rw [hk,if_pos (by decide),if_pos (by decide)]
  refine (rftake_none x.r x.g x.n x.o a c x.F w (h.read (Kept.refl _ _)) hf hk).mono ?_
  rintro e w' ⟨⟨v,rfl,hv⟩,b⟩
  exact ⟨⟨v,rfl,a,c,hv,h.high b (fun _ _ e=>e)⟩,b⟩
 ·rw [hk,if_neg (by omega),if_neg (by omega),Int.toNat_natCast,decide_eq_true (by omega)]
  refine (rftake_yes x.r x.g x.n x.o a c x.F w (h.read (Kept.refl _ _)) hf k hk).mono ?_
  rintro e w' ⟨⟨v,rfl,hv⟩,b⟩
  exact ⟨⟨v,rfl,hv.low (fun j _ hs=>hS j hs)⟩,b⟩
theorem drop_st (id:Int):Calls Try.prog 48 #[.agg #[.int .u64 x.r,.int .i64 x.g,.int .i64 x.n,.int .i64 x.o,.slice a x.F.length c],.int .i64 id] w fun e w'=>(∃ v,e=.returned (.tuple #[v,.agg #[.int .i64 (dpT x id).id,.int .i64 (dpT x id).wid,.int .i64 (dpT x id).sts,.int .i64 (dpT x id).sin,.int .i64 (dpT x id).unt],.bool (dpO x id)])∧FaT S w' (dpX x id) v)∧Below w.heap.size w w':=by
 unfold dpX dpT dpO
 by_cases hk:dpK x.F id<x.F.length
 ·rw [if_pos hk,if_pos hk,decide_eq_true hk]
  refine (fdrop_yes x.r x.g x.n x.o a c x.F id w (h.read (Kept.refl _ _)) hf (dpK x.F id) hk (fun j hj=>dpK_no hj (by omega)) (dpK_yes hk)).mono ?_
  rintro e w' ⟨⟨v,rfl,hv⟩,b⟩
  exact ⟨⟨v,rfl,hv.low (fun j _ hs=>hS j hs)⟩,b⟩
 ·rw [if_neg hk,if_neg hk,decide_eq_false hk]
  refine (fdrop_none x.r x.g x.n x.o a c x.F id w (h.read (Kept.refl _ _)) hf (fun j hj=>dpK_no (by omega) hj)).mono ?_
  rintro e w' ⟨⟨v,rfl,hv⟩,b⟩
  exact ⟨⟨v,rfl,hv.low (fun j _ hs=>hS j hs)⟩,b⟩
theorem rdrop_st (id:Int):Calls Try.prog 64 #[.agg #[.int .u64 x.r,.int .i64 x.g,.int .i64 x.n,.int .i64 x.o,.slice a x.F.length c],.int .i64 id] w fun e w'=>(∃ v,e=.returned (.tuple #[v,.agg #[.int .i64 (dpT x id).id,.int .i64 (dpT x id).wid,.int .i64 (dpT x id).sts,.int .i64 (dpT x id).sin,.int .i64 (dpT x id).unt],.bool (dpO x id)])∧FaT S w' (dpX x id) v)∧Below w.heap.size w w':=by
 unfold dpX dpT dpO
 by_cases hk:dpK x.F id<x.F.length
 ·rw [if_pos hk,if_pos hk,decide_eq_true hk]
  refine (rfdrop_yes x.r x.g x.n x.o a c x.F id w (h.read (Kept.refl _ _)) hf (dpK x.F id) hk (fun j hj=>dpK_no hj (by omega)) (dpK_yes hk)).mono ?_
  rintro e w' ⟨⟨v,rfl,hv⟩,b⟩
  exact ⟨⟨v,rfl,hv.low (fun j _ hs=>hS j hs)⟩,b⟩
 ·rw [if_neg hk,if_neg hk,decide_eq_false hk]
  refine (rfdrop_none x.r x.g x.n x.o a c x.F id w (h.read (Kept.refl _ _)) hf (fun j hj=>dpK_no (by omega) hj)).mono ?_
  rintro e w' ⟨⟨v,rfl,hv⟩,b⟩
  exact ⟨⟨v,rfl,a,c,hv,h.high b (fun _ _ e=>e)⟩,b⟩
end
section
variable (x:Fa) (a:Option Addr) (c:Nat) (w:World) (S:Nat→Prop) (h:StR S w a c x.F) (hS:∀ j,S j→j<w.heap.size) (hf:Few x.F)
include h hS hf
theorem shut_st:Calls Try.prog 58 #[.agg #[.int .u64 x.r,.int .i64 x.g,.int .i64 x.n,.int .i64 x.o,.slice a x.F.length c]] w fun e w'=>(∃ v,e=.returned v∧FaT S w' (suX x) v)∧Below w.heap.size w w':=by
 refine (shut_ok x.r x.g x.n x.o a c x.F w (h.read (Kept.refl _ _)) hf).mono ?_
 rintro e w' ⟨⟨v,rfl,hv⟩,b⟩
 exact ⟨⟨v,rfl,hv.low (fun j _ hs=>hS j hs)⟩,b⟩
end
end Go.Proofs.Ytlgibnmoogbdcaa

namespace Go.Proofs.Ytlgibnmoogbdcaa
theorem wt_app (F:List Ln) (m:Nat):∀ k,k≤m→wtT (F.take m) k=wtT F k
 | 0,_=>rfl
 | k+1,h=>by
  unfold wtT
  rw [wt_app F m k (by omega),gl_take (by omega)]
theorem st_app (F:List Ln) (m:Nat):∀ k,k≤m→stT (F.take m) k=stT F k
 | 0,_=>rfl
 | k+1,h=>by
  unfold stT
  rw [st_app F m k (by omega),gl_take (by omega)]
theorem sW_nil {l:Ln} (h:l.L=[]):sW l=0:=by
 unfold sW
 rw [h]
 rfl
theorem wt_trN (F:List Ln) (o:Int):∀ n,wtT F (trN F o n)=wtT F n
 | 0=>rfl
 | n+1=>by
  unfold trN
  split
  ·rename_i h
   rw [wt_trN F o n]
   show wtT F n=wtT F n+((gl F n).L.length:Int)
   rw [h.2]
   simp
  ·rfl
theorem st_trN (F:List Ln) (o:Int):∀ n,stT F (trN F o n)=stT F n
 | 0=>rfl
 | n+1=>by
  unfold trN
  split
  ·rename_i h
   rw [st_trN F o n]
   show stT F n=stT F n+sW (gl F n)
   rw [sW_nil h.2]
   simp
  ·rfl
def wtA (F:List Ln):Int:=wtT F F.length
def stA (F:List Ln):Int:=stT F F.length
theorem wt_trm (F:List Ln) (o:Int):wtA (trm F o)=wtA F:=by
 unfold wtA
 rw [trm_len]
 unfold trm
 rw [wt_app F _ _ (Nat.le_refl _),wt_trN]
theorem st_trm (F:List Ln) (o:Int):stA (trm F o)=stA F:=by
 unfold stA
 rw [trm_len]
 unfold trm
 rw [st_app F _ _ (Nat.le_refl _),st_trN]
theorem gl_set2 (F:List Ln) (k j:Nat) (l:Ln):gl (F.set k l) j=if j=k∧k<F.length then l else gl F j:=by
 by_cases e:j=k
 ·subst e
  by_cases h:j<F.length
  ·rw [if_pos ⟨rfl,h⟩,gl_set_same h]
  ·rw [if_neg (fun c=>h c.2),gl_out (by rw [List.length_set];omega),gl_out (by omega)]
 ·rw [if_neg (fun c=>e c.1),gl_set_ne (Ne.symm e)]
theorem wt_set {F:List Ln} {p:Nat} (hp:p<F.length) (l:Ln):∀ n,wtT (F.set p l) n=wtT F n+(if p<n then (l.L.length:Int) - ((gl F p).L.length:Int) else 0)
 | 0=>by rw [if_neg (Nat.not_lt_zero p)];rfl
 | n+1=>by
  have ih:=wt_set hp l n
  show wtT (F.set p l) n+((gl (F.set p l) n).L.length:Int)=wtT F n+((gl F n).L.length:Int)+_
  rw [ih,gl_set2]
  by_cases c:n=p∧p<F.length
  ·obtain ⟨rfl,-⟩:=c
   rw [if_neg (Nat.lt_irrefl n),if_pos (show n=n∧n<F.length from ⟨rfl,hp⟩),if_pos (Nat.lt_succ_self n)]
   omega
  ·rw [if_neg c]
   by_cases d:p<n
   ·rw [if_pos d,if_pos (by omega)]
    omega
   ·rw [if_neg d,if_neg (fun e=>c ⟨by omega,hp⟩)]
    omega
theorem st_set {F:List Ln} {p:Nat} (hp:p<F.length) (l:Ln):∀ n,stT (F.set p l) n=stT F n+(if p<n then sW l - sW (gl F p) else 0)
 | 0=>by rw [if_neg (Nat.not_lt_zero p)];rfl
 | n+1=>by
  have ih:=st_set hp l n
  show stT (F.set p l) n+sW (gl (F.set p l) n)=stT F n+sW (gl F n)+_
  rw [ih,gl_set2]
  by_cases c:n=p∧p<F.length
  ·obtain ⟨rfl,-⟩:=c
   rw [if_neg (Nat.lt_irrefl n),if_pos (show n=n∧n<F.length from ⟨rfl,hp⟩),if_pos (Nat.lt_succ_self n)]
   omega
  ·rw [if_neg c]
   by_cases d:p<n
   ·rw [if_pos d,if_pos (by omega)]
    omega
   ·rw [if_neg d,if_neg (fun e=>c ⟨by omega,hp⟩)]
    omega
theorem seats_cons (t:Tk) (L:List Tk):∀ k,seatsTo (t :: L) (k+1)=clW t.wid+seatsTo L k
 | 0=>by
  show 0+clW (gt (t :: L) 0).wid=clW t.wid+0
  rw [gt_cons_zero]
  omega
 | k+1=>by
  show seatsTo (t :: L) (k+1)+clW (gt (t :: L) (k+1)).wid=clW t.wid+(seatsTo L k+clW (gt L k).wid)
  rw [seats_cons t L k,gt_cons_succ]
  omega
theorem sW_tail {l:Ln} (h:l.L≠[]) (s':Int):sW ⟨s',l.L.tail⟩=sW l - clW (gt l.L 0).wid:=by
 obtain ⟨s,L⟩:=l
 cases L with
 | nil=>exact absurd rfl h
 | cons t L =>
  unfold sW
  show seatsTo L L.length=seatsTo (t :: L) (L.length+1) - clW t.wid
  rw [seats_cons]
  omega
theorem tk_less {x:Fa} {p:Nat} (e:nxt x.F x.g=p) (hp:p<x.F.length) (hne:(gl x.F p).L≠[]) :
  tkT x=gt (gl x.F p).L 0∧tkO x=true∧(tkX x).o=x.o∧(tkX x).F=trm (tkF x.F p x.g) x.o∧(tkX x).F.length≤x.F.length∧wtA (tkX x).F=wtA x.F - 1∧stA (tkX x).F=stA x.F - clW (gt (gl x.F p).L 0).wid:=by
 have e1:tkX x=⟨max x.r (fN x.g (gl x.F p)),x.g,x.n,x.o,trm (tkF x.F p x.g) x.o⟩:=by
  unfold tkX
  rw [e,if_neg (by omega),Int.toNat_natCast]
 refine ⟨by unfold tkT;rw [e,if_neg (by omega),Int.toNat_natCast],by unfold tkO;rw [e];exact decide_eq_true (by omega),by rw [e1],by rw [e1],?_,?_,?_⟩
 ·rw [e1]
  show (trm (tkF x.F p x.g) x.o).length≤_
  rw [trm_len]
  have:=trN_le (tkF x.F p x.g) x.o (tkF x.F p x.g).length
  have h2:(tkF x.F p x.g).length=x.F.length:=List.length_set
  omega
 ·rw [e1]
  show wtA (trm (tkF x.F p x.g) x.o)=_
  rw [wt_trm]
  unfold wtA tkF
  rw [List.length_set,wt_set hp,if_pos hp]
  show _+(((gl x.F p).L.tail.length:Int) - _)=_
  have:=len_pos hne
  rw [List.length_tail]
  omega
 ·rw [e1]
  show stA (trm (tkF x.F p x.g) x.o)=_
  rw [st_trm]
  unfold stA tkF
  rw [List.length_set,st_set hp,if_pos hp,sW_tail hne]
  omega
structure Lv where
 name:ByteArray
 kind:Int
 shares:Int
 lend:Int
 borrow:Int
 queues:Int
 hand:Int
 length:Int
 wait:Int
 guess:Int
structure St where
 lv:Lv
 q:Bool
 lim:Int
 b0:Int
 b1:Int
 b2:Int
 d0:Int
 d1:Int
 x:Fa
 run:List Tk
def rsW (t:Tk):Int:=max 0 (min t.sts 16)
theorem rsW_lo (t:Tk):0≤rsW t:=by unfold rsW;omega
theorem rsW_hi (t:Tk):rsW t≤16:=by unfold rsW;omega
def rnT (L:List Tk):Nat→Int
 | 0=>0
 | k+1=>rnT L k+rsW (gt L k)
def rnA (L:List Tk):Int:=rnT L L.length
theorem rnT_rng (L:List Tk):∀ k:Nat,0≤rnT L k∧rnT L k≤16*(k:Int)
 | 0=>⟨Int.le_refl _,Int.le_refl _⟩
 | k+1=>by
  have h1:=rnT_rng L k
  have h2:=rsW_lo (gt L k)
  have h3:=rsW_hi (gt L k)
  simp only [rnT]
  omega
theorem rnT_cons (t:Tk) (L:List Tk):∀ k,rnT (t :: L) (k+1)=rsW t+rnT L k
 | 0=>by
  show 0+rsW (gt (t :: L) 0)=rsW t+0
  rw [gt_cons_zero]
  omega
 | k+1=>by
  show rnT (t :: L) (k+1)+rsW (gt (t :: L) (k+1))=rsW t+(rnT L k+rsW (gt L k))
  rw [rnT_cons t L k,gt_cons_succ]
  omega
theorem rnA_nil:rnA []=0:=rfl
theorem rnA_cons (t:Tk) (L:List Tk):rnA (t :: L)=rsW t+rnA L:=rnT_cons t L L.length
theorem rnA_app:∀ (L M:List Tk),rnA (L++M)=rnA L+rnA M
 | [],M=>by rw [List.nil_append,rnA_nil];omega
 | t :: L,M=>by rw [List.cons_append,rnA_cons,rnA_cons,rnA_app L M];omega
theorem rnA_one (t:Tk):rnA [t]=rsW t:=by rw [rnA_cons,rnA_nil];omega
theorem cut_at {id:Int} : ∀ (L:List Tk),fnd id L<L.length→L=L.take (fnd id L)++drT id L :: L.drop (fnd id L+1)
 | [],h=>absurd h (Nat.not_lt_zero _)
 | t :: L,h=>by
  unfold drT
  by_cases e:t.id=id
  ·rw [fnd_yes e]
   rfl
  ·rw [fnd_next e] at h ⊢
   have ih:=cut_at L (by simpa using h)
   unfold drT at ih
   show t :: L=t :: (L.take (fnd id L)++gt (t :: L) (fnd id L+1) :: L.drop (fnd id L+1))
   rw [gt_cons_succ,← ih]
theorem rnA_drop {id:Int} {L:List Tk} (h:fnd id L<L.length):rnA (drL id L)=rnA L - rsW (drT id L):=by
 have e:=cut_at L h
 have h2:=congrArg rnA e
 rw [rnA_app,rnA_cons] at h2
 unfold drL
 rw [rnA_app]
 omega
def ftB (s:St) (w:Int):Bool:=if s.lv.kind=1 then true else if s.lim<1 then false else if s.run=[] then true else decide (rnA s.run+clW w≤s.lim)
def ftN (s:St) (w:Int):Int:=if s.lv.kind=1 then clW w else if s.lim<1 then 0 else if s.run=[] then min (clW w) s.lim else if rnA s.run+clW w≤s.lim then clW w else 0
theorem ft_yes {s:St} {w:Int} (h:ftB s w=true):(1≤ftN s w∧ftN s w≤16)∧(s.lv.kind≠1→rnA s.run+ftN s w≤s.lim):=by
 have w1:=clW_lo w
 have w2:=clW_hi w
 unfold ftB at h
 unfold ftN
 by_cases c1:s.lv.kind=1
 ·rw [if_pos c1]
  exact ⟨⟨w1,w2⟩,fun e=>absurd c1 e⟩
 ·rw [if_neg c1] at h ⊢
  by_cases c2:s.lim<1
  ·rw [if_pos c2] at h;cases h
  ·rw [if_neg c2] at h ⊢
   by_cases c3:s.run=[]
   ·rw [if_pos c3,c3,rnA_nil]
    exact ⟨⟨by omega,by omega⟩,fun _=>by omega⟩
   ·rw [if_neg c3] at h ⊢
    have h:=of_decide_eq_true h
    rw [if_pos h]
    exact ⟨⟨w1,w2⟩,fun _=>h⟩
def seated (t:Tk) (n:Int):Tk:=⟨t.id,t.wid,n,t.sin,t.unt⟩
theorem rsW_seated {s:St} {w:Int} (h:ftB s w=true) (t:Tk):rsW (seated t (ftN s w))=ftN s w:=by
 have:=(ft_yes h).1
 unfold rsW seated
 show max 0 (min (ftN s w) 16)=_
 omega
def arE (s:St) (t:Tk) (c:Int):Int:=if s.q=true then 9 else if s.lv.kind=3 then jnE s.x c else if s.lv.kind≠1∧0<wtA s.x.F then 7 else if ftB s t.wid=true then 0 else 7
def arX (s:St) (t:Tk) (c:Int):St:=if s.lv.kind=3 then { s with x:=jnX s.x c (seated t 0) } else { s with run:=s.run ++ [seated t (ftN s t.wid)] }
def dsC (s:St):Bool:=decide (0≤nxt s.x.F s.x.g) && ftB s (tkT s.x).wid
def dsT (s:St):Tk:=seated (tkT s.x) (ftN s (tkT s.x).wid)
def dsX (s:St):St:={ s with x:=tkX s.x,run:=s.run ++ [dsT s] }
def dsR:Nat→St→List Tk→St × List Tk
 | 0,s,L=>(s,L)
 | n+1,s,L=>if dsC s=true then dsR n (dsX s) (L ++ [dsT s]) else (s,L)
def dsN (s:St):Nat:=(wtA s.x.F).toNat
def dsA (s:St):St × List Tk:=dsR (dsN s) s []
theorem dsC_wt {s:St} (h:dsC s=true):wtA (dsX s).x.F=wtA s.x.F - 1∧0<wtA s.x.F:=by
 unfold dsC at h
 rw [Bool.and_eq_true] at h
 have h1:=of_decide_eq_true h.1
 rcases nxt_is s.x.F s.x.g with ⟨e,-⟩ | ⟨p,-,hp,e,hne,-⟩
 ·omega
 ·obtain ⟨-,-,-,-,-,h6,-⟩:=tk_less e hp hne
  refine ⟨h6,?_⟩
  have:=wtT_lo (tkX s.x).F (tkX s.x).F.length
  unfold wtA at h6 ⊢
  omega
theorem dsN_step {s:St} (h:dsC s=true):dsN s=dsN (dsX s)+1:=by
 have:=dsC_wt h
 have h0:=wtT_lo (dsX s).x.F (dsX s).x.F.length
 unfold dsN
 unfold wtA at *
 omega
theorem dsA_step {s:St} (h:dsC s=true) (L:List Tk):dsR (dsN s) s L=dsR (dsN (dsX s)) (dsX s) (L ++ [dsT s]):=by
 rw [dsN_step h]
 exact if_pos h
theorem dsA_stop {s:St} (h:dsC s=false) (L:List Tk):dsR (dsN s) s L=(s,L):=by
 cases e:dsN s with
 | zero=>rfl
 | succ n =>
  unfold dsR
  rw [if_neg (by rw [h];decide)]
theorem dsR_ind {P:St→List Tk→Prop} (hP:∀ s L,P s L→dsC s=true→P (dsX s) (L ++ [dsT s])):∀ n s L,P s L→P (dsR n s L).1 (dsR n s L).2
 | 0,_,_,h=>h
 | n+1,s,L,h=>by
  unfold dsR
  by_cases c:dsC s=true
  ·rw [if_pos c]
   exact dsR_ind hP n _ _ (hP s L h c)
  ·rw [if_neg c]
   exact h
def Hld (s a:St):Prop:=rnA a.run≤a.lim∨rnA a.run≤rnA s.run
theorem Hld.same {s a:St} (h:a.run=s.run):Hld s a:=.inr (by rw [h];exact Int.le_refl _)
theorem Hld.arrive {s:St} {t:Tk} {c:Int} (h:arE s t c=0) (hk:s.lv.kind≠1):Hld s (arX s t c):=by
 unfold arX
 by_cases k3:s.lv.kind=3
 ·rw [if_pos k3];exact Hld.same rfl
 ·rw [if_neg k3]
  unfold arE at h
  by_cases c1:s.q=true
  ·rw [if_pos c1] at h;exact absurd h (by decide)
  ·rw [if_neg c1,if_neg k3] at h
   by_cases c2:s.lv.kind≠1∧0<wtA s.x.F
   ·rw [if_pos c2] at h;exact absurd h (by decide)
   ·rw [if_neg c2] at h
    by_cases c3:ftB s t.wid=true
    ·refine .inl ?_
     show rnA (s.run ++ [seated t (ftN s t.wid)])≤s.lim
     rw [rnA_app,rnA_one,rsW_seated c3]
     exact (ft_yes c3).2 hk
    ·rw [if_neg c3] at h;exact absurd h (by decide)
theorem Hld.dispatch {s:St} (hk:s.lv.kind≠1):Hld s (dsA s).1:=by
 have:=dsR_ind (P:=fun a _=>(a.lv.kind≠1∧a.lim=s.lim)∧(rnA a.run≤s.lim∨rnA a.run≤rnA s.run)) (fun a L h c=>by
  unfold dsC at c
  rw [Bool.and_eq_true] at c
  refine ⟨h.1,.inl ?_⟩
  show rnA (a.run ++ [dsT a])≤s.lim
  unfold dsT
  rw [rnA_app,rnA_one,rsW_seated c.2,← h.1.2]
  exact (ft_yes c.2).2 h.1.1) (dsN s) s [] ⟨⟨hk,rfl⟩,.inr (Int.le_refl _)⟩
 unfold Hld
 rw [show (dsA s).1.lim=s.lim from this.1.2]
 exact this.2
theorem Hld.done {s:St} {id:Int} (h:fnd id s.run<s.run.length):Hld s { s with run:=drL id s.run }:=by
 refine .inr ?_
 show rnA (drL id s.run)≤rnA s.run
 rw [rnA_drop h]
 have:=rsW_lo (drT id s.run)
 omega
def flt (F:List Ln):List Tk:=F.flatMap (·.L)
theorem flt_cons (l:Ln) (F:List Ln):flt (l :: F)=l.L++flt F:=by simp [flt]
theorem flt_app (F G:List Ln):flt (F++G)=flt F++flt G:=by simp [flt]
theorem flt_none {F:List Ln} (h:∀ l∈F,l.L=[]):flt F=[]:=by
 induction F with
 | nil=>rfl
 | cons l F ih=>rw [flt_cons,h l List.mem_cons_self,ih (fun m hm=>h m (List.mem_cons_of_mem _ hm))];rfl
theorem trN_none (F:List Ln) (o:Int):∀ n k,trN F o n≤k→k<n→(gl F k).L=[]
 | 0,_,_,h=>absurd h (Nat.not_lt_zero _)
 | n+1,k,h1,h2=>by
  unfold trN at h1
  split at h1
  ·rename_i c
   rcases Nat.lt_or_eq_of_le (Nat.le_of_lt_succ h2) with d | rfl
   ·exact trN_none F o n k h1 d
   ·exact c.2
  ·omega
theorem flt_trm (F:List Ln) (o:Int):flt (trm F o)=flt F:=by
 have e:=List.take_append_drop (trN F o F.length) F
 have h:flt (F.drop (trN F o F.length))=[]:=flt_none fun l hl=>by
  obtain ⟨j,hj,rfl⟩:=List.mem_iff_getElem.1 hl
  rw [List.length_drop] at hj
  rw [List.getElem_drop]
  have hk:trN F o F.length+j<F.length:=by omega
  have hg:=gl_get hk
  rw [List.getElem?_eq_getElem hk] at hg
  injection hg with hg
  rw [hg]
  exact trN_none F o F.length _ (by omega) hk
 have h2:=congrArg flt e
 rw [flt_app,h,List.append_nil] at h2
 exact h2
theorem flt_set:∀ (F:List Ln) (k:Nat) (l:Ln),k<F.length→(flt (F.set k l)++(gl F k).L).Perm (flt F++l.L)
 | [],k,_,h=>absurd h (Nat.not_lt_zero k)
 | m :: F,0,l,_=>by
  show (flt (l :: F)++m.L).Perm (flt (m :: F)++l.L)
  rw [flt_cons,flt_cons]
  have a:(l.L++flt F++m.L).Perm (m.L++(l.L++flt F)):=List.perm_append_comm
  have b:(m.L++flt F++l.L).Perm (m.L++(l.L++flt F)):=by
   rw [List.append_assoc]
   exact List.Perm.append_left _ List.perm_append_comm
  exact a.trans b.symm
 | m :: F,k+1,l,h=>by
  show (flt (m :: F.set k l)++(gl F k).L).Perm (flt (m :: F)++l.L)
  rw [flt_cons,flt_cons,List.append_assoc,List.append_assoc]
  exact List.Perm.append_left _ (flt_set F k l (by simpa using h))
theorem flt_join {F:List Ln} {k:Nat} (hk:k<F.length) (r:Int) (t:Tk):(flt (jnF F k r t)).Perm (flt F ++ [t]):=by
 have h:=flt_set F k ⟨jnS (gl F k).s r (gl F k).L,(gl F k).L ++ [t]⟩ hk
 have h2:(flt F++((gl F k).L ++ [t])).Perm (flt F ++ [t]++(gl F k).L):=by
  rw [List.append_assoc]
  exact List.Perm.append_left _ List.perm_append_comm
 exact (List.perm_append_right_iff _).1 (h.trans h2)
theorem drL_perm {id:Int} {L:List Tk} (h:fnd id L<L.length):(drT id L :: drL id L).Perm L:=by
 have e:=cut_at L h
 conv=>rhs;rw [e]
 exact List.perm_middle.symm
theorem flt_drop {F:List Ln} {id:Int} (hk:dpK F id<F.length):(drT id (gl F (dpK F id)).L :: flt (F.set (dpK F id) ⟨(gl F (dpK F id)).s,drL id (gl F (dpK F id)).L⟩)).Perm (flt F):=by
 have hb:=dpK_yes hk
 unfold drB at hb
 have hf:fnd id (gl F (dpK F id)).L<(gl F (dpK F id)).L.length:=of_decide_eq_true hb
 have h:=flt_set F (dpK F id) ⟨(gl F (dpK F id)).s,drL id (gl F (dpK F id)).L⟩ hk
 have a:(drT id (gl F (dpK F id)).L :: flt (F.set (dpK F id) ⟨(gl F (dpK F id)).s,drL id (gl F (dpK F id)).L⟩)++drL id (gl F (dpK F id)).L).Perm (flt (F.set (dpK F id) ⟨(gl F (dpK F id)).s,drL id (gl F (dpK F id)).L⟩)++(gl F (dpK F id)).L) :=
  List.perm_middle.symm.trans (List.Perm.append_left _ (drL_perm hf))
 exact (List.perm_append_right_iff _).1 (a.trans h)
theorem flt_len (F:List Ln):((flt F).length:Int)=wtA F:=by
 have key:∀ (G:List Ln),wtT G G.length=((flt G).length:Int):=by
  intro G
  induction G with
  | nil=>rfl
  | cons l G ih =>
   have sh:∀ k,wtT (l :: G) (k+1)=(l.L.length:Int)+wtT G k:=by
    intro k
    induction k with
    | zero=>show 0+((gl (l :: G) 0).L.length:Int)=_+0;rw [gl_cons_zero];omega
    | succ k ihk =>
     show wtT (l :: G) (k+1)+((gl (l :: G) (k+1)).L.length:Int)=_+(wtT G k+((gl G k).L.length:Int))
     rw [ihk,gl_cons_succ]
     omega
   rw [List.length_cons,sh,ih,flt_cons,List.length_append]
   omega
 exact (key F).symm
def allT (s:St):List Tk:=s.run++flt s.x.F
end Go.Proofs.Ytlgibnmoogbdcaa
