/-
  What 'Hands' of the program and of the reference answers.
  What the small functions of the program answer that ask what a byte is, and 'made', 'Name', 'Word'.
  Lists of texts in memory; what 'Same' of the reference, 'slices.Index', 'slices.Contains' and 'unlikeWords' of the program answer.
  The pieces of a text between bytes of one kind.
-/
import Derived.Test.YthkdbphgiobcdaaGreatDoorRows
import Derived.ProofKit
import Derived.OpenShut
import Derived.Below
import Derived.BigQuiet
import Derived.OwnWalk
import Derived.Deep.QuietTactic
import Derived.WalkKit
import Derived.Deep.DeepMust
import Derived.Shelf.Abstract
namespace Go.Proofs.YthkdbphgiobcdaaGreatDoor
open Go.RowKit
def hP (D:Nat):Nat→Nat
 | 0=>1
 | n+1=>hP D n*(D - n)
theorem hP_succ (D n:Nat):hP D (n+1)=hP D n*(D - n):=rfl
theorem hP_le {D:Nat} (h:D≤64):∀ n,hP D n≤64 ^ n:=by
 intro n
 induction n with
 | zero=>simp [hP]
 | succ n ih=>rw [hP_succ,Nat.pow_succ];exact Nat.mul_le_mul ih (by omega)
theorem hP_big {D n:Nat} (h:D≤64) (hn:n≤8):hP D n≤281474976710656 :=
 Nat.le_trans (hP_le h n) (Nat.le_trans (Nat.pow_le_pow_right (by decide) hn) (by decide))
structure HLow (D n:Nat):Prop where
 d0:1≤D
 d1:D≤64
 n0:1≤n
 n1:n≤8
 nd:n≤D
structure HGood (D n:Nat):Prop extends HLow D n where
 few:hP D n≤1099511627776
def refH (deck n:Int):Int :=
 if deck<1∨64<deck∨n<1∨8<n then 1 else if deck<n then 8 else if 1099511627776<hP deck.toNat n.toNat then 10 else 0
theorem hgood_of {deck n:Int} (h:refH deck n=0):∃ D m:Nat,deck=D∧n=m∧HGood D m:=by
 unfold refH at h
 split at h
 ·simp at h
 rename_i h1
 split at h
 ·simp at h
 rename_i h2
 split at h
 ·simp at h
 rename_i h3
 exact ⟨deck.toNat,n.toNat,by omega,by omega,⟨⟨by omega,by omega,by omega,by omega,by omega⟩,by omega⟩⟩
theorem hP_step {D n k:Nat} (h:HLow D n) (hk:k<n):((hP D k:Int)*((D:Int) - (k:Int)))=(hP D (k+1):Nat)∧(0≤(hP D k:Int)*((D:Int) - (k:Int)))∧((hP D k:Int)*((D:Int) - (k:Int))≤281474976710656):=by
 have e:((D:Int) - (k:Int))=((D - k:Nat):Int):=by have:=h.nd;omega
 have e2:((hP D k:Int)*((D:Int) - (k:Int)))=(hP D (k+1):Nat):=by rw [e,hP_succ,Int.natCast_mul]
 have:=hP_big h.d1 (n:=k+1) (by have:=h.n1;omega)
 rw [e2]
 exact ⟨rfl,by omega,by omega⟩
theorem hands_low (D n:Nat) (w:World) (h:HLow D n):Calls Tryz.prog 86 #[.int .i64 D,.int .i64 n] w fun e w' =>
  e=.returned (if 1099511627776<hP D n then .tuple #[.int .u64 0,.int .i64 10] else .tuple #[.int .u64 (hP D n),.int .i64 0])∧w'=w:=by
 have hd0:=h.d0
 have hd1:=h.d1
 have hn0:=h.n0
 have hn1:=h.n1
 have hnd:=h.nd
 go_enter Tryz.func86,Tryz.ntmps86
 go_wp2
 go_loop [6,26] (fun s i=>∃ k:Nat,k≤n∧i=.int .i64 k∧s=.int .u64 (hP D k)) (fun _ i=>n - (intOf i).toNat)
 case atStart=>exact ⟨0,Nat.zero_le _,rfl,rfl⟩
 case round =>
  obtain ⟨k,hk,rfl,rfl⟩:=hrel
  by_cases hlt:k<n
  ·obtain ⟨e1,e2,e3⟩:=hP_step h hlt
   have E:Hid (((hP D k:Int)*((D:Int) - (k:Int)))=(hP D (k+1):Nat)):=e1
   have hp:=hP_big h.d1 (n:=k) (by omega)
   clear e1 h
   go_wp2
   go_round
   case rel=>exact ⟨k+1,by omega,by go_num,by rw [←E.out]⟩
   case measure=>simp [intOf];omega
  ·obtain rfl:k=n:=by omega
   have hp:=hP_big h.d1 (n:=k) (by omega)
   by_cases t:1099511627776<hP D k
   ·have t':(1099511627776:Int)<(hP D k:Int):=by omega
    clear h
    go_wp2
    go_ret2
    exact ⟨rfl,rfl⟩
   ·have t':¬ (1099511627776:Int)<(hP D k:Int):=by omega
    clear h
    go_wp2
    go_ret2
    exact ⟨rfl,rfl⟩
theorem hands_yes (D n:Nat) (w:World) (h:HGood D n):Calls Tryz.prog 86 #[.int .i64 D,.int .i64 n] w fun e w'=>e=.returned (.tuple #[.int .u64 (hP D n),.int .i64 0])∧w'=w:=by
 refine (hands_low D n w h.toHLow).mono ?_
 rintro e w' ⟨rfl,rfl⟩
 have:=h.few
 rw [if_neg (by omega)]
 exact ⟨rfl,rfl⟩
theorem hands_no (deck n:Int) (w:World) (h:(refH deck n == 0)=false):Calls Tryz.prog 86 #[.int .i64 deck,.int .i64 n] w fun e w'=>e=.returned (.tuple #[.int .u64 0,.int .i64 (refH deck n)])∧w'=w:=by
 by_cases t1:deck<1
 ·have e:refH deck n=1:=by simp [refH,t1]
  rw [e];clear e h
  go_enter Tryz.func86,Tryz.ntmps86
  go_wp2
  go_ret2;exact ⟨rfl,rfl⟩
 by_cases t2:64<deck
 ·have e:refH deck n=1:=by simp [refH,t2]
  rw [e];clear e h
  go_enter Tryz.func86,Tryz.ntmps86
  go_wp2
  go_ret2;exact ⟨rfl,rfl⟩
 by_cases t3:n<1
 ·have e:refH deck n=1:=by simp [refH,t3]
  rw [e];clear e h
  go_enter Tryz.func86,Tryz.ntmps86
  go_wp2
  go_ret2;exact ⟨rfl,rfl⟩
 by_cases t4:8<n
 ·have e:refH deck n=1:=by simp [refH,t4]
  rw [e];clear e h
  go_enter Tryz.func86,Tryz.ntmps86
  go_wp2
  go_ret2;exact ⟨rfl,rfl⟩
 by_cases t5:deck<n
 ·have e:refH deck n=8:=by unfold refH;rw [if_neg (by omega),if_pos t5]
  rw [e];clear e h
  go_enter Tryz.func86,Tryz.ntmps86
  go_wp2
  go_ret2;exact ⟨rfl,rfl⟩
 obtain ⟨D,rfl⟩:∃ D:Nat,deck=D:=⟨deck.toNat,by omega⟩
 obtain ⟨m,rfl⟩:∃ m:Nat,n=m:=⟨n.toNat,by omega⟩
 by_cases t6:1099511627776<hP D m
 ·have e:refH D m=10:=by unfold refH;rw [if_neg (by omega),if_neg (by omega),Int.toNat_natCast,Int.toNat_natCast,if_pos t6]
  rw [e]
  refine (hands_low D m w ⟨by omega,by omega,by omega,by omega,by omega⟩).mono ?_
  rintro e w' ⟨rfl,rfl⟩
  rw [if_pos t6]
  exact ⟨rfl,rfl⟩
 ·have e:refH D m=0:=by unfold refH;rw [if_neg (by omega),if_neg (by omega),Int.toNat_natCast,Int.toNat_natCast,if_neg t6]
  rw [e] at h
  cases h
theorem rhands_low (D n:Nat) (w:World) (h:HLow D n):Calls Tryz.prog 64 #[.int .i64 D,.int .i64 n] w fun e w' =>
  e=.returned (if 1099511627776<hP D n then .tuple #[.int .u64 0,.int .i64 10] else .tuple #[.int .u64 (hP D n),.int .i64 0])∧w'=w:=by
 have hd0:=h.d0
 have hd1:=h.d1
 have hn0:=h.n0
 have hn1:=h.n1
 have hnd:=h.nd
 go_enter Tryz.func64,Tryz.ntmps64
 go_wp2
 go_loop [6,7] (fun s i=>∃ k:Nat,k≤n∧i=.int .i64 k∧s=.int .u64 (hP D k)) (fun _ i=>n - (intOf i).toNat)
 case atStart=>exact ⟨0,Nat.zero_le _,rfl,rfl⟩
 case round =>
  obtain ⟨k,hk,rfl,rfl⟩:=hrel
  by_cases hlt:k<n
  ·obtain ⟨e1,e2,e3⟩:=hP_step h hlt
   have E:Hid (((hP D k:Int)*((D:Int) - (k:Int)))=(hP D (k+1):Nat)):=e1
   have hp:=hP_big h.d1 (n:=k) (by omega)
   clear e1 h
   go_wp2
   go_round
   case rel=>exact ⟨k+1,by omega,by go_num,by rw [←E.out]⟩
   case measure=>simp [intOf];omega
  ·obtain rfl:k=n:=by omega
   have hp:=hP_big h.d1 (n:=k) (by omega)
   by_cases t:1099511627776<hP D k
   ·have t':(1099511627776:Int)<(hP D k:Int):=by omega
    clear h
    go_wp2
    go_ret2
    exact ⟨rfl,rfl⟩
   ·have t':¬ (1099511627776:Int)<(hP D k:Int):=by omega
    clear h
    go_wp2
    go_ret2
    exact ⟨rfl,rfl⟩
theorem rhands_yes (D n:Nat) (w:World) (h:HGood D n):Calls Tryz.prog 64 #[.int .i64 D,.int .i64 n] w fun e w'=>e=.returned (.tuple #[.int .u64 (hP D n),.int .i64 0])∧w'=w:=by
 refine (rhands_low D n w h.toHLow).mono ?_
 rintro e w' ⟨rfl,rfl⟩
 have:=h.few
 rw [if_neg (by omega)]
 exact ⟨rfl,rfl⟩
theorem rhands_no (deck n:Int) (w:World) (h:(refH deck n == 0)=false):Calls Tryz.prog 64 #[.int .i64 deck,.int .i64 n] w fun e w'=>e=.returned (.tuple #[.int .u64 0,.int .i64 (refH deck n)])∧w'=w:=by
 by_cases t1:deck<1
 ·have e:refH deck n=1:=by simp [refH,t1]
  rw [e];clear e h
  go_enter Tryz.func64,Tryz.ntmps64
  go_wp2
  go_ret2;exact ⟨rfl,rfl⟩
 by_cases t2:64<deck
 ·have e:refH deck n=1:=by simp [refH,t2]
  rw [e];clear e h
  go_enter Tryz.func64,Tryz.ntmps64
  go_wp2
  go_ret2;exact ⟨rfl,rfl⟩
 by_cases t3:n<1
 ·have e:refH deck n=1:=by simp [refH,t3]
  rw [e];clear e h
  go_enter Tryz.func64,Tryz.ntmps64
  go_wp2
  go_ret2;exact ⟨rfl,rfl⟩
 by_cases t4:8<n
 ·have e:refH deck n=1:=by simp [refH,t4]
  rw [e];clear e h
  go_enter Tryz.func64,Tryz.ntmps64
  go_wp2
  go_ret2;exact ⟨rfl,rfl⟩
 by_cases t5:deck<n
 ·have e:refH deck n=8:=by unfold refH;rw [if_neg (by omega),if_pos t5]
  rw [e];clear e h
  go_enter Tryz.func64,Tryz.ntmps64
  go_wp2
  go_ret2;exact ⟨rfl,rfl⟩
 obtain ⟨D,rfl⟩:∃ D:Nat,deck=D:=⟨deck.toNat,by omega⟩
 obtain ⟨m,rfl⟩:∃ m:Nat,n=m:=⟨n.toNat,by omega⟩
 by_cases t6:1099511627776<hP D m
 ·have e:refH D m=10:=by unfold refH;rw [if_neg (by omega),if_neg (by omega),Int.toNat_natCast,Int.toNat_natCast,if_pos t6]
  rw [e]
  refine (rhands_low D m w ⟨by omega,by omega,by omega,by omega,by omega⟩).mono ?_
  rintro e w' ⟨rfl,rfl⟩
  rw [if_pos t6]
  exact ⟨rfl,rfl⟩
 ·have e:refH D m=0:=by unfold refH;rw [if_neg (by omega),if_neg (by omega),Int.toNat_natCast,Int.toNat_natCast,if_neg t6]
  rw [e] at h
  cases h
structure Hd (p:Prop):Prop where
 out:p
def intOf:Value→Int
 | .int _ n=>n
 | _=>0
def isDigit (n:Int):Bool:=decide (48≤n∧n≤57)
def isSmall (n:Int):Bool:=decide (97≤n∧n≤122)
def isGreat (n:Int):Bool:=decide (65≤n∧n≤90)
def isNameB (n:Int):Bool:=isSmall n || (isDigit n || n == 45)
def isWordB (n:Int):Bool:=(n == 46 || (n == 95 || (n == 58 || (n == 47 || (n == 64 || n == 45))))) || (isSmall n || (isGreat n || isDigit n))
def allB (p:Int→Bool) (s:ByteArray):Bool:=s.data.toList.all fun b=>p (b.toNat:Int)
theorem byte_at (s:ByteArray) (k:Nat) (h:k<s.size):s.data.toList[k]?=some s[k]:=by
 have hl:k<s.data.toList.length:=by rw [Array.length_toList];exact h
 rw [List.getElem?_eq_getElem hl]
 rfl
theorem allB_iff (p:Int→Bool) (s:ByteArray):allB p s=true ↔ ∀ k (h:k<s.size),p (s[k].toNat:Int)=true:=by
 unfold allB
 rw [List.all_eq_true]
 constructor
 ·intro h k hk
  exact h _ (List.mem_of_getElem? (byte_at s k hk))
 ·intro h b hb
  obtain ⟨k,hk,rfl⟩:=List.getElem_of_mem hb
  have hk':k<s.size:=by rw [Array.length_toList] at hk;exact hk
  exact h k hk'
theorem allB_no {p:Int→Bool} {s:ByteArray} (k:Nat) (h:k<s.size) (hp:p (s[k].toNat:Int)=false):allB p s=false:=by
 cases hA:allB p s with
 | false=>rfl
 | true=>have:=(allB_iff p s).1 hA k h;rw [hp] at this;cases this
theorem digit_ok (n:Int) (w:World):Calls Tryz.prog 188 #[.int .u8 n] w fun e w'=>e=.returned (.bool (isDigit n))∧w'=w:=by
 by_cases h1:48≤n <;> by_cases h2:n≤57
 all_goals first | (exfalso;omega) | skip
 all_goals
  go_enter Tryz.func188,Tryz.ntmps188
  go_wp2
  go_ret
  refine ⟨?_,rfl⟩
  simp [isDigit,h1,h2]
theorem small_ok (n:Int) (w:World):Calls Tryz.prog 180 #[.int .u8 n] w fun e w'=>e=.returned (.bool (isSmall n))∧w'=w:=by
 by_cases h1:97≤n <;> by_cases h2:n≤122
 all_goals first | (exfalso;omega) | skip
 all_goals
  go_enter Tryz.func180,Tryz.ntmps180
  go_wp2
  go_ret
  refine ⟨?_,rfl⟩
  simp [isSmall,h1,h2]
theorem great_ok (n:Int) (w:World):Calls Tryz.prog 200 #[.int .u8 n] w fun e w'=>e=.returned (.bool (isGreat n))∧w'=w:=by
 by_cases h1:65≤n <;> by_cases h2:n≤90
 all_goals first | (exfalso;omega) | skip
 all_goals
  go_enter Tryz.func200,Tryz.ntmps200
  go_wp2
  go_ret
  refine ⟨?_,rfl⟩
  simp [isGreat,h1,h2]
theorem nameSign_ok (n:Int) (w:World):Calls Tryz.prog 179 #[.int .u8 n] w fun e w'=>e=.returned (.bool (isNameB n))∧w'=w:=by
 by_cases h3:n=45
 ·subst h3
  have A:=small_ok 45
  have B:=digit_ok 45
  rw [show isSmall 45=false from rfl] at A
  rw [show isDigit 45=false from rfl] at B
  go_enter Tryz.func179,Tryz.ntmps179
  go_wp2_with (first
   | (go_at_call 180;refine (A _).mono ?_;rintro e w' ⟨rfl,hw⟩;obtain rfl:=hw.symm)
   | (go_at_call 188;refine (B _).mono ?_;rintro e w' ⟨rfl,hw⟩;obtain rfl:=hw.symm))
  go_ret
  exact ⟨rfl,rfl⟩
 have A:=small_ok n
 have B:=digit_ok n
 cases h1:isSmall n <;> rw [h1] at A <;> cases h2:isDigit n <;> rw [h2] at B
 all_goals
  go_enter Tryz.func179,Tryz.ntmps179
  go_wp2_with (first
   | (go_at_call 180;refine (A _).mono ?_;rintro e w' ⟨rfl,hw⟩;obtain rfl:=hw.symm)
   | (go_at_call 188;refine (B _).mono ?_;rintro e w' ⟨rfl,hw⟩;obtain rfl:=hw.symm))
  go_ret
  refine ⟨?_,rfl⟩
  have h4:(n == 45)=false:=by simpa using h3
  unfold isNameB
  rw [h1,h2,h4]
  rfl
theorem wordSign_ok (n:Int) (w:World):Calls Tryz.prog 194 #[.int .u8 n] w fun e w'=>e=.returned (.bool (isWordB n))∧w'=w:=by
 have A:=small_ok n
 have B:=digit_ok n
 have C:=great_ok n
 by_cases t1:n=46
 ·subst t1
  go_enter Tryz.func194,Tryz.ntmps194
  go_wp2_with fail
  go_ret;exact ⟨rfl,rfl⟩
 by_cases t2:n=95
 ·subst t2
  go_enter Tryz.func194,Tryz.ntmps194
  go_wp2_with fail
  go_ret;exact ⟨rfl,rfl⟩
 by_cases t3:n=58
 ·subst t3
  go_enter Tryz.func194,Tryz.ntmps194
  go_wp2_with fail
  go_ret;exact ⟨rfl,rfl⟩
 by_cases t4:n=47
 ·subst t4
  go_enter Tryz.func194,Tryz.ntmps194
  go_wp2_with fail
  go_ret;exact ⟨rfl,rfl⟩
 by_cases t5:n=64
 ·subst t5
  go_enter Tryz.func194,Tryz.ntmps194
  go_wp2_with fail
  go_ret;exact ⟨rfl,rfl⟩
 by_cases t6:n=45
 ·subst t6
  go_enter Tryz.func194,Tryz.ntmps194
  go_wp2_with fail
  go_ret;exact ⟨rfl,rfl⟩
 cases h1:isSmall n <;> rw [h1] at A <;> cases h2:isGreat n <;> rw [h2] at C <;> cases h3:isDigit n <;> rw [h3] at B
 all_goals
  go_enter Tryz.func194,Tryz.ntmps194
  go_wp2_with (first
   | (go_at_call 180;refine (A _).mono ?_;rintro e w' ⟨rfl,hw⟩;obtain rfl:=hw.symm)
   | (go_at_call 188;refine (B _).mono ?_;rintro e w' ⟨rfl,hw⟩;obtain rfl:=hw.symm)
   | (go_at_call 200;refine (C _).mono ?_;rintro e w' ⟨rfl,hw⟩;obtain rfl:=hw.symm))
  go_ret
  refine ⟨?_,rfl⟩
  simp [isWordB,h1,h2,h3,t1,t2,t3,t4,t5,t6]
def Asks (g:Nat) (p:Int→Bool):Prop :=
 (∀ args w,(callFunc g args).run Tryz.prog w=.ok (.enter g args) w)∧∀ (n:Int) (w:World),Calls Tryz.prog g #[.int .u8 n] w fun e w'=>e=.returned (.bool (p n))∧w'=w
theorem made_ok (g:Nat) (p:Int→Bool) (hg:Asks g p) (s:ByteArray) (hs:s.size≤9223372036854775807) (w:World) :
  Calls Tryz.prog 178 #[.string s,.func (.func g) #[] #[]] w fun e w'=>e=.returned (.bool (allB p s && !s.toList.isEmpty))∧w'=w:=by
 obtain ⟨eg,H⟩:=hg
 go_enter Tryz.func178,Tryz.ntmps178
 go_wp2
 go_loop [8] (fun i=>∃ k:Nat,k≤s.size∧i=.int .i64 k∧∀ j (h:j<s.size),j<k→p (s[j].toNat:Int)=true) (fun i=>s.size - (intOf i).toNat)
 case atStart=>exact ⟨0,Nat.zero_le _,rfl,fun j _ h=>absurd h (Nat.not_lt_zero _)⟩
 case round =>
  obtain ⟨k,hk,rfl,hp⟩:=hrel
  by_cases hlt:k<s.size
  ·have C:=H (s[k].toNat:Int)
   cases hpk:p (s[k].toNat:Int) <;> rw [hpk] at C
   ·go_wp2_with (go_at_fn g;refine (C _).mono ?_;rintro e w' ⟨rfl,hw⟩;obtain rfl:=hw.symm)
    go_ret
    exact ⟨by rw [allB_no k hlt hpk];rfl,rfl⟩
   ·go_wp2_with (go_at_fn g;refine (C _).mono ?_;rintro e w' ⟨rfl,hw⟩;obtain rfl:=hw.symm)
    go_round
    case rel =>
     refine ⟨k+1,by omega,by go_num,fun j h hj=>?_⟩
     by_cases e:j=k
     ·subst e;exact hpk
     ·exact hp j h (by omega)
    case measure=>simp [intOf];omega
  ·obtain rfl:k=s.size:=by omega
   have hA:allB p s=true:=(allB_iff p s).2 fun j h=>hp j h h
   go_wp2
   go_ret
   exact ⟨rfl,rfl⟩
theorem empty_eq (s:ByteArray):s.toList.isEmpty=decide (s.size=0):=by
 rw [ByteArray.toList_eq]
 have:s.size=s.data.toList.length:=Array.length_toList.symm
 rw [this]
 cases s.data.toList <;> simp
def isWord (s:ByteArray):Bool:=decide (s.size≤64) && (allB isWordB s && (!decide (s.size=0) && !(s.toList == [45])))
def isName (s:ByteArray):Bool:=decide (s.size≤32) && (allB isNameB s && (if h:0<s.size then isSmall (s[0].toNat:Int) else false))
theorem ask_name:Asks 179 isNameB:=⟨enters_of Tryz.func179 (by kernel_rfl) rfl,nameSign_ok⟩
theorem ask_word:Asks 194 isWordB:=⟨enters_of Tryz.func194 (by kernel_rfl) rfl,wordSign_ok⟩
theorem word_ok (s:ByteArray) (hs:s.size≤9223372036854775807) (w:World) :
  Calls Tryz.prog 184 #[.string s] w fun e w'=>e=.returned (.bool (isWord s))∧w'=w:=by
 have M:=made_ok 194 _ ask_word s hs
 rw [empty_eq] at M
 by_cases h1:s.size≤64
 ·have d1:decide (s.size≤64)=true:=by simpa using h1
  cases h2:(allB isWordB s && !decide (s.size=0)) <;> rw [h2] at M
  all_goals
   go_enter Tryz.func184,Tryz.ntmps184
   go_wp2_with (go_at_call 178;refine (M _).mono ?_;rintro e w' ⟨rfl,hw⟩;obtain rfl:=hw.symm)
   go_ret
   refine ⟨?_,rfl⟩
   unfold isWord
   rw [←Bool.and_assoc (allB isWordB s),h2,d1]
   rfl
 ·have d1:decide (s.size≤64)=false:=by simpa using h1
  go_enter Tryz.func184,Tryz.ntmps184
  go_wp2_with fail
  go_ret
  refine ⟨?_,rfl⟩
  unfold isWord
  rw [d1]
  rfl
theorem name_ok (s:ByteArray) (hs:s.size≤9223372036854775807) (w:World) :
  Calls Tryz.prog 161 #[.string s] w fun e w'=>e=.returned (.bool (isName s))∧w'=w:=by
 have M:=made_ok 179 _ ask_name s hs
 rw [empty_eq] at M
 by_cases h1:s.size≤32
 ·have d1:decide (s.size≤32)=true:=by simpa using h1
  by_cases h3:s.size=0
  ·have d3:decide (s.size=0)=true:=by simpa using h3
   rw [d3,Bool.not_true,Bool.and_false] at M
   go_enter Tryz.func161,Tryz.ntmps161
   go_wp2_with (go_at_call 178;refine (M _).mono ?_;rintro e w' ⟨rfl,hw⟩;obtain rfl:=hw.symm)
   go_ret
   refine ⟨?_,rfl⟩
   unfold isName
   rw [dif_neg (by omega),Bool.and_false,Bool.and_false]
   rfl
  ·have d3:decide (s.size=0)=false:=by simpa using h3
   rw [d3,Bool.not_false,Bool.and_true] at M
   have h0:0<s.size:=by omega
   have S:=small_ok (s[0].toNat:Int)
   cases h2:allB isNameB s <;> rw [h2] at M
   ·go_enter Tryz.func161,Tryz.ntmps161
    go_wp2_with (go_at_call 178;refine (M _).mono ?_;rintro e w' ⟨rfl,hw⟩;obtain rfl:=hw.symm)
    go_ret
    refine ⟨?_,rfl⟩
    unfold isName
    rw [h2,Bool.false_and,Bool.and_false]
    rfl
   ·go_enter Tryz.func161,Tryz.ntmps161
    go_wp2_with (first
     | (go_at_call 178;refine (M _).mono ?_;rintro e w' ⟨rfl,hw⟩;obtain rfl:=hw.symm)
     | (go_at_call 180;refine (S _).mono ?_;rintro e w' ⟨rfl,hw⟩;obtain rfl:=hw.symm))
    go_ret
    refine ⟨?_,rfl⟩
    unfold isName
    rw [h2,d1,dif_pos h0]
    rfl
 ·have d1:decide (s.size≤32)=false:=by simpa using h1
  go_enter Tryz.func161,Tryz.ntmps161
  go_wp2_with fail
  go_ret
  refine ⟨?_,rfl⟩
  unfold isName
  rw [d1]
  rfl
def gt (L:List ByteArray) (k:Nat):ByteArray:=L.getD k ⟨#[]⟩
theorem gt_eq {L:List ByteArray} {k:Nat} (h:k<L.length):gt L k=L[k]:=by unfold gt;simp [h]
theorem gt_mem {L:List ByteArray} {k:Nat} (h:k<L.length):gt L k∈L:=by rw [gt_eq h];exact List.getElem_mem h
def RowL (w:World) (a:Option Addr) (L:List ByteArray):Prop :=
 0<L.length→∃ b off,a=some ⟨b,off,none⟩∧b<w.heap.size∧∀ k,k<L.length→w.cell? ⟨b,off+k,none⟩=some (.string (gt L k))
theorem RowL.carry {w w':World} {a:Option Addr} {L:List ByteArray} (h:RowL w a L) (g:Below w.heap.size w w'):RowL w' a L:=by
 intro hn
 obtain ⟨b,off,e,hb,hc⟩:=h hn
 exact ⟨b,off,e,Nat.lt_of_lt_of_le hb g.size,fun k hk=>(g.cell (p:=⟨b,off+k,none⟩) hb).trans (hc k hk)⟩
theorem str_ne {x y:ByteArray} (h:x≠y):(x.toList == y.toList)=false:=by
 rw [ByteArray.toList_eq,ByteArray.toList_eq]
 cases hb:(x.data.toList == y.data.toList) with
 | false=>rfl
 | true =>
  have e:=eq_of_beq hb
  exact absurd (ByteArray.ext (Array.toList_inj.1 e)) h
theorem index_no (a:Option Addr) (n c:Nat) (L:List ByteArray) (x:ByteArray) (w:World) (hr:RowL w a L) (hn:n≤L.length) (hm:n≤64) (h:∀ j,j<n→gt L j≠x) :
  Calls Tryz.prog 189 #[.slice a n c,.string x] w fun e w'=>e=.returned (.int .i64 (-1))∧w'=w:=by
 have H:Hd (∀ j,j<n→gt L j≠x):=⟨h⟩
 clear h
 go_enter Tryz.func189,Tryz.ntmps189
 go_wp2
 go_loop [8] (fun i=>∃ k:Nat,k≤n∧i=.int .i64 k) (fun i=>n - (intOf i).toNat)
 case atStart=>exact ⟨0,Nat.zero_le _,rfl⟩
 case round =>
  obtain ⟨k,hk,rfl⟩:=hrel
  by_cases hlt:k<n
  ·obtain ⟨b,off,rfl,hb,hc⟩:=hr (by omega)
   have hcell:=hc k (by omega)
   have ne:=str_ne (Ne.symm (H.out k hlt))
   clear hc hr H
   generalize gt L k=y at *
   go_wp2
   go_round
   case rel=>exact ⟨k+1,by omega,by go_num⟩
   case measure=>simp [intOf];omega
  ·obtain rfl:k=n:=by omega
   clear hr H
   go_wp2
   go_ret
   exact ⟨rfl,rfl⟩
theorem index_yes (a:Option Addr) (n c:Nat) (L:List ByteArray) (x:ByteArray) (w:World) (hr:RowL w a L) (hn:n≤L.length) (hm:n≤64) (h:∃ j,j<n∧gt L j=x) :
  Calls Tryz.prog 189 #[.slice a n c,.string x] w fun e w'=>(∃ j:Nat,e=.returned (.int .i64 j))∧w'=w:=by
 have H:Hd (∃ j,j<n∧gt L j=x):=⟨h⟩
 clear h
 go_enter Tryz.func189,Tryz.ntmps189
 go_wp2
 go_loop [8] (fun i=>∃ k:Nat,k≤n∧i=.int .i64 k∧Hd (∀ j,j<k→gt L j≠x)) (fun i=>n - (intOf i).toNat)
 case atStart=>exact ⟨0,Nat.zero_le _,rfl,⟨fun j h=>absurd h (Nat.not_lt_zero _)⟩⟩
 case round =>
  obtain ⟨k,hk,rfl,hK⟩:=hrel
  by_cases hlt:k<n
  ·obtain ⟨b,off,rfl,hb,hc⟩:=hr (by omega)
   have hcell:=hc k (by omega)
   by_cases e:x=gt L k
   ·rw [←e] at hcell
    clear hc hr H hK e
    go_wp2
    go_ret
    exact ⟨⟨k,rfl⟩,rfl⟩
   ·have ne:=str_ne e
    have hK':Hd (∀ j,j<k+1→gt L j≠x):=⟨fun j hj=>by
     by_cases ej:j=k
     ·subst ej;exact Ne.symm e
     ·exact hK.out j (by omega)⟩
    clear hc hr H hK e
    go_wp2
    go_round
    case rel=>exact ⟨k+1,by omega,by go_num,hK'⟩
    case measure=>simp [intOf];omega
  ·obtain ⟨j,hj,e⟩:=H.out
   exact absurd e (hK.out j (by omega))
theorem contains_no (a:Option Addr) (n c:Nat) (L:List ByteArray) (x:ByteArray) (w:World) (hr:RowL w a L) (hn:n≤L.length) (hm:n≤64) (h:∀ j,j<n→gt L j≠x) :
  Calls Tryz.prog 181 #[.slice a n c,.string x] w fun e w'=>e=.returned (.bool false)∧w'=w:=by
 have I:=index_no a n c L x w hr hn hm h
 clear h
 go_enter Tryz.func181,Tryz.ntmps181
 go_wp2_with (go_at_call 189;refine I.mono ?_;rintro e w' ⟨rfl,hw⟩;obtain rfl:=hw.symm)
 go_ret
 exact ⟨rfl,rfl⟩
theorem contains_yes (a:Option Addr) (n c:Nat) (L:List ByteArray) (x:ByteArray) (w:World) (hr:RowL w a L) (hn:n≤L.length) (hm:n≤64) (h:∃ j,j<n∧gt L j=x) :
  Calls Tryz.prog 181 #[.slice a n c,.string x] w fun e w'=>e=.returned (.bool true)∧w'=w:=by
 have I:=index_yes a n c L x w hr hn hm h
 clear h
 go_enter Tryz.func181,Tryz.ntmps181
 go_wp2_with (go_at_call 189;refine I.mono ?_;rintro e w' ⟨⟨j,rfl⟩,hw⟩;obtain rfl:=hw.symm)
 go_ret
 exact ⟨by simp,rfl⟩
def Unl (L:List ByteArray) (n:Nat):Prop:=∀ i,i<n→isWord (gt L i)=true∧∀ j,j<i→gt L j≠gt L i
def Good (L:List ByteArray):Prop:=L.length≤8∧Unl L L.length
def good (L:List ByteArray):Bool:=decide (L.length≤8) && (List.range L.length).all fun i=>isWord (gt L i) && (List.range i).all fun j=>decide (gt L j≠gt L i)
theorem good_iff {L:List ByteArray} : good L=true ↔ Good L:=by
 unfold good Good Unl
 simp only [Bool.and_eq_true,decide_eq_true_eq,List.all_eq_true,List.mem_range]
theorem good_yes {L:List ByteArray} (h:Good L):good L=true:=good_iff.2 h
theorem good_no {L:List ByteArray} (h:¬ Good L):good L=false:=by
 cases hg:good L with
 | false=>rfl
 | true=>exact absurd (good_iff.1 hg) h
def Short (L:List ByteArray):Prop:=∀ k,k<L.length→(gt L k).size≤9223372036854775807
theorem unlike_ok (a:Option Addr) (c:Nat) (L:List ByteArray) (w:World) (hr:RowL w a L) (hs:Short L) (hc:L.length≤c) (hn:L.length≤9223372036854775807) :
  Calls Tryz.prog 171 #[.slice a L.length c] w fun e w'=>e=.returned (.bool (good L))∧w'=w:=by
 obtain ⟨n,hL⟩:∃ n,L.length=n:=⟨_,rfl⟩
 by_cases h8:n≤8
 ·have HG:Hd (Good L ↔ Unl L n):=⟨by unfold Good;rw [hL];exact ⟨fun h=>h.2,fun h=>⟨h8,h⟩⟩⟩
  have HS:Hd (∀ k,k<n→(gt L k).size≤9223372036854775807):=⟨by rw [←hL];exact hs⟩
  have HL:Hd (L.length=n):=⟨hL⟩
  rw [hL] at hc hn ⊢
  clear hs hL
  go_enter Tryz.func171,Tryz.ntmps171
  go_wp2
  go_loop [10] (fun i=>∃ k:Nat,k≤n∧i=.int .i64 k∧Hd (Unl L k)) (fun i=>n - (intOf i).toNat)
  case atStart=>exact ⟨0,Nat.zero_le _,rfl,⟨fun i h=>absurd h (Nat.not_lt_zero _)⟩⟩
  case round =>
   obtain ⟨k,hk,rfl,hU⟩:=hrel
   by_cases hlt:k<n
   ·have hlt':k<L.length:=by rw [HL.out];exact hlt
    have hr2:=hr
    obtain ⟨b,off,rfl,hb,hcs⟩:=hr (by omega)
    have hcell:=hcs k hlt'
    have W:=word_ok (gt L k) (HS.out k hlt)
    have CN:=contains_no (some ⟨b,off,none⟩) k c L (gt L k) w hr2 (by omega) (by omega)
    have CY:=contains_yes (some ⟨b,off,none⟩) k c L (gt L k) w hr2 (by omega) (by omega)
    clear hr hr2 hcs
    cases hw:isWord (gt L k) with
    | false =>
     have no:good L=false:=good_no fun h=>by
      have:=(HG.out.1 h k hlt).1
      rw [hw] at this
      cases this
     rw [hw] at W
     clear HG HS CN CY hU hw
     generalize gt L k=x at *
     go_wp2_with (first
      | (go_at_call 184;refine (W _).mono ?_;rintro e w' ⟨rfl,hw⟩;obtain rfl:=hw.symm))
     go_ret
     exact ⟨by rw [no];rfl,rfl⟩
    | true =>
     rw [hw] at W
     by_cases hd:∃ j,j<k∧gt L j=gt L k
     ·have C:=CY hd
      have no:good L=false:=good_no fun h=>by
       obtain ⟨j,hj,e⟩:=hd
       exact (HG.out.1 h k hlt).2 j hj e
      clear HG HS CN CY hU hw hd
      generalize gt L k=x at *
      go_wp2_with (first
       | (go_at_call 184;refine (W _).mono ?_;rintro e w' ⟨rfl,hw⟩;obtain rfl:=hw.symm)
       | (go_at_call 181;refine C.mono ?_;rintro e w' ⟨rfl,hw⟩;obtain rfl:=hw.symm))
      go_ret
      exact ⟨by rw [no];rfl,rfl⟩
     ·have hd':∀ j,j<k→gt L j≠gt L k:=fun j hj e=>hd ⟨j,hj,e⟩
      have C:=CN hd'
      have hU':Hd (Unl L (k+1)):=⟨fun i hi=>by
       by_cases ei:i=k
       ·subst ei;exact ⟨hw,hd'⟩
       ·exact hU.out i (by omega)⟩
      clear HG HS CN CY hU hw hd hd'
      generalize gt L k=x at *
      go_wp2_with (first
       | (go_at_call 184;refine (W _).mono ?_;rintro e w' ⟨rfl,hw⟩;obtain rfl:=hw.symm)
       | (go_at_call 181;refine C.mono ?_;rintro e w' ⟨rfl,hw⟩;obtain rfl:=hw.symm))
      go_round
      case rel=>exact ⟨k+1,by omega,by go_num,hU'⟩
      case measure=>simp [intOf];omega
   ·obtain rfl:k=n:=by omega
    have yes:good L=true:=good_yes (HG.out.2 hU.out)
    clear hr HG HS hU
    go_wp2
    go_ret
    exact ⟨rfl,rfl⟩
 ·have no:good L=false:=good_no fun h=>h8 (by rw [←hL];exact h.1)
  have h8':(n:Int) > 8:=by omega
  rw [no,hL]
  rw [hL] at hn
  clear hr hs
  go_enter Tryz.func171,Tryz.ntmps171
  go_wp2
  go_ret
  exact ⟨rfl,rfl⟩
end Go.Proofs.YthkdbphgiobcdaaGreatDoor

namespace Go.Proofs.YthkdbphgiobcdaaGreatDoor
def cutL (c:UInt8):List UInt8→List (List UInt8)
 | []=>[[]]
 | b :: l=>if b=c then [] :: cutL c l else (b :: (cutL c l).headD []) :: (cutL c l).tail
theorem cutL_ne (c:UInt8):∀ l,cutL c l≠[]
 | []=>by simp [cutL]
 | b :: l=>by unfold cutL;split <;> simp
theorem cutL_plain (c:UInt8):∀ l,c ∉ l→cutL c l=[l]
 | [],_=>rfl
 | b :: l,h=>by
  have h1:¬ b=c:=fun e=>h (by rw [e];exact List.mem_cons_self ..)
  have h2:c ∉ l:=fun e=>h (List.mem_cons_of_mem _ e)
  unfold cutL
  rw [if_neg h1,cutL_plain c l h2]
  rfl
theorem cutL_at (c:UInt8):∀ (p r:List UInt8),c ∉ p→cutL c (p++c :: r)=p :: cutL c r
 | [],r,_=>by rw [List.nil_append,cutL,if_pos rfl]
 | b :: p,r,h=>by
  have h1:¬ b=c:=fun e=>h (by rw [e];exact List.mem_cons_self ..)
  have h2:c ∉ p:=fun e=>h (List.mem_cons_of_mem _ e)
  rw [List.cons_append,cutL,if_neg h1,cutL_at c p r h2]
  rfl
theorem cutL_length (c:UInt8):∀ l,(cutL c l).length=l.count c+1
 | []=>rfl
 | b :: l=>by
  have ih:=cutL_length c l
  unfold cutL
  by_cases h:b=c
  ·subst h
   rw [if_pos rfl,List.length_cons,ih,List.count_cons_self]
  ·rw [if_neg h,List.length_cons,List.length_tail,ih,List.count_cons_of_ne h]
   rfl
def mk (l:List UInt8):ByteArray:=⟨l.toArray⟩
theorem mk_list (l:List UInt8):(mk l).data.toList=l:=by simp [mk]
theorem mk_of (s:ByteArray):mk s.data.toList=s:=by unfold mk;simp
theorem list_inj {a b:ByteArray} (h:a.data.toList=b.data.toList):a=b:=by rw [←mk_of a,h,mk_of]
def cutB (c:UInt8) (s:ByteArray):List ByteArray:=(cutL c s.data.toList).map mk
theorem cutB_len (c:UInt8) (s:ByteArray):(cutB c s).length=s.data.toList.count c+1:=by unfold cutB;rw [List.length_map,cutL_length]
def neL (l:List UInt8):Bool:=!l.isEmpty
def wordsL (l:List UInt8):List (List UInt8):=(cutL 32 l).filter neL
def wordsB (s:ByteArray):List ByteArray:=(wordsL s.data.toList).map mk
theorem wordsL_at (p r:List UInt8) (h:(32:UInt8) ∉ p) (hp:p≠[]):wordsL (p++32 :: r)=p :: wordsL r:=by
 unfold wordsL
 rw [cutL_at 32 p r h,List.filter_cons,if_pos (by unfold neL;cases p with | nil=>exact absurd rfl hp | cons _ _=>rfl)]
theorem size_list (s:ByteArray):s.data.toList.length=s.size:=Array.length_toList
end Go.Proofs.YthkdbphgiobcdaaGreatDoor
