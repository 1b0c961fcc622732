/-
  The reference of layers 8 and 10 (RefE).
  The reference of layers 8 and 10 (RefF).
  The reference of layers 8 and 10 (RefG).
-/
import Derived.Test.YthkdbphgiobcdaaGreatDoorE30
namespace Go.Proofs.YthkdbphgiobcdaaGreatDoor
open Go.RowKit Go.Lib
theorem rdigit_ok (n:Int) (w:World):Calls Tryz.prog 186 #[.int .u8 n] w fun e w'=>e=.returned (.bool (isDigit n))∧w'=w:=by
 by_cases h1:48≤n <;> by_cases h2:n≤57
 all_goals first | (exfalso;omega) | skip
 all_goals
  go_enter Tryz.func186,Tryz.ntmps186
  go_wp2
  go_ret
  refine ⟨?_,rfl⟩
  simp [isDigit,h1,h2]
theorem rsmall_ok (n:Int) (w:World):Calls Tryz.prog 185 #[.int .u8 n] w fun e w'=>e=.returned (.bool (isSmall n))∧w'=w:=by
 by_cases h1:97≤n <;> by_cases h2:n≤122
 all_goals first | (exfalso;omega) | skip
 all_goals
  go_enter Tryz.func185,Tryz.ntmps185
  go_wp2
  go_ret
  refine ⟨?_,rfl⟩
  simp [isSmall,h1,h2]
theorem rgreat_ok (n:Int) (w:World):Calls Tryz.prog 195 #[.int .u8 n] w fun e w'=>e=.returned (.bool (isGreat n))∧w'=w:=by
 by_cases h1:65≤n <;> by_cases h2:n≤90
 all_goals first | (exfalso;omega) | skip
 all_goals
  go_enter Tryz.func195,Tryz.ntmps195
  go_wp2
  go_ret
  refine ⟨?_,rfl⟩
  simp [isGreat,h1,h2]
theorem wordB_no {n:Int} (h:isWordB n=false):isSmall n=false∧isGreat n=false∧isDigit n=false∧(n != 46)=true∧(n != 95)=true∧(n != 58)=true∧(n != 47)=true∧(n != 64)=true∧(n != 45)=true:=by
 unfold isWordB at h
 simp only [Bool.or_eq_false_iff] at h
 obtain ⟨⟨a,b,c,d,e,f⟩,g,h,i⟩:=h
 refine ⟨g,h,i,?_,?_,?_,?_,?_,?_⟩ <;> unfold bne
 ·rw [a];rfl
 ·rw [b];rfl
 ·rw [c];rfl
 ·rw [d];rfl
 ·rw [e];rfl
 ·rw [f];rfl
theorem wordB_yes {n:Int} (h:isWordB n=true):isSmall n=true∨(isSmall n=false∧isGreat n=true)∨(isSmall n=false∧isGreat n=false∧isDigit n=true) ∨
  (isSmall n=false∧isGreat n=false∧isDigit n=false∧((n != 46)=false∨((n != 46)=true∧(n != 95)=false)∨((n != 46)=true∧(n != 95)=true∧(n != 58)=false)∨((n != 46)=true∧(n != 95)=true∧(n != 58)=true∧(n != 47)=false) ∨
   ((n != 46)=true∧(n != 95)=true∧(n != 58)=true∧(n != 47)=true∧(n != 64)=false)∨((n != 46)=true∧(n != 95)=true∧(n != 58)=true∧(n != 47)=true∧(n != 64)=true∧(n != 45)=false))):=by
 unfold isWordB at h
 unfold bne
 revert h
 cases isSmall n <;> cases isGreat n <;> cases isDigit n <;> cases (n == 46) <;> cases (n == 95) <;> cases (n == 58) <;> cases (n == 47) <;> cases (n == 64) <;> cases (n == 45) <;> simp
set_option maxRecDepth 20000 in
theorem rword_ok (s:ByteArray) (hs:s.size≤9223372036854775807) (w:World) :
  Calls Tryz.prog 187 #[.string s] w fun e w'=>e=.returned (.bool (isWord s))∧w'=w:=by
 have RF:Hd (∀ k (h:k<s.size),isWordB (s[k].toNat:Int)=false→isWord s=false):=⟨fun k h hb=>by
  unfold isWord
  rw [allB_no k h hb]
  simp⟩
 have RT:Hd ((∀ k (h:k<s.size),isWordB (s[k].toNat:Int)=true)→isWord s=(decide (s.size≤64) && (!decide (s.size=0) && !(s.toList == [45])))):=⟨fun h=>by
  unfold isWord
  rw [(allB_iff _ _).2 h,Bool.true_and]⟩
 go_enter Tryz.func187,Tryz.ntmps187
 go_wp2_with fail
 go_loop [3] (fun i=>∃ k:Nat,k≤s.size∧i=.int .i64 k∧Hd (∀ j (h:j<s.size),j<k→isWordB (s[j].toNat:Int)=true)) (fun i=>s.size - (intOf i).toNat)
 case atStart=>exact ⟨0,Nat.zero_le _,rfl,⟨fun j _ h=>absurd h (Nat.not_lt_zero _)⟩⟩
 case round =>
  obtain ⟨k,hk,rfl,hp⟩:=hrel
  by_cases hlt:k<s.size
  ·have A:=rsmall_ok (s[k].toNat:Int)
   have B:=rdigit_ok (s[k].toNat:Int)
   have C:=rgreat_ok (s[k].toNat:Int)
   cases hW:isWordB (s[k].toNat:Int) with
   | false =>
    obtain ⟨h1,h2,h3,h4,h5,h6,h7,h8,h9⟩:=wordB_no hW
    rw [h1] at A
    rw [h2] at C
    rw [h3] at B
    have R:Hd (isWord s=false):=⟨RF.out k hlt hW⟩
    clear RF RT hp hW h1 h2 h3
    go_wp2_with (first
     | (go_at_call 185;refine (A _).mono ?_;rintro e w' ⟨rfl,hw⟩;obtain rfl:=hw.symm)
     | (go_at_call 195;refine (C _).mono ?_;rintro e w' ⟨rfl,hw⟩;obtain rfl:=hw.symm)
     | (go_at_call 186;refine (B _).mono ?_;rintro e w' ⟨rfl,hw⟩;obtain rfl:=hw.symm))
    go_ret
    exact ⟨by rw [R.out];rfl,rfl⟩
   | true =>
    have cases':=wordB_yes hW
    clear RF RT
    rcases cases' with h1 | ⟨h1,h2⟩ | ⟨h1,h2,h3⟩ | ⟨h1,h2,h3,h4 | ⟨h4,h5⟩ | ⟨h4,h5,h6⟩ | ⟨h4,h5,h6,h7⟩ | ⟨h4,h5,h6,h7,h8⟩ | ⟨h4,h5,h6,h7,h8,h9⟩⟩
    ·have HW:Hd (isWordB (s[k].toNat:Int)=true):=⟨hW⟩
     rw [h1] at A
     clear hW h1
     go_wp2_with (first | (go_at_call 185;refine (A _).mono ?_;rintro e w' ⟨rfl,hw⟩;obtain rfl:=hw.symm) | (go_at_call 195;refine (C _).mono ?_;rintro e w' ⟨rfl,hw⟩;obtain rfl:=hw.symm) | (go_at_call 186;refine (B _).mono ?_;rintro e w' ⟨rfl,hw⟩;obtain rfl:=hw.symm))
     go_round
     case rel =>
      refine ⟨k+1,by omega,by go_num,⟨fun j h hj=>?_⟩⟩
      by_cases e:j=k
      ·subst e;exact HW.out
      ·exact hp.out j h (by omega)
     case measure=>simp [intOf];omega
    ·have HW:Hd (isWordB (s[k].toNat:Int)=true):=⟨hW⟩
     rw [h1] at A
     rw [h2] at C
     clear hW h1 h2
     go_wp2_with (first | (go_at_call 185;refine (A _).mono ?_;rintro e w' ⟨rfl,hw⟩;obtain rfl:=hw.symm) | (go_at_call 195;refine (C _).mono ?_;rintro e w' ⟨rfl,hw⟩;obtain rfl:=hw.symm) | (go_at_call 186;refine (B _).mono ?_;rintro e w' ⟨rfl,hw⟩;obtain rfl:=hw.symm))
     go_round
     case rel =>
      refine ⟨k+1,by omega,by go_num,⟨fun j h hj=>?_⟩⟩
      by_cases e:j=k
      ·subst e;exact HW.out
      ·exact hp.out j h (by omega)
     case measure=>simp [intOf];omega
    ·have HW:Hd (isWordB (s[k].toNat:Int)=true):=⟨hW⟩
     rw [h1] at A
     rw [h2] at C
     rw [h3] at B
     clear hW h1 h2 h3
     go_wp2_with (first | (go_at_call 185;refine (A _).mono ?_;rintro e w' ⟨rfl,hw⟩;obtain rfl:=hw.symm) | (go_at_call 195;refine (C _).mono ?_;rintro e w' ⟨rfl,hw⟩;obtain rfl:=hw.symm) | (go_at_call 186;refine (B _).mono ?_;rintro e w' ⟨rfl,hw⟩;obtain rfl:=hw.symm))
     go_round
     case rel =>
      refine ⟨k+1,by omega,by go_num,⟨fun j h hj=>?_⟩⟩
      by_cases e:j=k
      ·subst e;exact HW.out
      ·exact hp.out j h (by omega)
     case measure=>simp [intOf];omega
    ·have HW:Hd (isWordB (s[k].toNat:Int)=true):=⟨hW⟩
     rw [h1] at A
     rw [h2] at C
     rw [h3] at B
     clear hW h1 h2 h3
     go_wp2_with (first | (go_at_call 185;refine (A _).mono ?_;rintro e w' ⟨rfl,hw⟩;obtain rfl:=hw.symm) | (go_at_call 195;refine (C _).mono ?_;rintro e w' ⟨rfl,hw⟩;obtain rfl:=hw.symm) | (go_at_call 186;refine (B _).mono ?_;rintro e w' ⟨rfl,hw⟩;obtain rfl:=hw.symm))
     go_round
     case rel =>
      refine ⟨k+1,by omega,by go_num,⟨fun j h hj=>?_⟩⟩
      by_cases e:j=k
      ·subst e;exact HW.out
      ·exact hp.out j h (by omega)
     case measure=>simp [intOf];omega
    ·have HW:Hd (isWordB (s[k].toNat:Int)=true):=⟨hW⟩
     rw [h1] at A
     rw [h2] at C
     rw [h3] at B
     clear hW h1 h2 h3
     go_wp2_with (first | (go_at_call 185;refine (A _).mono ?_;rintro e w' ⟨rfl,hw⟩;obtain rfl:=hw.symm) | (go_at_call 195;refine (C _).mono ?_;rintro e w' ⟨rfl,hw⟩;obtain rfl:=hw.symm) | (go_at_call 186;refine (B _).mono ?_;rintro e w' ⟨rfl,hw⟩;obtain rfl:=hw.symm))
     go_round
     case rel =>
      refine ⟨k+1,by omega,by go_num,⟨fun j h hj=>?_⟩⟩
      by_cases e:j=k
      ·subst e;exact HW.out
      ·exact hp.out j h (by omega)
     case measure=>simp [intOf];omega
    ·have HW:Hd (isWordB (s[k].toNat:Int)=true):=⟨hW⟩
     rw [h1] at A
     rw [h2] at C
     rw [h3] at B
     clear hW h1 h2 h3
     go_wp2_with (first | (go_at_call 185;refine (A _).mono ?_;rintro e w' ⟨rfl,hw⟩;obtain rfl:=hw.symm) | (go_at_call 195;refine (C _).mono ?_;rintro e w' ⟨rfl,hw⟩;obtain rfl:=hw.symm) | (go_at_call 186;refine (B _).mono ?_;rintro e w' ⟨rfl,hw⟩;obtain rfl:=hw.symm))
     go_round
     case rel =>
      refine ⟨k+1,by omega,by go_num,⟨fun j h hj=>?_⟩⟩
      by_cases e:j=k
      ·subst e;exact HW.out
      ·exact hp.out j h (by omega)
     case measure=>simp [intOf];omega
    ·have HW:Hd (isWordB (s[k].toNat:Int)=true):=⟨hW⟩
     rw [h1] at A
     rw [h2] at C
     rw [h3] at B
     clear hW h1 h2 h3
     go_wp2_with (first | (go_at_call 185;refine (A _).mono ?_;rintro e w' ⟨rfl,hw⟩;obtain rfl:=hw.symm) | (go_at_call 195;refine (C _).mono ?_;rintro e w' ⟨rfl,hw⟩;obtain rfl:=hw.symm) | (go_at_call 186;refine (B _).mono ?_;rintro e w' ⟨rfl,hw⟩;obtain rfl:=hw.symm))
     go_round
     case rel =>
      refine ⟨k+1,by omega,by go_num,⟨fun j h hj=>?_⟩⟩
      by_cases e:j=k
      ·subst e;exact HW.out
      ·exact hp.out j h (by omega)
     case measure=>simp [intOf];omega
    ·have HW:Hd (isWordB (s[k].toNat:Int)=true):=⟨hW⟩
     rw [h1] at A
     rw [h2] at C
     rw [h3] at B
     clear hW h1 h2 h3
     go_wp2_with (first | (go_at_call 185;refine (A _).mono ?_;rintro e w' ⟨rfl,hw⟩;obtain rfl:=hw.symm) | (go_at_call 195;refine (C _).mono ?_;rintro e w' ⟨rfl,hw⟩;obtain rfl:=hw.symm) | (go_at_call 186;refine (B _).mono ?_;rintro e w' ⟨rfl,hw⟩;obtain rfl:=hw.symm))
     go_round
     case rel =>
      refine ⟨k+1,by omega,by go_num,⟨fun j h hj=>?_⟩⟩
      by_cases e:j=k
      ·subst e;exact HW.out
      ·exact hp.out j h (by omega)
     case measure=>simp [intOf];omega
    ·have HW:Hd (isWordB (s[k].toNat:Int)=true):=⟨hW⟩
     rw [h1] at A
     rw [h2] at C
     rw [h3] at B
     clear hW h1 h2 h3
     go_wp2_with (first | (go_at_call 185;refine (A _).mono ?_;rintro e w' ⟨rfl,hw⟩;obtain rfl:=hw.symm) | (go_at_call 195;refine (C _).mono ?_;rintro e w' ⟨rfl,hw⟩;obtain rfl:=hw.symm) | (go_at_call 186;refine (B _).mono ?_;rintro e w' ⟨rfl,hw⟩;obtain rfl:=hw.symm))
     go_round
     case rel =>
      refine ⟨k+1,by omega,by go_num,⟨fun j h hj=>?_⟩⟩
      by_cases e:j=k
      ·subst e;exact HW.out
      ·exact hp.out j h (by omega)
     case measure=>simp [intOf];omega
  ·obtain rfl:k=s.size:=by omega
   have R:Hd (isWord s=(decide (s.size≤64) && (!decide (s.size=0) && !(s.toList == [45])))):=⟨RT.out fun j h=>hp.out j h h⟩
   clear RF RT hp
   by_cases z1:s.size=0
   ·have d1:decide (s.size=0)=true:=by simpa using z1
    go_wp2_with fail
    go_ret
    exact ⟨by rw [R.out,d1];simp,rfl⟩
   ·have d1:decide (s.size=0)=false:=by simpa using z1
    have z1':1≤s.size:=by omega
    by_cases z2:s.size≤64
    ·have d2:decide (s.size≤64)=true:=by simpa using z2
     go_wp2_with fail
     go_ret
     exact ⟨by rw [R.out,d1,d2];rfl,rfl⟩
    ·have d2:decide (s.size≤64)=false:=by simpa using z2
     go_wp2_with fail
     go_ret
     exact ⟨by rw [R.out,d2];rfl,rfl⟩
def nameAt (k:Nat) (n:Int):Bool:=isSmall n || (decide (0<k) && (isDigit n || n == 45))
theorem name_yes (s:ByteArray) (h:∀ k (h:k<s.size),nameAt k (s[k].toNat:Int)=true):isName s=(decide (1≤s.size) && decide (s.size≤32)):=by
 have hA:allB isNameB s=true:=(allB_iff _ _).2 fun k hk=>by
  have:=h k hk
  unfold nameAt at this
  unfold isNameB
  revert this
  cases isSmall (s[k].toNat:Int) <;> cases isDigit (s[k].toNat:Int) <;> cases ((s[k].toNat:Int) == 45) <;> simp
 unfold isName
 rw [hA,Bool.true_and]
 by_cases h0:0<s.size
 ·rw [dif_pos h0]
  have:=h 0 h0
  unfold nameAt at this
  simp only [Nat.lt_irrefl,decide_false,Bool.false_and,Bool.or_false] at this
  rw [this,Bool.and_true]
  have d:decide (1≤s.size)=true:=decide_eq_true (by omega)
  rw [d,Bool.true_and]
 ·rw [dif_neg h0,Bool.and_false]
  have d:decide (1≤s.size)=false:=decide_eq_false (by omega)
  rw [d,Bool.false_and]
theorem name_no (s:ByteArray) (k:Nat) (hk:k<s.size) (h:nameAt k (s[k].toNat:Int)=false):isName s=false:=by
 unfold nameAt at h
 simp only [Bool.or_eq_false_iff,Bool.and_eq_false_iff] at h
 obtain ⟨h1,h2⟩:=h
 unfold isName
 rcases h2 with h2 | h2
 ·have h0:k=0:=by simp at h2;omega
  subst h0
  rw [dif_pos hk,h1]
  simp
 ·have:isNameB (s[k].toNat:Int)=false:=by unfold isNameB;rw [h1,h2.1,h2.2];rfl
  rw [allB_no k hk this]
  simp
set_option maxRecDepth 20000 in
theorem rname_ok (s:ByteArray) (hs:s.size≤9223372036854775807) (w:World) :
  Calls Tryz.prog 175 #[.string s] w fun e w'=>e=.returned (.bool (isName s))∧w'=w:=by
 have RF:Hd (∀ k (h:k<s.size),nameAt k (s[k].toNat:Int)=false→isName s=false):=⟨name_no s⟩
 have RT:Hd ((∀ k (h:k<s.size),nameAt k (s[k].toNat:Int)=true)→isName s=(decide (1≤s.size) && decide (s.size≤32))):=⟨name_yes s⟩
 go_enter Tryz.func175,Tryz.ntmps175
 go_wp2_with fail
 go_loop [3] (fun i=>∃ k:Nat,k≤s.size∧i=.int .i64 k∧Hd (∀ j (h:j<s.size),j<k→nameAt j (s[j].toNat:Int)=true)) (fun i=>s.size - (intOf i).toNat)
 case atStart=>exact ⟨0,Nat.zero_le _,rfl,⟨fun j _ h=>absurd h (Nat.not_lt_zero _)⟩⟩
 case round =>
  obtain ⟨k,hk,rfl,hp⟩:=hrel
  by_cases hlt:k<s.size
  ·have A:=rsmall_ok (s[k].toNat:Int)
   have B:=rdigit_ok (s[k].toNat:Int)
   have next:nameAt k (s[k].toNat:Int)=true→Hd (∀ j (h:j<s.size),j<k+1→nameAt j (s[j].toNat:Int)=true):=fun h=>⟨fun j hj hk=>by
    by_cases e:j=k
    ·subst e;exact h
    ·exact hp.out j hj (by omega)⟩
   have stop:nameAt k (s[k].toNat:Int)=false→Hd (isName s=false):=fun h=>⟨RF.out k hlt h⟩
   clear RF RT hp
   cases h1:isSmall (s[k].toNat:Int) with
   | true =>
    rw [h1] at A
    have hN:=next (by unfold nameAt;rw [h1];rfl)
    clear next stop h1 B
    go_wp2_with (go_at_call 185;refine (A _).mono ?_;rintro e w' ⟨rfl,hw⟩;obtain rfl:=hw.symm)
    go_round
    case rel=>exact ⟨k+1,by omega,by go_num,hN⟩
    case measure=>simp [intOf];omega
   | false =>
    rw [h1] at A
    by_cases h0:k=0
    ·subst h0
     have hN:=stop (by unfold nameAt;rw [h1];rfl)
     clear next stop h1 B
     go_wp2_with (go_at_call 185;refine (A _).mono ?_;rintro e w' ⟨rfl,hw⟩;obtain rfl:=hw.symm)
     go_ret
     exact ⟨by rw [hN.out];rfl,rfl⟩
    ·have hd:decide (0<k)=true:=by simp;omega
     cases h2:isDigit (s[k].toNat:Int) with
     | true =>
      rw [h2] at B
      have hN:=next (by unfold nameAt;rw [h1,hd,h2];rfl)
      clear next stop h1 h2 hd
      go_wp2_with (first
       | (go_at_call 185;refine (A _).mono ?_;rintro e w' ⟨rfl,hw⟩;obtain rfl:=hw.symm)
       | (go_at_call 186;refine (B _).mono ?_;rintro e w' ⟨rfl,hw⟩;obtain rfl:=hw.symm))
      go_round
      case rel=>exact ⟨k+1,by omega,by go_num,hN⟩
      case measure=>simp [intOf];omega
     | false =>
      rw [h2] at B
      cases h3:((s[k].toNat:Int) == 45) with
      | true =>
       have h3':((s[k].toNat:Int) != 45)=false:=by unfold bne;rw [h3];rfl
       have hN:=next (by unfold nameAt;rw [h1,hd,h2,h3];rfl)
       clear next stop h1 h2 h3 hd
       go_wp2_with (first
        | (go_at_call 185;refine (A _).mono ?_;rintro e w' ⟨rfl,hw⟩;obtain rfl:=hw.symm)
        | (go_at_call 186;refine (B _).mono ?_;rintro e w' ⟨rfl,hw⟩;obtain rfl:=hw.symm))
       go_round
       case rel=>exact ⟨k+1,by omega,by go_num,hN⟩
       case measure=>simp [intOf];omega
      | false =>
       have h3':((s[k].toNat:Int) != 45)=true:=by unfold bne;rw [h3];rfl
       have hN:=stop (by unfold nameAt;rw [h1,hd,h2,h3];rfl)
       clear next stop h1 h2 h3 hd
       go_wp2_with (first
        | (go_at_call 185;refine (A _).mono ?_;rintro e w' ⟨rfl,hw⟩;obtain rfl:=hw.symm)
        | (go_at_call 186;refine (B _).mono ?_;rintro e w' ⟨rfl,hw⟩;obtain rfl:=hw.symm))
       go_ret
       exact ⟨by rw [hN.out];rfl,rfl⟩
  ·obtain rfl:k=s.size:=by omega
   have R:Hd (isName s=(decide (1≤s.size) && decide (s.size≤32))):=⟨RT.out fun j h=>hp.out j h h⟩
   clear RF RT hp
   have dI:decide ((s.size:Int)≤32)=decide (s.size≤32):=decide_eq_decide.2 (by omega)
   by_cases z1:1≤s.size
   ·have d1:decide (1≤s.size)=true:=decide_eq_true z1
    have HD:Hd (decide ((s.size:Int)≤32)=decide (s.size≤32)∧decide (1≤s.size)=true):=⟨dI,d1⟩
    clear dI d1
    go_wp2_with fail
    go_ret
    exact ⟨by rw [R.out,HD.out.2,Bool.true_and,← HD.out.1];rfl,rfl⟩
   ·have d1:decide (1≤s.size)=false:=decide_eq_false z1
    clear dI
    go_wp2_with fail
    go_ret
    exact ⟨by rw [R.out,d1];rfl,rfl⟩
def goodS (L:List ByteArray):Bool:=decide (L=[mk [42]]) || good L
theorem goodS_yes {L:List ByteArray} (h:L=[mk [42]]∨Good L):goodS L=true:=by
 unfold goodS
 rcases h with h | h
 ·rw [decide_eq_true h,Bool.true_or]
 ·rw [good_yes h,Bool.or_true]
theorem goodS_no {L:List ByteArray} (h:¬ (L=[mk [42]]∨Good L)):goodS L=false:=by
 unfold goodS
 rw [decide_eq_false fun e=>h (.inl e),good_no fun e=>h (.inr e),Bool.or_self]
theorem star_iff {L:List ByteArray} : L=[mk [42]] ↔ L.length=1∧gt L 0=mk [42]:=by
 constructor
 ·rintro rfl;exact ⟨rfl,rfl⟩
 ·rintro ⟨h1,h2⟩
  cases L with
  | nil=>simp at h1
  | cons x r =>
   have:r=[]:=by cases r with | nil=>rfl | cons _ _=>simp at h1
   subst this
   rw [show gt [x] 0=x from rfl] at h2
   rw [h2]
set_option maxRecDepth 20000 in
set_option maxHeartbeats 1000000 in
theorem rgood_ok (a:Option Addr) (c:Nat) (L:List ByteArray) (w:World) (hr:RowL w a L) (hS:Short L) (hn:L.length≤9223372036854775807) :
  Calls Tryz.prog 177 #[.slice a L.length c] w fun e w'=>e=.returned (.bool (goodS L))∧Below w.heap.size w w':=by
 obtain ⟨n,hL⟩:∃ n,L.length=n:=⟨_,rfl⟩
 by_cases hst:L=[mk [42]]
 ·have e:goodS L=true:=goodS_yes (.inl hst)
  rw [e]
  obtain ⟨b,off,rfl,hb,hcs⟩:=hr (by rw [hst];decide)
  have hcell:=hcs 0 (by rw [hst];decide)
  rw [Nat.add_zero,show gt L 0=⟨#[42]⟩ by rw [hst];rfl] at hcell
  rw [hst]
  show Calls Tryz.prog 177 #[.slice (some ⟨b,off,none⟩) 1 c] w _
  clear hcs hr
  go_enter Tryz.func177,Tryz.ntmps177
  go_wp2_with fail
  go_ret
  exact ⟨rfl,Below.refl _ _⟩
 have H1:n=1→gt L 0≠mk [42]:=fun h e=>hst (star_iff.2 ⟨by omega,e⟩)
 have HM:Hd (L.length=n):=⟨hL⟩
 have HS:Hd (Short L):=⟨hS⟩
 have HB:Hd (∀ k,k<n→¬ (isWord (gt L k)=true∧∀ j,j<k→gt L j≠gt L k)→goodS L=false):=⟨fun k hk h=>goodS_no fun g=>by
  rcases g with g | g
  ·exact hst g
  ·exact h (g.2 k (by omega))⟩
 have HG8:n≤8→Hd (Unl L n→goodS L=true):=fun h8=>⟨fun h=>goodS_yes (.inr ⟨by omega,by rw [hL];exact h⟩)⟩
 have HL:8<n→goodS L=false:=fun h8=>goodS_no fun g=>by
  rcases g with g | g
  ·exact hst g
  ·have:=g.1;omega
 rw [hL] at hn ⊢
 clear hst hS hL
 by_cases hl:n=1
 ·have ne0:=str_ne (H1 hl)
  rw [ByteArray.toList_eq (mk [42]),mk_list] at ne0
  obtain ⟨b,off,rfl,hb0,hcs0⟩:=hr (by rw [HM.out];omega)
  have hcell0:=hcs0 0 (by rw [HM.out];omega)
  rw [Nat.add_zero] at hcell0
  have HG:=HG8 (by omega)
  have HCS:Hd (∀ k,k<L.length→w.cell? ⟨b,off+k,none⟩=some (.string (gt L k))):=⟨hcs0⟩
  clear hcs0 HG8 HL H1
  generalize gt L 0=x0 at ne0 hcell0
  subst hl
  go_enter Tryz.func177,Tryz.ntmps177
  go_wp2_with fail
  go_loopw [3] (fun i wr=>∃ k:Nat,k≤1∧i=.int .i64 k∧Hd (Unl L k)∧Below w.heap.size w wr) (fun i _=>1 - (intOf i).toNat)
  case atStart=>exact ⟨0,Nat.zero_le _,rfl,⟨fun i h=>absurd h (Nat.not_lt_zero _)⟩,Below.refl _ _⟩
  case round =>
   obtain ⟨k,hk,rfl,hU,p3⟩:=hrel
   by_cases hlt:k<1
   ·have hlt':k<L.length:=by rw [HM.out];exact hlt
    have hb:=hb0
    have hcs:=HCS.out
    have hcell:=(p3.cell (p:=⟨b,off+k,none⟩) hb).trans (hcs k hlt')
    have W:=rword_ok (gt L k) (HS.out k hlt')
    cases hw:isWord (gt L k) with
    | false =>
     rw [hw] at W
     have R:Hd (goodS L=false):=⟨HB.out k hlt (fun h=>by rw [hw] at h;cases h.1)⟩
     clear HB HG HS hU hw hcs hr
     generalize gt L k=x at *
     go_wp2_with (go_at_call 187;refine (W _).mono ?_;rintro e w' ⟨rfl,hw⟩;obtain rfl:=hw.symm)
     go_ret
     exact ⟨by rw [R.out];rfl,p3⟩
    | true =>
     rw [hw] at W
     have HW:Hd (isWord (gt L k)=true):=⟨hw⟩
     clear hw
     go_wp2_with (go_at_call 187;refine (W _).mono ?_;rintro e w' ⟨rfl,hw⟩;obtain rfl:=hw.symm)
     clear W
     go_loopw [4] (fun j wq=>∃ jj:Nat,jj≤k∧j=.int .i64 jj∧Hd (∀ t,t<jj→gt L t≠gt L k)∧Below w.heap.size w wq) (fun j _=>k - (intOf j).toNat)
     case atStart=>exact ⟨0,Nat.zero_le _,rfl,⟨fun t h=>absurd h (Nat.not_lt_zero _)⟩,p3⟩
     case round =>
      obtain ⟨jj,hjj,rfl,hT,p4⟩:=hrel
      by_cases hjl:jj<k
      ·have c1:=(p4.cell (p:=⟨b,off+jj,none⟩) hb).trans (hcs jj (by omega))
       have c2:=(p4.cell (p:=⟨b,off+k,none⟩) hb).trans (hcs k hlt')
       by_cases he:gt L jj=gt L k
       ·have R:Hd (goodS L=false):=⟨HB.out k hlt (fun h=>h.2 jj hjl he)⟩
        rw [he] at c1
        clear HB HG HS hU hcs hr HW hT he hcell p3
        generalize gt L k=x at *
        go_wp2_with fail
        go_quiet (fail)
        go_wp2_with fail
        go_ret
        exact ⟨by rw [R.out];rfl,⟨p4.os,p4.tape,p4.output,p4.size,p4.block⟩⟩
       ·have ne:=str_ne he
        have hT':Hd (∀ t,t<jj+1→gt L t≠gt L k):=⟨fun t ht=>by
         by_cases et:t=jj
         ·subst et;exact he
         ·exact hT.out t (by omega)⟩
        clear HB HG HS hU hcs hr HW hT he hcell p3
        obtain ⟨x,hx⟩:∃ x,gt L k=x:=⟨_,rfl⟩
        obtain ⟨y,hy⟩:∃ y,gt L jj=y:=⟨_,rfl⟩
        rw [hx] at c2 ne
        rw [hy] at c1 ne
        clear hx hy
        go_wp2_with fail
        go_quiet (fail)
        go_wp2_with fail
        go_roundw
        case rel=>exact ⟨jj+1,by omega,by go_num,hT',⟨p4.os,p4.tape,p4.output,p4.size,p4.block⟩⟩
        case measure=>simp [intOf];omega
      ·obtain rfl:jj=k:=by omega
       have hU':Hd (Unl L (jj+1)):=⟨fun i hi=>by
        by_cases ei:i=jj
        ·subst ei;exact ⟨HW.out,hT.out⟩
        ·exact hU.out i (by omega)⟩
       clear HB HG HS hU hcs hr HW hT hcell p3
       go_wp2_with fail
       go_roundw
       case rel=>exact ⟨jj+1,by omega,by go_num,hU',p4⟩
       case measure=>simp [intOf];omega
   ·obtain rfl:k=1:=by omega
    have R:Hd (goodS L=true):=⟨HG.out hU.out⟩
    clear HB HG HS hU hr
    go_wp2_with fail
    go_ret
    exact ⟨by rw [R.out];rfl,p3⟩
 ·clear H1
  by_cases h8:n≤8
  ·have HG:=HG8 h8
   clear HG8 HL
   go_enter Tryz.func177,Tryz.ntmps177
   go_wp2_with fail
   go_loopw [3] (fun i wr=>∃ k:Nat,k≤n∧i=.int .i64 k∧Hd (Unl L k)∧Below w.heap.size w wr) (fun i _=>n - (intOf i).toNat)
   case atStart=>exact ⟨0,Nat.zero_le _,rfl,⟨fun i h=>absurd h (Nat.not_lt_zero _)⟩,Below.refl _ _⟩
   case round =>
    obtain ⟨k,hk,rfl,hU,p3⟩:=hrel
    by_cases hlt:k<n
    ·have hlt':k<L.length:=by rw [HM.out];exact hlt
     obtain ⟨b,off,rfl,hb,hcs⟩:=hr (by omega)
     have hcell:=(p3.cell (p:=⟨b,off+k,none⟩) hb).trans (hcs k hlt')
     have W:=rword_ok (gt L k) (HS.out k hlt')
     cases hw:isWord (gt L k) with
     | false =>
      rw [hw] at W
      have R:Hd (goodS L=false):=⟨HB.out k hlt (fun h=>by rw [hw] at h;cases h.1)⟩
      clear HB HG HS hU hw hcs hr
      generalize gt L k=x at *
      go_wp2_with (go_at_call 187;refine (W _).mono ?_;rintro e w' ⟨rfl,hw⟩;obtain rfl:=hw.symm)
      go_ret
      exact ⟨by rw [R.out];rfl,p3⟩
     | true =>
      rw [hw] at W
      have HW:Hd (isWord (gt L k)=true):=⟨hw⟩
      clear hw
      go_wp2_with (go_at_call 187;refine (W _).mono ?_;rintro e w' ⟨rfl,hw⟩;obtain rfl:=hw.symm)
      clear W
      go_loopw [4] (fun j wq=>∃ jj:Nat,jj≤k∧j=.int .i64 jj∧Hd (∀ t,t<jj→gt L t≠gt L k)∧Below w.heap.size w wq) (fun j _=>k - (intOf j).toNat)
      case atStart=>exact ⟨0,Nat.zero_le _,rfl,⟨fun t h=>absurd h (Nat.not_lt_zero _)⟩,p3⟩
      case round =>
       obtain ⟨jj,hjj,rfl,hT,p4⟩:=hrel
       by_cases hjl:jj<k
       ·have c1:=(p4.cell (p:=⟨b,off+jj,none⟩) hb).trans (hcs jj (by omega))
        have c2:=(p4.cell (p:=⟨b,off+k,none⟩) hb).trans (hcs k hlt')
        by_cases he:gt L jj=gt L k
        ·have R:Hd (goodS L=false):=⟨HB.out k hlt (fun h=>h.2 jj hjl he)⟩
         rw [he] at c1
         clear HB HG HS hU hcs hr HW hT he hcell p3
         generalize gt L k=x at *
         go_wp2_with fail
         go_quiet (fail)
         go_wp2_with fail
         go_ret
         exact ⟨by rw [R.out];rfl,⟨p4.os,p4.tape,p4.output,p4.size,p4.block⟩⟩
        ·have ne:=str_ne he
         have hT':Hd (∀ t,t<jj+1→gt L t≠gt L k):=⟨fun t ht=>by
          by_cases et:t=jj
          ·subst et;exact he
          ·exact hT.out t (by omega)⟩
         clear HB HG HS hU hcs hr HW hT he hcell p3
         obtain ⟨x,hx⟩:∃ x,gt L k=x:=⟨_,rfl⟩
         obtain ⟨y,hy⟩:∃ y,gt L jj=y:=⟨_,rfl⟩
         rw [hx] at c2 ne
         rw [hy] at c1 ne
         clear hx hy
         go_wp2_with fail
         go_quiet (fail)
         go_wp2_with fail
         go_roundw
         case rel=>exact ⟨jj+1,by omega,by go_num,hT',⟨p4.os,p4.tape,p4.output,p4.size,p4.block⟩⟩
         case measure=>simp [intOf];omega
       ·obtain rfl:jj=k:=by omega
        have hU':Hd (Unl L (jj+1)):=⟨fun i hi=>by
         by_cases ei:i=jj
         ·subst ei;exact ⟨HW.out,hT.out⟩
         ·exact hU.out i (by omega)⟩
        clear HB HG HS hU hcs hr HW hT hcell p3
        go_wp2_with fail
        go_roundw
        case rel=>exact ⟨jj+1,by omega,by go_num,hU',p4⟩
        case measure=>simp [intOf];omega
    ·obtain rfl:k=n:=by omega
     have R:Hd (goodS L=true):=⟨HG.out hU.out⟩
     clear HB HG HS hU hr
     go_wp2_with fail
     go_ret
     exact ⟨by rw [R.out];rfl,p3⟩
  ·have e:=HL (by omega)
   clear HG8 HL HB HS
   rw [e]
   go_enter Tryz.func177,Tryz.ntmps177
   go_wp2_with fail
   go_ret
   exact ⟨rfl,Below.refl _ _⟩
theorem cut_star {s:ByteArray} (h:cutB 44 s=[mk [42]]):s=mk [42]:=by
 have h2:=congrArg (fun L:List ByteArray=>join (L.map (·.data.toList)) [44]) h
 unfold cutB at h2
 simp only [List.map_map] at h2
 have:((fun x:ByteArray=>x.data.toList) ∘ mk)=id:=by funext x;exact mk_list x
 rw [this,List.map_id,join_cut] at h2
 apply list_inj
 rw [h2,mk_list]
 rfl
theorem goodS_cut {s:ByteArray} (h:s≠mk [45]):listOk s=goodS (cutB 44 s)∧listOf s=if goodS (cutB 44 s) then cutB 44 s else []:=by
 unfold listOk listOf
 rw [if_neg h,if_neg h]
 by_cases h1:s=mk [42]
 ·rw [if_pos h1,if_pos h1,h1,show cutB 44 (mk [42])=[mk [42]] from rfl,goodS_yes (.inl rfl)]
  exact ⟨rfl,rfl⟩
 ·rw [if_neg h1,if_neg h1]
  have e:good (cutB 44 s)=goodS (cutB 44 s):=by
   cases hg:good (cutB 44 s) with
   | true=>exact (goodS_yes (.inr (good_iff.1 hg))).symm
   | false =>
    refine (goodS_no fun g=>?_).symm
    rcases g with g | g
    ·exact h1 (cut_star g)
    ·rw [good_yes g] at hg;cases hg
  rw [e]
  exact ⟨rfl,rfl⟩
end Go.Proofs.YthkdbphgiobcdaaGreatDoor
