/-
  What 'capped', 'In', 'Add' of the program and of the reference answer, for every two words.
-/
import Derived.Test.YtlgibnmoogbdcaaGreatRows
import Derived.WalkKit
import Derived.WalkSpells
import Derived.WalkLawsBesides
namespace Go.Proofs.YtlgibnmoogbdcaaGreat
open Go.RowKit
def Word (x:Int):Prop:=0≤x∧x<18446744073709551616
def capI (a:Int):Int:=if a≤4611686018427387904 then a else 4611686018427387904
def addI (a b:Int):Int:=capI (capI a+capI b)
theorem capI_lo {a:Int} (h:Word a):0≤capI a:=by
 obtain ⟨h1,h2⟩:=h;unfold capI;split <;> omega
theorem capI_hi {a:Int} (_h:Word a):capI a≤4611686018427387904:=by
 unfold capI;split <;> omega
theorem capI_word {a:Int} (h:Word a):Word (capI a):=⟨capI_lo h,by have:=capI_hi h;omega⟩
set_option maxHeartbeats 400000 in
theorem capped_any (a:Int) (w:World) (h:Word a) :
  Calls Tryz.prog 104 #[.int .u64 a] w fun e w'=>e=.returned (.int .u64 (capI a))∧w'=w:=by
 obtain ⟨h1,h2⟩:=h
 unfold capI
 go_enter Tryz.func104,Tryz.ntmps104
 go_wp2
 all_goals (go_ret;exact ⟨rfl,rfl⟩)
set_option maxHeartbeats 400000 in
theorem in_any (a:Int) (w:World) (h:Word a) :
  Calls Tryz.prog 101 #[.int .u64 a] w fun e w'=>e=.returned (.int .u64 (capI a))∧w'=w:=by
 obtain ⟨h1,h2⟩:=h
 unfold capI
 go_enter Tryz.func101,Tryz.ntmps101
 go_wp2
 all_goals (go_ret;exact ⟨rfl,rfl⟩)
set_option maxHeartbeats 400000 in
theorem add_any (a b:Int) (w:World) (ha:Word a) (hb:Word b) :
  Calls Tryz.prog 99 #[.int .u64 a,.int .u64 b] w fun e w'=>e=.returned (.int .u64 (addI a b))∧w'=w:=by
 unfold addI
 have a1:=capI_lo ha;have a2:=capI_hi ha
 have b1:=capI_lo hb;have b2:=capI_hi hb
 have hs:Word (capI a+capI b):=⟨by omega,by omega⟩
 go_enter Tryz.func99,Tryz.ntmps99
 go_wp2_with (go_at_call 104;refine (capped_any _ _ (by assumption)).mono ?_;rintro e w' ⟨rfl,rfl⟩)
 go_ret;exact ⟨rfl,rfl⟩
set_option maxHeartbeats 400000 in
theorem refAdd_any (a b:Int) (w:World) (ha:Word a) (hb:Word b) :
  Calls Tryz.prog 92 #[.int .u64 a,.int .u64 b] w fun e w'=>e=.returned (.int .u64 (addI a b))∧w'=w:=by
 unfold addI
 have a1:=capI_lo ha;have a2:=capI_hi ha
 have b1:=capI_lo hb;have b2:=capI_hi hb
 have hs:Word (capI a+capI b):=⟨by omega,by omega⟩
 go_enter Tryz.func92,Tryz.ntmps92
 go_wp2_with (go_at_call 101;refine (in_any _ _ (by assumption)).mono ?_;rintro e w' ⟨rfl,rfl⟩)
 go_ret;exact ⟨rfl,rfl⟩
end Go.Proofs.YtlgibnmoogbdcaaGreat
