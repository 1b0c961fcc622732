/-
  Is a level, a schema of a name there? (The closures of rules.) Condition: what is read lies in memory.
  What 'levelsFormed' of 'print' answers.
  What strings.Join, strconv.Itoa, and over them 'Join', 'Digits' of words and 'line', 'borrowWord' of print answer.
-/
import Derived.Test.YthkdbphgiobcdaaGreatDoorE6
import Derived.Test.YthkdbphgiobcdaaGreatDoorE3
import Derived.Test.YthkdbphgiobcdaaGreatDoorE1
import Derived.Lib.SmallJoins
namespace Go.Proofs.YthkdbphgiobcdaaGreatDoor
open Go.RowKit
theorem pisLv_okR (l:Lv) (g:Nat) (x:ByteArray) (w:World) (hg:w.cell? ⟨g,0,none⟩=some (.string x)) :
  Calls Tryz.prog 137 #[lvV l,.pointer (some ⟨g,0,none⟩)] w fun r w'=>r=.returned (.bool (decide (l.name=x)))∧Below w.heap.size w w':=by
 have hlt:g<w.heap.size:=by
  rcases Nat.lt_or_ge g w.heap.size with h1 | h1
  ·exact h1
  ·simp [World.cell?,Array.getElem?_eq_none h1] at hg
 rw [←name_eq]
 obtain ⟨n,a1,a2,a3,a4,a5,a6,a7,a8,a9⟩:=l
 have b1:Below w.heap.size w (w.alloc (.cells #[.string n,.int .i64 a1,.int .i64 a2,.int .i64 a3,.int .i64 a4,.int .i64 a5,.int .i64 a6,.int .i64 a7,.int .i64 a8,.int .i64 a9] 43)):=(Below.refl _ _).alloc (Nat.le_refl _) _
 have y1:(w.alloc (.cells #[.string n,.int .i64 a1,.int .i64 a2,.int .i64 a3,.int .i64 a4,.int .i64 a5,.int .i64 a6,.int .i64 a7,.int .i64 a8,.int .i64 a9] 43)).cell? ⟨g,0,none⟩=some (.string x):=(b1.cell (p:=⟨g,0,none⟩) hlt).trans hg
 have BB:Hd (Below w.heap.size w (w.alloc (.cells #[.string n,.int .i64 a1,.int .i64 a2,.int .i64 a3,.int .i64 a4,.int .i64 a5,.int .i64 a6,.int .i64 a7,.int .i64 a8,.int .i64 a9] 43))):=⟨b1⟩
 clear hg b1
 unfold lvV
 go_enter Tryz.func137,Tryz.ntmps137
 go_wp2_with fail
 go_ret
 exact ⟨rfl,BB.out⟩
theorem pisSc_okR (l:Sc) (v:Value) (g:Nat) (x:ByteArray) (w:World) (hg:w.cell? ⟨g,0,none⟩=some (.string x)) :
  Calls Tryz.prog 139 #[scV l v,.pointer (some ⟨g,0,none⟩)] w fun r w'=>r=.returned (.bool (decide (l.name=x)))∧Below w.heap.size w w':=by
 have hlt:g<w.heap.size:=by
  rcases Nat.lt_or_ge g w.heap.size with h1 | h1
  ·exact h1
  ·simp [World.cell?,Array.getElem?_eq_none h1] at hg
 rw [←name_eq]
 obtain ⟨n,a1,a2,a3,a4⟩:=l
 have b1:Below w.heap.size w (w.alloc (.cells #[.string n,.string a1,.int .i64 a2,.int .i64 a3,v] 47)):=(Below.refl _ _).alloc (Nat.le_refl _) _
 have y1:(w.alloc (.cells #[.string n,.string a1,.int .i64 a2,.int .i64 a3,v] 47)).cell? ⟨g,0,none⟩=some (.string x):=(b1.cell (p:=⟨g,0,none⟩) hlt).trans hg
 have BB:Hd (Below w.heap.size w (w.alloc (.cells #[.string n,.string a1,.int .i64 a2,.int .i64 a3,v] 47))):=⟨b1⟩
 clear hg b1
 unfold scV
 go_enter Tryz.func139,Tryz.ntmps139
 go_wp2_with fail
 go_ret
 exact ⟨rfl,BB.out⟩
theorem pindexLvR (L:List Lv) (g r ro cap:Nat) (x:ByteArray) (w:World) (hg:w.cell? ⟨g,0,none⟩=some (.string x)) (hr:r<w.heap.size) (hl:L.length≤65536)
  (hcs:∀ k (h:k<L.length),∀ j,j<10→w.cell? ⟨r,ro+k*10+j,none⟩=(lvC L[k])[j]?) :
  Calls Tryz.prog 37 #[.slice (some ⟨r,ro,none⟩) L.length cap,.func (.func 137) #[] #[.pointer (some ⟨g,0,none⟩)]] w fun e w'=>(∃ q:Int,e=.returned (.int .i64 q)∧decide (0≤q)=L.any fun l=>decide (l.name=x))∧Below w.heap.size w w':=by
 have hlt:g<w.heap.size:=by
  rcases Nat.lt_or_ge g w.heap.size with h1 | h1
  ·exact h1
  ·simp [World.cell?,Array.getElem?_eq_none h1] at hg
 have eg:∀ args w,(callFunc 137 args).run Tryz.prog w=.ok (.enter 137 args) w:=enters_of Tryz.func137 (by kernel_rfl) rfl
 have HC:Hd (∀ k (h:k<L.length),∀ j,j<10→w.cell? ⟨r,ro+k*10+j,none⟩=(lvC L[k])[j]?):=⟨hcs⟩
 clear hcs
 go_enter Tryz.func37,Tryz.ntmps37
 go_wp2_with fail
 go_loopw [8] (fun i wr=>∃ k:Nat,k≤L.length∧i=.int .i64 k∧Hd (∀ j (h:j<L.length),j<k→L[j].name≠x)∧Below w.heap.size w wr) (fun i _=>L.length - (intOf i).toNat)
 case atStart=>exact ⟨0,Nat.zero_le _,rfl,⟨fun j _ h=>absurd h (Nat.not_lt_zero _)⟩,Below.refl _ _⟩
 case round =>
  obtain ⟨k,hk,rfl,hno,hb⟩:=hrel
  by_cases hlt':k<L.length
  ·have hcs:=HC.out
   have hlt:=hlt'
   have HI:Hd (k<L.length):=⟨hlt⟩
   have cs:∀ j,j<10→wr.cell? ⟨r,ro+k*10+j,none⟩=(lvC L[k])[j]?:=fun j hj=>(hb.cell (p:=⟨r,ro+k*10+j,none⟩) hr).trans (hcs k hlt j hj)
   have I:=pisLv_okR L[k] g x wr ((hb.cell (p:=⟨g,0,none⟩) (by omega)).trans hg)
   have BB:Hd (Below w.heap.size w wr):=⟨hb⟩
   have hgl:Hd (g<w.heap.size):=⟨by omega⟩
   by_cases hx:L[k].name=x
   ·have A:Hd ((L.any fun l=>decide (l.name=x))=true):=⟨List.any_eq_true.2 ⟨L[k],List.getElem_mem hlt,decide_eq_true hx⟩⟩
    rw [decide_eq_true hx] at I
    clear hcs hb hno hx hg
    have x0:wr.cell? ⟨r,ro+k*10,none⟩=some (.string L[k].name):=cs 0 (by decide)
    have x1:wr.cell? ⟨r,ro+k*10+1,none⟩=some (.int .i64 L[k].kind):=cs 1 (by decide)
    have x2:wr.cell? ⟨r,ro+k*10+2,none⟩=some (.int .i64 L[k].shares):=cs 2 (by decide)
    have x3:wr.cell? ⟨r,ro+k*10+3,none⟩=some (.int .i64 L[k].lend):=cs 3 (by decide)
    have x4:wr.cell? ⟨r,ro+k*10+4,none⟩=some (.int .i64 L[k].borrow):=cs 4 (by decide)
    have x5:wr.cell? ⟨r,ro+k*10+5,none⟩=some (.int .i64 L[k].queues):=cs 5 (by decide)
    have x6:wr.cell? ⟨r,ro+k*10+6,none⟩=some (.int .i64 L[k].hand):=cs 6 (by decide)
    have x7:wr.cell? ⟨r,ro+k*10+7,none⟩=some (.int .i64 L[k].length):=cs 7 (by decide)
    have x8:wr.cell? ⟨r,ro+k*10+8,none⟩=some (.int .i64 L[k].wait):=cs 8 (by decide)
    have x9:wr.cell? ⟨r,ro+k*10+9,none⟩=some (.int .i64 L[k].guess):=cs 9 (by decide)
    clear cs
    unfold lvV at I
    generalize L[k]=l at *
    obtain ⟨n,a1,a2,a3,a4,a5,a6,a7,a8,a9⟩:=l
    go_wp2_with (go_at_fn 137;refine I.mono ?_;rintro e w2 ⟨rfl,h2⟩)
    go_ret
    exact ⟨⟨k,rfl,by rw [A.out];exact decide_eq_true (by omega)⟩,BB.out.trans (h2.mono BB.out.size)⟩
   ·have A:Hd (∀ j (h:j<L.length),j<k+1→L[j].name≠x):=⟨fun j hj hjk=>by
     rcases Nat.lt_or_eq_of_le (Nat.le_of_lt_succ hjk) with h | h
     ·exact hno.out j hj h
     ·subst h;exact hx⟩
    rw [decide_eq_false hx] at I
    clear hcs hb hno hx hg
    have x0:wr.cell? ⟨r,ro+k*10,none⟩=some (.string L[k].name):=cs 0 (by decide)
    have x1:wr.cell? ⟨r,ro+k*10+1,none⟩=some (.int .i64 L[k].kind):=cs 1 (by decide)
    have x2:wr.cell? ⟨r,ro+k*10+2,none⟩=some (.int .i64 L[k].shares):=cs 2 (by decide)
    have x3:wr.cell? ⟨r,ro+k*10+3,none⟩=some (.int .i64 L[k].lend):=cs 3 (by decide)
    have x4:wr.cell? ⟨r,ro+k*10+4,none⟩=some (.int .i64 L[k].borrow):=cs 4 (by decide)
    have x5:wr.cell? ⟨r,ro+k*10+5,none⟩=some (.int .i64 L[k].queues):=cs 5 (by decide)
    have x6:wr.cell? ⟨r,ro+k*10+6,none⟩=some (.int .i64 L[k].hand):=cs 6 (by decide)
    have x7:wr.cell? ⟨r,ro+k*10+7,none⟩=some (.int .i64 L[k].length):=cs 7 (by decide)
    have x8:wr.cell? ⟨r,ro+k*10+8,none⟩=some (.int .i64 L[k].wait):=cs 8 (by decide)
    have x9:wr.cell? ⟨r,ro+k*10+9,none⟩=some (.int .i64 L[k].guess):=cs 9 (by decide)
    clear cs
    unfold lvV at I
    generalize L[k]=l at *
    obtain ⟨n,a1,a2,a3,a4,a5,a6,a7,a8,a9⟩:=l
    go_wp2_with (go_at_fn 137;refine I.mono ?_;rintro e w2 ⟨rfl,h2⟩)
    go_roundw
    case rel=>exact ⟨k+1,HI.out,by go_num,A,BB.out.trans (h2.mono BB.out.size)⟩
    case measure=>have:=HI.out;simp [intOf];omega
  ·obtain rfl:k=L.length:=by omega
   have A:Hd ((L.any fun l=>decide (l.name=x))=false):=⟨by
    rw [List.any_eq_false]
    intro l hl'
    obtain ⟨j,hj,rfl⟩:=List.getElem_of_mem hl'
    simpa using hno.out j hj hj⟩
   clear hno hg
   go_wp2_with fail
   go_ret
   exact ⟨⟨-1,rfl,by rw [A.out];decide⟩,hb⟩
theorem pindexScR (L:List Sc) (V:List Value) (hV:V.length=L.length) (g r ro cap:Nat) (x:ByteArray) (w:World) (hg:w.cell? ⟨g,0,none⟩=some (.string x)) (hr:r<w.heap.size) (hl:L.length≤65536)
  (hcs:∀ k (h:k<L.length) (h':k<V.length),∀ j,j<5→w.cell? ⟨r,ro+k*5+j,none⟩=(scC L[k] V[k])[j]?) :
  Calls Tryz.prog 160 #[.slice (some ⟨r,ro,none⟩) L.length cap,.func (.func 139) #[] #[.pointer (some ⟨g,0,none⟩)]] w fun e w'=>(∃ q:Int,e=.returned (.int .i64 q)∧decide (0≤q)=L.any fun l=>decide (l.name=x))∧Below w.heap.size w w':=by
 have hlt:g<w.heap.size:=by
  rcases Nat.lt_or_ge g w.heap.size with h1 | h1
  ·exact h1
  ·simp [World.cell?,Array.getElem?_eq_none h1] at hg
 have eg:∀ args w,(callFunc 139 args).run Tryz.prog w=.ok (.enter 139 args) w:=enters_of Tryz.func139 (by kernel_rfl) rfl
 have HC:Hd (∀ k (h:k<L.length) (h':k<V.length),∀ j,j<5→w.cell? ⟨r,ro+k*5+j,none⟩=(scC L[k] V[k])[j]?):=⟨hcs⟩
 clear hcs
 go_enter Tryz.func160,Tryz.ntmps160
 go_wp2_with fail
 go_loopw [8] (fun i wr=>∃ k:Nat,k≤L.length∧i=.int .i64 k∧Hd (∀ j (h:j<L.length),j<k→L[j].name≠x)∧Below w.heap.size w wr) (fun i _=>L.length - (intOf i).toNat)
 case atStart=>exact ⟨0,Nat.zero_le _,rfl,⟨fun j _ h=>absurd h (Nat.not_lt_zero _)⟩,Below.refl _ _⟩
 case round =>
  obtain ⟨k,hk,rfl,hno,hb⟩:=hrel
  by_cases hlt':k<L.length
  ·have hcs:=HC.out
   have hlt:=hlt'
   have HI:Hd (k<L.length):=⟨hlt⟩
   have hkV:k<V.length:=by omega
   have cs:∀ j,j<5→wr.cell? ⟨r,ro+k*5+j,none⟩=(scC L[k] V[k])[j]?:=fun j hj=>(hb.cell (p:=⟨r,ro+k*5+j,none⟩) hr).trans (hcs k hlt (by omega) j hj)
   have I:=pisSc_okR L[k] V[k] g x wr ((hb.cell (p:=⟨g,0,none⟩) (by omega)).trans hg)
   have BB:Hd (Below w.heap.size w wr):=⟨hb⟩
   have hgl:Hd (g<w.heap.size):=⟨by omega⟩
   by_cases hx:L[k].name=x
   ·have A:Hd ((L.any fun l=>decide (l.name=x))=true):=⟨List.any_eq_true.2 ⟨L[k],List.getElem_mem hlt,decide_eq_true hx⟩⟩
    rw [decide_eq_true hx] at I
    clear hcs hb hno hx hg
    have x0:wr.cell? ⟨r,ro+k*5,none⟩=some (.string L[k].name):=cs 0 (by decide)
    have x1:wr.cell? ⟨r,ro+k*5+1,none⟩=some (.string L[k].level):=cs 1 (by decide)
    have x2:wr.cell? ⟨r,ro+k*5+2,none⟩=some (.int .i64 L[k].rank):=cs 2 (by decide)
    have x3:wr.cell? ⟨r,ro+k*5+3,none⟩=some (.int .i64 L[k].way):=cs 3 (by decide)
    have x4:wr.cell? ⟨r,ro+k*5+4,none⟩=some (V[k]):=cs 4 (by decide)
    clear cs
    unfold scV at I
    generalize V[k]=vv at *
    generalize L[k]=l at *
    obtain ⟨n,a1,a2,a3,a4⟩:=l
    go_wp2_with (go_at_fn 139;refine I.mono ?_;rintro e w2 ⟨rfl,h2⟩)
    go_ret
    exact ⟨⟨k,rfl,by rw [A.out];exact decide_eq_true (by omega)⟩,BB.out.trans (h2.mono BB.out.size)⟩
   ·have A:Hd (∀ j (h:j<L.length),j<k+1→L[j].name≠x):=⟨fun j hj hjk=>by
     rcases Nat.lt_or_eq_of_le (Nat.le_of_lt_succ hjk) with h | h
     ·exact hno.out j hj h
     ·subst h;exact hx⟩
    rw [decide_eq_false hx] at I
    clear hcs hb hno hx hg
    have x0:wr.cell? ⟨r,ro+k*5,none⟩=some (.string L[k].name):=cs 0 (by decide)
    have x1:wr.cell? ⟨r,ro+k*5+1,none⟩=some (.string L[k].level):=cs 1 (by decide)
    have x2:wr.cell? ⟨r,ro+k*5+2,none⟩=some (.int .i64 L[k].rank):=cs 2 (by decide)
    have x3:wr.cell? ⟨r,ro+k*5+3,none⟩=some (.int .i64 L[k].way):=cs 3 (by decide)
    have x4:wr.cell? ⟨r,ro+k*5+4,none⟩=some (V[k]):=cs 4 (by decide)
    clear cs
    unfold scV at I
    generalize V[k]=vv at *
    generalize L[k]=l at *
    obtain ⟨n,a1,a2,a3,a4⟩:=l
    go_wp2_with (go_at_fn 139;refine I.mono ?_;rintro e w2 ⟨rfl,h2⟩)
    go_roundw
    case rel=>exact ⟨k+1,HI.out,by go_num,A,BB.out.trans (h2.mono BB.out.size)⟩
    case measure=>have:=HI.out;simp [intOf];omega
  ·obtain rfl:k=L.length:=by omega
   have A:Hd ((L.any fun l=>decide (l.name=x))=false):=⟨by
    rw [List.any_eq_false]
    intro l hl'
    obtain ⟨j,hj,rfl⟩:=List.getElem_of_mem hl'
    simpa using hno.out j hj hj⟩
   clear hno hg
   go_wp2_with fail
   go_ret
   exact ⟨⟨-1,rfl,by rw [A.out];decide⟩,hb⟩
theorem phasLvR (a:Option Addr) (c:Nat) (L:List Lv) (g:Nat) (x:ByteArray) (w:World) (hg:w.cell? ⟨g,0,none⟩=some (.string x)) (hr:LvR w a L) (hl:L.length≤65536) :
  Calls Tryz.prog 126 #[.slice a L.length c,.func (.func 137) #[] #[.pointer (some ⟨g,0,none⟩)]] w fun e w'=>e=.returned (.bool (L.any fun l=>decide (l.name=x)))∧Below w.heap.size w w':=by
 cases L with
 | nil =>
  have I:Calls Tryz.prog 37 #[.slice a 0 c,.func (.func 137) #[] #[.pointer (some ⟨g,0,none⟩)]] w fun e w'=>e=.returned (.int .i64 (-1))∧w'=w:=by
   clear hg hr hl
   go_enter Tryz.func37,Tryz.ntmps37
   go_wp2_with fail
   refine wp_loop_rounds 1 ?_
   rw [rounds_succ]
   go_wp2_with fail
   go_ret
   exact ⟨rfl,rfl⟩
  clear hg hr hl
  show Calls Tryz.prog 126 #[.slice a 0 c,.func (.func 137) #[] #[.pointer (some ⟨g,0,none⟩)]] w _
  go_enter Tryz.func126,Tryz.ntmps126
  go_wp2_with (go_at_call 37;refine I.mono ?_;rintro e w' ⟨rfl,hw⟩;obtain rfl:=hw.symm)
  go_ret
  exact ⟨rfl,Below.refl _ _⟩
 | cons l0 L0 =>
  obtain ⟨r,ro,rfl,hb,hcs⟩:=hr (by simp)
  have I:=pindexLvR (l0 :: L0) g r ro c x w hg hb hl hcs
  clear hg hcs hr hb
  generalize ((l0 :: L0).any fun l=>decide (l.name=x))=b at *
  generalize (l0 :: L0).length=m at *
  go_enter Tryz.func126,Tryz.ntmps126
  go_wp2_with (go_at_call 37;refine I.mono ?_;rintro e w' ⟨⟨q,rfl,hq⟩,hb⟩)
  go_ret
  exact ⟨by rw [←hq];rfl,hb⟩
theorem phasScR (a:Option Addr) (c:Nat) (L:List Sc) (V:List Value) (g:Nat) (x:ByteArray) (w:World) (hg:w.cell? ⟨g,0,none⟩=some (.string x)) (hr:ScR w a L V) (hV:V.length=L.length) (hl:L.length≤65536) :
  Calls Tryz.prog 130 #[.slice a L.length c,.func (.func 139) #[] #[.pointer (some ⟨g,0,none⟩)]] w fun e w'=>e=.returned (.bool (L.any fun l=>decide (l.name=x)))∧Below w.heap.size w w':=by
 cases L with
 | nil =>
  have I:Calls Tryz.prog 160 #[.slice a 0 c,.func (.func 139) #[] #[.pointer (some ⟨g,0,none⟩)]] w fun e w'=>e=.returned (.int .i64 (-1))∧w'=w:=by
   clear hg hr hl hV
   go_enter Tryz.func160,Tryz.ntmps160
   go_wp2_with fail
   refine wp_loop_rounds 1 ?_
   rw [rounds_succ]
   go_wp2_with fail
   go_ret
   exact ⟨rfl,rfl⟩
  clear hg hr hl hV
  show Calls Tryz.prog 130 #[.slice a 0 c,.func (.func 139) #[] #[.pointer (some ⟨g,0,none⟩)]] w _
  go_enter Tryz.func130,Tryz.ntmps130
  go_wp2_with (go_at_call 160;refine I.mono ?_;rintro e w' ⟨rfl,hw⟩;obtain rfl:=hw.symm)
  go_ret
  exact ⟨rfl,Below.refl _ _⟩
 | cons l0 L0 =>
  obtain ⟨r,ro,rfl,hb,hcs⟩:=hr (by simp)
  have I:=pindexScR (l0 :: L0) V hV g r ro c x w hg hb hl hcs
  clear hg hcs hr hb hV
  generalize ((l0 :: L0).any fun l=>decide (l.name=x))=b at *
  generalize (l0 :: L0).length=m at *
  go_enter Tryz.func130,Tryz.ntmps130
  go_wp2_with (go_at_call 160;refine I.mono ?_;rintro e w' ⟨⟨q,rfl,hq⟩,hb⟩)
  go_ret
  exact ⟨by rw [←hq];rfl,hb⟩
def fresh (L:List Lv) (k:Nat) (h:k<L.length):Bool:=!((L.take k).any fun l=>decide (l.name=L[k].name))
theorem fresh_iff {L:List Lv} {k:Nat} {h:k<L.length} : fresh L k h=true ↔ ∀ j (hj:j<k),L[j].name≠L[k].name:=by
 unfold fresh
 rw [Bool.not_eq_true',List.any_eq_false]
 constructor
 ·intro H j hj
  have:=H L[j] (by rw [List.mem_take_iff_getElem];exact ⟨j,by omega,rfl⟩)
  simpa using this
 ·intro H l hl
  rw [List.mem_take_iff_getElem] at hl
  obtain ⟨j,hj,rfl⟩:=hl
  simpa using H j (by omega)
theorem levels_bad {L:List Lv} {k:Nat} (h:k<L.length) (hb:fresh L k h=false∨lvOk L[k]=false):levelsOk L=false:=by
 cases hL:levelsOk L with
 | false=>rfl
 | true =>
  unfold levelsOk at hL
  simp only [Bool.and_eq_true,decide_eq_true_eq,List.all_eq_true] at hL
  rcases hb with hb | hb
  ·have:fresh L k h=true:=fresh_iff.2 fun j hj=>List.pairwise_iff_getElem.1 hL.2.2 j k (by omega) h hj
   rw [hb] at this
   cases this
  ·have:=hL.2.1 L[k] (List.getElem_mem h)
   rw [hb] at this
   cases this
theorem levels_good {L:List Lv} (h16:L.length≤16) (h:∀ k (h:k<L.length),fresh L k h=true∧lvOk L[k]=true):levelsOk L=true:=by
 unfold levelsOk
 simp only [Bool.and_eq_true,decide_eq_true_eq,List.all_eq_true]
 refine ⟨h16,fun l hl=>?_,List.pairwise_iff_getElem.2 fun i j hi hj hij=>fresh_iff.1 (h j hj).1 i hij⟩
 obtain ⟨k,hk,rfl⟩:=List.getElem_of_mem hl
 exact (h k hk).2
theorem LvR.take {w:World} {b off:Nat} {L:List Lv} (hc:∀ k (h:k<L.length),∀ j,j<10→w.cell? ⟨b,off+k*10+j,none⟩=(lvC L[k])[j]?) (hb:b<w.heap.size) (n:Nat):LvR w (some ⟨b,off,none⟩) (L.take n):=fun _ =>
 ⟨b,off,rfl,hb,fun k hk j hj=>by rw [List.getElem_take];exact hc k (by rw [List.length_take] at hk;omega) j hj⟩
set_option maxRecDepth 20000 in
theorem levels_ok (a:Option Addr) (c:Nat) (L:List Lv) (w:World) (hr:LvR w a L) (hc:L.length≤c) (hl:L.length≤9223372036854775807) (hn:∀ l∈L,l.name.size≤9223372036854775807) :
  Calls Tryz.prog 84 #[.slice a L.length c] w fun e w'=>e=.returned (.bool (levelsOk L))∧Below w.heap.size w w':=by
 by_cases h16:16<L.length
 ·have e:levelsOk L=false:=by unfold levelsOk;rw [decide_eq_false (by omega)];rfl
  rw [e]
  clear e hr hn hc
  generalize L.length=n at *
  go_enter Tryz.func84,Tryz.ntmps84
  go_wp2_with fail
  go_ret
  exact ⟨rfl,Below.refl _ _⟩
 have HL:Hd (L.length≤16):=⟨by omega⟩
 have HB:Hd (∀ k (h:k<L.length),(fresh L k h=false∨lvOk L[k]=false)→levelsOk L=false):=⟨fun k h=>levels_bad h⟩
 have HG:Hd ((∀ k (h:k<L.length),fresh L k h=true∧lvOk L[k]=true)→levelsOk L=true):=⟨levels_good (by omega)⟩
 have HR:Hd (LvR w a L∧∀ l∈L,l.name.size≤9223372036854775807):=⟨hr,hn⟩
 generalize levelsOk L=R at *
 obtain ⟨n,hnl⟩:∃ n,n=L.length:=⟨_,rfl⟩
 have HN:Hd (n=L.length):=⟨hnl⟩
 rw [←hnl]
 rw [←hnl] at hc
 have n16:n≤16:=by omega
 clear hr hn hl h16 hnl
 go_enter Tryz.func84,Tryz.ntmps84
 go_wp2_with fail
 go_loopw [3,4,5,11] (fun i3 i4 i5 i wr=>∃ k:Nat,k≤n∧i=.int .i64 k∧Hd ((∀ j (h:j<L.length),j<k→fresh L j h=true∧lvOk L[j]=true)∧Below w.heap.size w wr)) (fun _ _ _ i _=>n - (intOf i).toNat)
 case atStart=>exact ⟨0,Nat.zero_le _,rfl,⟨fun _ _ h=>absurd h (Nat.not_lt_zero _),Below.refl _ _⟩⟩
 case round =>
  obtain ⟨k,hk,rfl,hI⟩:=hrel
  by_cases hlt:k<n
  ·have hkL:k<L.length:=by rw [←HN.out];exact hlt
   obtain ⟨b,off,rfl,hb,hcs⟩:=(HR.out.1.carry hI.out.2) (by omega)
   have x0:wr.cell? ⟨b,off+k*10,none⟩=some (.string L[k].name):=hcs k hkL 0 (by decide)
   have x1:wr.cell? ⟨b,off+k*10+1,none⟩=some (.int .i64 L[k].kind):=hcs k hkL 1 (by decide)
   have x2:wr.cell? ⟨b,off+k*10+2,none⟩=some (.int .i64 L[k].shares):=hcs k hkL 2 (by decide)
   have x3:wr.cell? ⟨b,off+k*10+3,none⟩=some (.int .i64 L[k].lend):=hcs k hkL 3 (by decide)
   have x4:wr.cell? ⟨b,off+k*10+4,none⟩=some (.int .i64 L[k].borrow):=hcs k hkL 4 (by decide)
   have x5:wr.cell? ⟨b,off+k*10+5,none⟩=some (.int .i64 L[k].queues):=hcs k hkL 5 (by decide)
   have x6:wr.cell? ⟨b,off+k*10+6,none⟩=some (.int .i64 L[k].hand):=hcs k hkL 6 (by decide)
   have x7:wr.cell? ⟨b,off+k*10+7,none⟩=some (.int .i64 L[k].length):=hcs k hkL 7 (by decide)
   have x8:wr.cell? ⟨b,off+k*10+8,none⟩=some (.int .i64 L[k].wait):=hcs k hkL 8 (by decide)
   have x9:wr.cell? ⟨b,off+k*10+9,none⟩=some (.int .i64 L[k].guess):=hcs k hkL 9 (by decide)
   have AL:=alloc_below wr (.cells (lvA L[k]) 43)
   have NB:=Blk.new wr 43 (lvA L[k])
   have PH:=phasLv (some ⟨b,off,none⟩) c (L.take k) wr.heap.size L[k].name (wr.alloc (.cells (lvA L[k]) 43)) (NB.cellv 0 rfl) ((LvR.take hcs hb k).carry AL) (by rw [List.length_take];omega)
   have LO:=fun W=>level_ok L[k] W (HR.out.2 L[k] (List.getElem_mem hkL))
   have hf:((L.take k).any fun l=>decide (l.name=L[k].name))=!fresh L k hkL:=by unfold fresh;rw [Bool.not_not]
   have hlen:(L.take k).length=k:=by rw [List.length_take];omega
   rw [hf,hlen] at PH
   have HBad:Hd ((fresh L k hkL=false∨lvOk L[k]=false)→R=false):=⟨HB.out k hkL⟩
   have HStep:Hd (fresh L k hkL=true→lvOk L[k]=true→∀ j (h:j<L.length),j<k+1→fresh L j h=true∧lvOk L[j]=true):=⟨fun h1 h2 j hj hjk=>by
    rcases Nat.lt_or_eq_of_le (Nat.le_of_lt_succ hjk) with h' | h'
    ·exact hI.out.1 j hj h'
    ·subst h';exact ⟨h1,h2⟩⟩
   have B1:Hd (Below w.heap.size w (wr.alloc (.cells (lvA L[k]) 43))):=⟨hI.out.2.trans (AL.mono hI.out.2.size)⟩
   have HK:Hd (k<n):=⟨hlt⟩
   clear hcs hf hlen AL hI
   generalize fresh L k hkL=fr at *
   generalize L[k]=l at *
   clear hkL
   unfold lvA at PH NB B1 LO
   have i1:(k:Int)<(n:Int):=by omega
   go_upto_region 6 with fail
   generalize wr.alloc _=w1 at *
   generalize wr.heap.size=g at *
   clear x0 x1 x2 x3 x4 x5 x6 x7 x8 x9
   go_wp2_with fail
   go_at_call 126
   refine PH.mono ?_
   rintro e w2 ⟨rfl,b2⟩
   have B2:Hd (Below w.heap.size w w2):=⟨B1.out.trans (b2.mono B1.out.size)⟩
   have N2:=NB.kept (Kept.of_below b2 (fun _=>False)) id
   clear PH NB b2 B1
   cases fr with
   | false =>
    have hR:=HBad.out (.inl rfl)
    subst hR
    go_wp2_with fail
    go_ret
    exact ⟨rfl,B2.out⟩
   | true =>
    have d0:=N2.cellv 0 rfl
    have d1:=N2.cellv 1 rfl
    have d2:=N2.cellv 2 rfl
    have d3:=N2.cellv 3 rfl
    have d4:=N2.cellv 4 rfl
    have d5:=N2.cellv 5 rfl
    have d6:=N2.cellv 6 rfl
    have d7:=N2.cellv 7 rfl
    have d8:=N2.cellv 8 rfl
    have d9:=N2.cellv 9 rfl
    simp at d0 d1 d2 d3 d4 d5 d6 d7 d8 d9
    clear N2
    generalize lvOk l=ok at *
    cases ok with
    | false =>
     have hR:=HBad.out (.inr rfl)
     subst hR
     go_wp2_with (go_at_call 134;refine (LO _).mono ?_;rintro e w3 ⟨rfl,b3⟩)
     go_ret
     exact ⟨rfl,B2.out.trans (b3.mono B2.out.size)⟩
    | true =>
     go_wp2_with (go_at_call 134;refine (LO _).mono ?_;rintro e w3 ⟨rfl,b3⟩)
     have F3:Hd ((∀ j (h:j<L.length),j<k+1→fresh L j h=true∧lvOk L[j]=true)∧Below w.heap.size w w3):=⟨HStep.out (by first | exact rfl | trivial) (by first | exact rfl | trivial),B2.out.trans (b3.mono B2.out.size)⟩
     go_roundw
     case rel=>exact ⟨k+1,HK.out,by go_num,F3⟩
     case measure=>have:=HK.out;simp [intOf];omega
  ·obtain rfl:k=n:=by omega
   have hR:=HG.out fun j h=>hI.out.1 j h (by rw [HN.out];exact h)
   subst hR
   go_wp2_with fail
   go_ret
   exact ⟨rfl,hI.out.2⟩
end Go.Proofs.YthkdbphgiobcdaaGreatDoor

namespace Go.Proofs.YthkdbphgiobcdaaGreatDoor
open Go.RowKit Go.Lib Go.Shelf
theorem tail_len (c:UInt8):∀ r:List (List UInt8),(∀ y∈r,y.length≤64)→(joinTail [c] r).length≤65*r.length
 | [],_=>Nat.le_refl _
 | y :: r,h=>by
  have:=tail_len c r (fun z hz=>h z (List.mem_cons_of_mem _ hz))
  have hy:=h y (List.mem_cons_self ..)
  rw [tail_cons,List.length_cons,List.length_append,List.length_cons]
  omega
theorem join_len {L:List ByteArray} (h:Good L):(join (L.map (·.data.toList)) [44]).length≤140737488355328:=by
 have hw:=good_words h
 have h8:=h.1
 cases L with
 | nil=>exact Nat.zero_le _
 | cons x r =>
  rw [List.map_cons,join_cons,List.length_append]
  have h1:=word_short (hw x (List.mem_cons_self ..))
  rw [←size_list] at h1
  have h2:=tail_len 44 (r.map (·.data.toList)) (fun y hy=>by
   obtain ⟨z,hz,rfl⟩:=List.mem_map.1 hy
   have:=word_short (hw z (List.mem_cons_of_mem _ hz))
   rwa [←size_list] at this)
  rw [List.length_map] at h2
  rw [List.length_cons] at h8
  omega
theorem xJoin:Builder.Extra Tryz.prog Tryz.laysJoin_ren:={ sizeBuilder:=by kernel_rfl,liesBuilder:=by kernel_rfl,t5:=Tryz.underlying5,a5:=Tryz.isAgg5,z5:=Tryz.sizeOf5,v5:=Tryz.zeroValue5,infoByte:=by kernel_rfl,cellsByte:=by kernel_rfl,sizeByte:=by kernel_rfl,neB5:=by decide }
theorem sjoin_any (sp:List UInt8) (a:Option Addr) (c:Nat) (L:List ByteArray) (w:World) (hr:RowL w a L) (hc:L.length≤c) (hn:L.length≤140737488355328) (hne:L≠[]) (hlen:(join (L.map (·.data.toList)) sp).length≤140737488355328) :
  Calls Tryz.prog 59 #[.slice a L.length c,.string (mk sp)] w fun e w'=>e=.returned (.string (mk (join (L.map (·.data.toList)) sp)))∧Below w.heap.size w w':=by
 have hpos:0<L.length:=by cases L with | nil=>exact absurd rfl hne | cons _ _=>simp
 obtain ⟨b,off,rfl,hb,hcs⟩:=hr hpos
 exact Any.strings_Join Tryz.laysJoin xJoin b off c L (mk sp) w (fun j x hj=>by
  have hk:j<L.length:=(List.getElem?_eq_some_iff.1 hj).1
  rw [hcs j hk,gt_eq hk,(List.getElem?_eq_some_iff.1 hj).2]) hb hn hc hlen
theorem sjoin_none (sp:List UInt8) (a:Option Addr) (c:Nat) (w:World) :
  Calls Tryz.prog 59 #[.slice a 0 c,.string (mk sp)] w fun e w'=>e=.returned (.string (mk []))∧Below w.heap.size w w' :=
 Calls.mono (Any.strings_Join_none Tryz.laysJoin xJoin a c (mk sp) w) fun e w' h=>⟨h.1,by rw [h.2];exact Below.refl _ _⟩
theorem sjoin_ok (a:Option Addr) (c:Nat) (L:List ByteArray) (w:World) (hr:RowL w a L) (hc:L.length≤c) (hg:Good L) (hne:L≠[]) :
  Calls Tryz.prog 59 #[.slice a L.length c,.string ⟨#[44]⟩] w fun e w'=>e=.returned (.string (mk (join (L.map (·.data.toList)) [44])))∧Below w.heap.size w w' :=
 sjoin_any [44] a c L w hr hc (by have:=hg.1;omega) hne (join_len hg)
theorem join_ok (a:Option Addr) (c:Nat) (L:List ByteArray) (w:World) (hr:RowL w a L) (hs:Short L) (hc:L.length≤c) (hn:L.length≤9223372036854775807) :
  Calls Tryz.prog 150 #[.slice a L.length c] w fun e w'=>e=.returned (.string (joinB L))∧Below w.heap.size w w':=by
 by_cases h0:L=[]
 ·have e:joinB L=mk [45]:=by unfold joinB;rw [if_pos h0]
  rw [e,h0]
  show Calls Tryz.prog 150 #[.slice a 0 c] w _
  go_enter Tryz.func150,Tryz.ntmps150
  go_wp2_with fail
  go_ret
  exact ⟨rfl,Below.refl _ _⟩
 have hpos:0<L.length:=by cases L with | nil=>exact absurd rfl h0 | cons _ _=>simp
 by_cases h1:L=[mk [42]]
 ·have e:joinB L=mk [42]:=by unfold joinB;rw [if_neg h0,if_pos h1]
  rw [e]
  obtain ⟨b,off,rfl,hb,hcs⟩:=hr hpos
  have hcell:=hcs 0 hpos
  rw [Nat.add_zero,show gt L 0=⟨#[42]⟩ by rw [h1];rfl] at hcell
  rw [h1]
  show Calls Tryz.prog 150 #[.slice (some ⟨b,off,none⟩) 1 c] w _
  clear hcs hr
  go_enter Tryz.func150,Tryz.ntmps150
  go_wp2_with fail
  go_ret
  exact ⟨rfl,Below.refl _ _⟩
 have e:joinB L=if good L then mk (join (L.map (·.data.toList)) [44]) else mk []:=by unfold joinB;rw [if_neg h0,if_neg h1]
 have U:=unlike_ok a c L w hr hs hc hn
 have J:=sjoin_ok a c L w hr hc
 obtain ⟨b,off,rfl,hb,hcs⟩:=hr hpos
 have hcell:=hcs 0 hpos
 rw [Nat.add_zero] at hcell
 clear hcs hr hs
 have HE:Hd (joinB L=if good L then mk (join (L.map (·.data.toList)) [44]) else mk []):=⟨e⟩
 have H1:Hd (L.length=1→gt L 0≠mk [42]):=⟨fun hl e2=>h1 (by
  cases L with
  | nil=>exact absurd rfl h0
  | cons x r =>
   have:r=[]:=by cases r with | nil=>rfl | cons _ _=>simp at hl
   subst this
   rw [show gt [x] 0=x from rfl] at e2
   rw [e2])⟩
 have HJ:Hd (Good L→Calls Tryz.prog 59 #[.slice (some ⟨b,off,none⟩) L.length c,.string ⟨#[44]⟩] w fun e w'=>e=.returned (.string (mk (join (L.map (·.data.toList)) [44])))∧Below w.heap.size w w'):=⟨fun g=>J g h0⟩
 clear e J h1
 generalize hx:joinB L=R at *
 clear hx
 generalize mk (join (L.map (·.data.toList)) [44])=S at *
 have HG:Hd (good L=true→Good L):=⟨good_iff.1⟩
 have hnil:¬ L.length=0:=by omega
 clear h0
 cases hg:good L with
 | false =>
  rw [hg] at U
  have hR:R=mk []:=by rw [HE.out,hg];rfl
  subst hR
  by_cases hl:L.length=1
  ·have ne:((gt L 0).toList == [42])=false:=by have:=str_ne (H1.out hl);rw [ByteArray.toList_eq (mk [42]),mk_list] at this;exact this
   clear HE H1 HJ HG hg
   generalize gt L 0=y at *
   generalize L.length=m at *
   subst hl
   go_enter Tryz.func150,Tryz.ntmps150
   go_wp2_with (go_at_call 171;refine U.mono ?_;rintro e w' ⟨rfl,hw⟩;obtain rfl:=hw.symm)
   go_ret
   exact ⟨rfl,Below.refl _ _⟩
  ·clear HE H1 HJ HG hg
   generalize gt L 0=y at *
   generalize L.length=m at *
   go_enter Tryz.func150,Tryz.ntmps150
   go_wp2_with (go_at_call 171;refine U.mono ?_;rintro e w' ⟨rfl,hw⟩;obtain rfl:=hw.symm)
   go_ret
   exact ⟨rfl,Below.refl _ _⟩
 | true =>
  rw [hg] at U
  have hR:R=S:=by rw [HE.out,hg];rfl
  subst hR
  have J:=HJ.out (HG.out hg)
  by_cases hl:L.length=1
  ·have ne:((gt L 0).toList == [42])=false:=by have:=str_ne (H1.out hl);rw [ByteArray.toList_eq (mk [42]),mk_list] at this;exact this
   clear HE H1 HJ HG hg
   generalize gt L 0=y at *
   generalize L.length=m at *
   subst hl
   go_enter Tryz.func150,Tryz.ntmps150
   go_wp2_with (first
    | (go_at_call 171;refine U.mono ?_;rintro e w' ⟨rfl,hw⟩;obtain rfl:=hw.symm)
    | (go_at_call 59;refine J.mono ?_;rintro e w' ⟨rfl,hb2⟩))
   go_ret
   exact ⟨rfl,hb2⟩
  ·clear HE H1 HJ HG hg
   generalize gt L 0=y at *
   generalize L.length=m at *
   go_enter Tryz.func150,Tryz.ntmps150
   go_wp2_with (first
    | (go_at_call 171;refine U.mono ?_;rintro e w' ⟨rfl,hw⟩;obtain rfl:=hw.symm)
    | (go_at_call 59;refine J.mono ?_;rintro e w' ⟨rfl,hb2⟩))
   go_ret
   exact ⟨rfl,hb2⟩
end Go.Proofs.YthkdbphgiobcdaaGreatDoor
