/-
  What 'Limits' of the program answers. Conditions: the lists lie in memory, and are short.
-/
import Derived.Test.YtcombbkhdnipkaaWe
namespace Go.Proofs.Ytcombbkhdnipkaa
open Go.RowKit

/-- What Limits of a program or of the document answers. -/
structure LRes (w : World) (total : Int) (n m : Nat) (G : Nat → Bd) (d : Nat → Dm) (e : Ending) (w' : World) : Prop where
  ex : (n = m ∧ Fits total n (mns G) (mxs G) (sms d) ∧ ∃ a c, e = .returned (.tuple #[.slice a n c, .int .i64 0]) ∧ Row w' a n (part total n (mns G) (mxs G) (sms d))) ∨
    ((refI total n n m (mns G) (mxs G) (sms d) == 0) = false ∧ e = .returned (.tuple #[.slice none 0 0, .int .i64 (refI total n n m (mns G) (mxs G) (sms d))]))
  bel : Below w.heap.size w w'
/-- Where nothing is refused. -/
theorem LRes.yes {w w' : World} {total : Int} {n m : Nat} {G : Nat → Bd} {d : Nat → Dm} {e : Ending} (h : LRes w total n m G d e w') (hf : Fits total n (mns G) (mxs G) (sms d)) (hm : n = m) :
    ∃ a c, e = .returned (.tuple #[.slice a n c, .int .i64 0]) ∧ Row w' a n (part total n (mns G) (mxs G) (sms d)) := by
  subst hm
  rcases h.ex with ⟨-, -, h⟩ | ⟨hn, -⟩
  · exact h
  · rw [hf.zero] at hn; simp at hn

set_option maxHeartbeats 1000000 in
theorem limits_ok (total : Int) (a b : Option Addr) (n m c1 c2 : Nat) (G : Nat → Bd) (d : Nat → Dm) (w : World) (hb : BdR w a n G) (hd : DmR w b m d) (hn : n ≤ 64) (hm : m ≤ 64) :
    Calls Try.prog 8 #[.int .i64 total, .slice a n c1, .slice b m c2] w fun e w' => LRes w total n m G d e w' := by
  have I := ends_ok a n c1 G w hb hn
  have HD : Hd (∀ W, Below w.heap.size w W → Calls Try.prog 15 #[.slice b m c2] W fun e w' => ∃ b, e = .returned (.slice (some ⟨b, 0, none⟩) m m) ∧ W.heap.size ≤ b ∧ Own w' b m (sms d) ∧ Below W.heap.size W w') := ⟨fun W q => smooths_ok b m c2 d W (hd.carry q) hm⟩
  clear hb hd
  go_enter Try.func8, Try.ntmps8
  go_wp2_with fail
  go_at_call 13
  refine I.mono ?_
  rintro e w1 ⟨p, q, rfl, -, ⟨o1, o2⟩, b1⟩
  have J := HD.out w1 b1
  clear I HD
  go_wp2_with fail
  go_at_call 15
  refine J.mono ?_
  rintro e w2 ⟨g, rfl, -, o3, b2⟩
  have B2 : Hd (Below w.heap.size w w2) := ⟨b1.trans (b2.mono b1.size)⟩
  have r1 := (o1.carry b2).row
  have r2 := (o2.carry b2).row
  have r3 := o3.row
  clear o1 o2 o3 b1 b2 J
  by_cases z : refI total n n m (mns G) (mxs G) (sms d) = 0
  · obtain ⟨-, rfl, hf⟩ := refI_zero z
    have S := spread_yes total _ _ _ n n n n _ _ _ w2 r1 r2 r3 hf
    have HF : Hd (Fits total n (mns G) (mxs G) (sms d)) := ⟨hf⟩
    clear r1 r2 r3 z hf
    go_wp2_with fail
    go_at_call 14
    refine S.mono ?_
    rintro e w3 ⟨h, rfl, -, o4, b4⟩
    go_wp2_with fail
    go_ret2
    exact ⟨.inl ⟨rfl, HF.out, _, _, rfl, o4.row⟩, B2.out.trans (b4.mono B2.out.size)⟩
  · have z' : (refI total n n m (mns G) (mxs G) (sms d) == 0) = false := by simpa using z
    have S := spread_no total _ _ _ n n m n n m _ _ _ w2 r1 r2 r3 z'
    have HZ : Hd ((refI total n n m (mns G) (mxs G) (sms d) == 0) = false) := ⟨z'⟩
    clear r1 r2 r3 z z'
    go_wp2_with fail
    go_at_call 14
    refine S.mono ?_
    rintro e w3 ⟨rfl, b4⟩
    go_wp2_with fail
    go_ret2
    exact ⟨.inr ⟨HZ.out, rfl⟩, B2.out.trans (b4.mono B2.out.size)⟩
end Go.Proofs.Ytcombbkhdnipkaa
