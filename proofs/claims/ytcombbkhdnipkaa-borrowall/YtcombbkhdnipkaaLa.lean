/-
  The walk of 'BorrowAll'. Conditions: the lists lie in memory.
-/
import Derived.Test.YtcombbkhdnipkaaAw
namespace Go.Proofs.Ytcombbkhdnipkaa
open Go.RowKit

set_option maxRecDepth 20000 in
set_option maxHeartbeats 2000000 in
theorem all_law (total : Int) (a b : Option Addr) (n m c1 c2 : Nat) (G : Nat → Bd) (d : Nat → Dm) (w : World) (hb : BdR w a n G) (hd : DmR w b m d) :
    Calls Try.prog 3 #[.int .i64 total, .slice a n c1, .slice b m c2] w fun e w' => e = .returned (.bool true) ∧ Below w.heap.size w w' := by
  have I := awake_ok w
  by_cases t1 : (64 : Int) < (n : Int)
  · clear hb hd
    go_enter Try.func3, Try.ntmps3
    go_wp2_with (go_at_call 7; refine I.mono ?_; rintro e w1 ⟨rfl, b1⟩)
    go_ret
    exact ⟨rfl, b1⟩
  by_cases t2 : (64 : Int) < (m : Int)
  · clear hb hd
    go_enter Try.func3, Try.ntmps3
    go_wp2_with (go_at_call 7; refine I.mono ?_; rintro e w1 ⟨rfl, b1⟩)
    go_ret
    exact ⟨rfl, b1⟩
  have HL : Hd (∀ W, Below w.heap.size w W → (Calls Try.prog 8 #[.int .i64 total, .slice a n c1, .slice b m c2] W fun e w' => LRes W total n m G d e w') ∧ (Calls Try.prog 9 #[.int .i64 total, .slice a n c1, .slice b m c2] W fun e w' => LRes W total n m G d e w')) := ⟨fun W q => ⟨limits_ok total a b n m c1 c2 G d W (hb.carry q) (hd.carry q) (by omega) (by omega), rlimits_ok total a b n m c1 c2 G d W (hb.carry q) (hd.carry q) (by omega) (by omega)⟩⟩
  clear hb hd
  go_enter Try.func3, Try.ntmps3
  go_wp2_with fail
  go_at_call 7
  refine I.mono ?_
  rintro e w1 ⟨rfl, b1⟩
  clear I
  have J := (HL.out w1 b1).1
  go_wp2_with fail
  go_at_call 8
  refine J.mono ?_
  rintro e w2 h2
  have B2 : Hd (Below w.heap.size w w2) := ⟨b1.trans (h2.bel.mono b1.size)⟩
  have J2 := (HL.out w2 B2.out).2
  clear J b1 HL
  rcases h2.ex with ⟨hnm, hf, a1, k1, rfl, r1⟩ | ⟨hz, rfl⟩
  · have HF : Hd (n = m ∧ Fits total n (mns G) (mxs G) (sms d)) := ⟨hnm, hf⟩
    clear h2 hnm hf
    go_wp2_with fail
    go_at_call 9
    refine J2.mono ?_
    rintro e w3 h3
    obtain ⟨a2, k2, rfl, r2⟩ := h3.yes HF.out.2 HF.out.1
    have S := same_yes _ _ n k1 k2 _ _ _ (r1.carry h3.bel) r2 (by omega) (fun _ _ => rfl)
    have B3 : Hd (Below w.heap.size w w3) := ⟨B2.out.trans (h3.bel.mono B2.out.size)⟩
    clear J2 B2 h3 r1 r2
    go_wp2_with (go_at_call 10; refine S.mono ?_; rintro e w4 ⟨rfl, b4⟩)
    go_ret
    exact ⟨rfl, B3.out.trans (b4.mono B3.out.size)⟩
  · have HZ : Hd ((refI total n n m (mns G) (mxs G) (sms d) == 0) = false) := ⟨hz⟩
    clear h2 hz
    go_wp2_with fail
    go_at_call 9
    refine J2.mono ?_
    rintro e w3 h3
    obtain rfl : e = .returned (.tuple #[.slice none 0 0, .int .i64 (refI total n n m (mns G) (mxs G) (sms d))]) := by
      rcases h3.ex with ⟨hnm, hf, -⟩ | ⟨-, h⟩
      · subst hnm
        have := HZ.out
        rw [hf.zero] at this
        simp at this
      · exact h
    have S := same_yes none none 0 0 0 (fun _ => 0) (fun _ => 0) w3 (fun h => absurd h (Nat.lt_irrefl 0)) (fun h => absurd h (Nat.lt_irrefl 0)) (by omega) (fun _ _ => rfl)
    have B3 : Hd (Below w.heap.size w w3) := ⟨B2.out.trans (h3.bel.mono B2.out.size)⟩
    clear J2 B2 h3 HZ
    generalize refI total n n m (mns G) (mxs G) (sms d) = z at *
    go_wp2_with (go_at_call 10; refine S.mono ?_; rintro e w4 ⟨rfl, b4⟩)
    go_ret
    exact ⟨rfl, B3.out.trans (b4.mono B3.out.size)⟩
end Go.Proofs.Ytcombbkhdnipkaa
