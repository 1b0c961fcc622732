/-
  The fixed answers of 'awake'. No condition.
-/
import Derived.Test.YtdcloonphnjjpaaWn
namespace Go.Proofs.Ytdcloonphnjjpaa
open Go.RowKit

set_option maxRecDepth 20000 in
theorem awake_ok (w : World) : Calls Try.prog 6 #[] w fun e w' => e = .returned (.bool true) ∧ Below w.heap.size w w' := by
  have A : ∀ W, Calls Try.prog 7 #[.agg #[.int .i64 3, .int .i64 9], .int .i64 5] W fun e w' => e = .returned (.agg #[.int .i64 5, .int .i64 9]) ∧ Below W.heap.size W w' := fun W => by
    have := note_ok 3 9 5 W
    rwa [show max (cnt 3) (cnt 5) = 5 from by decide, show cnt 9 = 9 from by decide] at this
  have B : ∀ W, Calls Try.prog 9 #[.agg #[.int .i64 5, .int .i64 9], .int .i64 2] W fun e w' => e = .returned (.agg #[.int .i64 2, .int .i64 8]) ∧ Below W.heap.size W w' := fun W => by
    have := turn_ok 5 9 2 W
    rwa [show smo (cnt 5) (cnt 9) = 8 from by decide, show cnt 2 = 2 from by decide] at this
  have A' := A w
  have HB : Hd (∀ W, Calls Try.prog 9 #[.agg #[.int .i64 5, .int .i64 9], .int .i64 2] W fun e w' => e = .returned (.agg #[.int .i64 2, .int .i64 8]) ∧ Below W.heap.size W w') := ⟨B⟩
  clear A B
  go_enter Try.func6, Try.ntmps6
  go_wp2_with fail
  go_at_call 7
  refine A'.mono ?_
  rintro e w1 ⟨rfl, b1⟩
  have H1 : Hd (Below w.heap.size w w1) := ⟨b1⟩
  have B' := HB.out w1
  clear b1 A' HB
  go_wp2_with fail
  go_at_call 9
  refine B'.mono ?_
  rintro e w2 ⟨rfl, b2⟩
  have H2 : Hd (Below w.heap.size w w2) := ⟨H1.out.trans (b2.mono H1.out.size)⟩
  clear b2 B' H1
  go_wp2_with fail
  go_ret
  exact ⟨rfl, H2.out⟩
end Go.Proofs.Ytdcloonphnjjpaa
