/-
  The walk of 'DemandKeeps'. Conditions: numbers fit their type.
-/
import Derived.Test.YtdcloonphnjjpaaAw
namespace Go.Proofs.Ytdcloonphnjjpaa
open Go.RowKit

set_option maxRecDepth 20000 in
set_option maxHeartbeats 2000000 in
theorem keeps_law (hi sm n : Int) (w : World) :
    Calls Try.prog 4 #[.int .i64 hi, .int .i64 sm, .int .i64 n] w fun e w' => e = .returned (.bool true) ∧ Below w.heap.size w w' := by
  have A := awake_ok w
  have NT : Hd (∀ W, Calls Try.prog 7 #[.agg #[.int .i64 0, .int .i64 sm], .int .i64 hi] W fun e w' => e = .returned (.agg #[.int .i64 (cnt hi), .int .i64 (cnt sm)]) ∧ Below W.heap.size W w') := ⟨fun W => by
    have := note_ok 0 sm hi W
    rwa [show max (cnt 0) (cnt hi) = cnt hi from by unfold cnt; omega] at this⟩
  have TN : Hd (∀ W, Calls Try.prog 9 #[.agg #[.int .i64 (cnt hi), .int .i64 (cnt sm)], .int .i64 n] W fun e w' => e = .returned (.agg #[.int .i64 (cnt n), .int .i64 (smo (cnt hi) (cnt sm))]) ∧ Below W.heap.size W w') := ⟨fun W => by
    have := turn_ok (cnt hi) (cnt sm) n W
    rwa [cnt_cnt, cnt_cnt] at this⟩
  have g1 : cnt hi ≤ smo (cnt hi) (cnt sm) := smo_lo
  have g2 : smo (cnt hi) (cnt sm) ≤ max (cnt hi) (cnt sm) := smo_hi
  have g3 : cnt sm ≤ cnt hi ∨ smo (cnt hi) (cnt sm) < cnt sm := by
    by_cases c : cnt sm ≤ cnt hi
    · exact .inl c
    · exact .inr (smo_lt c)
  have E1 : Hd (min (max hi 0) 1048576 = cnt hi) := ⟨rfl⟩
  have E2 : Hd (min (max sm 0) 1048576 = cnt sm) := ⟨rfl⟩
  have E3 : Hd (min (max n 0) 1048576 = cnt n) := ⟨rfl⟩
  generalize smo (cnt hi) (cnt sm) = u at *
  generalize cnt hi = x at *
  generalize cnt sm = y at *
  generalize cnt n = z at *
  go_enter Try.func4, Try.ntmps4
  go_upto_region 3 with (go_at_call 6; refine A.mono ?_; rintro e w1 ⟨rfl, b1⟩)
  have H1 : Hd (Below w.heap.size w w1) := ⟨b1⟩
  clear b1 A
  have N1 := NT.out w1
  go_wp2_with fail
  go_at_call 7
  refine N1.mono ?_
  rintro e w2 ⟨rfl, b2⟩
  have H2 : Hd (Below w.heap.size w w2) := ⟨H1.out.trans (b2.mono H1.out.size)⟩
  clear b2 N1 H1 NT
  have T1 := TN.out w2
  go_wp2_with fail
  go_at_call 9
  refine T1.mono ?_
  rintro e w3 ⟨rfl, b3⟩
  have H3 : Hd (Below w.heap.size w w3) := ⟨H2.out.trans (b3.mono H2.out.size)⟩
  clear b3 T1 H2 TN
  go_upto_region 5 with fail
  rw [E1.out, E2.out]
  have N3 := Blk.new w3 23 #[.int .i64 z, .int .i64 u]
  have c0 := N3.cellv (v := .int .i64 z) 0 rfl
  have c1 := N3.cellv (v := .int .i64 u) 1 rfl
  have H4 : Hd (Below w.heap.size w (w3.alloc (.cells #[.int .i64 z, .int .i64 u] 23))) := ⟨H3.out.trans ((alloc_below _ _).mono H3.out.size)⟩
  clear N3 H3 E1 E2
  have e3 := E3.out
  clear E3
  generalize w3.alloc _ = w4 at *
  generalize w3.heap.size = g at *
  rcases g3 with g3 | g3
  · go_wp2_with fail
    go_ret
    exact ⟨rfl, H4.out⟩
  · go_wp2_with fail
    go_ret
    exact ⟨rfl, H4.out⟩
end Go.Proofs.Ytdcloonphnjjpaa
