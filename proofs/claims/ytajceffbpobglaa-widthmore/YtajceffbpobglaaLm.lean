/-
  The walk of 'WidthMore'. Conditions: numbers fit their type, the request lies in memory.
-/
import Derived.Test.YtajceffbpobglaaWs
import Derived.Test.YtajceffbpobglaaOrQ
namespace Go.Proofs.Ytajceffbpobglaa
open Go.RowKit

set_option maxRecDepth 20000 in
set_option maxHeartbeats 2000000 in
theorem more_law {x0 x2 x3 x4 : ByteArray} {x5 : Int} {L : List ByteArray} {ag : Option Addr} {ng cg : Nat} (per most other objects : Int) (w : World) (hp : -9223372036854775808 ≤ per) (hp' : per ≤ 9223372036854775807) (hm : -9223372036854775808 ≤ most) (hm' : most ≤ 9223372036854775807) (hr : -9223372036854775808 ≤ other) (hr' : other ≤ 9223372036854775807) (hb : -9223372036854775808 ≤ objects) (hb' : objects ≤ 9223372036854775807) (hq : RqR w (.agg #[.string x0, .slice ag ng cg, .string x2, .string x3, .string x4, .int .i64 x5]) ⟨x0, L, x2, x3, x4, x5⟩) :
    Calls Try.prog 4 #[.int .i64 per, .int .i64 most, .int .i64 other, .int .i64 objects, .agg #[.string x0, .slice ag ng cg, .string x2, .string x3, .string x4, .int .i64 x5]] w fun e w' => e = .returned (.bool true) ∧ Below w.heap.size w w' := by
  obtain ⟨w1, hw1⟩ : ∃ w1, w1 = w.alloc (.cells #[.string x0, .slice ag ng cg, .string x2, .string x3, .string x4, .int .i64 x5] 24) := ⟨_, rfl⟩
  have B1 : Below w.heap.size w w1 := by rw [hw1]; exact alloc_below _ _
  have N1 : Blk w1 w.heap.size 24 #[.string x0, .slice ag ng cg, .string x2, .string x3, .string x4, .int .i64 x5] := by rw [hw1]; exact Blk.new _ _ _
  obtain ⟨o1, o2⟩ := hq.ob
  simp only at o1 o2
  have HW : Hd (∀ W, Below w1.heap.size w1 W → Blk W w.heap.size 24 #[.string x0, .slice ag ng cg, .string x2, .string x3, .string x4, .int .i64 x5] ∧ Below w.heap.size w W) := ⟨fun W b => ⟨N1.kept (Kept.of_below b (fun _ => False)) id, B1.trans (b.mono B1.size)⟩⟩
  have HM0 : Hd (True ∨ ∀ W, Below w1.heap.size w1 W → Calls Try.prog 7 #[.agg #[.string x0, .slice ag ng cg, .string x2, .string x3, .string x4, .int .i64 x5]] W fun e w' => True ∧ Below W.heap.size W w') := ⟨.inl trivial⟩
  clear N1 B1 hq HM0
  have H0 : Hd (∀ W, Calls Try.prog 8 #[.int .i64 per, .int .i64 most, .agg #[.string x0, .slice ag ng cg, .string x2, .string x3, .string x4, .int .i64 x5]] W fun e w' => e = .returned (.int .i64 (seats per most x5 (kd x2) (isS x4))) ∧ Below W.heap.size W w') := ⟨fun W => seats_ok _ _ W hp hp' hm hm' o1 o2⟩
  have H1 : Hd (∀ W, Calls Try.prog 8 #[.int .i64 per, .int .i64 most, .agg #[.string x0, .slice ag ng cg, .string x2, .string x3, .string x4, .int .i64 (max x5 objects)]] W fun e w' => e = .returned (.int .i64 (seats per most (max x5 objects) (kd x2) (isS x4))) ∧ Below W.heap.size W w') := ⟨fun W => seats_ok _ _ W hp hp' hm hm' (by omega) (by omega)⟩
  have H2 : Hd (∀ W, Calls Try.prog 8 #[.int .i64 (min per other), .int .i64 most, .agg #[.string x0, .slice ag ng cg, .string x2, .string x3, .string x4, .int .i64 x5]] W fun e w' => e = .returned (.int .i64 (seats (min per other) most x5 (kd x2) (isS x4))) ∧ Below W.heap.size W w') := ⟨fun W => seats_ok _ _ W (by omega) (by omega) hm hm' o1 o2⟩
  have H3 : Hd (∀ W, Calls Try.prog 8 #[.int .i64 per, .int .i64 (max most other), .agg #[.string x0, .slice ag ng cg, .string x2, .string x3, .string x4, .int .i64 x5]] W fun e w' => e = .returned (.int .i64 (seats per (max most other) x5 (kd x2) (isS x4))) ∧ Below W.heap.size W w') := ⟨fun W => seats_ok _ _ W hp hp' (by omega) (by omega) o1 o2⟩
  obtain ⟨n1, n2⟩ := seats_in per most x5 (kd x2) (isS x4)
  have n3 := (top_in most).2
  have n4 : 0 < most → seats per most x5 (kd x2) (isS x4) ≤ most := fun h => by unfold top at n2; omega
  have m1 : seats per most x5 (kd x2) (isS x4) ≤ seats per most (max x5 objects) (kd x2) (isS x4) := seats_mono (by omega) (by omega) (by omega)
  have m2 : seats per most x5 (kd x2) (isS x4) ≤ seats (min per other) most x5 (kd x2) (isS x4) := seats_mono (by omega) (by omega) (by omega)
  have m3 : seats per most x5 (kd x2) (isS x4) ≤ seats per (max most other) x5 (kd x2) (isS x4) := seats_mono (by omega) (by omega) (by omega)
  have n5 : seats per most x5 (kd x2) (isS x4) ≤ 16 := by omega
  clear n2 n3
  generalize seats per most x5 (kd x2) (isS x4) = z at *
  generalize seats per most (max x5 objects) (kd x2) (isS x4) = z1 at *
  generalize seats (min per other) most x5 (kd x2) (isS x4) = z2 at *
  generalize seats per (max most other) x5 (kd x2) (isS x4) = z3 at *
  have I := awake_ok w1
  go_enter Try.func4, Try.ntmps4
  go_upto_region 1 with fail
  rw [← hw1]
  clear hw1
  obtain ⟨g, hg⟩ : ∃ g, g = w.heap.size := ⟨_, rfl⟩
  rw [← hg]
  have HG : Hd (g = w.heap.size) := ⟨hg⟩
  rw [← hg] at HW
  clear hg
  go_upto_region 3 with (go_at_call 6; refine I.mono ?_; rintro e w2 ⟨rfl, b2⟩)
  have B2 : Hd (Below w1.heap.size w1 w2) := ⟨b2⟩
  clear I b2
  obtain ⟨N2, -⟩ := HW.out w2 B2.out
  have d0 := N2.cellv (v := .string x0) 0 rfl
  have d1 := N2.cellv (v := .slice ag ng cg) 1 rfl
  have d2 := N2.cellv (v := .string x2) 2 rfl
  have d3 := N2.cellv (v := .string x3) 3 rfl
  have d4 := N2.cellv (v := .string x4) 4 rfl
  have d5 := N2.cellv (v := .int .i64 x5) 5 rfl
  have M := H0.out w2
  clear N2 H0
  go_upto_region 4 with (go_at_call 8; refine M.mono ?_; rintro e w3 ⟨rfl, b3⟩)
  have B3 : Hd (Below w1.heap.size w1 w3) := ⟨B2.out.trans (b3.mono B2.out.size)⟩
  clear M d0 d1 d2 d3 d4 d5 b3 B2
  obtain ⟨N3, -⟩ := HW.out w3 B3.out
  have d0 := N3.cellv (v := .string x0) 0 rfl
  have d1 := N3.cellv (v := .slice ag ng cg) 1 rfl
  have d2 := N3.cellv (v := .string x2) 2 rfl
  have d3 := N3.cellv (v := .string x3) 3 rfl
  have d4 := N3.cellv (v := .string x4) 4 rfl
  have d5 := N3.cellv (v := .int .i64 x5) 5 rfl
  have g1 : decide (z < 1) = false := by simp; omega
  have g2 : decide (16 < z) = false := by simp; omega
  have g3 : decide (0 < most) = true → decide (most < z) = false := fun h => by have := n4 (by simpa using h); simp; omega
  clear n4 n1 n5
  by_cases hm0 : 0 < most
  · have c1 : decide (0 < most) = true := by simpa using hm0
    have g3 := g3 c1
    clear hm0
    go_upto_region 6 with fail
    go_upto_region 7 with fail
    have N4 := Blk.new w3 24 #[.string x0, .slice ag ng cg, .string x2, .string x3, .string x4, .int .i64 x5]
    have LE : Hd (w1.heap.size ≤ w3.heap.size) := ⟨B3.out.size⟩
    have B4 : Hd (Below w1.heap.size w1 (w3.alloc (.cells #[.string x0, .slice ag ng cg, .string x2, .string x3, .string x4, .int .i64 x5] 24))) := ⟨B3.out.trans ((alloc_below _ _).mono B3.out.size)⟩
    clear d0 d1 d2 d3 d4 d5 N3 B3
    generalize w3.alloc _ = w4 at *
    generalize w3.heap.size = g4 at *
    have e5 := N4.cellv (v := .int .i64 x5) 5 rfl
    have f5 := N4.frozen 5
    obtain ⟨N4a, -⟩ := HW.out w4 B4.out
    have d5 := N4a.cellv (v := .int .i64 x5) 5 rfl
    have N5 : Blk (w4.setCell ⟨g4, 5, none⟩ (.int .i64 (max x5 objects))) g4 24 #[.string x0, .slice ag ng cg, .string x2, .string x3, .string x4, .int .i64 (max x5 objects)] := N4.set 5 _
    have B5 : Hd (Below w1.heap.size w1 (w4.setCell ⟨g4, 5, none⟩ (.int .i64 (max x5 objects)))) := ⟨B4.out.setCell (p := ⟨g4, 5, none⟩) LE.out _⟩
    clear N4 N4a B4
    go_upto_region 8 with fail
    clear e5 f5 d5
    generalize w4.setCell _ _ = w5 at *
    have HY : Hd (∀ W, Below w5.heap.size w5 W → Blk W g 24 #[.string x0, .slice ag ng cg, .string x2, .string x3, .string x4, .int .i64 x5] ∧ Below g w W) := ⟨fun W b => HW.out W (B5.out.trans (b.mono B5.out.size))⟩
    clear B5 HW LE
    have d0 := N5.cellv (v := .string x0) 0 rfl
    have d1 := N5.cellv (v := .slice ag ng cg) 1 rfl
    have d2 := N5.cellv (v := .string x2) 2 rfl
    have d3 := N5.cellv (v := .string x3) 3 rfl
    have d4 := N5.cellv (v := .string x4) 4 rfl
    have d5 := N5.cellv (v := .int .i64 (max x5 objects)) 5 rfl
    have M := H1.out w5
    clear N5 H1
    have g6 : decide (z ≤ z1) = true := by simpa using m1
    have g7 : decide (z ≤ z2) = true := by simpa using m2
    have g8 : decide (z ≤ z3) = true := by simpa using m3
    clear m1 m2 m3
    go_wp2_with fail
    go_at_call 8
    refine M.mono ?_
    rintro e w6 ⟨rfl, b6⟩
    have B6 : Hd (Below w5.heap.size w5 w6) := ⟨b6⟩
    clear M b6 d0 d1 d2 d3 d4 d5
    obtain ⟨N6, -⟩ := HY.out w6 B6.out
    have d0 := N6.cellv (v := .string x0) 0 rfl
    have d1 := N6.cellv (v := .slice ag ng cg) 1 rfl
    have d2 := N6.cellv (v := .string x2) 2 rfl
    have d3 := N6.cellv (v := .string x3) 3 rfl
    have d4 := N6.cellv (v := .string x4) 4 rfl
    have d5 := N6.cellv (v := .int .i64 x5) 5 rfl
    have M := H2.out w6
    clear N6 H2
    go_wp2_with fail
    go_at_call 8
    refine M.mono ?_
    rintro e w7 ⟨rfl, b7⟩
    have B7 : Hd (Below w5.heap.size w5 w7) := ⟨B6.out.trans (b7.mono B6.out.size)⟩
    clear M b7 B6 d0 d1 d2 d3 d4 d5
    obtain ⟨N7, -⟩ := HY.out w7 B7.out
    have d0 := N7.cellv (v := .string x0) 0 rfl
    have d1 := N7.cellv (v := .slice ag ng cg) 1 rfl
    have d2 := N7.cellv (v := .string x2) 2 rfl
    have d3 := N7.cellv (v := .string x3) 3 rfl
    have d4 := N7.cellv (v := .string x4) 4 rfl
    have d5 := N7.cellv (v := .int .i64 x5) 5 rfl
    have M := H3.out w7
    clear N7 H3
    go_wp2_with fail
    go_at_call 8
    refine M.mono ?_
    rintro e w8 ⟨rfl, b8⟩
    have B8 : Hd (Below w5.heap.size w5 w8) := ⟨B7.out.trans (b8.mono B7.out.size)⟩
    clear M b8 B7 d0 d1 d2 d3 d4 d5
    have HF : Hd (Below w.heap.size w w8) := ⟨by rw [← HG.out]; exact (HY.out w8 B8.out).2⟩
    clear HY B8
    go_wp2_with fail
    go_ret
    exact ⟨rfl, HF.out⟩
  · have c1 : decide (0 < most) = false := by simpa using hm0
    clear hm0 g3
    go_upto_region 6 with fail
    go_upto_region 7 with fail
    have N4 := Blk.new w3 24 #[.string x0, .slice ag ng cg, .string x2, .string x3, .string x4, .int .i64 x5]
    have LE : Hd (w1.heap.size ≤ w3.heap.size) := ⟨B3.out.size⟩
    have B4 : Hd (Below w1.heap.size w1 (w3.alloc (.cells #[.string x0, .slice ag ng cg, .string x2, .string x3, .string x4, .int .i64 x5] 24))) := ⟨B3.out.trans ((alloc_below _ _).mono B3.out.size)⟩
    clear d0 d1 d2 d3 d4 d5 N3 B3
    generalize w3.alloc _ = w4 at *
    generalize w3.heap.size = g4 at *
    have e5 := N4.cellv (v := .int .i64 x5) 5 rfl
    have f5 := N4.frozen 5
    obtain ⟨N4a, -⟩ := HW.out w4 B4.out
    have d5 := N4a.cellv (v := .int .i64 x5) 5 rfl
    have N5 : Blk (w4.setCell ⟨g4, 5, none⟩ (.int .i64 (max x5 objects))) g4 24 #[.string x0, .slice ag ng cg, .string x2, .string x3, .string x4, .int .i64 (max x5 objects)] := N4.set 5 _
    have B5 : Hd (Below w1.heap.size w1 (w4.setCell ⟨g4, 5, none⟩ (.int .i64 (max x5 objects)))) := ⟨B4.out.setCell (p := ⟨g4, 5, none⟩) LE.out _⟩
    clear N4 N4a B4
    go_upto_region 8 with fail
    clear e5 f5 d5
    generalize w4.setCell _ _ = w5 at *
    have HY : Hd (∀ W, Below w5.heap.size w5 W → Blk W g 24 #[.string x0, .slice ag ng cg, .string x2, .string x3, .string x4, .int .i64 x5] ∧ Below g w W) := ⟨fun W b => HW.out W (B5.out.trans (b.mono B5.out.size))⟩
    clear B5 HW LE
    have d0 := N5.cellv (v := .string x0) 0 rfl
    have d1 := N5.cellv (v := .slice ag ng cg) 1 rfl
    have d2 := N5.cellv (v := .string x2) 2 rfl
    have d3 := N5.cellv (v := .string x3) 3 rfl
    have d4 := N5.cellv (v := .string x4) 4 rfl
    have d5 := N5.cellv (v := .int .i64 (max x5 objects)) 5 rfl
    have M := H1.out w5
    clear N5 H1
    have g6 : decide (z ≤ z1) = true := by simpa using m1
    have g7 : decide (z ≤ z2) = true := by simpa using m2
    have g8 : decide (z ≤ z3) = true := by simpa using m3
    clear m1 m2 m3
    go_wp2_with fail
    go_at_call 8
    refine M.mono ?_
    rintro e w6 ⟨rfl, b6⟩
    have B6 : Hd (Below w5.heap.size w5 w6) := ⟨b6⟩
    clear M b6 d0 d1 d2 d3 d4 d5
    obtain ⟨N6, -⟩ := HY.out w6 B6.out
    have d0 := N6.cellv (v := .string x0) 0 rfl
    have d1 := N6.cellv (v := .slice ag ng cg) 1 rfl
    have d2 := N6.cellv (v := .string x2) 2 rfl
    have d3 := N6.cellv (v := .string x3) 3 rfl
    have d4 := N6.cellv (v := .string x4) 4 rfl
    have d5 := N6.cellv (v := .int .i64 x5) 5 rfl
    have M := H2.out w6
    clear N6 H2
    go_wp2_with fail
    go_at_call 8
    refine M.mono ?_
    rintro e w7 ⟨rfl, b7⟩
    have B7 : Hd (Below w5.heap.size w5 w7) := ⟨B6.out.trans (b7.mono B6.out.size)⟩
    clear M b7 B6 d0 d1 d2 d3 d4 d5
    obtain ⟨N7, -⟩ := HY.out w7 B7.out
    have d0 := N7.cellv (v := .string x0) 0 rfl
    have d1 := N7.cellv (v := .slice ag ng cg) 1 rfl
    have d2 := N7.cellv (v := .string x2) 2 rfl
    have d3 := N7.cellv (v := .string x3) 3 rfl
    have d4 := N7.cellv (v := .string x4) 4 rfl
    have d5 := N7.cellv (v := .int .i64 x5) 5 rfl
    have M := H3.out w7
    clear N7 H3
    go_wp2_with fail
    go_at_call 8
    refine M.mono ?_
    rintro e w8 ⟨rfl, b8⟩
    have B8 : Hd (Below w5.heap.size w5 w8) := ⟨B7.out.trans (b8.mono B7.out.size)⟩
    clear M b8 B7 d0 d1 d2 d3 d4 d5
    have HF : Hd (Below w.heap.size w w8) := ⟨by rw [← HG.out]; exact (HY.out w8 B8.out).2⟩
    clear HY B8
    go_wp2_with fail
    go_ret
    exact ⟨rfl, HF.out⟩
end Go.Proofs.Ytajceffbpobglaa
