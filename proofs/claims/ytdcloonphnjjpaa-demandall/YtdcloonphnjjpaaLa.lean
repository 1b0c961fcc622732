/-
  The walk of 'DemandAll'. No condition.
-/
import Derived.Test.YtdcloonphnjjpaaAw
import Derived.Test.YtdcloonphnjjpaaRn
namespace Go.Proofs.Ytdcloonphnjjpaa
open Go.RowKit

set_option maxRecDepth 20000 in
set_option maxHeartbeats 2000000 in
theorem all_law (h s n : Int) (w : World) :
    Calls Try.prog 3 #[.agg #[.int .i64 h, .int .i64 s], .int .i64 n] w fun e w' => e = .returned (.bool true) ∧ Below w.heap.size w w' := by
  obtain ⟨w1, hw1⟩ : ∃ w1, w1 = w.alloc (.cells #[.int .i64 h, .int .i64 s] 23) := ⟨_, rfl⟩
  have B1 : Hd (Below w.heap.size w w1) := ⟨by rw [hw1]; exact alloc_below _ _⟩
  have N1 : Hd (Blk w1 w.heap.size 23 (dmA h s)) := ⟨by rw [hw1]; exact Blk.new _ _ _⟩
  obtain ⟨g, hg⟩ : ∃ g, w.heap.size = g := ⟨_, rfl⟩
  rw [hg] at N1
  have NT : Hd (∀ W, Calls Try.prog 7 #[.agg #[.int .i64 h, .int .i64 s], .int .i64 n] W fun e w' => e = .returned (.agg #[.int .i64 (max (cnt h) (cnt n)), .int .i64 (cnt s)]) ∧ Below W.heap.size W w') := ⟨note_ok h s n⟩
  have RN : Hd (∀ W, Calls Try.prog 8 #[.agg #[.int .i64 h, .int .i64 s], .int .i64 n] W fun e w' => e = .returned (.agg #[.int .i64 (max (cnt h) (cnt n)), .int .i64 (cnt s)]) ∧ Below W.heap.size W w') := ⟨rnote_ok h s n⟩
  have TN : Hd (∀ W, Calls Try.prog 9 #[.agg #[.int .i64 h, .int .i64 s], .int .i64 n] W fun e w' => e = .returned (.agg #[.int .i64 (cnt n), .int .i64 (smo (cnt h) (cnt s))]) ∧ Below W.heap.size W w') := ⟨turn_ok h s n⟩
  have RT : Hd (∀ W, Calls Try.prog 10 #[.agg #[.int .i64 h, .int .i64 s], .int .i64 n] W fun e w' => e = .returned (.agg #[.int .i64 (cnt n), .int .i64 (smo (cnt h) (cnt s))]) ∧ Below W.heap.size W w') := ⟨rturn_ok h s n⟩
  generalize smo (cnt h) (cnt s) = u at *
  generalize max (cnt h) (cnt n) = m at *
  generalize cnt s = y at *
  generalize cnt n = z at *
  have X : Hd (∀ W, Below w1.heap.size w1 W → W.cell? ⟨g, 0, none⟩ = some (.int .i64 h) ∧ W.cell? ⟨g, 1, none⟩ = some (.int .i64 s)) := ⟨fun W b => (N1.out.kept (Kept.of_below b (fun _ => False)) id).two.1⟩
  clear N1
  go_enter Try.func3, Try.ntmps3
  go_upto_region 1 with fail
  rw [← hw1]
  clear hw1 hg
  have A := awake_ok w1.drew
  have D1 : Below w1.heap.size w1 w1.drew := (Below.refl _ _).drew
  refine AnyG.start (T := fun W => Below w1.heap.size w1 W) (U := fun _ => True) (j0 := 100) (by kernel_rfl) ?_
  generalize w1.drew = w2 at *
  refine AnyG.ready (rs := [0]) (by kernel_rfl) (by simp) ?_
  refine AllG.cons rfl (fun K hK => ?_) AllG.nil
  go_simp
  refine (A).mono ?_
  rintro e w3 ⟨rfl, b⟩
  have D2 : Below w1.heap.size w1 w3 := D1.trans (b.mono D1.size)
  refine hK.out _ _ ⟨D2, fun _ => trivial⟩ ?_
  clear hK K b D1
  refine .tq 1 6 D2 ?_ ; simp only [tkA, tkB, tkC]
  refine .tq 2 7 D2 ?_ (hy := fun w hSw => by obtain ⟨s0, s1⟩ := X.out w hSw; go_simp; rfl); simp only [tkA, tkB, tkC]
  refine .tq 3 8 D2 ?_ ; simp only [tkA, tkB, tkC]
  refine .tq 5 10 D2 ?_ (hy := fun w hSw => by obtain ⟨s0, s1⟩ := X.out w hSw; go_simp; rfl); simp only [tkA, tkB, tkC]
  refine .tq 6 11 D2 ?_ ; simp only [tkA, tkB, tkC]
  refine AnyG.ready (rs := [4]) (by kernel_rfl) (by simp) ?_
  refine AllG.cons rfl (fun K hK => ?_) AllG.nil
  go_simp
  refine (NT.out _).mono ?_
  rintro e w4 ⟨rfl, b⟩
  have D3 : Below w1.heap.size w1 w4 := D2.trans (b.mono D2.size)
  refine hK.out _ _ ⟨D3, fun _ => trivial⟩ ?_
  clear hK K b D2
  refine AnyG.ready (rs := [7]) (by kernel_rfl) (by simp) ?_
  refine AllG.cons rfl (fun K hK => ?_) AllG.nil
  go_simp
  refine (RN.out _).mono ?_
  rintro e w5 ⟨rfl, b⟩
  have D4 : Below w1.heap.size w1 w5 := D3.trans (b.mono D3.size)
  refine hK.out _ _ ⟨D4, fun _ => trivial⟩ ?_
  clear hK K b D3
  refine .tq (v := .bool true) 8 13 D4 ?_ (hy := fun w hSw => by go_simp); simp only [tkA, tkB, tkC]
  refine .tq 9 14 D4 ?_ ; simp only [tkA, tkB, tkC]
  refine .tq 10 15 D4 ?_ ; simp only [tkA, tkB, tkC]
  refine .tq 11 16 D4 ?_ (hy := fun w hSw => by obtain ⟨s0, s1⟩ := X.out w hSw; go_simp; rfl); simp only [tkA, tkB, tkC]
  refine .tq 12 17 D4 ?_ ; simp only [tkA, tkB, tkC]
  refine .tq 14 19 D4 ?_ (hy := fun w hSw => by obtain ⟨s0, s1⟩ := X.out w hSw; go_simp; rfl); simp only [tkA, tkB, tkC]
  refine .tq 15 20 D4 ?_ ; simp only [tkA, tkB, tkC]
  refine AnyG.ready (rs := [13]) (by kernel_rfl) (by simp) ?_
  refine AllG.cons rfl (fun K hK => ?_) AllG.nil
  go_simp
  refine (TN.out _).mono ?_
  rintro e w6 ⟨rfl, b⟩
  have D5 : Below w1.heap.size w1 w6 := D4.trans (b.mono D4.size)
  refine hK.out _ _ ⟨D5, fun _ => trivial⟩ ?_
  clear hK K b D4
  refine AnyG.ready (rs := [16]) (by kernel_rfl) (by simp) ?_
  refine AllG.cons rfl (fun K hK => ?_) AllG.nil
  go_simp
  refine (RT.out _).mono ?_
  rintro e w7 ⟨rfl, b⟩
  have D6 : Below w1.heap.size w1 w7 := D5.trans (b.mono D5.size)
  refine hK.out _ _ ⟨D6, fun _ => trivial⟩ ?_
  clear hK K b D5
  refine .tq (v := .bool true) 17 22 D6 ?_ (hy := fun w hSw => by go_simp); simp only [tkA, tkB, tkC]
  refine .tq 18 23 D6 ?_ ; simp only [tkA, tkB, tkC]
  refine .tq 19 4 D6 ?_ ; simp only [tkA, tkB, tkC]
  refine AnyG.done (by kernel_rfl) ?_ _
  have HF : Hd (Below w.heap.size w w7) := ⟨B1.out.trans (D6.mono B1.out.size)⟩
  go_wp2_with fail
  go_ret
  exact ⟨rfl, HF.out⟩
end Go.Proofs.Ytdcloonphnjjpaa
