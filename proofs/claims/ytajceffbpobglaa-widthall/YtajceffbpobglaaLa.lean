/-
  The walk of 'WidthAll'. Conditions: numbers fit their type, the request lies in memory.
-/
import Derived.Test.YtajceffbpobglaaWs
import Derived.Test.YtajceffbpobglaaRf
import Derived.Test.YtajceffbpobglaaSq
import Derived.Test.YtajceffbpobglaaOrQ
namespace Go.Proofs.Ytajceffbpobglaa
open Go.RowKit

set_option maxRecDepth 20000 in
set_option maxHeartbeats 2000000 in
theorem all_law {x0 x2 x3 x4 : ByteArray} {x5 : Int} {L : List ByteArray} {ag : Option Addr} {ng cg : Nat} (per most : Int) (w : World) (hp : -9223372036854775808 ≤ per) (hp' : per ≤ 9223372036854775807) (hm : -9223372036854775808 ≤ most) (hm' : most ≤ 9223372036854775807) (hq : RqR w (.agg #[.string x0, .slice ag ng cg, .string x2, .string x3, .string x4, .int .i64 x5]) ⟨x0, L, x2, x3, x4, x5⟩) :
    Calls Try.prog 3 #[.int .i64 per, .int .i64 most, .agg #[.string x0, .slice ag ng cg, .string x2, .string x3, .string x4, .int .i64 x5]] w fun e w' => e = .returned (.bool true) ∧ Below w.heap.size w w' := by
  obtain ⟨w1, hw1⟩ : ∃ w1, w1 = w.alloc (.cells #[.string x0, .slice ag ng cg, .string x2, .string x3, .string x4, .int .i64 x5] 24) := ⟨_, rfl⟩
  have B1 : Below w.heap.size w w1 := by rw [hw1]; exact alloc_below _ _
  have N1 : Blk w1 w.heap.size 24 #[.string x0, .slice ag ng cg, .string x2, .string x3, .string x4, .int .i64 x5] := by rw [hw1]; exact Blk.new _ _ _
  obtain ⟨o1, o2⟩ := hq.ob
  simp only at o1 o2
  have HW : Hd (∀ W, Below w1.heap.size w1 W → Blk W w.heap.size 24 #[.string x0, .slice ag ng cg, .string x2, .string x3, .string x4, .int .i64 x5] ∧ Below w.heap.size w W) := ⟨fun W b => ⟨N1.kept (Kept.of_below b (fun _ => False)) id, B1.trans (b.mono B1.size)⟩⟩
  have HM : Hd (∀ W, Below w1.heap.size w1 W → Calls Try.prog 7 #[.agg #[.string x0, .slice ag ng cg, .string x2, .string x3, .string x4, .int .i64 x5]] W fun e w' => IsQ e ∧ Below W.heap.size W w') := ⟨fun W b => smallQ_ok _ _ W (hq.carry (B1.trans (b.mono B1.size)))⟩
  clear N1 B1 hq
  have HS : Hd (∀ W, Calls Try.prog 8 #[.int .i64 per, .int .i64 most, .agg #[.string x0, .slice ag ng cg, .string x2, .string x3, .string x4, .int .i64 x5]] W fun e w' => e = .returned (.int .i64 (seats per most x5 (kd x2) (isS x4))) ∧ Below W.heap.size W w') := ⟨fun W => seats_ok per most W hp hp' hm hm' o1 o2⟩
  have HR : Hd (∀ W, Calls Try.prog 9 #[.int .i64 per, .int .i64 most, .agg #[.string x0, .slice ag ng cg, .string x2, .string x3, .string x4, .int .i64 x5]] W fun e w' => e = .returned (.int .i64 (seats per most x5 (kd x2) (isS x4))) ∧ Below W.heap.size W w') := ⟨fun W => rseats_ok per most W hp hp' hm hm' o1 o2⟩
  generalize seats per most x5 (kd x2) (isS x4) = z at *
  have I := awake_ok w1
  go_enter Try.func3, Try.ntmps3
  go_upto_region 1 with fail
  rw [← hw1]
  clear hw1
  obtain ⟨g, hg⟩ : ∃ g, g = w.heap.size := ⟨_, rfl⟩
  rw [← hg]
  have HG : Hd (g = w.heap.size) := ⟨hg⟩
  rw [← hg] at HW
  clear hg
  go_upto_region 3 with (go_at_call 6; refine I.mono ?_; rintro e w2 ⟨rfl, b2⟩)
  have B2 : Hd (Below w1.heap.size w1 w2) := ⟨b2⟩
  clear I b2
  have X : Hd (∀ W, Below w1.heap.size w1 W → W.cell? ⟨g, 0, none⟩ = some (.string x0) ∧ W.cell? ⟨g, 1, none⟩ = some (.slice ag ng cg) ∧ W.cell? ⟨g, 2, none⟩ = some (.string x2) ∧ W.cell? ⟨g, 3, none⟩ = some (.string x3) ∧ W.cell? ⟨g, 4, none⟩ = some (.string x4) ∧ W.cell? ⟨g, 5, none⟩ = some (.int .i64 x5)) := ⟨fun W b => by
    have N2 := (HW.out W b).1
    exact ⟨N2.cellv 0 rfl, N2.cellv 1 rfl, N2.cellv 2 rfl, N2.cellv 3 rfl, N2.cellv 4 rfl, N2.cellv 5 rfl⟩⟩
  have B3 : Below w1.heap.size w1 w2.drew := B2.out.drew
  clear B2
  refine AnyG.start (T := fun W => Below w1.heap.size w1 W) (U := fun _ => True) (j0 := 100) (by kernel_rfl) ?_
  generalize w2.drew = w3 at *
  refine .tq 0 9 B3 ?_ (hy := fun w hSw => by obtain ⟨s0, s1, s2, s3, s4, s5⟩ := X.out w hSw; go_simp; rfl); simp only [tkA, tkB, tkC]
  refine AnyG.ready (rs := [1]) (by kernel_rfl) (by simp) ?_
  refine AllG.cons rfl (fun K hK => ?_) AllG.nil
  go_simp
  refine (HM.out w3 B3).mono ?_
  rintro e w4 ⟨hb, b4⟩
  obtain ⟨bs, rfl⟩ := hb.ex
  have B4 : Below w1.heap.size w1 w4 := B3.trans (b4.mono B3.size)
  refine hK.out _ _ ⟨B4, fun _ => trivial⟩ ?_
  clear hK K HM b4 B3 hb
  cases bs with
  | false =>
    refine .tq 2 11 B4 ?_ ; simp only [tkA, tkB, tkC]
    refine .tq 3 12 B4 ?_ ; simp only [tkA, tkB, tkC]
    refine .sq 4 13 B4 ?_; simp only [tkA, tkB, tkC]
    refine .sq 5 14 B4 ?_; simp only [tkA, tkB, tkC]
    refine .sq 6 15 B4 ?_; simp only [tkA, tkB, tkC]
    refine .sq 7 16 B4 ?_; simp only [tkA, tkB, tkC]
    refine .sq 8 17 B4 ?_; simp only [tkA, tkB, tkC]
    refine .sq 9 18 B4 ?_; simp only [tkA, tkB, tkC]
    refine .sq 10 19 B4 ?_; simp only [tkA, tkB, tkC]
    refine .sq 11 20 B4 ?_; simp only [tkA, tkB, tkC]
    refine .sq 12 21 B4 ?_; simp only [tkA, tkB, tkC]
    refine .tq 13 22 B4 ?_ ; simp only [tkA, tkB, tkC]
    refine .tq 14 6 B4 ?_ ; simp only [tkA, tkB, tkC]
    refine AnyG.done (by kernel_rfl) ?_ _
    have HF : Hd (Below w.heap.size w w4) := ⟨by rw [← HG.out]; exact (HW.out w4 B4).2⟩
    go_wp2_with fail
    go_ret
    exact ⟨rfl, HF.out⟩
  | true =>
    refine .tq 2 11 B4 ?_ ; simp only [tkA, tkB, tkC]
    refine .tq 3 12 B4 ?_ ; simp only [tkA, tkB, tkC]
    refine .tq 4 13 B4 ?_ ; simp only [tkA, tkB, tkC]
    refine .tq 5 14 B4 ?_ ; simp only [tkA, tkB, tkC]
    refine .tq 6 15 B4 ?_ (hy := fun w hSw => by obtain ⟨s0, s1, s2, s3, s4, s5⟩ := X.out w hSw; go_simp; rfl); simp only [tkA, tkB, tkC]
    refine .tq 8 17 B4 ?_ ; simp only [tkA, tkB, tkC]
    refine .tq 9 18 B4 ?_ ; simp only [tkA, tkB, tkC]
    refine .tq 10 19 B4 ?_ (hy := fun w hSw => by obtain ⟨s0, s1, s2, s3, s4, s5⟩ := X.out w hSw; go_simp; rfl); simp only [tkA, tkB, tkC]
    refine AnyG.ready (rs := [7]) (by kernel_rfl) (by simp) ?_
    refine AllG.cons rfl (fun K hK => ?_) AllG.nil
    go_simp
    refine (HS.out w4).mono ?_
    rintro e w5 ⟨rfl, b5⟩
    have B5 : Below w1.heap.size w1 w5 := B4.trans (b5.mono B4.size)
    refine hK.out _ _ ⟨B5, fun _ => trivial⟩ ?_
    clear hK K HS b5 B4
    refine AnyG.ready (rs := [11]) (by kernel_rfl) (by simp) ?_
    refine AllG.cons rfl (fun K hK => ?_) AllG.nil
    go_simp
    refine (HR.out w5).mono ?_
    rintro e w6 ⟨rfl, b6⟩
    have B6 : Below w1.heap.size w1 w6 := B5.trans (b6.mono B5.size)
    refine hK.out _ _ ⟨B6, fun _ => trivial⟩ ?_
    clear hK K HR b6 B5
    refine .tq (v := .bool true) 12 21 B6 ?_ (hy := fun w hSw => by go_simp); simp only [tkA, tkB, tkC]
    refine .tq 13 22 B6 ?_ ; simp only [tkA, tkB, tkC]
    refine .tq 14 6 B6 ?_ ; simp only [tkA, tkB, tkC]
    refine AnyG.done (by kernel_rfl) ?_ _
    have HF : Hd (Below w.heap.size w w6) := ⟨by rw [← HG.out]; exact (HW.out w6 B6).2⟩
    go_wp2_with fail
    go_ret
    exact ⟨rfl, HF.out⟩
end Go.Proofs.Ytajceffbpobglaa
