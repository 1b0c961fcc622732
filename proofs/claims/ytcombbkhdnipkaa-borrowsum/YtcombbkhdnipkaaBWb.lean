/-
  What 'hundredths', 'inRange', 'bound' of bounds answer. Conditions: the numbers lie where layer 18 has them.
-/
import Derived.Test.YtcombbkhdnipkaaBas
import Derived.Test.YtcombbkhdnipkaaBWalkC
import Derived.Test.YtcombbkhdnipkaaBMathE
namespace Go.Proofs.Ytcombbkhdnipkaa.Bo
open Go.RowKit

theorem hun_prod {n p : Int} (h0 : 0 ≤ n) (h1 : n ≤ 1000) (h2 : 0 ≤ p) (h3 : p ≤ 4096) : 0 ≤ n * p ∧ n * p ≤ 4096000 := by
  have := Int.mul_nonneg h0 h2
  have : n * p ≤ 1000 * 4096 := Int.mul_le_mul h1 h3 h2 (by decide)
  omega

theorem hund_ok (n p : Int) (w : World) (h0 : 0 ≤ n) (h1 : n ≤ 1000) (h2 : 0 ≤ p) (h3 : p ≤ 4096) :
    Calls Try.prog 28 #[.int .i64 n, .int .i64 p] w fun e w' => e = .returned (.int .i64 (n * p / 100)) ∧ w' = w := by
  obtain ⟨m1, m2⟩ := hun_prod h0 h1 h2 h3
  go_enter Try.func28, Try.ntmps28
  go_wp2
  go_ret; exact ⟨rfl, rfl⟩

theorem inRange_ok (l : Lv) (w : World) (b : Bool) (hb : b = true ↔ InR l) :
    Calls Try.prog 19 #[lvV l] w fun e w' => e = .returned (.bool b) ∧ Below w.heap.size w w' := by
  obtain ⟨w1, hw1⟩ : ∃ w1, w1 = w.alloc (.cells (lvA l) 41) := ⟨_, rfl⟩
  have B : Hd (Below w.heap.size w w1) := ⟨by rw [hw1]; exact alloc_below _ _⟩
  have N1 : Blk w1 w.heap.size 41 (lvA l) := by rw [hw1]; exact Blk.new _ _ _
  have c3 := N1.cellv (v := .int .i64 l.lend) 3 rfl
  have c4 := N1.cellv (v := .int .i64 l.borrow) 4 rfl
  clear N1
  unfold InR at hb
  obtain ⟨x0, x1, x2, x3, x4, x5, x6, x7, x8, x9⟩ := l
  simp only at hb c3 c4
  unfold lvA at hw1
  unfold lvV
  simp only at hw1 ⊢
  by_cases t1 : 0 ≤ x3
  · by_cases t2 : x3 ≤ 100
    · by_cases t3 : -1 ≤ x4
      · by_cases t4 : x4 ≤ 1000
        · obtain rfl : b = true := hb.2 ⟨t1, t2, t3, t4⟩
          clear hb
          go_enter Try.func19, Try.ntmps19
          go_upto_region 1 with fail
          rw [← hw1]
          clear hw1
          go_wp2
          go_ret; exact ⟨rfl, B.out⟩
        · obtain rfl : b = false := by cases b with | false => rfl | true => exact absurd (hb.1 rfl).2.2.2 t4
          clear hb
          go_enter Try.func19, Try.ntmps19
          go_upto_region 1 with fail
          rw [← hw1]
          clear hw1
          go_wp2
          go_ret; exact ⟨rfl, B.out⟩
      · obtain rfl : b = false := by cases b with | false => rfl | true => exact absurd (hb.1 rfl).2.2.1 t3
        clear hb
        go_enter Try.func19, Try.ntmps19
        go_upto_region 1 with fail
        rw [← hw1]
        clear hw1
        go_wp2
        go_ret; exact ⟨rfl, B.out⟩
    · obtain rfl : b = false := by cases b with | false => rfl | true => exact absurd (hb.1 rfl).2.1 t2
      clear hb
      go_enter Try.func19, Try.ntmps19
      go_upto_region 1 with fail
      rw [← hw1]
      clear hw1
      go_wp2
      go_ret; exact ⟨rfl, B.out⟩
  · obtain rfl : b = false := by cases b with | false => rfl | true => exact absurd (hb.1 rfl).1 t1
    clear hb
    go_enter Try.func19, Try.ntmps19
    go_upto_region 1 with fail
    rw [← hw1]
    clear hw1
    go_wp2
    go_ret; exact ⟨rfl, B.out⟩

theorem resBd (tmps : Array Value) (w : World) (g : Nat) {b : Bd} (ht : tmps[6]?.getD undef = .pointer (some ⟨g, 0, none⟩)) (h : Blk w g 39 (bdA b)) :
    (results Try.f20 tmps).run Try.prog w = .ok (bdV b) w := by
  have c0 := h.cellv (v := .int .i64 b.nom) 0 rfl
  have c1 := h.cellv (v := .int .i64 b.mn) 1 rfl
  have c2 := h.cellv (v := .int .i64 b.mx) 2 rfl
  simp [results, Try.results20, go_sem, ht, c0, c1, c2, bdV]

theorem bound_ok (total p : Int) (l : Lv) (w : World) (h : InR l) (p0 : 0 ≤ p) (p1 : p ≤ 4096) :
    Calls Try.prog 20 #[.int .i64 total, .int .i64 p, lvV l] w fun e w' => e = .returned (bdV (bdOf total p l)) ∧ Below w.heap.size w w' := by
  obtain ⟨w2, hw2⟩ : ∃ w2, w2 = (w.alloc (.cells (lvA l) 41)).alloc (.cells #[.int .i64 0, .int .i64 0, .int .i64 0] 39) := ⟨_, rfl⟩
  have BX := boxes w 41 39 (lvA l) #[.int .i64 0, .int .i64 0, .int .i64 0]
  rw [← hw2] at BX
  obtain ⟨B, N1, N2⟩ := BX
  have N2' : Hd (Blk w2 (w.heap.size + 1) 39 (bdA ⟨0, 0, 0⟩)) := ⟨N2⟩
  have B' : Hd (Below w.heap.size w w2) := ⟨B⟩
  have c3 := N1.cellv (v := .int .i64 l.lend) 3 rfl
  have c4 := N1.cellv (v := .int .i64 l.borrow) 4 rfl
  have d0 := N2.cellv (v := .int .i64 0) 0 rfl
  have d1 := N2.cellv (v := .int .i64 0) 1 rfl
  have d2 := N2.cellv (v := .int .i64 0) 2 rfl
  have f0 := N2.frozen 0
  have f1 := N2.frozen 1
  have f2 := N2.frozen 2
  clear N1 N2 B
  unfold InR at h
  unfold bdOf
  obtain ⟨x0, x1, x2, x3, x4, x5, x6, x7, x8, x9⟩ := l
  simp only at h c3 c4 ⊢
  obtain ⟨h1, h2, h3, h4⟩ := h
  unfold lvA at hw2
  unfold lvV
  simp only at hw2 ⊢
  obtain ⟨m1, m2⟩ := hun_prod h1 (by omega) p0 p1
  have HL : Hd (∀ W, Calls Try.prog 28 #[.int .i64 x3, .int .i64 p] W fun e w' => e = .returned (.int .i64 (x3 * p / 100)) ∧ w' = W) := ⟨fun W => hund_ok x3 p W h1 (by omega) p0 p1⟩
  by_cases c : 0 ≤ x4
  · rw [if_pos c]
    obtain ⟨m3, m4⟩ := hun_prod c h4 p0 p1
    have HM : Hd (∀ W, Calls Try.prog 28 #[.int .i64 x4, .int .i64 p] W fun e w' => e = .returned (.int .i64 (x4 * p / 100)) ∧ w' = W) := ⟨fun W => hund_ok x4 p W c (by omega) p0 p1⟩
    have n1 : 0 ≤ x3 * p / 100 := by omega
    have n2 : x3 * p / 100 ≤ 40960 := by omega
    have n3 : 0 ≤ x4 * p / 100 := by omega
    have n4 : x4 * p / 100 ≤ 40960 := by omega
    clear m1 m2 m3 m4
    generalize x3 * p / 100 = A at *
    generalize x4 * p / 100 = C at *
    obtain ⟨q1, q2⟩ := bd_set N2'.out p (p - A) (min (p + C) total)
    have Q1 : Hd (Blk _ _ _ _) := ⟨q1⟩
    have Q2 : Hd (Kept _ _ _) := ⟨q2⟩
    clear q1 q2
    go_enter Try.func20, Try.ntmps20
    go_upto_region 1 with fail
    rw [← hw2]
    clear hw2
    go_wp2_with fail
    go_at_call 28
    refine (HM.out _).mono ?_
    rintro e w' ⟨rfl, hw⟩
    obtain rfl := hw.symm
    go_wp2_with fail
    go_at_call 28
    refine (HL.out _).mono ?_
    rintro e w' ⟨rfl, hw⟩
    obtain rfl := hw.symm
    go_wp2_with fail
    refine bodyPost_ret (resBd _ _ _ rfl Q1.out) rfl ?_
    exact ⟨rfl, B'.out.trans (Q2.out.below B'.out.size (fun k e => by rw [e]; omega))⟩
  · rw [if_neg c]
    have n1 : 0 ≤ x3 * p / 100 := by omega
    have n2 : x3 * p / 100 ≤ 40960 := by omega
    clear m1 m2
    generalize x3 * p / 100 = A at *
    obtain ⟨q1, q2⟩ := bd_set N2'.out p (p - A) total
    have Q1 : Hd (Blk _ _ _ _) := ⟨q1⟩
    have Q2 : Hd (Kept _ _ _) := ⟨q2⟩
    clear q1 q2
    go_enter Try.func20, Try.ntmps20
    go_upto_region 1 with fail
    rw [← hw2]
    clear hw2
    go_wp2_with fail
    go_at_call 28
    refine (HL.out _).mono ?_
    rintro e w' ⟨rfl, hw⟩
    obtain rfl := hw.symm
    go_wp2_with fail
    refine bodyPost_ret (resBd _ _ _ rfl Q1.out) rfl ?_
    exact ⟨rfl, B'.out.trans (Q2.out.below B'.out.size (fun k e => by rw [e]; omega))⟩
end Go.Proofs.Ytcombbkhdnipkaa.Bo
