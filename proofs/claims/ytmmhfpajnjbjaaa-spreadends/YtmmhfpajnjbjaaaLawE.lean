/-
  What 'SpreadEnds' of the statements answers: true, for all lists that lie in memory. No other condition.
-/
import Derived.Test.YtmmhfpajnjbjaaaWalkD
namespace Go.Proofs.Ytmmhfpajnjbjaaa
open Go.RowKit

theorem part_least {n : Nat} {lo hi want : Nat → Int} (k : Nat) : part (sumTo lo n) n lo hi want k = lo k := by
  unfold part
  rw [show (sumTo lo n - sumTo lo n).toNat = 0 by omega]
  rfl

theorem part_most {n : Nat} {lo hi want : Nat → Int} (h : Fits (sumTo hi n) n lo hi want) : ∀ k, k < n → part (sumTo hi n) n lo hi want k = hi k :=
  sumTo_meet n (fun k hk => (h.last.between k hk).2) h.sum

theorem ends_far (a b d : Option Addr) (n m l c1 c2 c3 : Nat) (w : World) (h : (64 : Int) < (n : Int) ∨ (64 : Int) < (m : Int) ∨ (64 : Int) < (l : Int)) :
    Calls Try.prog 7 #[.slice a n c1, .slice b m c2, .slice d l c3] w fun e w' => e = .returned (.bool true) ∧ Below w.heap.size w w' := by
  have L := fun v => long_any a b d n m l c1 c2 c3 v
  rw [decide_eq_true h] at L
  go_enter Try.func7, Try.ntmps7
  go_wp2_with (first
    | (go_at_call 9; refine (awake_any _).mono ?_; rintro e w1 ⟨rfl, hb1⟩)
    | (go_at_call 10; refine (L _).mono ?_; rintro e w' ⟨rfl, hw⟩; obtain rfl := hw.symm))
  go_ret; exact ⟨rfl, hb1⟩

set_option maxRecDepth 20000 in
set_option maxHeartbeats 2000000 in
theorem ends_near (a b d : Option Addr) (n m l c1 c2 c3 : Nat) (lo hi want : Nat → Int) (w : World) (r1 : Row w a n lo) (r2 : Row w b m hi) (r3 : Row w d l want) (hn : n ≤ 64) (hm : m ≤ 64) (hl : l ≤ 64) :
    Calls Try.prog 7 #[.slice a n c1, .slice b m c2, .slice d l c3] w fun e w' => e = .returned (.bool true) ∧ Below w.heap.size w w' := by
  have L := fun v => long_any a b d n m l c1 c2 c3 v
  rw [decide_eq_false (show ¬ ((64 : Int) < (n : Int) ∨ (64 : Int) < (m : Int) ∨ (64 : Int) < (l : Int)) by omega)] at L
  go_enter Try.func7, Try.ntmps7
  go_wp2_with (first
    | (go_at_call 9; refine (awake_any _).mono ?_; rintro e w1 ⟨rfl, hb1⟩)
    | (go_at_call 10; refine (L _).mono ?_; rintro e w' ⟨rfl, hw⟩; obtain rfl := hw.symm))
  have q1 := r1.carry hb1
  have q2 := r2.carry hb1
  have q3 := r3.carry hb1
  clear r1 r2 r3 L
  go_loop [7, 9] (fun s i => ∃ k : Nat, k ≤ n ∧ i = .int .i64 k ∧ s = .int .i64 (sumTo lo k) ∧ Hid (∀ j, j < k → 0 ≤ lo j ∧ lo j ≤ 4096)) (fun _ i => n - (intOf i).toNat)
  case atStart => exact ⟨0, Nat.zero_le _, rfl, rfl, fun j hj => absurd hj (Nat.not_lt_zero _)⟩
  case round =>
    obtain ⟨k, hk, rfl, rfl, hall⟩ := hrel
    obtain ⟨s1, s2⟩ := sumTo_le hall.out k (Nat.le_refl _)
    by_cases hlt : k < n
    · obtain ⟨b1, o1', rfl, hc1, hd1⟩ := q1 (by omega)
      have hcell := hd1 k hlt
      have hlt' : (k : Int) < (n : Int) := by omega
      clear hd1 q1 q2 q3
      by_cases t1 : lo k < 0
      · go_wp2
        go_ret; exact ⟨rfl, hb1⟩
      by_cases t2 : 4096 < lo k
      · go_wp2
        go_ret; exact ⟨rfl, hb1⟩
      go_wp2
      go_round
      case rel =>
        refine ⟨k + 1, by omega, by go_num, by simp [sumTo], fun j hj => ?_⟩
        rcases Nat.lt_or_eq_of_le (Nat.le_of_lt_succ hj) with h | rfl
        · exact hall.out j h
        · exact ⟨by omega, by omega⟩
      case measure => simp [intOf]; omega
    · obtain rfl : k = n := by omega
      go_wp2
      go_loop [8, 10] (fun s i => ∃ j : Nat, j ≤ m ∧ i = .int .i64 j ∧ s = .int .i64 (sumTo hi j) ∧ Hid (∀ i, i < j → 0 ≤ hi i ∧ hi i ≤ 4096)) (fun _ i => m - (intOf i).toNat)
      case atStart => exact ⟨0, Nat.zero_le _, rfl, rfl, fun j hj => absurd hj (Nat.not_lt_zero _)⟩
      case round =>
        obtain ⟨j, hj, rfl, rfl, hall2⟩ := hrel
        obtain ⟨s3, s4⟩ := sumTo_le hall2.out j (Nat.le_refl _)
        by_cases hlt2 : j < m
        · obtain ⟨b2, o2', rfl, hc2, hd2⟩ := q2 (by omega)
          have hcell := hd2 j hlt2
          have hlt' : (j : Int) < (m : Int) := by omega
          clear hd2 q1 q2 q3
          by_cases t1 : hi j < 0
          · go_wp2
            go_ret; exact ⟨rfl, hb1⟩
          by_cases t2 : 4096 < hi j
          · go_wp2
            go_ret; exact ⟨rfl, hb1⟩
          go_wp2
          go_round
          case rel =>
            refine ⟨j + 1, by omega, by go_num, by simp [sumTo], fun i hi' => ?_⟩
            rcases Nat.lt_or_eq_of_le (Nat.le_of_lt_succ hi') with h | rfl
            · exact hall2.out i h
            · exact ⟨by omega, by omega⟩
          case measure => simp [intOf]; omega
        · obtain rfl : j = m := by omega
          by_cases z1 : refI (sumTo lo k) k j l lo hi want = 0
          · obtain ⟨rfl, rfl, hf1⟩ := refI_zero z1
            by_cases z2 : refI (sumTo hi k) k k k lo hi want = 0
            · have hf2 := (refI_zero z2).2.2
              clear z1 z2 s1 s2 s3 s4
              go_wp2_with fail
              go_at_call 12
              refine (spread_yes _ _ _ _ _ _ _ _ _ _ _ _ q1 q2 q3 hf1).mono ?_
              rintro e w2 ⟨g1, rfl, hg1, o1, hb2⟩
              have p1 := (q1.carry hb2)
              have p2 := (q2.carry hb2)
              have p3 := (q3.carry hb2)
              go_wp2_with fail
              go_at_call 12
              refine (spread_yes _ _ _ _ _ _ _ _ _ _ _ _ p1 p2 p3 hf2).mono ?_
              rintro e w3 ⟨g2, rfl, hg2, o2, hb3⟩
              go_wp2_with fail
              go_at_call 14
              refine (same_yes _ _ _ _ _ _ _ _ (o1.carry hb3).row (p1.carry hb3) (by omega) (fun i _ => part_least i)).mono ?_
              rintro e w4 ⟨rfl, hb4⟩
              go_wp2_with fail
              go_at_call 14
              refine (same_yes _ _ _ _ _ _ _ _ (o2.carry hb4).row ((p2.carry hb3).carry hb4) (by omega) (part_most hf2)).mono ?_
              rintro e w5 ⟨rfl, hb5⟩
              have e1 := hb1.trans (hb2.mono hb1.size)
              have e2 := e1.trans (hb3.mono e1.size)
              have e3 := e2.trans (hb4.mono e2.size)
              have e4 := e3.trans (hb5.mono e3.size)
              clear p1 p2 p3 q1 q2 q3 o1 o2 hb2 hb3 hb4 hb5 e1 e2 e3 hf1 hf2 hall hall2
              go_wp2
              go_ret; exact ⟨rfl, e4⟩
            · have z3 : (refI (sumTo hi k) k k k lo hi want == 0) = false := by simpa using z2
              have z4 : (refI (sumTo hi k) k k k lo hi want != 0) = true := by simpa using z2
              clear z1 z2 s1 s2 s3 s4
              go_wp2_with fail
              go_at_call 12
              refine (spread_yes _ _ _ _ _ _ _ _ _ _ _ _ q1 q2 q3 hf1).mono ?_
              rintro e w2 ⟨g1, rfl, hg1, o1, hb2⟩
              have p1 := (q1.carry hb2)
              have p2 := (q2.carry hb2)
              have p3 := (q3.carry hb2)
              go_wp2_with fail
              go_at_call 12
              refine (spread_no _ _ _ _ _ _ _ _ _ _ _ _ _ _ p1 p2 p3 z3).mono ?_
              rintro e w3 ⟨rfl, hb3⟩
              go_wp2_with fail
              go_at_call 14
              refine (same_yes _ _ _ _ _ _ _ _ (o1.carry hb3).row (p1.carry hb3) (by omega) (fun i _ => part_least i)).mono ?_
              rintro e w4 ⟨rfl, hb4⟩
              have e1 := hb1.trans (hb2.mono hb1.size)
              have e2 := e1.trans (hb3.mono e1.size)
              have e3 := e2.trans (hb4.mono e2.size)
              clear p1 p2 p3 q1 q2 q3 o1 hb2 hb3 hb4 e1 e2 hf1 hall hall2
              go_wp2
              go_ret; exact ⟨rfl, e3⟩
          · have z3 : (refI (sumTo lo k) k j l lo hi want == 0) = false := by simpa using z1
            have z4 : (refI (sumTo lo k) k j l lo hi want != 0) = true := by simpa using z1
            clear z1
            by_cases z2 : refI (sumTo hi j) k j l lo hi want = 0
            · obtain ⟨rfl, rfl, hf2⟩ := refI_zero z2
              clear z2 s1 s2 s3 s4
              go_wp2_with fail
              go_at_call 12
              refine (spread_no _ _ _ _ _ _ _ _ _ _ _ _ _ _ q1 q2 q3 z3).mono ?_
              rintro e w2 ⟨rfl, hb2⟩
              have p1 := (q1.carry hb2)
              have p2 := (q2.carry hb2)
              have p3 := (q3.carry hb2)
              go_wp2_with fail
              go_at_call 12
              refine (spread_yes _ _ _ _ _ _ _ _ _ _ _ _ p1 p2 p3 hf2).mono ?_
              rintro e w3 ⟨g2, rfl, hg2, o2, hb3⟩
              go_wp2_with fail
              go_at_call 14
              refine (same_yes _ _ _ _ _ _ _ _ o2.row (p2.carry hb3) (by omega) (part_most hf2)).mono ?_
              rintro e w4 ⟨rfl, hb4⟩
              have e1 := hb1.trans (hb2.mono hb1.size)
              have e2 := e1.trans (hb3.mono e1.size)
              have e3 := e2.trans (hb4.mono e2.size)
              clear p1 p2 p3 q1 q2 q3 o2 hb2 hb3 hb4 e1 e2 hf2 hall hall2
              go_wp2
              go_ret; exact ⟨rfl, e3⟩
            · have z5 : (refI (sumTo hi j) k j l lo hi want == 0) = false := by simpa using z2
              have z6 : (refI (sumTo hi j) k j l lo hi want != 0) = true := by simpa using z2
              clear z2 s1 s2 s3 s4
              go_wp2_with fail
              go_at_call 12
              refine (spread_no _ _ _ _ _ _ _ _ _ _ _ _ _ _ q1 q2 q3 z3).mono ?_
              rintro e w2 ⟨rfl, hb2⟩
              have p1 := (q1.carry hb2)
              have p2 := (q2.carry hb2)
              have p3 := (q3.carry hb2)
              go_wp2_with fail
              go_at_call 12
              refine (spread_no _ _ _ _ _ _ _ _ _ _ _ _ _ _ p1 p2 p3 z5).mono ?_
              rintro e w3 ⟨rfl, hb3⟩
              have e1 := hb1.trans (hb2.mono hb1.size)
              have e2 := e1.trans (hb3.mono e1.size)
              clear p1 p2 p3 q1 q2 q3 hb2 hb3 e1 hall hall2
              go_wp2
              go_ret; exact ⟨rfl, e2⟩

theorem ends_any (a b d : Option Addr) (n m l c1 c2 c3 : Nat) (lo hi want : Nat → Int) (w : World) (r1 : Row w a n lo) (r2 : Row w b m hi) (r3 : Row w d l want) :
    Calls Try.prog 7 #[.slice a n c1, .slice b m c2, .slice d l c3] w fun e w' => e = .returned (.bool true) ∧ Below w.heap.size w w' := by
  by_cases t : (64 : Int) < (n : Int) ∨ (64 : Int) < (m : Int) ∨ (64 : Int) < (l : Int)
  · exact ends_far _ _ _ _ _ _ _ _ _ _ t
  · exact ends_near _ _ _ _ _ _ _ _ _ _ _ _ _ r1 r2 r3 (by omega) (by omega) (by omega)
end Go.Proofs.Ytmmhfpajnjbjaaa
