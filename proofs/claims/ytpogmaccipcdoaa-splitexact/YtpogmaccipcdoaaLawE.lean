/-
  What 'SplitExact' of the statements answers: true, for all shares that lie in memory, however many times they are taken. No other condition.
-/
import Derived.Test.YtpogmaccipcdoaaLawW
namespace Go.Proofs.Ytpogmaccipcdoaa
open Go.RowKit

theorem exact_far (times : Int) (a : Option Addr) (n cap : Nat) (w : World) (h : (16 : Int) < (n : Int) ∨ ((n : Int) ≤ 16 ∧ times < 0) ∨ ((n : Int) ≤ 16 ∧ 0 ≤ times ∧ 4096 < times)) :
    Calls Try.prog 6 #[.slice a n cap, .int .i64 times] w fun e w' => e = .returned (.bool true) ∧ Below w.heap.size w w' := by
  rcases h with h | ⟨h1, h2⟩ | ⟨h1, h2, h3⟩
  all_goals
    go_enter Try.func6, Try.ntmps6
    go_wp2_with (go_at_call 9; refine (awake_any _).mono ?_; rintro e w1 ⟨rfl, hb1⟩)
    go_ret; exact ⟨rfl, hb1⟩

set_option maxRecDepth 20000 in
set_option maxHeartbeats 1000000 in
theorem exact_near (times : Int) (a : Option Addr) (n cap : Nat) (f : Nat → Int) (w : World) (hr : Row w a n f) (hn : n ≤ 16) (ht0 : 0 ≤ times) (ht1 : times ≤ 4096) :
    Calls Try.prog 6 #[.slice a n cap, .int .i64 times] w fun e w' => e = .returned (.bool true) ∧ Below w.heap.size w w' := by
  go_enter Try.func6, Try.ntmps6
  go_wp2_with (go_at_call 9; refine (awake_any _).mono ?_; rintro e w1 ⟨rfl, hb1⟩)
  have hr1 := hr.carry hb1
  clear hr
  go_loop [5, 6] (fun s i => ∃ k : Nat, k ≤ n ∧ i = .int .i64 k ∧ s = .int .i64 (sumTo f k) ∧ Hid (∀ j, j < k → 0 ≤ f j ∧ f j ≤ 10000)) (fun _ i => n - (intOf i).toNat)
  case atStart => exact ⟨0, Nat.zero_le _, rfl, rfl, fun j hj => absurd hj (Nat.not_lt_zero _)⟩
  case round =>
    obtain ⟨k, hk, rfl, rfl, hall⟩ := hrel
    have hs := sumTo_le hall.out k (Nat.le_refl _)
    obtain ⟨hs1, hs2⟩ := hs
    by_cases hlt : k < n
    · obtain ⟨sb, off, rfl, hsb, hc⟩ := hr1 (by omega)
      have hcell := hc k hlt
      clear hc hr1
      by_cases c1 : f k < 0
      · go_wp2
        go_ret; exact ⟨rfl, hb1⟩
      by_cases c2 : 10000 < f k
      · go_wp2
        go_ret; exact ⟨rfl, hb1⟩
      go_wp2
      go_round
      case rel =>
        refine ⟨k + 1, by omega, by go_num, by simp [sumTo], fun j hj => ?_⟩
        rcases Nat.lt_or_eq_of_le (Nat.le_of_lt_succ hj) with h | rfl
        · exact hall.out j h
        · exact ⟨by omega, by omega⟩
      case measure => simp [intOf]; omega
    · obtain rfl : k = n := by omega
      by_cases z : sumTo f k = 0
      · clear hr1 hall
        go_wp2
        go_ret; exact ⟨rfl, hb1⟩
      have z1 : (sumTo f k == 0) = false := by simpa using z
      have hm1 : 0 ≤ sumTo f k * times := Int.mul_nonneg hs1 ht0
      have hm2 : sumTo f k * times ≤ 160000 * 4096 := Int.mul_le_mul (by omega) ht1 ht0 (by omega)
      by_cases c3 : 4096 < sumTo f k * times
      · clear hr1 hall z
        go_wp2
        go_ret; exact ⟨rfl, hb1⟩
      have hf : Fits (sumTo f k * times) k f := ⟨hm1, by omega, hn, hall.out, by omega⟩
      clear z
      go_wp2_with (go_at_call 11; refine (split_yes _ _ _ _ _ _ hr1 hf).mono ?_; rintro e w2 ⟨b, rfl, hb, o1, hb2⟩)
      have hr2 := hr1.carry hb2
      have hb3 : Below w.heap.size w w2 := hb1.trans (hb2.mono hb1.size)
      clear hr1 hb1 hb2
      go_loopw [9] (fun i wr => ∃ j : Nat, j ≤ k ∧ i = .int .i64 j ∧ Below w2.heap.size w2 wr) (fun i _ => k - (intOf i).toNat)
      case atStart => exact ⟨0, Nat.zero_le _, rfl, Below.refl _ _⟩
      case round =>
        obtain ⟨j, hj, rfl, hb4⟩ := hrel
        by_cases hlt2 : j < k
        · obtain ⟨sb, off, rfl, hsb, hc⟩ := hr2 (by omega)
          have hcell := (hb4.cell (p := ⟨sb, off + j, none⟩) hsb).trans (hc j hlt2)
          have hcell2 := (hb4.cell (p := ⟨b, j, none⟩) o1.1).trans (o1.2 j hlt2).1
          have hp := hf.part j hlt2
          rw [hf.exact rfl j hlt2] at hcell2 hp
          obtain ⟨hp1, hp2⟩ := hp
          clear hc hr2 hf o1 hall
          go_wp2
          go_quiet (fail)
          go_wp2
          go_roundw
          case rel => exact ⟨j + 1, by omega, by go_num, ⟨hb4.os, hb4.tape, hb4.output, hb4.size, hb4.block⟩⟩
          case measure => simp [intOf]; omega
        · obtain rfl : j = k := by omega
          clear hf hr2 o1 hall
          go_wp2
          go_ret
          exact ⟨rfl, hb3.trans (hb4.mono hb3.size)⟩
end Go.Proofs.Ytpogmaccipcdoaa
