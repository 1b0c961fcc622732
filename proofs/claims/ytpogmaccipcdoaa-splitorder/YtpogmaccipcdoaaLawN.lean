/-
  What 'SplitNothing' and 'SplitOrder' of the statements answer: true, for every total and all shares that lie in memory. No other condition.
-/
import Derived.Test.YtpogmaccipcdoaaLawW
namespace Go.Proofs.Ytpogmaccipcdoaa
open Go.RowKit

theorem nothing_no (total : Int) (a : Option Addr) (n cap : Nat) (f : Nat → Int) (w : World) (hr : Row w a n f) (h : (refI total n f == 0) = false) :
    Calls Try.prog 8 #[.int .i64 total, .slice a n cap] w fun e w' => e = .returned (.bool true) ∧ Below w.heap.size w w' := by
  have h' : (refI total n f != 0) = true := by simpa using h
  go_enter Try.func8, Try.ntmps8
  go_wp2_with (first
    | (go_at_call 9; refine (awake_any _).mono ?_; rintro e w1 ⟨rfl, hb1⟩; have hr1 := hr.carry hb1)
    | (go_at_call 11; refine (split_no _ _ _ _ _ _ hr1 h).mono ?_; rintro e w' ⟨rfl, hw⟩; obtain rfl := hw.symm))
  go_ret; exact ⟨rfl, hb1⟩

theorem order_no (total : Int) (a : Option Addr) (n cap : Nat) (f : Nat → Int) (w : World) (hr : Row w a n f) (h : (refI total n f == 0) = false) :
    Calls Try.prog 5 #[.int .i64 total, .slice a n cap] w fun e w' => e = .returned (.bool true) ∧ Below w.heap.size w w' := by
  have h' : (refI total n f != 0) = true := by simpa using h
  go_enter Try.func5, Try.ntmps5
  go_wp2_with (first
    | (go_at_call 9; refine (awake_any _).mono ?_; rintro e w1 ⟨rfl, hb1⟩; have hr1 := hr.carry hb1)
    | (go_at_call 11; refine (split_no _ _ _ _ _ _ hr1 h).mono ?_; rintro e w' ⟨rfl, hw⟩; obtain rfl := hw.symm))
  go_ret; exact ⟨rfl, hb1⟩

/-- How many have a share, and what the last of them has: as the law counts. -/
def Counted (l : Nat → Int) (j : Nat) (have' last : Int) : Prop :=
  0 ≤ have' ∧ have' ≤ j ∧ (have' = 0 → sumTo l j = 0) ∧ (have' = 1 → sumTo l j = last)

theorem Counted.zero (l : Nat → Int) : Counted l 0 0 0 := ⟨by omega, by simp, fun _ => rfl, fun h => by omega⟩
theorem Counted.skip {l : Nat → Int} {j : Nat} {h t : Int} (c : Counted l j h t) (z : l j = 0) : Counted l (j + 1) h t := by
  obtain ⟨c1, c2, c3, c4⟩ := c
  exact ⟨c1, by simp; omega, fun e => by simp only [sumTo]; rw [c3 e, z]; rfl, fun e => by simp only [sumTo]; rw [c4 e, z]; omega⟩
theorem Counted.step {l : Nat → Int} {j : Nat} {h t : Int} (c : Counted l j h t) : Counted l (j + 1) (h + 1) (l j) := by
  obtain ⟨c1, c2, c3, c4⟩ := c
  exact ⟨by omega, by simp; omega, fun e => by omega, fun e => by simp only [sumTo]; rw [c3 (by omega)]; omega⟩

set_option maxHeartbeats 400000 in
theorem nothing_yes (total : Int) (a : Option Addr) (n cap : Nat) (f : Nat → Int) (w : World) (hr : Row w a n f) (hf : Fits total n f) :
    Calls Try.prog 8 #[.int .i64 total, .slice a n cap] w fun e w' => e = .returned (.bool true) ∧ Below w.heap.size w w' := by
  have hlen := hf.len
  go_enter Try.func8, Try.ntmps8
  go_wp2_with (first
    | (go_at_call 9; refine (awake_any _).mono ?_; rintro e w1 ⟨rfl, hb1⟩; have hr1 := hr.carry hb1)
    | (go_at_call 11; refine (split_yes _ _ _ _ _ _ hr1 hf).mono ?_; rintro e w2 ⟨b, rfl, hb, o1, hb2⟩))
  have hr2 := hr1.carry hb2
  have hb3 : Below w.heap.size w w2 := hb1.trans (hb2.mono hb1.size)
  clear hr hr1 hb1 hb2
  go_loop [7, 8, 9] (fun h t i => ∃ j : Nat, ∃ x y : Int, j ≤ n ∧ h = .int .i64 x ∧ t = .int .i64 y ∧ i = .int .i64 j ∧ Counted (part total n f) j x y) (fun _ _ i => n - (intOf i).toNat)
  case atStart => exact ⟨0, 0, 0, Nat.zero_le _, rfl, rfl, rfl, Counted.zero _⟩
  case round =>
    obtain ⟨k, x, y, hk, rfl, rfl, rfl, hcn⟩ := hrel
    have hx1 := hcn.1
    have hx2 := hcn.2.1
    by_cases hlt : k < n
    · obtain ⟨sb, off, rfl, hsb, hc⟩ := hr2 (by omega)
      have hcell := hc k hlt
      have hcell2 := (o1.2 k hlt).1
      have hfk := hf.each k hlt
      by_cases z : f k = 0
      · have e := hf.nothing k hlt z
        have R := hcn.skip e
        rw [e] at hcell2
        rw [z] at hcell
        have E : Hid (part total n f k = 0) := e
        clear hc hr2 hf o1 e z
        go_wp2
        go_round
        case rel => exact ⟨k + 1, x, y, by omega, rfl, rfl, by go_num, R⟩
        case measure => simp [intOf]; omega
      · have R := hcn.step
        have z1 : (f k == 0) = false := by simpa using z
        have z2 : 0 < f k := by omega
        clear hc hr2 hf o1 z
        go_wp2
        go_round
        case rel => exact ⟨k + 1, x + 1, _, by omega, rfl, rfl, by go_num, R⟩
        case measure => simp [intOf]; omega
    · obtain rfl : k = n := by omega
      by_cases z : x = 1
      · have e := hcn.2.2.2 z
        rw [hf.sum] at e
        subst z; subst e
        clear hf o1 hr2 hcn
        go_wp2
        go_ret; exact ⟨rfl, hb3⟩
      · have z1 : (x != 1) = true := by simpa using z
        clear hf o1 hr2 hcn
        go_wp2
        go_ret; exact ⟨rfl, hb3⟩
end Go.Proofs.Ytpogmaccipcdoaa
