/-
  What 'SplitWhole' and 'SplitNothing' of the statements answer: true, for every total and all shares that lie in memory. No other condition.
-/
import Derived.Test.YtpogmaccipcdoaaWalkD
import Derived.Test.YtpogmaccipcdoaaMathE
namespace Go.Proofs.Ytpogmaccipcdoaa
open Go.RowKit

/-- A slice of integers that came in, as the statements' frame tells it. -/
theorem row_of {w : World} {a : Option Addr} {len cap : Nat} {zs : List Int} (h : (a = none ∧ len = 0 ∧ cap = 0 ∧ zs = []) ∨
    ∃ x, a = some x ∧ len ≤ cap ∧ cap ≤ maxLen ∧ zs.length = cap ∧ (∀ i, i < zs.length → w.cell? (x.add i) = some (.int .i64 (zs.getD i 0))) ∧ ∀ n ∈ zs, (Lit.int .i64 n).wf = true) :
    Row w a len (fun k => zs.getD k 0) := by
  rcases h with ⟨rfl, rfl, rfl, rfl⟩ | ⟨x, rfl, hl, hm, hz, hc, hw⟩
  · intro h; omega
  · intro hn
    obtain ⟨b, off, rfl, hc'⟩ := Go.ints_at hc (by omega)
    exact ⟨b, off, rfl, World.block_lt_of_cell? _ _ (hc' 0 (by omega)), fun k hk => hc' k (by omega)⟩

/-- A part of the law that is one and the same: where the program refuses. -/
theorem whole_no (total : Int) (a : Option Addr) (n cap : Nat) (f : Nat → Int) (w : World) (hr : Row w a n f) (h : (refI total n f == 0) = false) :
    Calls Try.prog 4 #[.int .i64 total, .slice a n cap] w fun e w' => e = .returned (.bool true) ∧ Below w.heap.size w w' := by
  have h' : (refI total n f != 0) = true := by simpa using h
  go_enter Try.func4, Try.ntmps4
  go_wp2_with (first
    | (go_at_call 9; refine (awake_any _).mono ?_; rintro e w1 ⟨rfl, hb1⟩; have hr1 := hr.carry hb1)
    | (go_at_call 11; refine (split_no _ _ _ _ _ _ hr1 h).mono ?_; rintro e w' ⟨rfl, hw⟩; obtain rfl := hw.symm))
  go_ret; exact ⟨rfl, hb1⟩

set_option maxHeartbeats 400000 in
theorem whole_yes (total : Int) (a : Option Addr) (n cap : Nat) (f : Nat → Int) (w : World) (hr : Row w a n f) (hf : Fits total n f) :
    Calls Try.prog 4 #[.int .i64 total, .slice a n cap] w fun e w' => e = .returned (.bool true) ∧ Below w.heap.size w w' := by
  have hlen := hf.len
  go_enter Try.func4, Try.ntmps4
  go_wp2_with (first
    | (go_at_call 9; refine (awake_any _).mono ?_; rintro e w1 ⟨rfl, hb1⟩; have hr1 := hr.carry hb1)
    | (go_at_call 11; refine (split_yes _ _ _ _ _ _ hr1 hf).mono ?_; rintro e w2 ⟨b, rfl, hb, o1, hb2⟩))
  have hr2 := hr1.carry hb2
  have hb3 : Below w.heap.size w w2 := hb1.trans (hb2.mono hb1.size)
  clear hr hr1 hb1 hb2
  go_loop [8, 9] (fun s i => ∃ k : Nat, k ≤ n ∧ i = .int .i64 k ∧ s = .int .i64 (sumTo f k)) (fun _ i => n - (intOf i).toNat)
  case atStart => exact ⟨0, Nat.zero_le _, rfl, rfl⟩
  case round =>
    obtain ⟨k, hk, rfl, rfl⟩ := hrel
    have hs := sumTo_le hf.each k hk
    by_cases hlt : k < n
    · obtain ⟨sb, off, rfl, hsb, hc⟩ := hr2 (by omega)
      have hcell := hc k hlt
      have hfk := hf.each k hlt
      clear hc hr2 hf o1
      go_wp2
      go_round
      case rel => exact ⟨k + 1, by omega, by go_num, by simp [sumTo]⟩
      case measure => simp [intOf]; omega
    · obtain rfl : k = n := by omega
      go_wp2
      go_loopw [7, 10] (fun s i wr => ∃ j : Nat, j ≤ k ∧ i = .int .i64 j ∧ s = .int .i64 (sumTo (part total k f) j) ∧ Below w2.heap.size w2 wr) (fun _ i _ => k - (intOf i).toNat)
      case atStart => exact ⟨0, Nat.zero_le _, rfl, rfl, Below.refl _ _⟩
      case round =>
        obtain ⟨j, hj, rfl, rfl, hb4⟩ := hrel
        have hs2 := sumTo_le hf.part j hj
        by_cases hlt2 : j < k
        · obtain ⟨sb, off, rfl, hsb, hc⟩ := hr2 (by omega)
          have hcell := (hb4.cell (p := ⟨sb, off + j, none⟩) hsb).trans (hc j hlt2)
          have hcell2 := (hb4.cell (p := ⟨b, j, none⟩) o1.1).trans (o1.2 j hlt2).1
          have hfk := hf.part j hlt2
          have hw := hf.whole j hlt2
          have hp := hf.prod j hlt2
          have hq := hf.prodPart j hlt2
          have hS := hf.sumHi
          have hS2 := hf.some
          obtain ⟨hw1, hw2⟩ := hw
          obtain ⟨hp1, hp2⟩ := hp
          obtain ⟨hq1, hq2⟩ := hq
          have g1 : decide (part total k f j * sumTo f k ≤ total * f j - sumTo f k) = false := by simp; omega
          clear hc hr2 hf o1
          go_wp2
          go_quiet (fail)
          go_wp2
          go_roundw
          case rel => exact ⟨j + 1, by omega, by go_num, by simp [sumTo], ⟨hb4.os, hb4.tape, hb4.output, hb4.size, hb4.block⟩⟩
          case measure => simp [intOf]; omega
        · obtain rfl : j = k := by omega
          have e := hf.sum
          rw [e] at *
          clear hf
          go_wp2
          go_ret
          exact ⟨rfl, hb3.trans (hb4.mono hb3.size)⟩
end Go.Proofs.Ytpogmaccipcdoaa
