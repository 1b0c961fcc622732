/-
  What 'SpreadWhole' of the statements answers: true, for every total and all lists that lie in memory. No other condition.
-/
import Derived.Test.YtmmhfpajnjbjaaaWalkD
namespace Go.Proofs.Ytmmhfpajnjbjaaa
open Go.RowKit

theorem whole_no (total : Int) (a b d : Option Addr) (n m l c1 c2 c3 : Nat) (lo hi want : Nat → Int) (w : World) (r1 : Row w a n lo) (r2 : Row w b m hi) (r3 : Row w d l want) (h : (refI total n m l lo hi want == 0) = false) :
    Calls Try.prog 4 #[.int .i64 total, .slice a n c1, .slice b m c2, .slice d l c3] w fun e w' => e = .returned (.bool true) ∧ Below w.heap.size w w' := by
  have h' : (refI total n m l lo hi want != 0) = true := by simpa using h
  go_enter Try.func4, Try.ntmps4
  go_wp2_with (first
    | (go_at_call 9; refine (awake_any _).mono ?_; rintro e w1 ⟨rfl, hb1⟩)
    | (go_at_call 12; refine (spread_no _ _ _ _ _ _ _ _ _ _ _ _ _ _ (r1.carry hb1) (r2.carry hb1) (r3.carry hb1) h).mono ?_; rintro e w2 ⟨rfl, hb2⟩))
  go_ret; exact ⟨rfl, hb1.trans (hb2.mono hb1.size)⟩

set_option maxRecDepth 20000 in
set_option maxHeartbeats 1000000 in
theorem whole_yes (total : Int) (a b d : Option Addr) (n c1 c2 c3 : Nat) (lo hi want : Nat → Int) (w : World) (r1 : Row w a n lo) (r2 : Row w b n hi) (r3 : Row w d n want) (hf : Fits total n lo hi want) :
    Calls Try.prog 4 #[.int .i64 total, .slice a n c1, .slice b n c2, .slice d n c3] w fun e w' => e = .returned (.bool true) ∧ Below w.heap.size w w' := by
  have hlen := hf.len
  go_enter Try.func4, Try.ntmps4
  go_wp2_with (first
    | (go_at_call 9; refine (awake_any _).mono ?_; rintro e w1 ⟨rfl, hb1⟩)
    | (go_at_call 12; refine (spread_yes _ _ _ _ _ _ _ _ _ _ _ _ (r1.carry hb1) (r2.carry hb1) (r3.carry hb1) hf).mono ?_; rintro e w2 ⟨g, rfl, hg, o1, hb2⟩))
  have hb3 : Below w.heap.size w w2 := hb1.trans (hb2.mono hb1.size)
  have q1 := r1.carry hb3
  have q2 := r2.carry hb3
  have hbt := hf.last.between
  have hsum := hf.sum
  have heach := hf.each
  clear r1 r2 r3 hb1 hb2 hf
  generalize part total n lo hi want = p at *
  have hp : ∀ k, k < n → 0 ≤ p k ∧ p k ≤ 4096 := fun k hk => by have := hbt k hk; have := heach k hk; omega
  go_loopw [11, 12] (fun s i wr => ∃ k : Nat, k ≤ n ∧ i = .int .i64 k ∧ s = .int .i64 (sumTo p k) ∧ Below w2.heap.size w2 wr) (fun _ i _ => n - (intOf i).toNat)
  case atStart => exact ⟨0, Nat.zero_le _, rfl, rfl, Below.refl _ _⟩
  case round =>
    obtain ⟨k, hk, rfl, rfl, hb4⟩ := hrel
    have hs := sumTo_le hp k hk
    obtain ⟨hs1, hs2⟩ := hs
    by_cases hlt : k < n
    · obtain ⟨b1, o1', rfl, hc1, hd1⟩ := q1 (by omega)
      obtain ⟨b2, o2', rfl, hc2, hd2⟩ := q2 (by omega)
      have d1 := (hb4.cell (p := ⟨b1, o1' + k, none⟩) hc1).trans (hd1 k hlt)
      have d2 := (hb4.cell (p := ⟨b2, o2' + k, none⟩) hc2).trans (hd2 k hlt)
      have d3 := (hb4.cell (p := ⟨g, k, none⟩) o1.1).trans (o1.2 k hlt).1
      have hv := hbt k hlt
      obtain ⟨hv1, hv2⟩ := hv
      obtain ⟨hp1, hp2⟩ := hp k hlt
      have hlt' : (k : Int) < (n : Int) := by omega
      have g1 : decide (p k < lo k) = false := by simp; omega
      have g2 : decide (hi k < p k) = false := by simp; omega
      clear hd1 hd2 q1 q2 o1 hbt heach hp hsum
      go_wp2
      go_quiet (fail)
      go_wp2
      go_roundw
      case rel => exact ⟨k + 1, by omega, by go_num, by simp [sumTo], ⟨hb4.os, hb4.tape, hb4.output, hb4.size, hb4.block⟩⟩
      case measure => simp [intOf]; omega
    · obtain rfl : k = n := by omega
      rw [hsum]
      clear hbt heach hp q1 q2 o1
      go_wp2
      go_ret
      exact ⟨rfl, hb3.trans (hb4.mono hb3.size)⟩

theorem whole_any (total : Int) (a b d : Option Addr) (n m l c1 c2 c3 : Nat) (lo hi want : Nat → Int) (w : World) (r1 : Row w a n lo) (r2 : Row w b m hi) (r3 : Row w d l want) :
    Calls Try.prog 4 #[.int .i64 total, .slice a n c1, .slice b m c2, .slice d l c3] w fun e w' => e = .returned (.bool true) ∧ Below w.heap.size w w' := by
  by_cases z : refI total n m l lo hi want = 0
  · obtain ⟨rfl, rfl, hf⟩ := refI_zero z
    exact whole_yes _ _ _ _ _ _ _ _ _ _ _ _ r1 r2 r3 hf
  · exact whole_no _ _ _ _ _ _ _ _ _ _ _ _ _ _ r1 r2 r3 (by simpa using z)
end Go.Proofs.Ytmmhfpajnjbjaaa
