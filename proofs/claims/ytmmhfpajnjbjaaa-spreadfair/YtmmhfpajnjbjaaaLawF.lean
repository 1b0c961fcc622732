/-
  What 'SpreadFair' of the statements answers: true, for every total and all lists that lie in memory. No other condition.
-/
import Derived.Test.YtmmhfpajnjbjaaaWalkD
namespace Go.Proofs.Ytmmhfpajnjbjaaa
open Go.RowKit

theorem fair_no (total : Int) (a b d : Option Addr) (n m l c1 c2 c3 : Nat) (lo hi want : Nat → Int) (w : World) (r1 : Row w a n lo) (r2 : Row w b m hi) (r3 : Row w d l want) (h : (refI total n m l lo hi want == 0) = false) :
    Calls Try.prog 5 #[.int .i64 total, .slice a n c1, .slice b m c2, .slice d l c3] w fun e w' => e = .returned (.bool true) ∧ Below w.heap.size w w' := by
  have h' : (refI total n m l lo hi want != 0) = true := by simpa using h
  go_enter Try.func5, Try.ntmps5
  go_wp2_with (first
    | (go_at_call 9; refine (awake_any _).mono ?_; rintro e w1 ⟨rfl, hb1⟩)
    | (go_at_call 12; refine (spread_no _ _ _ _ _ _ _ _ _ _ _ _ _ _ (r1.carry hb1) (r2.carry hb1) (r3.carry hb1) h).mono ?_; rintro e w2 ⟨rfl, hb2⟩))
  go_ret; exact ⟨rfl, hb1.trans (hb2.mono hb1.size)⟩

theorem mul_fit {x y : Int} (h1 : 0 ≤ x) (h2 : x ≤ 4097) (h3 : 0 ≤ y) (h4 : y ≤ 1048577) : 0 ≤ x * y ∧ x * y ≤ 4296019969 :=
  ⟨Int.mul_nonneg h1 h3, Int.le_trans (Int.mul_le_mul h2 h4 h3 (by omega)) (by decide)⟩

set_option maxRecDepth 20000 in
set_option maxHeartbeats 2000000 in
theorem fair_yes (total : Int) (a b d : Option Addr) (n c1 c2 c3 : Nat) (lo hi want : Nat → Int) (w : World) (r1 : Row w a n lo) (r2 : Row w b n hi) (r3 : Row w d n want) (hf : Fits total n lo hi want) :
    Calls Try.prog 5 #[.int .i64 total, .slice a n c1, .slice b n c2, .slice d n c3] w fun e w' => e = .returned (.bool true) ∧ Below w.heap.size w w' := by
  have hlen := hf.len
  go_enter Try.func5, Try.ntmps5
  go_wp2_with (first
    | (go_at_call 9; refine (awake_any _).mono ?_; rintro e w1 ⟨rfl, hb1⟩)
    | (go_at_call 12; refine (spread_yes _ _ _ _ _ _ _ _ _ _ _ _ (r1.carry hb1) (r2.carry hb1) (r3.carry hb1) hf).mono ?_; rintro e w2 ⟨g, rfl, hg, o1, hb2⟩))
  have hb3 : Below w.heap.size w w2 := hb1.trans (hb2.mono hb1.size)
  have q1 := r1.carry hb3
  have q2 := r2.carry hb3
  have q3 := r3.carry hb3
  have hbt := hf.last.between
  have hfair := hf.last.fair
  have heach := hf.each
  clear r1 r2 r3 hb1 hb2 hf
  generalize part total n lo hi want = p at *
  have hp : ∀ k, k < n → 0 ≤ p k ∧ p k ≤ 4096 := fun k hk => by have := hbt k hk; have := heach k hk; omega
  go_loopw [11] (fun i wr => ∃ j : Nat, j ≤ n ∧ i = .int .i64 j ∧ Below w2.heap.size w2 wr) (fun i _ => n - (intOf i).toNat)
  case atStart => exact ⟨0, Nat.zero_le _, rfl, Below.refl _ _⟩
  case round =>
    obtain ⟨i, hi', rfl, hb4⟩ := hrel
    by_cases hlt : i < n
    · go_wp2
      go_loopw [12] (fun j wr => ∃ k : Nat, k ≤ n ∧ j = .int .i64 k ∧ Below w2.heap.size w2 wr) (fun j _ => n - (intOf j).toNat)
      case atStart => exact ⟨0, Nat.zero_le _, rfl, hb4⟩
      case round =>
        obtain ⟨k, hk, rfl, hb5⟩ := hrel
        by_cases hlt2 : k < n
        · obtain ⟨b1, o1', rfl, hc1, hd1⟩ := q1 (by omega)
          obtain ⟨b2, o2', rfl, hc2, hd2⟩ := q2 (by omega)
          obtain ⟨b3, o3', rfl, hc3, hd3⟩ := q3 (by omega)
          have d1 := (hb5.cell (p := ⟨b1, o1' + i, none⟩) hc1).trans (hd1 i hlt)
          have d2 := (hb5.cell (p := ⟨b2, o2' + k, none⟩) hc2).trans (hd2 k hlt2)
          have d3 := (hb5.cell (p := ⟨b3, o3' + k, none⟩) hc3).trans (hd3 k hlt2)
          have d4 := (hb5.cell (p := ⟨b3, o3' + i, none⟩) hc3).trans (hd3 i hlt)
          have d5 := (hb5.cell (p := ⟨g, i, none⟩) o1.1).trans (o1.2 i hlt).1
          have d6 := (hb5.cell (p := ⟨g, k, none⟩) o1.1).trans (o1.2 k hlt2).1
          obtain ⟨hp1, hp2⟩ := hp i hlt
          obtain ⟨hp3, hp4⟩ := hp k hlt2
          obtain ⟨-, -, -, hu1, hu2⟩ := heach i hlt
          obtain ⟨-, -, -, hu3, hu4⟩ := heach k hlt2
          have f1 := hfair i k hlt hlt2
          have i1 : (i : Int) < (n : Int) := by omega
          have i2 : (k : Int) < (n : Int) := by omega
          clear hd1 hd2 hd3 q1 q2 q3 o1 hbt heach hp hfair
          by_cases t1 : lo i < p i
          · by_cases t2 : p k < hi k
            · have f2 := f1 t1 t2
              have g3 : decide ((p k + 1) * (want i + 1) < p i * (want k + 1)) = false := by simpa using f2
              obtain ⟨m1, m2⟩ := mul_fit (x := p i) (y := want k + 1) (by omega) (by omega) (by omega) (by omega)
              obtain ⟨m3, m4⟩ := mul_fit (x := p k + 1) (y := want i + 1) (by omega) (by omega) (by omega) (by omega)
              clear f1 f2
              go_wp2
              go_quiet (fail)
              go_wp2
              go_roundw
              case rel => exact ⟨k + 1, by omega, by go_num, ⟨hb5.os, hb5.tape, hb5.output, hb5.size, hb5.block⟩⟩
              case measure => simp [intOf]; omega
            · have g2 : decide (p k < hi k) = false := by simpa using t2
              clear f1
              go_wp2
              go_quiet (fail)
              go_wp2
              go_roundw
              case rel => exact ⟨k + 1, by omega, by go_num, ⟨hb5.os, hb5.tape, hb5.output, hb5.size, hb5.block⟩⟩
              case measure => simp [intOf]; omega
          · have g1 : decide (lo i < p i) = false := by simpa using t1
            clear f1
            go_wp2
            go_quiet (fail)
            go_wp2
            go_roundw
            case rel => exact ⟨k + 1, by omega, by go_num, ⟨hb5.os, hb5.tape, hb5.output, hb5.size, hb5.block⟩⟩
            case measure => simp [intOf]; omega
        · clear q1 q2 q3 o1 hbt heach hp hfair hb4 hb3
          go_wp2
          go_roundw
          case rel => exact ⟨i + 1, by omega, by go_num, hb5⟩
          case measure => simp [intOf]; omega
    · obtain rfl : i = n := by omega
      clear q1 q2 q3 o1 hbt heach hp hfair
      go_wp2
      go_ret
      exact ⟨rfl, hb3.trans (hb4.mono hb3.size)⟩

theorem fair_any (total : Int) (a b d : Option Addr) (n m l c1 c2 c3 : Nat) (lo hi want : Nat → Int) (w : World) (r1 : Row w a n lo) (r2 : Row w b m hi) (r3 : Row w d l want) :
    Calls Try.prog 5 #[.int .i64 total, .slice a n c1, .slice b m c2, .slice d l c3] w fun e w' => e = .returned (.bool true) ∧ Below w.heap.size w w' := by
  by_cases z : refI total n m l lo hi want = 0
  · obtain ⟨rfl, rfl, hf⟩ := refI_zero z
    exact fair_yes _ _ _ _ _ _ _ _ _ _ _ _ r1 r2 r3 hf
  · exact fair_no _ _ _ _ _ _ _ _ _ _ _ _ _ _ r1 r2 r3 (by simpa using z)
end Go.Proofs.Ytmmhfpajnjbjaaa
