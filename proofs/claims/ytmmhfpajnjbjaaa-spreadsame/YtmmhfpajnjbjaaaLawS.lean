/-
  What 'SpreadSame' of the statements answers: true, for every total and all lists that lie in memory. No other condition.
-/
import Derived.Test.YtmmhfpajnjbjaaaWalkD
namespace Go.Proofs.Ytmmhfpajnjbjaaa
open Go.RowKit

theorem alike_no (total : Int) (a b d : Option Addr) (n m l c1 c2 c3 : Nat) (lo hi want : Nat → Int) (w : World) (r1 : Row w a n lo) (r2 : Row w b m hi) (r3 : Row w d l want) (h : (refI total n m l lo hi want == 0) = false) :
    Calls Try.prog 8 #[.int .i64 total, .slice a n c1, .slice b m c2, .slice d l c3] w fun e w' => e = .returned (.bool true) ∧ Below w.heap.size w w' := by
  have h' : (refI total n m l lo hi want != 0) = true := by simpa using h
  go_enter Try.func8, Try.ntmps8
  go_wp2_with (first
    | (go_at_call 9; refine (awake_any _).mono ?_; rintro e w1 ⟨rfl, hb1⟩)
    | (go_at_call 12; refine (spread_no _ _ _ _ _ _ _ _ _ _ _ _ _ _ (r1.carry hb1) (r2.carry hb1) (r3.carry hb1) h).mono ?_; rintro e w2 ⟨rfl, hb2⟩))
  go_ret; exact ⟨rfl, hb1.trans (hb2.mono hb1.size)⟩

set_option maxRecDepth 20000 in
set_option maxHeartbeats 2000000 in
theorem alike_yes (total : Int) (a b d : Option Addr) (n c1 c2 c3 : Nat) (lo hi want : Nat → Int) (w : World) (r1 : Row w a n lo) (r2 : Row w b n hi) (r3 : Row w d n want) (hf : Fits total n lo hi want) :
    Calls Try.prog 8 #[.int .i64 total, .slice a n c1, .slice b n c2, .slice d n c3] w fun e w' => e = .returned (.bool true) ∧ Below w.heap.size w w' := by
  have hlen := hf.len
  go_enter Try.func8, Try.ntmps8
  go_wp2_with (first
    | (go_at_call 9; refine (awake_any _).mono ?_; rintro e w1 ⟨rfl, hb1⟩)
    | (go_at_call 12; refine (spread_yes _ _ _ _ _ _ _ _ _ _ _ _ (r1.carry hb1) (r2.carry hb1) (r3.carry hb1) hf).mono ?_; rintro e w2 ⟨g, rfl, hg, o1, hb2⟩))
  have hb3 : Below w.heap.size w w2 := hb1.trans (hb2.mono hb1.size)
  have q1 := r1.carry hb3
  have q2 := r2.carry hb3
  have q3 := r3.carry hb3
  have hbt := hf.last.between
  have hsame := hf.last.same
  have heach := hf.each
  clear r1 r2 r3 hb1 hb2 hf
  generalize part total n lo hi want = p at *
  have hp : ∀ k, k < n → 0 ≤ p k ∧ p k ≤ 4096 := fun k hk => by have := hbt k hk; have := heach k hk; omega
  go_loopw [11] (fun i wr => ∃ j : Nat, j ≤ n ∧ i = .int .i64 j ∧ Below w2.heap.size w2 wr) (fun i _ => n - (intOf i).toNat)
  case atStart => exact ⟨0, Nat.zero_le _, rfl, Below.refl _ _⟩
  case round =>
    obtain ⟨i, hi', rfl, hb4⟩ := hrel
    by_cases hlt : i < n
    · go_wp2
      go_loopw [12] (fun j wr => ∃ k : Nat, k ≤ i ∧ j = .int .i64 k ∧ Below w2.heap.size w2 wr) (fun j _ => i - (intOf j).toNat)
      case atStart => exact ⟨0, Nat.zero_le _, rfl, hb4⟩
      case round =>
        obtain ⟨k, hk, rfl, hb5⟩ := hrel
        by_cases hlt2 : k < i
        · have hlt3 : k < n := by omega
          obtain ⟨b1, o1', rfl, hc1, hd1⟩ := q1 (by omega)
          obtain ⟨b2, o2', rfl, hc2, hd2⟩ := q2 (by omega)
          obtain ⟨b3, o3', rfl, hc3, hd3⟩ := q3 (by omega)
          have d1 := (hb5.cell (p := ⟨b1, o1' + i, none⟩) hc1).trans (hd1 i hlt)
          have d1' := (hb5.cell (p := ⟨b1, o1' + k, none⟩) hc1).trans (hd1 k hlt3)
          have d2 := (hb5.cell (p := ⟨b2, o2' + i, none⟩) hc2).trans (hd2 i hlt)
          have d2' := (hb5.cell (p := ⟨b2, o2' + k, none⟩) hc2).trans (hd2 k hlt3)
          have d3 := (hb5.cell (p := ⟨b3, o3' + i, none⟩) hc3).trans (hd3 i hlt)
          have d3' := (hb5.cell (p := ⟨b3, o3' + k, none⟩) hc3).trans (hd3 k hlt3)
          have d5 := (hb5.cell (p := ⟨g, i, none⟩) o1.1).trans (o1.2 i hlt).1
          have d6 := (hb5.cell (p := ⟨g, k, none⟩) o1.1).trans (o1.2 k hlt3).1
          obtain ⟨hp1, hp2⟩ := hp i hlt
          obtain ⟨hp3, hp4⟩ := hp k hlt3
          have f1 := hsame i k hlt hlt2
          have i1 : (i : Int) < (n : Int) := by omega
          have i2 : (k : Int) < (n : Int) := by omega
          have i3 : (k : Int) < (i : Int) := by omega
          clear hd1 hd2 hd3 q1 q2 q3 o1 hbt heach hp hsame
          by_cases t1 : lo i = lo k
          · have g1 : (lo i == lo k) = true := by simpa using t1
            by_cases t2 : hi i = hi k
            · have g2 : (hi i == hi k) = true := by simpa using t2
              by_cases t3 : want i = want k
              · have g3 : (want i == want k) = true := by simpa using t3
                obtain ⟨f2, f3⟩ := f1 t1 t2 t3
                have g4 : decide (p k < p i) = false := by simp; omega
                have g5 : decide (p i + 1 < p k) = false := by simp; omega
                clear f1 t1 t2 t3
                go_wp2
                go_quiet (fail)
                go_wp2
                go_roundw
                case rel => exact ⟨k + 1, by omega, by go_num, ⟨hb5.os, hb5.tape, hb5.output, hb5.size, hb5.block⟩⟩
                case measure => simp [intOf]; omega
              · have g3 : (want i == want k) = false := by simpa using t3
                clear f1 t1 t2 t3
                go_wp2
                go_quiet (fail)
                go_wp2
                go_roundw
                case rel => exact ⟨k + 1, by omega, by go_num, ⟨hb5.os, hb5.tape, hb5.output, hb5.size, hb5.block⟩⟩
                case measure => simp [intOf]; omega
            · have g2 : (hi i == hi k) = false := by simpa using t2
              clear f1 t1 t2
              go_wp2
              go_quiet (fail)
              go_wp2
              go_roundw
              case rel => exact ⟨k + 1, by omega, by go_num, ⟨hb5.os, hb5.tape, hb5.output, hb5.size, hb5.block⟩⟩
              case measure => simp [intOf]; omega
          · have g1 : (lo i == lo k) = false := by simpa using t1
            clear f1 t1
            go_wp2
            go_quiet (fail)
            go_wp2
            go_roundw
            case rel => exact ⟨k + 1, by omega, by go_num, ⟨hb5.os, hb5.tape, hb5.output, hb5.size, hb5.block⟩⟩
            case measure => simp [intOf]; omega
        · clear q1 q2 q3 o1 hbt heach hp hsame hb4 hb3
          go_wp2
          go_roundw
          case rel => exact ⟨i + 1, by omega, by go_num, hb5⟩
          case measure => simp [intOf]; omega
    · obtain rfl : i = n := by omega
      clear q1 q2 q3 o1 hbt heach hp hsame
      go_wp2
      go_ret
      exact ⟨rfl, hb3.trans (hb4.mono hb3.size)⟩

theorem alike_any (total : Int) (a b d : Option Addr) (n m l c1 c2 c3 : Nat) (lo hi want : Nat → Int) (w : World) (r1 : Row w a n lo) (r2 : Row w b m hi) (r3 : Row w d l want) :
    Calls Try.prog 8 #[.int .i64 total, .slice a n c1, .slice b m c2, .slice d l c3] w fun e w' => e = .returned (.bool true) ∧ Below w.heap.size w w' := by
  by_cases z : refI total n m l lo hi want = 0
  · obtain ⟨rfl, rfl, hf⟩ := refI_zero z
    exact alike_yes _ _ _ _ _ _ _ _ _ _ _ _ r1 r2 r3 hf
  · exact alike_no _ _ _ _ _ _ _ _ _ _ _ _ _ _ r1 r2 r3 (by simpa using z)
end Go.Proofs.Ytmmhfpajnjbjaaa
