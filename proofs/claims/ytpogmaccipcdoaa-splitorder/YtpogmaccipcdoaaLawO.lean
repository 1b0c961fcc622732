/-
  What 'SplitOrder' of the statements answers: true, for every total and all shares that lie in memory and that the program does not refuse.
-/
import Derived.Test.YtpogmaccipcdoaaLawN
namespace Go.Proofs.Ytpogmaccipcdoaa
open Go.RowKit

set_option maxRecDepth 20000 in
set_option maxHeartbeats 1000000 in
theorem order_yes (total : Int) (a : Option Addr) (n cap : Nat) (f : Nat → Int) (w : World) (hr : Row w a n f) (hf : Fits total n f) :
    Calls Try.prog 5 #[.int .i64 total, .slice a n cap] w fun e w' => e = .returned (.bool true) ∧ Below w.heap.size w w' := by
  have hlen := hf.len
  go_enter Try.func5, Try.ntmps5
  go_wp2_with (first
    | (go_at_call 9; refine (awake_any _).mono ?_; rintro e w1 ⟨rfl, hb1⟩; have hr1 := hr.carry hb1)
    | (go_at_call 11; refine (split_yes _ _ _ _ _ _ hr1 hf).mono ?_; rintro e w2 ⟨b, rfl, hb, o1, hb2⟩))
  have hr2 := hr1.carry hb2
  have hb3 : Below w.heap.size w w2 := hb1.trans (hb2.mono hb1.size)
  clear hr hr1 hb1 hb2
  go_loopw [7] (fun i wr => ∃ j : Nat, j ≤ n ∧ i = .int .i64 j ∧ Below w2.heap.size w2 wr) (fun i _ => n - (intOf i).toNat)
  case atStart => exact ⟨0, Nat.zero_le _, rfl, Below.refl _ _⟩
  case round =>
    obtain ⟨i, hi, rfl, hb4⟩ := hrel
    by_cases hlt : i < n
    · go_wp2
      go_loopw [8] (fun j wr => ∃ k : Nat, k ≤ n ∧ j = .int .i64 k ∧ Below w2.heap.size w2 wr) (fun j _ => n - (intOf j).toNat)
      case atStart => exact ⟨0, Nat.zero_le _, rfl, hb4⟩
      case round =>
        obtain ⟨k, hk, rfl, hb5⟩ := hrel
        by_cases hlt2 : k < n
        · obtain ⟨sb, off, rfl, hsb, hc⟩ := hr2 (by omega)
          have c1 := (hb5.cell (p := ⟨sb, off + i, none⟩) hsb).trans (hc i hlt)
          have c2 := (hb5.cell (p := ⟨sb, off + k, none⟩) hsb).trans (hc k hlt2)
          have d1 := (hb5.cell (p := ⟨b, i, none⟩) o1.1).trans (o1.2 i hlt).1
          have d2 := (hb5.cell (p := ⟨b, k, none⟩) o1.1).trans (o1.2 k hlt2).1
          have q1 := hf.part k hlt2
          obtain ⟨q2, q3⟩ := q1
          have hord := hf.order i k hlt hlt2
          have hali := hf.alike i k hlt hlt2
          clear hc hr2 hf o1
          by_cases t1 : f k < f i
          · have g1 : decide (part total n f i < part total n f k) = false := by have := hord t1; simp; omega
            have g2 : (f i == f k) = false := by simp; omega
            clear hord hali
            go_wp2
            go_quiet (fail)
            go_wp2
            go_roundw
            case rel => exact ⟨k + 1, by omega, by go_num, ⟨hb5.os, hb5.tape, hb5.output, hb5.size, hb5.block⟩⟩
            case measure => simp [intOf]; omega
          have g0 : decide (f k < f i) = false := by simpa using t1
          by_cases t2 : f i = f k
          · by_cases t3 : i < k
            · have h := hali t2 t3
              obtain ⟨h1, h2⟩ := h
              have g1 : decide (part total n f i < part total n f k) = false := by simp; omega
              have g2 : decide (part total n f k + 1 < part total n f i) = false := by simp; omega
              have g3 : (f i == f k) = true := by simpa using t2
              have t3' : (i : Int) < (k : Int) := by omega
              clear hord hali t2
              go_wp2
              go_quiet (fail)
              go_wp2
              go_roundw
              case rel => exact ⟨k + 1, by omega, by go_num, ⟨hb5.os, hb5.tape, hb5.output, hb5.size, hb5.block⟩⟩
              case measure => simp [intOf]; omega
            · have t3' : decide ((i : Int) < (k : Int)) = false := by simp; omega
              have g3 : (f i == f k) = true := by simpa using t2
              clear hord hali t2
              go_wp2
              go_quiet (fail)
              go_wp2
              go_roundw
              case rel => exact ⟨k + 1, by omega, by go_num, ⟨hb5.os, hb5.tape, hb5.output, hb5.size, hb5.block⟩⟩
              case measure => simp [intOf]; omega
          · have g3 : (f i == f k) = false := by simpa using t2
            clear hord hali t2
            go_wp2
            go_quiet (fail)
            go_wp2
            go_roundw
            case rel => exact ⟨k + 1, by omega, by go_num, ⟨hb5.os, hb5.tape, hb5.output, hb5.size, hb5.block⟩⟩
            case measure => simp [intOf]; omega
        · clear hf o1 hr2 hb4 hb3
          go_wp2
          go_roundw
          case rel => exact ⟨i + 1, by omega, by go_num, hb5⟩
          case measure => simp [intOf]; omega
    · obtain rfl : i = n := by omega
      clear hf o1 hr2
      go_wp2
      go_ret
      exact ⟨rfl, hb3.trans (hb4.mono hb3.size)⟩
end Go.Proofs.Ytpogmaccipcdoaa
