/-
  What 'DealApart' of the statements answers: true, for every hash, every deck and every number of cards. No condition.
-/
import Derived.Test.YtcfjnflicgifjaaLawW
namespace Go.Proofs.Ytcfjnflicgifjaa
open Go.RowKit

theorem apart_no (h deck n : Int) (w : World) (hr : (refH deck n == 0) = false) :
    Calls Try.prog 5 #[.int .u64 h, .int .i64 deck, .int .i64 n] w fun e w' => e = .returned (.bool true) ∧ Below w.heap.size w w' := by
  have h' : (refH deck n != 0) = true := by simpa using hr
  go_enter Try.func5, Try.ntmps5
  go_wp2_with (first
    | (go_at_call 8; refine (awake_any _).mono ?_; rintro e w1 ⟨rfl, hb1⟩)
    | (go_at_call 9; refine (deal_no _ _ _ _ hr).mono ?_; rintro e w' ⟨rfl, hw⟩; obtain rfl := hw.symm))
  go_ret; exact ⟨rfl, hb1⟩

set_option maxRecDepth 20000 in
theorem apart_yes (H D n : Nat) (w : World) (hg : Good D n) (hH : H < 18446744073709551616) :
    Calls Try.prog 5 #[.int .u64 H, .int .i64 D, .int .i64 n] w fun e w' => e = .returned (.bool true) ∧ Below w.heap.size w w' := by
  obtain ⟨⟨hd0, hd1, hn0, hn1, hnd⟩, hfew⟩ := id hg
  have hh := isHand_deal (H := H) hg
  go_enter Try.func5, Try.ntmps5
  go_wp2_with (first
    | (go_at_call 8; refine (awake_any _).mono ?_; rintro e w1 ⟨rfl, hb1⟩)
    | (go_at_call 9; refine (deal_yes _ _ _ _ hg hH).mono ?_; rintro e w2 ⟨b, rfl, hb, o1, hb2⟩))
  have hb3 : Below w.heap.size w w2 := hb1.trans (hb2.mono hb1.size)
  have HC : Hid (∀ k, k < n → w2.cell? ⟨b, k, none⟩ = some (.int .i64 (crd (at_ D H) k : Nat))) := fun k hk => (o1.2 k hk).1
  have hbs := o1.1
  clear hb1 hb2
  go_loopw [9] (fun i wr => ∃ k : Nat, k ≤ n ∧ i = .int .i64 k ∧ Below w2.heap.size w2 wr) (fun i _ => n - (intOf i).toNat)
  case atStart => exact ⟨0, Nat.zero_le _, rfl, Below.refl _ _⟩
  case round =>
    obtain ⟨k, hk, rfl, p3⟩ := hrel
    by_cases hlt : k < n
    · have hcell := (p3.cell (p := ⟨b, k, none⟩) hbs).trans (HC.out k hlt)
      have hck := hh.lt k hlt
      have hun : Hid (∀ j, j < k → crd (at_ D H) j ≠ crd (at_ D H) k) := hh.un k hlt
      clear hh o1 hg
      go_wp2
      go_loopw [10] (fun i wr => ∃ j : Nat, j ≤ k ∧ i = .int .i64 j ∧ Below w2.heap.size w2 wr) (fun i _ => k - (intOf i).toNat)
      case atStart => exact ⟨0, Nat.zero_le _, rfl, p3⟩
      case round =>
        clear hcell p3
        obtain ⟨j, hj, rfl, p3⟩ := hrel
        have hcell := (p3.cell (p := ⟨b, k, none⟩) hbs).trans (HC.out k hlt)
        by_cases hlt2 : j < k
        · have hcell2 := (p3.cell (p := ⟨b, j, none⟩) hbs).trans (HC.out j (by omega))
          have g1 : (((crd (at_ D H) j : Nat) : Int) == ((crd (at_ D H) k : Nat) : Int)) = false := by have := hun.out j hlt2; simp; omega
          go_wp2
          go_quiet (fail)
          go_wp2
          go_roundw
          case rel => exact ⟨j + 1, by omega, by go_num, ⟨p3.os, p3.tape, p3.output, p3.size, p3.block⟩⟩
          case measure => simp [intOf]; omega
        · obtain rfl : j = k := by omega
          go_wp2
          go_roundw
          case rel => exact ⟨j + 1, by omega, by go_num, p3⟩
          case measure => simp [intOf]; omega
    · obtain rfl : k = n := by omega
      have hb4 : Below w.heap.size w wr := hb3.trans (p3.mono hb3.size)
      have hr4 := (o1.carry p3).row
      clear HC hh o1 p3 hb3
      by_cases t : 1 < k
      · have t' : (1 : Int) < (k : Int) := by omega
        obtain ⟨m, rfl⟩ : ∃ m, k = m + 1 := ⟨k - 1, by omega⟩
        have hgm := hg.less (by omega)
        have em : ((m + 1 : Nat) : Int) - 1 = (m : Nat) := by omega
        clear hg
        go_wp2_with fail
        go_at_call 9
        refine (deal_yes H D m _ hgm hH).mono ?_
        rintro e w5 ⟨c, rfl, hc, o5, hb5⟩
        have hr5 := (hr4.carry hb5).less (m := m) (by omega)
        have r5 := o5.row
        clear hr4 o5
        go_wp2_with (go_at_call 13; refine (same_yes _ _ _ _ _ _ _ _ r5 hr5 (by omega) (fun _ _ => rfl)).mono ?_; rintro e w6 ⟨rfl, hb6⟩)
        go_ret
        have hb7 : Below w.heap.size w w5 := hb4.trans (hb5.mono hb4.size)
        exact ⟨rfl, hb7.trans (hb6.mono hb7.size)⟩
      · have t' : ¬ (1 : Int) < (k : Int) := by omega
        clear hg hr4
        go_wp2
        go_ret
        exact ⟨rfl, hb4⟩

theorem apart_any (h deck n : Int) (w : World) (hw : (Lit.int .u64 h).wf = true) :
    Calls Try.prog 5 #[.int .u64 h, .int .i64 deck, .int .i64 n] w fun e w' => e = .returned (.bool true) ∧ Below w.heap.size w w' := by
  by_cases z : refH deck n = 0
  · obtain ⟨D, m, rfl, rfl, hg⟩ := good_of z
    obtain ⟨H, rfl, hH⟩ := word_nat hw
    exact apart_yes H D m w hg hH
  · exact apart_no h deck n w (by simpa using z)
end Go.Proofs.Ytcfjnflicgifjaa
