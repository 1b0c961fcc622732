/-
  What 'DealAll' of the statements answers: true, for every hash, every deck and every number of cards. No condition.
-/
import Derived.Test.YtcfjnflicgifjaaRefA
import Derived.Test.YtcfjnflicgifjaaLawW
namespace Go.Proofs.Ytcfjnflicgifjaa
open Go.RowKit

theorem all_no (h deck n : Int) (w : World) (hr : (refH deck n == 0) = false) :
    Calls Try.prog 3 #[.int .u64 h, .int .i64 deck, .int .i64 n] w fun e w' => e = .returned (.bool true) ∧ Below w.heap.size w w' := by
  go_enter Try.func3, Try.ntmps3
  go_wp2_with (first
    | (go_at_call 8; refine (awake_any _).mono ?_; rintro e w1 ⟨rfl, hb1⟩)
    | (go_at_call 9; refine (deal_no _ _ _ _ hr).mono ?_; rintro e w' ⟨rfl, hw⟩; obtain rfl := hw.symm)
    | (go_at_call 10; refine (rdeal_no _ _ _ _ hr).mono ?_; rintro e w' ⟨rfl, hw⟩; obtain rfl := hw.symm)
    | (go_at_call 11; refine (hands_no _ _ _ hr).mono ?_; rintro e w' ⟨rfl, hw⟩; obtain rfl := hw.symm)
    | (go_at_call 12; refine (rhands_no _ _ _ hr).mono ?_; rintro e w' ⟨rfl, hw⟩; obtain rfl := hw.symm)
    | (go_at_call 13; refine (same_yes none none 0 _ _ (fun _ => 0) (fun _ => 0) _ (fun h => absurd h (by omega)) (fun h => absurd h (by omega)) (by omega) (fun _ _ => rfl)).mono ?_; rintro e w6 ⟨rfl, hb6⟩))
  go_ret; exact ⟨rfl, hb1.trans (hb6.mono hb1.size)⟩

theorem all_yes (H D n : Nat) (w : World) (hg : Good D n) (hH : H < 18446744073709551616) :
    Calls Try.prog 3 #[.int .u64 H, .int .i64 D, .int .i64 n] w fun e w' => e = .returned (.bool true) ∧ Below w.heap.size w w' := by
  have hn := hg.n1
  go_enter Try.func3, Try.ntmps3
  go_wp2_with (first
    | (go_at_call 8; refine (awake_any _).mono ?_; rintro e w1 ⟨rfl, hb1⟩)
    | (go_at_call 9; refine (deal_yes _ _ _ _ hg hH).mono ?_; rintro e w2 ⟨b, rfl, hb, o1, hb2⟩)
    | (go_at_call 10; refine (rdeal_yes _ _ _ _ hg hH).mono ?_; rintro e w3 ⟨ra, rc, rfl, r3, hb3⟩; have o3 := o1.carry hb3)
    | (go_at_call 11; refine (hands_yes _ _ _ hg).mono ?_; rintro e w' ⟨rfl, hw⟩; obtain rfl := hw.symm)
    | (go_at_call 12; refine (rhands_yes _ _ _ hg).mono ?_; rintro e w' ⟨rfl, hw⟩; obtain rfl := hw.symm)
    | (go_at_call 13; refine (same_yes _ _ _ _ _ _ _ _ o3.row r3 (by omega) (fun _ _ => rfl)).mono ?_; rintro e w6 ⟨rfl, hb6⟩))
  go_ret
  have hb4 : Below w.heap.size w w2 := hb1.trans (hb2.mono hb1.size)
  have hb5 : Below w.heap.size w w3 := hb4.trans (hb3.mono hb4.size)
  exact ⟨rfl, hb5.trans (hb6.mono hb5.size)⟩

theorem all_any (h deck n : Int) (w : World) (hw : (Lit.int .u64 h).wf = true) :
    Calls Try.prog 3 #[.int .u64 h, .int .i64 deck, .int .i64 n] w fun e w' => e = .returned (.bool true) ∧ Below w.heap.size w w' := by
  by_cases z : refH deck n = 0
  · obtain ⟨D, m, rfl, rfl, hg⟩ := good_of z
    obtain ⟨H, rfl, hH⟩ := word_nat hw
    exact all_yes H D m w hg hH
  · exact all_no h deck n w (by simpa using z)
end Go.Proofs.Ytcfjnflicgifjaa
