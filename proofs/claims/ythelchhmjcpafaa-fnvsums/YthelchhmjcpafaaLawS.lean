/-
  'FnvSums': the walk. No condition.
-/
import Derived.Test.YthelchhmjcpafaaRefC
import Derived.Test.YthelchhmjcpafaaLawA
namespace Go.Proofs.Ythelchhmjcpafaa
open Go.RowKit

theorem sums_ok (h : Int) (s t : ByteArray) (w : World) (hh : (Lit.int .u64 h).wf = true) (hs : s.size ≤ maxLen) (ht : t.size ≤ maxLen) :
    Calls Try.prog 3 #[.int .u64 h, .string s, .string t] w fun e w' => e = .returned (.bool true) ∧ Below w.heap.size w w' := by
  have hm : s.size ≤ 9223372036854775807 := by simp only [maxLen] at hs; omega
  have hn : t.size ≤ 9223372036854775807 := by simp only [maxLen] at ht; omega
  obtain ⟨h, rfl, lh⟩ := word_nat hh
  clear hh
  go_enter Try.func3, Try.ntmps3
  go_wp2_with fail
  go_at_call 8
  refine (awake_ok w).mono ?_
  rintro e w' ⟨rfl, hw⟩; obtain rfl := hw.symm
  by_cases c1 : (65536 : Int) < s.size
  · go_wp2
    go_ret
    exact ⟨rfl, Below.refl _ _⟩
  by_cases c2 : (65536 : Int) < t.size
  · go_wp2
    go_ret
    exact ⟨rfl, Below.refl _ _⟩
  go_wp2_with fail
  go_at_call 9
  refine (sum_ok s hm w).mono ?_
  rintro e w' ⟨rfl, hw⟩; obtain rfl := hw.symm
  go_wp2_with fail
  go_at_call 10
  refine (rsum_ok s hm w).mono ?_
  rintro e w' ⟨rfl, hw⟩; obtain rfl := hw.symm
  go_wp2_with fail
  go_at_call 11
  refine (more_ok h s lh hm w).mono ?_
  rintro e w' ⟨rfl, hw⟩; obtain rfl := hw.symm
  go_wp2_with fail
  go_at_call 12
  refine (rmore_ok h s lh hm w).mono ?_
  rintro e w' ⟨rfl, hw⟩; obtain rfl := hw.symm
  go_wp2_with fail
  go_at_call 13
  refine (flow_ok s t hm hn w).mono ?_
  rintro e w' ⟨rfl, hw⟩; obtain rfl := hw.symm
  go_wp2_with fail
  go_at_call 14
  refine (rflow_ok s t (by omega) (by omega) w).mono ?_
  rintro e w' ⟨rfl, hw⟩
  go_wp2
  go_ret
  exact ⟨rfl, hw⟩
end Go.Proofs.Ythelchhmjcpafaa
