/-
  'FnvFlows': the walk. No condition.
-/
import Derived.Test.YthelchhmjcpafaaLawL
namespace Go.Proofs.Ythelchhmjcpafaa
open Go.RowKit

theorem flow_nil (s : ByteArray) : flow s ⟨#[]⟩ = stp (sum s) 0 := by rw [flow_eq, more_nil]

theorem flow_snoc (s t : ByteArray) (hs : s.size ≤ 9223372036854775807) (ht : t.size ≤ 65536) (x : UInt8) (v : World) :
    Calls Try.prog 13 #[.string s, .string (t ++ one x)] v fun e w' => e = .returned (.int .u64 (stp (flow s t) x : Nat)) ∧ w' = v := by
  have H := flow_ok s (t ++ one x) hs (by rw [ByteArray.size_append', one_size]; omega) v
  rw [flow_eq, more_snoc, ← flow_eq] at H
  exact H

theorem more_flow (s t : ByteArray) (ht : t.size ≤ 9223372036854775807) (v : World) :
    Calls Try.prog 11 #[.int .u64 (flow s ⟨#[]⟩ : Nat), .string t] v fun e w' => e = .returned (.int .u64 (flow s t : Nat)) ∧ w' = v := by
  have H := more_ok (flow s ⟨#[]⟩) t (flow_lt _ _) ht v
  rw [flow_nil, ← flow_eq, ← flow_nil] at H
  exact H

set_option maxHeartbeats 4000000 in
theorem flows_ok (s t : ByteArray) (a b : Int) (w : World) (hs : s.size ≤ maxLen) (ht : t.size ≤ maxLen) (ha : (Lit.int .u8 a).wf = true) (hb : (Lit.int .u8 b).wf = true) :
    Calls Try.prog 7 #[.string s, .string t, .int .u8 a, .int .u8 b] w fun e w' => e = .returned (.bool true) ∧ Below w.heap.size w w' := by
  have hm : s.size ≤ 9223372036854775807 := by simp only [maxLen] at hs; omega
  have hn : t.size ≤ 9223372036854775807 := by simp only [maxLen] at ht; omega
  obtain ⟨a, rfl⟩ := byte_of ha
  obtain ⟨b, rfl⟩ := byte_of hb
  clear ha hb
  go_enter Try.func7, Try.ntmps7
  go_wp2_with fail
  go_at_call 8
  refine (awake_ok w).mono ?_
  rintro e w' ⟨rfl, hw⟩; obtain rfl := hw.symm
  by_cases c1 : (65536 : Int) < s.size
  · go_wp2
    go_ret
    exact ⟨rfl, Below.refl _ _⟩
  by_cases c2 : (65536 : Int) < t.size
  · go_wp2
    go_ret
    exact ⟨rfl, Below.refl _ _⟩
  go_wp2_with fail
  go_at_call 13
  refine (flow_ok s ⟨#[]⟩ hm (by decide) w).mono ?_
  rintro e w' ⟨rfl, hw⟩; obtain rfl := hw.symm
  clear hw
  have CA := conv_one a
  have CB := conv_one b
  have SA := add_one t (by omega) a
  have SB := add_one t (by omega) b
  have KA := flow_snoc s t hm (by omega) a
  have KB := flow_snoc s t hm (by omega) b
  go_wp2_with fail
  go_region_with ((go_at_call 13; first | with_reducible refine (KA _).mono ?_ | with_reducible refine (KB _).mono ?_) <;> rintro e w' ⟨rfl, rfl⟩)
  all_goals clear KA KB CA CB SA SB
  all_goals go_wp2_with fail
  all_goals go_at_call 11
  all_goals refine (more_flow s t hn _).mono ?_
  all_goals rintro e w' ⟨rfl, rfl⟩
  all_goals go_wp2_with fail
  all_goals go_at_call 13
  all_goals refine (flow_ok s t hm hn _).mono ?_
  all_goals rintro e w' ⟨rfl, rfl⟩
  all_goals go_wp2
  all_goals go_ret
  all_goals exact ⟨congrArg (fun x => Ending.returned (Value.bool x)) (same_last (flow_lt s t) a b), below_two _ _ _⟩
end Go.Proofs.Ythelchhmjcpafaa
