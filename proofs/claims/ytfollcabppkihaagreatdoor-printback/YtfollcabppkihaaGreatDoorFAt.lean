/-
  What 'fault.At' answers around a number. No condition.
-/
import Derived.Test.YtfollcabppkihaaGreatDoorWalkA
namespace Go.Proofs.YtfollcabppkihaaGreatDoor
open Go.RowKit

/-- An error with its line, or none. -/
def errV (e : Int) (l : Nat) : Value := if e = 0 then .nilIface else .iface 73 (.agg #[.int .i64 (l : Int), .string ⟨#[]⟩, .iface 28 (.int .i64 e)])
theorem at_some (L : Int) (v : Value) (w : World) : Calls Tryz.prog 16 #[.int .i64 L, .iface 28 v] w fun e w' => e = .returned (.iface 73 (.agg #[.int .i64 L, .string ⟨#[]⟩, .iface 28 v])) ∧ w' = w := by
  go_enter Tryz.func16, Tryz.ntmps16
  go_wp2_with fail
  go_ret
  exact ⟨rfl, rfl⟩
end Go.Proofs.YtfollcabppkihaaGreatDoor
