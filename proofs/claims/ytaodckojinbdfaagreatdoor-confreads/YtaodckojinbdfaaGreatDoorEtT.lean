/-
  What the row's list gives a walk: errorType's cell; and a world that meets the list. Condition: the list is met.
-/
import Derived.Test.YtaodckojinbdfaaGreatDoorFD
import Derived.Test.YtaodckojinbdfaaGreatDoorRows
import Derived.ChangeVars
import Derived.LaidHandle
import Derived.LaidLaws
import Derived.Stop.Joined
import Derived.JoinedOf
import Derived.LaidSub
import Derived.Lay
namespace Go.Proofs.YtaodckojinbdfaaGreatDoor
open Go.ChangeShapes Go.WideShapes Go.RowKit

theorem etNumber : Tryz.prog.globalNamed "errors.errorType" = some 0 := by kernel_rfl
theorem oneRow : ((List.range 173).filter fun t => Tryz.prog.rowNamed t [101, 114, 114, 111, 114]) = [28] := by kernel_rfl
theorem typesSize : Tryz.prog.types.size = 173 := by kernel_rfl

theorem et_of {W : World} (h : handlesMet Tryz.prog [("errors.errorType", Rows.laid_errors_errorType)] W) : ET W := by
  obtain ⟨name, u, ty, e1, e2, e3, e4, e5⟩ := h _ (List.mem_singleton.2 rfl)
  have en : name = [101, 114, 114, 111, 114] := (Option.some.inj e1).symm
  subst en
  obtain rfl : u = 108 := (Option.some.inj (Eq.trans (by kernel_rfl) e2)).symm
  have hm : ty ∈ (List.range 173).filter fun t => Tryz.prog.rowNamed t [101, 114, 114, 111, 114] := List.mem_filter.2 ⟨List.mem_range.2 (by rw [← typesSize]; exact e3), e4⟩
  rw [oneRow] at hm
  obtain rfl := List.mem_singleton.1 hm
  have hh : typeHandle Tryz.prog 28 = .pointer (some ⟨4, 28, none⟩) := by kernel_rfl
  rw [hh] at e5
  unfold ET
  simpa using World.var?_cell etNumber e5 0

theorem handle3 : (Rows.confReadsRow.laid.filter fun x => x.2.handleName?.isSome) = [("errors.errorType", Rows.laid_errors_errorType)] := by kernel_rfl
theorem et_of3 {W : World} (h : laidMetH Tryz.prog Rows.confReadsRow.laid W) : ET W := by
  obtain ⟨_, h2⟩ := laidMetH_iff.1 h
  rw [handle3] at h2
  exact et_of h2

/-- A world that meets the list: the tables laid, and errorType's cell. -/
theorem world3_met (os : Os) (args : Array Value) : laidMetH Tryz.prog Rows.confReadsRow.laid (({ World.laidAll Tryz.prog os (Rows.confReadsRow.laid.take 1 ++ Rows.confReadsRow.laid.drop 2) with heap := (World.laidAll Tryz.prog os (Rows.confReadsRow.laid.take 1 ++ Rows.confReadsRow.laid.drop 2)).heap.modify 0 (fun | .cells _ t frozen => .cells #[.iface 108 (.agg #[.pointer (some ⟨4, 28, none⟩)])] t frozen | o => o) } : World).forCall (fun _ _ => 0) ⟨#[], args, []⟩).memory :=
  laidMetH_of_parts (laidMet_of_run' 8 (by kernel_rfl) (by kernel_rfl)) (by kernel_rfl)

end Go.Proofs.YtaodckojinbdfaaGreatDoor
