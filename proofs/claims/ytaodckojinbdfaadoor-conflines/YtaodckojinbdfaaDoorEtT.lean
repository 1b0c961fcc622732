/-
  What the row's list gives a walk: errorType's cell; and a world that meets the list. Condition: the list is met.
-/
import Derived.Test.YtaodckojinbdfaaDoorFWalkG
import Derived.Test.YtaodckojinbdfaaDoorRows
import Derived.ChangeVars
import Derived.LaidHandle
import Derived.LaidLaws
import Derived.Stop.Joined
import Derived.JoinedOf
import Derived.LaidSub
import Derived.Lay
namespace Go.Proofs.YtaodckojinbdfaaDoor
open Go.ChangeShapes Go.WideShapes Go.RowKit

theorem etNumber : Tryd.prog.globalNamed "errors.errorType" = some 0 := by kernel_rfl
theorem oneRow : ((List.range 168).filter fun t => Tryd.prog.rowNamed t [101, 114, 114, 111, 114]) = [32] := by kernel_rfl
theorem typesSize : Tryd.prog.types.size = 168 := by kernel_rfl

theorem et_of {W : World} (h : handlesMet Tryd.prog [("errors.errorType", Rows.laid_errors_errorType)] W) : ET W := by
  obtain ⟨name, u, ty, e1, e2, e3, e4, e5⟩ := h _ (List.mem_singleton.2 rfl)
  have en : name = [101, 114, 114, 111, 114] := (Option.some.inj e1).symm
  subst en
  obtain rfl : u = 102 := (Option.some.inj (Eq.trans (by kernel_rfl) e2)).symm
  have hm : ty ∈ (List.range 168).filter fun t => Tryd.prog.rowNamed t [101, 114, 114, 111, 114] := List.mem_filter.2 ⟨List.mem_range.2 (by rw [← typesSize]; exact e3), e4⟩
  rw [oneRow] at hm
  obtain rfl := List.mem_singleton.1 hm
  have hh : typeHandle Tryd.prog 32 = .pointer (some ⟨4, 32, none⟩) := by kernel_rfl
  rw [hh] at e5
  unfold ET
  simpa using World.var?_cell etNumber e5 0

theorem handle3 : (Rows.confCutRow.laid.filter fun x => x.2.handleName?.isSome) = [("errors.errorType", Rows.laid_errors_errorType)] := by kernel_rfl
theorem et_of3 {W : World} (h : laidMetH Tryd.prog Rows.confCutRow.laid W) : ET W := by
  obtain ⟨_, h2⟩ := laidMetH_iff.1 h
  rw [handle3] at h2
  exact et_of h2

/-- A world that meets the list: the tables laid, and errorType's cell. -/
theorem world3_met (os : Os) (args : Array Value) : laidMetH Tryd.prog Rows.confCutRow.laid (({ World.laidAll Tryd.prog os (Rows.confCutRow.laid.take 1 ++ Rows.confCutRow.laid.drop 2) with heap := (World.laidAll Tryd.prog os (Rows.confCutRow.laid.take 1 ++ Rows.confCutRow.laid.drop 2)).heap.modify 0 (fun | .cells _ t frozen => .cells #[.iface 102 (.agg #[.pointer (some ⟨4, 32, none⟩)])] t frozen | o => o) } : World).forCall (fun _ _ => 0) ⟨#[], args, []⟩).memory :=
  laidMetH_of_parts (laidMet_of_run' 8 (by kernel_rfl) (by kernel_rfl)) (by kernel_rfl)

end Go.Proofs.YtaodckojinbdfaaDoor
