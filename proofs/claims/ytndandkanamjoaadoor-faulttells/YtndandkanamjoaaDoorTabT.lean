/-
  What the row's list of 'FaultTells' gives a walk: errorType's cell and the library's table of powers; and a world that meets the list. Condition: the list is met.
-/
import Derived.Test.YtndandkanamjoaaDoorDig
import Derived.Test.YtndandkanamjoaaDoorEtT
import Derived.LaidSub
import Derived.Lay
namespace Go.Proofs.YtndandkanamjoaaDoor
open Go.Lib

theorem pow_datum : (Rows.laid_internal_strconv_uint64pow10 : DataW Unit) = tabData .u64 pow10Tab := by kernel_rfl

theorem pow_tab {W : World} (h : VarReads Tryd.prog W powName Rows.laid_internal_strconv_uint64pow10) : Tab W := by
  obtain ⟨g, t, cs, fuel, p, hg, ht, hv, hd⟩ := h
  obtain rfl : 1 = g := Option.some.inj ((show Tryd.prog.globalNamed powName = some 1 by kernel_rfl).symm.trans hg)
  obtain rfl : 104 = t := Option.some.inj ((show (Tryd.prog.globals[1]?).map (·.type) = some 104 by kernel_rfl).symm.trans ht)
  rw [pow_datum] at hd
  unfold Tab TabIs
  rw [hv, ← cells_of_tab Tryd.underlying104 Tryd.underlying97 (by kernel_rfl) (by kernel_rfl) hd]

theorem dataOf : (Rows.faultTellsRow.laid.filter fun x => x.2.handleName?.isNone) = Rows.faultTellsRow.laid.take 3 := by kernel_rfl
theorem handleOf : (Rows.faultTellsRow.laid.filter fun x => x.2.handleName?.isSome) = [("errors.errorType", Rows.laid_errors_errorType)] := by kernel_rfl

theorem both_of_laid {W : World} (h : laidMetH Tryd.prog Rows.faultTellsRow.laid W) : ET W ∧ Tab W := by
  obtain ⟨h1, h2⟩ := laidMetH_iff.1 h
  rw [dataOf] at h1
  rw [handleOf] at h2
  exact ⟨et_of h2, pow_tab (Lib.laidMet.reads h1 (.tail _ (.tail _ (.head _))))⟩

/-- A world that meets the list: the tables laid, and errorType's cell. -/
theorem ttWorld_met (os : Os) (args : Array Value) : laidMetH Tryd.prog Rows.faultTellsRow.laid (({ World.laidAll Tryd.prog os (Rows.faultTellsRow.laid.take 3) with heap := (World.laidAll Tryd.prog os (Rows.faultTellsRow.laid.take 3)).heap.modify 0 (fun | .cells _ t frozen => .cells #[.iface 81 (.agg #[.pointer (some ⟨4, 25, none⟩)])] t frozen | o => o) } : World).forCall (fun _ _ => 0) ⟨#[], args, []⟩).memory :=
  laidMetH_of_parts (laidMet_of_run' 8 (by kernel_rfl) (by kernel_rfl)) (by kernel_rfl)

end Go.Proofs.YtndandkanamjoaaDoor
