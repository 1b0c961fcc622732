/-
  The table of powers that the row lists, as the library's theorem on strconv.Itoa asks it. No condition.
-/
import Derived.Test.YtooaojegdhamjaaDoorWalkF
import Derived.Lib.LaidU8
namespace Go.Proofs.YtooaojegdhamjaaDoor
open Go.Lib

theorem pow_datum : (Rows.laid_internal_strconv_uint64pow10 : DataW Unit) = tabData .u64 pow10Tab := by kernel_rfl

theorem pow_tab {W : World} (h : VarReads Tryd.prog W powName Rows.laid_internal_strconv_uint64pow10) : Tab W := by
  obtain ⟨g, t, cs, fuel, p, hg, ht, hv, hd⟩ := h
  obtain rfl : 3 = g := Option.some.inj ((show Tryd.prog.globalNamed powName = some 3 by kernel_rfl).symm.trans hg)
  obtain rfl : 124 = t := Option.some.inj ((show (Tryd.prog.globals[3]?).map (·.type) = some 124 by kernel_rfl).symm.trans ht)
  rw [pow_datum] at hd
  unfold Tab TabIs
  rw [hv, ← cells_of_tab Tryd.underlying124 Tryd.underlying116 (by kernel_rfl) (by kernel_rfl) hd]

end Go.Proofs.YtooaojegdhamjaaDoor
