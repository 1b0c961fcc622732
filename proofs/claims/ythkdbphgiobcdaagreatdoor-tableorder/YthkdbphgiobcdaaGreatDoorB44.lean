/-
  The table of powers that the rows list, as the library's theorem on strconv.Itoa asks it. No condition.
-/
import Derived.Test.YthkdbphgiobcdaaGreatDoorB35
import Derived.Lib.LaidU8
namespace Go.Proofs.YthkdbphgiobcdaaGreatDoor
open Go.Lib

theorem pow_datum : (Rows.laid_internal_strconv_uint64pow10 : DataW Unit) = tabData .u64 pow10Tab := by kernel_rfl
theorem pow_tab {W : World} (h : VarReads Tryz.prog W powName Rows.laid_internal_strconv_uint64pow10) : Tab W := by
  obtain ⟨g, t, cs, fuel, p, hg, ht, hv, hd⟩ := h
  obtain rfl : 2 = g := Option.some.inj ((show Tryz.prog.globalNamed powName = some 2 by kernel_rfl).symm.trans hg)
  obtain rfl : 221 = t := Option.some.inj ((show (Tryz.prog.globals[2]?).map (·.type) = some 221 by kernel_rfl).symm.trans ht)
  rw [pow_datum] at hd
  unfold Tab TabIs
  rw [hv, ← cells_of_tab Tryz.underlying221 Tryz.underlying29 (by kernel_rfl) (by kernel_rfl) hd]

end Go.Proofs.YthkdbphgiobcdaaGreatDoor
