/-
  The texts' type in this program; pieces of a text. No condition.
-/
import Derived.Test.YtlkoaldekmdcoaaGreatDoorWalkB
import Derived.Test.YtlkoaldekmdcoaaGreatDoorMathA
import Derived.Test.YtlkoaldekmdcoaaGreatDoorMathC
import Derived.Test.YtlkoaldekmdcoaaGreatDoorShelf
namespace Go.Proofs.YtlkoaldekmdcoaaGreatDoor
open Go.RowKit Go.Lib Go.Shelf

theorem info9 : (Tryz.prog.info? 9).map (fun i => (i.zero, i.size, i.bytes)) = some (some (.string ByteArray.empty), 1, 16) := by kernel_rfl
theorem piece_le (c : UInt8) : ∀ (l : List UInt8), ∀ x ∈ cutL c l, x.length ≤ l.length
  | [], x, h => by
    have : x = [] := by simpa [cutL] using h
    subst this; simp
  | b :: l, x, h => by
    have ih := piece_le c l
    unfold cutL at h
    split at h
    · rcases List.mem_cons.1 h with rfl | h
      · simp
      · have := ih x h; simp; omega
    · rcases List.mem_cons.1 h with rfl | h
      · have hne := cutL_ne c l
        cases hc : cutL c l with
        | nil => exact absurd hc hne
        | cons y t =>
          have := ih y (by rw [hc]; exact List.mem_cons_self ..)
          simp; omega
      · have := ih x (List.mem_of_mem_tail h); simp; omega
end Go.Proofs.YtlkoaldekmdcoaaGreatDoor
