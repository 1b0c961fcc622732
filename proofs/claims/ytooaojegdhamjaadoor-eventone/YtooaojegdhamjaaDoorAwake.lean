/-
  The fixed answers of the statements ('awake') are met. No condition.
-/
import Derived.Test.YtooaojegdhamjaaDoorWalkC
import Derived.Test.YtooaojegdhamjaaDoorWalkD
import Derived.Test.YtooaojegdhamjaaDoorWalkE
namespace Go.Proofs.YtooaojegdhamjaaDoor
open Go.RowKit Go.Lib

theorem isWord_eq (s : ByteArray) : isWord s = (decide (s.size ≤ 64) && (allB isWordB s && (!decide (s.size = 0) && !(s.data.toList == [45])))) := by
  unfold isWord
  rw [ByteArray.toList_eq]

theorem good_ab : good (cutB 44 ⟨#[97, 44, 98]⟩) = true := by
  apply good_yes
  rw [show cutB 44 ⟨#[97, 44, 98]⟩ = [⟨#[97]⟩, ⟨#[98]⟩] from rfl]
  refine ⟨by decide, fun i hi => ?_⟩
  rcases (by simp at hi; omega : i = 0 ∨ i = 1) with rfl | rfl
  · exact ⟨by rw [isWord_eq]; decide, fun j hj => absurd hj (Nat.not_lt_zero _)⟩
  · refine ⟨by rw [isWord_eq]; decide, fun j hj => ?_⟩
    obtain rfl : j = 0 := by omega
    decide

end Go.Proofs.YtooaojegdhamjaaDoor
