/-
  'Same' of the reference at two configurations that are only read, where both are the same. Condition: they lie in memory.
-/
import Derived.Test.YtlkoaldekmdcoaaGreatDoorQPrE
import Derived.BigQuiet
import Derived.Deep.RegionHeld
namespace Go.Proofs.YtlkoaldekmdcoaaGreatDoor
open Go.RowKit

theorem below_drew (w : World) (n : Nat) : Below w.heap.size w (w.drewN n) := ⟨rfl, rfl, rfl, Nat.le_refl _, fun _ _ => rfl⟩

end Go.Proofs.YtlkoaldekmdcoaaGreatDoor
