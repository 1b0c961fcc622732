/-
  What 'Hex' of the program answers: sixteen digits. No condition.
-/
import Derived.Test.YtooaojegdhamjaaDoorWalkA
import Derived.Test.YtooaojegdhamjaaDoorMathA
import Derived.Laws.MakeOwn
import Derived.Laws.OwnMore
namespace Go.Proofs.YtooaojegdhamjaaDoor
open Go.RowKit Go.Lib

/-- A digit of sixteen. -/
def hexC (d : Nat) : Nat := if d < 10 then 48 + d else 87 + d
theorem hexC_lt {d : Nat} (h : d < 16) : hexC d < 256 := by unfold hexC; split <;> omega
/-- The digit at place j of sixteen places, the highest first. -/
def hexAt (h j : Nat) : Nat := hexC (h / 16 ^ (15 - j) % 16)
def hexL (h : Nat) : List UInt8 := (List.range 16).map fun j => UInt8.ofNat (hexAt h j)
def hexB (h : Nat) : ByteArray := mk (hexL h)

end Go.Proofs.YtooaojegdhamjaaDoor
