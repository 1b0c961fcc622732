/-
  No cell of these rows narrows 'for every input' (looked for: loops, veiled, ifaces, maps, wideKeys, modest, calm, conditions, laid).
  DERIVED. THE GIVEN ROWS OF THIS SEAT. 4 by the template 'for every input the law returns true; each argument reads behind the call as it read before'; 0 by the template 'total and deterministic' (their statements: YtcombbkhdnipkaaTotals.lean).
  GIVEN WITH THE SEED: the statements are not yours to turn. If you find one false, say at which input.
  Laid BY PROGRAM, IN A SANDBOX (cutbox-rows.mjs): the forced cells as the released guide's own fill.sh prints them over the translation 263d749553f6c636… (all of the seat's roots in one cut). By AI agents, Wed Nov 11 2026. No macro, syntax, notation, axiom, sorry.
-/
import Derived.Test.YtcombbkhdnipkaaChecked
import GoSem.Claim
import GoSem.ClaimJoined
import GoSem.ClaimMapViews
import Derived.JoinedTies
import Derived.KernelRfl
namespace Go.Proofs.Ytcombbkhdnipkaa
/- THE CELL 'sum', in the pinned program and in every row, IS THE sha256 OF THE DUMP (.gsa) THAT YtcombbkhdnipkaaProg.lean LOADS. Nothing in Lean hashes anything: it is a label: what it is worth is what the hold of that sum in a sandbox is worth. -/
noncomputable def Try.pinned : Pinned := { name := "ytcombbkhdnipkaa", sum := "263d749553f6c636dbe21cc107e2f194f171ff78389e6ee53aaf94e72471f90f", checked := Try.checked }
namespace Rows
def none {H : Type} : Left H := { results := [], args := [] }

/-- 'usherlaw20.BorrowAll': WHATEVER THE INPUT: true; the input reads as it did. -/
def borrowAllSpec : ChangeSpec := { name := "borrowAll", fn := fun _ => fun
  | [d1, d2, d3] => { results := [.lit (.bool true)], args := [d1, d2, d3] }
  | _ => none }
def borrowAllRow : OpenClaim := { program := "ytcombbkhdnipkaa", sum := "263d749553f6c636dbe21cc107e2f194f171ff78389e6ee53aaf94e72471f90f", func := "usher/usherlaw20.BorrowAll", spec := "borrowAll", apart := false }
def BorrowAllSaid : Prop := borrowAllRow.holds Try.pinned (OpenSpec.ofChange borrowAllSpec)

/-- ITS FALSE NEIGHBOUR: 'it returns false'. Refute it at one input. -/
def borrowAllWrong : ChangeSpec := { name := "borrowAll", fn := fun _ => fun
  | [d1, d2, d3] => { results := [.lit (.bool false)], args := [d1, d2, d3] }
  | _ => none }
def BorrowAllWrongFalsely : Prop := borrowAllRow.holds Try.pinned (OpenSpec.ofChange borrowAllWrong)

/-- 'usherlaw20.BorrowSum': WHATEVER THE INPUT: true; the input reads as it did. -/
def borrowSumSpec : ChangeSpec := { name := "borrowSum", fn := fun _ => fun
  | [d1, d2, d3] => { results := [.lit (.bool true)], args := [d1, d2, d3] }
  | _ => none }
def borrowSumRow : OpenClaim := { program := "ytcombbkhdnipkaa", sum := "263d749553f6c636dbe21cc107e2f194f171ff78389e6ee53aaf94e72471f90f", func := "usher/usherlaw20.BorrowSum", spec := "borrowSum", apart := false }
def BorrowSumSaid : Prop := borrowSumRow.holds Try.pinned (OpenSpec.ofChange borrowSumSpec)

/-- ITS FALSE NEIGHBOUR: 'it returns false'. Refute it at one input. -/
def borrowSumWrong : ChangeSpec := { name := "borrowSum", fn := fun _ => fun
  | [d1, d2, d3] => { results := [.lit (.bool false)], args := [d1, d2, d3] }
  | _ => none }
def BorrowSumWrongFalsely : Prop := borrowSumRow.holds Try.pinned (OpenSpec.ofChange borrowSumWrong)

/-- 'usherlaw20.BorrowLent': WHATEVER THE INPUT: true; the input reads as it did. -/
def borrowLentSpec : ChangeSpec := { name := "borrowLent", fn := fun _ => fun
  | [d1, d2] => { results := [.lit (.bool true)], args := [d1, d2] }
  | _ => none }
def borrowLentRow : OpenClaim := { program := "ytcombbkhdnipkaa", sum := "263d749553f6c636dbe21cc107e2f194f171ff78389e6ee53aaf94e72471f90f", func := "usher/usherlaw20.BorrowLent", spec := "borrowLent", apart := false }
def BorrowLentSaid : Prop := borrowLentRow.holds Try.pinned (OpenSpec.ofChange borrowLentSpec)

/-- ITS FALSE NEIGHBOUR: 'it returns false'. Refute it at one input. -/
def borrowLentWrong : ChangeSpec := { name := "borrowLent", fn := fun _ => fun
  | [d1, d2] => { results := [.lit (.bool false)], args := [d1, d2] }
  | _ => none }
def BorrowLentWrongFalsely : Prop := borrowLentRow.holds Try.pinned (OpenSpec.ofChange borrowLentWrong)

/-- 'usherlaw20.BorrowMore': WHATEVER THE INPUT: true; the input reads as it did. -/
def borrowMoreSpec : ChangeSpec := { name := "borrowMore", fn := fun _ => fun
  | [d1, d2, d3, d4, d5] => { results := [.lit (.bool true)], args := [d1, d2, d3, d4, d5] }
  | _ => none }
def borrowMoreRow : OpenClaim := { program := "ytcombbkhdnipkaa", sum := "263d749553f6c636dbe21cc107e2f194f171ff78389e6ee53aaf94e72471f90f", func := "usher/usherlaw20.BorrowMore", spec := "borrowMore", apart := false }
def BorrowMoreSaid : Prop := borrowMoreRow.holds Try.pinned (OpenSpec.ofChange borrowMoreSpec)

/-- ITS FALSE NEIGHBOUR: 'it returns false'. Refute it at one input. -/
def borrowMoreWrong : ChangeSpec := { name := "borrowMore", fn := fun _ => fun
  | [d1, d2, d3, d4, d5] => { results := [.lit (.bool false)], args := [d1, d2, d3, d4, d5] }
  | _ => none }
def BorrowMoreWrongFalsely : Prop := borrowMoreRow.holds Try.pinned (OpenSpec.ofChange borrowMoreWrong)

/- THE SECOND FORM. 'bulk': how many values and letters a reading holds, each counted each time it is reached (what is shared counts as often as it is met; a slice's spare places count too). A statement '..UptoSaid' is the law's where the arguments, and the package variables that the reading takes, are together of bulk at most 1048576: NARROWER than '..Said'. Prove '..Said' where nothing that the law and all that it calls make is longer than what came in: it says more and counts as full. Else prove '..UptoSaid'. A law counts once. -/
mutual
def uptoBulk {H : Type} : DataW H → Nat
  | .lit (.string bytes) => bytes.length + 1
  | .lit _ => 1
  | .nil => 1
  | .ptr d => uptoBulk d + 1
  | .slice elems spare => uptoBulkAll elems + uptoBulkAll spare + 1
  | .agg parts => uptoBulkAll parts + 1
  | .iface _ d => uptoBulk d + 1
  | .map entries => uptoBulkEntries entries + 1
  | .held _ => 1
def uptoBulkAll {H : Type} : List (DataW H) → Nat
  | [] => 0
  | d :: r => uptoBulk d + uptoBulkAll r
def uptoBulkEntries {H : Type} : List (Lit × DataW H) → Nat
  | [] => 0
  | x :: r => uptoBulkEntry x + uptoBulkEntries r
def uptoBulkEntry {H : Type} : Lit × DataW H → Nat
  | (.string bytes, d) => bytes.length + uptoBulk d + 1
  | (_, d) => uptoBulk d + 1
 end
def uptoSmall : (H : Type) → List (DataW H) → Bool := fun _ ds => decide (uptoBulkAll ds ≤ 1048576)
def OpenSpec.upto (s : _root_.Go.ChangeSpec) : _root_.Go.OpenSpec := { _root_.Go.OpenSpec.ofChange s with cond := some uptoSmall }

/-- 'usherlaw20.BorrowAll', WHERE WHAT IT READS IS OF BULK AT MOST 1048576: true; the input reads as it did. -/
def borrowAllUptoRow : OpenClaim := { program := "ytcombbkhdnipkaa", sum := "263d749553f6c636dbe21cc107e2f194f171ff78389e6ee53aaf94e72471f90f", func := "usher/usherlaw20.BorrowAll", spec := "borrowAll", apart := false, narrowed := true }
def BorrowAllUptoSaid : Prop := borrowAllUptoRow.holds Try.pinned (OpenSpec.upto borrowAllSpec)

/-- 'usherlaw20.BorrowSum', WHERE WHAT IT READS IS OF BULK AT MOST 1048576: true; the input reads as it did. -/
def borrowSumUptoRow : OpenClaim := { program := "ytcombbkhdnipkaa", sum := "263d749553f6c636dbe21cc107e2f194f171ff78389e6ee53aaf94e72471f90f", func := "usher/usherlaw20.BorrowSum", spec := "borrowSum", apart := false, narrowed := true }
def BorrowSumUptoSaid : Prop := borrowSumUptoRow.holds Try.pinned (OpenSpec.upto borrowSumSpec)

/-- 'usherlaw20.BorrowLent', WHERE WHAT IT READS IS OF BULK AT MOST 1048576: true; the input reads as it did. -/
def borrowLentUptoRow : OpenClaim := { program := "ytcombbkhdnipkaa", sum := "263d749553f6c636dbe21cc107e2f194f171ff78389e6ee53aaf94e72471f90f", func := "usher/usherlaw20.BorrowLent", spec := "borrowLent", apart := false, narrowed := true }
def BorrowLentUptoSaid : Prop := borrowLentUptoRow.holds Try.pinned (OpenSpec.upto borrowLentSpec)

/-- 'usherlaw20.BorrowMore', WHERE WHAT IT READS IS OF BULK AT MOST 1048576: true; the input reads as it did. -/
def borrowMoreUptoRow : OpenClaim := { program := "ytcombbkhdnipkaa", sum := "263d749553f6c636dbe21cc107e2f194f171ff78389e6ee53aaf94e72471f90f", func := "usher/usherlaw20.BorrowMore", spec := "borrowMore", apart := false, narrowed := true }
def BorrowMoreUptoSaid : Prop := borrowMoreUptoRow.holds Try.pinned (OpenSpec.upto borrowMoreSpec)

end Rows
end Go.Proofs.Ytcombbkhdnipkaa
