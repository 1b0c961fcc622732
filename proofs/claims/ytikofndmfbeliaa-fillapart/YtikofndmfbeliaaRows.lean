/-
  No cell of these rows narrows 'for every input' (looked for: loops, veiled, ifaces, maps, wideKeys, modest, calm, conditions, laid).
  DERIVED. THE GIVEN ROWS OF THIS SEAT. 3 by the template 'for every input the law returns true; each argument reads behind the call as it read before'; 0 by the template 'total and deterministic' (their statements: YtikofndmfbeliaaTotals.lean).
  GIVEN WITH THE SEED: the statements are not yours to turn. If you find one false, say at which input.
  Laid BY PROGRAM, IN A SANDBOX (cutbox-rows.mjs): the forced cells as the released guide's own fill.sh prints them over the translation 189f247ed6f758e0… (all of the seat's roots in one cut). By AI agents, Wed Nov 11 2026. No macro, syntax, notation, axiom, sorry.
-/
import Derived.Test.YtikofndmfbeliaaChecked
import GoSem.Claim
import GoSem.ClaimJoined
import GoSem.ClaimMapViews
import Derived.JoinedTies
import Derived.KernelRfl
namespace Go.Proofs.Ytikofndmfbeliaa
/- THE CELL 'sum', in the pinned program and in every row, IS THE sha256 OF THE DUMP (.gsa) THAT YtikofndmfbeliaaProg.lean LOADS. Nothing in Lean hashes anything: it is a label: what it is worth is what the hold of that sum in a sandbox is worth. -/
noncomputable def Try.pinned : Pinned := { name := "ytikofndmfbeliaa", sum := "189f247ed6f758e0200d51077c2cfae478a04e5a6cb8a50a8e06a2ce82e24dc1", checked := Try.checked }
namespace Rows
def none {H : Type} : Left H := { results := [], args := [] }

/-- 'usherlaw12.FillAll': WHATEVER THE INPUT: true; the input reads as it did. -/
def fillAllSpec : ChangeSpec := { name := "fillAll", fn := fun _ => fun
  | [d] => { results := [.lit (.bool true)], args := [d] }
  | _ => none }
def fillAllRow : OpenClaim := { program := "ytikofndmfbeliaa", sum := "189f247ed6f758e0200d51077c2cfae478a04e5a6cb8a50a8e06a2ce82e24dc1", func := "usher/usherlaw12.FillAll", spec := "fillAll", unfollowed := true, recurses := true, apart := false }
def FillAllSaid : Prop := fillAllRow.holds Try.pinned (OpenSpec.ofChange fillAllSpec)

/-- ITS FALSE NEIGHBOUR: 'it returns false'. Refute it at one input. -/
def fillAllWrong : ChangeSpec := { name := "fillAll", fn := fun _ => fun
  | [d] => { results := [.lit (.bool false)], args := [d] }
  | _ => none }
def FillAllWrongFalsely : Prop := fillAllRow.holds Try.pinned (OpenSpec.ofChange fillAllWrong)

/-- 'usherlaw12.FillKeeps': WHATEVER THE INPUT: true; the input reads as it did. -/
def fillKeepsSpec : ChangeSpec := { name := "fillKeeps", fn := fun _ => fun
  | [d] => { results := [.lit (.bool true)], args := [d] }
  | _ => none }
def fillKeepsRow : OpenClaim := { program := "ytikofndmfbeliaa", sum := "189f247ed6f758e0200d51077c2cfae478a04e5a6cb8a50a8e06a2ce82e24dc1", func := "usher/usherlaw12.FillKeeps", spec := "fillKeeps", unfollowed := true, recurses := true, apart := false }
def FillKeepsSaid : Prop := fillKeepsRow.holds Try.pinned (OpenSpec.ofChange fillKeepsSpec)

/-- ITS FALSE NEIGHBOUR: 'it returns false'. Refute it at one input. -/
def fillKeepsWrong : ChangeSpec := { name := "fillKeeps", fn := fun _ => fun
  | [d] => { results := [.lit (.bool false)], args := [d] }
  | _ => none }
def FillKeepsWrongFalsely : Prop := fillKeepsRow.holds Try.pinned (OpenSpec.ofChange fillKeepsWrong)

/-- 'usherlaw12.FillApart': WHATEVER THE INPUT: true; the input reads as it did. -/
def fillApartSpec : ChangeSpec := { name := "fillApart", fn := fun _ => fun
  | [d] => { results := [.lit (.bool true)], args := [d] }
  | _ => none }
def fillApartRow : OpenClaim := { program := "ytikofndmfbeliaa", sum := "189f247ed6f758e0200d51077c2cfae478a04e5a6cb8a50a8e06a2ce82e24dc1", func := "usher/usherlaw12.FillApart", spec := "fillApart", unfollowed := true, recurses := true, apart := false }
def FillApartSaid : Prop := fillApartRow.holds Try.pinned (OpenSpec.ofChange fillApartSpec)

/-- ITS FALSE NEIGHBOUR: 'it returns false'. Refute it at one input. -/
def fillApartWrong : ChangeSpec := { name := "fillApart", fn := fun _ => fun
  | [d] => { results := [.lit (.bool false)], args := [d] }
  | _ => none }
def FillApartWrongFalsely : Prop := fillApartRow.holds Try.pinned (OpenSpec.ofChange fillApartWrong)

/- THE SECOND FORM. 'bulk': how many values and letters a reading holds, each counted each time it is reached (what is shared counts as often as it is met; a slice's spare places count too). A statement '..UptoSaid' is the law's where the arguments, and the package variables that the reading takes, are together of bulk at most 1048576: NARROWER than '..Said'. Prove '..Said' where nothing that the law and all that it calls make is longer than what came in: it says more and counts as full. Else prove '..UptoSaid'. A law counts once. -/
mutual
def uptoBulk {H : Type} : DataW H → Nat
  | .lit (.string bytes) => bytes.length + 1
  | .lit _ => 1
  | .nil => 1
  | .ptr d => uptoBulk d + 1
  | .slice elems spare => uptoBulkAll elems + uptoBulkAll spare + 1
  | .agg parts => uptoBulkAll parts + 1
  | .iface _ d => uptoBulk d + 1
  | .map entries => uptoBulkEntries entries + 1
  | .held _ => 1
def uptoBulkAll {H : Type} : List (DataW H) → Nat
  | [] => 0
  | d :: r => uptoBulk d + uptoBulkAll r
def uptoBulkEntries {H : Type} : List (Lit × DataW H) → Nat
  | [] => 0
  | x :: r => uptoBulkEntry x + uptoBulkEntries r
def uptoBulkEntry {H : Type} : Lit × DataW H → Nat
  | (.string bytes, d) => bytes.length + uptoBulk d + 1
  | (_, d) => uptoBulk d + 1
 end
def uptoSmall : (H : Type) → List (DataW H) → Bool := fun _ ds => decide (uptoBulkAll ds ≤ 1048576)
def OpenSpec.upto (s : _root_.Go.ChangeSpec) : _root_.Go.OpenSpec := { _root_.Go.OpenSpec.ofChange s with cond := some uptoSmall }

/-- 'usherlaw12.FillAll', WHERE WHAT IT READS IS OF BULK AT MOST 1048576: true; the input reads as it did. -/
def fillAllUptoRow : OpenClaim := { program := "ytikofndmfbeliaa", sum := "189f247ed6f758e0200d51077c2cfae478a04e5a6cb8a50a8e06a2ce82e24dc1", func := "usher/usherlaw12.FillAll", spec := "fillAll", unfollowed := true, recurses := true, apart := false, narrowed := true }
def FillAllUptoSaid : Prop := fillAllUptoRow.holds Try.pinned (OpenSpec.upto fillAllSpec)

/-- 'usherlaw12.FillKeeps', WHERE WHAT IT READS IS OF BULK AT MOST 1048576: true; the input reads as it did. -/
def fillKeepsUptoRow : OpenClaim := { program := "ytikofndmfbeliaa", sum := "189f247ed6f758e0200d51077c2cfae478a04e5a6cb8a50a8e06a2ce82e24dc1", func := "usher/usherlaw12.FillKeeps", spec := "fillKeeps", unfollowed := true, recurses := true, apart := false, narrowed := true }
def FillKeepsUptoSaid : Prop := fillKeepsUptoRow.holds Try.pinned (OpenSpec.upto fillKeepsSpec)

/-- 'usherlaw12.FillApart', WHERE WHAT IT READS IS OF BULK AT MOST 1048576: true; the input reads as it did. -/
def fillApartUptoRow : OpenClaim := { program := "ytikofndmfbeliaa", sum := "189f247ed6f758e0200d51077c2cfae478a04e5a6cb8a50a8e06a2ce82e24dc1", func := "usher/usherlaw12.FillApart", spec := "fillApart", unfollowed := true, recurses := true, apart := false, narrowed := true }
def FillApartUptoSaid : Prop := fillApartUptoRow.holds Try.pinned (OpenSpec.upto fillApartSpec)

end Rows
end Go.Proofs.Ytikofndmfbeliaa
