/-
  No cell of these rows narrows 'for every input' (looked for: loops, veiled, ifaces, maps, wideKeys, modest, calm, conditions, laid).
  DERIVED. THE GIVEN ROWS OF THIS SEAT. 4 by the template 'for every input the law returns true; each argument reads behind the call as it read before'; 0 by the template 'total and deterministic' (their statements: YtkohofiobpniiaaTotals.lean).
  GIVEN WITH THE SEED: the statements are not yours to turn. If you find one false, say at which input.
  Laid BY PROGRAM, IN A SANDBOX (cutbox-rows.mjs): the forced cells as the released guide's own fill.sh prints them over the translation 7b1f434c2170bb3d… (all of the seat's roots in one cut). By AI agents, Wed Nov 11 2026. No macro, syntax, notation, axiom, sorry.
-/
import Derived.Test.YtkohofiobpniiaaChecked
import GoSem.Claim
import GoSem.ClaimJoined
import GoSem.ClaimMapViews
import Derived.JoinedTies
import Derived.KernelRfl
namespace Go.Proofs.Ytkohofiobpniiaa
/- THE CELL 'sum', in the pinned program and in every row, IS THE sha256 OF THE DUMP (.gsa) THAT YtkohofiobpniiaaProg.lean LOADS. Nothing in Lean hashes anything: it is a label: what it is worth is what the hold of that sum in a sandbox is worth. -/
noncomputable def Try.pinned : Pinned := { name := "ytkohofiobpniiaa", sum := "7b1f434c2170bb3d19fc3c660147704ddc040b63d50d2479d06b9451f0847843", checked := Try.checked }
namespace Rows
def none {H : Type} : Left H := { results := [], args := [] }

/-- 'usherlaw18.BoundsAll': WHATEVER THE INPUT: true; the input reads as it did. -/
def boundsAllSpec : ChangeSpec := { name := "boundsAll", fn := fun _ => fun
  | [d1, d2] => { results := [.lit (.bool true)], args := [d1, d2] }
  | _ => none }
def boundsAllRow : OpenClaim := { program := "ytkohofiobpniiaa", sum := "7b1f434c2170bb3d19fc3c660147704ddc040b63d50d2479d06b9451f0847843", func := "usher/usherlaw18.BoundsAll", spec := "boundsAll", apart := false }
def BoundsAllSaid : Prop := boundsAllRow.holds Try.pinned (OpenSpec.ofChange boundsAllSpec)

/-- ITS FALSE NEIGHBOUR: 'it returns false'. Refute it at one input. -/
def boundsAllWrong : ChangeSpec := { name := "boundsAll", fn := fun _ => fun
  | [d1, d2] => { results := [.lit (.bool false)], args := [d1, d2] }
  | _ => none }
def BoundsAllWrongFalsely : Prop := boundsAllRow.holds Try.pinned (OpenSpec.ofChange boundsAllWrong)

/-- 'usherlaw18.BoundsHold': WHATEVER THE INPUT: true; the input reads as it did. -/
def boundsHoldSpec : ChangeSpec := { name := "boundsHold", fn := fun _ => fun
  | [d1, d2] => { results := [.lit (.bool true)], args := [d1, d2] }
  | _ => none }
def boundsHoldRow : OpenClaim := { program := "ytkohofiobpniiaa", sum := "7b1f434c2170bb3d19fc3c660147704ddc040b63d50d2479d06b9451f0847843", func := "usher/usherlaw18.BoundsHold", spec := "boundsHold", apart := false }
def BoundsHoldSaid : Prop := boundsHoldRow.holds Try.pinned (OpenSpec.ofChange boundsHoldSpec)

/-- ITS FALSE NEIGHBOUR: 'it returns false'. Refute it at one input. -/
def boundsHoldWrong : ChangeSpec := { name := "boundsHold", fn := fun _ => fun
  | [d1, d2] => { results := [.lit (.bool false)], args := [d1, d2] }
  | _ => none }
def BoundsHoldWrongFalsely : Prop := boundsHoldRow.holds Try.pinned (OpenSpec.ofChange boundsHoldWrong)

/-- 'usherlaw18.BoundsShut': WHATEVER THE INPUT: true; the input reads as it did. -/
def boundsShutSpec : ChangeSpec := { name := "boundsShut", fn := fun _ => fun
  | [d1, d2] => { results := [.lit (.bool true)], args := [d1, d2] }
  | _ => none }
def boundsShutRow : OpenClaim := { program := "ytkohofiobpniiaa", sum := "7b1f434c2170bb3d19fc3c660147704ddc040b63d50d2479d06b9451f0847843", func := "usher/usherlaw18.BoundsShut", spec := "boundsShut", apart := false }
def BoundsShutSaid : Prop := boundsShutRow.holds Try.pinned (OpenSpec.ofChange boundsShutSpec)

/-- ITS FALSE NEIGHBOUR: 'it returns false'. Refute it at one input. -/
def boundsShutWrong : ChangeSpec := { name := "boundsShut", fn := fun _ => fun
  | [d1, d2] => { results := [.lit (.bool false)], args := [d1, d2] }
  | _ => none }
def BoundsShutWrongFalsely : Prop := boundsShutRow.holds Try.pinned (OpenSpec.ofChange boundsShutWrong)

/-- 'usherlaw18.BoundsOrder': WHATEVER THE INPUT: true; the input reads as it did. -/
def boundsOrderSpec : ChangeSpec := { name := "boundsOrder", fn := fun _ => fun
  | [d1, d2] => { results := [.lit (.bool true)], args := [d1, d2] }
  | _ => none }
def boundsOrderRow : OpenClaim := { program := "ytkohofiobpniiaa", sum := "7b1f434c2170bb3d19fc3c660147704ddc040b63d50d2479d06b9451f0847843", func := "usher/usherlaw18.BoundsOrder", spec := "boundsOrder", apart := false }
def BoundsOrderSaid : Prop := boundsOrderRow.holds Try.pinned (OpenSpec.ofChange boundsOrderSpec)

/-- ITS FALSE NEIGHBOUR: 'it returns false'. Refute it at one input. -/
def boundsOrderWrong : ChangeSpec := { name := "boundsOrder", fn := fun _ => fun
  | [d1, d2] => { results := [.lit (.bool false)], args := [d1, d2] }
  | _ => none }
def BoundsOrderWrongFalsely : Prop := boundsOrderRow.holds Try.pinned (OpenSpec.ofChange boundsOrderWrong)

/- THE SECOND FORM. 'bulk': how many values and letters a reading holds, each counted each time it is reached (what is shared counts as often as it is met; a slice's spare places count too). A statement '..UptoSaid' is the law's where the arguments, and the package variables that the reading takes, are together of bulk at most 1048576: NARROWER than '..Said'. Prove '..Said' where nothing that the law and all that it calls make is longer than what came in: it says more and counts as full. Else prove '..UptoSaid'. A law counts once. -/
mutual
def uptoBulk {H : Type} : DataW H → Nat
  | .lit (.string bytes) => bytes.length + 1
  | .lit _ => 1
  | .nil => 1
  | .ptr d => uptoBulk d + 1
  | .slice elems spare => uptoBulkAll elems + uptoBulkAll spare + 1
  | .agg parts => uptoBulkAll parts + 1
  | .iface _ d => uptoBulk d + 1
  | .map entries => uptoBulkEntries entries + 1
  | .held _ => 1
def uptoBulkAll {H : Type} : List (DataW H) → Nat
  | [] => 0
  | d :: r => uptoBulk d + uptoBulkAll r
def uptoBulkEntries {H : Type} : List (Lit × DataW H) → Nat
  | [] => 0
  | x :: r => uptoBulkEntry x + uptoBulkEntries r
def uptoBulkEntry {H : Type} : Lit × DataW H → Nat
  | (.string bytes, d) => bytes.length + uptoBulk d + 1
  | (_, d) => uptoBulk d + 1
 end
def uptoSmall : (H : Type) → List (DataW H) → Bool := fun _ ds => decide (uptoBulkAll ds ≤ 1048576)
def OpenSpec.upto (s : _root_.Go.ChangeSpec) : _root_.Go.OpenSpec := { _root_.Go.OpenSpec.ofChange s with cond := some uptoSmall }

/-- 'usherlaw18.BoundsAll', WHERE WHAT IT READS IS OF BULK AT MOST 1048576: true; the input reads as it did. -/
def boundsAllUptoRow : OpenClaim := { program := "ytkohofiobpniiaa", sum := "7b1f434c2170bb3d19fc3c660147704ddc040b63d50d2479d06b9451f0847843", func := "usher/usherlaw18.BoundsAll", spec := "boundsAll", apart := false, narrowed := true }
def BoundsAllUptoSaid : Prop := boundsAllUptoRow.holds Try.pinned (OpenSpec.upto boundsAllSpec)

/-- 'usherlaw18.BoundsHold', WHERE WHAT IT READS IS OF BULK AT MOST 1048576: true; the input reads as it did. -/
def boundsHoldUptoRow : OpenClaim := { program := "ytkohofiobpniiaa", sum := "7b1f434c2170bb3d19fc3c660147704ddc040b63d50d2479d06b9451f0847843", func := "usher/usherlaw18.BoundsHold", spec := "boundsHold", apart := false, narrowed := true }
def BoundsHoldUptoSaid : Prop := boundsHoldUptoRow.holds Try.pinned (OpenSpec.upto boundsHoldSpec)

/-- 'usherlaw18.BoundsShut', WHERE WHAT IT READS IS OF BULK AT MOST 1048576: true; the input reads as it did. -/
def boundsShutUptoRow : OpenClaim := { program := "ytkohofiobpniiaa", sum := "7b1f434c2170bb3d19fc3c660147704ddc040b63d50d2479d06b9451f0847843", func := "usher/usherlaw18.BoundsShut", spec := "boundsShut", apart := false, narrowed := true }
def BoundsShutUptoSaid : Prop := boundsShutUptoRow.holds Try.pinned (OpenSpec.upto boundsShutSpec)

/-- 'usherlaw18.BoundsOrder', WHERE WHAT IT READS IS OF BULK AT MOST 1048576: true; the input reads as it did. -/
def boundsOrderUptoRow : OpenClaim := { program := "ytkohofiobpniiaa", sum := "7b1f434c2170bb3d19fc3c660147704ddc040b63d50d2479d06b9451f0847843", func := "usher/usherlaw18.BoundsOrder", spec := "boundsOrder", apart := false, narrowed := true }
def BoundsOrderUptoSaid : Prop := boundsOrderUptoRow.holds Try.pinned (OpenSpec.upto boundsOrderSpec)

end Rows
end Go.Proofs.Ytkohofiobpniiaa
