/-
  No cell of these rows narrows 'for every input' (looked for: loops, veiled, ifaces, maps, wideKeys, modest, calm, conditions, laid).
  DERIVED. THE GIVEN ROWS OF THIS SEAT. 6 by the template 'for every input the law returns true; each argument reads behind the call as it read before'; 0 by the template 'total and deterministic' (their statements: YtpogmaccipcdoaaTotals.lean).
  GIVEN WITH THE SEED: the statements are not yours to turn. If you find one false, say at which input.
  Laid BY PROGRAM, IN A SANDBOX (cutbox-rows.mjs): the forced cells as the released guide's own fill.sh prints them over the translation 6956976fb4c26d74… (all of the seat's roots in one cut). By AI agents, Wed Nov 11 2026. No macro, syntax, notation, axiom, sorry.
-/
import Derived.Test.YtpogmaccipcdoaaChecked
import GoSem.Claim
import GoSem.ClaimJoined
import GoSem.ClaimMapViews
import Derived.JoinedTies
import Derived.KernelRfl
namespace Go.Proofs.Ytpogmaccipcdoaa
/- THE CELL 'sum', in the pinned program and in every row, IS THE sha256 OF THE DUMP (.gsa) THAT YtpogmaccipcdoaaProg.lean LOADS. Nothing in Lean hashes anything: it is a label: what it is worth is what the hold of that sum in a sandbox is worth. -/
noncomputable def Try.pinned : Pinned := { name := "ytpogmaccipcdoaa", sum := "6956976fb4c26d749393dbc8c2b6018dcf6301219d11012de55a848e499f1026", checked := Try.checked }
namespace Rows
def none {H : Type} : Left H := { results := [], args := [] }

/-- 'usherlaw02.SplitAll': WHATEVER THE INPUT: true; the input reads as it did. -/
def splitAllSpec : ChangeSpec := { name := "splitAll", fn := fun _ => fun
  | [d1, d2] => { results := [.lit (.bool true)], args := [d1, d2] }
  | _ => none }
def splitAllRow : OpenClaim := { program := "ytpogmaccipcdoaa", sum := "6956976fb4c26d749393dbc8c2b6018dcf6301219d11012de55a848e499f1026", func := "usher/usherlaw02.SplitAll", spec := "splitAll", apart := false }
def SplitAllSaid : Prop := splitAllRow.holds Try.pinned (OpenSpec.ofChange splitAllSpec)

/-- ITS FALSE NEIGHBOUR: 'it returns false'. Refute it at one input. -/
def splitAllWrong : ChangeSpec := { name := "splitAll", fn := fun _ => fun
  | [d1, d2] => { results := [.lit (.bool false)], args := [d1, d2] }
  | _ => none }
def SplitAllWrongFalsely : Prop := splitAllRow.holds Try.pinned (OpenSpec.ofChange splitAllWrong)

/-- 'usherlaw02.SplitWhole': WHATEVER THE INPUT: true; the input reads as it did. -/
def splitWholeSpec : ChangeSpec := { name := "splitWhole", fn := fun _ => fun
  | [d1, d2] => { results := [.lit (.bool true)], args := [d1, d2] }
  | _ => none }
def splitWholeRow : OpenClaim := { program := "ytpogmaccipcdoaa", sum := "6956976fb4c26d749393dbc8c2b6018dcf6301219d11012de55a848e499f1026", func := "usher/usherlaw02.SplitWhole", spec := "splitWhole", apart := false }
def SplitWholeSaid : Prop := splitWholeRow.holds Try.pinned (OpenSpec.ofChange splitWholeSpec)

/-- ITS FALSE NEIGHBOUR: 'it returns false'. Refute it at one input. -/
def splitWholeWrong : ChangeSpec := { name := "splitWhole", fn := fun _ => fun
  | [d1, d2] => { results := [.lit (.bool false)], args := [d1, d2] }
  | _ => none }
def SplitWholeWrongFalsely : Prop := splitWholeRow.holds Try.pinned (OpenSpec.ofChange splitWholeWrong)

/-- 'usherlaw02.SplitOrder': WHATEVER THE INPUT: true; the input reads as it did. -/
def splitOrderSpec : ChangeSpec := { name := "splitOrder", fn := fun _ => fun
  | [d1, d2] => { results := [.lit (.bool true)], args := [d1, d2] }
  | _ => none }
def splitOrderRow : OpenClaim := { program := "ytpogmaccipcdoaa", sum := "6956976fb4c26d749393dbc8c2b6018dcf6301219d11012de55a848e499f1026", func := "usher/usherlaw02.SplitOrder", spec := "splitOrder", apart := false }
def SplitOrderSaid : Prop := splitOrderRow.holds Try.pinned (OpenSpec.ofChange splitOrderSpec)

/-- ITS FALSE NEIGHBOUR: 'it returns false'. Refute it at one input. -/
def splitOrderWrong : ChangeSpec := { name := "splitOrder", fn := fun _ => fun
  | [d1, d2] => { results := [.lit (.bool false)], args := [d1, d2] }
  | _ => none }
def SplitOrderWrongFalsely : Prop := splitOrderRow.holds Try.pinned (OpenSpec.ofChange splitOrderWrong)

/-- 'usherlaw02.SplitExact': WHATEVER THE INPUT: true; the input reads as it did. -/
def splitExactSpec : ChangeSpec := { name := "splitExact", fn := fun _ => fun
  | [d1, d2] => { results := [.lit (.bool true)], args := [d1, d2] }
  | _ => none }
def splitExactRow : OpenClaim := { program := "ytpogmaccipcdoaa", sum := "6956976fb4c26d749393dbc8c2b6018dcf6301219d11012de55a848e499f1026", func := "usher/usherlaw02.SplitExact", spec := "splitExact", apart := false }
def SplitExactSaid : Prop := splitExactRow.holds Try.pinned (OpenSpec.ofChange splitExactSpec)

/-- ITS FALSE NEIGHBOUR: 'it returns false'. Refute it at one input. -/
def splitExactWrong : ChangeSpec := { name := "splitExact", fn := fun _ => fun
  | [d1, d2] => { results := [.lit (.bool false)], args := [d1, d2] }
  | _ => none }
def SplitExactWrongFalsely : Prop := splitExactRow.holds Try.pinned (OpenSpec.ofChange splitExactWrong)

/-- 'usherlaw02.SplitScale': WHATEVER THE INPUT: true; the input reads as it did. -/
def splitScaleSpec : ChangeSpec := { name := "splitScale", fn := fun _ => fun
  | [d1, d2, d3] => { results := [.lit (.bool true)], args := [d1, d2, d3] }
  | _ => none }
def splitScaleRow : OpenClaim := { program := "ytpogmaccipcdoaa", sum := "6956976fb4c26d749393dbc8c2b6018dcf6301219d11012de55a848e499f1026", func := "usher/usherlaw02.SplitScale", spec := "splitScale", apart := false }
def SplitScaleSaid : Prop := splitScaleRow.holds Try.pinned (OpenSpec.ofChange splitScaleSpec)

/-- ITS FALSE NEIGHBOUR: 'it returns false'. Refute it at one input. -/
def splitScaleWrong : ChangeSpec := { name := "splitScale", fn := fun _ => fun
  | [d1, d2, d3] => { results := [.lit (.bool false)], args := [d1, d2, d3] }
  | _ => none }
def SplitScaleWrongFalsely : Prop := splitScaleRow.holds Try.pinned (OpenSpec.ofChange splitScaleWrong)

/-- 'usherlaw02.SplitNothing': WHATEVER THE INPUT: true; the input reads as it did. -/
def splitNothingSpec : ChangeSpec := { name := "splitNothing", fn := fun _ => fun
  | [d1, d2] => { results := [.lit (.bool true)], args := [d1, d2] }
  | _ => none }
def splitNothingRow : OpenClaim := { program := "ytpogmaccipcdoaa", sum := "6956976fb4c26d749393dbc8c2b6018dcf6301219d11012de55a848e499f1026", func := "usher/usherlaw02.SplitNothing", spec := "splitNothing", apart := false }
def SplitNothingSaid : Prop := splitNothingRow.holds Try.pinned (OpenSpec.ofChange splitNothingSpec)

/-- ITS FALSE NEIGHBOUR: 'it returns false'. Refute it at one input. -/
def splitNothingWrong : ChangeSpec := { name := "splitNothing", fn := fun _ => fun
  | [d1, d2] => { results := [.lit (.bool false)], args := [d1, d2] }
  | _ => none }
def SplitNothingWrongFalsely : Prop := splitNothingRow.holds Try.pinned (OpenSpec.ofChange splitNothingWrong)

/- THE SECOND FORM. 'bulk': how many values and letters a reading holds, each counted each time it is reached (what is shared counts as often as it is met; a slice's spare places count too). A statement '..UptoSaid' is the law's where the arguments, and the package variables that the reading takes, are together of bulk at most 1048576: NARROWER than '..Said'. Prove '..Said' where nothing that the law and all that it calls make is longer than what came in: it says more and counts as full. Else prove '..UptoSaid'. A law counts once. -/
mutual
def uptoBulk {H : Type} : DataW H → Nat
  | .lit (.string bytes) => bytes.length + 1
  | .lit _ => 1
  | .nil => 1
  | .ptr d => uptoBulk d + 1
  | .slice elems spare => uptoBulkAll elems + uptoBulkAll spare + 1
  | .agg parts => uptoBulkAll parts + 1
  | .iface _ d => uptoBulk d + 1
  | .map entries => uptoBulkEntries entries + 1
  | .held _ => 1
def uptoBulkAll {H : Type} : List (DataW H) → Nat
  | [] => 0
  | d :: r => uptoBulk d + uptoBulkAll r
def uptoBulkEntries {H : Type} : List (Lit × DataW H) → Nat
  | [] => 0
  | x :: r => uptoBulkEntry x + uptoBulkEntries r
def uptoBulkEntry {H : Type} : Lit × DataW H → Nat
  | (.string bytes, d) => bytes.length + uptoBulk d + 1
  | (_, d) => uptoBulk d + 1
 end
def uptoSmall : (H : Type) → List (DataW H) → Bool := fun _ ds => decide (uptoBulkAll ds ≤ 1048576)
def OpenSpec.upto (s : _root_.Go.ChangeSpec) : _root_.Go.OpenSpec := { _root_.Go.OpenSpec.ofChange s with cond := some uptoSmall }

/-- 'usherlaw02.SplitAll', WHERE WHAT IT READS IS OF BULK AT MOST 1048576: true; the input reads as it did. -/
def splitAllUptoRow : OpenClaim := { program := "ytpogmaccipcdoaa", sum := "6956976fb4c26d749393dbc8c2b6018dcf6301219d11012de55a848e499f1026", func := "usher/usherlaw02.SplitAll", spec := "splitAll", apart := false, narrowed := true }
def SplitAllUptoSaid : Prop := splitAllUptoRow.holds Try.pinned (OpenSpec.upto splitAllSpec)

/-- 'usherlaw02.SplitWhole', WHERE WHAT IT READS IS OF BULK AT MOST 1048576: true; the input reads as it did. -/
def splitWholeUptoRow : OpenClaim := { program := "ytpogmaccipcdoaa", sum := "6956976fb4c26d749393dbc8c2b6018dcf6301219d11012de55a848e499f1026", func := "usher/usherlaw02.SplitWhole", spec := "splitWhole", apart := false, narrowed := true }
def SplitWholeUptoSaid : Prop := splitWholeUptoRow.holds Try.pinned (OpenSpec.upto splitWholeSpec)

/-- 'usherlaw02.SplitOrder', WHERE WHAT IT READS IS OF BULK AT MOST 1048576: true; the input reads as it did. -/
def splitOrderUptoRow : OpenClaim := { program := "ytpogmaccipcdoaa", sum := "6956976fb4c26d749393dbc8c2b6018dcf6301219d11012de55a848e499f1026", func := "usher/usherlaw02.SplitOrder", spec := "splitOrder", apart := false, narrowed := true }
def SplitOrderUptoSaid : Prop := splitOrderUptoRow.holds Try.pinned (OpenSpec.upto splitOrderSpec)

/-- 'usherlaw02.SplitExact', WHERE WHAT IT READS IS OF BULK AT MOST 1048576: true; the input reads as it did. -/
def splitExactUptoRow : OpenClaim := { program := "ytpogmaccipcdoaa", sum := "6956976fb4c26d749393dbc8c2b6018dcf6301219d11012de55a848e499f1026", func := "usher/usherlaw02.SplitExact", spec := "splitExact", apart := false, narrowed := true }
def SplitExactUptoSaid : Prop := splitExactUptoRow.holds Try.pinned (OpenSpec.upto splitExactSpec)

/-- 'usherlaw02.SplitScale', WHERE WHAT IT READS IS OF BULK AT MOST 1048576: true; the input reads as it did. -/
def splitScaleUptoRow : OpenClaim := { program := "ytpogmaccipcdoaa", sum := "6956976fb4c26d749393dbc8c2b6018dcf6301219d11012de55a848e499f1026", func := "usher/usherlaw02.SplitScale", spec := "splitScale", apart := false, narrowed := true }
def SplitScaleUptoSaid : Prop := splitScaleUptoRow.holds Try.pinned (OpenSpec.upto splitScaleSpec)

/-- 'usherlaw02.SplitNothing', WHERE WHAT IT READS IS OF BULK AT MOST 1048576: true; the input reads as it did. -/
def splitNothingUptoRow : OpenClaim := { program := "ytpogmaccipcdoaa", sum := "6956976fb4c26d749393dbc8c2b6018dcf6301219d11012de55a848e499f1026", func := "usher/usherlaw02.SplitNothing", spec := "splitNothing", apart := false, narrowed := true }
def SplitNothingUptoSaid : Prop := splitNothingUptoRow.holds Try.pinned (OpenSpec.upto splitNothingSpec)

end Rows
end Go.Proofs.Ytpogmaccipcdoaa
