/-
  No cell of these rows narrows 'for every input' (looked for: loops, veiled, ifaces, maps, wideKeys, modest, calm, conditions, laid).
  DERIVED. THE GIVEN ROWS OF THIS SEAT. 5 by the template 'for every input the law returns true; each argument reads behind the call as it read before'; 0 by the template 'total and deterministic' (their statements: YtbnjjckcnlfapaaTotals.lean).
  GIVEN WITH THE SEED: the statements are not yours to turn. If you find one false, say at which input.
  Laid BY PROGRAM, IN A SANDBOX (cutbox-rows.mjs): the forced cells as the released guide's own fill.sh prints them over the translation 80c5d78f6031964f… (all of the seat's roots in one cut). By AI agents, Wed Nov 11 2026. No macro, syntax, notation, axiom, sorry.
-/
import Derived.Test.YtbnjjckcnlfapaaChecked
import GoSem.Claim
import GoSem.ClaimJoined
import GoSem.ClaimMapViews
import Derived.JoinedTies
import Derived.KernelRfl
namespace Go.Proofs.Ytbnjjckcnlfapaa
/- THE CELL 'sum', in the pinned program and in every row, IS THE sha256 OF THE DUMP (.gsa) THAT YtbnjjckcnlfapaaProg.lean LOADS. Nothing in Lean hashes anything: it is a label: what it is worth is what the hold of that sum in a sandbox is worth. -/
noncomputable def Try.pinned : Pinned := { name := "ytbnjjckcnlfapaa", sum := "80c5d78f6031964fe2bc5b81a4fa92302e5c3d2e8fe7929e8bee78636a37a284", checked := Try.checked }
namespace Rows
def none {H : Type} : Left H := { results := [], args := [] }

/-- 'usherlaw21.LaneAll': WHATEVER THE INPUT: true; the input reads as it did. -/
def laneAllSpec : ChangeSpec := { name := "laneAll", fn := fun _ => fun
  | [d1, d2, d3, d4, d5] => { results := [.lit (.bool true)], args := [d1, d2, d3, d4, d5] }
  | _ => none }
def laneAllRow : OpenClaim := { program := "ytbnjjckcnlfapaa", sum := "80c5d78f6031964fe2bc5b81a4fa92302e5c3d2e8fe7929e8bee78636a37a284", func := "usher/usherlaw21.LaneAll", spec := "laneAll", unfollowed := true, recurses := true, apart := false }
def LaneAllSaid : Prop := laneAllRow.holds Try.pinned (OpenSpec.ofChange laneAllSpec)

/-- ITS FALSE NEIGHBOUR: 'it returns false'. Refute it at one input. -/
def laneAllWrong : ChangeSpec := { name := "laneAll", fn := fun _ => fun
  | [d1, d2, d3, d4, d5] => { results := [.lit (.bool false)], args := [d1, d2, d3, d4, d5] }
  | _ => none }
def LaneAllWrongFalsely : Prop := laneAllRow.holds Try.pinned (OpenSpec.ofChange laneAllWrong)

/-- 'usherlaw21.LanePlays': WHATEVER THE INPUT: true; the input reads as it did. -/
def lanePlaysSpec : ChangeSpec := { name := "lanePlays", fn := fun _ => fun
  | [d] => { results := [.lit (.bool true)], args := [d] }
  | _ => none }
def lanePlaysRow : OpenClaim := { program := "ytbnjjckcnlfapaa", sum := "80c5d78f6031964fe2bc5b81a4fa92302e5c3d2e8fe7929e8bee78636a37a284", func := "usher/usherlaw21.LanePlays", spec := "lanePlays", unfollowed := true, recurses := true, apart := false }
def LanePlaysSaid : Prop := lanePlaysRow.holds Try.pinned (OpenSpec.ofChange lanePlaysSpec)

/-- ITS FALSE NEIGHBOUR: 'it returns false'. Refute it at one input. -/
def lanePlaysWrong : ChangeSpec := { name := "lanePlays", fn := fun _ => fun
  | [d] => { results := [.lit (.bool false)], args := [d] }
  | _ => none }
def LanePlaysWrongFalsely : Prop := lanePlaysRow.holds Try.pinned (OpenSpec.ofChange lanePlaysWrong)

/-- 'usherlaw21.LaneOrder': WHATEVER THE INPUT: true; the input reads as it did. -/
def laneOrderSpec : ChangeSpec := { name := "laneOrder", fn := fun _ => fun
  | [d1, d2, d3] => { results := [.lit (.bool true)], args := [d1, d2, d3] }
  | _ => none }
def laneOrderRow : OpenClaim := { program := "ytbnjjckcnlfapaa", sum := "80c5d78f6031964fe2bc5b81a4fa92302e5c3d2e8fe7929e8bee78636a37a284", func := "usher/usherlaw21.LaneOrder", spec := "laneOrder", apart := false }
def LaneOrderSaid : Prop := laneOrderRow.holds Try.pinned (OpenSpec.ofChange laneOrderSpec)

/-- ITS FALSE NEIGHBOUR: 'it returns false'. Refute it at one input. -/
def laneOrderWrong : ChangeSpec := { name := "laneOrder", fn := fun _ => fun
  | [d1, d2, d3] => { results := [.lit (.bool false)], args := [d1, d2, d3] }
  | _ => none }
def LaneOrderWrongFalsely : Prop := laneOrderRow.holds Try.pinned (OpenSpec.ofChange laneOrderWrong)

/-- 'usherlaw21.LaneTime': WHATEVER THE INPUT: true; the input reads as it did. -/
def laneTimeSpec : ChangeSpec := { name := "laneTime", fn := fun _ => fun
  | [d1, d2, d3, d4] => { results := [.lit (.bool true)], args := [d1, d2, d3, d4] }
  | _ => none }
def laneTimeRow : OpenClaim := { program := "ytbnjjckcnlfapaa", sum := "80c5d78f6031964fe2bc5b81a4fa92302e5c3d2e8fe7929e8bee78636a37a284", func := "usher/usherlaw21.LaneTime", spec := "laneTime", unfollowed := true, recurses := true, apart := false }
def LaneTimeSaid : Prop := laneTimeRow.holds Try.pinned (OpenSpec.ofChange laneTimeSpec)

/-- ITS FALSE NEIGHBOUR: 'it returns false'. Refute it at one input. -/
def laneTimeWrong : ChangeSpec := { name := "laneTime", fn := fun _ => fun
  | [d1, d2, d3, d4] => { results := [.lit (.bool false)], args := [d1, d2, d3, d4] }
  | _ => none }
def LaneTimeWrongFalsely : Prop := laneTimeRow.holds Try.pinned (OpenSpec.ofChange laneTimeWrong)

/-- 'usherlaw21.LaneDrop': WHATEVER THE INPUT: true; the input reads as it did. -/
def laneDropSpec : ChangeSpec := { name := "laneDrop", fn := fun _ => fun
  | [d1, d2, d3] => { results := [.lit (.bool true)], args := [d1, d2, d3] }
  | _ => none }
def laneDropRow : OpenClaim := { program := "ytbnjjckcnlfapaa", sum := "80c5d78f6031964fe2bc5b81a4fa92302e5c3d2e8fe7929e8bee78636a37a284", func := "usher/usherlaw21.LaneDrop", spec := "laneDrop", unfollowed := true, recurses := true, apart := false }
def LaneDropSaid : Prop := laneDropRow.holds Try.pinned (OpenSpec.ofChange laneDropSpec)

/-- ITS FALSE NEIGHBOUR: 'it returns false'. Refute it at one input. -/
def laneDropWrong : ChangeSpec := { name := "laneDrop", fn := fun _ => fun
  | [d1, d2, d3] => { results := [.lit (.bool false)], args := [d1, d2, d3] }
  | _ => none }
def LaneDropWrongFalsely : Prop := laneDropRow.holds Try.pinned (OpenSpec.ofChange laneDropWrong)

/- THE SECOND FORM. 'bulk': how many values and letters a reading holds, each counted each time it is reached (what is shared counts as often as it is met; a slice's spare places count too). A statement '..UptoSaid' is the law's where the arguments, and the package variables that the reading takes, are together of bulk at most 1048576: NARROWER than '..Said'. Prove '..Said' where nothing that the law and all that it calls make is longer than what came in: it says more and counts as full. Else prove '..UptoSaid'. A law counts once. -/
mutual
def uptoBulk {H : Type} : DataW H → Nat
  | .lit (.string bytes) => bytes.length + 1
  | .lit _ => 1
  | .nil => 1
  | .ptr d => uptoBulk d + 1
  | .slice elems spare => uptoBulkAll elems + uptoBulkAll spare + 1
  | .agg parts => uptoBulkAll parts + 1
  | .iface _ d => uptoBulk d + 1
  | .map entries => uptoBulkEntries entries + 1
  | .held _ => 1
def uptoBulkAll {H : Type} : List (DataW H) → Nat
  | [] => 0
  | d :: r => uptoBulk d + uptoBulkAll r
def uptoBulkEntries {H : Type} : List (Lit × DataW H) → Nat
  | [] => 0
  | x :: r => uptoBulkEntry x + uptoBulkEntries r
def uptoBulkEntry {H : Type} : Lit × DataW H → Nat
  | (.string bytes, d) => bytes.length + uptoBulk d + 1
  | (_, d) => uptoBulk d + 1
 end
def uptoSmall : (H : Type) → List (DataW H) → Bool := fun _ ds => decide (uptoBulkAll ds ≤ 1048576)
def OpenSpec.upto (s : _root_.Go.ChangeSpec) : _root_.Go.OpenSpec := { _root_.Go.OpenSpec.ofChange s with cond := some uptoSmall }

/-- 'usherlaw21.LaneAll', WHERE WHAT IT READS IS OF BULK AT MOST 1048576: true; the input reads as it did. -/
def laneAllUptoRow : OpenClaim := { program := "ytbnjjckcnlfapaa", sum := "80c5d78f6031964fe2bc5b81a4fa92302e5c3d2e8fe7929e8bee78636a37a284", func := "usher/usherlaw21.LaneAll", spec := "laneAll", unfollowed := true, recurses := true, apart := false, narrowed := true }
def LaneAllUptoSaid : Prop := laneAllUptoRow.holds Try.pinned (OpenSpec.upto laneAllSpec)

/-- 'usherlaw21.LanePlays', WHERE WHAT IT READS IS OF BULK AT MOST 1048576: true; the input reads as it did. -/
def lanePlaysUptoRow : OpenClaim := { program := "ytbnjjckcnlfapaa", sum := "80c5d78f6031964fe2bc5b81a4fa92302e5c3d2e8fe7929e8bee78636a37a284", func := "usher/usherlaw21.LanePlays", spec := "lanePlays", unfollowed := true, recurses := true, apart := false, narrowed := true }
def LanePlaysUptoSaid : Prop := lanePlaysUptoRow.holds Try.pinned (OpenSpec.upto lanePlaysSpec)

/-- 'usherlaw21.LaneOrder', WHERE WHAT IT READS IS OF BULK AT MOST 1048576: true; the input reads as it did. -/
def laneOrderUptoRow : OpenClaim := { program := "ytbnjjckcnlfapaa", sum := "80c5d78f6031964fe2bc5b81a4fa92302e5c3d2e8fe7929e8bee78636a37a284", func := "usher/usherlaw21.LaneOrder", spec := "laneOrder", apart := false, narrowed := true }
def LaneOrderUptoSaid : Prop := laneOrderUptoRow.holds Try.pinned (OpenSpec.upto laneOrderSpec)

/-- 'usherlaw21.LaneTime', WHERE WHAT IT READS IS OF BULK AT MOST 1048576: true; the input reads as it did. -/
def laneTimeUptoRow : OpenClaim := { program := "ytbnjjckcnlfapaa", sum := "80c5d78f6031964fe2bc5b81a4fa92302e5c3d2e8fe7929e8bee78636a37a284", func := "usher/usherlaw21.LaneTime", spec := "laneTime", unfollowed := true, recurses := true, apart := false, narrowed := true }
def LaneTimeUptoSaid : Prop := laneTimeUptoRow.holds Try.pinned (OpenSpec.upto laneTimeSpec)

/-- 'usherlaw21.LaneDrop', WHERE WHAT IT READS IS OF BULK AT MOST 1048576: true; the input reads as it did. -/
def laneDropUptoRow : OpenClaim := { program := "ytbnjjckcnlfapaa", sum := "80c5d78f6031964fe2bc5b81a4fa92302e5c3d2e8fe7929e8bee78636a37a284", func := "usher/usherlaw21.LaneDrop", spec := "laneDrop", unfollowed := true, recurses := true, apart := false, narrowed := true }
def LaneDropUptoSaid : Prop := laneDropUptoRow.holds Try.pinned (OpenSpec.upto laneDropSpec)

end Rows
end Go.Proofs.Ytbnjjckcnlfapaa
