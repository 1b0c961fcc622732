/-
  No cell of these rows narrows 'for every input' (looked for: loops, veiled, ifaces, maps, wideKeys, modest, calm, conditions, laid).
  DERIVED. THE GIVEN ROWS OF THIS SEAT. 6 by the template 'for every input the law returns true; each argument reads behind the call as it read before'; 0 by the template 'total and deterministic' (their statements: YtemmkkcfjhmomaaTotals.lean).
  GIVEN WITH THE SEED: the statements are not yours to turn. If you find one false, say at which input.
  Laid BY PROGRAM, IN A SANDBOX (cutbox-rows.mjs): the forced cells as the released guide's own fill.sh prints them over the translation ce99d8895a99e7b4… (all of the seat's roots in one cut). By AI agents, Wed Nov 11 2026. No macro, syntax, notation, axiom, sorry.
-/
import Derived.Test.YtemmkkcfjhmomaaChecked
import GoSem.Claim
import GoSem.ClaimJoined
import GoSem.ClaimMapViews
import Derived.JoinedTies
import Derived.KernelRfl
namespace Go.Proofs.Ytemmkkcfjhmomaa
/- THE CELL 'sum', in the pinned program and in every row, IS THE sha256 OF THE DUMP (.gsa) THAT YtemmkkcfjhmomaaProg.lean LOADS. Nothing in Lean hashes anything: it is a label: what it is worth is what the hold of that sum in a sandbox is worth. -/
noncomputable def Try.pinned : Pinned := { name := "ytemmkkcfjhmomaa", sum := "ce99d8895a99e7b4a42a6c91d7f15255f9bdf06c0be742d5269576c0f834277a", checked := Try.checked }
namespace Rows
def none {H : Type} : Left H := { results := [], args := [] }

/-- 'usherlaw22.FairAll': WHATEVER THE INPUT: true; the input reads as it did. -/
def fairAllSpec : ChangeSpec := { name := "fairAll", fn := fun _ => fun
  | [d1, d2, d3, d4, d5, d6] => { results := [.lit (.bool true)], args := [d1, d2, d3, d4, d5, d6] }
  | _ => none }
def fairAllRow : OpenClaim := { program := "ytemmkkcfjhmomaa", sum := "ce99d8895a99e7b4a42a6c91d7f15255f9bdf06c0be742d5269576c0f834277a", func := "usher/usherlaw22.FairAll", spec := "fairAll", unfollowed := true, recurses := true, apart := false }
def FairAllSaid : Prop := fairAllRow.holds Try.pinned (OpenSpec.ofChange fairAllSpec)

/-- ITS FALSE NEIGHBOUR: 'it returns false'. Refute it at one input. -/
def fairAllWrong : ChangeSpec := { name := "fairAll", fn := fun _ => fun
  | [d1, d2, d3, d4, d5, d6] => { results := [.lit (.bool false)], args := [d1, d2, d3, d4, d5, d6] }
  | _ => none }
def FairAllWrongFalsely : Prop := fairAllRow.holds Try.pinned (OpenSpec.ofChange fairAllWrong)

/-- 'usherlaw22.FairPlays': WHATEVER THE INPUT: true; the input reads as it did. -/
def fairPlaysSpec : ChangeSpec := { name := "fairPlays", fn := fun _ => fun
  | [d1, d2, d3, d4] => { results := [.lit (.bool true)], args := [d1, d2, d3, d4] }
  | _ => none }
def fairPlaysRow : OpenClaim := { program := "ytemmkkcfjhmomaa", sum := "ce99d8895a99e7b4a42a6c91d7f15255f9bdf06c0be742d5269576c0f834277a", func := "usher/usherlaw22.FairPlays", spec := "fairPlays", unfollowed := true, recurses := true, apart := false }
def FairPlaysSaid : Prop := fairPlaysRow.holds Try.pinned (OpenSpec.ofChange fairPlaysSpec)

/-- ITS FALSE NEIGHBOUR: 'it returns false'. Refute it at one input. -/
def fairPlaysWrong : ChangeSpec := { name := "fairPlays", fn := fun _ => fun
  | [d1, d2, d3, d4] => { results := [.lit (.bool false)], args := [d1, d2, d3, d4] }
  | _ => none }
def FairPlaysWrongFalsely : Prop := fairPlaysRow.holds Try.pinned (OpenSpec.ofChange fairPlaysWrong)

/-- 'usherlaw22.FairTime': WHATEVER THE INPUT: true; the input reads as it did. -/
def fairTimeSpec : ChangeSpec := { name := "fairTime", fn := fun _ => fun
  | [d1, d2, d3] => { results := [.lit (.bool true)], args := [d1, d2, d3] }
  | _ => none }
def fairTimeRow : OpenClaim := { program := "ytemmkkcfjhmomaa", sum := "ce99d8895a99e7b4a42a6c91d7f15255f9bdf06c0be742d5269576c0f834277a", func := "usher/usherlaw22.FairTime", spec := "fairTime", apart := false }
def FairTimeSaid : Prop := fairTimeRow.holds Try.pinned (OpenSpec.ofChange fairTimeSpec)

/-- ITS FALSE NEIGHBOUR: 'it returns false'. Refute it at one input. -/
def fairTimeWrong : ChangeSpec := { name := "fairTime", fn := fun _ => fun
  | [d1, d2, d3] => { results := [.lit (.bool false)], args := [d1, d2, d3] }
  | _ => none }
def FairTimeWrongFalsely : Prop := fairTimeRow.holds Try.pinned (OpenSpec.ofChange fairTimeWrong)

/-- 'usherlaw22.FairShares': WHATEVER THE INPUT: true; the input reads as it did. -/
def fairSharesSpec : ChangeSpec := { name := "fairShares", fn := fun _ => fun
  | [d1, d2, d3, d4, d5, d6, d7] => { results := [.lit (.bool true)], args := [d1, d2, d3, d4, d5, d6, d7] }
  | _ => none }
def fairSharesRow : OpenClaim := { program := "ytemmkkcfjhmomaa", sum := "ce99d8895a99e7b4a42a6c91d7f15255f9bdf06c0be742d5269576c0f834277a", func := "usher/usherlaw22.FairShares", spec := "fairShares", apart := false }
def FairSharesSaid : Prop := fairSharesRow.holds Try.pinned (OpenSpec.ofChange fairSharesSpec)

/-- ITS FALSE NEIGHBOUR: 'it returns false'. Refute it at one input. -/
def fairSharesWrong : ChangeSpec := { name := "fairShares", fn := fun _ => fun
  | [d1, d2, d3, d4, d5, d6, d7] => { results := [.lit (.bool false)], args := [d1, d2, d3, d4, d5, d6, d7] }
  | _ => none }
def FairSharesWrongFalsely : Prop := fairSharesRow.holds Try.pinned (OpenSpec.ofChange fairSharesWrong)

/-- 'usherlaw22.FairDrains': WHATEVER THE INPUT: true; the input reads as it did. -/
def fairDrainsSpec : ChangeSpec := { name := "fairDrains", fn := fun _ => fun
  | [d1, d2, d3] => { results := [.lit (.bool true)], args := [d1, d2, d3] }
  | _ => none }
def fairDrainsRow : OpenClaim := { program := "ytemmkkcfjhmomaa", sum := "ce99d8895a99e7b4a42a6c91d7f15255f9bdf06c0be742d5269576c0f834277a", func := "usher/usherlaw22.FairDrains", spec := "fairDrains", apart := false }
def FairDrainsSaid : Prop := fairDrainsRow.holds Try.pinned (OpenSpec.ofChange fairDrainsSpec)

/-- ITS FALSE NEIGHBOUR: 'it returns false'. Refute it at one input. -/
def fairDrainsWrong : ChangeSpec := { name := "fairDrains", fn := fun _ => fun
  | [d1, d2, d3] => { results := [.lit (.bool false)], args := [d1, d2, d3] }
  | _ => none }
def FairDrainsWrongFalsely : Prop := fairDrainsRow.holds Try.pinned (OpenSpec.ofChange fairDrainsWrong)

/-- 'usherlaw22.FairChooses': WHATEVER THE INPUT: true; the input reads as it did. -/
def fairChoosesSpec : ChangeSpec := { name := "fairChooses", fn := fun _ => fun
  | [d1, d2] => { results := [.lit (.bool true)], args := [d1, d2] }
  | _ => none }
def fairChoosesRow : OpenClaim := { program := "ytemmkkcfjhmomaa", sum := "ce99d8895a99e7b4a42a6c91d7f15255f9bdf06c0be742d5269576c0f834277a", func := "usher/usherlaw22.FairChooses", spec := "fairChooses", apart := false }
def FairChoosesSaid : Prop := fairChoosesRow.holds Try.pinned (OpenSpec.ofChange fairChoosesSpec)

/-- ITS FALSE NEIGHBOUR: 'it returns false'. Refute it at one input. -/
def fairChoosesWrong : ChangeSpec := { name := "fairChooses", fn := fun _ => fun
  | [d1, d2] => { results := [.lit (.bool false)], args := [d1, d2] }
  | _ => none }
def FairChoosesWrongFalsely : Prop := fairChoosesRow.holds Try.pinned (OpenSpec.ofChange fairChoosesWrong)

/- THE SECOND FORM. 'bulk': how many values and letters a reading holds, each counted each time it is reached (what is shared counts as often as it is met; a slice's spare places count too). A statement '..UptoSaid' is the law's where the arguments, and the package variables that the reading takes, are together of bulk at most 1048576: NARROWER than '..Said'. Prove '..Said' where nothing that the law and all that it calls make is longer than what came in: it says more and counts as full. Else prove '..UptoSaid'. A law counts once. -/
mutual
def uptoBulk {H : Type} : DataW H → Nat
  | .lit (.string bytes) => bytes.length + 1
  | .lit _ => 1
  | .nil => 1
  | .ptr d => uptoBulk d + 1
  | .slice elems spare => uptoBulkAll elems + uptoBulkAll spare + 1
  | .agg parts => uptoBulkAll parts + 1
  | .iface _ d => uptoBulk d + 1
  | .map entries => uptoBulkEntries entries + 1
  | .held _ => 1
def uptoBulkAll {H : Type} : List (DataW H) → Nat
  | [] => 0
  | d :: r => uptoBulk d + uptoBulkAll r
def uptoBulkEntries {H : Type} : List (Lit × DataW H) → Nat
  | [] => 0
  | x :: r => uptoBulkEntry x + uptoBulkEntries r
def uptoBulkEntry {H : Type} : Lit × DataW H → Nat
  | (.string bytes, d) => bytes.length + uptoBulk d + 1
  | (_, d) => uptoBulk d + 1
 end
def uptoSmall : (H : Type) → List (DataW H) → Bool := fun _ ds => decide (uptoBulkAll ds ≤ 1048576)
def OpenSpec.upto (s : _root_.Go.ChangeSpec) : _root_.Go.OpenSpec := { _root_.Go.OpenSpec.ofChange s with cond := some uptoSmall }

/-- 'usherlaw22.FairAll', WHERE WHAT IT READS IS OF BULK AT MOST 1048576: true; the input reads as it did. -/
def fairAllUptoRow : OpenClaim := { program := "ytemmkkcfjhmomaa", sum := "ce99d8895a99e7b4a42a6c91d7f15255f9bdf06c0be742d5269576c0f834277a", func := "usher/usherlaw22.FairAll", spec := "fairAll", unfollowed := true, recurses := true, apart := false, narrowed := true }
def FairAllUptoSaid : Prop := fairAllUptoRow.holds Try.pinned (OpenSpec.upto fairAllSpec)

/-- 'usherlaw22.FairPlays', WHERE WHAT IT READS IS OF BULK AT MOST 1048576: true; the input reads as it did. -/
def fairPlaysUptoRow : OpenClaim := { program := "ytemmkkcfjhmomaa", sum := "ce99d8895a99e7b4a42a6c91d7f15255f9bdf06c0be742d5269576c0f834277a", func := "usher/usherlaw22.FairPlays", spec := "fairPlays", unfollowed := true, recurses := true, apart := false, narrowed := true }
def FairPlaysUptoSaid : Prop := fairPlaysUptoRow.holds Try.pinned (OpenSpec.upto fairPlaysSpec)

/-- 'usherlaw22.FairTime', WHERE WHAT IT READS IS OF BULK AT MOST 1048576: true; the input reads as it did. -/
def fairTimeUptoRow : OpenClaim := { program := "ytemmkkcfjhmomaa", sum := "ce99d8895a99e7b4a42a6c91d7f15255f9bdf06c0be742d5269576c0f834277a", func := "usher/usherlaw22.FairTime", spec := "fairTime", apart := false, narrowed := true }
def FairTimeUptoSaid : Prop := fairTimeUptoRow.holds Try.pinned (OpenSpec.upto fairTimeSpec)

/-- 'usherlaw22.FairShares', WHERE WHAT IT READS IS OF BULK AT MOST 1048576: true; the input reads as it did. -/
def fairSharesUptoRow : OpenClaim := { program := "ytemmkkcfjhmomaa", sum := "ce99d8895a99e7b4a42a6c91d7f15255f9bdf06c0be742d5269576c0f834277a", func := "usher/usherlaw22.FairShares", spec := "fairShares", apart := false, narrowed := true }
def FairSharesUptoSaid : Prop := fairSharesUptoRow.holds Try.pinned (OpenSpec.upto fairSharesSpec)

/-- 'usherlaw22.FairDrains', WHERE WHAT IT READS IS OF BULK AT MOST 1048576: true; the input reads as it did. -/
def fairDrainsUptoRow : OpenClaim := { program := "ytemmkkcfjhmomaa", sum := "ce99d8895a99e7b4a42a6c91d7f15255f9bdf06c0be742d5269576c0f834277a", func := "usher/usherlaw22.FairDrains", spec := "fairDrains", apart := false, narrowed := true }
def FairDrainsUptoSaid : Prop := fairDrainsUptoRow.holds Try.pinned (OpenSpec.upto fairDrainsSpec)

/-- 'usherlaw22.FairChooses', WHERE WHAT IT READS IS OF BULK AT MOST 1048576: true; the input reads as it did. -/
def fairChoosesUptoRow : OpenClaim := { program := "ytemmkkcfjhmomaa", sum := "ce99d8895a99e7b4a42a6c91d7f15255f9bdf06c0be742d5269576c0f834277a", func := "usher/usherlaw22.FairChooses", spec := "fairChooses", apart := false, narrowed := true }
def FairChoosesUptoSaid : Prop := fairChoosesUptoRow.holds Try.pinned (OpenSpec.upto fairChoosesSpec)

end Rows
end Go.Proofs.Ytemmkkcfjhmomaa
