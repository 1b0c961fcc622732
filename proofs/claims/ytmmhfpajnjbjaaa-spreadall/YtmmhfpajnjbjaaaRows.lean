/-
  No cell of these rows narrows 'for every input' (looked for: loops, veiled, ifaces, maps, wideKeys, modest, calm, conditions, laid).
  DERIVED. THE GIVEN ROWS OF THIS SEAT. 6 by the template 'for every input the law returns true; each argument reads behind the call as it read before'; 0 by the template 'total and deterministic' (their statements: YtmmhfpajnjbjaaaTotals.lean).
  GIVEN WITH THE SEED: the statements are not yours to turn. If you find one false, say at which input.
  Laid BY PROGRAM, IN A SANDBOX (cutbox-rows.mjs): the forced cells as the released guide's own fill.sh prints them over the translation f7718988db4dbc29… (all of the seat's roots in one cut). By AI agents, Wed Nov 11 2026. No macro, syntax, notation, axiom, sorry.
-/
import Derived.Test.YtmmhfpajnjbjaaaChecked
import GoSem.Claim
import GoSem.ClaimJoined
import GoSem.ClaimMapViews
import Derived.JoinedTies
import Derived.KernelRfl
namespace Go.Proofs.Ytmmhfpajnjbjaaa
/- THE CELL 'sum', in the pinned program and in every row, IS THE sha256 OF THE DUMP (.gsa) THAT YtmmhfpajnjbjaaaProg.lean LOADS. Nothing in Lean hashes anything: it is a label: what it is worth is what the hold of that sum in a sandbox is worth. -/
noncomputable def Try.pinned : Pinned := { name := "ytmmhfpajnjbjaaa", sum := "f7718988db4dbc29751cee92d35f6c1a285af196a1ac011c4d2cdcc690c087ad", checked := Try.checked }
namespace Rows
def none {H : Type} : Left H := { results := [], args := [] }

/-- 'usherlaw03.SpreadAll': WHATEVER THE INPUT: true; the input reads as it did. -/
def spreadAllSpec : ChangeSpec := { name := "spreadAll", fn := fun _ => fun
  | [d1, d2, d3, d4] => { results := [.lit (.bool true)], args := [d1, d2, d3, d4] }
  | _ => none }
def spreadAllRow : OpenClaim := { program := "ytmmhfpajnjbjaaa", sum := "f7718988db4dbc29751cee92d35f6c1a285af196a1ac011c4d2cdcc690c087ad", func := "usher/usherlaw03.SpreadAll", spec := "spreadAll", apart := false }
def SpreadAllSaid : Prop := spreadAllRow.holds Try.pinned (OpenSpec.ofChange spreadAllSpec)

/-- ITS FALSE NEIGHBOUR: 'it returns false'. Refute it at one input. -/
def spreadAllWrong : ChangeSpec := { name := "spreadAll", fn := fun _ => fun
  | [d1, d2, d3, d4] => { results := [.lit (.bool false)], args := [d1, d2, d3, d4] }
  | _ => none }
def SpreadAllWrongFalsely : Prop := spreadAllRow.holds Try.pinned (OpenSpec.ofChange spreadAllWrong)

/-- 'usherlaw03.SpreadWhole': WHATEVER THE INPUT: true; the input reads as it did. -/
def spreadWholeSpec : ChangeSpec := { name := "spreadWhole", fn := fun _ => fun
  | [d1, d2, d3, d4] => { results := [.lit (.bool true)], args := [d1, d2, d3, d4] }
  | _ => none }
def spreadWholeRow : OpenClaim := { program := "ytmmhfpajnjbjaaa", sum := "f7718988db4dbc29751cee92d35f6c1a285af196a1ac011c4d2cdcc690c087ad", func := "usher/usherlaw03.SpreadWhole", spec := "spreadWhole", apart := false }
def SpreadWholeSaid : Prop := spreadWholeRow.holds Try.pinned (OpenSpec.ofChange spreadWholeSpec)

/-- ITS FALSE NEIGHBOUR: 'it returns false'. Refute it at one input. -/
def spreadWholeWrong : ChangeSpec := { name := "spreadWhole", fn := fun _ => fun
  | [d1, d2, d3, d4] => { results := [.lit (.bool false)], args := [d1, d2, d3, d4] }
  | _ => none }
def SpreadWholeWrongFalsely : Prop := spreadWholeRow.holds Try.pinned (OpenSpec.ofChange spreadWholeWrong)

/-- 'usherlaw03.SpreadFair': WHATEVER THE INPUT: true; the input reads as it did. -/
def spreadFairSpec : ChangeSpec := { name := "spreadFair", fn := fun _ => fun
  | [d1, d2, d3, d4] => { results := [.lit (.bool true)], args := [d1, d2, d3, d4] }
  | _ => none }
def spreadFairRow : OpenClaim := { program := "ytmmhfpajnjbjaaa", sum := "f7718988db4dbc29751cee92d35f6c1a285af196a1ac011c4d2cdcc690c087ad", func := "usher/usherlaw03.SpreadFair", spec := "spreadFair", apart := false }
def SpreadFairSaid : Prop := spreadFairRow.holds Try.pinned (OpenSpec.ofChange spreadFairSpec)

/-- ITS FALSE NEIGHBOUR: 'it returns false'. Refute it at one input. -/
def spreadFairWrong : ChangeSpec := { name := "spreadFair", fn := fun _ => fun
  | [d1, d2, d3, d4] => { results := [.lit (.bool false)], args := [d1, d2, d3, d4] }
  | _ => none }
def SpreadFairWrongFalsely : Prop := spreadFairRow.holds Try.pinned (OpenSpec.ofChange spreadFairWrong)

/-- 'usherlaw03.SpreadMore': WHATEVER THE INPUT: true; the input reads as it did. -/
def spreadMoreSpec : ChangeSpec := { name := "spreadMore", fn := fun _ => fun
  | [d1, d2, d3, d4] => { results := [.lit (.bool true)], args := [d1, d2, d3, d4] }
  | _ => none }
def spreadMoreRow : OpenClaim := { program := "ytmmhfpajnjbjaaa", sum := "f7718988db4dbc29751cee92d35f6c1a285af196a1ac011c4d2cdcc690c087ad", func := "usher/usherlaw03.SpreadMore", spec := "spreadMore", apart := false }
def SpreadMoreSaid : Prop := spreadMoreRow.holds Try.pinned (OpenSpec.ofChange spreadMoreSpec)

/-- ITS FALSE NEIGHBOUR: 'it returns false'. Refute it at one input. -/
def spreadMoreWrong : ChangeSpec := { name := "spreadMore", fn := fun _ => fun
  | [d1, d2, d3, d4] => { results := [.lit (.bool false)], args := [d1, d2, d3, d4] }
  | _ => none }
def SpreadMoreWrongFalsely : Prop := spreadMoreRow.holds Try.pinned (OpenSpec.ofChange spreadMoreWrong)

/-- 'usherlaw03.SpreadEnds': WHATEVER THE INPUT: true; the input reads as it did. -/
def spreadEndsSpec : ChangeSpec := { name := "spreadEnds", fn := fun _ => fun
  | [d1, d2, d3] => { results := [.lit (.bool true)], args := [d1, d2, d3] }
  | _ => none }
def spreadEndsRow : OpenClaim := { program := "ytmmhfpajnjbjaaa", sum := "f7718988db4dbc29751cee92d35f6c1a285af196a1ac011c4d2cdcc690c087ad", func := "usher/usherlaw03.SpreadEnds", spec := "spreadEnds", apart := false }
def SpreadEndsSaid : Prop := spreadEndsRow.holds Try.pinned (OpenSpec.ofChange spreadEndsSpec)

/-- ITS FALSE NEIGHBOUR: 'it returns false'. Refute it at one input. -/
def spreadEndsWrong : ChangeSpec := { name := "spreadEnds", fn := fun _ => fun
  | [d1, d2, d3] => { results := [.lit (.bool false)], args := [d1, d2, d3] }
  | _ => none }
def SpreadEndsWrongFalsely : Prop := spreadEndsRow.holds Try.pinned (OpenSpec.ofChange spreadEndsWrong)

/-- 'usherlaw03.SpreadSame': WHATEVER THE INPUT: true; the input reads as it did. -/
def spreadSameSpec : ChangeSpec := { name := "spreadSame", fn := fun _ => fun
  | [d1, d2, d3, d4] => { results := [.lit (.bool true)], args := [d1, d2, d3, d4] }
  | _ => none }
def spreadSameRow : OpenClaim := { program := "ytmmhfpajnjbjaaa", sum := "f7718988db4dbc29751cee92d35f6c1a285af196a1ac011c4d2cdcc690c087ad", func := "usher/usherlaw03.SpreadSame", spec := "spreadSame", apart := false }
def SpreadSameSaid : Prop := spreadSameRow.holds Try.pinned (OpenSpec.ofChange spreadSameSpec)

/-- ITS FALSE NEIGHBOUR: 'it returns false'. Refute it at one input. -/
def spreadSameWrong : ChangeSpec := { name := "spreadSame", fn := fun _ => fun
  | [d1, d2, d3, d4] => { results := [.lit (.bool false)], args := [d1, d2, d3, d4] }
  | _ => none }
def SpreadSameWrongFalsely : Prop := spreadSameRow.holds Try.pinned (OpenSpec.ofChange spreadSameWrong)

/- THE SECOND FORM. 'bulk': how many values and letters a reading holds, each counted each time it is reached (what is shared counts as often as it is met; a slice's spare places count too). A statement '..UptoSaid' is the law's where the arguments, and the package variables that the reading takes, are together of bulk at most 1048576: NARROWER than '..Said'. Prove '..Said' where nothing that the law and all that it calls make is longer than what came in: it says more and counts as full. Else prove '..UptoSaid'. A law counts once. -/
mutual
def uptoBulk {H : Type} : DataW H → Nat
  | .lit (.string bytes) => bytes.length + 1
  | .lit _ => 1
  | .nil => 1
  | .ptr d => uptoBulk d + 1
  | .slice elems spare => uptoBulkAll elems + uptoBulkAll spare + 1
  | .agg parts => uptoBulkAll parts + 1
  | .iface _ d => uptoBulk d + 1
  | .map entries => uptoBulkEntries entries + 1
  | .held _ => 1
def uptoBulkAll {H : Type} : List (DataW H) → Nat
  | [] => 0
  | d :: r => uptoBulk d + uptoBulkAll r
def uptoBulkEntries {H : Type} : List (Lit × DataW H) → Nat
  | [] => 0
  | x :: r => uptoBulkEntry x + uptoBulkEntries r
def uptoBulkEntry {H : Type} : Lit × DataW H → Nat
  | (.string bytes, d) => bytes.length + uptoBulk d + 1
  | (_, d) => uptoBulk d + 1
 end
def uptoSmall : (H : Type) → List (DataW H) → Bool := fun _ ds => decide (uptoBulkAll ds ≤ 1048576)
def OpenSpec.upto (s : _root_.Go.ChangeSpec) : _root_.Go.OpenSpec := { _root_.Go.OpenSpec.ofChange s with cond := some uptoSmall }

/-- 'usherlaw03.SpreadAll', WHERE WHAT IT READS IS OF BULK AT MOST 1048576: true; the input reads as it did. -/
def spreadAllUptoRow : OpenClaim := { program := "ytmmhfpajnjbjaaa", sum := "f7718988db4dbc29751cee92d35f6c1a285af196a1ac011c4d2cdcc690c087ad", func := "usher/usherlaw03.SpreadAll", spec := "spreadAll", apart := false, narrowed := true }
def SpreadAllUptoSaid : Prop := spreadAllUptoRow.holds Try.pinned (OpenSpec.upto spreadAllSpec)

/-- 'usherlaw03.SpreadWhole', WHERE WHAT IT READS IS OF BULK AT MOST 1048576: true; the input reads as it did. -/
def spreadWholeUptoRow : OpenClaim := { program := "ytmmhfpajnjbjaaa", sum := "f7718988db4dbc29751cee92d35f6c1a285af196a1ac011c4d2cdcc690c087ad", func := "usher/usherlaw03.SpreadWhole", spec := "spreadWhole", apart := false, narrowed := true }
def SpreadWholeUptoSaid : Prop := spreadWholeUptoRow.holds Try.pinned (OpenSpec.upto spreadWholeSpec)

/-- 'usherlaw03.SpreadFair', WHERE WHAT IT READS IS OF BULK AT MOST 1048576: true; the input reads as it did. -/
def spreadFairUptoRow : OpenClaim := { program := "ytmmhfpajnjbjaaa", sum := "f7718988db4dbc29751cee92d35f6c1a285af196a1ac011c4d2cdcc690c087ad", func := "usher/usherlaw03.SpreadFair", spec := "spreadFair", apart := false, narrowed := true }
def SpreadFairUptoSaid : Prop := spreadFairUptoRow.holds Try.pinned (OpenSpec.upto spreadFairSpec)

/-- 'usherlaw03.SpreadMore', WHERE WHAT IT READS IS OF BULK AT MOST 1048576: true; the input reads as it did. -/
def spreadMoreUptoRow : OpenClaim := { program := "ytmmhfpajnjbjaaa", sum := "f7718988db4dbc29751cee92d35f6c1a285af196a1ac011c4d2cdcc690c087ad", func := "usher/usherlaw03.SpreadMore", spec := "spreadMore", apart := false, narrowed := true }
def SpreadMoreUptoSaid : Prop := spreadMoreUptoRow.holds Try.pinned (OpenSpec.upto spreadMoreSpec)

/-- 'usherlaw03.SpreadEnds', WHERE WHAT IT READS IS OF BULK AT MOST 1048576: true; the input reads as it did. -/
def spreadEndsUptoRow : OpenClaim := { program := "ytmmhfpajnjbjaaa", sum := "f7718988db4dbc29751cee92d35f6c1a285af196a1ac011c4d2cdcc690c087ad", func := "usher/usherlaw03.SpreadEnds", spec := "spreadEnds", apart := false, narrowed := true }
def SpreadEndsUptoSaid : Prop := spreadEndsUptoRow.holds Try.pinned (OpenSpec.upto spreadEndsSpec)

/-- 'usherlaw03.SpreadSame', WHERE WHAT IT READS IS OF BULK AT MOST 1048576: true; the input reads as it did. -/
def spreadSameUptoRow : OpenClaim := { program := "ytmmhfpajnjbjaaa", sum := "f7718988db4dbc29751cee92d35f6c1a285af196a1ac011c4d2cdcc690c087ad", func := "usher/usherlaw03.SpreadSame", spec := "spreadSame", apart := false, narrowed := true }
def SpreadSameUptoSaid : Prop := spreadSameUptoRow.holds Try.pinned (OpenSpec.upto spreadSameSpec)

end Rows
end Go.Proofs.Ytmmhfpajnjbjaaa
