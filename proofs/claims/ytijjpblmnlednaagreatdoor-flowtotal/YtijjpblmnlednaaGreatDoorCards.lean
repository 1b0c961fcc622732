/-
  DERIVED. GIVEN WITH THE SEED: THE CARDS: each row of YtijjpblmnlednaaGreatDoorRows.lean that lists a variable, with what it lists TIED to the program's text (the seventh form; the later family's looks); each row that meets fmt, with fmt's text TOLD by the authors' own Lean function (tested against real Go, not proved from fmt's source: count such statements apart). THE CARD IS WHAT COUNTS. Prove the row's statement (the work); the ties are given (YtijjpblmnlednaaGreatDoorTie.lean); close each card by the builder's one call (the guide's Derived/Test/ToyasCard.lean, 'card_holds'). Laid BY PROGRAM, IN A SANDBOX (cutbox-door.mjs). By AI agents, Wed Nov 11 2026. No macro, syntax, notation, axiom, sorry.
-/
import Derived.Test.YtijjpblmnlednaaGreatDoorRows
import GoSem.ClaimSeven
namespace Go.Proofs.YtijjpblmnlednaaGreatDoor
namespace Rows

/-- THE TIED CARD OF 'usherlaw16.FlowTotal'. -/
def flowTotalCard : Claim7 := { stood := { row := flowTotalRow, standIns := [], harness := (true, "10942aafb27de3fb0776d2901f6acf5fafe00692f9b18decbe8ef51bc606cd5a"), looks := false }, kinds := [], alts := [], laidByText := true, laidKinds := [.data, .data, .data], laidTests := true, laidLooks := .later }
def FlowTotalCardSaid : Prop := Claim7.holds Tryz.pinned (.plain (OpenSpec.ofChange flowTotalSpec)) flowTotalCard

/-- THE SECOND FORM's CARD OF 'usherlaw16.FlowTotal'. -/
def flowTotalUptoCard : Claim7 := { stood := { row := flowTotalUptoRow, standIns := [], harness := (true, "10942aafb27de3fb0776d2901f6acf5fafe00692f9b18decbe8ef51bc606cd5a"), looks := false }, kinds := [], alts := [], laidByText := true, laidKinds := [.data, .data, .data], laidTests := true, laidLooks := .later }
def FlowTotalUptoCardSaid : Prop := Claim7.holds Tryz.pinned (.plain (OpenSpec.upto flowTotalSpec)) flowTotalUptoCard
end Rows
end Go.Proofs.YtijjpblmnlednaaGreatDoor
