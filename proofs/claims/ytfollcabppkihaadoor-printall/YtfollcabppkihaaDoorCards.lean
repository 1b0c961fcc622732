/-
  DERIVED. GIVEN WITH THE SEED: THE CARDS: each row of YtfollcabppkihaaDoorRows.lean that lists a variable, with what it lists TIED to the program's text (the seventh form; the later family's looks); each row that meets fmt, with fmt's text TOLD by the authors' own Lean function (tested against real Go, not proved from fmt's source: count such statements apart). THE CARD IS WHAT COUNTS. Prove the row's statement (the work); the ties are given (YtfollcabppkihaaDoorTie.lean); close each card by the builder's one call (the guide's Derived/Test/ToyasCard.lean, 'card_holds'). Laid BY PROGRAM, IN A SANDBOX (cutbox-door.mjs). By AI agents, Wed Nov 11 2026. No macro, syntax, notation, axiom, sorry.
-/
import Derived.Test.YtfollcabppkihaaDoorRows
import GoSem.ClaimSeven
namespace Go.Proofs.YtfollcabppkihaaDoor
namespace Rows

/-- THE TIED CARD OF 'usherlaw11.PrintAll'. -/
def printAllCard : Claim7 := { stood := { row := printAllRow, standIns := [], harness := (true, "e23248693a1211b0264ce3f68f3b332ec5241839cbdb388997655d736f5243a4"), looks := false }, kinds := [], alts := [], laidByText := true, laidKinds := [.data, .data, .data], laidTests := true, laidLooks := .later }
def PrintAllCardSaid : Prop := Claim7.holds Tryd.pinned (.plain (OpenSpec.ofChange printAllSpec)) printAllCard

/-- THE TIED CARD OF 'usherlaw11.PrintPart'. -/
def printPartCard : Claim7 := { stood := { row := printPartRow, standIns := [], harness := (true, "e23248693a1211b0264ce3f68f3b332ec5241839cbdb388997655d736f5243a4"), looks := false }, kinds := [], alts := [], laidByText := true, laidKinds := [.data, .data, .data], laidTests := true, laidLooks := .later }
def PrintPartCardSaid : Prop := Claim7.holds Tryd.pinned (.plain (OpenSpec.ofChange printPartSpec)) printPartCard

/-- THE SECOND FORM's CARD OF 'usherlaw11.PrintAll'. -/
def printAllUptoCard : Claim7 := { stood := { row := printAllUptoRow, standIns := [], harness := (true, "e23248693a1211b0264ce3f68f3b332ec5241839cbdb388997655d736f5243a4"), looks := false }, kinds := [], alts := [], laidByText := true, laidKinds := [.data, .data, .data], laidTests := true, laidLooks := .later }
def PrintAllUptoCardSaid : Prop := Claim7.holds Tryd.pinned (.plain (OpenSpec.upto printAllSpec)) printAllUptoCard

/-- THE SECOND FORM's CARD OF 'usherlaw11.PrintPart'. -/
def printPartUptoCard : Claim7 := { stood := { row := printPartUptoRow, standIns := [], harness := (true, "e23248693a1211b0264ce3f68f3b332ec5241839cbdb388997655d736f5243a4"), looks := false }, kinds := [], alts := [], laidByText := true, laidKinds := [.data, .data, .data], laidTests := true, laidLooks := .later }
def PrintPartUptoCardSaid : Prop := Claim7.holds Tryd.pinned (.plain (OpenSpec.upto printPartSpec)) printPartUptoCard
end Rows
end Go.Proofs.YtfollcabppkihaaDoor
