/-
  DERIVED. GIVEN WITH THE SEED: THE CARDS: each row of YtaedgkaldafbbabDoorRows.lean that lists a variable, with what it lists TIED to the program's text (the seventh form; the later family's looks); each row that meets fmt, with fmt's text TOLD by the authors' own Lean function (tested against real Go, not proved from fmt's source: count such statements apart). THE CARD IS WHAT COUNTS. Prove the row's statement (the work); the ties are given (YtaedgkaldafbbabDoorTie.lean); close each card by the builder's one call (the guide's Derived/Test/ToyasCard.lean, 'card_holds'). Laid BY PROGRAM, IN A SANDBOX (cutbox-door.mjs). By AI agents, Wed Nov 11 2026. No macro, syntax, notation, axiom, sorry.
-/
import Derived.Test.YtaedgkaldafbbabDoorRows
import GoSem.ClaimSeven
namespace Go.Proofs.YtaedgkaldafbbabDoor
namespace Rows

/-- THE TIED CARD OF 'usherlaw08.WordsCompare'. -/
def wordsCompareCard : Claim7 := { stood := { row := wordsCompareRow, standIns := [], harness := (true, "4ebafdec95889e75395042e8caed1171505253cdfafb96b620ac172307eb01e7"), looks := false }, kinds := [], alts := [], laidByText := true, laidKinds := [.data, .data, .data, .data, .pinned], laidTests := true, laidLooks := .later }
def WordsCompareCardSaid : Prop := Claim7.holds Tryd.pinned (.plain (OpenSpec.ofChange wordsCompareSpec)) wordsCompareCard

/-- THE TIED CARD OF 'usherlaw08.WordsNames'. -/
def wordsNamesCard : Claim7 := { stood := { row := wordsNamesRow, standIns := [], harness := (true, "4ebafdec95889e75395042e8caed1171505253cdfafb96b620ac172307eb01e7"), looks := false }, kinds := [], alts := [], laidByText := true, laidKinds := [.data, .pinned], laidTests := true, laidLooks := .later }
def WordsNamesCardSaid : Prop := Claim7.holds Tryd.pinned (.plain (OpenSpec.ofChange wordsNamesSpec)) wordsNamesCard

/-- THE SECOND FORM's CARD OF 'usherlaw08.WordsCompare'. -/
def wordsCompareUptoCard : Claim7 := { stood := { row := wordsCompareUptoRow, standIns := [], harness := (true, "4ebafdec95889e75395042e8caed1171505253cdfafb96b620ac172307eb01e7"), looks := false }, kinds := [], alts := [], laidByText := true, laidKinds := [.data, .data, .data, .data, .pinned], laidTests := true, laidLooks := .later }
def WordsCompareUptoCardSaid : Prop := Claim7.holds Tryd.pinned (.plain (OpenSpec.upto wordsCompareSpec)) wordsCompareUptoCard

/-- THE SECOND FORM's CARD OF 'usherlaw08.WordsNames'. -/
def wordsNamesUptoCard : Claim7 := { stood := { row := wordsNamesUptoRow, standIns := [], harness := (true, "4ebafdec95889e75395042e8caed1171505253cdfafb96b620ac172307eb01e7"), looks := false }, kinds := [], alts := [], laidByText := true, laidKinds := [.data, .pinned], laidTests := true, laidLooks := .later }
def WordsNamesUptoCardSaid : Prop := Claim7.holds Tryd.pinned (.plain (OpenSpec.upto wordsNamesSpec)) wordsNamesUptoCard
end Rows
end Go.Proofs.YtaedgkaldafbbabDoor
