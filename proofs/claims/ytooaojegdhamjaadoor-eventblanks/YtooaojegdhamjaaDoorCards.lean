/-
  DERIVED. GIVEN WITH THE SEED: THE CARDS: each row of YtooaojegdhamjaaDoorRows.lean that lists a variable, with what it lists TIED to the program's text (the seventh form; the later family's looks); each row that meets fmt, with fmt's text TOLD by the authors' own Lean function (tested against real Go, not proved from fmt's source: count such statements apart). THE CARD IS WHAT COUNTS. Prove the row's statement (the work); the ties are given (YtooaojegdhamjaaDoorTie.lean); close each card by the builder's one call (the guide's Derived/Test/ToyasCard.lean, 'card_holds'). Laid BY PROGRAM, IN A SANDBOX (cutbox-door.mjs). By AI agents, Wed Nov 11 2026. No macro, syntax, notation, axiom, sorry.
-/
import Derived.Test.YtooaojegdhamjaaDoorRows
import GoSem.ClaimSeven
namespace Go.Proofs.YtooaojegdhamjaaDoor
namespace Rows

/-- THE TIED CARD OF 'usherlaw26.EventBack'. -/
def eventBackCard : Claim7 := { stood := { row := eventBackRow, standIns := [], harness := (true, "2b2813f0e7391a8fcac8f25b3371065d8f25cae3e5ec60231f2e4d3f63c47ead"), looks := false }, kinds := [], alts := [], laidByText := true, laidKinds := [.data, .data, .data, .data, .pinned], laidTests := true, laidLooks := .later }
def EventBackCardSaid : Prop := Claim7.holds Tryd.pinned (.plain (OpenSpec.ofChange eventBackSpec)) eventBackCard

/-- THE TIED CARD OF 'usherlaw26.EventOne'. -/
def eventOneCard : Claim7 := { stood := { row := eventOneRow, standIns := [], harness := (true, "2b2813f0e7391a8fcac8f25b3371065d8f25cae3e5ec60231f2e4d3f63c47ead"), looks := false }, kinds := [], alts := [], laidByText := true, laidKinds := [.data, .data, .data, .data, .pinned], laidTests := true, laidLooks := .later }
def EventOneCardSaid : Prop := Claim7.holds Tryd.pinned (.plain (OpenSpec.ofChange eventOneSpec)) eventOneCard

/-- THE TIED CARD OF 'usherlaw26.EventBlanks'. -/
def eventBlanksCard : Claim7 := { stood := { row := eventBlanksRow, standIns := [], harness := (true, "2b2813f0e7391a8fcac8f25b3371065d8f25cae3e5ec60231f2e4d3f63c47ead"), looks := false }, kinds := [], alts := [], laidByText := true, laidKinds := [.data, .data, .data, .data, .pinned], laidTests := true, laidLooks := .later }
def EventBlanksCardSaid : Prop := Claim7.holds Tryd.pinned (.plain (OpenSpec.ofChange eventBlanksSpec)) eventBlanksCard

/-- THE SECOND FORM's CARD OF 'usherlaw26.EventBack'. -/
def eventBackUptoCard : Claim7 := { stood := { row := eventBackUptoRow, standIns := [], harness := (true, "2b2813f0e7391a8fcac8f25b3371065d8f25cae3e5ec60231f2e4d3f63c47ead"), looks := false }, kinds := [], alts := [], laidByText := true, laidKinds := [.data, .data, .data, .data, .pinned], laidTests := true, laidLooks := .later }
def EventBackUptoCardSaid : Prop := Claim7.holds Tryd.pinned (.plain (OpenSpec.upto eventBackSpec)) eventBackUptoCard

/-- THE SECOND FORM's CARD OF 'usherlaw26.EventOne'. -/
def eventOneUptoCard : Claim7 := { stood := { row := eventOneUptoRow, standIns := [], harness := (true, "2b2813f0e7391a8fcac8f25b3371065d8f25cae3e5ec60231f2e4d3f63c47ead"), looks := false }, kinds := [], alts := [], laidByText := true, laidKinds := [.data, .data, .data, .data, .pinned], laidTests := true, laidLooks := .later }
def EventOneUptoCardSaid : Prop := Claim7.holds Tryd.pinned (.plain (OpenSpec.upto eventOneSpec)) eventOneUptoCard

/-- THE SECOND FORM's CARD OF 'usherlaw26.EventBlanks'. -/
def eventBlanksUptoCard : Claim7 := { stood := { row := eventBlanksUptoRow, standIns := [], harness := (true, "2b2813f0e7391a8fcac8f25b3371065d8f25cae3e5ec60231f2e4d3f63c47ead"), looks := false }, kinds := [], alts := [], laidByText := true, laidKinds := [.data, .data, .data, .data, .pinned], laidTests := true, laidLooks := .later }
def EventBlanksUptoCardSaid : Prop := Claim7.holds Tryd.pinned (.plain (OpenSpec.upto eventBlanksSpec)) eventBlanksUptoCard
end Rows
end Go.Proofs.YtooaojegdhamjaaDoor
