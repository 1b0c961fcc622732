/-
  DERIVED. GIVEN WITH THE SEED: THE CARDS: each row of YtaodckojinbdfaaDoorRows.lean that lists a variable, with what it lists TIED to the program's text (the seventh form; the later family's looks); each row that meets fmt, with fmt's text TOLD by the authors' own Lean function (tested against real Go, not proved from fmt's source: count such statements apart). THE CARD IS WHAT COUNTS. Prove the row's statement (the work); the ties are given (YtaodckojinbdfaaDoorTie.lean); close each card by the builder's one call (the guide's Derived/Test/ToyasCard.lean, 'card_holds'). Laid BY PROGRAM, IN A SANDBOX (cutbox-door.mjs). By AI agents, Wed Nov 11 2026. No macro, syntax, notation, axiom, sorry.
-/
import Derived.Test.YtaodckojinbdfaaDoorRows
import GoSem.ClaimSeven
namespace Go.Proofs.YtaodckojinbdfaaDoor
namespace Rows

/-- THE TIED CARD OF 'usherlaw10.ConfLines'. -/
def confLinesCard : Claim7 := { stood := { row := confLinesRow, standIns := [], harness := (true, "05708793e23e8f46d3fcc1964a2b85ef9df4dc9bce4a265421168fdb8f1ce705"), looks := true }, kinds := [], alts := [], laidByText := true, laidKinds := [.data, .handle, .pinned], laidTests := true, laidLooks := .later }
def ConfLinesCardSaid : Prop := Claim7.holds Tryd.pinned (.plain (OpenSpec.ofChange confLinesSpec)) confLinesCard

/-- THE TIED CARD OF 'usherlaw10.ConfCut'. -/
def confCutCard : Claim7 := { stood := { row := confCutRow, standIns := [], harness := (true, "05708793e23e8f46d3fcc1964a2b85ef9df4dc9bce4a265421168fdb8f1ce705"), looks := true }, kinds := [], alts := [], laidByText := true, laidKinds := [.data, .handle, .pinned], laidTests := true, laidLooks := .later }
def ConfCutCardSaid : Prop := Claim7.holds Tryd.pinned (.plain (OpenSpec.ofChange confCutSpec)) confCutCard

/-- THE TIED CARD OF 'usherlaw10.ConfLimits'. -/
def confLimitsCard : Claim7 := { stood := { row := confLimitsRow, standIns := [], harness := (true, "05708793e23e8f46d3fcc1964a2b85ef9df4dc9bce4a265421168fdb8f1ce705"), looks := true }, kinds := [], alts := [], laidByText := true, laidKinds := [.data, .handle, .pinned], laidTests := true, laidLooks := .later }
def ConfLimitsCardSaid : Prop := Claim7.holds Tryd.pinned (.plain (OpenSpec.ofChange confLimitsSpec)) confLimitsCard

/-- THE TIED CARD OF 'usherlaw10.ConfApart'. -/
def confApartCard : Claim7 := { stood := { row := confApartRow, standIns := [], harness := (true, "05708793e23e8f46d3fcc1964a2b85ef9df4dc9bce4a265421168fdb8f1ce705"), looks := true }, kinds := [], alts := [], laidByText := true, laidKinds := [.data, .pinned], laidTests := true, laidLooks := .later }
def ConfApartCardSaid : Prop := Claim7.holds Tryd.pinned (.plain (OpenSpec.ofChange confApartSpec)) confApartCard

/-- THE SECOND FORM's CARD OF 'usherlaw10.ConfLines'. -/
def confLinesUptoCard : Claim7 := { stood := { row := confLinesUptoRow, standIns := [], harness := (true, "05708793e23e8f46d3fcc1964a2b85ef9df4dc9bce4a265421168fdb8f1ce705"), looks := true }, kinds := [], alts := [], laidByText := true, laidKinds := [.data, .handle, .pinned], laidTests := true, laidLooks := .later }
def ConfLinesUptoCardSaid : Prop := Claim7.holds Tryd.pinned (.plain (OpenSpec.upto confLinesSpec)) confLinesUptoCard

/-- THE SECOND FORM's CARD OF 'usherlaw10.ConfCut'. -/
def confCutUptoCard : Claim7 := { stood := { row := confCutUptoRow, standIns := [], harness := (true, "05708793e23e8f46d3fcc1964a2b85ef9df4dc9bce4a265421168fdb8f1ce705"), looks := true }, kinds := [], alts := [], laidByText := true, laidKinds := [.data, .handle, .pinned], laidTests := true, laidLooks := .later }
def ConfCutUptoCardSaid : Prop := Claim7.holds Tryd.pinned (.plain (OpenSpec.upto confCutSpec)) confCutUptoCard

/-- THE SECOND FORM's CARD OF 'usherlaw10.ConfLimits'. -/
def confLimitsUptoCard : Claim7 := { stood := { row := confLimitsUptoRow, standIns := [], harness := (true, "05708793e23e8f46d3fcc1964a2b85ef9df4dc9bce4a265421168fdb8f1ce705"), looks := true }, kinds := [], alts := [], laidByText := true, laidKinds := [.data, .handle, .pinned], laidTests := true, laidLooks := .later }
def ConfLimitsUptoCardSaid : Prop := Claim7.holds Tryd.pinned (.plain (OpenSpec.upto confLimitsSpec)) confLimitsUptoCard

/-- THE SECOND FORM's CARD OF 'usherlaw10.ConfApart'. -/
def confApartUptoCard : Claim7 := { stood := { row := confApartUptoRow, standIns := [], harness := (true, "05708793e23e8f46d3fcc1964a2b85ef9df4dc9bce4a265421168fdb8f1ce705"), looks := true }, kinds := [], alts := [], laidByText := true, laidKinds := [.data, .pinned], laidTests := true, laidLooks := .later }
def ConfApartUptoCardSaid : Prop := Claim7.holds Tryd.pinned (.plain (OpenSpec.upto confApartSpec)) confApartUptoCard
end Rows
end Go.Proofs.YtaodckojinbdfaaDoor
