/-
  DERIVED. GIVEN WITH THE SEED: THE CARDS: each row of YtckhomeokhhneaaDoorRows.lean that lists a variable, with what it lists TIED to the program's text (the seventh form; the later family's looks); each row that meets fmt, with fmt's text TOLD by the authors' own Lean function (tested against real Go, not proved from fmt's source: count such statements apart). THE CARD IS WHAT COUNTS. Prove the row's statement (the work); the ties are given (YtckhomeokhhneaaDoorTie.lean); close each card by the builder's one call (the guide's Derived/Test/ToyasCard.lean, 'card_holds'). Laid BY PROGRAM, IN A SANDBOX (cutbox-door.mjs). By AI agents, Wed Nov 11 2026. No macro, syntax, notation, axiom, sorry.
-/
import Derived.Test.YtckhomeokhhneaaDoorRows
import GoSem.ClaimSeven
namespace Go.Proofs.YtckhomeokhhneaaDoor
namespace Rows

/-- THE TIED CARD OF 'seabaglaw10.FormEscapes'. -/
def formEscapesCard : Claim7 := { stood := { row := formEscapesRow, standIns := [], harness := (true, "d98fdd32ec21fcc2a18545624fbd92b615e0f0150e16d91b6b5da46a916b461e"), looks := true }, kinds := [], alts := [], laidByText := true, laidKinds := [.data, .data, .data, .data, .sentinel, .sentinel, .pinned, .pinned], laidTests := true, laidLooks := .later }
def FormEscapesCardSaid : Prop := Claim7.holds Tryd.pinned (.plain (OpenSpec.ofChange formEscapesSpec)) formEscapesCard

/-- THE TIED CARD OF 'seabaglaw10.FormFormats'. -/
def formFormatsCard : Claim7 := { stood := { row := formFormatsRow, standIns := [], harness := (true, "d98fdd32ec21fcc2a18545624fbd92b615e0f0150e16d91b6b5da46a916b461e"), looks := true }, kinds := [], alts := [], laidByText := true, laidKinds := [.data, .data, .data, .data, .sentinel, .sentinel, .pinned, .pinned], laidTests := true, laidLooks := .later }
def FormFormatsCardSaid : Prop := Claim7.holds Tryd.pinned (.plain (OpenSpec.ofChange formFormatsSpec)) formFormatsCard

/-- THE TIED CARD OF 'seabaglaw10.FormWidths'. -/
def formWidthsCard : Claim7 := { stood := { row := formWidthsRow, standIns := [], harness := (true, "d98fdd32ec21fcc2a18545624fbd92b615e0f0150e16d91b6b5da46a916b461e"), looks := true }, kinds := [], alts := [], laidByText := true, laidKinds := [.data, .data, .data, .data, .sentinel, .sentinel, .pinned, .pinned], laidTests := true, laidLooks := .later }
def FormWidthsCardSaid : Prop := Claim7.holds Tryd.pinned (.plain (OpenSpec.ofChange formWidthsSpec)) formWidthsCard

/-- THE TIED CARD OF 'seabaglaw10.FormTexts'. -/
def formTextsCard : Claim7 := { stood := { row := formTextsRow, standIns := [], harness := (true, "d98fdd32ec21fcc2a18545624fbd92b615e0f0150e16d91b6b5da46a916b461e"), looks := true }, kinds := [], alts := [], laidByText := true, laidKinds := [.data, .data, .data, .data, .sentinel, .sentinel, .pinned, .pinned], laidTests := true, laidLooks := .later }
def FormTextsCardSaid : Prop := Claim7.holds Tryd.pinned (.plain (OpenSpec.ofChange formTextsSpec)) formTextsCard

/-- THE SECOND FORM's CARD OF 'seabaglaw10.FormEscapes'. -/
def formEscapesUptoCard : Claim7 := { stood := { row := formEscapesUptoRow, standIns := [], harness := (true, "d98fdd32ec21fcc2a18545624fbd92b615e0f0150e16d91b6b5da46a916b461e"), looks := true }, kinds := [], alts := [], laidByText := true, laidKinds := [.data, .data, .data, .data, .sentinel, .sentinel, .pinned, .pinned], laidTests := true, laidLooks := .later }
def FormEscapesUptoCardSaid : Prop := Claim7.holds Tryd.pinned (.plain (OpenSpec.upto formEscapesSpec)) formEscapesUptoCard

/-- THE SECOND FORM's CARD OF 'seabaglaw10.FormFormats'. -/
def formFormatsUptoCard : Claim7 := { stood := { row := formFormatsUptoRow, standIns := [], harness := (true, "d98fdd32ec21fcc2a18545624fbd92b615e0f0150e16d91b6b5da46a916b461e"), looks := true }, kinds := [], alts := [], laidByText := true, laidKinds := [.data, .data, .data, .data, .sentinel, .sentinel, .pinned, .pinned], laidTests := true, laidLooks := .later }
def FormFormatsUptoCardSaid : Prop := Claim7.holds Tryd.pinned (.plain (OpenSpec.upto formFormatsSpec)) formFormatsUptoCard

/-- THE SECOND FORM's CARD OF 'seabaglaw10.FormWidths'. -/
def formWidthsUptoCard : Claim7 := { stood := { row := formWidthsUptoRow, standIns := [], harness := (true, "d98fdd32ec21fcc2a18545624fbd92b615e0f0150e16d91b6b5da46a916b461e"), looks := true }, kinds := [], alts := [], laidByText := true, laidKinds := [.data, .data, .data, .data, .sentinel, .sentinel, .pinned, .pinned], laidTests := true, laidLooks := .later }
def FormWidthsUptoCardSaid : Prop := Claim7.holds Tryd.pinned (.plain (OpenSpec.upto formWidthsSpec)) formWidthsUptoCard

/-- THE SECOND FORM's CARD OF 'seabaglaw10.FormTexts'. -/
def formTextsUptoCard : Claim7 := { stood := { row := formTextsUptoRow, standIns := [], harness := (true, "d98fdd32ec21fcc2a18545624fbd92b615e0f0150e16d91b6b5da46a916b461e"), looks := true }, kinds := [], alts := [], laidByText := true, laidKinds := [.data, .data, .data, .data, .sentinel, .sentinel, .pinned, .pinned], laidTests := true, laidLooks := .later }
def FormTextsUptoCardSaid : Prop := Claim7.holds Tryd.pinned (.plain (OpenSpec.upto formTextsSpec)) formTextsUptoCard
end Rows
end Go.Proofs.YtckhomeokhhneaaDoor
