/-
  DERIVED. GIVEN WITH THE SEED: THE CARDS: each row of YtabnhdbhccbebaaDoorRows.lean that lists a variable, with what it lists TIED to the program's text (the seventh form; the later family's looks); each row that meets fmt, with fmt's text TOLD by the authors' own Lean function (tested against real Go, not proved from fmt's source: count such statements apart). THE CARD IS WHAT COUNTS. Prove the row's statement (the work); the ties are given (YtabnhdbhccbebaaDoorTie.lean); close each card by the builder's one call (the guide's Derived/Test/ToyasCard.lean, 'card_holds'). Laid BY PROGRAM, IN A SANDBOX (cutbox-door.mjs). By AI agents, Wed Nov 11 2026. No macro, syntax, notation, axiom, sorry.
-/
import Derived.Test.YtabnhdbhccbebaaDoorRows
import GoSem.ClaimSeven
namespace Go.Proofs.YtabnhdbhccbebaaDoor
namespace Rows

/-- THE TIED CARD OF 'seabaglaw13.TagStages'. -/
def tagStagesCard : Claim7 := { stood := { row := tagStagesRow, standIns := [], harness := (true, "8b48236880e6ae019f54173df91d6f3b340765b736490b0d1dc23384e0c7a3e6"), looks := false }, kinds := [], alts := [], laidByText := true, laidKinds := [.data, .data, .data], laidTests := true, laidLooks := .later }
def TagStagesCardSaid : Prop := Claim7.holds Tryd.pinned (.plain (OpenSpec.ofChange tagStagesSpec)) tagStagesCard

/-- THE SECOND FORM's CARD OF 'seabaglaw13.TagStages'. -/
def tagStagesUptoCard : Claim7 := { stood := { row := tagStagesUptoRow, standIns := [], harness := (true, "8b48236880e6ae019f54173df91d6f3b340765b736490b0d1dc23384e0c7a3e6"), looks := false }, kinds := [], alts := [], laidByText := true, laidKinds := [.data, .data, .data], laidTests := true, laidLooks := .later }
def TagStagesUptoCardSaid : Prop := Claim7.holds Tryd.pinned (.plain (OpenSpec.upto tagStagesSpec)) tagStagesUptoCard
end Rows
end Go.Proofs.YtabnhdbhccbebaaDoor
