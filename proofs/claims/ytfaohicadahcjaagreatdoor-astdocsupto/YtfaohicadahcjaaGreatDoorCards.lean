/-
  DERIVED. GIVEN WITH THE SEED: THE CARDS: each row of YtfaohicadahcjaaGreatDoorRows.lean that lists a variable, with what it lists TIED to the program's text (the seventh form; the later family's looks); each row that meets fmt, with fmt's text TOLD by the authors' own Lean function (tested against real Go, not proved from fmt's source: count such statements apart). THE CARD IS WHAT COUNTS. Prove the row's statement (the work); the ties are given (YtfaohicadahcjaaGreatDoorTie.lean); close each card by the builder's one call (the guide's Derived/Test/ToyasCard.lean, 'card_holds'). Laid BY PROGRAM, IN A SANDBOX (cutbox-door.mjs). By AI agents, Wed Nov 11 2026. No macro, syntax, notation, axiom, sorry.
-/
import Derived.Test.YtfaohicadahcjaaGreatDoorRows
import GoSem.ClaimSeven
namespace Go.Proofs.YtfaohicadahcjaaGreatDoor
namespace Rows

/-- THE TIED CARD OF 'seabaglaw14.AstRights'. -/
def astRightsCard : Claim7 := { stood := { row := astRightsRow, standIns := [], harness := (true, "9232209cf09b6f6754968d9afc14b6f382016ac03f9884df2c6cb2e408453ef7"), looks := false }, kinds := [], alts := [], laidByText := true, laidKinds := [.data, .data, .data, .data, .pinned], laidTests := true, laidLooks := .later }
def AstRightsCardSaid : Prop := Claim7.holds Tryz.pinned (.plain (OpenSpec.ofChange astRightsSpec)) astRightsCard

/-- THE TIED CARD OF 'seabaglaw14.AstShows'. -/
def astShowsCard : Claim7 := { stood := { row := astShowsRow, standIns := [], harness := (true, "9232209cf09b6f6754968d9afc14b6f382016ac03f9884df2c6cb2e408453ef7"), looks := false }, kinds := [], alts := [], laidByText := true, laidKinds := [.data, .data, .data, .data, .pinned], laidTests := true, laidLooks := .later }
def AstShowsCardSaid : Prop := Claim7.holds Tryz.pinned (.plain (OpenSpec.ofChange astShowsSpec)) astShowsCard

/-- THE TIED CARD OF 'seabaglaw14.AstTexts'. -/
def astTextsCard : Claim7 := { stood := { row := astTextsRow, standIns := [], harness := (true, "9232209cf09b6f6754968d9afc14b6f382016ac03f9884df2c6cb2e408453ef7"), looks := false }, kinds := [], alts := [], laidByText := true, laidKinds := [.data, .data, .data, .data, .pinned], laidTests := true, laidLooks := .later }
def AstTextsCardSaid : Prop := Claim7.holds Tryz.pinned (.plain (OpenSpec.ofChange astTextsSpec)) astTextsCard

/-- THE TIED CARD OF 'seabaglaw14.AstDocs'. -/
def astDocsCard : Claim7 := { stood := { row := astDocsRow, standIns := [], harness := (true, "9232209cf09b6f6754968d9afc14b6f382016ac03f9884df2c6cb2e408453ef7"), looks := false }, kinds := [], alts := [], laidByText := true, laidKinds := [.data, .data, .data, .data, .pinned], laidTests := true, laidLooks := .later }
def AstDocsCardSaid : Prop := Claim7.holds Tryz.pinned (.plain (OpenSpec.ofChange astDocsSpec)) astDocsCard

/-- THE TIED CARD OF 'seabaglaw14.AstDeeper'. -/
def astDeeperCard : Claim7 := { stood := { row := astDeeperRow, standIns := [], harness := (true, "9232209cf09b6f6754968d9afc14b6f382016ac03f9884df2c6cb2e408453ef7"), looks := false }, kinds := [], alts := [], laidByText := true, laidKinds := [.data, .data, .data, .data, .pinned], laidTests := true, laidLooks := .later }
def AstDeeperCardSaid : Prop := Claim7.holds Tryz.pinned (.plain (OpenSpec.ofChange astDeeperSpec)) astDeeperCard

/-- THE SECOND FORM's CARD OF 'seabaglaw14.AstRights'. -/
def astRightsUptoCard : Claim7 := { stood := { row := astRightsUptoRow, standIns := [], harness := (true, "9232209cf09b6f6754968d9afc14b6f382016ac03f9884df2c6cb2e408453ef7"), looks := false }, kinds := [], alts := [], laidByText := true, laidKinds := [.data, .data, .data, .data, .pinned], laidTests := true, laidLooks := .later }
def AstRightsUptoCardSaid : Prop := Claim7.holds Tryz.pinned (.plain (OpenSpec.upto astRightsSpec)) astRightsUptoCard

/-- THE SECOND FORM's CARD OF 'seabaglaw14.AstShows'. -/
def astShowsUptoCard : Claim7 := { stood := { row := astShowsUptoRow, standIns := [], harness := (true, "9232209cf09b6f6754968d9afc14b6f382016ac03f9884df2c6cb2e408453ef7"), looks := false }, kinds := [], alts := [], laidByText := true, laidKinds := [.data, .data, .data, .data, .pinned], laidTests := true, laidLooks := .later }
def AstShowsUptoCardSaid : Prop := Claim7.holds Tryz.pinned (.plain (OpenSpec.upto astShowsSpec)) astShowsUptoCard

/-- THE SECOND FORM's CARD OF 'seabaglaw14.AstTexts'. -/
def astTextsUptoCard : Claim7 := { stood := { row := astTextsUptoRow, standIns := [], harness := (true, "9232209cf09b6f6754968d9afc14b6f382016ac03f9884df2c6cb2e408453ef7"), looks := false }, kinds := [], alts := [], laidByText := true, laidKinds := [.data, .data, .data, .data, .pinned], laidTests := true, laidLooks := .later }
def AstTextsUptoCardSaid : Prop := Claim7.holds Tryz.pinned (.plain (OpenSpec.upto astTextsSpec)) astTextsUptoCard

/-- THE SECOND FORM's CARD OF 'seabaglaw14.AstDocs'. -/
def astDocsUptoCard : Claim7 := { stood := { row := astDocsUptoRow, standIns := [], harness := (true, "9232209cf09b6f6754968d9afc14b6f382016ac03f9884df2c6cb2e408453ef7"), looks := false }, kinds := [], alts := [], laidByText := true, laidKinds := [.data, .data, .data, .data, .pinned], laidTests := true, laidLooks := .later }
def AstDocsUptoCardSaid : Prop := Claim7.holds Tryz.pinned (.plain (OpenSpec.upto astDocsSpec)) astDocsUptoCard

/-- THE SECOND FORM's CARD OF 'seabaglaw14.AstDeeper'. -/
def astDeeperUptoCard : Claim7 := { stood := { row := astDeeperUptoRow, standIns := [], harness := (true, "9232209cf09b6f6754968d9afc14b6f382016ac03f9884df2c6cb2e408453ef7"), looks := false }, kinds := [], alts := [], laidByText := true, laidKinds := [.data, .data, .data, .data, .pinned], laidTests := true, laidLooks := .later }
def AstDeeperUptoCardSaid : Prop := Claim7.holds Tryz.pinned (.plain (OpenSpec.upto astDeeperSpec)) astDeeperUptoCard
end Rows
end Go.Proofs.YtfaohicadahcjaaGreatDoor
