/-
  DERIVED. GIVEN WITH THE SEED: THE CARDS: each row of YtagfndkfjbbpjaaGreatDoorRows.lean that lists a variable, with what it lists TIED to the program's text (the seventh form; the later family's looks); each row that meets fmt, with fmt's text TOLD by the authors' own Lean function (tested against real Go, not proved from fmt's source: count such statements apart). THE CARD IS WHAT COUNTS. Prove the row's statement (the work); the ties are given (YtagfndkfjbbpjaaGreatDoorTie.lean); close each card by the builder's one call (the guide's Derived/Test/ToyasCard.lean, 'card_holds'). Laid BY PROGRAM, IN A SANDBOX (cutbox-door.mjs). By AI agents, Wed Nov 11 2026. No macro, syntax, notation, axiom, sorry.
-/
import Derived.Test.YtagfndkfjbbpjaaGreatDoorRows
import GoSem.ClaimSeven
namespace Go.Proofs.YtagfndkfjbbpjaaGreatDoor
namespace Rows

/-- THE TIED CARD OF 'debenturelaw08.InstructTells'. -/
def instructTellsCard : Claim7 := { stood := { row := instructTellsRow, standIns := [], harness := (true, "d3accbd58d931b3437247db624562331b05bbf93381982b524c641f88278a674"), looks := false }, kinds := [], alts := [], laidByText := true, laidKinds := [.data, .pinned], laidTests := true, laidLooks := .later }
def InstructTellsCardSaid : Prop := Claim7.holds Tryz.pinned (.plain (OpenSpec.ofChange instructTellsSpec)) instructTellsCard

/-- THE TIED CARD OF 'debenturelaw08.InstructWhole'. -/
def instructWholeCard : Claim7 := { stood := { row := instructWholeRow, standIns := [], harness := (true, "d3accbd58d931b3437247db624562331b05bbf93381982b524c641f88278a674"), looks := false }, kinds := [], alts := [], laidByText := true, laidKinds := [.data, .pinned], laidTests := true, laidLooks := .later }
def InstructWholeCardSaid : Prop := Claim7.holds Tryz.pinned (.plain (OpenSpec.ofChange instructWholeSpec)) instructWholeCard

/-- THE TIED CARD OF 'debenturelaw08.InstructAgain'. -/
def instructAgainCard : Claim7 := { stood := { row := instructAgainRow, standIns := [], harness := (true, "d3accbd58d931b3437247db624562331b05bbf93381982b524c641f88278a674"), looks := false }, kinds := [], alts := [], laidByText := true, laidKinds := [.data, .pinned], laidTests := true, laidLooks := .later }
def InstructAgainCardSaid : Prop := Claim7.holds Tryz.pinned (.plain (OpenSpec.ofChange instructAgainSpec)) instructAgainCard

/-- THE TIED CARD OF 'debenturelaw08.InstructLines'. -/
def instructLinesCard : Claim7 := { stood := { row := instructLinesRow, standIns := [], harness := (true, "d3accbd58d931b3437247db624562331b05bbf93381982b524c641f88278a674"), looks := false }, kinds := [], alts := [], laidByText := true, laidKinds := [.data, .pinned], laidTests := true, laidLooks := .later }
def InstructLinesCardSaid : Prop := Claim7.holds Tryz.pinned (.plain (OpenSpec.ofChange instructLinesSpec)) instructLinesCard

/-- THE TIED CARD OF 'debenturelaw08.InstructDays'. -/
def instructDaysCard : Claim7 := { stood := { row := instructDaysRow, standIns := [], harness := (true, "d3accbd58d931b3437247db624562331b05bbf93381982b524c641f88278a674"), looks := false }, kinds := [], alts := [], laidByText := true, laidKinds := [.data, .pinned], laidTests := true, laidLooks := .later }
def InstructDaysCardSaid : Prop := Claim7.holds Tryz.pinned (.plain (OpenSpec.ofChange instructDaysSpec)) instructDaysCard

/-- THE SECOND FORM's CARD OF 'debenturelaw08.InstructTells'. -/
def instructTellsUptoCard : Claim7 := { stood := { row := instructTellsUptoRow, standIns := [], harness := (true, "d3accbd58d931b3437247db624562331b05bbf93381982b524c641f88278a674"), looks := false }, kinds := [], alts := [], laidByText := true, laidKinds := [.data, .pinned], laidTests := true, laidLooks := .later }
def InstructTellsUptoCardSaid : Prop := Claim7.holds Tryz.pinned (.plain (OpenSpec.upto instructTellsSpec)) instructTellsUptoCard

/-- THE SECOND FORM's CARD OF 'debenturelaw08.InstructWhole'. -/
def instructWholeUptoCard : Claim7 := { stood := { row := instructWholeUptoRow, standIns := [], harness := (true, "d3accbd58d931b3437247db624562331b05bbf93381982b524c641f88278a674"), looks := false }, kinds := [], alts := [], laidByText := true, laidKinds := [.data, .pinned], laidTests := true, laidLooks := .later }
def InstructWholeUptoCardSaid : Prop := Claim7.holds Tryz.pinned (.plain (OpenSpec.upto instructWholeSpec)) instructWholeUptoCard

/-- THE SECOND FORM's CARD OF 'debenturelaw08.InstructAgain'. -/
def instructAgainUptoCard : Claim7 := { stood := { row := instructAgainUptoRow, standIns := [], harness := (true, "d3accbd58d931b3437247db624562331b05bbf93381982b524c641f88278a674"), looks := false }, kinds := [], alts := [], laidByText := true, laidKinds := [.data, .pinned], laidTests := true, laidLooks := .later }
def InstructAgainUptoCardSaid : Prop := Claim7.holds Tryz.pinned (.plain (OpenSpec.upto instructAgainSpec)) instructAgainUptoCard

/-- THE SECOND FORM's CARD OF 'debenturelaw08.InstructLines'. -/
def instructLinesUptoCard : Claim7 := { stood := { row := instructLinesUptoRow, standIns := [], harness := (true, "d3accbd58d931b3437247db624562331b05bbf93381982b524c641f88278a674"), looks := false }, kinds := [], alts := [], laidByText := true, laidKinds := [.data, .pinned], laidTests := true, laidLooks := .later }
def InstructLinesUptoCardSaid : Prop := Claim7.holds Tryz.pinned (.plain (OpenSpec.upto instructLinesSpec)) instructLinesUptoCard

/-- THE SECOND FORM's CARD OF 'debenturelaw08.InstructDays'. -/
def instructDaysUptoCard : Claim7 := { stood := { row := instructDaysUptoRow, standIns := [], harness := (true, "d3accbd58d931b3437247db624562331b05bbf93381982b524c641f88278a674"), looks := false }, kinds := [], alts := [], laidByText := true, laidKinds := [.data, .pinned], laidTests := true, laidLooks := .later }
def InstructDaysUptoCardSaid : Prop := Claim7.holds Tryz.pinned (.plain (OpenSpec.upto instructDaysSpec)) instructDaysUptoCard
end Rows
end Go.Proofs.YtagfndkfjbbpjaaGreatDoor
