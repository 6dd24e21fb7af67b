/-
  DERIVED. GIVEN WITH THE SEED: THE CARDS: each row of YtdeinhkdphgfaaaGreatDoorRows.lean that lists a variable, with what it lists TIED to the program's text (the seventh form; the later family's looks); each row that meets fmt, with fmt's text TOLD by the authors' own Lean function (tested against real Go, not proved from fmt's source: count such statements apart). THE CARD IS WHAT COUNTS. Prove the row's statement (the work); the ties are given (YtdeinhkdphgfaaaGreatDoorTie.lean); close each card by the builder's one call (the guide's Derived/Test/ToyasCard.lean, 'card_holds'). Laid BY PROGRAM, IN A SANDBOX (cutbox-door.mjs). By AI agents, Wed Nov 11 2026. No macro, syntax, notation, axiom, sorry.
-/
import Derived.Test.YtdeinhkdphgfaaaGreatDoorRows
import GoSem.ClaimSeven
namespace Go.Proofs.YtdeinhkdphgfaaaGreatDoor
namespace Rows

/-- THE TIED CARD OF 'debenturelaw10.TermTells'. -/
def termTellsCard : Claim7 := { stood := { row := termTellsRow, standIns := [], harness := (true, "8bf9ad17ee07b0d21c8b486dec2013fb62a565b7789b2649dd24c0d7160402e4"), looks := false }, kinds := [], alts := [], laidByText := true, laidKinds := [.data, .data, .data, .data, .data, .data, .data, .pinned], laidTests := true, laidLooks := .later }
def TermTellsCardSaid : Prop := Claim7.holds Tryz.pinned (.plain (OpenSpec.ofChange termTellsSpec)) termTellsCard

/-- THE TIED CARD OF 'debenturelaw10.TermParts'. -/
def termPartsCard : Claim7 := { stood := { row := termPartsRow, standIns := [], harness := (true, "8bf9ad17ee07b0d21c8b486dec2013fb62a565b7789b2649dd24c0d7160402e4"), looks := false }, kinds := [], alts := [], laidByText := true, laidKinds := [.data, .data, .data, .data, .data, .data, .data, .pinned], laidTests := true, laidLooks := .later }
def TermPartsCardSaid : Prop := Claim7.holds Tryz.pinned (.plain (OpenSpec.ofChange termPartsSpec)) termPartsCard

/-- THE TIED CARD OF 'debenturelaw10.TermApart'. -/
def termApartCard : Claim7 := { stood := { row := termApartRow, standIns := [], harness := (true, "8bf9ad17ee07b0d21c8b486dec2013fb62a565b7789b2649dd24c0d7160402e4"), looks := false }, kinds := [], alts := [], laidByText := true, laidKinds := [.data, .data, .data, .data, .data, .data, .data, .pinned], laidTests := true, laidLooks := .later }
def TermApartCardSaid : Prop := Claim7.holds Tryz.pinned (.plain (OpenSpec.ofChange termApartSpec)) termApartCard

/-- THE TIED CARD OF 'debenturelaw10.TermNodes'. -/
def termNodesCard : Claim7 := { stood := { row := termNodesRow, standIns := [], harness := (true, "8bf9ad17ee07b0d21c8b486dec2013fb62a565b7789b2649dd24c0d7160402e4"), looks := false }, kinds := [], alts := [], laidByText := true, laidKinds := [.data, .data, .data, .data, .data, .data, .data, .pinned], laidTests := true, laidLooks := .later }
def TermNodesCardSaid : Prop := Claim7.holds Tryz.pinned (.plain (OpenSpec.ofChange termNodesSpec)) termNodesCard

/-- THE TIED CARD OF 'debenturelaw10.TermDeep'. -/
def termDeepCard : Claim7 := { stood := { row := termDeepRow, standIns := [], harness := (true, "8bf9ad17ee07b0d21c8b486dec2013fb62a565b7789b2649dd24c0d7160402e4"), looks := false }, kinds := [], alts := [], laidByText := true, laidKinds := [.data, .data, .data, .data, .data, .data, .data, .pinned], laidTests := true, laidLooks := .later }
def TermDeepCardSaid : Prop := Claim7.holds Tryz.pinned (.plain (OpenSpec.ofChange termDeepSpec)) termDeepCard

/-- THE SECOND FORM's CARD OF 'debenturelaw10.TermTells'. -/
def termTellsUptoCard : Claim7 := { stood := { row := termTellsUptoRow, standIns := [], harness := (true, "8bf9ad17ee07b0d21c8b486dec2013fb62a565b7789b2649dd24c0d7160402e4"), looks := false }, kinds := [], alts := [], laidByText := true, laidKinds := [.data, .data, .data, .data, .data, .data, .data, .pinned], laidTests := true, laidLooks := .later }
def TermTellsUptoCardSaid : Prop := Claim7.holds Tryz.pinned (.plain (OpenSpec.upto termTellsSpec)) termTellsUptoCard

/-- THE SECOND FORM's CARD OF 'debenturelaw10.TermParts'. -/
def termPartsUptoCard : Claim7 := { stood := { row := termPartsUptoRow, standIns := [], harness := (true, "8bf9ad17ee07b0d21c8b486dec2013fb62a565b7789b2649dd24c0d7160402e4"), looks := false }, kinds := [], alts := [], laidByText := true, laidKinds := [.data, .data, .data, .data, .data, .data, .data, .pinned], laidTests := true, laidLooks := .later }
def TermPartsUptoCardSaid : Prop := Claim7.holds Tryz.pinned (.plain (OpenSpec.upto termPartsSpec)) termPartsUptoCard

/-- THE SECOND FORM's CARD OF 'debenturelaw10.TermApart'. -/
def termApartUptoCard : Claim7 := { stood := { row := termApartUptoRow, standIns := [], harness := (true, "8bf9ad17ee07b0d21c8b486dec2013fb62a565b7789b2649dd24c0d7160402e4"), looks := false }, kinds := [], alts := [], laidByText := true, laidKinds := [.data, .data, .data, .data, .data, .data, .data, .pinned], laidTests := true, laidLooks := .later }
def TermApartUptoCardSaid : Prop := Claim7.holds Tryz.pinned (.plain (OpenSpec.upto termApartSpec)) termApartUptoCard

/-- THE SECOND FORM's CARD OF 'debenturelaw10.TermNodes'. -/
def termNodesUptoCard : Claim7 := { stood := { row := termNodesUptoRow, standIns := [], harness := (true, "8bf9ad17ee07b0d21c8b486dec2013fb62a565b7789b2649dd24c0d7160402e4"), looks := false }, kinds := [], alts := [], laidByText := true, laidKinds := [.data, .data, .data, .data, .data, .data, .data, .pinned], laidTests := true, laidLooks := .later }
def TermNodesUptoCardSaid : Prop := Claim7.holds Tryz.pinned (.plain (OpenSpec.upto termNodesSpec)) termNodesUptoCard

/-- THE SECOND FORM's CARD OF 'debenturelaw10.TermDeep'. -/
def termDeepUptoCard : Claim7 := { stood := { row := termDeepUptoRow, standIns := [], harness := (true, "8bf9ad17ee07b0d21c8b486dec2013fb62a565b7789b2649dd24c0d7160402e4"), looks := false }, kinds := [], alts := [], laidByText := true, laidKinds := [.data, .data, .data, .data, .data, .data, .data, .pinned], laidTests := true, laidLooks := .later }
def TermDeepUptoCardSaid : Prop := Claim7.holds Tryz.pinned (.plain (OpenSpec.upto termDeepSpec)) termDeepUptoCard
end Rows
end Go.Proofs.YtdeinhkdphgfaaaGreatDoor
