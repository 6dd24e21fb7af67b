/-
  DERIVED. GIVEN WITH THE SEED: THE CARDS: each row of YtmllklfjngapiaaDoorRows.lean that lists a variable, with what it lists TIED to the program's text (the seventh form; the later family's looks); each row that meets fmt, with fmt's text TOLD by the authors' own Lean function (tested against real Go, not proved from fmt's source: count such statements apart). THE CARD IS WHAT COUNTS. Prove the row's statement (the work); the ties are given (YtmllklfjngapiaaDoorTie.lean); close each card by the builder's one call (the guide's Derived/Test/ToyasCard.lean, 'card_holds'). Laid BY PROGRAM, IN A SANDBOX (cutbox-door.mjs). By AI agents, Wed Nov 11 2026. No macro, syntax, notation, axiom, sorry.
-/
import Derived.Test.YtmllklfjngapiaaDoorRows
import GoSem.ClaimSeven
namespace Go.Proofs.YtmllklfjngapiaaDoor
namespace Rows

/-- THE TIED CARD OF 'debenturelaw12.FixingTells'. -/
def fixingTellsCard : Claim7 := { stood := { row := fixingTellsRow, standIns := [], harness := (true, "a866cce9bda0f415e4c1dea08e44b520a777c79c85a990f692ce9238d4b02407"), looks := false }, kinds := [], alts := [], laidByText := true, laidKinds := [.data, .pinned], laidTests := true, laidLooks := .later }
def FixingTellsCardSaid : Prop := Claim7.holds Tryd.pinned (.plain (OpenSpec.ofChange fixingTellsSpec)) fixingTellsCard

/-- THE TIED CARD OF 'debenturelaw12.FixingStays'. -/
def fixingStaysCard : Claim7 := { stood := { row := fixingStaysRow, standIns := [], harness := (true, "a866cce9bda0f415e4c1dea08e44b520a777c79c85a990f692ce9238d4b02407"), looks := false }, kinds := [], alts := [], laidByText := true, laidKinds := [.data, .pinned], laidTests := true, laidLooks := .later }
def FixingStaysCardSaid : Prop := Claim7.holds Tryd.pinned (.plain (OpenSpec.ofChange fixingStaysSpec)) fixingStaysCard

/-- THE TIED CARD OF 'debenturelaw12.FixingLast'. -/
def fixingLastCard : Claim7 := { stood := { row := fixingLastRow, standIns := [], harness := (true, "a866cce9bda0f415e4c1dea08e44b520a777c79c85a990f692ce9238d4b02407"), looks := false }, kinds := [], alts := [], laidByText := true, laidKinds := [.data, .pinned], laidTests := true, laidLooks := .later }
def FixingLastCardSaid : Prop := Claim7.holds Tryd.pinned (.plain (OpenSpec.ofChange fixingLastSpec)) fixingLastCard

/-- THE TIED CARD OF 'debenturelaw12.FixingMany'. -/
def fixingManyCard : Claim7 := { stood := { row := fixingManyRow, standIns := [], harness := (true, "a866cce9bda0f415e4c1dea08e44b520a777c79c85a990f692ce9238d4b02407"), looks := false }, kinds := [], alts := [], laidByText := true, laidKinds := [.data, .pinned], laidTests := true, laidLooks := .later }
def FixingManyCardSaid : Prop := Claim7.holds Tryd.pinned (.plain (OpenSpec.ofChange fixingManySpec)) fixingManyCard

/-- THE SECOND FORM's CARD OF 'debenturelaw12.FixingTells'. -/
def fixingTellsUptoCard : Claim7 := { stood := { row := fixingTellsUptoRow, standIns := [], harness := (true, "a866cce9bda0f415e4c1dea08e44b520a777c79c85a990f692ce9238d4b02407"), looks := false }, kinds := [], alts := [], laidByText := true, laidKinds := [.data, .pinned], laidTests := true, laidLooks := .later }
def FixingTellsUptoCardSaid : Prop := Claim7.holds Tryd.pinned (.plain (OpenSpec.upto fixingTellsSpec)) fixingTellsUptoCard

/-- THE SECOND FORM's CARD OF 'debenturelaw12.FixingStays'. -/
def fixingStaysUptoCard : Claim7 := { stood := { row := fixingStaysUptoRow, standIns := [], harness := (true, "a866cce9bda0f415e4c1dea08e44b520a777c79c85a990f692ce9238d4b02407"), looks := false }, kinds := [], alts := [], laidByText := true, laidKinds := [.data, .pinned], laidTests := true, laidLooks := .later }
def FixingStaysUptoCardSaid : Prop := Claim7.holds Tryd.pinned (.plain (OpenSpec.upto fixingStaysSpec)) fixingStaysUptoCard

/-- THE SECOND FORM's CARD OF 'debenturelaw12.FixingLast'. -/
def fixingLastUptoCard : Claim7 := { stood := { row := fixingLastUptoRow, standIns := [], harness := (true, "a866cce9bda0f415e4c1dea08e44b520a777c79c85a990f692ce9238d4b02407"), looks := false }, kinds := [], alts := [], laidByText := true, laidKinds := [.data, .pinned], laidTests := true, laidLooks := .later }
def FixingLastUptoCardSaid : Prop := Claim7.holds Tryd.pinned (.plain (OpenSpec.upto fixingLastSpec)) fixingLastUptoCard

/-- THE SECOND FORM's CARD OF 'debenturelaw12.FixingMany'. -/
def fixingManyUptoCard : Claim7 := { stood := { row := fixingManyUptoRow, standIns := [], harness := (true, "a866cce9bda0f415e4c1dea08e44b520a777c79c85a990f692ce9238d4b02407"), looks := false }, kinds := [], alts := [], laidByText := true, laidKinds := [.data, .pinned], laidTests := true, laidLooks := .later }
def FixingManyUptoCardSaid : Prop := Claim7.holds Tryd.pinned (.plain (OpenSpec.upto fixingManySpec)) fixingManyUptoCard
end Rows
end Go.Proofs.YtmllklfjngapiaaDoor
