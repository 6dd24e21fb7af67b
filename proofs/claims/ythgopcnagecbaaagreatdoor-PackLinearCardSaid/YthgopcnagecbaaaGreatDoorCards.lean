/-
  DERIVED. GIVEN WITH THE SEED: THE CARDS: each row of YthgopcnagecbaaaGreatDoorRows.lean that lists a variable, with what it lists TIED to the program's text (the seventh form; the later family's looks); each row that meets fmt, with fmt's text TOLD by the authors' own Lean function (tested against real Go, not proved from fmt's source: count such statements apart). THE CARD IS WHAT COUNTS. Prove the row's statement (the work); the ties are given (YthgopcnagecbaaaGreatDoorTie.lean); close each card by the builder's one call (the guide's Derived/Test/ToyasCard.lean, 'card_holds'). Laid BY PROGRAM, IN A SANDBOX (cutbox-door.mjs). By AI agents, Wed Nov 11 2026. No macro, syntax, notation, axiom, sorry.
-/
import Derived.Test.YthgopcnagecbaaaGreatDoorRows
import GoSem.ClaimSeven
namespace Go.Proofs.YthgopcnagecbaaaGreatDoor
namespace Rows

/-- THE TIED CARD OF 'debenturelaw16.PackTells'. -/
def packTellsCard : Claim7 := { stood := { row := packTellsRow, standIns := [], harness := (true, "26f511906aeeeb27e4671c9b507ed6e7f5a0338fbb1daa0e63532d9e0d957c5f"), looks := false }, kinds := [], alts := [], laidByText := true, laidKinds := [.data, .data, .data, .data, .data, .pinned], laidTests := true, laidLooks := .later }
def PackTellsCardSaid : Prop := Claim7.holds Tryz.pinned (.plain (OpenSpec.ofChange packTellsSpec)) packTellsCard

/-- THE TIED CARD OF 'debenturelaw16.PackLinear'. -/
def packLinearCard : Claim7 := { stood := { row := packLinearRow, standIns := [], harness := (true, "26f511906aeeeb27e4671c9b507ed6e7f5a0338fbb1daa0e63532d9e0d957c5f"), looks := false }, kinds := [], alts := [], laidByText := true, laidKinds := [.data, .data, .data, .data, .data, .pinned], laidTests := true, laidLooks := .later }
def PackLinearCardSaid : Prop := Claim7.holds Tryz.pinned (.plain (OpenSpec.ofChange packLinearSpec)) packLinearCard

/-- THE TIED CARD OF 'debenturelaw16.PackMay'. -/
def packMayCard : Claim7 := { stood := { row := packMayRow, standIns := [], harness := (true, "26f511906aeeeb27e4671c9b507ed6e7f5a0338fbb1daa0e63532d9e0d957c5f"), looks := false }, kinds := [], alts := [], laidByText := true, laidKinds := [.data, .data, .data, .data, .data, .pinned], laidTests := true, laidLooks := .later }
def PackMayCardSaid : Prop := Claim7.holds Tryz.pinned (.plain (OpenSpec.ofChange packMaySpec)) packMayCard

/-- THE TIED CARD OF 'debenturelaw16.PackSplits'. -/
def packSplitsCard : Claim7 := { stood := { row := packSplitsRow, standIns := [], harness := (true, "26f511906aeeeb27e4671c9b507ed6e7f5a0338fbb1daa0e63532d9e0d957c5f"), looks := false }, kinds := [], alts := [], laidByText := true, laidKinds := [.data, .data, .data, .data, .data, .pinned], laidTests := true, laidLooks := .later }
def PackSplitsCardSaid : Prop := Claim7.holds Tryz.pinned (.plain (OpenSpec.ofChange packSplitsSpec)) packSplitsCard

/-- THE TIED CARD OF 'debenturelaw16.PackParts'. -/
def packPartsCard : Claim7 := { stood := { row := packPartsRow, standIns := [], harness := (true, "26f511906aeeeb27e4671c9b507ed6e7f5a0338fbb1daa0e63532d9e0d957c5f"), looks := false }, kinds := [], alts := [], laidByText := true, laidKinds := [.data, .data, .data, .data, .data, .pinned], laidTests := true, laidLooks := .later }
def PackPartsCardSaid : Prop := Claim7.holds Tryz.pinned (.plain (OpenSpec.ofChange packPartsSpec)) packPartsCard

/-- THE SECOND FORM's CARD OF 'debenturelaw16.PackTells'. -/
def packTellsUptoCard : Claim7 := { stood := { row := packTellsUptoRow, standIns := [], harness := (true, "26f511906aeeeb27e4671c9b507ed6e7f5a0338fbb1daa0e63532d9e0d957c5f"), looks := false }, kinds := [], alts := [], laidByText := true, laidKinds := [.data, .data, .data, .data, .data, .pinned], laidTests := true, laidLooks := .later }
def PackTellsUptoCardSaid : Prop := Claim7.holds Tryz.pinned (.plain (OpenSpec.upto packTellsSpec)) packTellsUptoCard

/-- THE SECOND FORM's CARD OF 'debenturelaw16.PackLinear'. -/
def packLinearUptoCard : Claim7 := { stood := { row := packLinearUptoRow, standIns := [], harness := (true, "26f511906aeeeb27e4671c9b507ed6e7f5a0338fbb1daa0e63532d9e0d957c5f"), looks := false }, kinds := [], alts := [], laidByText := true, laidKinds := [.data, .data, .data, .data, .data, .pinned], laidTests := true, laidLooks := .later }
def PackLinearUptoCardSaid : Prop := Claim7.holds Tryz.pinned (.plain (OpenSpec.upto packLinearSpec)) packLinearUptoCard

/-- THE SECOND FORM's CARD OF 'debenturelaw16.PackMay'. -/
def packMayUptoCard : Claim7 := { stood := { row := packMayUptoRow, standIns := [], harness := (true, "26f511906aeeeb27e4671c9b507ed6e7f5a0338fbb1daa0e63532d9e0d957c5f"), looks := false }, kinds := [], alts := [], laidByText := true, laidKinds := [.data, .data, .data, .data, .data, .pinned], laidTests := true, laidLooks := .later }
def PackMayUptoCardSaid : Prop := Claim7.holds Tryz.pinned (.plain (OpenSpec.upto packMaySpec)) packMayUptoCard

/-- THE SECOND FORM's CARD OF 'debenturelaw16.PackSplits'. -/
def packSplitsUptoCard : Claim7 := { stood := { row := packSplitsUptoRow, standIns := [], harness := (true, "26f511906aeeeb27e4671c9b507ed6e7f5a0338fbb1daa0e63532d9e0d957c5f"), looks := false }, kinds := [], alts := [], laidByText := true, laidKinds := [.data, .data, .data, .data, .data, .pinned], laidTests := true, laidLooks := .later }
def PackSplitsUptoCardSaid : Prop := Claim7.holds Tryz.pinned (.plain (OpenSpec.upto packSplitsSpec)) packSplitsUptoCard

/-- THE SECOND FORM's CARD OF 'debenturelaw16.PackParts'. -/
def packPartsUptoCard : Claim7 := { stood := { row := packPartsUptoRow, standIns := [], harness := (true, "26f511906aeeeb27e4671c9b507ed6e7f5a0338fbb1daa0e63532d9e0d957c5f"), looks := false }, kinds := [], alts := [], laidByText := true, laidKinds := [.data, .data, .data, .data, .data, .pinned], laidTests := true, laidLooks := .later }
def PackPartsUptoCardSaid : Prop := Claim7.holds Tryz.pinned (.plain (OpenSpec.upto packPartsSpec)) packPartsUptoCard
end Rows
end Go.Proofs.YthgopcnagecbaaaGreatDoor
