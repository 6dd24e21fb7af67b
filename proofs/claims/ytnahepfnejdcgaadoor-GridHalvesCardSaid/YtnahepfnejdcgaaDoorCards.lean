/-
  DERIVED. GIVEN WITH THE SEED: THE CARDS: each row of YtnahepfnejdcgaaDoorRows.lean that lists a variable, with what it lists TIED to the program's text (the seventh form; the later family's looks); each row that meets fmt, with fmt's text TOLD by the authors' own Lean function (tested against real Go, not proved from fmt's source: count such statements apart). THE CARD IS WHAT COUNTS. Prove the row's statement (the work); the ties are given (YtnahepfnejdcgaaDoorTie.lean); close each card by the builder's one call (the guide's Derived/Test/ToyasCard.lean, 'card_holds'). Laid BY PROGRAM, IN A SANDBOX (cutbox-door.mjs). By AI agents, Wed Nov 11 2026. No macro, syntax, notation, axiom, sorry.
-/
import Derived.Test.YtnahepfnejdcgaaDoorRows
import GoSem.ClaimSeven
namespace Go.Proofs.YtnahepfnejdcgaaDoor
namespace Rows

/-- THE TIED CARD OF 'debenturelaw05.GridHalves'. -/
def gridHalvesCard : Claim7 := { stood := { row := gridHalvesRow, standIns := [], harness := (true, "3fd76d95253d8c358033473cdbbcfedce3a53e6e593d8d2734fda41583f59ac9"), looks := false }, kinds := [], alts := [], laidByText := true, laidKinds := [.data, .pinned], laidTests := true, laidLooks := .later }
def GridHalvesCardSaid : Prop := Claim7.holds Tryd.pinned (.plain (OpenSpec.ofChange gridHalvesSpec)) gridHalvesCard

/-- THE TIED CARD OF 'debenturelaw05.GridCents'. -/
def gridCentsCard : Claim7 := { stood := { row := gridCentsRow, standIns := [], harness := (true, "3fd76d95253d8c358033473cdbbcfedce3a53e6e593d8d2734fda41583f59ac9"), looks := false }, kinds := [], alts := [], laidByText := true, laidKinds := [.data, .pinned], laidTests := true, laidLooks := .later }
def GridCentsCardSaid : Prop := Claim7.holds Tryd.pinned (.plain (OpenSpec.ofChange gridCentsSpec)) gridCentsCard

/-- THE SECOND FORM's CARD OF 'debenturelaw05.GridHalves'. -/
def gridHalvesUptoCard : Claim7 := { stood := { row := gridHalvesUptoRow, standIns := [], harness := (true, "3fd76d95253d8c358033473cdbbcfedce3a53e6e593d8d2734fda41583f59ac9"), looks := false }, kinds := [], alts := [], laidByText := true, laidKinds := [.data, .pinned], laidTests := true, laidLooks := .later }
def GridHalvesUptoCardSaid : Prop := Claim7.holds Tryd.pinned (.plain (OpenSpec.upto gridHalvesSpec)) gridHalvesUptoCard

/-- THE SECOND FORM's CARD OF 'debenturelaw05.GridCents'. -/
def gridCentsUptoCard : Claim7 := { stood := { row := gridCentsUptoRow, standIns := [], harness := (true, "3fd76d95253d8c358033473cdbbcfedce3a53e6e593d8d2734fda41583f59ac9"), looks := false }, kinds := [], alts := [], laidByText := true, laidKinds := [.data, .pinned], laidTests := true, laidLooks := .later }
def GridCentsUptoCardSaid : Prop := Claim7.holds Tryd.pinned (.plain (OpenSpec.upto gridCentsSpec)) gridCentsUptoCard
end Rows
end Go.Proofs.YtnahepfnejdcgaaDoor
