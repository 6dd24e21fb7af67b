/-
  DERIVED. GIVEN WITH THE SEED: THE CARDS: each row of YtghioekjghmdaaaGreatDoorRows.lean that lists a variable, with what it lists TIED to the program's text (the seventh form; the later family's looks); each row that meets fmt, with fmt's text TOLD by the authors' own Lean function (tested against real Go, not proved from fmt's source: count such statements apart). THE CARD IS WHAT COUNTS. Prove the row's statement (the work); the ties are given (YtghioekjghmdaaaGreatDoorTie.lean); close each card by the builder's one call (the guide's Derived/Test/ToyasCard.lean, 'card_holds'). Laid BY PROGRAM, IN A SANDBOX (cutbox-door.mjs). By AI agents, Wed Nov 11 2026. No macro, syntax, notation, axiom, sorry.
-/
import Derived.Test.YtghioekjghmdaaaGreatDoorRows
import GoSem.ClaimSeven
namespace Go.Proofs.YtghioekjghmdaaaGreatDoor
namespace Rows

/-- THE TIED CARD OF 'debenturelaw13.EvalTells'. -/
def evalTellsCard : Claim7 := { stood := { row := evalTellsRow, standIns := [], harness := (true, "021088e2c3b945344cbec436a3710a9e63ee51e5db0dc546dee02e00eb913bcc"), looks := false }, kinds := [], alts := [], laidByText := true, laidKinds := [.data, .data, .data, .data, .data, .data, .data, .pinned], laidTests := true, laidLooks := .later }
def EvalTellsCardSaid : Prop := Claim7.holds Tryz.pinned (.plain (OpenSpec.ofChange evalTellsSpec)) evalTellsCard

/-- THE TIED CARD OF 'debenturelaw13.EvalNeeds'. -/
def evalNeedsCard : Claim7 := { stood := { row := evalNeedsRow, standIns := [], harness := (true, "021088e2c3b945344cbec436a3710a9e63ee51e5db0dc546dee02e00eb913bcc"), looks := false }, kinds := [], alts := [], laidByText := true, laidKinds := [.data, .data, .data, .data, .data, .data, .data, .pinned], laidTests := true, laidLooks := .later }
def EvalNeedsCardSaid : Prop := Claim7.holds Tryz.pinned (.plain (OpenSpec.ofChange evalNeedsSpec)) evalNeedsCard

/-- THE TIED CARD OF 'debenturelaw13.EvalParts'. -/
def evalPartsCard : Claim7 := { stood := { row := evalPartsRow, standIns := [], harness := (true, "021088e2c3b945344cbec436a3710a9e63ee51e5db0dc546dee02e00eb913bcc"), looks := false }, kinds := [], alts := [], laidByText := true, laidKinds := [.data, .data, .data, .data, .data, .data, .data, .pinned], laidTests := true, laidLooks := .later }
def EvalPartsCardSaid : Prop := Claim7.holds Tryz.pinned (.plain (OpenSpec.ofChange evalPartsSpec)) evalPartsCard

/-- THE TIED CARD OF 'debenturelaw13.EvalSpans'. -/
def evalSpansCard : Claim7 := { stood := { row := evalSpansRow, standIns := [], harness := (true, "021088e2c3b945344cbec436a3710a9e63ee51e5db0dc546dee02e00eb913bcc"), looks := false }, kinds := [], alts := [], laidByText := true, laidKinds := [.data, .data, .data, .data, .data, .data, .data, .pinned], laidTests := true, laidLooks := .later }
def EvalSpansCardSaid : Prop := Claim7.holds Tryz.pinned (.plain (OpenSpec.ofChange evalSpansSpec)) evalSpansCard

/-- THE TIED CARD OF 'debenturelaw13.EvalNumbers'. -/
def evalNumbersCard : Claim7 := { stood := { row := evalNumbersRow, standIns := [], harness := (true, "021088e2c3b945344cbec436a3710a9e63ee51e5db0dc546dee02e00eb913bcc"), looks := false }, kinds := [], alts := [], laidByText := true, laidKinds := [.data, .data, .data, .data, .data, .data, .data, .pinned], laidTests := true, laidLooks := .later }
def EvalNumbersCardSaid : Prop := Claim7.holds Tryz.pinned (.plain (OpenSpec.ofChange evalNumbersSpec)) evalNumbersCard

/-- THE TIED CARD OF 'debenturelaw13.EvalChoice'. -/
def evalChoiceCard : Claim7 := { stood := { row := evalChoiceRow, standIns := [], harness := (true, "021088e2c3b945344cbec436a3710a9e63ee51e5db0dc546dee02e00eb913bcc"), looks := false }, kinds := [], alts := [], laidByText := true, laidKinds := [.data, .data, .data, .data, .data, .data, .data, .pinned], laidTests := true, laidLooks := .later }
def EvalChoiceCardSaid : Prop := Claim7.holds Tryz.pinned (.plain (OpenSpec.ofChange evalChoiceSpec)) evalChoiceCard

/-- THE SECOND FORM's CARD OF 'debenturelaw13.EvalTells'. -/
def evalTellsUptoCard : Claim7 := { stood := { row := evalTellsUptoRow, standIns := [], harness := (true, "021088e2c3b945344cbec436a3710a9e63ee51e5db0dc546dee02e00eb913bcc"), looks := false }, kinds := [], alts := [], laidByText := true, laidKinds := [.data, .data, .data, .data, .data, .data, .data, .pinned], laidTests := true, laidLooks := .later }
def EvalTellsUptoCardSaid : Prop := Claim7.holds Tryz.pinned (.plain (OpenSpec.upto evalTellsSpec)) evalTellsUptoCard

/-- THE SECOND FORM's CARD OF 'debenturelaw13.EvalNeeds'. -/
def evalNeedsUptoCard : Claim7 := { stood := { row := evalNeedsUptoRow, standIns := [], harness := (true, "021088e2c3b945344cbec436a3710a9e63ee51e5db0dc546dee02e00eb913bcc"), looks := false }, kinds := [], alts := [], laidByText := true, laidKinds := [.data, .data, .data, .data, .data, .data, .data, .pinned], laidTests := true, laidLooks := .later }
def EvalNeedsUptoCardSaid : Prop := Claim7.holds Tryz.pinned (.plain (OpenSpec.upto evalNeedsSpec)) evalNeedsUptoCard

/-- THE SECOND FORM's CARD OF 'debenturelaw13.EvalParts'. -/
def evalPartsUptoCard : Claim7 := { stood := { row := evalPartsUptoRow, standIns := [], harness := (true, "021088e2c3b945344cbec436a3710a9e63ee51e5db0dc546dee02e00eb913bcc"), looks := false }, kinds := [], alts := [], laidByText := true, laidKinds := [.data, .data, .data, .data, .data, .data, .data, .pinned], laidTests := true, laidLooks := .later }
def EvalPartsUptoCardSaid : Prop := Claim7.holds Tryz.pinned (.plain (OpenSpec.upto evalPartsSpec)) evalPartsUptoCard

/-- THE SECOND FORM's CARD OF 'debenturelaw13.EvalSpans'. -/
def evalSpansUptoCard : Claim7 := { stood := { row := evalSpansUptoRow, standIns := [], harness := (true, "021088e2c3b945344cbec436a3710a9e63ee51e5db0dc546dee02e00eb913bcc"), looks := false }, kinds := [], alts := [], laidByText := true, laidKinds := [.data, .data, .data, .data, .data, .data, .data, .pinned], laidTests := true, laidLooks := .later }
def EvalSpansUptoCardSaid : Prop := Claim7.holds Tryz.pinned (.plain (OpenSpec.upto evalSpansSpec)) evalSpansUptoCard

/-- THE SECOND FORM's CARD OF 'debenturelaw13.EvalNumbers'. -/
def evalNumbersUptoCard : Claim7 := { stood := { row := evalNumbersUptoRow, standIns := [], harness := (true, "021088e2c3b945344cbec436a3710a9e63ee51e5db0dc546dee02e00eb913bcc"), looks := false }, kinds := [], alts := [], laidByText := true, laidKinds := [.data, .data, .data, .data, .data, .data, .data, .pinned], laidTests := true, laidLooks := .later }
def EvalNumbersUptoCardSaid : Prop := Claim7.holds Tryz.pinned (.plain (OpenSpec.upto evalNumbersSpec)) evalNumbersUptoCard

/-- THE SECOND FORM's CARD OF 'debenturelaw13.EvalChoice'. -/
def evalChoiceUptoCard : Claim7 := { stood := { row := evalChoiceUptoRow, standIns := [], harness := (true, "021088e2c3b945344cbec436a3710a9e63ee51e5db0dc546dee02e00eb913bcc"), looks := false }, kinds := [], alts := [], laidByText := true, laidKinds := [.data, .data, .data, .data, .data, .data, .data, .pinned], laidTests := true, laidLooks := .later }
def EvalChoiceUptoCardSaid : Prop := Claim7.holds Tryz.pinned (.plain (OpenSpec.upto evalChoiceSpec)) evalChoiceUptoCard
end Rows
end Go.Proofs.YtghioekjghmdaaaGreatDoor
