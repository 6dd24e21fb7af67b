/-
  DERIVED. GIVEN WITH THE SEED: THE CARDS: each row of YtcckifhloabpkaaDoorRows.lean that lists a variable, with what it lists TIED to the program's text (the seventh form; the later family's looks); each row that meets fmt, with fmt's text TOLD by the authors' own Lean function (tested against real Go, not proved from fmt's source: count such statements apart). THE CARD IS WHAT COUNTS. Prove the row's statement (the work); the ties are given (YtcckifhloabpkaaDoorTie.lean); close each card by the builder's one call (the guide's Derived/Test/ToyasCard.lean, 'card_holds'). Laid BY PROGRAM, IN A SANDBOX (cutbox-door.mjs). By AI agents, Wed Nov 11 2026. No macro, syntax, notation, axiom, sorry.
-/
import Derived.Test.YtcckifhloabpkaaDoorRows
import GoSem.ClaimSeven
namespace Go.Proofs.YtcckifhloabpkaaDoor
namespace Rows

/-- THE TIED CARD OF 'debenturelaw09.WordLexes'. -/
def wordLexesCard : Claim7 := { stood := { row := wordLexesRow, standIns := [], harness := (true, "2a79b76544a4dee67c2029599147b4db69414b36ce4ce48c8af450a0d11c4678"), looks := false }, kinds := [], alts := [], laidByText := true, laidKinds := [.data], laidTests := true, laidLooks := .later }
def WordLexesCardSaid : Prop := Claim7.holds Tryd.pinned (.plain (OpenSpec.ofChange wordLexesSpec)) wordLexesCard

/-- THE TIED CARD OF 'debenturelaw09.WordBack'. -/
def wordBackCard : Claim7 := { stood := { row := wordBackRow, standIns := [], harness := (true, "2a79b76544a4dee67c2029599147b4db69414b36ce4ce48c8af450a0d11c4678"), looks := false }, kinds := [], alts := [], laidByText := true, laidKinds := [.data], laidTests := true, laidLooks := .later }
def WordBackCardSaid : Prop := Claim7.holds Tryd.pinned (.plain (OpenSpec.ofChange wordBackSpec)) wordBackCard

/-- THE TIED CARD OF 'debenturelaw09.WordPlaces'. -/
def wordPlacesCard : Claim7 := { stood := { row := wordPlacesRow, standIns := [], harness := (true, "2a79b76544a4dee67c2029599147b4db69414b36ce4ce48c8af450a0d11c4678"), looks := false }, kinds := [], alts := [], laidByText := true, laidKinds := [.data], laidTests := true, laidLooks := .later }
def WordPlacesCardSaid : Prop := Claim7.holds Tryd.pinned (.plain (OpenSpec.ofChange wordPlacesSpec)) wordPlacesCard

/-- THE TIED CARD OF 'debenturelaw09.WordJoins'. -/
def wordJoinsCard : Claim7 := { stood := { row := wordJoinsRow, standIns := [], harness := (true, "2a79b76544a4dee67c2029599147b4db69414b36ce4ce48c8af450a0d11c4678"), looks := false }, kinds := [], alts := [], laidByText := true, laidKinds := [.data], laidTests := true, laidLooks := .later }
def WordJoinsCardSaid : Prop := Claim7.holds Tryd.pinned (.plain (OpenSpec.ofChange wordJoinsSpec)) wordJoinsCard

/-- THE TIED CARD OF 'debenturelaw09.WordLong'. -/
def wordLongCard : Claim7 := { stood := { row := wordLongRow, standIns := [], harness := (true, "2a79b76544a4dee67c2029599147b4db69414b36ce4ce48c8af450a0d11c4678"), looks := false }, kinds := [], alts := [], laidByText := true, laidKinds := [.data], laidTests := true, laidLooks := .later }
def WordLongCardSaid : Prop := Claim7.holds Tryd.pinned (.plain (OpenSpec.ofChange wordLongSpec)) wordLongCard

/-- THE SECOND FORM's CARD OF 'debenturelaw09.WordLexes'. -/
def wordLexesUptoCard : Claim7 := { stood := { row := wordLexesUptoRow, standIns := [], harness := (true, "2a79b76544a4dee67c2029599147b4db69414b36ce4ce48c8af450a0d11c4678"), looks := false }, kinds := [], alts := [], laidByText := true, laidKinds := [.data], laidTests := true, laidLooks := .later }
def WordLexesUptoCardSaid : Prop := Claim7.holds Tryd.pinned (.plain (OpenSpec.upto wordLexesSpec)) wordLexesUptoCard

/-- THE SECOND FORM's CARD OF 'debenturelaw09.WordBack'. -/
def wordBackUptoCard : Claim7 := { stood := { row := wordBackUptoRow, standIns := [], harness := (true, "2a79b76544a4dee67c2029599147b4db69414b36ce4ce48c8af450a0d11c4678"), looks := false }, kinds := [], alts := [], laidByText := true, laidKinds := [.data], laidTests := true, laidLooks := .later }
def WordBackUptoCardSaid : Prop := Claim7.holds Tryd.pinned (.plain (OpenSpec.upto wordBackSpec)) wordBackUptoCard

/-- THE SECOND FORM's CARD OF 'debenturelaw09.WordPlaces'. -/
def wordPlacesUptoCard : Claim7 := { stood := { row := wordPlacesUptoRow, standIns := [], harness := (true, "2a79b76544a4dee67c2029599147b4db69414b36ce4ce48c8af450a0d11c4678"), looks := false }, kinds := [], alts := [], laidByText := true, laidKinds := [.data], laidTests := true, laidLooks := .later }
def WordPlacesUptoCardSaid : Prop := Claim7.holds Tryd.pinned (.plain (OpenSpec.upto wordPlacesSpec)) wordPlacesUptoCard

/-- THE SECOND FORM's CARD OF 'debenturelaw09.WordJoins'. -/
def wordJoinsUptoCard : Claim7 := { stood := { row := wordJoinsUptoRow, standIns := [], harness := (true, "2a79b76544a4dee67c2029599147b4db69414b36ce4ce48c8af450a0d11c4678"), looks := false }, kinds := [], alts := [], laidByText := true, laidKinds := [.data], laidTests := true, laidLooks := .later }
def WordJoinsUptoCardSaid : Prop := Claim7.holds Tryd.pinned (.plain (OpenSpec.upto wordJoinsSpec)) wordJoinsUptoCard

/-- THE SECOND FORM's CARD OF 'debenturelaw09.WordLong'. -/
def wordLongUptoCard : Claim7 := { stood := { row := wordLongUptoRow, standIns := [], harness := (true, "2a79b76544a4dee67c2029599147b4db69414b36ce4ce48c8af450a0d11c4678"), looks := false }, kinds := [], alts := [], laidByText := true, laidKinds := [.data], laidTests := true, laidLooks := .later }
def WordLongUptoCardSaid : Prop := Claim7.holds Tryd.pinned (.plain (OpenSpec.upto wordLongSpec)) wordLongUptoCard
end Rows
end Go.Proofs.YtcckifhloabpkaaDoor
