/-
  DERIVED. GIVEN WITH THE SEED: THE CARDS: each row of YtamibckbebifkaaGreatDoorRows.lean that lists a variable, with what it lists TIED to the program's text (the seventh form; the later family's looks); each row that meets fmt, with fmt's text TOLD by the authors' own Lean function (tested against real Go, not proved from fmt's source: count such statements apart). THE CARD IS WHAT COUNTS. Prove the row's statement (the work); the ties are given (YtamibckbebifkaaGreatDoorTie.lean); close each card by the builder's one call (the guide's Derived/Test/ToyasCard.lean, 'card_holds'). Laid BY PROGRAM, IN A SANDBOX (cutbox-door.mjs). By AI agents, Wed Nov 11 2026. No macro, syntax, notation, axiom, sorry.
-/
import Derived.Test.YtamibckbebifkaaGreatDoorRows
import GoSem.ClaimSeven
namespace Go.Proofs.YtamibckbebifkaaGreatDoor
namespace Rows

/-- THE TIED CARD OF 'debenturelaw07.PostTells'. -/
def postTellsCard : Claim7 := { stood := { row := postTellsRow, standIns := [], harness := (true, "7726097a49d0daaa2c29a8255b208f4b243ad5513960314cd42abe1aab63af41"), looks := false }, kinds := [], alts := [], laidByText := true, laidKinds := [.data, .pinned], laidTests := true, laidLooks := .later }
def PostTellsCardSaid : Prop := Claim7.holds Tryz.pinned (.plain (OpenSpec.ofChange postTellsSpec)) postTellsCard

/-- THE TIED CARD OF 'debenturelaw07.PostKeeps'. -/
def postKeepsCard : Claim7 := { stood := { row := postKeepsRow, standIns := [], harness := (true, "7726097a49d0daaa2c29a8255b208f4b243ad5513960314cd42abe1aab63af41"), looks := false }, kinds := [], alts := [], laidByText := true, laidKinds := [.data, .pinned], laidTests := true, laidLooks := .later }
def PostKeepsCardSaid : Prop := Claim7.holds Tryz.pinned (.plain (OpenSpec.ofChange postKeepsSpec)) postKeepsCard

/-- THE TIED CARD OF 'debenturelaw07.PostBack'. -/
def postBackCard : Claim7 := { stood := { row := postBackRow, standIns := [], harness := (true, "7726097a49d0daaa2c29a8255b208f4b243ad5513960314cd42abe1aab63af41"), looks := false }, kinds := [], alts := [], laidByText := true, laidKinds := [.data, .pinned], laidTests := true, laidLooks := .later }
def PostBackCardSaid : Prop := Claim7.holds Tryz.pinned (.plain (OpenSpec.ofChange postBackSpec)) postBackCard

/-- THE TIED CARD OF 'debenturelaw07.PostChain'. -/
def postChainCard : Claim7 := { stood := { row := postChainRow, standIns := [], harness := (true, "7726097a49d0daaa2c29a8255b208f4b243ad5513960314cd42abe1aab63af41"), looks := false }, kinds := [], alts := [], laidByText := true, laidKinds := [.data, .pinned], laidTests := true, laidLooks := .later }
def PostChainCardSaid : Prop := Claim7.holds Tryz.pinned (.plain (OpenSpec.ofChange postChainSpec)) postChainCard

/-- THE SECOND FORM's CARD OF 'debenturelaw07.PostTells'. -/
def postTellsUptoCard : Claim7 := { stood := { row := postTellsUptoRow, standIns := [], harness := (true, "7726097a49d0daaa2c29a8255b208f4b243ad5513960314cd42abe1aab63af41"), looks := false }, kinds := [], alts := [], laidByText := true, laidKinds := [.data, .pinned], laidTests := true, laidLooks := .later }
def PostTellsUptoCardSaid : Prop := Claim7.holds Tryz.pinned (.plain (OpenSpec.upto postTellsSpec)) postTellsUptoCard

/-- THE SECOND FORM's CARD OF 'debenturelaw07.PostKeeps'. -/
def postKeepsUptoCard : Claim7 := { stood := { row := postKeepsUptoRow, standIns := [], harness := (true, "7726097a49d0daaa2c29a8255b208f4b243ad5513960314cd42abe1aab63af41"), looks := false }, kinds := [], alts := [], laidByText := true, laidKinds := [.data, .pinned], laidTests := true, laidLooks := .later }
def PostKeepsUptoCardSaid : Prop := Claim7.holds Tryz.pinned (.plain (OpenSpec.upto postKeepsSpec)) postKeepsUptoCard

/-- THE SECOND FORM's CARD OF 'debenturelaw07.PostBack'. -/
def postBackUptoCard : Claim7 := { stood := { row := postBackUptoRow, standIns := [], harness := (true, "7726097a49d0daaa2c29a8255b208f4b243ad5513960314cd42abe1aab63af41"), looks := false }, kinds := [], alts := [], laidByText := true, laidKinds := [.data, .pinned], laidTests := true, laidLooks := .later }
def PostBackUptoCardSaid : Prop := Claim7.holds Tryz.pinned (.plain (OpenSpec.upto postBackSpec)) postBackUptoCard

/-- THE SECOND FORM's CARD OF 'debenturelaw07.PostChain'. -/
def postChainUptoCard : Claim7 := { stood := { row := postChainUptoRow, standIns := [], harness := (true, "7726097a49d0daaa2c29a8255b208f4b243ad5513960314cd42abe1aab63af41"), looks := false }, kinds := [], alts := [], laidByText := true, laidKinds := [.data, .pinned], laidTests := true, laidLooks := .later }
def PostChainUptoCardSaid : Prop := Claim7.holds Tryz.pinned (.plain (OpenSpec.upto postChainSpec)) postChainUptoCard
end Rows
end Go.Proofs.YtamibckbebifkaaGreatDoor
