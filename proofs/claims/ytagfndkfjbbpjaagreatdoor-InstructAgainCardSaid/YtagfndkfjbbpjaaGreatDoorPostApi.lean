/- What the laws of layer 7 want of the program's post; so much moved; constants. -/
import Derived.Test.YtagfndkfjbbpjaaGreatDoorPostNum3
import Derived.Test.YtagfndkfjbbpjaaGreatDoorAllRefP2
namespace Go.Proofs.YtagfndkfjbbpjaaGreatDoor
open Go.RowKit
set_option linter.unusedSimpArgs false
set_option linter.unusedVariables false
end Go.Proofs.YtagfndkfjbbpjaaGreatDoor
