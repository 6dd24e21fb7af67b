/- Fractions, and rows of texts, as a law's arguments: opened to their texts, and shut. -/
import Derived.ProofKit
import Derived.OpenShut
import Derived.ShutString
import Derived.Lib.SmallJoins
import Derived.Test.YtagfndkfjbbpjaaGreatDoorRows
namespace Go.Proofs.YtagfndkfjbbpjaaGreatDoor
open Go.ChangeShapes Go.WideShapes Go.RowKit Go.Joins
set_option maxRecDepth 100000
section
variable {H : Type} {enc : TypeId × Value → H} {w : World} {base : Nat} {sp : Nat → Bool} {held : Bool}
theorem cellsRat : Tryz.prog.cellsOf 35 = 2 := by kernel_rfl
theorem cellsStr : Tryz.prog.cellsOf 9 = 1 := by kernel_rfl
end
end Go.Proofs.YtagfndkfjbbpjaaGreatDoor
