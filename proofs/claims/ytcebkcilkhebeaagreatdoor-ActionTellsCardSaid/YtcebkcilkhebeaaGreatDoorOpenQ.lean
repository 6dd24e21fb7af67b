/- Own work. -/
import Derived.ProofKit
import Derived.OpenShut
import Derived.ShutString
import Derived.Lib.SmallJoins
import Derived.Test.YtcebkcilkhebeaaGreatDoorRows
set_option maxRecDepth 100000
namespace Go.Proofs.YtcebkcilkhebeaaGreatDoor
open Go.ChangeShapes Go.WideShapes Go.RowKit Go.Joins
section
variable {H : Type} {enc : TypeId × Value → H} {w : World} {base : Nat} {sp : Nat → Bool} {held : Bool}
theorem cellsRat:Tryz.prog.cellsOf 23=2:=by kernel_rfl
theorem cellsStr:Tryz.prog.cellsOf 9=1:=by kernel_rfl
end
end Go.Proofs.YtcebkcilkhebeaaGreatDoor
