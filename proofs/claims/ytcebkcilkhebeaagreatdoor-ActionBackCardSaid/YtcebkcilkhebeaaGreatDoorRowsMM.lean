/- Own work. -/
import Derived.Test.YtcebkcilkhebeaaGreatDoorSchM
import Derived.Test.YtcebkcilkhebeaaGreatDoorRowsG
set_option linter.unusedSimpArgs false
set_option linter.unusedVariables false
namespace Go.Proofs.YtcebkcilkhebeaaGreatDoor
open Go.RowKit
section
variable {T : Type} [DecidableEq T]
end
end Go.Proofs.YtcebkcilkhebeaaGreatDoor
namespace Go.Proofs.YtcebkcilkhebeaaGreatDoor
open Go.RowKit
section
variable {α : Type} {enc : α → List Value} {k : Nat}
end
end Go.Proofs.YtcebkcilkhebeaaGreatDoor
