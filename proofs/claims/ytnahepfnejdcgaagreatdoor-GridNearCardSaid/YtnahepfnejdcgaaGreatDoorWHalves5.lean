/- The walk of GridHalves. -/
import Derived.Deep.CutRange
import Derived.Test.YtnahepfnejdcgaaGreatDoorWCents5
namespace Go.Proofs.YtnahepfnejdcgaaGreatDoor
open Go.RowKit
set_option linter.unusedSimpArgs false
set_option linter.unusedVariables false

theorem fld0 (a b : ByteArray) (w : World) : (Instr.field 23 (.agg #[.string a, .string b]) 0).run Tryz.prog w = .ok (.string a) w := by kernel_rfl
end Go.Proofs.YtnahepfnejdcgaaGreatDoor
