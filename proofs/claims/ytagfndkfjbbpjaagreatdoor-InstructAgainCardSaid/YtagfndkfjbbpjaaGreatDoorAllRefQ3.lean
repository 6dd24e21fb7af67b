/- The document's answers for fractions: what is split, one fraction of two ints; whether fractions are short, and good. -/
import Derived.Test.YtagfndkfjbbpjaaGreatDoorAllRefQ2
namespace Go.Proofs.YtagfndkfjbbpjaaGreatDoor
open Go.RowKit
end Go.Proofs.YtagfndkfjbbpjaaGreatDoor
