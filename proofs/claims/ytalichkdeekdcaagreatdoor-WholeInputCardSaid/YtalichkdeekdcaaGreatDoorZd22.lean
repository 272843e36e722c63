/- PInq -/
import Derived.Test.YtalichkdeekdcaaGreatDoorZd11
import Derived.Test.YtalichkdeekdcaaGreatDoorZd19
namespace Go.Proofs.YtalichkdeekdcaaGreatDoor
set_option maxRecDepth 100000
section
open Go.ChangeShapes Go.WideShapes Go.ChangeAt Go.RowKit Go.Deep
end
end Go.Proofs.YtalichkdeekdcaaGreatDoor
