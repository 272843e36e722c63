/- PInv -/
import Derived.Lib.SmallJoins
import Derived.Test.YtalichkdeekdcaaGreatDoorZd07
import Derived.Test.YtalichkdeekdcaaGreatDoorZd19
namespace Go.Proofs.YtalichkdeekdcaaGreatDoor
set_option maxRecDepth 100000
section
open Go.ChangeShapes Go.WideShapes Go.ChangeAt Go.RowKit Go.Deep Go.Joins
end
end Go.Proofs.YtalichkdeekdcaaGreatDoor
