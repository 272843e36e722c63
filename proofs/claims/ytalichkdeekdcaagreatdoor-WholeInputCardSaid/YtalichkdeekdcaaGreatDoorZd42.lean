/- POrd -/
import Derived.LaidMore
import Derived.Stop.LaidErr
import Derived.Lib.SmallJoins
import Derived.Test.YtalichkdeekdcaaGreatDoorCards
import Derived.Test.YtalichkdeekdcaaGreatDoorTie
import Derived.Test.YtalichkdeekdcaaGreatDoorZd39
namespace Go.Proofs.YtalichkdeekdcaaGreatDoor
set_option maxRecDepth 100000
section
open Go.ChangeShapes Go.WideShapes Go.ChangeAt Go.RowKit Go.Deep
open Dgs Orm
end
end Go.Proofs.YtalichkdeekdcaaGreatDoor
