/- PFoz -/
import Derived.Maps.RangeWalk
import Derived.Test.YtalichkdeekdcaaGreatDoorZd34
namespace Go.Proofs.YtalichkdeekdcaaGreatDoor
set_option maxRecDepth 100000
section
open Go.RowKit Go.Maps
end
end Go.Proofs.YtalichkdeekdcaaGreatDoor
