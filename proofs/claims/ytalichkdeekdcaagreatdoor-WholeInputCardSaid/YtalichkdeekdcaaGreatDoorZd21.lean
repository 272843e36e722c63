/- PRq -/
import Derived.OrdersHeld
import Derived.Test.YtalichkdeekdcaaGreatDoorZd20
namespace Go.Proofs.YtalichkdeekdcaaGreatDoor
set_option maxRecDepth 100000
section
open Go.RowKit
end
end Go.Proofs.YtalichkdeekdcaaGreatDoor
