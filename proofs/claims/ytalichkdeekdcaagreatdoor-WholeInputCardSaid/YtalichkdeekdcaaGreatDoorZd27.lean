/- PIt -/
import Derived.Test.YtalichkdeekdcaaGreatDoorZd17
import Derived.Test.YtalichkdeekdcaaGreatDoorZd20
namespace Go.Proofs.YtalichkdeekdcaaGreatDoor
set_option maxRecDepth 100000
section
open Go.RowKit Go.Shelf
attribute [local go_sem] Oper.semAt_some
end
end Go.Proofs.YtalichkdeekdcaaGreatDoor
