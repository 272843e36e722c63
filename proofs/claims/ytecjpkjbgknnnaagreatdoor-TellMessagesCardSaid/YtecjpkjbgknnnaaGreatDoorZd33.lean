/- PFoz -/
import Derived.Maps.RangeWalk
import Derived.Test.YtecjpkjbgknnnaaGreatDoorZd32
namespace Go.Proofs.YtecjpkjbgknnnaaGreatDoor
set_option maxRecDepth 100000
section
open Go.RowKit Go.Maps
end
end Go.Proofs.YtecjpkjbgknnnaaGreatDoor
