/- PFox PFoy -/
import Derived.Test.YtecjpkjbgknnnaaGreatDoorZd18
import Derived.Test.YtecjpkjbgknnnaaGreatDoorZd28
namespace Go.Proofs.YtecjpkjbgknnnaaGreatDoor
set_option maxRecDepth 100000
section
open Go.RowKit
end
section
open Go.RowKit
end
end Go.Proofs.YtecjpkjbgknnnaaGreatDoor
