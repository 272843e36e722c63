/- PIt -/
import Derived.Test.YtecjpkjbgknnnaaGreatDoorZd17
import Derived.Test.YtecjpkjbgknnnaaGreatDoorZd20
namespace Go.Proofs.YtecjpkjbgknnnaaGreatDoor
set_option maxRecDepth 100000
section
open Go.RowKit Go.Shelf
attribute [local go_sem] Oper.semAt_some
end
end Go.Proofs.YtecjpkjbgknnnaaGreatDoor
