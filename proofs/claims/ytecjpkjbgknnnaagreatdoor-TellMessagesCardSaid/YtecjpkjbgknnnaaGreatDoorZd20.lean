/- PRf -/
import Derived.RangeFuncNested
import Derived.RangeFuncBound
import Derived.Shelf.RegionOpen
import Derived.OwnWalkIn
import Derived.LoopNIn
import Derived.LoopIn
import Derived.Test.YtecjpkjbgknnnaaGreatDoorZd05
namespace Go.Proofs.YtecjpkjbgknnnaaGreatDoor
set_option maxRecDepth 100000
section
open Go.RowKit
abbrev Nay (_:Nat):Prop:=False
end
end Go.Proofs.YtecjpkjbgknnnaaGreatDoor
