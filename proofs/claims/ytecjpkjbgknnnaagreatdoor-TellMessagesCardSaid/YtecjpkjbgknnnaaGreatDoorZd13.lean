/- PVx PVy -/
import Derived.Laws.Cover1
import Derived.Test.YtecjpkjbgknnnaaGreatDoorZd12
namespace Go.Proofs.YtecjpkjbgknnnaaGreatDoor
set_option maxRecDepth 100000
section
open Go.RowKit
section
variable {z:Zo} {w w':World} {gr gk room g p s:Nat} {L:Bs}
def countOf (n p:Nat) (room most:Int):Nat:=(min (min (min most (max room 11 - 11)) 2042) ((n:Int) - p)).toNat
end
end
section
open Go.RowKit
end
end Go.Proofs.YtecjpkjbgknnnaaGreatDoor
