/- The broker's mathematics: messages side by side. No program is named here. -/
import Derived.Test.YtjmdddhbdofppaaGreatDoorZi06
namespace Go.Proofs.YtjmdddhbdofppaaGreatDoor.Bk
open Fr Lx
theorem encs_app (a b : List M) : encs (a ++ b) = encs a ++ encs b:=by unfold encs; simp
end Go.Proofs.YtjmdddhbdofppaaGreatDoor.Bk
