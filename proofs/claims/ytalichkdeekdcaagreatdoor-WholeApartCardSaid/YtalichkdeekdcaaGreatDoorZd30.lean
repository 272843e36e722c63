/- PInv -/
import Derived.ChangeShapes
import Derived.ChangeSame
import Derived.Deep.Slices
import Derived.Deep.Fields
import Derived.Lib.SmallJoins
import Derived.SizedLaws
import Derived.ProofKit
import Derived.OpenShut
import Derived.ShutString
import Derived.ChangeOld
import Derived.Deep.Matrix
import Derived.Test.YtalichkdeekdcaaGreatDoorZd09
import Derived.Test.YtalichkdeekdcaaGreatDoorZd23
section
namespace Go.Proofs.YtalichkdeekdcaaGreatDoor
open Go.ChangeShapes Go.WideShapes Go.ChangeAt Go.RowKit Go.Deep Go.Joins
section
variable {H:Type} {enc:TypeId×Value→H} {W:World} {held:Bool}
end
end Go.Proofs.YtalichkdeekdcaaGreatDoor
end
