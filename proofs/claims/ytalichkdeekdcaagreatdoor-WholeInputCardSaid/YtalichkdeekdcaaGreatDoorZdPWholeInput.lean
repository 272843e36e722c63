/- WholeInput: for every input the law answers true, and its arguments read as before. Conditions: none. -/
import Derived.Test.YtalichkdeekdcaaGreatDoorZd22
import Derived.Test.YtalichkdeekdcaaGreatDoorZd41
import Derived.Test.YtalichkdeekdcaaGreatDoorZd42
namespace Go.Proofs.YtalichkdeekdcaaGreatDoor
set_option maxRecDepth 100000
namespace wholeInput
open Go.ChangeShapes Go.WideShapes Go.ChangeAt Go.RowKit
open Fr Bk
end wholeInput
#print axioms wholeInput_holds
end Go.Proofs.YtalichkdeekdcaaGreatDoor
