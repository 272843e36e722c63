/- WholeInput: for every input the law answers true, and its arguments read as before. Conditions: none. -/
import Derived.Test.YtalichkdeekdcaaGreatDoorZd40
import Derived.Test.YtalichkdeekdcaaGreatDoorZd41
namespace Go.Proofs.YtalichkdeekdcaaGreatDoor
set_option maxRecDepth 100000
namespace wholeInput
open Go.ChangeShapes Go.WideShapes Go.ChangeAt Go.RowKit
open Fr Bk
end wholeInput
#print axioms wholeInput_holds
end Go.Proofs.YtalichkdeekdcaaGreatDoor
