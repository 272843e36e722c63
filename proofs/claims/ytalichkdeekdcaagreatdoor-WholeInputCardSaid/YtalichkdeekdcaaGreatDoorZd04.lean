/- PRg -/
import Derived.Laws.CopyOwn
namespace Go.Proofs.YtalichkdeekdcaaGreatDoor
set_option maxRecDepth 100000
section
namespace Rg
abbrev Bs:=List (BitVec 8)
def Inv (room:Nat) (c:Bs) (L:Bs):Prop:=
 c.length=room∧∀ i,i<L.length→L.length≤i+room→c[i % room]?=L[i]?
end Rg
end
end Go.Proofs.YtalichkdeekdcaaGreatDoor
