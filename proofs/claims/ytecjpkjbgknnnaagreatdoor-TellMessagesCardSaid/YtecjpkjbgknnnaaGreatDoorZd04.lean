/- PRg -/
import Derived.Laws.CopyOwn
namespace Go.Proofs.YtecjpkjbgknnnaaGreatDoor
set_option maxRecDepth 100000
section
namespace Rg
abbrev Bs:=List (BitVec 8)
def Inv (room:Nat) (c:Bs) (L:Bs):Prop:=
 c.length=room∧∀ i,i<L.length→L.length≤i+room→c[i % room]?=L[i]?
def at2 (room p:Nat) (b:Bs):Nat:=min (room - p) b.length
def put (room p:Nat) (c b:Bs):Bs:=splice (splice c p (b.take (at2 room p b))) 0 (b.drop (at2 room p b))
end Rg
end
end Go.Proofs.YtecjpkjbgknnnaaGreatDoor
