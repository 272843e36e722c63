/- PFoi -/
import Derived.WalkSpells
import Derived.Test.YtecjpkjbgknnnaaGreatDoorZd33
namespace Go.Proofs.YtecjpkjbgknnnaaGreatDoor
set_option maxRecDepth 100000
section
open Go.RowKit
def TabIs (z:Zo) (F:Nat→Prop) (g:Nat) (w:World) (s:Fl):Prop:=Ta.Is z F g w (ofFl s)
end
end Go.Proofs.YtecjpkjbgknnnaaGreatDoor
