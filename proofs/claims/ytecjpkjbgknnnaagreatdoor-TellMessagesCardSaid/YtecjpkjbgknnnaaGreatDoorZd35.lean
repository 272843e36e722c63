/- PIq -/
import Derived.Test.YtecjpkjbgknnnaaGreatDoorZd11
import Derived.Test.YtecjpkjbgknnnaaGreatDoorZd34
namespace Go.Proofs.YtecjpkjbgknnnaaGreatDoor
set_option maxRecDepth 100000
section
open Go.RowKit
def QuIs (z:Zo) (G:Nat→Prop) (R:List Value) (w:World) (g size:Nat) (l:Bs):Prop:=
 ∃ a c,Que z R 0 w g size a l.length c l∧G g∧(∀ b,In a b→G b)∧∀ b,G b→b<w.heap.size
section
variable {z:Zo} {R:List Value} {G S:Nat→Prop} {g size:Nat} {w w':World} {l:Bs}
abbrev IR (tot:Nat) (en:Bool):List Value:=[.int .i64 tot,.bool en]
end
end
end Go.Proofs.YtecjpkjbgknnnaaGreatDoor
