/- PCf -/
import Derived.Test.YtalichkdeekdcaaGreatDoorZd08
namespace Go.Proofs.YtalichkdeekdcaaGreatDoor
set_option maxRecDepth 100000
section
open Go.RowKit
def bw (lo hi x:Int):Bool:=decide (lo≤x) && decide (x≤hi)
def rt (a b c d e f g h:Int):Bool:=bw 1 65536 a && (bw 1 2042 b && (bw 220 65536 c && (bw 1 65536 d && (bw 0 9 e && (bw 1 1000 f && (bw 0 1000 g && bw 1 500 h))))))
end
end Go.Proofs.YtalichkdeekdcaaGreatDoor
