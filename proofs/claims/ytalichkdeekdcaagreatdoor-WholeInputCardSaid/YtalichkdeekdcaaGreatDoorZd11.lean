/- PLxp PLxi PCr -/
import Derived.Deep.DeepCutAuto
import Derived.Test.YtalichkdeekdcaaGreatDoorZd07
namespace Go.Proofs.YtalichkdeekdcaaGreatDoor
set_option maxRecDepth 100000
section
open Go.RowKit
open Lx
def sv (b:Bs):Value:=.string (str b)
def strs (ss:List Bs):List Value:=ss.map sv
structure KO (base:Nat) (w:World) (ka:Option Addr) (kn kc:Nat) (K:Bs) (ra:Option Addr) (rn rc:Nat) (C:List Bs):Prop where
 keys:Mid base w ka kn kc K
 cmds:Rw base w ra rn rc (strs C)
 apart:∀ b,In ka b→¬ In ra b
structure PI (base:Nat) (w0 w:World) (l:Bs) (i:Nat) (ka:Option Addr) (kn kc:Nat) (ra:Option Addr) (rn rc:Nat):Prop where
 ko:KO base w ka kn kc (K l i) ra rn rc (C l i)
 bel:Below base w0 w
 room:base≤w.heap.size
 kle:kn≤i
 rle:rn≤i
end
section
open Go.RowKit
open Lx
def LV (q:Nat) (a:Option Addr) (n c:Nat):Array Value:=#[.int .i64 q,.slice a n c]
def Wf (s:Lx):Prop:=s.q≤2∧(s.q≠2→s.b=[])
def LexIs (F:Nat→Prop) (g:Nat) (w:World) (s:Lx):Prop:=
 ∃ a n c,Bx g w (LV s.q a n c)∧Mid 0 w a n c (s.b.take 81)∧¬ In a g∧(∀ b,F b↔b=g∨In a b)∧Wf s
structure LxJ (F:Nat→Prop) (g:Nat) (w0 w:World) (s:Lx) (a:Option Addr) (n c:Nat) (ka:Option Addr) (kn kc:Nat) (K:Bs) (ra:Option Addr) (rn rc:Nat) (C:List Bs):Prop where
 bx:Bx g w (LV s.q a n c)
 line:Mid 0 w a n c (s.b.take 81)
 ga:¬ In a g
 gF:F g
 flt:∀ b,F b→b<w0.heap.size
 fr:∀ b,In a b→F b∨w0.heap.size≤b
 ko:KO w0.heap.size w ka kn kc K ra rn rc C
 ak:∀ b,In a b→¬ In ka b
 ar:∀ b,In a b→¬ In ra b
 only:Only F w0 w
end
section
open Go.RowKit
def tab (a b c d e f g h:Int):Array Value:=#[.int .i64 a,.int .i64 1,.int .i64 65536,.int .i64 b,.int .i64 1,.int .i64 2042,.int .i64 c,.int .i64 220,.int .i64 65536,.int .i64 d,.int .i64 1,.int .i64 65536,.int .i64 e,.int .i64 0,.int .i64 9,.int .i64 f,.int .i64 1,.int .i64 1000,.int .i64 g,.int .i64 0,.int .i64 1000,.int .i64 h,.int .i64 1,.int .i64 500]
end
end Go.Proofs.YtalichkdeekdcaaGreatDoor
