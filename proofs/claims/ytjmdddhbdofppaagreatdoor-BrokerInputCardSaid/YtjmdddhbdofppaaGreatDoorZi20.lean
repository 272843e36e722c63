/- Fom -/
import Derived.Deep.RegionLaw
import Derived.BigRegion
import Derived.BigQuiet
import Derived.Deep.DeepCutAuto
import Derived.Test.YtjmdddhbdofppaaGreatDoorZi05
import Derived.Test.YtjmdddhbdofppaaGreatDoorZi10
import Derived.Test.YtjmdddhbdofppaaGreatDoorZi18
section
namespace Go.Proofs.YtjmdddhbdofppaaGreatDoor
open Go.RowKit
set_option maxRecDepth 100000 in
theorem elem_int : Elem 68 3 (.int .i64 0) 8:=⟨Tryz.underlying68,info_parts (by kernel_rfl),rfl,by omega⟩
structure MdAt (M : Nat→Prop) (g bm : Nat) (a : Option Addr) (n c : Nat) (w : World) (s : Fl) : Prop where
  bx : Bx g w #[.int .i64 s.lease,.int .i64 s.left,.map (some bm),.bool false,.slice a n c]
  rm : Rm bm w s.roles
  rw : Rw 0 w a n c (ints s.line)
  d1 : bm≠g
  d2 : ¬ In a g
  d3 : ¬ In a bm
  m1 : M g
  m2 : M bm
  m3 : ∀ b,In a b→M b
  lt : ∀ b,M b→b < w.heap.size
def Md (M : Nat→Prop) (g : Nat) (w : World) (s : Fl) : Prop:=∃ bm a n c,MdAt M g bm a n c w s
def MdGives (M : Nat→Prop) (g : Nat) (w : World) (s2 : Fl) (v : Value) (e : Ending) (w' : World) : Prop:=
  ∃ M2,e = .returned v∧Md M2 g w' s2∧(∀ b,M2 b→M b∨w.heap.size≤b)∧Only M w w'
section
variable {M : Nat→Prop} {g bm n c N : Nat} {a : Option Addr} {w w' : World} {s : Fl}
end
end Go.Proofs.YtjmdddhbdofppaaGreatDoor
end
