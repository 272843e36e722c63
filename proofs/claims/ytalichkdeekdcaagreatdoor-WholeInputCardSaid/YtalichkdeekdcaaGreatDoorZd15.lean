/- PMm POu -/
import Derived.Test.YtalichkdeekdcaaGreatDoorZd06
import Derived.Test.YtalichkdeekdcaaGreatDoorZd12
namespace Go.Proofs.YtalichkdeekdcaaGreatDoor
set_option maxRecDepth 100000
section
open Go.RowKit
open Bk (M)
def msc (e:M):List Value:=[.int .i64 e.k,.int .i64 e.a,.int .i64 e.b,.string (str e.t)]
def mscells (L:List M):List Value:=L.flatMap msc
structure MsgIn (w:World) (B:Nat) (a:Option Addr) (L:List M):Prop where
 outer:0<L.length→∃ b off,a=some ⟨b,off,none⟩∧b<B∧∀ r e,L[r]?=some e→w.cell? ⟨b,off+r * 4,none⟩=some (.int .i64 e.k)∧w.cell? ⟨b,off+r * 4+1,none⟩=some (.int .i64 e.a)∧w.cell? ⟨b,off+r * 4+2,none⟩=some (.int .i64 e.b)∧w.cell? ⟨b,off+r * 4+3,none⟩=some (.string (str e.t))
 inner:∀ e∈L,e.t.length≤maxLen
structure MsgRow (base:Nat) (w:World) (a:Option Addr) (n c:Nat) (L:List M):Prop where
 row:w.ownsRow base 42 4 (.slice a n c) n (mscells L)
 cap:n≤c
 inner:∀ e∈L,e.t.length≤maxLen
end
section
open Go.RowKit
structure Ot where
 e:Nat
 t:Bs
deriving DecidableEq
def otc (x:Ot):List Value:=[.int .i64 (x.e:Nat),.string (str x.t)]
def ocells (L:List Ot):List Value:=L.flatMap otc
structure OtRow (base:Nat) (w:World) (a:Option Addr) (n c:Nat) (L:List Ot):Prop where
 row:w.ownsRow base 53 2 (.slice a n c) n (ocells L)
 cap:n≤c
end
end Go.Proofs.YtalichkdeekdcaaGreatDoor
