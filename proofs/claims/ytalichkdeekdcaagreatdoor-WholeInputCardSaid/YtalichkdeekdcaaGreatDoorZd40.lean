/- PPd PPe PLg -/
import Derived.Test.YtalichkdeekdcaaGreatDoorZd28
import Derived.Test.YtalichkdeekdcaaGreatDoorZd29
import Derived.Test.YtalichkdeekdcaaGreatDoorZd39
namespace Go.Proofs.YtalichkdeekdcaaGreatDoor
set_option maxRecDepth 100000
section
open Go.RowKit
open Fr Bk
noncomputable def pEv (b:Br) (e:Sc.Ev):Br:=if Sc.rtE e=true then doEv e.k.toNat b e.i e.n e.t else b
def pE (b:Br) (e:Sc.Ev):Nat:=if Sc.rtE e=true then doEx e.k.toNat b e.i e.n else 1
def pT (b:Br) (e:Sc.Ev):Bs:=if Sc.rtE e=true then doTx e.k.toNat b e.i e.n else []
structure PdW (w w1:World) (e:Sc.Ev):Prop where
 ev:Bx w.heap.size w1 #[.int .i64 e.k,.int .i64 e.i,.int .i64 e.n,.string (str e.t)]
 out:Bx (w.heap.size+1) w1 #[.int .i64 0,.string ⟨#[]⟩]
 b:Below w.heap.size w w1
end
section
open Go.RowKit
open Fr Bk
noncomputable def prun:Br→List Sc.Ev→Br
 | b,[]=>b
 | b,e :: l=>prun (pEv b e) l
noncomputable def pouts:Br→List Sc.Ev→List Ot
 | _,[]=>[]
 | b,e :: l=>⟨pE b e,pT b e⟩ :: pouts (pEv b e) l
end
section
open Go.RowKit
open Fr Bk
structure AtEv (cf:Cf) (Ln:Nat→Nat) (k:Nat) (b:Br):Prop where
 ev:EvOk b k (k * 2052+sumL Ln k) (sumL Ln k)
 r3:R3 b
 cf:b.cf=cf
end
end Go.Proofs.YtalichkdeekdcaaGreatDoor
