/- PPm -/
import Derived.RangeFuncSeq
import Derived.Test.YtecjpkjbgknnnaaGreatDoorZd15
namespace Go.Proofs.YtecjpkjbgknnnaaGreatDoor
set_option maxRecDepth 100000
section
open Go.RowKit Go.Maps
def ptrR (v:Value):Option (DataW Unit×List MemPlace):=
 match v with
 | .pointer none=>some (.lit (.int .i64 0),[])
 | .pointer (some ⟨b,0,none⟩)=>some (.lit (.int .i64 ((b:Int)+1)),[])
 | _=>none
structure Pm (b:Nat) (w:World) (rs:List (Int×Int)):Prop where
 own:∃ D:DataW Unit,w.ownsMap Tryz.prog 3 ptrR b rs.length D∧(∀ id,Maps.has D (.int .i64 id)=rhas rs id)∧(∀ id,D.atKey (.int .i64 id) (.lit (.int .i64 0)) = .lit (.int .i64 (rrole rs id)))∧Maps.size D=rs.length
 rising:Rising rs
end
end Go.Proofs.YtecjpkjbgknnnaaGreatDoor
