/- PMp -/
import Derived.Maps.Ext
import Derived.Test.YtecjpkjbgknnnaaGreatDoorZd08
namespace Go.Proofs.YtecjpkjbgknnnaaGreatDoor
set_option maxRecDepth 100000
section
open Go.RowKit Go.Maps
structure Rm (b:Nat) (w:World) (rs:List (Int×Int)):Prop where
 own:∃ D:DataW Unit,w.ownsMap Tryz.prog 3 (plainElem Tryz.prog 214) b rs.length D∧(∀ id,Maps.has D (.int .i64 id)=rhas rs id)∧(∀ id,D.atKey (.int .i64 id) (.lit (.int .i64 0)) = .lit (.int .i64 (rrole rs id)))∧Maps.size D=rs.length
 rising:Rising rs
end
end Go.Proofs.YtecjpkjbgknnnaaGreatDoor
