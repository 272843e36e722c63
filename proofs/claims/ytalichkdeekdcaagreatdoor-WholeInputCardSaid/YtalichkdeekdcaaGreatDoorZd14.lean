/- PMp -/
import Derived.Maps.Ext
import Derived.Test.YtalichkdeekdcaaGreatDoorZd08
namespace Go.Proofs.YtalichkdeekdcaaGreatDoor
set_option maxRecDepth 100000
section
open Go.RowKit Go.Maps
abbrev wf64 (a:Int):Prop:=(Lit.int .i64 a).wf=true
structure Rm (b:Nat) (w:World) (rs:List (Int×Int)):Prop where
 own:∃ D:DataW Unit,w.ownsMap Tryz.prog 3 (plainElem Tryz.prog 66) b rs.length D∧(∀ id,Maps.has D (.int .i64 id)=rhas rs id)∧(∀ id,D.atKey (.int .i64 id) (.lit (.int .i64 0)) = .lit (.int .i64 (rrole rs id)))∧Maps.size D=rs.length
 rising:Rising rs
end
end Go.Proofs.YtalichkdeekdcaaGreatDoor
