/- PRq -/
import Derived.OrdersHeld
import Derived.Test.YtecjpkjbgknnnaaGreatDoorZd20
namespace Go.Proofs.YtecjpkjbgknnnaaGreatDoor
set_option maxRecDepth 100000
section
open Go.RowKit
section
variable {F:Fence} {n:Nat} {P:Program} {ops:Array Oper} {Q:Exit→Act→World→Prop} {l:Nat}
theorem exec_append {o:Oper} {ρ:Operand→Value} {w w':World} {s x:Operand} {st:TypeId} {v1 v2 v:Value} (ho:o.op = .call { callee:=.builtin .append,args:=#[s,x],argTypes:=#[st,st] })
  (hs:ρ s=v1) (hx:ρ x=v2) (hrun:(Builtin.append_ #[st,st] o.type #[v1,v2]).run P w = .ok v w'):(execOp ρ o).run P w = .ok (.value v) w':=by
 unfold execOp;simp only [ho,resolve,invoke,builtin,Sem.run_bind,Sem.run_pure,Result.andThen_ok,List.map_toArray,List.map_cons,List.map_nil,hs,hx,hrun]
end
end
end Go.Proofs.YtecjpkjbgknnnaaGreatDoor
