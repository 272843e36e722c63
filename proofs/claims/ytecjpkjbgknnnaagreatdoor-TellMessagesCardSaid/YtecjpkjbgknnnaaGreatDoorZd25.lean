/- PInsm -/
import Derived.Lib.SmallJoins
import Derived.Test.YtecjpkjbgknnnaaGreatDoorZd19
namespace Go.Proofs.YtecjpkjbgknnnaaGreatDoor
set_option maxRecDepth 100000
section
open Go.ChangeShapes Go.WideShapes Go.ChangeAt Go.RowKit Go.Deep
section
variable {H:Type} {enc:TypeId×Value→H} {W:World} {held:Bool}
theorem open_msg {b0:Nat} {v:Value} {d:DataW H} {p:List MemPlace} (hval:Value.okWide Tryz.prog W .any b0 24 v) (h:DataW.Trod enc Tryz.prog W 0 (fun _=>true) held 24 v d p) :
  ∃ (k a b:Int) (t:Bs),v = .agg #[.int .i64 k,.int .i64 a,.int .i64 b,.string (str t)]∧((Lit.int .i64 k).wf=true∧(Lit.int .i64 a).wf=true∧(Lit.int .i64 b).wf=true∧t.length≤maxLen):=by
 obtain ⟨v0,v1,v2,v3,y0,y1,y2,y3,n,rfl,_,_,h0,h1,h2,h3⟩:=Joins.open_agg4 Tryz.underlying24 (by kernel_rfl) (by kernel_rfl) hval h;obtain ⟨k,e0,_,wk⟩:=DataW.trod_int Tryz.underlying22 h0;obtain ⟨a,e1,_,wa⟩:=DataW.trod_int Tryz.underlying2 h1;obtain ⟨b,e2,_,wb⟩:=DataW.trod_int Tryz.underlying2 h2;obtain ⟨s,e3,_,hs⟩:=DataW.trod_string Tryz.underlying9 h3;simp only [List.cons.injEq,and_true] at e0 e1 e2 e3;subst e0 e1 e2 e3;refine ⟨k,a,b,bsOf s,by rw [str_bsOf],wk,wa,wb,?_⟩;have:=str_size (bsOf s);rw [str_bsOf] at this;omega
end
end
end Go.Proofs.YtecjpkjbgknnnaaGreatDoor
