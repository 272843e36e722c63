/- PInv -/
import Derived.Lib.SmallJoins
import Derived.Test.YtdpagmcickkbmaaGreatDoorZd09
import Derived.Test.YtdpagmcickkbmaaGreatDoorZd23
namespace Go.Proofs.YtdpagmcickkbmaaGreatDoor
set_option maxRecDepth 100000
section
open Go.ChangeShapes Go.WideShapes Go.ChangeAt Go.RowKit Go.Deep Go.Joins
theorem open_ints_struct {H:Type} {enc:TypeId×Value→H} {P:Program} {w:World} {base:Nat} {spare:Nat→Bool} {held:Bool} {r:Reach} {b0:Nat} {t e:TypeId} {fs:Array Field} {v:Value} {d:DataW H} {p:List MemPlace}
  (hs:P.underlying t=some (.struct fs)) (hone:oneCellFields P fs=true) (hC:P.cellsOf t=fs.size) (he:P.underlying e=some (.int .i64)) (hf:∀ f∈fs,f.type=e)
  (hv:Value.okWide P w r b0 t v) (h:DataW.Trod enc P w base spare held t v d p) :
  ∃ z:List Int,v = .agg (z.map fun x=>.int .i64 x).toArray∧z.length=fs.size∧∀ x∈z,(Lit.int .i64 x).wf=true:=by
 obtain ⟨cs,rfl,hsz⟩:=okWide_struct hs hv;obtain ⟨fuel,hf2⟩:=h;obtain ⟨xs,n,_,hx,_,hlen,hg⟩:=DataW.trod_struct hs hf2
 have hall:∀ i,i<fs.size→∃ x:Int,cs[i]?=some (.int .i64 x)∧(Lit.int .i64 x).wf=true:=by
  intro i hi;have hfi:fs[i]?=some fs[i]:=Array.getElem?_eq_getElem hi;obtain ⟨o,k⟩:=hone_of hone i _ hfi;have h1:=hg i _ hfi;rw [o,k,hf _ (Array.getElem_mem hi)] at h1
  have hci:i<cs.size:=by rw [hsz,hC]; exact hi
  have hcell:((Value.agg cs).cells.toList.drop i).take 1=[cs[i]]:=by
   rw [show (Value.agg cs).cells=cs from rfl,List.drop_eq_getElem_cons (by simpa using hci)];simp
  rw [hcell,List.getElem?_eq_getElem (by omega)] at h1;obtain ⟨x,e0,_,wx⟩:=DataW.trod_int he h1;simp only [List.cons.injEq,and_true] at e0;exact ⟨x,by rw [Array.getElem?_eq_getElem hci,e0],wx⟩
 refine ⟨cs.toList.map fun v=>match v with | .int _ x=>x | _=>0,?_,by simp [hsz,hC],?_⟩
 ·congr 1
  apply Array.toList_inj.1
  simp only [List.map_map]
  symm
  apply List.ext_getElem?
  intro i
  rcases Nat.lt_or_ge i fs.size with hi | hi
  ·obtain ⟨x,hx,_⟩:=hall i hi
   simp [hx]
  ·rw [List.getElem?_eq_none (by simp [hsz,hC]; omega),List.getElem?_eq_none (by simp [hsz,hC]; omega)]
 ·intro x hx
  simp only [List.mem_map] at hx;obtain ⟨v,hm,rfl⟩:=hx;obtain ⟨i,hi,rfl⟩:=List.getElem_of_mem hm
  have hi':i<fs.size:=by simpa [hsz,hC] using hi
  obtain ⟨y,hy,wy⟩:=hall i hi'
  have:cs.toList[i] = .int .i64 y:=by
   have:cs.toList[i]?=some (.int .i64 y):=by simpa using hy
   rw [List.getElem?_eq_getElem hi] at this;exact Option.some.inj this
  rw [this];exact wy
section
variable {H:Type} {enc:TypeId×Value→H} {W:World} {held:Bool}
theorem open_conf {b0:Nat} {v:Value} {d:DataW H} {p:List MemPlace} (hval:Value.okWide Tryz.prog W .any b0 23 v) (h:DataW.Trod enc Tryz.prog W 0 (fun _=>true) held 23 v d p) :
  ∃ a b c d e f g h:Int,v = .agg (cv a b c d e f g h):=by
 obtain ⟨z,rfl,hl,hw⟩:=open_ints_struct (e:=3) Tryz.underlying23 (by kernel_rfl) (by kernel_rfl) Tryz.underlying3 (by decide) hval h
 match z,hl with
 | [a,b,c,d,e,f,g,h],_=>exact ⟨a,b,c,d,e,f,g,h,rfl⟩
end
end
end Go.Proofs.YtdpagmcickkbmaaGreatDoor
