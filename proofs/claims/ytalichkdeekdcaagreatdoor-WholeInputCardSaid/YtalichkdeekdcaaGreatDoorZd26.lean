/- PInq -/
import Derived.Test.YtalichkdeekdcaaGreatDoorZd13
import Derived.Test.YtalichkdeekdcaaGreatDoorZd23
namespace Go.Proofs.YtalichkdeekdcaaGreatDoor
set_option maxRecDepth 100000
section
open Go.ChangeShapes Go.WideShapes Go.ChangeAt Go.RowKit Go.Deep
section
variable {H:Type} {enc:TypeId×Value→H} {W:World} {held:Bool}
theorem open_strs {fuel:Nat} {a:Option Addr} {n cap:Nat} {x:DataW H×List MemPlace} (h:DataW.trod enc Tryz.prog W 0 (fun _=>true) held fuel 46 [.slice a n cap]=some x) :
  ∃ T,Vals W W.heap.size a n (Go.Proofs.YtalichkdeekdcaaGreatDoor.strs T)∧n≤cap∧cap≤maxLen∧∀ t∈T,t.length≤maxLen:=by
 rcases open_strings Tryz.underlying46 Tryz.underlying9 (by kernel_rfl) h with ⟨hcs,_⟩ | ⟨ad,len,cp,ss,hcs,_,hl,hm,hz,_,hcell,hsz⟩
 ·simp at hcs
  obtain ⟨rfl,rfl,rfl⟩:=hcs;exact ⟨[],Vals.nil _ _ _,Nat.le_refl _,Nat.zero_le _,by simp⟩
 ·simp at hcs
  obtain ⟨rfl,rfl,rfl⟩:=hcs;simp only [if_true] at hz
  have hlen:((ss.take n).map bsOf).length=n:=by simp; omega
  refine ⟨(ss.take n).map bsOf,⟨by rw [strs_len]; exact hlen,strs_one _,fun hn=>?_⟩,hl,hm,?_⟩
  ·obtain ⟨b,off,rfl,hlt⟩:=spot_of (hcell 0 (by omega))
   refine ⟨b,off,rfl,hlt,fun r v hv=>?_⟩
   have hr:r<n:=by
    rcases Nat.lt_or_ge r n with h' | h'
    ·exact h'
    ·rw [List.getElem?_eq_none (by rw [strs_len,hlen]; exact h')] at hv; cases hv
   rw [strs_get _ r (by rw [hlen]; exact hr)] at hv
   injection hv with hv
   subst hv;rw [← add_none,hcell r (by omega)]
   congr 1
   unfold sv
   have h1:((ss.take n).map bsOf).getD r []=bsOf (ss.getD r ByteArray.empty):=by
    rw [List.getD_eq_getElem?_getD,List.getElem?_map,List.getElem?_take,if_pos hr,List.getD_eq_getElem?_getD,List.getElem?_eq_getElem (show r<ss.length by omega)];rfl
   rw [h1,str_bsOf]
  ·intro t ht
   simp only [List.mem_map] at ht;obtain ⟨s,hs,rfl⟩:=ht;rw [bsOf_len];exact hsz s (List.mem_of_mem_take hs)
end
end
end Go.Proofs.YtalichkdeekdcaaGreatDoor
