/- PMp -/
import Derived.Maps.Ext
import Derived.Test.YtdpagmcickkbmaaGreatDoorZd10
namespace Go.Proofs.YtdpagmcickkbmaaGreatDoor
set_option maxRecDepth 100000
section
open Go.RowKit Go.Maps
theorem law_int:Keyed Tryz.prog 3:=int_keyed Tryz.underlying3
theorem zero_role (w:World):(zeroValue 164).run Tryz.prog w = .ok (.int .i64 0) w:=by kernel_rfl
abbrev wf64 (a:Int):Prop:=(Lit.int .i64 a).wf=true
theorem key_int {a:Int} (h:wf64 a):keyOf Tryz.prog 3 (.int .i64 a)=some (.int .i64 a):=keyOf_int_mk Tryz.underlying3 h
theorem litkey (a:Int):WideAt.IsKeyLit (.int .i64 a):=by simp [WideAt.IsKeyLit]
structure Rm (b:Nat) (w:World) (rs:List (Int×Int)):Prop where
 own:∃ D:DataW Unit,w.ownsMap Tryz.prog 3 (plainElem Tryz.prog 164) b rs.length D∧(∀ id,Maps.has D (.int .i64 id)=rhas rs id)∧(∀ id,D.atKey (.int .i64 id) (.lit (.int .i64 0)) = .lit (.int .i64 (rrole rs id)))∧Maps.size D=rs.length
 rising:Rising rs
theorem owns_tight {H:Type} {P:Program} {k:TypeId} {R:Value→Option (DataW H×List MemPlace)} {w:World} {b n:Nat} {D:DataW H} (h:w.ownsMap P k R b n D):w.ownsMap P k R b (Maps.size D) D:=by
 obtain ⟨es,clock,hb,F,hs,rfl⟩:=h;refine ⟨es,clock,hb,F,?_,rfl⟩
 show es.size≤((es.toList.map (WideElems.rg P k R)).foldr DataW.insert []).length
 rw [length_read];exact Nat.le_refl _
section
variable {b:Nat} {w:World} {rs:List (Int×Int)}
theorem Rm.lt (h:Rm b w rs):b<w.heap.size:=by
 obtain ⟨D,hD,_⟩:=h.own;exact hD.lt
theorem Rm.keep {S:Nat→Prop} {w':World} (h:Rm b w rs) (hO:Only S w w') (hS:¬ S b):Rm b w' rs:=by
 have hlt:=h.lt;obtain ⟨D,⟨es,clock,hb,F,hs,hD⟩,h2⟩:=h.own;exact ⟨⟨D,⟨es,clock,(hO.block b hlt hS).trans hb,F,hs,hD⟩,h2⟩,h.rising⟩
theorem Rm.made (w:World) (g:Nat) (hg:w.heap.size=g):Rm g (w.alloc (.map #[] 0)) []:=by
 subst hg;exact ⟨⟨.map [],World.ownsMap_made w Tryz.prog _ _,fun _=>rfl,fun _=>rfl,rfl⟩,List.Pairwise.nil⟩
theorem Rm.look_ok (h:Rm b w rs) {id:Int} (hw:wf64 id) :
  (Instr.lookup 68 (.map (some b)) (.int .i64 id) true).run Tryz.prog w = .ok (.tuple #[.int .i64 (rrole rs id),.bool (rhas rs id)]) w:=by
 obtain ⟨D,hD,h1,h2,h3⟩:=h.own;obtain ⟨v,ps,hrun,hv⟩:=hD.look_ok law_int Tryz.underlying68 (zero_role w) (plainElem_int Tryz.underlying164 (by decide)) (key_int hw);obtain ⟨c,rfl,hc,hwc⟩:=plainElem_int_inv Tryz.underlying164 hv;have hc':=congrArg Prod.fst hc;simp only [h2] at hc'
 injection hc' with hc'
 injection hc' with _ hc'
 rw [hrun,hc',h1]
theorem Rm.store (h:Rm b w rs) {id r:Int} (hw:wf64 id) (hr:wf64 r) (hl:rs.length≤1000000) :
  ∃ w',(Instr.mapUpdate 68 (.map (some b)) (.int .i64 id) (.int .i64 r)).run Tryz.prog w = .ok () w'∧Rm b w' (rput rs id r)∧Only (fun k=>k=b) w w':=by
 obtain ⟨D,hD,h1,h2,h3⟩:=h.own;obtain ⟨w',hrun,h4,h5⟩:=hD.update law_int Tryz.underlying68 (by unfold maxLen; omega) (key_int hw) (plainElem_int (H:=Unit) Tryz.underlying164 hr);have hT:=hD.tidy law_int
 have hsz:Maps.size (D.put (.int .i64 id) (.lit (.int .i64 r)))=(rput rs id r).length:=by
  rw [size_put hT,rlen_put h.rising,h1,h3]
 refine ⟨w',hrun,⟨⟨_,by rw [← hsz]; exact owns_tight h4,fun j=>?_,fun j=>?_,hsz⟩,h.rising.put _ _⟩,⟨h5.os,h5.tape,h5.output,h5.size,fun k hk hne=>h5.block k hk (fun e=>hne (by injection e))⟩⟩
 ·rw [rhas_put h.rising]
  by_cases e:j=id
  ·subst e
   rw [has_put_same hT.isMap (litkey _)]; simp
  ·rw [has_put_other (fun e'=>e (by injection e')),h1]; simp [e]
 ·rw [rrole_put h.rising]
  by_cases e:j=id
  ·subst e
   rw [atKey_put_same hT.isMap (litkey _),if_pos rfl]
  ·rw [atKey_put_other (fun e'=>e (by injection e')),h2,if_neg e]
theorem Rm.drop (h:Rm b w rs) {id:Int} (hw:wf64 id) :
  ∃ w',(∀ ty,(Builtin.delete_ #[68,3] ty #[.map (some b),.int .i64 id]).run Tryz.prog w = .ok (.tuple #[]) w')∧Rm b w' (rdel rs id)∧Only (fun k=>k=b) w w':=by
 obtain ⟨D,hD,h1,h2,h3⟩:=h.own;obtain ⟨w',hrun,h4,h5⟩:=hD.drop law_int Tryz.underlying68 (key_int hw) 0;have hT:=hD.tidy law_int;have h6:=h5.grown
 have hsz:Maps.size (D.del (.int .i64 id))=(rdel rs id).length:=by
  have h7:=size_del (k:=.int .i64 id) hT;have h8:=rlen_del rs id;rw [h1,h3] at h7;omega
 refine ⟨w',fun _=>hrun,⟨⟨_,by rw [← hsz]; exact owns_tight h4,fun j=>?_,fun j=>?_,hsz⟩,h.rising.del _⟩,⟨h6.os,h6.tape,h6.output,h6.size,fun k hk hne=>h6.block k hk (fun e=>hne (by injection e))⟩⟩
 ·unfold rhas
  rw [rget_del h.rising]
  by_cases e:j=id
  ·subst e
   rw [has_del_same]; simp
  ·rw [has_del_other (fun e'=>e (by injection e')),h1,if_neg e]; rfl
 ·unfold rrole
  rw [rget_del h.rising]
  by_cases e:j=id
  ·subst e
   rw [atKey_del_same,if_pos rfl]; rfl
  ·rw [atKey_del_other (fun e'=>e (by injection e')),h2,if_neg e]; rfl
end
end
end Go.Proofs.YtdpagmcickkbmaaGreatDoor
