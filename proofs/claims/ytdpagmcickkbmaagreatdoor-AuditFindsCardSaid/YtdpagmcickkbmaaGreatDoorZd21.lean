/- PPm -/
import Derived.RangeFuncSeq
import Derived.Test.YtdpagmcickkbmaaGreatDoorZd18
namespace Go.Proofs.YtdpagmcickkbmaaGreatDoor
set_option maxRecDepth 100000
section
open Go.RowKit Go.Maps
def ptrR (v:Value):Option (DataW Unit×List MemPlace):=
 match v with
 | .pointer none=>some (.lit (.int .i64 0),[])
 | .pointer (some ⟨b,0,none⟩)=>some (.lit (.int .i64 ((b:Int)+1)),[])
 | _=>none
def ptrOf (n:Int):Option Addr:=if n=0 then none else some ⟨(n - 1).toNat,0,none⟩
theorem ptrOf_suc (b:Nat):ptrOf ((b:Int)+1)=some ⟨b,0,none⟩:=by
 unfold ptrOf;rw [if_neg (by omega)]
 congr 2
 omega
theorem ptrR_inv {v:Value} {n:Int} {ps:List MemPlace} (h:ptrR v=some (.lit (.int .i64 n),ps)):v = .pointer (ptrOf n):=by
 unfold ptrR at h
 split at h
 ·injection h with h; injection h with h _; injection h with h; injection h with _ h
  subst h; rfl
 ·injection h with h; injection h with h _; injection h with h; injection h with _ h
  subst h; rw [ptrOf_suc]
 ·cases h
theorem zero_conn (w:World):(zeroValue 88).run Tryz.prog w = .ok (.pointer none) w:=by kernel_rfl
structure Pm (b:Nat) (w:World) (rs:List (Int×Int)):Prop where
 own:∃ D:DataW Unit,w.ownsMap Tryz.prog 3 ptrR b rs.length D∧(∀ id,Maps.has D (.int .i64 id)=rhas rs id)∧(∀ id,D.atKey (.int .i64 id) (.lit (.int .i64 0)) = .lit (.int .i64 (rrole rs id)))∧Maps.size D=rs.length
 rising:Rising rs
section
variable {b:Nat} {w:World} {rs:List (Int×Int)}
theorem Pm.lt (h:Pm b w rs):b<w.heap.size:=by
 obtain ⟨D,hD,_⟩:=h.own;exact hD.lt
theorem Pm.keep {S:Nat→Prop} {w':World} (h:Pm b w rs) (hO:Only S w w') (hS:¬ S b):Pm b w' rs:=by
 have hlt:=h.lt;obtain ⟨D,⟨es,clock,hb,F,hs,hD⟩,h2⟩:=h.own;exact ⟨⟨D,⟨es,clock,(hO.block b hlt hS).trans hb,F,hs,hD⟩,h2⟩,h.rising⟩
theorem Pm.made (w:World) (g:Nat) (hg:w.heap.size=g):Pm g (w.alloc (.map #[] 0)) []:=by
 subst hg;exact ⟨⟨.map [],World.ownsMap_made w Tryz.prog _ _,fun _=>rfl,fun _=>rfl,rfl⟩,List.Pairwise.nil⟩
theorem Pm.look (h:Pm b w rs) {id:Int} (hw:wf64 id) :
  (Instr.lookup 80 (.map (some b)) (.int .i64 id) false).run Tryz.prog w = .ok (.pointer (ptrOf (rrole rs id))) w:=by
 obtain ⟨D,hD,h1,h2,h3⟩:=h.own;obtain ⟨v,ps,hrun,hv⟩:=hD.lookup law_int Tryz.underlying80 (zero_conn w) (zd:=.lit (.int .i64 0)) (zp:=[]) rfl (key_int hw);rw [h2] at hv;rw [hrun,ptrR_inv hv]
theorem Pm.look_nil (w:World) {id:Int} (hw:wf64 id) :
  (Instr.lookup 80 (.map none) (.int .i64 id) false).run Tryz.prog w = .ok (.pointer none) w:=by
 rw [Maps.look_nil false law_int Tryz.underlying80 (zero_conn w) (key_int hw)];rfl
theorem Pm.store (h:Pm b w rs) {id:Int} (p:Nat) (hw:wf64 id) (hl:rs.length≤1000000) :
  ∃ w',(Instr.mapUpdate 80 (.map (some b)) (.int .i64 id) (.pointer (some ⟨p,0,none⟩))).run Tryz.prog w = .ok () w'∧Pm b w' (rput rs id ((p:Int)+1))∧Only (fun k=>k=b) w w':=by
 obtain ⟨D,hD,h1,h2,h3⟩:=h.own;obtain ⟨w',hrun,h4,h5⟩:=hD.update law_int Tryz.underlying80 (by unfold maxLen; omega) (key_int hw) (val:=.pointer (some ⟨p,0,none⟩)) (d:=.lit (.int .i64 ((p:Int)+1))) (ps:=[]) rfl;have hT:=hD.tidy law_int
 have hsz:Maps.size (D.put (.int .i64 id) (.lit (.int .i64 ((p:Int)+1))))=(rput rs id ((p:Int)+1)).length:=by
  rw [size_put hT,rlen_put h.rising,h1,h3]
 refine ⟨w',hrun,⟨⟨_,by rw [← hsz]; exact owns_tight h4,fun j=>?_,fun j=>?_,hsz⟩,h.rising.put _ _⟩,⟨h5.os,h5.tape,h5.output,h5.size,fun k hk hne=>h5.block k hk (fun e=>hne (by injection e))⟩⟩
 ·rw [rhas_put h.rising]
  by_cases e:j=id
  ·subst e
   rw [has_put_same hT.isMap (litkey _)]; simp
  ·rw [has_put_other (fun e'=>e (by injection e')),h1]; simp [e]
 ·rw [rrole_put h.rising]
  by_cases e:j=id
  ·subst e
   rw [atKey_put_same hT.isMap (litkey _),if_pos rfl]
  ·rw [atKey_put_other (fun e'=>e (by injection e')),h2,if_neg e]
theorem Pm.drop (h:Pm b w rs) {id:Int} (hw:wf64 id) :
  ∃ w',(∀ ty,(Builtin.delete_ #[80,3] ty #[.map (some b),.int .i64 id]).run Tryz.prog w = .ok (.tuple #[]) w')∧Pm b w' (rdel rs id)∧Only (fun k=>k=b) w w':=by
 obtain ⟨D,hD,h1,h2,h3⟩:=h.own;obtain ⟨w',hrun,h4,h5⟩:=hD.drop law_int Tryz.underlying80 (key_int hw) 0;have hT:=hD.tidy law_int;have h6:=h5.grown
 have hsz:Maps.size (D.del (.int .i64 id))=(rdel rs id).length:=by
  have h7:=size_del (k:=.int .i64 id) hT;have h8:=rlen_del rs id;rw [h1,h3] at h7;omega
 refine ⟨w',fun _=>hrun,⟨⟨_,by rw [← hsz]; exact owns_tight h4,fun j=>?_,fun j=>?_,hsz⟩,h.rising.del _⟩,⟨h6.os,h6.tape,h6.output,h6.size,fun k hk hne=>h6.block k hk (fun e=>hne (by injection e))⟩⟩
 ·unfold rhas
  rw [rget_del h.rising]
  by_cases e:j=id
  ·subst e
   rw [has_del_same]; simp
  ·rw [has_del_other (fun e'=>e (by injection e')),h1,if_neg e]; rfl
 ·unfold rrole
  rw [rget_del h.rising]
  by_cases e:j=id
  ·subst e
   rw [atKey_del_same,if_pos rfl]; rfl
  ·rw [atKey_del_other (fun e'=>e (by injection e')),h2,if_neg e]; rfl
end
end
end Go.Proofs.YtdpagmcickkbmaaGreatDoor
