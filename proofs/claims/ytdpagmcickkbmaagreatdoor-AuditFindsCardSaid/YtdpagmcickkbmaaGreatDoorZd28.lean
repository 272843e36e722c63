/- PInse -/
import Derived.Test.YtdpagmcickkbmaaGreatDoorZd18
import Derived.Test.YtdpagmcickkbmaaGreatDoorZd23
namespace Go.Proofs.YtdpagmcickkbmaaGreatDoor
set_option maxRecDepth 100000
section
open Go.ChangeShapes Go.WideShapes Go.ChangeAt Go.RowKit Go.Deep
structure Ievs (w:World) (B:Nat) (a:Option Addr) (n:Nat) (K I R:Nat→Int) (A:Nat→Option Addr) (Ln Cp:Nat→Nat) (T:Nat→Bs):Prop where
 outer:0<n→∃ b off,a=some ⟨b,off,none⟩∧b<B∧∀ r,r<n→w.cell? ⟨b,off+r * 4,none⟩=some (.int .i64 (K r))∧w.cell? ⟨b,off+r * 4+1,none⟩=some (.int .i64 (I r))∧w.cell? ⟨b,off+r * 4+2,none⟩=some (.int .i64 (R r)) ∧
  w.cell? ⟨b,off+r * 4+3,none⟩=some (.slice (A r) (Ln r) (Cp r))
 inner:∀ r,r<n→(wf64 (K r)∧wf64 (I r)∧wf64 (R r))∧Bytes w B (A r) (Ln r) (T r)∧Ln r≤Cp r∧Cp r≤most
theorem Ievs.below {w w':World} {B n:Nat} {a:Option Addr} {K I R:Nat→Int} {A:Nat→Option Addr} {Ln Cp:Nat→Nat} {T:Nat→Bs} (h:Ievs w B a n K I R A Ln Cp T) (hb:Below B w w'):Ievs w' B a n K I R A Ln Cp T:=
  ⟨fun hn=>by
    obtain ⟨b,off,e,hlt,hc⟩:=h.outer hn
    exact ⟨b,off,e,hlt,fun r hr=>⟨(hb.cell (p:=⟨b,off+r * 4,none⟩) hlt).trans (hc r hr).1,(hb.cell (p:=⟨b,off+r * 4+1,none⟩) hlt).trans (hc r hr).2.1,(hb.cell (p:=⟨b,off+r * 4+2,none⟩) hlt).trans (hc r hr).2.2.1,
      (hb.cell (p:=⟨b,off+r * 4+3,none⟩) hlt).trans (hc r hr).2.2.2⟩⟩,
   fun r hr=>⟨(h.inner r hr).1,(h.inner r hr).2.1.below hb,(h.inner r hr).2.2⟩⟩
section
variable {H:Type} {enc:TypeId×Value→H} {W:World} {held:Bool}
theorem open_ievs {fuel:Nat} {a:Option Addr} {n cap:Nat} {x:DataW H×List MemPlace} (h:DataW.trod enc Tryz.prog W 0 (fun _=>true) held fuel 24 [.slice a n cap]=some x) (hf:Fits 24 x.1) :
  ∃ K I R A Ln Cp T,Ievs W W.heap.size a n K I R A Ln Cp T∧n≤cap∧cap≤maxLen:=by
 have hce:Tryz.prog.cellsOf 43=4:=by kernel_rfl
 rcases open_slice Tryz.underlying24 h with ⟨hcs,rfl⟩ | ⟨ad,len,cp,m,k,D,Pl,hcs,_,hl,hm,hmm,rfl,hi⟩
 ·simp at hcs
  obtain ⟨rfl,rfl,rfl⟩:=hcs;exact ⟨fun _=>0,fun _=>0,fun _=>0,fun _=>none,fun _=>0,fun _=>0,fun _=>[],⟨fun h=>absurd h (by omega),fun r hr=>absurd hr (by omega)⟩,Nat.le_refl _,Nat.zero_le _⟩
 ·simp at hcs
  obtain ⟨rfl,rfl,rfl⟩:=hcs;simp only [if_true] at hmm;subst hmm;have hfe:=(fits_slice Tryz.underlying24 hf).1
  have each:∀ r,r<n→∃ y:(Int×Int×Int)×Option Addr×Nat×Nat×Bs,(W.cell? (ad.add (r * 4))=some (.int .i64 y.1.1)∧W.cell? (ad.add (r * 4+1))=some (.int .i64 y.1.2.1)∧W.cell? (ad.add (r * 4+2))=some (.int .i64 y.1.2.2) ∧
    W.cell? (ad.add (r * 4+3))=some (.slice y.2.1 y.2.2.1 y.2.2.2.1))∧(wf64 y.1.1∧wf64 y.1.2.1∧wf64 y.1.2.2) ∧
    Bytes W W.heap.size y.2.1 y.2.2.1 y.2.2.2.2∧y.2.2.1≤y.2.2.2.1∧y.2.2.2.1≤most:=by
   intro r hr;obtain ⟨cs,hc,ht⟩:=hi r (by omega);rw [hce] at hc;have hcl:=(World.cells?_some hc).2.1;obtain ⟨n0,l0,y0,e0,g0,t0⟩:=part_of Tryz.underlying43 ht hcl 0 _ rfl rfl (by kernel_rfl);have c0:=cell_of_part hc 0 (by omega);rw [add_add] at c0;obtain ⟨n1,l1,y1,e1,g1,t1⟩:=part_of Tryz.underlying43 ht hcl 1 _ rfl rfl (by kernel_rfl);have c1:=cell_of_part hc 1 (by omega);rw [add_add] at c1;obtain ⟨n2,l2,y2,e2,g2,t2⟩:=part_of Tryz.underlying43 ht hcl 2 _ rfl rfl (by kernel_rfl);have c2:=cell_of_part hc 2 (by omega);rw [add_add] at c2;obtain ⟨n3,l3,y3,e3,g3,t3⟩:=part_of Tryz.underlying43 ht hcl 3 _ rfl rfl (by kernel_rfl);have c3:=cell_of_part hc 3 (by omega);rw [add_add] at c3;rw [Nat.add_zero] at c0
   have hfr:Fits 43 (.agg l3):=by rw [← e3]; exact hfe _ (List.mem_map.2 ⟨r,List.mem_range.2 hr,rfl⟩)
   have hf3:=fits_agg Tryz.underlying43 hfr 3 _ rfl y3.1 g3;obtain ⟨k0,hv0,_,hw0⟩:=DataW.trod_int Tryz.underlying3 t0;obtain ⟨k1,hv1,_,hw1⟩:=DataW.trod_int Tryz.underlying3 t1;obtain ⟨k2,hv2,_,hw2⟩:=DataW.trod_int Tryz.underlying3 t2;simp only [List.cons.injEq,and_true] at hv0 hv1 hv2;obtain ⟨y,hv3,hb⟩:=open_bytes t3 hf3;exact ⟨((k0,k1,k2),y),⟨by rw [c0,hv0],by rw [c1,hv1],by rw [c2,hv2],by rw [c3,hv3]⟩,⟨hw0,hw1,hw2⟩,hb⟩
  obtain ⟨y,hy⟩:=choose_lt each;refine ⟨fun r=>(y r).1.1,fun r=>(y r).1.2.1,fun r=>(y r).1.2.2,fun r=>(y r).2.1,fun r=>(y r).2.2.1,fun r=>(y r).2.2.2.1,fun r=>(y r).2.2.2.2,⟨fun hn=>?_,fun r hr=>(hy r hr).2⟩,hl,hm⟩;obtain ⟨b,off,rfl,hlt⟩:=spot_of (v:=_) (by simpa using (hy 0 hn).1.1);refine ⟨b,off,rfl,hlt,fun r hr=>?_⟩;rw [← add_none,show off+r * 4+1=off+(r * 4+1) by omega,← add_none,show off+r * 4+2=off+(r * 4+2) by omega,← add_none,show off+r * 4+3=off+(r * 4+3) by omega,← add_none];exact (hy r hr).1
end
end
end Go.Proofs.YtdpagmcickkbmaaGreatDoor
