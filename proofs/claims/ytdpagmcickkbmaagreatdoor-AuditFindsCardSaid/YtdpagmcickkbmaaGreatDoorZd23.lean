/- PIno PInb PInp PInk PInsf PFrw -/
import Derived.SizedLaws
import Derived.ProofKit
import Derived.OpenShut
import Derived.ShutString
import Derived.Deep.Matrix
import Derived.Deep.Fields
import Derived.Test.YtdpagmcickkbmaaGreatDoorZd10
namespace Go.Proofs.YtdpagmcickkbmaaGreatDoor
set_option maxRecDepth 100000
section
open Go.ChangeShapes Go.WideShapes Go.ChangeAt Go.RowKit Go.Deep
theorem own:ownKnob Tryz.prog.godebug=none:=by kernel_rfl
theorem laidOut:laidOutB Tryz.prog=true:=by kernel_rfl
def most:Nat:=140737488351232
theorem reach_most:reachBytes≤most:=by decide
section
variable {H:Type} {enc:TypeId×Value→H} {P:Program} {w:World} {base:Nat} {spare:Nat→Bool} {held:Bool}
theorem part_of {e:TypeId} {fs:Array Field} (he:P.underlying e=some (.struct fs)) {n:Nat} {cs:List Value} {x:DataW H×List MemPlace} (h:DataW.trod enc P w base spare held n e cs=some x) (hl:cs.length=fs.size)
  (j:Nat) (f:Field) (hf:fs[j]?=some f) (ho:f.offset=j) (hk:P.cellsOf f.type=1) :
  ∃ (k:Nat) (l:List (DataW H)) (y:DataW H×List MemPlace),x.1 = .agg l∧l[j]?=some y.1∧DataW.trod enc P w base spare held k f.type [cs.getD j undef]=some y:=by
 obtain ⟨xs,k,_,hx,_,hxl,hat⟩:=DataW.trod_struct he h;have hj:j<fs.size:=(Array.getElem?_eq_some_iff.1 hf).1;have h1:=hat j f hf;rw [ho,hk,take1_drop cs j undef (by omega),List.getElem?_eq_getElem (show j<xs.length by omega)] at h1;exact ⟨k,xs.map (·.1),_,by rw [hx],by rw [List.getElem?_map,List.getElem?_eq_getElem (show j<xs.length by omega)]; rfl,h1⟩
theorem cell_of_part {a:Addr} {m:Nat} {cs:List Value} (h:w.cells? base a m=some cs) (j:Nat) (hj:j<m):w.cell? (a.add j)=some (cs.getD j undef):=by
 obtain ⟨_,hl,hc⟩:=World.cells?_some h;rw [hc j hj,List.getD_eq_getElem?_getD,List.getElem?_eq_getElem (show j<cs.length by omega)];rfl
end
section
variable {H:Type} {enc:TypeId×Value→H} {W:World} {held:Bool}
def Fits (t:TypeId) (d:DataW H):Prop:=∀ n∈d.weights Tryz.prog t,n≤reachBytes
theorem fits_all:∀ (e:TypeId) (l:List (DataW H)),(∀ n∈DataW.weightsAll Tryz.prog e l,n≤reachBytes)→∀ d∈l,Fits e d
  | _,[],_,d,hd=>by cases hd
  | e,x :: l,h,d,hd=>by
    simp only [DataW.weightsAll,List.mem_append] at h
    rcases List.mem_cons.1 hd with rfl | hd
    · exact fun n hn=>h n (.inl hn)
    · exact fits_all e l (fun n hn=>h n (.inr hn)) d hd
theorem fits_slice {t e:TypeId} {l s:List (DataW H)} (ht:Tryz.prog.underlying t=some (.slice e)) (h:Fits t (.slice l s)):(∀ d∈l,Fits e d)∧∀ d∈s,Fits e d:=by
 unfold Fits at h;simp only [DataW.weights,ht,List.mem_cons,List.mem_append] at h;exact ⟨fits_all e l fun n hn=>h n (.inr (.inl hn)),fits_all e s fun n hn=>h n (.inr (.inr hn))⟩
theorem fits_agg {t:TypeId} {fs:Array Field} {l:List (DataW H)} (ht:Tryz.prog.underlying t=some (.struct fs)) (h:Fits t (.agg l)) (j:Nat) (f:Field) (hf:fs[j]?=some f) (d:DataW H) (hd:l[j]?=some d):Fits f.type d:=by
 unfold Fits at h;simp only [DataW.weights,ht] at h
 exact fun n hn=>h n (DataW.weights_mem_each (j:=j) (by simp [hf]) hd n hn)
theorem fits_of {ts:List TypeId} {ds:List (DataW H)} (h:(DataW.weightsEach Tryz.prog ts ds).all (·≤reachBytes)=true) {j:Nat} {t:TypeId} {d:DataW H} (ht:ts[j]?=some t) (hd:ds[j]?=some d):Fits t d:=by
 intro n hn;have:=List.all_eq_true.1 h _ (DataW.weights_mem_each ht hd n hn)
 simpa using this
theorem spot_of {w:World} {ad:Addr} {v:Value} (h:w.cell? (ad.add 0)=some v):∃ b off,ad=⟨b,off,none⟩∧b<w.heap.size:=by
 obtain ⟨b,off,spot⟩:=ad
 have hspot:spot=none:=by simpa [Addr.add] using World.cell?_spot h
 subst hspot;have:=cell_lt h;rw [add_block] at this;exact ⟨b,off,rfl,this⟩
end
end
section
open Go.ChangeShapes Go.WideShapes Go.ChangeAt Go.RowKit Go.Deep
section
variable {H:Type} {enc:TypeId×Value→H} {W:World} {held:Bool}
theorem bytesOf5:Tryz.prog.bytesOf 5=1:=by kernel_rfl
theorem open_bytes {fuel:Nat} {v:Value} {x:DataW H×List MemPlace} (h:DataW.trod enc Tryz.prog W 0 (fun _=>true) held fuel 41 [v]=some x) (hf:Fits 41 x.1) :
  ∃ y:Option Addr×Nat×Nat×Bs,v = .slice y.1 y.2.1 y.2.2.1∧Bytes W W.heap.size y.1 y.2.1 y.2.2.2∧y.2.1≤y.2.2.1∧y.2.2.1≤most:=by
 rcases open_ints Tryz.underlying41 Tryz.underlying5 (by kernel_rfl) h with ⟨hcs,_⟩ | ⟨a,len,cap,zs,hcs,_,hl,hm,hz,hx,hcell,hwz⟩
 ·simp only [List.cons.injEq,and_true] at hcs
  exact ⟨(none,0,0,[]),hcs,Bytes.nil _,Nat.le_refl _,Nat.zero_le _⟩
 ·simp only [List.cons.injEq,and_true] at hcs
  simp only [if_true] at hz;have hrow:IsRow .u8 W (some a) len cap zs:=.inr ⟨a,rfl,hl,hm,hz,hcell,hwz⟩;obtain ⟨l,hb,_⟩:=hrow.bytes;refine ⟨(some a,len,cap,l),hcs,hb,hl,?_⟩;have:=hf cap (by rw [hx]; simp [DataW.weights,Tryz.underlying41,bytesOf5,lits,hz]; omega);exact Nat.le_trans this reach_most
end
end
section
open Go.ChangeShapes Go.WideShapes Go.ChangeAt Go.RowKit Go.Deep
structure Pcs (w:World) (B:Nat) (a:Option Addr) (n:Nat) (A:Nat→Option Addr) (Ln Cp:Nat→Nat) (T:Nat→Bs):Prop where
 outer:0<n→∃ b off,a=some ⟨b,off,none⟩∧b<B∧∀ r,r<n→w.cell? ⟨b,off+r,none⟩=some (.slice (A r) (Ln r) (Cp r))
 inner:∀ r,r<n→Bytes w B (A r) (Ln r) (T r)∧Ln r≤Cp r∧Cp r≤most
end
section
open Go.ChangeShapes Go.WideShapes Go.ChangeAt Go.RowKit Go.Deep
end
section
open Go.ChangeShapes Go.WideShapes Go.ChangeAt Go.RowKit Go.Deep
structure Frs (w:World) (B:Nat) (a:Option Addr) (n:Nat) (K:Nat→BitVec 8) (A:Nat→Option Addr) (Ln Cp:Nat→Nat) (T:Nat→Bs):Prop where
 outer:0<n→∃ b off,a=some ⟨b,off,none⟩∧b<B∧∀ r,r<n→w.cell? ⟨b,off+r * 2,none⟩=some (.int .u8 (K r).toNat)∧w.cell? ⟨b,off+r * 2+1,none⟩=some (.slice (A r) (Ln r) (Cp r))
 inner:∀ r,r<n→Bytes w B (A r) (Ln r) (T r)∧Ln r≤Cp r∧Cp r≤most
end
section
open Go.RowKit
structure Ent where
 k:BitVec 8
 A:Option Addr
 n:Nat
 c:Nat
 l:Bs
def Ent.cells (e:Ent):List Value:=[.int .u8 e.k.toNat,.slice e.A e.n e.c]
def cellsOf (es:List Ent):List Value:=es.flatMap Ent.cells
def kl (es:List Ent):List (BitVec 8×Bs):=es.map fun e=>(e.k,e.l)
def ent0:Ent:=⟨0#8,none,0,0,[]⟩
theorem cellsOf_len (es:List Ent):(cellsOf es).length=es.length * 2:=by
 induction es with
 | nil=>rfl
 | cons e es ih=>simp [cellsOf,Ent.cells] at ih ⊢; omega
theorem cellsOf_app (es fs:List Ent):cellsOf (es ++ fs)=cellsOf es ++ cellsOf fs:=by simp [cellsOf]
theorem cellsOf_get:∀ (es:List Ent) (r:Nat),r<es.length→(cellsOf es)[r * 2]?=some (.int .u8 (es.getD r ent0).k.toNat)∧(cellsOf es)[r * 2+1]?=some (.slice (es.getD r ent0).A (es.getD r ent0).n (es.getD r ent0).c)
  | [],r,h=>by simp at h
  | e :: es,0,_=>⟨rfl,rfl⟩
  | e :: es,r+1,h=>by
    have:=cellsOf_get es r (by simpa using h);rw [show (r+1) * 2=r * 2+2 by omega];exact this
theorem cellsOf_one (es:List Ent):∀ u∈cellsOf es,u.oneCell'=true:=by
 intro u hu;unfold cellsOf at hu;rw [List.mem_flatMap] at hu;obtain ⟨e,_,he⟩:=hu;simp [Ent.cells] at he
 rcases he with rfl | rfl <;> rfl
theorem getD_mem {es:List Ent} {r:Nat} (h:r<es.length):es.getD r ent0∈es:=by
 rw [List.getD_eq_getElem?_getD,List.getElem?_eq_getElem h];exact List.getElem_mem h
theorem getD_kl (es:List Ent) (r:Nat):((kl es).getD r (0#8,[]))=((es.getD r ent0).k,(es.getD r ent0).l):=by
 unfold kl;rw [List.getD_eq_getElem?_getD,List.getD_eq_getElem?_getD,List.getElem?_map]
 cases es[r]? <;> rfl
structure FrRow (base:Nat) (w:World) (a:Option Addr) (n c:Nat) (es:List Ent):Prop where
 row:w.ownsRow base 96 2 (.slice a n c) n (cellsOf es)
 cap:n≤c
 ents:∀ e∈es,Bytes w w.heap.size e.A e.n e.l
def Off (S:Nat→Prop) (es:List Ent):Prop:=∀ e∈es,0<e.n→∀ p,e.A=some p→¬ S p.block
theorem Off.mono {S T:Nat→Prop} {es:List Ent} (h:Off T es) (hs:∀ b,S b→T b):Off S es:=fun e he hn p hp hS=>h e he hn p hp (hs _ hS)
theorem Off.app {S:Nat→Prop} {es fs:List Ent} (h:Off S es) (k:Off S fs):Off S (es ++ fs):=fun e he=>by
 rcases List.mem_append.1 he with h' | h'
 ·exact h e h'
 ·exact k e h'
section
variable {base n c:Nat} {w w':World} {a:Option Addr} {es:List Ent}
theorem FrRow.len (h:FrRow base w a n c es):es.length=n:=by
 have:=h.row.1;rw [cellsOf_len] at this;omega
theorem FrRow.lt (h:FrRow base w a n c es) {p:Addr} (hp:a=some p):base≤p.block∧p.block<w.heap.size:=by
 subst hp;exact h.row.lt p.block rfl
theorem Bytes.onlyo {S:Nat→Prop} {w w':World} {B n:Nat} {x:Option Addr} {l:Bs} (hl:Bytes w B x n l) (h:Only S w w') (hs:0<n→∀ p,x=some p→¬ S p.block):Bytes w' B x n l:=
 ⟨hl.1,fun hn=>by
  obtain ⟨q,off,e,hlt,hc⟩:=hl.2 hn
  exact ⟨q,off,e,hlt,fun i hi=>(h.cell (p:=⟨q,off+i,none⟩) (cell_lt (hc i hi)) (by simpa using hs hn _ e)).trans (hc i hi)⟩⟩
theorem FrRow.only {S:Nat→Prop} (h:FrRow base w a n c es) (hO:Only S w w') (ha:∀ p,a=some p→¬ S p.block) (he:Off S es):FrRow base w' a n c es:=by
 refine ⟨⟨h.row.1,?_⟩,h.cap,fun e hm=>((h.ents e hm).onlyo hO (he e hm)).more hO.size⟩
 rcases h.row.2 with h0 | ⟨g,cap,cur,e,hb,hg,hrest⟩
 ·exact .inl h0
 ·injection e with e1 _ _
  have hlt:g<w.heap.size:=by
   rcases Nat.lt_or_ge g w.heap.size with h' | h'
   ·exact h'
   ·rw [Array.getElem?_eq_none h'] at hg; cases hg
  exact .inr ⟨g,cap,cur,by rw [e1]; rename_i e2 e3; rw [e3],hb,(hO.block g hlt (ha _ e1)).trans hg,hrest⟩
theorem FrRow.below (h:FrRow base w a n c es) (hb:Below w.heap.size w w'):FrRow base w' a n c es:=h.only (only_of_below hb) (fun _ _ h=>h) (fun _ _ _ _ _ h=>h)
theorem FrRow.mono {base':Nat} (h:FrRow base w a n c es) (hb:base'≤base):FrRow base' w a n c es:=by
 refine ⟨⟨h.row.1,?_⟩,h.cap,h.ents⟩
 rcases h.row.2 with h0 | ⟨g,cap,cur,e,hb2,hrest⟩
 ·exact .inl h0
 ·exact .inr ⟨g,cap,cur,e,Nat.le_trans hb hb2,hrest⟩
theorem FrRow.nil (base:Nat) (w:World):FrRow base w none 0 0 []:=⟨⟨rfl,.inl ⟨rfl,rfl⟩⟩,Nat.le_refl _,fun _ h=>by cases h⟩
end
def Fsrc (w:World) (A:Option Addr) (m:Nat) (es:List Ent):Prop:=es.length=m∧(0<m→∃ ad,A=some ad∧∀ j u,(cellsOf es)[j]?=some u→w.cell? (ad.add j)=some u)
theorem fr_info:∃ i,Tryz.prog.info? 96=some i∧i.zero=some (.agg #[.int .u8 0,.slice none 0 0])∧i.size=2∧i.bytes=32:=info_parts (by kernel_rfl)
theorem run_fapp (ty:TypeId) {base n c:Nat} {w:World} {a:Option Addr} {es:List Ent} (h:FrRow base w a n c es) {A:Option Addr} {m c2:Nat} {fs:List Ent} (hs:Fsrc w A m fs)
  (hf:∀ e∈fs,Bytes w w.heap.size e.A e.n e.l) (ho:Off (In a) (es ++ fs)) (hroom:n+m≤4000000000000) (hbase:base≤w.heap.size) :
  ∃ A2 c3 w',(Builtin.append_ #[132,132] ty #[.slice a n c,.slice A m c2]).run Tryz.prog w = .ok (.slice A2 (n+m) c3) w'∧FrRow base w' A2 (n+m) c3 (es ++ fs)∧Only (In a) w w' ∧
   ∀ p,A2=some p→In a p.block∨w.heap.size≤p.block:=by
 obtain ⟨i0,hi0,hi1,hi2,hi3⟩:=fr_info
 by_cases hm:m=0
 ·subst hm
  have hfs:fs=[]:=List.eq_nil_of_length_eq_zero hs.1;subst hfs;refine ⟨a,c,w,?_,by simpa using h,Only.refl _ w,fun p hp=>.inl ⟨p,hp,rfl⟩⟩;have hcap:=h.cap;refine run_append_nothing w 132 132 ty 96 i0 Tryz.underlying132 hi0 a n c hcap _ ?_
  rcases A with _ | ad
  ·exact Src.ofNil w Tryz.underlying132 c2
  ·exact Src.ofSlice w Tryz.underlying132 ad 0 c2 [] (by simp) (by intro j u hu; simp at hu) (by intro u hu; cases hu)
 ·obtain ⟨ad,rfl,hc⟩:=hs.2 (by omega)
  obtain ⟨v',w',hrun,h1,h2,_,h4⟩:=run_append_own_at (P:=Tryz.prog) (w:=w) base 132 ty 96 i0 _ 2 32 Tryz.underlying132 hi0 hi1 hi2 hi3 rfl (by omega) (.slice a n c) n (cellsOf es) h.row ad m c2 (cellsOf fs)
   (by rw [cellsOf_len,hs.1]) hc (cellsOf_one fs) (by unfold maxLen; omega) (by omega) hbase
  have hO:Only (In a) w w':=Only.grown h2 (fun k hk _=>by
   rcases a with _ | p
   ·simp [Value.ownBlock] at hk
   ·simp [Value.ownBlock] at hk
    exact ⟨p,rfl,hk⟩)
  have hform:∃ A2 c3,v' = .slice A2 (n+m) c3∧n+m≤c3:=by
   rcases h1.2 with ⟨rfl,h0⟩ | ⟨g,cap,cur,rfl,_,_,h5,_⟩
   ·omega
   ·exact ⟨_,cap,rfl,h5⟩
  obtain ⟨A2,c3,rfl,hc3⟩:=hform;refine ⟨A2,c3,w',hrun,⟨by rw [cellsOf_app]; exact h1,hc3,fun e he=>?_⟩,hO,fun p hp=>?_⟩
  ·have:Bytes w w.heap.size e.A e.n e.l:=by
    rcases List.mem_append.1 he with h' | h'
    ·exact h.ents e h'
    ·exact hf e h'
   exact (this.onlyo hO (ho e he)).more hO.size
  ·subst hp
   rcases h4 with h5 | h5
   ·left
    rcases a with _ | q
    ·simp [Value.ownBlock] at h5
    ·simp [Value.ownBlock] at h5
     exact ⟨q,rfl,h5.symm⟩
   ·right
    simp [Value.ownBlock] at h5;omega
theorem wpList_fapp {w:World} {ops:Array Oper} {rest:List Oper} {o:Oper} {act:Act} {Q:Exit→Act→World→Prop} (hgd:o.guard=none) (s x:Operand)
  (hop:o.op = .call { callee:=.builtin .append,args:=#[s,x],argTypes:=#[132,132] })
  {base n c:Nat} {a:Option Addr} {es:List Ent} (hv:act.eval s = .slice a n c) (h:FrRow base w a n c es) {A:Option Addr} {m c2:Nat} {fs:List Ent} (hx:act.eval x = .slice A m c2) (hs:Fsrc w A m fs)
  (hf:∀ e∈fs,Bytes w w.heap.size e.A e.n e.l) (ho:Off (In a) (es ++ fs)) (hroom:n+m≤4000000000000) (hbase:base≤w.heap.size)
  (hk:∀ A2 c3 w',FrRow base w' A2 (n+m) c3 (es ++ fs)→Only (In a) w w'→(∀ p,A2=some p→In a p.block∨w.heap.size≤p.block)→wpList Tryz.prog ops Q rest (act.put o.dst (.slice A2 (n+m) c3)) w') :
  wpList Tryz.prog ops Q (o :: rest) act w:=by
 obtain ⟨A2,c3,w',hrun,h1,h2,h3⟩:=run_fapp o.type h (c2:=c2) hs hf ho hroom hbase
 refine wpList_plain hgd fun K hK=>?_
 unfold Oper.wp execOp;simp only [hop,resolve,invoke,builtin,Sem.run_bind,Sem.run_pure,Result.andThen_ok,List.map_toArray,List.map_cons,List.map_nil,hv,hx,hrun];exact hK _ _ (hk A2 c3 w' h1 h2 h3)
structure Fv (w:World) (B:Nat) (a:Option Addr) (n:Nat) (K:Nat→BitVec 8) (A:Nat→Option Addr) (Ln Cp:Nat→Nat) (T:Nat→Bs):Prop where
 outer:0<n→∃ b off,a=some ⟨b,off,none⟩∧b<B∧∀ r,r<n→w.cell? ⟨b,off+r * 2,none⟩=some (.int .u8 (K r).toNat)∧w.cell? ⟨b,off+r * 2+1,none⟩=some (.slice (A r) (Ln r) (Cp r))
 inner:∀ r,r<n→Bytes w B (A r) (Ln r) (T r)
theorem FrRow.view {base n c:Nat} {w:World} {a:Option Addr} {es:List Ent} (h:FrRow base w a n c es) :
  Fv w w.heap.size a n (fun r=>(es.getD r ent0).k) (fun r=>(es.getD r ent0).A) (fun r=>(es.getD r ent0).n) (fun r=>(es.getD r ent0).c) (fun r=>(es.getD r ent0).l):=by
 have hl:=h.len;refine ⟨fun hn=>?_,fun r hr=>h.ents _ (getD_mem (by omega))⟩;obtain ⟨g,cap,hv,h1,h2⟩:=h.row.form hn
 injection hv with hv
 subst hv;refine ⟨g,0,rfl,h2,fun r hr=>?_⟩;obtain ⟨h3,h4⟩:=cellsOf_get es r (by omega);have c3:=h.row.cells (g:=g) rfl _ _ h3;have c4:=h.row.cells (g:=g) rfl _ _ h4;rw [add_none] at c3 c4;exact ⟨c3,by rw [Nat.add_assoc]; exact c4⟩
end
end Go.Proofs.YtdpagmcickkbmaaGreatDoor
