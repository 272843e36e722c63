/- PMem PFo PBx PBo PFot -/
import Derived.WalkKit
import Derived.Deep.AppendLies
import Derived.Deep.Draws
import Derived.Laws.CopyOwn
import Derived.Lib.Hide
namespace Go.Proofs.YtdpagmcickkbmaaGreatDoor
set_option maxRecDepth 100000
section
open Go.RowKit
def by8 (c:BitVec 8):Value:=.int .u8 c.toNat
def Bytes (w:World) (B:Nat) (a:Option Addr) (n:Nat) (l:List (BitVec 8)):Prop:=
 l.length=n∧(0<n→∃ b off,a=some ⟨b,off,none⟩∧b<B∧∀ i,i<n→w.cell? ⟨b,off+i,none⟩=some (.int .u8 (l[i]?.getD 0#8).toNat))
section
variable {w w':World} {B B':Nat} {a:Option Addr} {n:Nat} {l:List (BitVec 8)}
theorem Bytes.keep (h:Bytes w B a n l) (hk:∀ p:Addr,p.block<B→w'.cell? p=w.cell? p):Bytes w' B a n l:=
 ⟨h.1,fun hn=>by
  obtain ⟨b,off,e,hlt,hc⟩:=h.2 hn
  exact ⟨b,off,e,hlt,fun i hi=>(hk ⟨b,off+i,none⟩ hlt).trans (hc i hi)⟩⟩
theorem Bytes.below (h:Bytes w B a n l) (hb:Below B w w'):Bytes w' B a n l:=h.keep fun _ hp=>hb.cell hp
theorem Bytes.more (h:Bytes w B a n l) (hB:B≤B'):Bytes w B' a n l:=
 ⟨h.1,fun hn=>by
  obtain ⟨b,off,e,hlt,hc⟩:=h.2 hn
  exact ⟨b,off,e,by omega,hc⟩⟩
theorem Bytes.nil (c:Option Addr):Bytes w B c 0 []:=⟨rfl,fun h=>absurd h (by omega)⟩
theorem Bytes.of_own {base e c:Nat} (h:w.ownsRow base e 1 (.slice a n c) n (l.map by8)):Bytes w w.heap.size a n l:=by
 refine ⟨by simpa using h.1,fun hn=>?_⟩;obtain ⟨g,cap,hv,_,hlt⟩:=h.form hn
 have hA:a=some ⟨g,0,none⟩:=by injection hv
 subst hA;refine ⟨g,0,rfl,hlt,fun i hi=>?_⟩
 have hl:i<l.length:=by have:=h.1; simp at this; omega
 have:=h.cells (g:=g) rfl i (by8 (l[i]?.getD 0#8)) (by simp [List.getElem?_eq_getElem hl])
 rw [← show (Addr.add ⟨g,0,none⟩ i)=⟨g,0+i,none⟩ from by
  unfold Addr.add
  by_cases h:i=0
  ·subst h; rfl
  ·simp [h]]
 exact this
end
section
variable {P:Program} {w:World}
theorem own_cell {base e n g cap:Nat} {l:List (BitVec 8)} (h:w.ownsRow base e 1 (.slice (some ⟨g,0,none⟩) n cap) n (l.map by8)) (j:Nat) (hj:j<l.length) :
  w.cell? ⟨g,j,none⟩=some (.int .u8 (l[j]?.getD 0#8).toNat):=by
 rw [h.cellAt j (by have:=h.1; simp at this; omega)];simp [List.getElem?_eq_getElem hj,by8]
theorem own_empty (w:World) (e:TypeId) (base:Nat) (hb:base≤w.heap.size) :
  (w.alloc (.cells #[] e)).ownsRow base e 1 (.slice (some ⟨w.heap.size,0,none⟩) 0 0) 0 (([]:List (BitVec 8)).map by8):=
 ⟨rfl,.inr ⟨w.heap.size,0,#[],rfl,hb,heap_alloc_new w _,Nat.le_refl _,Nat.zero_le _,rfl,rfl⟩⟩
theorem run_app (base:Nat) (t ty e:TypeId) (i:TypeInfo) (z:Value) (ht:P.underlying t=some (.slice e)) (hi:P.info? e=some i) (hz:i.zero=some z)
  (hsize:i.size=1) (hby:i.bytes=1) (hzs:z.cells.size=1)
  (v:Value) (n:Nat) (k:List (BitVec 8)) (hown:w.ownsRow base e 1 v n (k.map by8))
  (B:Nat) (A:Option Addr) (m c:Nat) (l:List (BitVec 8)) (hr:Bytes w B A m l)
  (hroom:n+m≤140737488355328) (hbase:base≤w.heap.size) :
  ∃ v' w',(Builtin.append_ #[t,t] ty #[v,.slice A m c]).run P w = .ok v' w'∧w'.ownsRow base e 1 v' (n+m) ((k ++ l).map by8)∧w.grownBy w' v.ownBlock ∧
   (v'.ownBlock=v.ownBlock∨v'.ownBlock=some w.heap.size):=by
 rcases A with _ | ad
 ·have hm:m=0:=by
   rcases Nat.eq_zero_or_pos m with h | h
   ·exact h
   ·obtain ⟨_,_,h',_⟩:=hr.2 h
    cases h'
  subst hm;have hl:l=[]:=List.eq_nil_of_length_eq_zero hr.1;subst hl;refine ⟨v,w,?_,by simpa using hown,World.grownBy.refl w _,.inl rfl⟩
  rcases hown.2 with ⟨rfl,rfl⟩ | ⟨g,cap,cur,rfl,_,_,hnc,_⟩
  ·simp [Builtin.append_,run_underlying ht,sizeOf,typeInfo,hi,Builtin.lenOf,Builtin.firstCells]
  ·simp [Builtin.append_,run_underlying ht,sizeOf,typeInfo,hi,Builtin.lenOf,Builtin.firstCells,hnc,storeCells]
 ·have hcells:∀ j u,(l.map by8)[j]?=some u→w.cell? (ad.add j)=some u:=by
   intro j u hu
   have hj:j<l.length:=by
    rcases Nat.lt_or_ge j l.length with h | h
    ·exact h
    ·rw [List.getElem?_eq_none (by simpa using h)] at hu; cases hu
   obtain ⟨b,off,h,_,hc⟩:=hr.2 (by have:=hr.1; omega)
   injection h with h
   subst h;have:=hc j (by have:=hr.1; omega)
   rw [show (Addr.add ⟨b,off,none⟩ j)=⟨b,off+j,none⟩ from by
    unfold Addr.add
    by_cases h:j=0
    ·subst h; rfl
    ·simp [h],this]
   rw [← hu];simp [List.getElem?_eq_getElem hj,by8]
  obtain ⟨v',w',hrun,h2,h3,_,h5⟩:=run_append_own_at (P:=P) (w:=w) base t ty e i z 1 1 ht hi hz hsize hby hzs (by omega) v n (k.map by8) hown ad m c (l.map by8)
   (by simpa using hr.1) hcells (by intro u hu; simp at hu; obtain ⟨c,_,rfl⟩:=hu; rfl) (by simp only [maxLen]; omega) (by omega) hbase
  exact ⟨v',w',hrun,by simpa using h2,h3,h5⟩
theorem wpList_app {ops:Array Oper} {rest:List Oper} {o:Oper} {a:Act} {Q:Exit→Act→World→Prop} (hgd:o.guard=none) (s x:Operand) (t:TypeId)
  (ho:o.op = .call { callee:=.builtin .append,args:=#[s,x],argTypes:=#[t,t] })
  (base:Nat) (e:TypeId) (i:TypeInfo) (z:Value) (ht:P.underlying t=some (.slice e)) (hi:P.info? e=some i) (hz:i.zero=some z)
  (hsize:i.size=1) (hby:i.bytes=1) (hzs:z.cells.size=1)
  (v:Value) (n:Nat) (k:List (BitVec 8)) (hs:a.eval s=v) (hown:w.ownsRow base e 1 v n (k.map by8))
  (B:Nat) (A:Option Addr) (m c:Nat) (l:List (BitVec 8)) (hx:a.eval x = .slice A m c) (hr:Bytes w B A m l)
  (hroom:n+m≤140737488355328) (hbase:base≤w.heap.size)
  (h:∀ v' w',w'.ownsRow base e 1 v' (n+m) ((k ++ l).map by8)→w.grownBy w' v.ownBlock→(v'.ownBlock=v.ownBlock∨v'.ownBlock=some w.heap.size)→wpList P ops Q rest (a.put o.dst v') w') :
  wpList P ops Q (o :: rest) a w:=by
 obtain ⟨v',w',hrun,h2,h3,h4⟩:=run_app (P:=P) (w:=w) base t o.type e i z ht hi hz hsize hby hzs v n k hown B A m c l hr hroom hbase
 refine wpList_plain hgd fun K hK=>?_
 unfold Oper.wp execOp;simp only [ho,resolve,invoke,builtin,Sem.run_bind,Sem.run_pure,Result.andThen_ok,List.map_toArray,List.map_cons,List.map_nil,hs,hx,hrun];exact hK _ _ (h v' w' h2 h3 h4)
end
structure Only (S:Nat→Prop) (w w':World):Prop where
 os:w'.os=w.os
 tape:w'.tape=w.tape
 output:w'.output=w.output
 size:w.heap.size≤w'.heap.size
 block:∀ k,k<w.heap.size→¬ S k→w'.heap[k]?=w.heap[k]?
section
variable {S T:Nat→Prop} {a b c:World}
theorem Only.refl (S:Nat→Prop) (w:World):Only S w w:=⟨rfl,rfl,rfl,Nat.le_refl _,fun _ _ _=>rfl⟩
theorem Only.trans (h:Only S a b) (k:Only S b c):Only S a c:=
 ⟨k.os.trans h.os,k.tape.trans h.tape,k.output.trans h.output,Nat.le_trans h.size k.size,fun i hi hs=>(k.block i (Nat.lt_of_lt_of_le hi h.size) hs).trans (h.block i hi hs)⟩
theorem Only.mono (h:Only S a b) (hs:∀ k,k<a.heap.size→S k→T k):Only T a b:=
 ⟨h.os,h.tape,h.output,h.size,fun i hi ht=>h.block i hi fun hh=>ht (hs i hi hh)⟩
theorem Only.below {B:Nat} (h:Only S a b) (hB:B≤a.heap.size) (hs:∀ k,k<B→¬ S k):Below B a b:=
 ⟨h.os,h.tape,h.output,h.size,fun i hi=>h.block i (Nat.lt_of_lt_of_le hi hB) (hs i hi)⟩
theorem Only.drewN (h:Only S a b) (n:Nat):Only S a (b.drewN n):=⟨h.os,h.tape,h.output,h.size,h.block⟩
theorem Only.drew (h:Only S a b):Only S a b.drew:=⟨h.os,h.tape,h.output,h.size,h.block⟩
theorem Only.alloc (h:Only S a b) (o:Obj):Only S a (b.alloc o):=
 ⟨h.os,h.tape,h.output,Nat.le_trans h.size (by simp),fun i hi hs=>(Below.heap_alloc b o i (Nat.lt_of_lt_of_le hi h.size)).trans (h.block i hi hs)⟩
theorem Only.setCell (h:Only S a b) {p:Addr} (hp:S p.block) (u:Value):Only S a (b.setCell p u):=
 ⟨h.os,h.tape,h.output,by simpa [World.setCell] using h.size,fun i hi hs=>(Below.heap_setCell b p u i (by rintro rfl; exact hs hp)).trans (h.block i hi hs)⟩
theorem Only.grown {row:Option Nat} (hg:a.grownBy b row) (hr:∀ k,row=some k→k<a.heap.size→S k):Only S a b:=
 ⟨hg.os,hg.tape,hg.output,hg.size,fun i hi hs=>hg.block i hi fun e=>hs (hr i e.symm hi)⟩
theorem Only.cell (h:Only S a b) {p:Addr} (hp:p.block<a.heap.size) (hs:¬ S p.block):b.cell? p=a.cell? p:=World.cell?_of_block (w:=a) (h.block p.block hp hs)
theorem Bytes.only {B n:Nat} {x:Option Addr} {l:List (BitVec 8)} (hl:Bytes a B x n l) (h:Only S a b) (hB:B≤a.heap.size) (hs:0<n→∀ p,x=some p→¬ S p.block):Bytes b B x n l:=
 ⟨hl.1,fun hn=>by
  obtain ⟨q,off,e,hlt,hc⟩:=hl.2 hn
  exact ⟨q,off,e,hlt,fun i hi=>(h.cell (p:=⟨q,off+i,none⟩) (by simp; omega) (by simpa using hs hn _ e)).trans (hc i hi)⟩⟩
end
theorem add_none (b off i:Nat):(Addr.add ⟨b,off,none⟩ i)=⟨b,off+i,none⟩:=by
 unfold Addr.add
 by_cases h:i=0
 ·subst h; rfl
 ·simp [h]
theorem add_block (p:Addr) (i:Nat):(p.add i).block=p.block:=by
 unfold Addr.add
 split <;> rfl
def cutA (a:Option Addr) (cap k:Nat):Option Addr:=if cap=k then a else a.map (·.add k)
theorem cutA_block {a:Option Addr} {cap k:Nat} {p:Addr} (h:cutA a cap k=some p):∃ q,a=some q∧q.block=p.block:=by
 unfold cutA at h
 split at h
 ·exact ⟨p,h,rfl⟩
 ·rcases a with _ | q
  ·simp at h
  ·simp at h
   exact ⟨q,rfl,by rw [← h,add_block]⟩
theorem Bytes.cut {w:World} {B n cap k:Nat} {a:Option Addr} {l:List (BitVec 8)} (h:Bytes w B a n l) (hk:k≤n) (hc:n≤cap):Bytes w B (cutA a cap k) (n - k) (l.drop k):=by
 refine ⟨by simp [h.1],fun hn=>?_⟩;obtain ⟨b,off,rfl,hlt,hcell⟩:=h.2 (by omega);unfold cutA;rw [if_neg (by omega)];refine ⟨b,off+k,by simp [add_none],hlt,fun i hi=>?_⟩;rw [Nat.add_assoc,hcell _ (by omega),List.getElem?_drop]
theorem Bytes.take {w:World} {B n k:Nat} {a:Option Addr} {l:List (BitVec 8)} (h:Bytes w B a n l) (hk:k≤n):Bytes w B a k (l.take k):=by
 refine ⟨by simp [h.1]; omega,fun hn=>?_⟩;obtain ⟨b,off,e,hlt,hcell⟩:=h.2 (by omega);refine ⟨b,off,e,hlt,fun i hi=>?_⟩;rw [hcell _ (by omega),List.getElem?_take,if_pos hi]
theorem map_splice (c x:List (BitVec 8)) (off:Nat):splice (c.map by8) off (x.map by8)=(splice c off x).map by8:=by
 simp [splice,List.map_take,List.map_drop]
theorem wpList_copyb {P:Program} {w:World} {ops:Array Oper} {rest:List Oper} {o:Oper} {a:Act} {Q:Exit→Act→World→Prop} (hgd:o.guard=none) (d s:Operand) (dT sT:TypeId)
  (ho:o.op = .call { callee:=.builtin .copy,args:=#[d,s],argTypes:=#[dT,sT] }) (elem:TypeId) (hu:P.underlying dT=some (.slice elem)) (hsz:(P.info? elem).map (·.size)=some 1)
  (dp sp:Option Addr) (dLen dCap sLen sCap:Nat) (hd:a.eval d = .slice dp dLen dCap) (hs:a.eval s = .slice sp sLen sCap)
  (g off:Nat) (c:List (BitVec 8)) (t:TypeId) (hg:w.heap[g]?=some (.cells (c.map by8).toArray t (0,0))) (B:Nat) (x:List (BitVec 8)) (hn:x.length=Nat.min sLen dLen)
  (hdp:0<x.length→dp=some ⟨g,off,none⟩) (hx:Bytes w B sp x.length x) (hfit:off+x.length≤c.length)
  (h:∀ w',w'.heap[g]?=some (.cells ((splice c off x).map by8).toArray t (0,0))→Only (fun k=>k=g) w w'→wpList P ops Q rest (a.put o.dst (.int .i64 x.length)) w') :
  wpList P ops Q (o :: rest) a w:=by
 rcases Nat.eq_zero_or_pos x.length with h0 | hpos
 ·refine wpList_copy_nothing hgd d s dT sT ho elem hu hsz dp sp dLen dCap sLen sCap hd hs (by omega) ?_
  have hx0:x=[]:=List.eq_nil_of_length_eq_zero h0;subst hx0;have:=h w (by rw [hg]; simp [splice]) (Only.refl _ _);exact this
 ·obtain ⟨b,o',rfl,_,hc⟩:=hx.2 hpos
  obtain rfl:=hdp hpos;refine wpList_copy_own hgd d s dT sT ho elem hu hsz g off dLen dCap ⟨b,o',none⟩ sLen sCap hd hs _ t hg (x.map by8) (by simpa using hn) ?_ (by simpa using hfit) (by intro u hu; simp at hu; obtain ⟨c,_,rfl⟩:=hu; rfl) ?_
  ·intro j v hj
   have hjl:j<x.length:=by
    rcases Nat.lt_or_ge j x.length with h | h
    ·exact h
    ·rw [List.getElem?_eq_none (by simpa using h)] at hj; cases hj
   rw [add_none,hc j hjl,← hj];simp [List.getElem?_eq_getElem hjl,by8]
  ·have hlen:((x.map by8).length:Int)=(x.length:Int):=by simp
   rw [show goInt ((x.map by8).length:Int)=Value.int .i64 (x.length:Int) by rw [hlen]; rfl];refine h _ ?_ ⟨rfl,rfl,rfl,by simp [World.setRow],fun k hk hne=>setRow_other w g k _ hne⟩;have hsp:=map_splice c x off;unfold splice at hsp;rw [setRow_heap w g _ _ t _ hg];simp only [List.length_map] at hsp ⊢;rw [hsp];rfl
def IsRow (k:IntKind) (w:World) (a:Option Addr) (len cap:Nat) (zs:List Int):Prop:=
 (a=none∧len=0∧cap=0∧zs=[]) ∨
 ∃ x,a=some x∧len≤cap∧cap≤maxLen∧zs.length=cap∧(∀ i,i<zs.length→w.cell? (x.add i)=some (.int k (zs.getD i 0)))∧∀ n∈zs,(Lit.int k n).wf=true
theorem cell_lt {w:World} {p:Addr} {v:Value} (h:w.cell? p=some v):p.block<w.heap.size:=by
 rcases Nat.lt_or_ge p.block w.heap.size with h' | h'
 ·exact h'
 ·simp [World.cell?,Array.getElem?_eq_none h'] at h
theorem IsRow.bytes {w:World} {a:Option Addr} {len cap:Nat} {zs:List Int} (h:IsRow .u8 w a len cap zs) :
  ∃ l,Bytes w w.heap.size a len l∧len≤9223372036854775807:=by
 rcases h with ⟨rfl,rfl,rfl,rfl⟩ | ⟨x,rfl,hl,hm,hz,hc,hw⟩
 ·exact ⟨[],⟨rfl,fun h=>absurd h (by omega)⟩,by omega⟩
 ·refine ⟨(zs.take len).map (BitVec.ofInt 8),⟨by simp; omega,fun hn=>?_⟩,by unfold maxLen at hm; omega⟩
  obtain ⟨b,off,spot⟩:=x;have h0:=hc 0 (by omega)
  have hspot:spot=none:=by simpa [Addr.add] using World.cell?_spot h0
  subst hspot;refine ⟨b,off,rfl,by simpa [Addr.add] using cell_lt h0,fun i hi=>?_⟩
  have hi':i<zs.length:=by omega
  have hci:=hc i hi'
  have he:Addr.add ⟨b,off,none⟩ i=⟨b,off+i,none⟩:=by
   unfold Addr.add
   by_cases h:i=0
   ·subst h; rfl
   ·simp [h]
  rw [he] at hci;rw [hci];have hwf:=hw zs[i] (List.getElem_mem hi')
  have hwf':0≤zs[i]∧zs[i]<256:=by
   simp [Lit.wf,IntKind.min,IntKind.max,IntKind.bits,IntKind.signed] at hwf;omega
  have e1:zs.getD i 0=zs[i]:=by simp [List.getD_eq_getElem?_getD,List.getElem?_eq_getElem hi']
  have e2:((zs.take len).map (BitVec.ofInt 8))[i]?.getD 0#8=BitVec.ofInt 8 zs[i]:=by
   simp [hi,List.getElem?_eq_getElem hi']
  rw [e1,e2];obtain ⟨m,hm'⟩:=Int.eq_ofNat_of_zero_le hwf'.1;rw [hm',ofInt_u8 m (by omega)]
theorem ret_int {k:IntKind} {a b:Int} (h:a=b):Ending.returned (.int k a) = .returned (.int k b):=by rw [h]
end
section
def rget:List (Int×Int)→Int→Option Int
 | [],_=>none
 | p :: t,k=>if p.1=k then some p.2 else rget t k
def rput:List (Int×Int)→Int→Int→List (Int×Int)
 | [],k,v=>[(k,v)]
 | p :: t,k,v=>if k<p.1 then (k,v) :: p :: t else if p.1=k then (k,v) :: t else p :: rput t k v
def rdel:List (Int×Int)→Int→List (Int×Int)
 | [],_=>[]
 | p :: t,k=>if p.1=k then t else p :: rdel t k
def Rising (l:List (Int×Int)):Prop:=l.Pairwise fun p q=>p.1<q.1
def rhas (l:List (Int×Int)) (k:Int):Bool:=(rget l k).isSome
def rrole (l:List (Int×Int)) (k:Int):Int:=(rget l k).getD 0
theorem rget_of_lt {l:List (Int×Int)} {k:Int} (h:∀ p∈l,k<p.1):rget l k=none:=by
  induction l with
  | nil=>rfl
  | cons p t ih =>
    have hp:=h p List.mem_cons_self;rw [rget,if_neg (by omega),ih (fun q hq=>h q (List.mem_cons_of_mem _ hq))]
theorem rput_mem {l:List (Int×Int)} {k v:Int} {p:Int×Int} (h:p∈rput l k v):p=(k,v)∨p∈l:=by
  induction l with
  | nil=>simp [rput] at h; exact .inl h
  | cons q t ih =>
    rw [rput] at h
    split at h
    · rcases List.mem_cons.1 h with h | h
      · exact .inl h
      · exact .inr h
    · split at h
      · rcases List.mem_cons.1 h with h | h
        · exact .inl h
        · exact .inr (List.mem_cons_of_mem _ h)
      · rcases List.mem_cons.1 h with h | h
        · exact .inr (h ▸ List.mem_cons_self)
        · rcases ih h with h | h
          · exact .inl h
          · exact .inr (List.mem_cons_of_mem _ h)
theorem rdel_mem {l:List (Int×Int)} {k:Int} {p:Int×Int} (h:p∈rdel l k):p∈l:=by
  induction l with
  | nil=>simp [rdel] at h
  | cons q t ih =>
    rw [rdel] at h
    split at h
    · exact List.mem_cons_of_mem _ h
    · rcases List.mem_cons.1 h with h | h
      · exact h ▸ List.mem_cons_self
      · exact List.mem_cons_of_mem _ (ih h)
theorem Rising.put {l:List (Int×Int)} (h:Rising l) (k v:Int):Rising (rput l k v):=by
  induction l with
  | nil=>simp [Rising,rput]
  | cons p t ih =>
    obtain ⟨h1,h2⟩:=List.pairwise_cons.1 h;rw [rput]
    split
    · refine List.pairwise_cons.2 ⟨fun q hq=>?_,h⟩
      rcases List.mem_cons.1 hq with hq | hq
      · subst hq; assumption
      · have:=h1 q hq; show k<q.1; omega
    · split
      · next _ e=>exact List.pairwise_cons.2 ⟨fun q hq=>by have:=h1 q hq; show k<q.1; omega,h2⟩
      · refine List.pairwise_cons.2 ⟨fun q hq=>?_,ih h2⟩
        rcases rput_mem hq with hq | hq
        · subst hq; show p.1<k; omega
        · exact h1 q hq
theorem Rising.del {l:List (Int×Int)} (h:Rising l) (k:Int):Rising (rdel l k):=by
  induction l with
  | nil=>exact h
  | cons p t ih =>
    obtain ⟨h1,h2⟩:=List.pairwise_cons.1 h;rw [rdel]
    split
    · exact h2
    · exact List.pairwise_cons.2 ⟨fun q hq=>h1 q (rdel_mem hq),ih h2⟩
theorem rget_put {l:List (Int×Int)} (h:Rising l) (k v j:Int):rget (rput l k v) j=if j=k then some v else rget l j:=by
  induction l with
  | nil=>simp [rput,rget,eq_comm]
  | cons p t ih =>
    obtain ⟨h1,h2⟩:=List.pairwise_cons.1 h;rw [rput]
    split
    · rw [rget]
      by_cases e:k=j
      · subst e; simp
      · rw [if_neg e,if_neg (fun e'=>e e'.symm)]
    · split
      · next _ e =>
        rw [rget,rget]
        by_cases e2:k=j
        · subst e2; simp
        · rw [if_neg e2,if_neg (fun e'=>e2 e'.symm),if_neg (by omega)]
      · rw [rget,rget,ih h2]
        by_cases e2:p.1=j
        · rw [if_pos e2,if_pos e2,if_neg (by omega)]
        · rw [if_neg e2,if_neg e2]
theorem rget_del {l:List (Int×Int)} (h:Rising l) (k j:Int):rget (rdel l k) j=if j=k then none else rget l j:=by
  induction l with
  | nil=>simp [rdel,rget]
  | cons p t ih =>
    obtain ⟨h1,h2⟩:=List.pairwise_cons.1 h;rw [rdel]
    split
    · next e =>
      by_cases e2:j=k
      · subst e2; subst e
        rw [if_pos rfl];exact rget_of_lt h1
      · rw [if_neg e2,rget,if_neg (by omega)]
    · rw [rget,rget,ih h2]
      by_cases e2:p.1=j
      · rw [if_pos e2,if_pos e2,if_neg (by omega)]
      · rw [if_neg e2,if_neg e2]
theorem rlen_put {l:List (Int×Int)} (h:Rising l) (k v:Int):(rput l k v).length=if rhas l k then l.length else l.length+1:=by
  induction l with
  | nil=>simp [rput,rhas,rget]
  | cons p t ih =>
    obtain ⟨h1,h2⟩:=List.pairwise_cons.1 h;rw [rput]
    split
    · next hlt =>
      have:rget (p :: t) k=none:=rget_of_lt (fun q hq=>by
        rcases List.mem_cons.1 hq with hq | hq
        · subst hq; exact hlt
        · have:=h1 q hq; omega)
      simp [rhas,this]
    · split
      · next _ e=>simp [rhas,rget,e]
      · next _ e =>
        have hh:rhas (p :: t) k=rhas t k:=by unfold rhas; rw [rget,if_neg e]
        rw [hh,List.length_cons,List.length_cons,ih h2]
        split <;> rfl
theorem rlen_del (l:List (Int×Int)) (k:Int):(rdel l k).length+(if rhas l k then 1 else 0)=l.length:=by
  induction l with
  | nil=>simp [rdel,rhas,rget]
  | cons p t ih =>
    rw [rdel]
    by_cases e:p.1=k
    · rw [if_pos e]; simp [rhas,rget,e]
    · have hh:rhas (p :: t) k=rhas t k:=by unfold rhas; rw [rget,if_neg e]
      rw [if_neg e,hh,List.length_cons,List.length_cons];omega
theorem rget_mem {l:List (Int×Int)} {k v:Int} (h:rget l k=some v):(k,v)∈l:=by
  induction l with
  | nil=>cases h
  | cons p t ih =>
    rw [rget] at h
    split at h
    · next e=>injection h with h; obtain ⟨a,b⟩:=p; subst e h; exact List.mem_cons_self
    · exact List.mem_cons_of_mem _ (ih h)
theorem rget_of_mem {l:List (Int×Int)} (h:Rising l) {k v:Int} (hm:(k,v)∈l):rget l k=some v:=by
  induction l with
  | nil=>cases hm
  | cons p t ih =>
    obtain ⟨h1,h2⟩:=List.pairwise_cons.1 h;rw [rget]
    rcases List.mem_cons.1 hm with hm | hm
    · subst hm; rw [if_pos rfl]
    · rw [if_neg (by have:=h1 _ hm; simp at this; omega)]
      exact ih h2 hm
theorem rdel_none {l:List (Int×Int)} {k:Int} (h:rget l k=none):rdel l k=l:=by
  induction l with
  | nil=>rfl
  | cons p t ih =>
    rw [rget] at h
    split at h
    · cases h
    · next e=>rw [rdel,if_neg e,ih h]
structure Fl where
 lease:Nat
 left:Nat
 roles:List (Int×Int)
 line:List Int
def fnew (lease:Int):Fl:=⟨(min (max lease 1) 1000).toNat,0,[],[]⟩
def isRole (r:Int):Bool:=decide (0≤r) && decide (r≤2)
def joins (s:Fl) (id r:Int):Bool:=!rhas s.roles id && (decide (0<id) && isRole r)
def fjoin (s:Fl) (id r:Int):Fl:=if joins s id r then { s with roles:=rput s.roles id r } else s
def outAt (s:Fl) (i:Nat):Fl:={ s with line:=s.line.eraseIdx i,left:=if i=0 then (if (s.line.eraseIdx i).length=0 then 0 else s.lease) else s.left }
def fout (s:Fl) (id:Int):Fl:=if id∈s.line then outAt s (s.line.idxOf id) else s
def fleave (s:Fl) (id:Int):Fl:=if rhas s.roles id then { fout s id with roles:=rdel s.roles id } else s
def sets (s:Fl) (id r:Int):Bool:=rhas s.roles id && isRole r
def frole (s:Fl) (id r:Int):Fl:={ s with roles:=rput s.roles id r }
def fset (s:Fl) (id r:Int):Fl:=if sets s id r then (if r=0 then fout (frole s id r) id else frole s id r) else s
def askE (s:Fl) (id:Int):Int:=if rhas s.roles id then (if rrole s.roles id=0 then 4 else if id∈s.line then 3 else 0) else 2
def fask (s:Fl) (id:Int):Fl:=if askE s id=0 then { s with line:=s.line ++ [id],left:=if s.line.length=0 then s.lease else s.left } else s
def dropE (s:Fl) (id:Int):Int:=if rhas s.roles id then (if id∈s.line then 0 else 3) else 2
def fdrop (s:Fl) (id:Int):Fl:=if dropE s id=0 then fout s id else s
def giveE (s:Fl) (id:Int):Int:=if rhas s.roles id then (if rrole s.roles id=0 then 4 else if s.line.head?=some id then 3 else 0) else 2
def fgive (s:Fl) (id:Int):Fl:=if giveE s id=0 then { s with line:=id :: (s.line.tail.filter fun x=>decide (x≠id)),left:=s.lease } else s
def revE (s:Fl):Int:=if s.line.length=0 then 3 else 0
def frev (s:Fl):Fl:=if s.line.length=0 then s else outAt s 0
def ftick (s:Fl):Fl:=if s.line.length=0 then s else if 1<s.left then { s with left:=s.left - 1 } else if s.line.length=1 then { s with left:=s.lease } else outAt s 0
def fhold (s:Fl):Int:=s.line.headD 0
structure FOk (n:Nat) (s:Fl):Prop where
 l1:1≤s.lease
 l2:s.lease≤1000
 left:s.left≤s.lease
 zero:s.left=0↔s.line=[]
 rising:Rising s.roles
 nodup:s.line.Nodup
 mem:∀ i∈s.line,rhas s.roles i=true∧rrole s.roles i≠0
 ids:∀ p∈s.roles,0<p.1∧p.1≤9223372036854775807∧0≤p.2∧p.2≤2
 rn:s.roles.length≤n
 ln:s.line.length≤n
theorem FOk.mono {n m:Nat} {s:Fl} (h:FOk n s) (hm:n≤m):FOk m s:=⟨h.l1,h.l2,h.left,h.zero,h.rising,h.nodup,h.mem,h.ids,Nat.le_trans h.rn hm,Nat.le_trans h.ln hm⟩
theorem fok_new (lease:Int):FOk 0 (fnew lease):=by
 refine ⟨?_,?_,Nat.zero_le _,by simp [fnew],List.Pairwise.nil,List.nodup_nil,by simp [fnew],by simp [fnew],Nat.le_refl _,Nat.le_refl _⟩
 ·show 1≤(min (max lease 1) 1000).toNat; omega
 ·show (min (max lease 1) 1000).toNat≤1000; omega
theorem rhas_put {l:List (Int×Int)} (h:Rising l) (k v j:Int):rhas (rput l k v) j=(decide (j=k) || rhas l j):=by
 unfold rhas; rw [rget_put h]
 by_cases e:j=k <;> simp [e]
theorem rrole_put {l:List (Int×Int)} (h:Rising l) (k v j:Int):rrole (rput l k v) j=if j=k then v else rrole l j:=by
 unfold rrole; rw [rget_put h]
 by_cases e:j=k <;> simp [e]
theorem rhas_of_mem {l:List (Int×Int)} {k:Int} (h:rhas l k=true):(k,rrole l k)∈l:=by
 unfold rhas at h; unfold rrole
 obtain ⟨v,hv⟩:=Option.isSome_iff_exists.1 h;rw [hv];exact rget_mem hv
section
variable {n:Nat} {s:Fl}
theorem FOk.id_lt (h:FOk n s) {i:Int} (hi:i∈s.line):0<i∧i≤9223372036854775807:=by
 have:=h.ids _ (rhas_of_mem (h.mem i hi).1);exact ⟨this.1,this.2.1⟩
theorem FOk.join (h:FOk n s) {id:Int} (r:Int) (hi:id≤9223372036854775807):FOk (n+1) (fjoin s id r):=by
 unfold fjoin
 split
 ·next hj =>
  unfold joins isRole at hj;simp at hj;obtain ⟨h1,h2,h3,h4⟩:=hj;refine ⟨h.l1,h.l2,h.left,h.zero,h.rising.put _ _,h.nodup,fun i hi=>?_,fun p hp=>?_,?_,Nat.le_succ_of_le h.ln⟩
  ·obtain ⟨h5,h6⟩:=h.mem i hi
   refine ⟨?_,?_⟩
   ·show rhas (rput s.roles id r) i=true
    rw [rhas_put h.rising,h5]; simp
   ·show rrole (rput s.roles id r) i≠0
    rw [rrole_put h.rising,if_neg]
    ·exact h6
    ·rintro rfl; rw [h1] at h5; cases h5
  ·rcases rput_mem hp with e | e
   ·subst e; exact ⟨h2,hi,h3,h4⟩
   ·exact h.ids p e
  ·show (rput s.roles id r).length≤n+1
   have:=rlen_put h.rising id r;have:=h.rn
   split at * <;> omega
 ·exact h.mono (Nat.le_succ n)
theorem FOk.cutAt (h:FOk n s) (i:Nat) (hi:i<s.line.length):FOk n (outAt s i):=by
 have hsub:(s.line.eraseIdx i).Sublist s.line:=List.eraseIdx_sublist ..;refine ⟨h.l1,h.l2,?_,?_,h.rising,h.nodup.sublist hsub,fun j hj=>h.mem j (hsub.mem hj),h.ids,h.rn,Nat.le_trans hsub.length_le h.ln⟩
 ·show (if i=0 then (if (s.line.eraseIdx i).length=0 then 0 else s.lease) else s.left)≤s.lease
  have:=h.left
  repeat' split
  all_goals omega
 ·show (if i=0 then (if (s.line.eraseIdx i).length=0 then 0 else s.lease) else s.left)=0↔s.line.eraseIdx i=[]
  have h1:=h.l1;have hz:=h.zero;rw [← List.length_eq_zero_iff];have hl:=List.length_eraseIdx_of_lt hi
  by_cases e:i=0
  ·rw [if_pos e]
   split <;> omega
  ·rw [if_neg e,hz,← List.length_eq_zero_iff]
   omega
theorem FOk.out (h:FOk n s) (id:Int):FOk n (fout s id):=by
 unfold fout
 split
 ·next hm=>exact h.cutAt _ (List.idxOf_lt_length_of_mem hm)
 ·exact h
theorem eraseIdx_idxOf (l:List Int) (id:Int):l.eraseIdx (l.idxOf id)=l.erase id:=by
  induction l with
  | nil=>rfl
  | cons x t ih =>
    rw [List.idxOf_cons,List.erase_cons]
    by_cases e:x=id
    · subst e; simp
    · have:(x == id)=false:=by simpa using e
      simp only [this,cond_false];rw [if_neg (by simp),List.eraseIdx_cons_succ,ih]
theorem not_mem_out {s:Fl} (h:s.line.Nodup) (id:Int):id ∉ (fout s id).line:=by
 unfold fout
 split
 ·show id ∉ s.line.eraseIdx (s.line.idxOf id)
  rw [eraseIdx_idxOf]
  exact fun hm=>(List.Nodup.mem_erase_iff h).1 hm |>.1 rfl
 ·assumption
theorem mem_out {s:Fl} {id i:Int} (h:i∈(fout s id).line):i∈s.line:=by
 unfold fout at h
 split at h
 ·exact (List.eraseIdx_sublist ..).mem h
 ·exact h
theorem FOk.leave (h:FOk n s) (id:Int):FOk n (fleave s id):=by
 unfold fleave
 split
 ·have ho:=h.out id
  have hlen:=rlen_del s.roles id;refine ⟨ho.l1,ho.l2,ho.left,ho.zero,h.rising.del _,ho.nodup,fun i hi=>?_,fun p hp=>h.ids p (rdel_mem hp),by show (rdel s.roles id).length≤n; have:=h.rn; omega,ho.ln⟩
  have hne:i≠id:=by rintro rfl; exact not_mem_out h.nodup _ hi
  obtain ⟨h1,h2⟩:=h.mem i (mem_out hi);refine ⟨?_,?_⟩
  ·show rhas (rdel s.roles id) i=true
   unfold rhas; rw [rget_del h.rising,if_neg hne]; exact h1
  ·show rrole (rdel s.roles id) i≠0
   unfold rrole; rw [rget_del h.rising,if_neg hne]; exact h2
 ·exact h
theorem FOk.set (h:FOk n s) (id r:Int):FOk n (fset s id r):=by
 unfold fset
 split
 ·next hs =>
  unfold sets isRole at hs;simp at hs;obtain ⟨h1,h2,h3⟩:=hs
  have hids:∀ p∈rput s.roles id r,0<p.1∧p.1≤9223372036854775807∧0≤p.2∧p.2≤2:=by
   intro p hp
   rcases rput_mem hp with e | e
   ·subst e
    have:=h.ids _ (rhas_of_mem h1);exact ⟨this.1,this.2.1,h2,h3⟩
   ·exact h.ids p e
  have hrn:(rput s.roles id r).length≤n:=by
   rw [rlen_put h.rising,h1]; exact h.rn
  have hmem:∀ i∈s.line,(r=0→i≠id)→rhas (rput s.roles id r) i=true∧rrole (rput s.roles id r) i≠0:=by
   intro i hi hne;obtain ⟨h5,h6⟩:=h.mem i hi;rw [rhas_put h.rising,rrole_put h.rising,h5];refine ⟨by simp,?_⟩
   split
   ·next e=>exact fun e0=>hne e0 e
   ·exact h6
  split
  ·next h0 =>
   have ho:=h.out id
   have e1:(fout (frole s id r) id).line=(fout s id).line∧(fout (frole s id r) id).left=(fout s id).left∧(fout (frole s id r) id).lease=(fout s id).lease∧(fout (frole s id r) id).roles=rput s.roles id r:=by
    unfold fout frole outAt
    by_cases e:id∈s.line <;> simp [e]
   obtain ⟨e1,e2,e3,e4⟩:=e1;refine ⟨by rw [e3]; exact ho.l1,by rw [e3]; exact ho.l2,by rw [e2,e3]; exact ho.left,by rw [e1,e2]; exact ho.zero,by rw [e4]; exact h.rising.put _ _,by rw [e1]; exact ho.nodup,fun i hi=>?_,by rw [e4]; exact hids,by rw [e4]; exact hrn,by rw [e1]; exact ho.ln⟩;rw [e1] at hi;rw [e4];exact hmem i (mem_out hi) (fun _=>by rintro rfl; exact not_mem_out h.nodup _ hi)
  ·next h0 =>
   exact ⟨h.l1,h.l2,h.left,h.zero,h.rising.put _ _,h.nodup,fun i hi=>hmem i hi (fun e=>absurd e h0),hids,hrn,h.ln⟩
 ·exact h
theorem FOk.ask (h:FOk n s) (id:Int):FOk (n+1) (fask s id):=by
 unfold fask
 split
 ·next ha =>
  unfold askE at ha
  split at ha
  ·next h1 =>
   split at ha
   ·cases ha
   ·next h2 =>
    split at ha
    ·cases ha
    ·next h3 =>
     have hl:=h.left;have h5:=h.l1;refine ⟨h.l1,h.l2,?_,?_,h.rising,?_,fun i hi=>?_,h.ids,Nat.le_succ_of_le h.rn,by show (s.line ++ [id]).length≤n+1; have:=h.ln; simp; omega⟩
     ·show (if s.line.length=0 then s.lease else s.left)≤s.lease
      split <;> omega
     ·show (if s.line.length=0 then s.lease else s.left)=0↔s.line ++ [id]=[]
      have hz:s.left=0↔s.line.length=0:=h.zero.trans List.length_eq_zero_iff.symm;simp only [List.append_eq_nil_iff,List.cons_ne_self,and_false,iff_false]
      split <;> omega
     ·show (s.line ++ [id]).Nodup
      rw [List.nodup_append];exact ⟨h.nodup,by simp,fun a ha b hb=>by simp at hb; subst hb; rintro rfl; exact h3 ha⟩
     ·rcases List.mem_append.1 hi with hi | hi
      ·exact h.mem i hi
      ·simp at hi; subst hi; exact ⟨h1,h2⟩
  ·cases ha
 ·exact h.mono (Nat.le_succ n)
theorem FOk.drop (h:FOk n s) (id:Int):FOk n (fdrop s id):=by
 unfold fdrop
 split
 ·exact h.out id
 ·exact h
theorem FOk.give (h:FOk n s) (id:Int):FOk (n+1) (fgive s id):=by
 unfold fgive
 split
 ·next ha =>
  unfold giveE at ha
  split at ha
  ·next h1 =>
   split at ha
   ·cases ha
   ·next h2 =>
    have hsub:(s.line.tail.filter fun x=>decide (x≠id)).Sublist s.line:=List.filter_sublist.trans (List.tail_sublist _);refine ⟨h.l1,h.l2,Nat.le_refl _,?_,h.rising,?_,fun i hi=>?_,h.ids,Nat.le_succ_of_le h.rn,?_⟩
    ·show s.lease=0↔id :: _=[]
     have:=h.l1
     simp; omega
    ·show (id :: _).Nodup
     refine List.nodup_cons.2 ⟨by simp,h.nodup.sublist hsub⟩
    ·rcases List.mem_cons.1 hi with hi | hi
     ·subst hi; exact ⟨h1,h2⟩
     ·exact h.mem i (hsub.mem hi)
    ·show (id :: _).length≤n+1
     have:=hsub.length_le;have:=h.ln
     simp only [List.length_cons]; omega
  ·cases ha
 ·exact h.mono (Nat.le_succ n)
theorem FOk.rev (h:FOk n s):FOk n (frev s):=by
 unfold frev
 split
 ·exact h
 ·exact h.cutAt 0 (by omega)
theorem FOk.tick (h:FOk n s):FOk n (ftick s):=by
 have hl:=h.left;have h1:=h.l1;unfold ftick
 split
 ·exact h
 ·next hne =>
  split
  ·refine ⟨h.l1,h.l2,by show s.left - 1≤s.lease; omega,?_,h.rising,h.nodup,h.mem,h.ids,h.rn,h.ln⟩
   show s.left - 1=0↔s.line=[]
   rw [← List.length_eq_zero_iff]; omega
  ·split
   ·refine ⟨h.l1,h.l2,Nat.le_refl _,?_,h.rising,h.nodup,h.mem,h.ids,h.rn,h.ln⟩
    show s.lease=0↔s.line=[]
    rw [← List.length_eq_zero_iff]; omega
   ·exact h.cutAt 0 (by omega)
end
end
section
open Go.RowKit
structure Bx (g:Nat) (w:World) (vs:Array Value):Prop where
 head:∃ t,w.heap[g]?=some (.cells vs t (0,0))
theorem Bx.new (w:World) (g:Nat) (hg:w.heap.size=g) (vs:Array Value) (t:TypeId):Bx g (w.alloc (.cells vs t)) vs:=by
 subst hg;exact ⟨t,heap_alloc_new w _⟩
theorem Bx.room {g:Nat} {w:World} {vs:Array Value} (h:Bx g w vs):g+1≤w.heap.size:=by
 obtain ⟨t,h⟩:=h.head
 rcases Nat.lt_or_ge g w.heap.size with h' | h'
 ·exact h'
 ·rw [Array.getElem?_eq_none h'] at h; cases h
theorem Bx.cell {g:Nat} {w:World} {vs:Array Value} (h:Bx g w vs) (i:Nat) (v:Value) (hv:vs[i]?=some v):w.cell? ⟨g,i,none⟩=some v:=by
 obtain ⟨t,h⟩:=h.head;rw [cell_of_row _ _ _ _ _ _ h];exact hv
theorem Bx.free {g:Nat} {w:World} {vs:Array Value} (h:Bx g w vs) (i:Nat):w.frozen? ⟨g,i,none⟩=false:=by
 obtain ⟨t,h⟩:=h.head;exact frozen_of_row w g i _ _ h
theorem Bx.go {g B:Nat} {w w':World} {vs:Array Value} (h:Bx g w vs) (hb:Below B w w') (hB:g+1≤B):Bx g w' vs:=by
 obtain ⟨t,h⟩:=h.head;exact ⟨t,(hb.block g hB).trans h⟩
theorem Bx.set {g:Nat} {w:World} {vs:Array Value} (h:Bx g w vs) (i:Nat) (v:Value):Bx g (w.setCell ⟨g,i,none⟩ v) (vs.setIfInBounds i v):=by
 obtain ⟨t,h⟩:=h.head;exact ⟨t,heap_setCell_same w g i vs t v h⟩
theorem Bx.drewN {g:Nat} {w:World} {vs:Array Value} (h:Bx g w vs) (n:Nat):Bx g (w.drewN n) vs:=by
 obtain ⟨t,h⟩:=h.head;exact ⟨t,h⟩
theorem Bx.other {g:Nat} {w:World} {vs:Array Value} (h:Bx g w vs) {p:Addr} (hp:¬ p.block=g) (v:Value):Bx g (w.setCell p v) vs:=by
 obtain ⟨t,h⟩:=h.head;exact ⟨t,by rw [Below.heap_setCell _ _ _ _ (fun e=>hp e.symm)]; exact h⟩
theorem bytes_set {w:World} {B n:Nat} {a:Option Addr} {l:List (BitVec 8)} (h:Bytes w B a n l) {p:Addr} (hp:B≤p.block) (v:Value):Bytes (w.setCell p v) B a n l:=
 h.below ((Below.refl _ _).setCell hp v)
theorem Bx.only (g:Nat) (w:World) (i:Nat) (v:Value):Only (fun b=>b=g) w (w.setCell ⟨g,i,none⟩ v):=
 (Only.refl (fun b=>b=g) w).setCell (p:=⟨g,i,none⟩) rfl v
theorem Bx.keep {g:Nat} {S:Nat→Prop} {w w':World} {vs:Array Value} (h:Bx g w vs) (ho:Only S w w') (hs:¬ S g):Bx g w' vs:=by
 have hr:=h.room;obtain ⟨t,h⟩:=h.head;exact ⟨t,(ho.block g hr hs).trans h⟩
end
section
open Go.RowKit
structure Zo where
 pre:List Value
 post:List Value
 o:Nat
 at_:pre.length=o
def z0:Zo:=⟨[],[],0,rfl⟩
def Zo.row (z:Zo) (vs:Array Value):Array Value:=(z.pre ++ (vs.toList ++ z.post)).toArray
structure Bo (z:Zo) (g:Nat) (w:World) (vs:Array Value):Prop where
 bx:Bx g w (z.row vs)
section
variable {z:Zo} {g B:Nat} {w w':World} {vs:Array Value}
theorem Zo.get (z:Zo) (vs:Array Value) (i:Nat) (v:Value) (hv:vs[i]?=some v):(z.row vs)[z.o+i]?=some v:=by
 have hl:i<vs.size:=by
  rcases Nat.lt_or_ge i vs.size with h | h
  ·exact h
  ·rw [Array.getElem?_eq_none h] at hv; cases hv
 unfold Zo.row;rw [List.getElem?_toArray,← z.at_,List.getElem?_append_right (Nat.le_add_right _ _),Nat.add_sub_cancel_left,List.getElem?_append_left (by simpa using hl)]
 simpa using hv
theorem Zo.put (z:Zo) (vs:Array Value) (i:Nat) (v:Value) (hi:i<vs.size):(z.row vs).setIfInBounds (z.o+i) v=z.row (vs.setIfInBounds i v):=by
 unfold Zo.row
 apply Array.ext'
 simp only [Array.toList_setIfInBounds];rw [← z.at_,List.set_append_right _ _ (Nat.le_add_right _ _),Nat.add_sub_cancel_left,List.set_append_left _ _ (by simpa using hi)]
theorem Bo.room (h:Bo z g w vs):g+1≤w.heap.size:=h.bx.room
theorem Bo.cell (h:Bo z g w vs) (i:Nat) (v:Value) (hv:vs[i]?=some v):w.cell? ⟨g,z.o+i,none⟩=some v:=h.bx.cell _ v (z.get vs i v hv)
theorem Bo.cell0 (h:Bo z g w vs) (v:Value) (hv:vs[0]?=some v):w.cell? ⟨g,z.o,none⟩=some v:=h.cell 0 v hv
theorem Bo.free (h:Bo z g w vs) (i:Nat):w.frozen? ⟨g,z.o+i,none⟩=false:=h.bx.free _
theorem Bo.free0 (h:Bo z g w vs):w.frozen? ⟨g,z.o,none⟩=false:=h.bx.free _
theorem Bo.set (h:Bo z g w vs) (i:Nat) (v:Value) (hi:i<vs.size:=by first | (simp; done) | exact Nat.le_of_ble_eq_true rfl):Bo z g (w.setCell ⟨g,z.o+i,none⟩ v) (vs.setIfInBounds i v):=by
 have h2:=h.bx.set (z.o+i) v;rw [z.put vs i v hi] at h2;exact ⟨h2⟩
theorem Bo.set0 (h:Bo z g w vs) (v:Value) (hi:0<vs.size:=by first | (simp; done) | exact Nat.le_of_ble_eq_true rfl):Bo z g (w.setCell ⟨g,z.o,none⟩ v) (vs.setIfInBounds 0 v):=h.set 0 v hi
theorem Bo.drewN (h:Bo z g w vs) (n:Nat):Bo z g (w.drewN n) vs:=⟨h.bx.drewN n⟩
theorem Bo.keep {S:Nat→Prop} (h:Bo z g w vs) (ho:Only S w w') (hs:¬ S g):Bo z g w' vs:=⟨h.bx.keep ho hs⟩
theorem Bo.new (w:World) (g:Nat) (hg:w.heap.size=g) (vs:Array Value) (t:TypeId):Bo z0 g (w.alloc (.cells vs t)) vs:=by
 have h:z0.row vs=vs:=by unfold Zo.row z0; simp
 exact ⟨by rw [h]; exact Bx.new w g hg vs t⟩
end
end
section
structure Ta where
 lease:Nat
 left:Nat
 roles:List (Int×Int)
 hold:Int
 waits:List Int
def ofFl (s:Fl):Ta:=⟨s.lease,s.left,s.roles,fhold s,s.line.tail⟩
def without (l:List Int) (id:Int):List Int:=l.filter fun x=>!decide (x=id)
def tstop (t:Ta) (id:Int):Ta:={ t with waits:=without t.waits id }
def tgrant (t:Ta) (id:Int):Ta:={ t with waits:=without t.waits id,hold:=id,left:=t.lease }
def tpass (t:Ta):Ta:=match t.waits with
 | []=>{ t with hold:=0,left:=0 }
 | x :: _=>tgrant t x
def tlose (t:Ta) (id:Int):Ta:=if t.hold=id then tpass (tstop t id) else tstop t id
theorem without_none {l:List Int} {id:Int} (h:id ∉ l):without l id=l:=by
 unfold without;rw [List.filter_eq_self];intro x hx
 have:x≠id:=fun e=>h (e ▸ hx)
 simpa using this
theorem without_head {x:Int} {r:List Int} (h:(x :: r).Nodup):without (x :: r) x=r:=by
 have e:without (x :: r) x=without r x:=by unfold without; simp
 rw [e];exact without_none (List.nodup_cons.1 h).1
theorem without_erase {l:List Int} (h:l.Nodup) (id:Int):without l id=l.erase id:=by
 unfold without;rw [h.erase_eq_filter]
 congr 1
theorem without_filter (l:List Int) (id:Int):without l id=l.filter fun x=>decide (x≠id):=by
 unfold without
 congr 1
 funext x
 by_cases e:x=id <;> simp [e]
section
variable {N:Nat} {s:Fl}
theorem FOk.hold0 (h:FOk N s):fhold s=0↔s.line=[]:=by
 unfold fhold
 rcases hl:s.line with _ | ⟨x,r⟩
 ·simp
 ·have:=(h.id_lt (i:=x) (by rw [hl]; exact List.mem_cons_self)).1
  simp; omega
theorem tout_eq (h:FOk N s) (id:Int):ofFl (fout s id)=tlose (ofFl s) id:=by
 have hnd:=h.nodup;have hz:=h.zero;have h0:=h.hold0;unfold fout tlose
 rcases hl:s.line with _ | ⟨x,r⟩
 ·rw [hl] at hz h0
  have hl0:s.left=0:=hz.2 rfl;have hh:fhold s=0:=h0.2 rfl;rw [if_neg (by simp)]
  have e:(ofFl s).waits=[]:=by show s.line.tail=[]; rw [hl]; rfl
  have e2:tstop (ofFl s) id=ofFl s:=by unfold tstop without; rw [e]; simp only [List.filter_nil]; rw [← e]
  rw [e2]
  split
  ·unfold tpass
   rw [e];simp only [ofFl,hl,hh,hl0,List.tail_nil]
  ·rfl
 ·rw [hl] at hnd
  have hh:fhold s=x:=by unfold fhold; rw [hl]; rfl
  have hw:(ofFl s).waits=r:=by show s.line.tail=r; rw [hl]; rfl
  have hho:(ofFl s).hold=x:=hh;obtain ⟨hx1,hx2⟩:=List.nodup_cons.1 hnd;rw [hho]
  by_cases e:x=id
  ·subst e
   rw [if_pos List.mem_cons_self,if_pos rfl]
   have e1:tstop (ofFl s) x=ofFl s:=by
    unfold tstop;rw [hw,without_none hx1,← hw]
   rw [e1]
   have ei:(x :: r).idxOf x=0:=by simp
   rw [ei];unfold outAt tpass;rw [hw,hl];simp only [List.eraseIdx_zero,List.tail_cons,if_true]
   rcases r with _ | ⟨y,q⟩
   ·simp [ofFl,fhold]
   ·simp only [tgrant,ofFl,fhold,hl,List.headD_cons,List.tail_cons,List.length_cons]
    rw [without_head hx2,if_neg (by omega)]
  ·rw [if_neg e]
   by_cases hm:id∈r
   ·rw [if_pos (List.mem_cons_of_mem _ hm)]
    have ei:(x :: r).idxOf id=r.idxOf id+1:=by
     rw [List.idxOf_cons]
     have:(x == id)=false:=by simpa using e
     rw [this]; rfl
    rw [ei];unfold outAt tstop;rw [hw,hl,without_erase hx2,if_neg (by omega)];simp only [List.eraseIdx_cons_succ,ofFl,fhold,List.headD_cons,List.tail_cons,hl,eraseIdx_idxOf]
   ·rw [if_neg (by simp [hm,Ne.symm e])]
    unfold tstop;rw [hw,without_none hm,← hw]
theorem tpass_eq (h:FOk N s) (hne:s.line≠[]):ofFl (outAt s 0)=tpass (ofFl s):=by
 have hnd:=h.nodup
 rcases hl:s.line with _ | ⟨x,r⟩
 ·exact absurd hl hne
 ·rw [hl] at hnd
  have hw:(ofFl s).waits=r:=by show s.line.tail=r; rw [hl]; rfl
  obtain ⟨hx1,hx2⟩:=List.nodup_cons.1 hnd;unfold outAt tpass;rw [hw,hl];simp only [List.eraseIdx_zero,List.tail_cons,if_true]
  rcases r with _ | ⟨y,q⟩
  ·simp [ofFl,fhold]
  ·simp only [tgrant,ofFl,fhold,hl,List.headD_cons,List.tail_cons,List.length_cons]
   rw [without_head hx2,if_neg (by omega)]
theorem tgive_eq (id:Int) (hE:giveE s id=0):ofFl (fgive s id)=tgrant (ofFl s) id:=by
 unfold fgive;rw [if_pos hE];simp only [ofFl,tgrant,fhold,List.headD_cons,List.tail_cons,without_filter]
theorem task_first (id:Int) (hl:s.line=[]) (hE:askE s id=0):ofFl (fask s id)=tgrant (ofFl s) id:=by
 unfold fask;rw [if_pos hE,hl];simp [ofFl,tgrant,fhold,hl,without]
theorem task_more (id:Int) (hl:s.line≠[]) (hE:askE s id=0):ofFl (fask s id)={ ofFl s with waits:=s.line.tail ++ [id] }:=by
 unfold fask;rw [if_pos hE]
 rcases hl2:s.line with _ | ⟨x,r⟩
 ·exact absurd hl2 hl
 ·simp [ofFl,fhold,hl2]
theorem line_mem {id:Int} (hid:id≠0):id∈s.line↔(fhold s=id∨id∈s.line.tail):=by
 unfold fhold
 rcases hl:s.line with _ | ⟨x,r⟩
 ·simp; exact fun e=>hid e.symm
 ·simp [eq_comm]
theorem line_head {id:Int} (hid:id≠0):s.line.head?=some id↔fhold s=id:=by
 unfold fhold
 rcases hl:s.line with _ | ⟨x,r⟩
 ·simp; exact fun e=>hid e.symm
 ·simp
theorem rhas_pos (h:FOk N s) {id:Int} (hh:rhas s.roles id=true):0<id:=(h.ids _ (rhas_of_mem hh)).1
end
end
end Go.Proofs.YtdpagmcickkbmaaGreatDoor
