/- PMem PFo PBx PBo PFot -/
import Derived.WalkKit
import Derived.Deep.AppendLies
import Derived.Deep.Draws
import Derived.Laws.CopyOwn
import Derived.Lib.Hide
namespace Go.Proofs.YtecjpkjbgknnnaaGreatDoor
set_option maxRecDepth 100000
section
open Go.RowKit
def by8 (c:BitVec 8):Value:=.int .u8 c.toNat
def Bytes (w:World) (B:Nat) (a:Option Addr) (n:Nat) (l:List (BitVec 8)):Prop:=
 l.length=n∧(0<n→∃ b off,a=some ⟨b,off,none⟩∧b<B∧∀ i,i<n→w.cell? ⟨b,off+i,none⟩=some (.int .u8 (l[i]?.getD 0#8).toNat))
section
variable {w w':World} {B B':Nat} {a:Option Addr} {n:Nat} {l:List (BitVec 8)}
theorem Bytes.keep (h:Bytes w B a n l) (hk:∀ p:Addr,p.block<B→w'.cell? p=w.cell? p):Bytes w' B a n l:=
 ⟨h.1,fun hn=>by
  obtain ⟨b,off,e,hlt,hc⟩:=h.2 hn
  exact ⟨b,off,e,hlt,fun i hi=>(hk ⟨b,off+i,none⟩ hlt).trans (hc i hi)⟩⟩
theorem Bytes.below (h:Bytes w B a n l) (hb:Below B w w'):Bytes w' B a n l:=h.keep fun _ hp=>hb.cell hp
theorem Bytes.more (h:Bytes w B a n l) (hB:B≤B'):Bytes w B' a n l:=
 ⟨h.1,fun hn=>by
  obtain ⟨b,off,e,hlt,hc⟩:=h.2 hn
  exact ⟨b,off,e,by omega,hc⟩⟩
theorem Bytes.of_own {base e c:Nat} (h:w.ownsRow base e 1 (.slice a n c) n (l.map by8)):Bytes w w.heap.size a n l:=by
 refine ⟨by simpa using h.1,fun hn=>?_⟩;obtain ⟨g,cap,hv,_,hlt⟩:=h.form hn
 have hA:a=some ⟨g,0,none⟩:=by injection hv
 subst hA;refine ⟨g,0,rfl,hlt,fun i hi=>?_⟩
 have hl:i<l.length:=by have:=h.1; simp at this; omega
 have:=h.cells (g:=g) rfl i (by8 (l[i]?.getD 0#8)) (by simp [List.getElem?_eq_getElem hl])
 rw [← show (Addr.add ⟨g,0,none⟩ i)=⟨g,0+i,none⟩ from by
  unfold Addr.add
  by_cases h:i=0
  ·subst h; rfl
  ·simp [h]]
 exact this
end
section
variable {P:Program} {w:World}
theorem run_app (base:Nat) (t ty e:TypeId) (i:TypeInfo) (z:Value) (ht:P.underlying t=some (.slice e)) (hi:P.info? e=some i) (hz:i.zero=some z)
  (hsize:i.size=1) (hby:i.bytes=1) (hzs:z.cells.size=1)
  (v:Value) (n:Nat) (k:List (BitVec 8)) (hown:w.ownsRow base e 1 v n (k.map by8))
  (B:Nat) (A:Option Addr) (m c:Nat) (l:List (BitVec 8)) (hr:Bytes w B A m l)
  (hroom:n+m≤140737488355328) (hbase:base≤w.heap.size) :
  ∃ v' w',(Builtin.append_ #[t,t] ty #[v,.slice A m c]).run P w = .ok v' w'∧w'.ownsRow base e 1 v' (n+m) ((k ++ l).map by8)∧w.grownBy w' v.ownBlock ∧
   (v'.ownBlock=v.ownBlock∨v'.ownBlock=some w.heap.size):=by
 rcases A with _ | ad
 ·have hm:m=0:=by
   rcases Nat.eq_zero_or_pos m with h | h
   ·exact h
   ·obtain ⟨_,_,h',_⟩:=hr.2 h
    cases h'
  subst hm;have hl:l=[]:=List.eq_nil_of_length_eq_zero hr.1;subst hl;refine ⟨v,w,?_,by simpa using hown,World.grownBy.refl w _,.inl rfl⟩
  rcases hown.2 with ⟨rfl,rfl⟩ | ⟨g,cap,cur,rfl,_,_,hnc,_⟩
  ·simp [Builtin.append_,run_underlying ht,sizeOf,typeInfo,hi,Builtin.lenOf,Builtin.firstCells]
  ·simp [Builtin.append_,run_underlying ht,sizeOf,typeInfo,hi,Builtin.lenOf,Builtin.firstCells,hnc,storeCells]
 ·have hcells:∀ j u,(l.map by8)[j]?=some u→w.cell? (ad.add j)=some u:=by
   intro j u hu
   have hj:j<l.length:=by
    rcases Nat.lt_or_ge j l.length with h | h
    ·exact h
    ·rw [List.getElem?_eq_none (by simpa using h)] at hu; cases hu
   obtain ⟨b,off,h,_,hc⟩:=hr.2 (by have:=hr.1; omega)
   injection h with h
   subst h;have:=hc j (by have:=hr.1; omega)
   rw [show (Addr.add ⟨b,off,none⟩ j)=⟨b,off+j,none⟩ from by
    unfold Addr.add
    by_cases h:j=0
    ·subst h; rfl
    ·simp [h],this]
   rw [← hu];simp [List.getElem?_eq_getElem hj,by8]
  obtain ⟨v',w',hrun,h2,h3,_,h5⟩:=run_append_own_at (P:=P) (w:=w) base t ty e i z 1 1 ht hi hz hsize hby hzs (by omega) v n (k.map by8) hown ad m c (l.map by8)
   (by simpa using hr.1) hcells (by intro u hu; simp at hu; obtain ⟨c,_,rfl⟩:=hu; rfl) (by simp only [maxLen]; omega) (by omega) hbase
  exact ⟨v',w',hrun,by simpa using h2,h3,h5⟩
end
structure Only (S:Nat→Prop) (w w':World):Prop where
 os:w'.os=w.os
 tape:w'.tape=w.tape
 output:w'.output=w.output
 size:w.heap.size≤w'.heap.size
 block:∀ k,k<w.heap.size→¬ S k→w'.heap[k]?=w.heap[k]?
section
variable {S T:Nat→Prop} {a b c:World}
theorem Only.refl (S:Nat→Prop) (w:World):Only S w w:=⟨rfl,rfl,rfl,Nat.le_refl _,fun _ _ _=>rfl⟩
theorem Only.trans (h:Only S a b) (k:Only S b c):Only S a c:=
 ⟨k.os.trans h.os,k.tape.trans h.tape,k.output.trans h.output,Nat.le_trans h.size k.size,fun i hi hs=>(k.block i (Nat.lt_of_lt_of_le hi h.size) hs).trans (h.block i hi hs)⟩
theorem Only.mono (h:Only S a b) (hs:∀ k,k<a.heap.size→S k→T k):Only T a b:=
 ⟨h.os,h.tape,h.output,h.size,fun i hi ht=>h.block i hi fun hh=>ht (hs i hi hh)⟩
theorem Only.below {B:Nat} (h:Only S a b) (hB:B≤a.heap.size) (hs:∀ k,k<B→¬ S k):Below B a b:=
 ⟨h.os,h.tape,h.output,h.size,fun i hi=>h.block i (Nat.lt_of_lt_of_le hi hB) (hs i hi)⟩
theorem Only.setCell (h:Only S a b) {p:Addr} (hp:S p.block) (u:Value):Only S a (b.setCell p u):=
 ⟨h.os,h.tape,h.output,by simpa [World.setCell] using h.size,fun i hi hs=>(Below.heap_setCell b p u i (by rintro rfl; exact hs hp)).trans (h.block i hi hs)⟩
theorem Only.grown {row:Option Nat} (hg:a.grownBy b row) (hr:∀ k,row=some k→k<a.heap.size→S k):Only S a b:=
 ⟨hg.os,hg.tape,hg.output,hg.size,fun i hi hs=>hg.block i hi fun e=>hs (hr i e.symm hi)⟩
theorem Only.cell (h:Only S a b) {p:Addr} (hp:p.block<a.heap.size) (hs:¬ S p.block):b.cell? p=a.cell? p:=World.cell?_of_block (w:=a) (h.block p.block hp hs)
theorem Bytes.only {B n:Nat} {x:Option Addr} {l:List (BitVec 8)} (hl:Bytes a B x n l) (h:Only S a b) (hB:B≤a.heap.size) (hs:0<n→∀ p,x=some p→¬ S p.block):Bytes b B x n l:=
 ⟨hl.1,fun hn=>by
  obtain ⟨q,off,e,hlt,hc⟩:=hl.2 hn
  exact ⟨q,off,e,hlt,fun i hi=>(h.cell (p:=⟨q,off+i,none⟩) (by simp; omega) (by simpa using hs hn _ e)).trans (hc i hi)⟩⟩
end
theorem add_none (b off i:Nat):(Addr.add ⟨b,off,none⟩ i)=⟨b,off+i,none⟩:=by
 unfold Addr.add
 by_cases h:i=0
 ·subst h; rfl
 ·simp [h]
def cutA (a:Option Addr) (cap k:Nat):Option Addr:=if cap=k then a else a.map (·.add k)
theorem Bytes.cut {w:World} {B n cap k:Nat} {a:Option Addr} {l:List (BitVec 8)} (h:Bytes w B a n l) (hk:k≤n) (hc:n≤cap):Bytes w B (cutA a cap k) (n - k) (l.drop k):=by
 refine ⟨by simp [h.1],fun hn=>?_⟩;obtain ⟨b,off,rfl,hlt,hcell⟩:=h.2 (by omega);unfold cutA;rw [if_neg (by omega)];refine ⟨b,off+k,by simp [add_none],hlt,fun i hi=>?_⟩;rw [Nat.add_assoc,hcell _ (by omega),List.getElem?_drop]
theorem Bytes.take {w:World} {B n k:Nat} {a:Option Addr} {l:List (BitVec 8)} (h:Bytes w B a n l) (hk:k≤n):Bytes w B a k (l.take k):=by
 refine ⟨by simp [h.1]; omega,fun hn=>?_⟩;obtain ⟨b,off,e,hlt,hcell⟩:=h.2 (by omega);refine ⟨b,off,e,hlt,fun i hi=>?_⟩;rw [hcell _ (by omega),List.getElem?_take,if_pos hi]
theorem cell_lt {w:World} {p:Addr} {v:Value} (h:w.cell? p=some v):p.block<w.heap.size:=by
 rcases Nat.lt_or_ge p.block w.heap.size with h' | h'
 ·exact h'
 ·simp [World.cell?,Array.getElem?_eq_none h'] at h
theorem ret_int {k:IntKind} {a b:Int} (h:a=b):Ending.returned (.int k a) = .returned (.int k b):=by rw [h]
end
section
def rget:List (Int×Int)→Int→Option Int
 | [],_=>none
 | p :: t,k=>if p.1=k then some p.2 else rget t k
def rput:List (Int×Int)→Int→Int→List (Int×Int)
 | [],k,v=>[(k,v)]
 | p :: t,k,v=>if k<p.1 then (k,v) :: p :: t else if p.1=k then (k,v) :: t else p :: rput t k v
def rdel:List (Int×Int)→Int→List (Int×Int)
 | [],_=>[]
 | p :: t,k=>if p.1=k then t else p :: rdel t k
def Rising (l:List (Int×Int)):Prop:=l.Pairwise fun p q=>p.1<q.1
def rhas (l:List (Int×Int)) (k:Int):Bool:=(rget l k).isSome
def rrole (l:List (Int×Int)) (k:Int):Int:=(rget l k).getD 0
structure Fl where
 lease:Nat
 left:Nat
 roles:List (Int×Int)
 line:List Int
def fnew (lease:Int):Fl:=⟨(min (max lease 1) 1000).toNat,0,[],[]⟩
def isRole (r:Int):Bool:=decide (0≤r) && decide (r≤2)
def joins (s:Fl) (id r:Int):Bool:=!rhas s.roles id && (decide (0<id) && isRole r)
def fjoin (s:Fl) (id r:Int):Fl:=if joins s id r then { s with roles:=rput s.roles id r } else s
def outAt (s:Fl) (i:Nat):Fl:={ s with line:=s.line.eraseIdx i,left:=if i=0 then (if (s.line.eraseIdx i).length=0 then 0 else s.lease) else s.left }
def fout (s:Fl) (id:Int):Fl:=if id∈s.line then outAt s (s.line.idxOf id) else s
def fleave (s:Fl) (id:Int):Fl:=if rhas s.roles id then { fout s id with roles:=rdel s.roles id } else s
def sets (s:Fl) (id r:Int):Bool:=rhas s.roles id && isRole r
def frole (s:Fl) (id r:Int):Fl:={ s with roles:=rput s.roles id r }
def fset (s:Fl) (id r:Int):Fl:=if sets s id r then (if r=0 then fout (frole s id r) id else frole s id r) else s
def askE (s:Fl) (id:Int):Int:=if rhas s.roles id then (if rrole s.roles id=0 then 4 else if id∈s.line then 3 else 0) else 2
def fask (s:Fl) (id:Int):Fl:=if askE s id=0 then { s with line:=s.line ++ [id],left:=if s.line.length=0 then s.lease else s.left } else s
def dropE (s:Fl) (id:Int):Int:=if rhas s.roles id then (if id∈s.line then 0 else 3) else 2
def fdrop (s:Fl) (id:Int):Fl:=if dropE s id=0 then fout s id else s
def giveE (s:Fl) (id:Int):Int:=if rhas s.roles id then (if rrole s.roles id=0 then 4 else if s.line.head?=some id then 3 else 0) else 2
def fgive (s:Fl) (id:Int):Fl:=if giveE s id=0 then { s with line:=id :: (s.line.tail.filter fun x=>decide (x≠id)),left:=s.lease } else s
def revE (s:Fl):Int:=if s.line.length=0 then 3 else 0
def frev (s:Fl):Fl:=if s.line.length=0 then s else outAt s 0
def ftick (s:Fl):Fl:=if s.line.length=0 then s else if 1<s.left then { s with left:=s.left - 1 } else if s.line.length=1 then { s with left:=s.lease } else outAt s 0
def fhold (s:Fl):Int:=s.line.headD 0
structure FOk (n:Nat) (s:Fl):Prop where
 l1:1≤s.lease
 l2:s.lease≤1000
 left:s.left≤s.lease
 zero:s.left=0↔s.line=[]
 rising:Rising s.roles
 nodup:s.line.Nodup
 mem:∀ i∈s.line,rhas s.roles i=true∧rrole s.roles i≠0
 ids:∀ p∈s.roles,0<p.1∧p.1≤9223372036854775807∧0≤p.2∧p.2≤2
 rn:s.roles.length≤n
 ln:s.line.length≤n
end
section
open Go.RowKit
structure Bx (g:Nat) (w:World) (vs:Array Value):Prop where
 head:∃ t,w.heap[g]?=some (.cells vs t (0,0))
theorem Bx.new (w:World) (g:Nat) (hg:w.heap.size=g) (vs:Array Value) (t:TypeId):Bx g (w.alloc (.cells vs t)) vs:=by
 subst hg;exact ⟨t,heap_alloc_new w _⟩
theorem Bx.room {g:Nat} {w:World} {vs:Array Value} (h:Bx g w vs):g+1≤w.heap.size:=by
 obtain ⟨t,h⟩:=h.head
 rcases Nat.lt_or_ge g w.heap.size with h' | h'
 ·exact h'
 ·rw [Array.getElem?_eq_none h'] at h; cases h
theorem Bx.cell {g:Nat} {w:World} {vs:Array Value} (h:Bx g w vs) (i:Nat) (v:Value) (hv:vs[i]?=some v):w.cell? ⟨g,i,none⟩=some v:=by
 obtain ⟨t,h⟩:=h.head;rw [cell_of_row _ _ _ _ _ _ h];exact hv
theorem Bx.free {g:Nat} {w:World} {vs:Array Value} (h:Bx g w vs) (i:Nat):w.frozen? ⟨g,i,none⟩=false:=by
 obtain ⟨t,h⟩:=h.head;exact frozen_of_row w g i _ _ h
theorem Bx.go {g B:Nat} {w w':World} {vs:Array Value} (h:Bx g w vs) (hb:Below B w w') (hB:g+1≤B):Bx g w' vs:=by
 obtain ⟨t,h⟩:=h.head;exact ⟨t,(hb.block g hB).trans h⟩
theorem Bx.set {g:Nat} {w:World} {vs:Array Value} (h:Bx g w vs) (i:Nat) (v:Value):Bx g (w.setCell ⟨g,i,none⟩ v) (vs.setIfInBounds i v):=by
 obtain ⟨t,h⟩:=h.head;exact ⟨t,heap_setCell_same w g i vs t v h⟩
theorem Bx.drewN {g:Nat} {w:World} {vs:Array Value} (h:Bx g w vs) (n:Nat):Bx g (w.drewN n) vs:=by
 obtain ⟨t,h⟩:=h.head;exact ⟨t,h⟩
theorem Bx.other {g:Nat} {w:World} {vs:Array Value} (h:Bx g w vs) {p:Addr} (hp:¬ p.block=g) (v:Value):Bx g (w.setCell p v) vs:=by
 obtain ⟨t,h⟩:=h.head;exact ⟨t,by rw [Below.heap_setCell _ _ _ _ (fun e=>hp e.symm)]; exact h⟩
theorem Bx.keep {g:Nat} {S:Nat→Prop} {w w':World} {vs:Array Value} (h:Bx g w vs) (ho:Only S w w') (hs:¬ S g):Bx g w' vs:=by
 have hr:=h.room;obtain ⟨t,h⟩:=h.head;exact ⟨t,(ho.block g hr hs).trans h⟩
end
section
open Go.RowKit
structure Zo where
 pre:List Value
 post:List Value
 o:Nat
 at_:pre.length=o
def z0:Zo:=⟨[],[],0,rfl⟩
def Zo.row (z:Zo) (vs:Array Value):Array Value:=(z.pre ++ (vs.toList ++ z.post)).toArray
structure Bo (z:Zo) (g:Nat) (w:World) (vs:Array Value):Prop where
 bx:Bx g w (z.row vs)
end
section
structure Ta where
 lease:Nat
 left:Nat
 roles:List (Int×Int)
 hold:Int
 waits:List Int
def ofFl (s:Fl):Ta:=⟨s.lease,s.left,s.roles,fhold s,s.line.tail⟩
end
end Go.Proofs.YtecjpkjbgknnnaaGreatDoor
