/- PMem PFo PBx PBo PFot -/
import Derived.WalkKit
import Derived.Deep.AppendLies
import Derived.Deep.Draws
import Derived.Laws.CopyOwn
import Derived.Lib.Hide
namespace Go.Proofs.YtalichkdeekdcaaGreatDoor
set_option maxRecDepth 100000
section
open Go.RowKit
def by8 (c:BitVec 8):Value:=.int .u8 c.toNat
def Bytes (w:World) (B:Nat) (a:Option Addr) (n:Nat) (l:List (BitVec 8)):Prop:=
 l.length=n∧(0<n→∃ b off,a=some ⟨b,off,none⟩∧b<B∧∀ i,i<n→w.cell? ⟨b,off+i,none⟩=some (.int .u8 (l[i]?.getD 0#8).toNat))
structure Only (S:Nat→Prop) (w w':World):Prop where
 os:w'.os=w.os
 tape:w'.tape=w.tape
 output:w'.output=w.output
 size:w.heap.size≤w'.heap.size
 block:∀ k,k<w.heap.size→¬ S k→w'.heap[k]?=w.heap[k]?
end
section
def rget:List (Int×Int)→Int→Option Int
 | [],_=>none
 | p :: t,k=>if p.1=k then some p.2 else rget t k
def rput:List (Int×Int)→Int→Int→List (Int×Int)
 | [],k,v=>[(k,v)]
 | p :: t,k,v=>if k<p.1 then (k,v) :: p :: t else if p.1=k then (k,v) :: t else p :: rput t k v
def rdel:List (Int×Int)→Int→List (Int×Int)
 | [],_=>[]
 | p :: t,k=>if p.1=k then t else p :: rdel t k
def Rising (l:List (Int×Int)):Prop:=l.Pairwise fun p q=>p.1<q.1
def rhas (l:List (Int×Int)) (k:Int):Bool:=(rget l k).isSome
def rrole (l:List (Int×Int)) (k:Int):Int:=(rget l k).getD 0
structure Fl where
 lease:Nat
 left:Nat
 roles:List (Int×Int)
 line:List Int
def fnew (lease:Int):Fl:=⟨(min (max lease 1) 1000).toNat,0,[],[]⟩
def isRole (r:Int):Bool:=decide (0≤r) && decide (r≤2)
def joins (s:Fl) (id r:Int):Bool:=!rhas s.roles id && (decide (0<id) && isRole r)
def fjoin (s:Fl) (id r:Int):Fl:=if joins s id r then { s with roles:=rput s.roles id r } else s
def outAt (s:Fl) (i:Nat):Fl:={ s with line:=s.line.eraseIdx i,left:=if i=0 then (if (s.line.eraseIdx i).length=0 then 0 else s.lease) else s.left }
def fout (s:Fl) (id:Int):Fl:=if id∈s.line then outAt s (s.line.idxOf id) else s
def fleave (s:Fl) (id:Int):Fl:=if rhas s.roles id then { fout s id with roles:=rdel s.roles id } else s
def sets (s:Fl) (id r:Int):Bool:=rhas s.roles id && isRole r
def frole (s:Fl) (id r:Int):Fl:={ s with roles:=rput s.roles id r }
def fset (s:Fl) (id r:Int):Fl:=if sets s id r then (if r=0 then fout (frole s id r) id else frole s id r) else s
def askE (s:Fl) (id:Int):Int:=if rhas s.roles id then (if rrole s.roles id=0 then 4 else if id∈s.line then 3 else 0) else 2
def fask (s:Fl) (id:Int):Fl:=if askE s id=0 then { s with line:=s.line ++ [id],left:=if s.line.length=0 then s.lease else s.left } else s
def dropE (s:Fl) (id:Int):Int:=if rhas s.roles id then (if id∈s.line then 0 else 3) else 2
def fdrop (s:Fl) (id:Int):Fl:=if dropE s id=0 then fout s id else s
def giveE (s:Fl) (id:Int):Int:=if rhas s.roles id then (if rrole s.roles id=0 then 4 else if s.line.head?=some id then 3 else 0) else 2
def fgive (s:Fl) (id:Int):Fl:=if giveE s id=0 then { s with line:=id :: (s.line.tail.filter fun x=>decide (x≠id)),left:=s.lease } else s
def revE (s:Fl):Int:=if s.line.length=0 then 3 else 0
def frev (s:Fl):Fl:=if s.line.length=0 then s else outAt s 0
def ftick (s:Fl):Fl:=if s.line.length=0 then s else if 1<s.left then { s with left:=s.left - 1 } else if s.line.length=1 then { s with left:=s.lease } else outAt s 0
def fhold (s:Fl):Int:=s.line.headD 0
structure FOk (n:Nat) (s:Fl):Prop where
 l1:1≤s.lease
 l2:s.lease≤1000
 left:s.left≤s.lease
 zero:s.left=0↔s.line=[]
 rising:Rising s.roles
 nodup:s.line.Nodup
 mem:∀ i∈s.line,rhas s.roles i=true∧rrole s.roles i≠0
 ids:∀ p∈s.roles,0<p.1∧p.1≤9223372036854775807∧0≤p.2∧p.2≤2
 rn:s.roles.length≤n
 ln:s.line.length≤n
end
section
open Go.RowKit
structure Bx (g:Nat) (w:World) (vs:Array Value):Prop where
 head:∃ t,w.heap[g]?=some (.cells vs t (0,0))
end
section
open Go.RowKit
structure Zo where
 pre:List Value
 post:List Value
 o:Nat
 at_:pre.length=o
def z0:Zo:=⟨[],[],0,rfl⟩
def Zo.row (z:Zo) (vs:Array Value):Array Value:=(z.pre ++ (vs.toList ++ z.post)).toArray
structure Bo (z:Zo) (g:Nat) (w:World) (vs:Array Value):Prop where
 bx:Bx g w (z.row vs)
end
section
structure Ta where
 lease:Nat
 left:Nat
 roles:List (Int×Int)
 hold:Int
 waits:List Int
def ofFl (s:Fl):Ta:=⟨s.lease,s.left,s.roles,fhold s,s.line.tail⟩
end
end Go.Proofs.YtalichkdeekdcaaGreatDoor
