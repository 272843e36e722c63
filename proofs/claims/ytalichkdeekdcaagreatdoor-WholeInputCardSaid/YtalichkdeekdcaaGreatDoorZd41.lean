/- PTw PVh PVi PVm PVo PKk -/
import Derived.Test.YtalichkdeekdcaaGreatDoorZd26
import Derived.Test.YtalichkdeekdcaaGreatDoorZd30
import Derived.Test.YtalichkdeekdcaaGreatDoorZd40
namespace Go.Proofs.YtalichkdeekdcaaGreatDoor
set_option maxRecDepth 100000
section
open Go.RowKit
open Fr Bk
end
section
open Go.RowKit
open Fr Bk
end
section
open Go.RowKit
open Fr Bk
def cf0 (cf:Cf):Cf:={ cf with idle:=0 }
end
section
open Go.RowKit
open Fr Bk Lx
def gstep (s:Bs) (p:Sc.Ev×Ot):Bs:=if p.1.k=4 then s ++ p.2.t else s
def gvn (s:Bs) (l:List (Sc.Ev×Ot)):Bs:=l.foldl gstep s
structure An where
 id:Nat
 seq:Nat
 t:Bs
 w:Option Nat
def wx:Option An→Bs
  | none=>[]
  | some a=>match a.w with
    | none=>a.t
    | some _=>[]
def wvn (X:List (Option An)):Bs:=X.flatMap wx
def rjs (a:An):List M:=match a.w with
 | none=>[]
 | some y=>[rejectM a.seq y]
structure AnOk (a:An):Prop where
 id1:1≤a.id
 id3:a.id≤3
 seq:a.seq≤40
 len:a.t.length≤60
 free:a.w=none→a.id≠3
 why:∀ y,a.w=some y→3≤y∧y≤5∧(a.id=3→y=3)
structure IX (cf:Cf) (E:List Sc.Ev) (X:List (Option An)) (n:Nat):Prop where
 iw:IW cf (prun (bnew (cf4 cf)) E) n
 len:X.length=E.length
 rt:∀ e∈E,Sc.rtE e=true
 small:∀ e∈E,e.t.length≤100
 given:gvn [] (E.zip (pouts (bnew (cf4 cf)) E)) ++ (prun (bnew (cf4 cf)) E).inp=wvn X
 ann:∀ k a,X[k]?=some (some a)→AnOk a∧E[k]?=some (allE a.id)∧E[k+1]?=some (sayE a.id (keys a.seq a.t))∧∃ e,(pouts (bnew (cf4 cf)) E)[k+2]?=some ⟨e,encs (rjs a)⟩
end
section
open Go.RowKit
open Fr Bk
def cfR (cf:Cf):Array Value:=#[.int .i64 cf.log,.int .i64 cf.data,.int .i64 4000,.int .i64 cf.input,.int .i64 cf.strikes,.int .i64 cf.lease,.int .i64 0,.int .i64 cf.width]
structure InM (cf:Cf) (gm N:Nat) (w0 wr:World) (A K:Option Addr) (en c kl ck:Nat) (E:List Sc.Ev) (V:List Int):Prop where
 el:E.length=en
 ev:EvRow N wr A en c E
 nr:Rw N wr K kl ck (ints V)
 ne:∀ p q,A=some p→K=some q→p.block≠q.block
 bx:Bx gm wr (cfR cf)
 below:Below gm w0 wr
 big:N≤wr.heap.size
 lt:gm<N
end
section
open Go.RowKit
open Fr Bk
def rolesK (m:Nat):List (Int×Int):=(List.range m).map fun j=>(((j+1:Nat):Int),if j=0 then 2 else 1)
def flK (m:Nat):Fl:=⟨100,0,rolesK m,[]⟩
structure KickAt (b:Br) (m:Nat):Prop where
 cw:CW b (m * 107)
 fl:b.fl=flK m
 told:b.told=0
 sm:Sm b (bnew cfd)
 is:∀ j,(b.cs j).isSome=decide (1≤j∧j≤m)
end
end Go.Proofs.YtalichkdeekdcaaGreatDoor
