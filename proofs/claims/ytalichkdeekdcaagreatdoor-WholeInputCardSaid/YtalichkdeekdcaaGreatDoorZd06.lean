/- PBr PBk PBi PBc PBd PKp PKd PKf PKg PBe PQc PQt PQr PTa PVl PQb PQu PQy PKm PKn PVa PVc -/
import Derived.Test.YtalichkdeekdcaaGreatDoorZd01
import Derived.Test.YtalichkdeekdcaaGreatDoorZd02
import Derived.Test.YtalichkdeekdcaaGreatDoorZd05
namespace Go.Proofs.YtalichkdeekdcaaGreatDoor
set_option maxRecDepth 100000
section
namespace Bk
open Fr Lx
structure M where
 k:Int
 a:Int
 b:Int
 t:Bs
deriving DecidableEq
def enc (m:M):Bs:=fr (BitVec.ofInt 8 m.k) (Ms.body m.k m.a m.b m.t)
def M.ok (m:M):Bool:=Ms.rt m.k m.a m.b m.t.length
def mof (f:BitVec 8×Bs):Option M:=if Ms.ofOk f.1.toNat f.2 then some ⟨f.1.toNat,Ms.ofA f.1.toNat f.2,Ms.ofB f.1.toNat f.2,Ms.ofT f.1.toNat f.2⟩ else none
noncomputable def tfs (l:Bs):List (BitVec 8×Bs):=(tells_all l).choose
noncomputable def trest (l:Bs):Bs:=(tells_all l).choose_spec.choose
structure Fs where
 l:Bs
 e:Nat
noncomputable def fpush (s:Fs) (t:Bs):Fs:=if s.e=0 then ⟨keep (trest (s.l ++ t)),broke (trest (s.l ++ t))⟩ else s
noncomputable def fgot (s:Fs) (t:Bs):List (BitVec 8×Bs):=if s.e=0 then tfs (s.l ++ t) else []
structure Cn where
 st:Nat
 idle:Nat
 fd:Fs
 lx:Lx.Lx
 out:Bs
 name:Bs
 p:Nat
 s:Nat
structure Cf where
 log:Nat
 data:Nat
 queue:Nat
 input:Nat
 strikes:Nat
 lease:Nat
 idle:Nat
 width:Nat
structure Br where
 cf:Cf
 L:Bs
 sp:Sp.Sp
 fl:Fl
 inp:Bs
 tot:Nat
 strikes:Nat
 told:Int
 cs:Nat→Option Cn
 ended:Bool
 code:Nat
def startOf (n room:Nat) (back:Int):Nat:=max (n - (max back 0).toNat) (n - room)
def countOf (n p:Nat) (room most:Int):Nat:=(min (min (min most (max room 11 - 11)) 2042) ((n:Int) - p)).toNat
def Begins (b0:Nat) (L:Bs) (off:Int) (i:Nat):Prop:=off≤i∧(i=0∨(b0<i∧L[i - 1]?=some 10#8))
def IsLine (b0:Nat) (L:Bs) (off:Int) (r:Nat):Prop:=
 r≤L.length∧(r<L.length→b0≤r∧Begins b0 L off r)∧∀ i,b0≤i→i<r→¬ Begins b0 L off i
open Classical in
noncomputable def lineAt (b0:Nat) (L:Bs) (off:Int):Nat:=if h:∃ r,IsLine b0 L off r then h.choose else 0
def ids:List Nat:=[1,2,3,4,5,6,7,8,9,10,11,12,13,14,15,16]
def opn (b:Br) (k:Nat):Bool:=match b.cs k with | some c=>decide (c.st=1) | none=>false
def setc (b:Br) (k:Nat) (c:Option Cn):Br:={ b with cs:=fun j=>if j=k then c else b.cs j }
def goes (f:Br→Nat→Br) (b:Br):List Nat→Br
 | []=>b
 | k :: ks=>goes f (if opn b k then f b k else b) ks
def notice (t:Bs):M:=⟨10,0,0,t⟩
def wLeft:Bs:=[108#8,101#8,102#8,116#8,32#8]
def wJoined:Bs:=[106#8,111#8,105#8,110#8,101#8,100#8,32#8]
def left (k:Nat):M:=notice (wLeft ++ Dgs.dgs k)
def leaveW (tell:M→Br→Br) (b:Br) (k:Nat):Br:=
 match b.cs k with
 | none=>b
 | some c=>if c.st=1 then tell (left k) { setc b k (some { c with st:=2 }) with fl:=fleave b.fl k } else setc b k (some { c with st:=2 })
def sendW (leave:Br→Nat→Br) (m:M) (b:Br) (k:Nat):Br:=
 match b.cs k with
 | none=>b
 | some c=>if c.st=2 then b else if c.out.length+(enc m).length≤b.cf.queue then setc b k (some { c with out:=c.out ++ enc m }) else leave b k
def tellN:Nat→M→Br→Br
 | 0,_,b=>b
 | n+1,m,b=>goes (sendW (leaveW (tellN n)) m) b ids
def leaveN (n:Nat):Br→Nat→Br:=leaveW (tellN n)
def sendN (n:Nat) (m:M):Br→Nat→Br:=sendW (leaveN n) m
def tell (m:M) (b:Br):Br:=tellN 17 m b
def leave (b:Br) (k:Nat):Br:=leaveN 16 b k
def send (m:M) (b:Br) (k:Nat):Br:=sendN 16 m b k
def closed (why:Nat):M:=⟨13,why,0,[]⟩
def shut (b:Br) (k:Nat) (why:Nat):Br:=leave (send (closed why) b k) k
def mfloor (h:Int):M:=⟨9,h,0,[]⟩
def holderN:Nat→Br→Br
 | 0,b=>b
 | n+1,b=>if fhold b.fl=b.told then b else holderN n (tell (mfloor (fhold b.fl)) { b with told:=fhold b.fl })
def holder (b:Br):Br:=holderN 18 b
def nextOf (L:Bs) (log:Nat) (p s:Nat) (room:Int) (data strikes:Nat):Option (M×Nat×Nat):=
 if p<L.length - log then (if strikes≤s∨room<17 then some (⟨12,0,0,[]⟩,p,s) else some (⟨7,p,(L.length - log:Nat),[]⟩,L.length - log,s+1))
 else if countOf L.length p room data=0 then none
 else some (⟨6,p,0,(L.drop p).take (countOf L.length p room data)⟩,p+countOf L.length p room data,s)
def putc (q:Nat) (c:Cn) (t:Bs):Cn:=if c.out.length+t.length≤q then { c with out:=c.out ++ t } else c
def serveN:Nat→Br→Nat→Br
  | 0,b,_=>b
  | n+1,b,k =>
    match b.cs k with
    | none=>b
    | some c =>
      match nextOf b.L b.cf.log c.p c.s ((b.cf.queue:Int) - c.out.length - 200) b.cf.data b.strikes with
      | none=>b
      | some (m,p,s) =>
        let b1:=setc b k (some (putc b.cf.queue { c with p:=p,s:=s } (enc m)))
        if m.k=12 then leave b1 k else serveN n b1 k
def serve (b:Br) (k:Nat):Br:=serveN (b.L.length+2) b k
def done (b:Br) (k:Nat):Bool:=match b.cs k with | some c=>decide (c.st=2∧c.out=[]) | none=>false
def reap (b:Br):Br:={ b with cs:=fun k=>if 1≤k∧k≤16∧done b k=true then none else b.cs k }
def settle (b:Br):Br:=reap (holder (goes serve (holder b) ids))
def mexit (code:Nat):M:=⟨15,code,0,[]⟩
def roleWord (r:Int):Bs:=if r=2 then [111#8,119#8,110#8,101#8,114#8] else if r=1 then [119#8,114#8,105#8,116#8,101#8,114#8] else [111#8,98#8,115#8,101#8,114#8,118#8,101#8,114#8]
def isName (t:Bs):Bool:=!t.isEmpty && t.all (fun c=>decide (32<c.toNat∧c.toNat<127))
def anyOwner (s:Fl):Bool:=s.roles.any (fun p=>decide (p.2=2))
def firstRole (s:Fl) (w:Bool):Int:=if w then (if anyOwner s then 1 else 2) else 0
noncomputable def viewAt (L:Bs) (log:Nat) (back:Int) (line:Bool):Nat:=if line then lineAt (L.length - log) L (startOf L.length log back:Nat) else startOf L.length log back
noncomputable def joinB (b:Br) (k:Nat) (m:M):Br:=
  let b1:=tell (notice (wJoined ++ Dgs.dgs k ++ [32#8] ++ m.t)) b
  match b1.cs k with
  | none=>b1
  | some c =>
    let p:=viewAt b1.L b1.cf.log m.b (decide (m.a % 4=2∨m.a % 4=3))
    let r:=firstRole b1.fl (decide (m.a % 2=1))
    let b2:={ setc b1 k (some { c with st:=1,name:=m.t,p:=p,s:=0 }) with fl:=fjoin b1.fl k r }
    let b3:=send ⟨5,k,p,roleWord r⟩ b2 k
    let b4:=send (mfloor b3.told) b3 k
    if b4.ended then send (mexit b4.code) b4 k else b4
noncomputable def hello (b:Br) (k:Nat) (m:M):Br:=
 if m.k≠1 then shut b k 4 else if m.a / 4≠1 then shut b k 2 else if isName m.t=false then shut b k 3 else joinB b k m
def listLine (b:Br) (j:Nat):Bs:=
 Dgs.dgs j ++ [32#8] ++ roleWord (rrole b.fl.roles j) ++ [32#8] ++ (match b.cs j with | some c=>c.name | none=>[]) ++ (if fhold b.fl=j then [32#8,42#8] else [])
def listB (b:Br) (k:Nat):Br:=goes (fun b j=>send (notice (listLine b j)) b k) b ids
def userB (b:Br) (n:Int):Option Nat:=if 1≤n∧n≤16∧opn b n.toNat=true then some n.toNat else none
def isOwners (k:Int):Bool:=decide (k=5∨k=6∨k=7∨k=8∨k=9∨k=11)
noncomputable def doB (b:Br) (k:Nat) (o:Option (Int×Int)):Br×Bool:=
  match o with
  | none=>(b,false)
  | some (kind,n) =>
    if isOwners kind=true∧rrole b.fl.roles k≠2 then (b,false)
    else if kind=1 then ({ b with fl:=fask b.fl k },decide (askE b.fl k=0))
    else if kind=2 then ({ b with fl:=fdrop b.fl k },decide (dropE b.fl k=0))
    else if kind=3 then (listB b k,true)
    else if kind=4 then (shut b k 0,true)
    else if kind=5 then ({ b with fl:=frev b.fl },decide (revE b.fl=0))
    else if kind=10 then (match b.cs k with | some c=>setc b k (some { c with p:=startOf b.L.length b.cf.log n }) | none=>b,true)
    else if kind=11 then (if 9<n then (b,false) else ({ b with strikes:=n.toNat },true))
    else match userB b n with
      | none=>(b,false)
      | some j =>
        if kind=6 then ({ b with fl:=fgive b.fl j },decide (giveE b.fl j=0))
        else if kind=7 then (shut b j 5,true)
        else if kind=8 then ({ b with fl:=fset b.fl j 1 },true)
        else if kind=9 then ({ b with fl:=fset b.fl j 0 },true)
        else (b,true)
open Classical in
noncomputable def parse (s:Bs):Option (Int×Int):=if h:∃ q:Int×Int,Orm.Rt q.1 q.2∧Orm.tx q.1 q.2=s then some h.choose else none
noncomputable def cmds (b:Br) (k:Nat):List Bs→Br
  | []=>b
  | s :: ss =>
    if opn b k then
      let d:=doB b k (parse s)
      cmds (holder (if d.2 then d.1 else send ⟨11,0,0,s⟩ d.1 k)) k ss
    else b
def whyB (b:Br) (k:Nat) (n:Nat):Nat:=
 if b.ended then 1 else if rhas b.fl.roles k=false then 2 else if rrole b.fl.roles k=0 then 3 else if fhold b.fl≠k then 4 else if b.cf.input<b.inp.length+n then 5 else 0
noncomputable def keysB (b:Br) (k:Nat) (m:M):Br:=
  match b.cs k with
  | none=>b
  | some c =>
    let ks:=lkeys c.lx m.t
    let cs:=lcmds c.lx m.t
    let b1:=setc b k (some { c with lx:=lrun c.lx m.t })
    let b2:=if ks=[] then b1 else if whyB b1 k ks.length=0 then { b1 with inp:=b1.inp ++ ks,tot:=b1.tot+ks.length } else send ⟨8,m.a,whyB b1 k ks.length,[]⟩ b1 k
    cmds b2 k cs
noncomputable def takeB (b:Br) (k:Nat) (m:Option M):Br:=
  match m with
  | none=>shut b k 4
  | some m =>
    if (match b.cs k with | some c=>decide (c.st=0) | none=>false) then hello b k m
    else if m.k=2 then keysB b k m
    else if m.k=3 then send ⟨14,0,0,[]⟩ b k
    else if m.k=4 then shut b k 0
    else shut b k 4
def closing (b:Br) (k:Nat):Bool:=match b.cs k with | some c=>decide (c.st=2) | none=>true
noncomputable def takes (b:Br) (k:Nat):List (BitVec 8×Bs)→Br
 | []=>b
 | f :: fs=>if closing b k then b else takes (holder (takeB b k (mof f))) k fs
noncomputable def recvB (b:Br) (k:Nat) (t:Bs):Br:=
  match b.cs k with
  | none=>b
  | some c =>
    let b1:=setc b k (some { c with fd:=fpush c.fd t })
    let b2:=takes b1 k (fgot c.fd t)
    if closing b2 k=false∧(fpush c.fd t).e≠0 then shut b2 k 1 else b2
def cnew:Cn:=⟨0,0,⟨[],0⟩,lx0,[],[],0,0⟩
def isThere (b:Br) (id:Int):Bool:=decide (1≤id∧id≤16) && (b.cs id.toNat).isSome
def connectE (b:Br) (id:Int):Nat:=if id<1∨16<id then 1 else if isThere b id then 3 else 0
def connectB (b:Br) (id:Int):Br:=if connectE b id=0 then setc b id.toNat (some cnew) else b
def bytesE (b:Br) (id:Int):Nat:=if isThere b id then (if closing b id.toNat then 3 else 0) else 2
noncomputable def bytesB (b:Br) (id:Int) (t:Bs):Br:=
 if bytesE b id=0 then
  let k:=id.toNat
  let b1:=match b.cs k with | some c=>(if t=[] then b else setc b k (some { c with idle:=0 })) | none=>b
  settle (recvB b1 k t)
 else b
def takeN (n:Int) (len:Nat):Nat:=(min (max n 0) len).toNat
def writeE (b:Br) (id:Int):Nat:=if isThere b id then 0 else 2
def writeT (b:Br) (id n:Int):Bs:=if isThere b id then (match b.cs id.toNat with | some c=>c.out.take (takeN n c.out.length) | none=>[]) else []
def writeB (b:Br) (id n:Int):Br:=
 if isThere b id then (match b.cs id.toNat with | some c=>settle (setc b id.toNat (some { c with out:=c.out.drop (takeN n c.out.length) })) | none=>b) else b
def cutB (b:Br) (id:Int):Br:=if isThere b id then settle (setc (leave b id.toNat) id.toNat none) else b
def outputE (b:Br):Nat:=if b.ended then 3 else 0
def outputB (b:Br) (t:Bs):Br:=if b.ended then b else settle { b with L:=b.L ++ t,sp:=Sp.nxts b.sp t }
def drainT (b:Br) (n:Int):Bs:=b.inp.take (takeN n b.inp.length)
def drainB (b:Br) (n:Int):Br:={ b with inp:=b.inp.drop (takeN n b.inp.length) }
def endE (b:Br) (code:Int):Nat:=if b.ended then 3 else if code<0∨255<code then 1 else 0
def endB (b:Br) (code:Int):Br:=
 if endE b code=0 then settle (tell (mexit code.toNat) { b with ended:=true,code:=code.toNat,inp:=[] }) else b
def tickC (b:Br) (k:Nat):Br:=
  match b.cs k with
  | none=>b
  | some c =>
    let b1:=setc b k (some { c with idle:=c.idle+1 })
    if b.cf.idle≠0∧b.cf.idle≤c.idle+1 then shut b1 k 6 else b1
def tickB (b:Br):Br:=settle (ids.foldl tickC { b with fl:=ftick b.fl })
def bnew (c:Cf):Br:=⟨c,[],⟨c.width,0,0,0⟩,fnew c.lease,[],0,c.strikes,0,fun _=>none,false,0⟩
end Bk
end
section
namespace Bk
open Fr
structure CLe (c' c:Cn):Prop where
 p:c'.p=c.p
 s:c'.s=c.s
 name:c'.name=c.name
 idle:c'.idle=c.idle
 fd:c'.fd=c.fd
 lx:c'.lx=c.lx
 st:c'.st=c.st∨c'.st=2
 out:c.out <+: c'.out
structure Le (b' b:Br):Prop where
 cf:b'.cf=b.cf
 L:b'.L=b.L
 sp:b'.sp=b.sp
 inp:b'.inp=b.inp
 tot:b'.tot=b.tot
 strikes:b'.strikes=b.strikes
 told:b'.told=b.told
 ended:b'.ended=b.ended
 code:b'.code=b.code
 op:∀ j,opn b' j=true→opn b j=true
 ro:∀ p∈b'.fl.roles,p∈b.fl.roles
 some:∀ j,(b'.cs j).isSome=(b.cs j).isSome
 cn:∀ j c',b'.cs j = .some c'→∃ c,b.cs j = .some c∧CLe c' c
def setFl (b:Br) (s:Fl):Br:={ b with fl:=s }
def toldB (b:Br):Br:={ b with told:=fhold b.fl }
def RIn (s:Fl):Prop:=∀ p∈s.roles,1≤p.1∧p.1≤16
end Bk
end
section
namespace Bk
open Fr
structure CnOk (b:Br) (c:Cn):Prop where
 p:c.p≤b.L.length
 s:c.s≤9
 name:c.name.length≤20
 st:c.st≤2
structure BOk (b:Br):Prop where
 log:1≤b.cf.log∧b.cf.log≤65536
 data:1≤b.cf.data∧b.cf.data≤2042
 queue:220≤b.cf.queue∧b.cf.queue≤65536
 input:1≤b.cf.input∧b.cf.input≤65536
 idle:b.cf.idle≤1000
 strikes:b.strikes≤9
 fok:FOk 16 b.fl
 rin:RIn b.fl
 len:b.L.length≤1099511627776
 told:0≤b.told∧b.told≤16
 code:b.code≤255
 cn:∀ k c,b.cs k=some c→CnOk b c
structure Lh (b' b:Br):Prop where
 cf:b'.cf=b.cf
 L:b'.L=b.L
 sp:b'.sp=b.sp
 inp:b'.inp=b.inp
 tot:b'.tot=b.tot
 strikes:b'.strikes=b.strikes
 ended:b'.ended=b.ended
 code:b'.code=b.code
 some:∀ j,(b'.cs j).isSome=(b.cs j).isSome
 cn:∀ j c',b'.cs j = .some c'→∃ c,b.cs j = .some c∧CLe c' c
def nextB (b:Br) (c:Cn):Option (M×Nat×Nat):=nextOf b.L b.cf.log c.p c.s ((b.cf.queue:Int) - c.out.length - 200) b.cf.data b.strikes
def served (b:Br) (k:Nat) (c:Cn) (m:M) (p s:Nat):Br:=setc b k (some (putc b.cf.queue { c with p:=p,s:=s } (enc m)))
def more (b:Br) (k:Nat):Nat:=match b.cs k with | some c=>b.L.length - c.p | none=>0
end Bk
end
section
namespace Bk
open Fr
def encs (ms:List M):Bs:=ms.flatMap enc
def In16 (b:Br):Prop:=∀ k,(b.cs k).isSome=true→1≤k∧k≤16
def plus (m:M) (c:Cn):Cn:={ c with out:=c.out ++ enc m }
structure Rest (b:Br):Prop where
 told:fhold b.fl=b.told
 seen:∀ k c,b.cs k=some c→c.st=1→nextB b c=none
 gone:∀ k c,b.cs k=some c→c.st=2→c.out≠[]
end Bk
end
section
namespace Bk
open Fr Lx
abbrev fd0:Fs:=⟨[],0⟩
def welcome (k p:Nat) (r:Int):M:=⟨5,k,p,roleWord r⟩
def opened (c:Cn) (t:Bs) (p:Nat):Cn:={ c with st:=1,name:=t,p:=p,s:=0 }
end Bk
end
section
namespace Bk
open Fr Lx
def gone (b:Br) (k:Nat) (c:Cn):Br:=if c.st=1 then setFl (setc b k (some { c with st:=2 })) (fleave b.fl k) else setc b k (some { c with st:=2 })
def FlStep (s s':Fl):Prop:=(∃ id,s'=fask s id)∨(∃ id,s'=fdrop s id)∨(∃ id,s'=fgive s id)∨s'=frev s∨(∃ id r,s'=fset s id r)∨s'=ftick s
structure KCore (P:Br→Prop):Prop where
 gone:∀ b k c,P b→b.cs k=some c→1≤k→k≤16→P (gone b k c)
 plus:∀ b k c m,P b→b.cs k=some c→c.st≠2→c.out.length+(enc m).length≤b.cf.queue→P (setc b k (some (plus m c)))
 told:∀ b,P b→P (toldB b)
 served:∀ b k c m p s,P b→b.cs k=some c→c.st=1→nextB b c=some (m,p,s)→P (served b k c m p s)
 reap:∀ b,P b→P (reap b)
section
variable {P:Br→Prop} (K:KCore P)
include K
end
structure KMost (P:Br→Prop):Prop extends KCore P where
 lx:∀ b k c t,P b→b.cs k=some c→P (setc b k (some { c with lx:=lrun c.lx t }))
 join:∀ b k c t p r,P b→b.cs k=some c→1≤k→k≤16→c.st=0→t.length≤20→isName t=true→p≤b.L.length→0≤r→r≤2→P (setFl (setc b k (some (opened c t p))) (fjoin b.fl k r))
 fl:∀ b s,P b→FlStep b.fl s→P (setFl b s)
 again:∀ b k c p,P b→b.cs k=some c→p≤b.L.length→P (setc b k (some { c with p:=p }))
 strikes:∀ b n,P b→n≤9→P { b with strikes:=n }
structure KTake (P:Br→Prop):Prop extends KMost P where
 typed:∀ b ks,P b→b.ended=false→b.inp.length+ks.length≤b.cf.input→P { b with inp:=b.inp ++ ks,tot:=b.tot+ks.length }
structure KAll (P:Br→Prop):Prop extends KTake P where
 idle0:∀ b k c,P b→b.cs k=some c→P (setc b k (some { c with idle:=0 }))
 fd:∀ b k c t,P b→b.cs k=some c→P (setc b k (some { c with fd:=fpush c.fd t }))
end Bk
end
section
namespace Bk
open Fr
def six:List Int:=[1,2,3,4,5,6,7,8,9,10,11,12,13,14,15,16]
end Bk
end
section
namespace Bk
open Fr Lx
section
variable {P:Br→Prop} (K:KMost P)
include K
end
section
variable {P:Br→Prop} (K:KTake P)
include K
end
section
variable {P:Br→Prop} (K:KAll P)
include K
end
end Bk
end
section
namespace Bk
open Fr Lx
def PC (Q:Nat→Fs→Prop) (b:Br):Prop:=∀ k c,b.cs k=some c→Q c.idle c.fd
structure EvOk (b:Br) (i T m:Nat):Prop where
 ok:BOk b
 cn:PC (fun j f=>j≤i∧f.l.length≤2052) b
 tot:b.tot≤T
 len:b.L.length≤m
 sp:Sp.Ok b.sp b.L.length
variable {b:Br} {i T m:Nat}
end Bk
end
section
namespace Bk
open Fr Lx
def keys (seq:Int) (t:Bs):M:=⟨2,seq,0,t⟩
def cfd:Cf:=⟨4096,512,2048,256,3,100,0,80⟩
def lone (b:Br) (k:Nat) (c:Cn):Br:=setc { b with cs:=fun _=>none } k (some c)
end Bk
end
section
namespace Bk
open Fr Lx
structure CW (b:Br) (n:Nat):Prop where
 in16:In16 b
 cn:∀ k c,b.cs k=some c→c.st=1∧c.fd=fd0∧c.lx=lx0∧c.p=b.L.length∧c.out.length≤n
section
variable {b:Br} {n:Nat}
structure Sm (b' b:Br):Prop where
 cf:b'.cf=b.cf
 L:b'.L=b.L
 inp:b'.inp=b.inp
 ended:b'.ended=b.ended
 code:b'.code=b.code
 strikes:b'.strikes=b.strikes
end
end Bk
end
section
namespace Bk
open Fr Lx
section
variable {b:Br} {n:Nat}
def rejectM (seq:Int) (why:Nat):M:=⟨8,seq,why,[]⟩
end
def dataM (p:Nat) (t:Bs):M:=⟨6,p,0,t⟩
def sv (L:Bs) (c:Cn):Cn:=if c.p=L.length then c else { c with p:=L.length,out:=c.out ++ enc (dataM c.p (L.drop c.p)) }
end Bk
end
section
namespace Bk
open Fr Lx
structure FlOwn (s:Fl) (ow i:Nat):Prop where
 rising:Rising s.roles
 own:∀ j,rget s.roles j=some 2→j=ow
 is:ow≠0→rget s.roles ow=some 2
 lo:∀ j v,rget s.roles j=some v→1≤j∧j≤i
structure RolesAt (b:Br) (i ow:Nat):Prop where
 cw:CW b (i * 130)
 ev:EvOk b 0 (i * 2200) 0
 cf:b.cf=cfd
 ended:b.ended=false
 told:fhold b.fl=b.told
 few:∀ j,(b.cs j).isSome=true→j≤i
 own:FlOwn b.fl ow i
end Bk
end
section
namespace Bk
open Fr Lx
end Bk
end
section
namespace Bk
open Fr Lx
def cf4 (cf:Cf):Cf:={ cf with idle:=0,queue:=4000 }
def roles3:List (Int×Int):=[(1,2),(2,1),(3,0)]
structure IW (cf:Cf) (b:Br) (n:Nat):Prop where
 cw:CW b n
 cf:b.cf=cf4 cf
 ended:b.ended=false
 told:fhold b.fl=b.told
 roles:b.fl.roles=roles3
 is:∀ k,1≤k→k≤3→(b.cs k).isSome=true
 inp:b.inp.length≤b.cf.input
end Bk
end
section
namespace Bk
open Fr Lx
structure KEv (P:Br→Prop):Prop extends KAll P where
 cut0:∀ b k c,P b→b.cs k=some c→c.st=2→P (setc b k none)
 new:∀ b k,P b→1≤k→k≤16→b.cs k=none→P (setc b k (some cnew))
 idle1:∀ b k c,P b→b.cs k=some c→P (setc b k (some { c with idle:=c.idle+1 }))
 wrote:∀ b k c n,P b→b.cs k=some c→P (setc b k (some { c with out:=c.out.drop n }))
 out:∀ b t,P b→b.ended=false→P { b with L:=b.L ++ t,sp:=Sp.nxts b.sp t }
 ended:∀ b n,P b→n≤255→b.ended=false→P { b with ended:=true,code:=n,inp:=[] }
 drained:∀ b n,P b→P { b with inp:=b.inp.drop n }
section
variable {P:Br→Prop} (K:KEv P) {b:Br}
include K
end
structure R3 (b:Br):Prop where
 rising:Rising b.fl.roles
 ro:∀ k:Nat,rhas b.fl.roles k=true→opn b k=true
 out:∀ k c,b.cs k=some c→c.out.length≤b.cf.queue
end Bk
end
section
namespace Bk
open Fr Lx
end Bk
end
section
namespace Bk
open Fr Lx
def QC (b:Br):Prop:=∀ k c,b.cs k=some c→c.fd=fd0∧c.lx=lx0
structure KJoin (P:Br→Prop):Prop extends KCore P where
 join:∀ b k c t p r,P b→b.cs k=some c→1≤k→k≤16→c.st=0→t.length≤20→isName t=true→p≤b.L.length→0≤r→r≤2→P (setFl (setc b k (some (opened c t p))) (fjoin b.fl k r))
 fl:∀ b s,P b→P (setFl b s)
section
variable {P:Br→Prop} (K:KJoin P)
include K
end
structure InAt (b:Br) (i T m:Nat):Prop where
 ev:EvOk b i T m
 in16:In16 b
 rest:Rest b
 qc:QC b
 ended:b.ended=false
 queue:b.cf.queue=60000
 inp:b.inp.length≤b.cf.input
 r3:R3 b
end Bk
end
section
namespace Bk
open Fr Lx
def Plain (m:M):Prop:=m.ok=true∧m.k≠5∧m.k≠6∧m.k≠7∧m.k≠12∧m.k≠13
structure KMsg (P:Br→Prop):Prop where
 ok:∀ b,P b→BOk b
 gone:∀ b k c,P b→b.cs k=some c→1≤k→k≤16→P (gone b k c)
 plus:∀ b k c m,P b→b.cs k=some c→c.st≠2→Plain m→c.out.length+(enc m).length≤b.cf.queue→P (setc b k (some (plus m c)))
 closed:∀ b k c why,P b→b.cs k=some c→c.st≠2→why≤6→c.out.length+11≤b.cf.queue→1≤k→k≤16→P (Bk.gone (setc b k (some (Bk.plus (Bk.closed why) c))) k (Bk.plus (Bk.closed why) c))
 told:∀ b,P b→P (toldB b)
 served:∀ b k c m p s,P b→b.cs k=some c→c.st=1→nextB b c=some (m,p,s)→m.k≠12→P (served b k c m p s)
 evict:∀ b k c m p s,P b→b.cs k=some c→c.st=1→nextB b c=some (m,p,s)→m.k=12→1≤k→k≤16→P (Bk.gone (Bk.served b k c m p s) k (putc b.cf.queue { c with p:=p,s:=s } (enc m)))
 reap:∀ b,P b→P (reap b)
section
variable {P:Br→Prop} (K:KMsg P)
include K
end
structure KCmd (k:Nat) (P:Br→Prop):Prop extends KMsg P where
 join:∀ b c t p r,P b→b.cs k=some c→1≤k→k≤16→c.st=0→t.length≤20→isName t=true→p≤b.L.length→0≤r→r≤2→P (send (welcome k p r) (setFl (setc b k (some (opened c t p))) (fjoin b.fl k r)) k)
 fl:∀ b s,P b→FlStep b.fl s→P (setFl b s)
 typed:∀ b ks,P b→b.ended=false→b.inp.length+ks.length≤b.cf.input→P { b with inp:=b.inp ++ ks,tot:=b.tot+ks.length }
structure KSay (k:Nat) (P:Br→Prop):Prop extends KCmd k P where
 lx:∀ b c t,P b→b.cs k=some c→P (setc b k (some { c with lx:=lrun c.lx t }))
 idle0:∀ b c,P b→b.cs k=some c→P (setc b k (some { c with idle:=0 }))
 fd:∀ b c t,P b→b.cs k=some c→P (setc b k (some { c with fd:=fpush c.fd t }))
section
variable {P:Br→Prop} {k:Nat} (K:KCmd k P)
include K
end
section
variable {P:Br→Prop} {k:Nat} (K:KSay k P)
include K
end
end Bk
end
section
namespace Bk
open Fr Lx
structure Ts where
 at_:Int
 gaps:Nat
 last:Bool
end Bk
end
section
namespace Bk
open Fr Lx
structure VB (cf0:Cf) (L0:Bs) (B:Br):Prop where
 cf:B.cf=cf0
 L:B.L=L0
 st:B.strikes=cf0.strikes
 ended:B.ended=false
 told:B.told=0
 line:B.fl.line=[]
 len:L0.length≤1099511627776
structure VK (cf:Cf) (P Q:Bs→Bs→Cn→Prop):Prop where
 go:∀ G L c m p s,L.length≤1099511627776→P G L c→c.st=1→nextOf L cf.log c.p c.s ((cf.queue:Int) - c.out.length - 200) cf.data cf.strikes=some (m,p,s)→m.k≠12→P G L (putc cf.queue { c with p:=p,s:=s } (enc m))
 end_:∀ G L c m p s,L.length≤1099511627776→P G L c→c.st=1→nextOf L cf.log c.p c.s ((cf.queue:Int) - c.out.length - 200) cf.data cf.strikes=some (m,p,s)→m.k=12→Q G L { putc cf.queue { c with p:=p,s:=s } (enc m) with st:=2 }
 wr:∀ G L c q,P G L c→P (G ++ c.out.take q) L { c with out:=c.out.drop q }
 wr2:∀ G L c q,Q G L c→Q (G ++ c.out.take q) L { c with out:=c.out.drop q }
structure VM (P Q:Bs→Bs→Cn→Prop):Prop where
 more:∀ G L t c,P G L c→P G (L ++ t) c
 more2:∀ G L t c,Q G L c→Q G (L ++ t) c
end Bk
end
section
namespace Bk
open Fr Lx
def Stop (r:Bs):Prop:=∀ m r',m.ok=true→r≠enc m ++ r'
structure Msgs (t:Bs) (ms:List M) (r:Bs):Prop where
 all:t=encs ms ++ r
 ok:∀ m∈ms,m.ok=true
 stop:Stop r
end Bk
end
end Go.Proofs.YtalichkdeekdcaaGreatDoor
