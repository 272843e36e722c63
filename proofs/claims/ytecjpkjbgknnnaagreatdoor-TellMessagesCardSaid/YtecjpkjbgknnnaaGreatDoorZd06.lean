/- PBr PYa PBk PBi PBc PBd PKp PKd PKf PKg PBe PQc PQt PQr -/
import Derived.Test.YtecjpkjbgknnnaaGreatDoorZd01
import Derived.Test.YtecjpkjbgknnnaaGreatDoorZd02
import Derived.Test.YtecjpkjbgknnnaaGreatDoorZd05
namespace Go.Proofs.YtecjpkjbgknnnaaGreatDoor
set_option maxRecDepth 100000
section
namespace Bk
open Fr Lx
structure M where
 k:Int
 a:Int
 b:Int
 t:Bs
deriving DecidableEq
def enc (m:M):Bs:=fr (BitVec.ofInt 8 m.k) (Ms.body m.k m.a m.b m.t)
def M.ok (m:M):Bool:=Ms.rt m.k m.a m.b m.t.length
def mof (f:BitVec 8×Bs):Option M:=if Ms.ofOk f.1.toNat f.2 then some ⟨f.1.toNat,Ms.ofA f.1.toNat f.2,Ms.ofB f.1.toNat f.2,Ms.ofT f.1.toNat f.2⟩ else none
noncomputable def tfs (l:Bs):List (BitVec 8×Bs):=(tells_all l).choose
noncomputable def trest (l:Bs):Bs:=(tells_all l).choose_spec.choose
structure Fs where
 l:Bs
 e:Nat
noncomputable def fpush (s:Fs) (t:Bs):Fs:=if s.e=0 then ⟨keep (trest (s.l ++ t)),broke (trest (s.l ++ t))⟩ else s
noncomputable def fgot (s:Fs) (t:Bs):List (BitVec 8×Bs):=if s.e=0 then tfs (s.l ++ t) else []
structure Cn where
 st:Nat
 idle:Nat
 fd:Fs
 lx:Lx.Lx
 out:Bs
 name:Bs
 p:Nat
 s:Nat
structure Cf where
 log:Nat
 data:Nat
 queue:Nat
 input:Nat
 strikes:Nat
 lease:Nat
 idle:Nat
 width:Nat
structure Br where
 cf:Cf
 L:Bs
 sp:Sp.Sp
 fl:Fl
 inp:Bs
 tot:Nat
 strikes:Nat
 told:Int
 cs:Nat→Option Cn
 ended:Bool
 code:Nat
def startOf (n room:Nat) (back:Int):Nat:=max (n - (max back 0).toNat) (n - room)
def countOf (n p:Nat) (room most:Int):Nat:=(min (min (min most (max room 11 - 11)) 2042) ((n:Int) - p)).toNat
def Begins (b0:Nat) (L:Bs) (off:Int) (i:Nat):Prop:=off≤i∧(i=0∨(b0<i∧L[i - 1]?=some 10#8))
def IsLine (b0:Nat) (L:Bs) (off:Int) (r:Nat):Prop:=
 r≤L.length∧(r<L.length→b0≤r∧Begins b0 L off r)∧∀ i,b0≤i→i<r→¬ Begins b0 L off i
open Classical in
noncomputable def lineAt (b0:Nat) (L:Bs) (off:Int):Nat:=if h:∃ r,IsLine b0 L off r then h.choose else 0
def ids:List Nat:=[1,2,3,4,5,6,7,8,9,10,11,12,13,14,15,16]
def opn (b:Br) (k:Nat):Bool:=match b.cs k with | some c=>decide (c.st=1) | none=>false
def setc (b:Br) (k:Nat) (c:Option Cn):Br:={ b with cs:=fun j=>if j=k then c else b.cs j }
def goes (f:Br→Nat→Br) (b:Br):List Nat→Br
 | []=>b
 | k :: ks=>goes f (if opn b k then f b k else b) ks
def notice (t:Bs):M:=⟨10,0,0,t⟩
def wLeft:Bs:=[108#8,101#8,102#8,116#8,32#8]
def wJoined:Bs:=[106#8,111#8,105#8,110#8,101#8,100#8,32#8]
def left (k:Nat):M:=notice (wLeft ++ Dgs.dgs k)
def leaveW (tell:M→Br→Br) (b:Br) (k:Nat):Br:=
 match b.cs k with
 | none=>b
 | some c=>if c.st=1 then tell (left k) { setc b k (some { c with st:=2 }) with fl:=fleave b.fl k } else setc b k (some { c with st:=2 })
def sendW (leave:Br→Nat→Br) (m:M) (b:Br) (k:Nat):Br:=
 match b.cs k with
 | none=>b
 | some c=>if c.st=2 then b else if c.out.length+(enc m).length≤b.cf.queue then setc b k (some { c with out:=c.out ++ enc m }) else leave b k
def tellN:Nat→M→Br→Br
 | 0,_,b=>b
 | n+1,m,b=>goes (sendW (leaveW (tellN n)) m) b ids
def leaveN (n:Nat):Br→Nat→Br:=leaveW (tellN n)
def sendN (n:Nat) (m:M):Br→Nat→Br:=sendW (leaveN n) m
def tell (m:M) (b:Br):Br:=tellN 17 m b
def leave (b:Br) (k:Nat):Br:=leaveN 16 b k
def send (m:M) (b:Br) (k:Nat):Br:=sendN 16 m b k
def closed (why:Nat):M:=⟨13,why,0,[]⟩
def shut (b:Br) (k:Nat) (why:Nat):Br:=leave (send (closed why) b k) k
def mfloor (h:Int):M:=⟨9,h,0,[]⟩
def holderN:Nat→Br→Br
 | 0,b=>b
 | n+1,b=>if fhold b.fl=b.told then b else holderN n (tell (mfloor (fhold b.fl)) { b with told:=fhold b.fl })
def holder (b:Br):Br:=holderN 18 b
def nextOf (L:Bs) (log:Nat) (p s:Nat) (room:Int) (data strikes:Nat):Option (M×Nat×Nat):=
 if p<L.length - log then (if strikes≤s∨room<17 then some (⟨12,0,0,[]⟩,p,s) else some (⟨7,p,(L.length - log:Nat),[]⟩,L.length - log,s+1))
 else if countOf L.length p room data=0 then none
 else some (⟨6,p,0,(L.drop p).take (countOf L.length p room data)⟩,p+countOf L.length p room data,s)
def putc (q:Nat) (c:Cn) (t:Bs):Cn:=if c.out.length+t.length≤q then { c with out:=c.out ++ t } else c
def serveN:Nat→Br→Nat→Br
  | 0,b,_=>b
  | n+1,b,k =>
    match b.cs k with
    | none=>b
    | some c =>
      match nextOf b.L b.cf.log c.p c.s ((b.cf.queue:Int) - c.out.length - 200) b.cf.data b.strikes with
      | none=>b
      | some (m,p,s) =>
        let b1:=setc b k (some (putc b.cf.queue { c with p:=p,s:=s } (enc m)))
        if m.k=12 then leave b1 k else serveN n b1 k
def serve (b:Br) (k:Nat):Br:=serveN (b.L.length+2) b k
def done (b:Br) (k:Nat):Bool:=match b.cs k with | some c=>decide (c.st=2∧c.out=[]) | none=>false
def reap (b:Br):Br:={ b with cs:=fun k=>if 1≤k∧k≤16∧done b k=true then none else b.cs k }
def settle (b:Br):Br:=reap (holder (goes serve (holder b) ids))
def mexit (code:Nat):M:=⟨15,code,0,[]⟩
def roleWord (r:Int):Bs:=if r=2 then [111#8,119#8,110#8,101#8,114#8] else if r=1 then [119#8,114#8,105#8,116#8,101#8,114#8] else [111#8,98#8,115#8,101#8,114#8,118#8,101#8,114#8]
def isName (t:Bs):Bool:=!t.isEmpty && t.all (fun c=>decide (32<c.toNat∧c.toNat<127))
def anyOwner (s:Fl):Bool:=s.roles.any (fun p=>decide (p.2=2))
def firstRole (s:Fl) (w:Bool):Int:=if w then (if anyOwner s then 1 else 2) else 0
noncomputable def viewAt (L:Bs) (log:Nat) (back:Int) (line:Bool):Nat:=if line then lineAt (L.length - log) L (startOf L.length log back:Nat) else startOf L.length log back
noncomputable def joinB (b:Br) (k:Nat) (m:M):Br:=
  let b1:=tell (notice (wJoined ++ Dgs.dgs k ++ [32#8] ++ m.t)) b
  match b1.cs k with
  | none=>b1
  | some c =>
    let p:=viewAt b1.L b1.cf.log m.b (decide (m.a % 4=2∨m.a % 4=3))
    let r:=firstRole b1.fl (decide (m.a % 2=1))
    let b2:={ setc b1 k (some { c with st:=1,name:=m.t,p:=p,s:=0 }) with fl:=fjoin b1.fl k r }
    let b3:=send ⟨5,k,p,roleWord r⟩ b2 k
    let b4:=send (mfloor b3.told) b3 k
    if b4.ended then send (mexit b4.code) b4 k else b4
noncomputable def hello (b:Br) (k:Nat) (m:M):Br:=
 if m.k≠1 then shut b k 4 else if m.a / 4≠1 then shut b k 2 else if isName m.t=false then shut b k 3 else joinB b k m
def listLine (b:Br) (j:Nat):Bs:=
 Dgs.dgs j ++ [32#8] ++ roleWord (rrole b.fl.roles j) ++ [32#8] ++ (match b.cs j with | some c=>c.name | none=>[]) ++ (if fhold b.fl=j then [32#8,42#8] else [])
def listB (b:Br) (k:Nat):Br:=goes (fun b j=>send (notice (listLine b j)) b k) b ids
def userB (b:Br) (n:Int):Option Nat:=if 1≤n∧n≤16∧opn b n.toNat=true then some n.toNat else none
def isOwners (k:Int):Bool:=decide (k=5∨k=6∨k=7∨k=8∨k=9∨k=11)
noncomputable def doB (b:Br) (k:Nat) (o:Option (Int×Int)):Br×Bool:=
  match o with
  | none=>(b,false)
  | some (kind,n) =>
    if isOwners kind=true∧rrole b.fl.roles k≠2 then (b,false)
    else if kind=1 then ({ b with fl:=fask b.fl k },decide (askE b.fl k=0))
    else if kind=2 then ({ b with fl:=fdrop b.fl k },decide (dropE b.fl k=0))
    else if kind=3 then (listB b k,true)
    else if kind=4 then (shut b k 0,true)
    else if kind=5 then ({ b with fl:=frev b.fl },decide (revE b.fl=0))
    else if kind=10 then (match b.cs k with | some c=>setc b k (some { c with p:=startOf b.L.length b.cf.log n }) | none=>b,true)
    else if kind=11 then (if 9<n then (b,false) else ({ b with strikes:=n.toNat },true))
    else match userB b n with
      | none=>(b,false)
      | some j =>
        if kind=6 then ({ b with fl:=fgive b.fl j },decide (giveE b.fl j=0))
        else if kind=7 then (shut b j 5,true)
        else if kind=8 then ({ b with fl:=fset b.fl j 1 },true)
        else if kind=9 then ({ b with fl:=fset b.fl j 0 },true)
        else (b,true)
open Classical in
noncomputable def parse (s:Bs):Option (Int×Int):=if h:∃ q:Int×Int,Orm.Rt q.1 q.2∧Orm.tx q.1 q.2=s then some h.choose else none
noncomputable def cmds (b:Br) (k:Nat):List Bs→Br
  | []=>b
  | s :: ss =>
    if opn b k then
      let d:=doB b k (parse s)
      cmds (holder (if d.2 then d.1 else send ⟨11,0,0,s⟩ d.1 k)) k ss
    else b
def whyB (b:Br) (k:Nat) (n:Nat):Nat:=
 if b.ended then 1 else if rhas b.fl.roles k=false then 2 else if rrole b.fl.roles k=0 then 3 else if fhold b.fl≠k then 4 else if b.cf.input<b.inp.length+n then 5 else 0
noncomputable def keysB (b:Br) (k:Nat) (m:M):Br:=
  match b.cs k with
  | none=>b
  | some c =>
    let ks:=lkeys c.lx m.t
    let cs:=lcmds c.lx m.t
    let b1:=setc b k (some { c with lx:=lrun c.lx m.t })
    let b2:=if ks=[] then b1 else if whyB b1 k ks.length=0 then { b1 with inp:=b1.inp ++ ks,tot:=b1.tot+ks.length } else send ⟨8,m.a,whyB b1 k ks.length,[]⟩ b1 k
    cmds b2 k cs
noncomputable def takeB (b:Br) (k:Nat) (m:Option M):Br:=
  match m with
  | none=>shut b k 4
  | some m =>
    if (match b.cs k with | some c=>decide (c.st=0) | none=>false) then hello b k m
    else if m.k=2 then keysB b k m
    else if m.k=3 then send ⟨14,0,0,[]⟩ b k
    else if m.k=4 then shut b k 0
    else shut b k 4
def closing (b:Br) (k:Nat):Bool:=match b.cs k with | some c=>decide (c.st=2) | none=>true
noncomputable def takes (b:Br) (k:Nat):List (BitVec 8×Bs)→Br
 | []=>b
 | f :: fs=>if closing b k then b else takes (holder (takeB b k (mof f))) k fs
noncomputable def recvB (b:Br) (k:Nat) (t:Bs):Br:=
  match b.cs k with
  | none=>b
  | some c =>
    let b1:=setc b k (some { c with fd:=fpush c.fd t })
    let b2:=takes b1 k (fgot c.fd t)
    if closing b2 k=false∧(fpush c.fd t).e≠0 then shut b2 k 1 else b2
def cnew:Cn:=⟨0,0,⟨[],0⟩,lx0,[],[],0,0⟩
def isThere (b:Br) (id:Int):Bool:=decide (1≤id∧id≤16) && (b.cs id.toNat).isSome
def connectE (b:Br) (id:Int):Nat:=if id<1∨16<id then 1 else if isThere b id then 3 else 0
def connectB (b:Br) (id:Int):Br:=if connectE b id=0 then setc b id.toNat (some cnew) else b
def bytesE (b:Br) (id:Int):Nat:=if isThere b id then (if closing b id.toNat then 3 else 0) else 2
noncomputable def bytesB (b:Br) (id:Int) (t:Bs):Br:=
 if bytesE b id=0 then
  let k:=id.toNat
  let b1:=match b.cs k with | some c=>(if t=[] then b else setc b k (some { c with idle:=0 })) | none=>b
  settle (recvB b1 k t)
 else b
def bnew (c:Cf):Br:=⟨c,[],⟨c.width,0,0,0⟩,fnew c.lease,[],0,c.strikes,0,fun _=>none,false,0⟩
end Bk
end
section
namespace Tl
open Fr Bk
def dg (x:Nat):BitVec 8:=if x<10 then BitVec.ofNat 8 (48+x) else BitVec.ofNat 8 (87+x)
def hexB:Bs→Bs
 | []=>[]
 | c :: l=>dg (c.toNat / 16) :: dg (c.toNat % 16) :: hexB l
theorem hexB_app:∀ (l m:Bs),hexB (l ++ m)=hexB l ++ hexB m
 | [],_=>rfl
 | c :: l,m=>congrArg (fun r=>dg (c.toNat / 16) :: dg (c.toNat % 16) :: r) (hexB_app l m)
theorem hexB_len:∀ l:Bs,(hexB l).length=2 * l.length
  | []=>rfl
  | c :: l=>by
    show (hexB l).length+1+1=2 * (l.length+1)
    rw [hexB_len l]; omega
def hexT (t:Bs):Bs:=if t=[] then [45#8] else hexB t
theorem hexT_some {t:Bs} (h:t≠[]):hexT t=hexB t:=if_neg h
theorem hexT_len (t:Bs):(hexT t).length≤2 * t.length+1:=by
 unfold hexT
 split
 ·exact Nat.le_add_left _ _
 ·rw [hexB_len]; exact Nat.le_succ _
def numT (n:Int):Bs:=(Lib.itoa n).map fun c=>c.toBitVec
def wk:Nat→Bs
 | 1=>[104#8,101#8,108#8,108#8,111#8]
 | 2=>[107#8,101#8,121#8,115#8]
 | 3=>[112#8,105#8,110#8,103#8]
 | 4=>[98#8,121#8,101#8]
 | 5=>[119#8,101#8,108#8,99#8,111#8,109#8,101#8]
 | 6=>[100#8,97#8,116#8,97#8]
 | 7=>[103#8,97#8,112#8]
 | 8=>[114#8,101#8,106#8,101#8,99#8,116#8]
 | 9=>[102#8,108#8,111#8,111#8,114#8]
 | 10=>[110#8,111#8,116#8,105#8,99#8,101#8]
 | 11=>[100#8,101#8,110#8,105#8,101#8,100#8]
 | 12=>[101#8,118#8,105#8,99#8,116#8,101#8,100#8]
 | 13=>[99#8,108#8,111#8,115#8,101#8,100#8]
 | 14=>[112#8,111#8,110#8,103#8]
 | 15=>[101#8,120#8,105#8,116#8]
 | _=>[]
def wkT (k:Int):Bs:=if 1≤k∧k≤15 then wk k.toNat else []
def we:Nat→Bs
 | 0=>[111#8,107#8]
 | 1=>[97#8,114#8,103#8]
 | 2=>[110#8,111#8,110#8,101#8]
 | 3=>[115#8,116#8,97#8,116#8,101#8]
 | 4=>[114#8,111#8,108#8,101#8]
 | 5=>[115#8,104#8,111#8,114#8,116#8]
 | 6=>[108#8,111#8,110#8,103#8]
 | 7=>[115#8,117#8,109#8]
 | 8=>[102#8,111#8,114#8,109#8]
 | _=>[]
theorem we_len (k:Nat):(we k).length≤5:=by
 unfold we
 split <;> decide
theorem wk_len (k:Nat):(wk k).length≤7:=by
 unfold wk
 split <;> decide
theorem wkT_len (k:Int):(wkT k).length≤7:=by
 unfold wkT
 split
 ·exact wk_len _
 ·exact Nat.zero_le _
def spc:List Bs→Bs
 | []=>[]
 | [a]=>a
 | a :: b :: l=>a ++ 32#8 :: spc (b :: l)
def lineM (k a b:Int) (t:Bs):Bs:=spc [wkT k,numT a,numT b,hexT t]
def errorT (e:Nat) (n:Nat):Bs:=spc [[101#8,114#8,114#8,111#8,114#8],we e,[97#8,116#8],numT n]
def manyT:Bs:=[109#8,97#8,110#8,121#8]
def cutL (X:List Bs):List Bs:=if X.length≤500 then X else X.take 500 ++ [manyT]
theorem cutL_few {X:List Bs} (h:X.length≤500):cutL X=X:=if_pos h
theorem cutL_many {X:List Bs} (h:¬ X.length≤500):cutL X=X.take 500 ++ [manyT]:=if_neg h
theorem cutL_len (X:List Bs):(cutL X).length=min X.length 501:=by
 unfold cutL
 split
 ·omega
 ·rw [List.length_append,List.length_take]; simp; omega
theorem cutL_next (X:List Bs) (x:Bs):cutL (X ++ [x])=(if (cutL X).length<500 then cutL X ++ [x] else if (cutL X).length=500 then cutL X ++ [manyT] else cutL X):=by
 rw [cutL_len]
 by_cases h:X.length<500
 ·rw [if_pos (by omega),cutL_few (by simp; omega),cutL_few (by omega)]
 ·rw [if_neg (by omega)]
  by_cases h2:X.length=500
  ·rw [if_pos (by omega),cutL_many (by simp; omega),cutL_few (by omega),← h2,List.take_left' rfl]
  ·rw [if_neg (by omega),cutL_many (by simp; omega),cutL_many (by omega),List.take_append_of_le_length (by omega)]
end Tl
end
section
namespace Bk
open Fr
structure CLe (c' c:Cn):Prop where
 p:c'.p=c.p
 s:c'.s=c.s
 name:c'.name=c.name
 idle:c'.idle=c.idle
 fd:c'.fd=c.fd
 lx:c'.lx=c.lx
 st:c'.st=c.st∨c'.st=2
 out:c.out <+: c'.out
structure Le (b' b:Br):Prop where
 cf:b'.cf=b.cf
 L:b'.L=b.L
 sp:b'.sp=b.sp
 inp:b'.inp=b.inp
 tot:b'.tot=b.tot
 strikes:b'.strikes=b.strikes
 told:b'.told=b.told
 ended:b'.ended=b.ended
 code:b'.code=b.code
 op:∀ j,opn b' j=true→opn b j=true
 ro:∀ p∈b'.fl.roles,p∈b.fl.roles
 some:∀ j,(b'.cs j).isSome=(b.cs j).isSome
 cn:∀ j c',b'.cs j = .some c'→∃ c,b.cs j = .some c∧CLe c' c
def setFl (b:Br) (s:Fl):Br:={ b with fl:=s }
def toldB (b:Br):Br:={ b with told:=fhold b.fl }
def RIn (s:Fl):Prop:=∀ p∈s.roles,1≤p.1∧p.1≤16
end Bk
end
section
namespace Bk
open Fr
structure CnOk (b:Br) (c:Cn):Prop where
 p:c.p≤b.L.length
 s:c.s≤9
 name:c.name.length≤20
 st:c.st≤2
structure BOk (b:Br):Prop where
 log:1≤b.cf.log∧b.cf.log≤65536
 data:1≤b.cf.data∧b.cf.data≤2042
 queue:220≤b.cf.queue∧b.cf.queue≤65536
 input:1≤b.cf.input∧b.cf.input≤65536
 idle:b.cf.idle≤1000
 strikes:b.strikes≤9
 fok:FOk 16 b.fl
 rin:RIn b.fl
 len:b.L.length≤1099511627776
 told:0≤b.told∧b.told≤16
 code:b.code≤255
 cn:∀ k c,b.cs k=some c→CnOk b c
structure Lh (b' b:Br):Prop where
 cf:b'.cf=b.cf
 L:b'.L=b.L
 sp:b'.sp=b.sp
 inp:b'.inp=b.inp
 tot:b'.tot=b.tot
 strikes:b'.strikes=b.strikes
 ended:b'.ended=b.ended
 code:b'.code=b.code
 some:∀ j,(b'.cs j).isSome=(b.cs j).isSome
 cn:∀ j c',b'.cs j = .some c'→∃ c,b.cs j = .some c∧CLe c' c
def nextB (b:Br) (c:Cn):Option (M×Nat×Nat):=nextOf b.L b.cf.log c.p c.s ((b.cf.queue:Int) - c.out.length - 200) b.cf.data b.strikes
def served (b:Br) (k:Nat) (c:Cn) (m:M) (p s:Nat):Br:=setc b k (some (putc b.cf.queue { c with p:=p,s:=s } (enc m)))
def more (b:Br) (k:Nat):Nat:=match b.cs k with | some c=>b.L.length - c.p | none=>0
end Bk
end
section
namespace Bk
open Fr
def In16 (b:Br):Prop:=∀ k,(b.cs k).isSome=true→1≤k∧k≤16
def plus (m:M) (c:Cn):Cn:={ c with out:=c.out ++ enc m }
structure Rest (b:Br):Prop where
 told:fhold b.fl=b.told
 seen:∀ k c,b.cs k=some c→c.st=1→nextB b c=none
 gone:∀ k c,b.cs k=some c→c.st=2→c.out≠[]
end Bk
end
section
namespace Bk
open Fr Lx
abbrev fd0:Fs:=⟨[],0⟩
def opened (c:Cn) (t:Bs) (p:Nat):Cn:={ c with st:=1,name:=t,p:=p,s:=0 }
end Bk
end
section
namespace Bk
open Fr Lx
def gone (b:Br) (k:Nat) (c:Cn):Br:=if c.st=1 then setFl (setc b k (some { c with st:=2 })) (fleave b.fl k) else setc b k (some { c with st:=2 })
def FlStep (s s':Fl):Prop:=(∃ id,s'=fask s id)∨(∃ id,s'=fdrop s id)∨(∃ id,s'=fgive s id)∨s'=frev s∨(∃ id r,s'=fset s id r)∨s'=ftick s
structure KCore (P:Br→Prop):Prop where
 gone:∀ b k c,P b→b.cs k=some c→1≤k→k≤16→P (gone b k c)
 plus:∀ b k c m,P b→b.cs k=some c→c.st≠2→c.out.length+(enc m).length≤b.cf.queue→P (setc b k (some (plus m c)))
 told:∀ b,P b→P (toldB b)
 served:∀ b k c m p s,P b→b.cs k=some c→c.st=1→nextB b c=some (m,p,s)→P (served b k c m p s)
 reap:∀ b,P b→P (reap b)
section
variable {P:Br→Prop} (K:KCore P)
include K
end
structure KMost (P:Br→Prop):Prop extends KCore P where
 lx:∀ b k c t,P b→b.cs k=some c→P (setc b k (some { c with lx:=lrun c.lx t }))
 join:∀ b k c t p r,P b→b.cs k=some c→1≤k→k≤16→c.st=0→t.length≤20→isName t=true→p≤b.L.length→0≤r→r≤2→P (setFl (setc b k (some (opened c t p))) (fjoin b.fl k r))
 fl:∀ b s,P b→FlStep b.fl s→P (setFl b s)
 again:∀ b k c p,P b→b.cs k=some c→p≤b.L.length→P (setc b k (some { c with p:=p }))
 strikes:∀ b n,P b→n≤9→P { b with strikes:=n }
structure KTake (P:Br→Prop):Prop extends KMost P where
 typed:∀ b ks,P b→b.ended=false→b.inp.length+ks.length≤b.cf.input→P { b with inp:=b.inp ++ ks,tot:=b.tot+ks.length }
structure KAll (P:Br→Prop):Prop extends KTake P where
 idle0:∀ b k c,P b→b.cs k=some c→P (setc b k (some { c with idle:=0 }))
 fd:∀ b k c t,P b→b.cs k=some c→P (setc b k (some { c with fd:=fpush c.fd t }))
end Bk
end
section
namespace Bk
open Fr
def six:List Int:=[1,2,3,4,5,6,7,8,9,10,11,12,13,14,15,16]
end Bk
end
section
namespace Bk
open Fr Lx
section
variable {P:Br→Prop} (K:KMost P)
include K
end
section
variable {P:Br→Prop} (K:KTake P)
include K
end
section
variable {P:Br→Prop} (K:KAll P)
include K
end
end Bk
end
section
namespace Bk
open Fr Lx
def PC (Q:Nat→Fs→Prop) (b:Br):Prop:=∀ k c,b.cs k=some c→Q c.idle c.fd
structure EvOk (b:Br) (i T m:Nat):Prop where
 ok:BOk b
 cn:PC (fun j f=>j≤i∧f.l.length≤2052) b
 tot:b.tot≤T
 len:b.L.length≤m
 sp:Sp.Ok b.sp b.L.length
variable {b:Br} {i T m:Nat}
end Bk
end
section
namespace Bk
open Fr Lx
def keys (seq:Int) (t:Bs):M:=⟨2,seq,0,t⟩
def cfd:Cf:=⟨4096,512,2048,256,3,100,0,80⟩
def helloM (t:Bs):M:=⟨1,5,0,t⟩
noncomputable def hd1:Br:=connectB (bnew cfd) 1
noncomputable def hd2:Br:=bytesB hd1 1 (enc (helloM [97#8]))
end Bk
end
section
namespace Bk
open Fr Lx
structure CW (b:Br) (n:Nat):Prop where
 in16:In16 b
 cn:∀ k c,b.cs k=some c→c.st=1∧c.fd=fd0∧c.lx=lx0∧c.p=b.L.length∧c.out.length≤n
section
variable {b:Br} {n:Nat}
structure Sm (b' b:Br):Prop where
 cf:b'.cf=b.cf
 L:b'.L=b.L
 inp:b'.inp=b.inp
 ended:b'.ended=b.ended
 code:b'.code=b.code
 strikes:b'.strikes=b.strikes
end
end Bk
end
section
namespace Bk
open Fr Lx
def dataM (p:Nat) (t:Bs):M:=⟨6,p,0,t⟩
def sv (L:Bs) (c:Cn):Cn:=if c.p=L.length then c else { c with p:=L.length,out:=c.out ++ enc (dataM c.p (L.drop c.p)) }
end Bk
end
section
namespace Bk
open Fr Lx
structure FlOwn (s:Fl) (ow i:Nat):Prop where
 rising:Rising s.roles
 own:∀ j,rget s.roles j=some 2→j=ow
 is:ow≠0→rget s.roles ow=some 2
 lo:∀ j v,rget s.roles j=some v→1≤j∧j≤i
structure RolesAt (b:Br) (i ow:Nat):Prop where
 cw:CW b (i * 130)
 ev:EvOk b 0 (i * 2200) 0
 cf:b.cf=cfd
 ended:b.ended=false
 told:fhold b.fl=b.told
 few:∀ j,(b.cs j).isSome=true→j≤i
 own:FlOwn b.fl ow i
end Bk
end
end Go.Proofs.YtecjpkjbgknnnaaGreatDoor
