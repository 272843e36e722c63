/- PBr PBk PBi PBc PBd PKp PKd PKf PKg PKh PBe PQc PQt PQr PQd PTa -/
import Derived.Test.YtalichkdeekdcaaGreatDoorZd01
import Derived.Test.YtalichkdeekdcaaGreatDoorZd02
import Derived.Test.YtalichkdeekdcaaGreatDoorZd05
namespace Go.Proofs.YtalichkdeekdcaaGreatDoor
set_option maxRecDepth 100000
section
namespace Bk
open Fr Lx
structure M where
 k:Int
 a:Int
 b:Int
 t:Bs
deriving DecidableEq
def enc (m:M):Bs:=fr (BitVec.ofInt 8 m.k) (Ms.body m.k m.a m.b m.t)
def M.ok (m:M):Bool:=Ms.rt m.k m.a m.b m.t.length
def mof (f:BitVec 8×Bs):Option M:=if Ms.ofOk f.1.toNat f.2 then some ⟨f.1.toNat,Ms.ofA f.1.toNat f.2,Ms.ofB f.1.toNat f.2,Ms.ofT f.1.toNat f.2⟩ else none
noncomputable def tfs (l:Bs):List (BitVec 8×Bs):=(tells_all l).choose
noncomputable def trest (l:Bs):Bs:=(tells_all l).choose_spec.choose
theorem tells_tfs (l:Bs):Tells l (tfs l) (trest l):=(tells_all l).choose_spec.choose_spec
theorem tells_eq {l r:Bs} {fs:List (BitVec 8×Bs)} (h:Tells l fs r):fs=tfs l∧r=trest l:=Tells.one h (tells_tfs l)
structure Fs where
 l:Bs
 e:Nat
noncomputable def fpush (s:Fs) (t:Bs):Fs:=if s.e=0 then ⟨keep (trest (s.l ++ t)),broke (trest (s.l ++ t))⟩ else s
noncomputable def fgot (s:Fs) (t:Bs):List (BitVec 8×Bs):=if s.e=0 then tfs (s.l ++ t) else []
structure Cn where
 st:Nat
 idle:Nat
 fd:Fs
 lx:Lx.Lx
 out:Bs
 name:Bs
 p:Nat
 s:Nat
structure Cf where
 log:Nat
 data:Nat
 queue:Nat
 input:Nat
 strikes:Nat
 lease:Nat
 idle:Nat
 width:Nat
structure Br where
 cf:Cf
 L:Bs
 sp:Sp.Sp
 fl:Fl
 inp:Bs
 tot:Nat
 strikes:Nat
 told:Int
 cs:Nat→Option Cn
 ended:Bool
 code:Nat
def startOf (n room:Nat) (back:Int):Nat:=max (n - (max back 0).toNat) (n - room)
def countOf (n p:Nat) (room most:Int):Nat:=(min (min (min most (max room 11 - 11)) 2042) ((n:Int) - p)).toNat
def Begins (b0:Nat) (L:Bs) (off:Int) (i:Nat):Prop:=off≤i∧(i=0∨(b0<i∧L[i - 1]?=some 10#8))
def IsLine (b0:Nat) (L:Bs) (off:Int) (r:Nat):Prop:=
 r≤L.length∧(r<L.length→b0≤r∧Begins b0 L off r)∧∀ i,b0≤i→i<r→¬ Begins b0 L off i
open Classical in
noncomputable def lineAt (b0:Nat) (L:Bs) (off:Int):Nat:=if h:∃ r,IsLine b0 L off r then h.choose else 0
theorem isLine_one {b0:Nat} {L:Bs} {off:Int} {r s:Nat} (h:IsLine b0 L off r) (k:IsLine b0 L off s):r=s:=by
 obtain ⟨h1,h2,h3⟩:=h;obtain ⟨k1,k2,k3⟩:=k
 rcases Nat.lt_trichotomy r s with e | e | e
 ·have:=h2 (by omega)
  exact absurd this.2 (k3 r this.1 e)
 ·exact e
 ·have:=k2 (by omega)
  exact absurd this.2 (h3 s this.1 e)
theorem lineAt_eq {b0:Nat} {L:Bs} {off:Int} {r:Nat} (h:IsLine b0 L off r):lineAt b0 L off=r:=by
 have hex:∃ r,IsLine b0 L off r:=⟨r,h⟩
 unfold lineAt;rw [dif_pos hex];exact isLine_one hex.choose_spec h
def ids:List Nat:=[1,2,3,4,5,6,7,8,9,10,11,12,13,14,15,16]
def opn (b:Br) (k:Nat):Bool:=match b.cs k with | some c=>decide (c.st=1) | none=>false
def setc (b:Br) (k:Nat) (c:Option Cn):Br:={ b with cs:=fun j=>if j=k then c else b.cs j }
def opens (b:Br):Nat:=(ids.filter (opn b)).length
def goes (f:Br→Nat→Br) (b:Br):List Nat→Br
 | []=>b
 | k :: ks=>goes f (if opn b k then f b k else b) ks
def notice (t:Bs):M:=⟨10,0,0,t⟩
def wLeft:Bs:=[108#8,101#8,102#8,116#8,32#8]
def wJoined:Bs:=[106#8,111#8,105#8,110#8,101#8,100#8,32#8]
def left (k:Nat):M:=notice (wLeft ++ Dgs.dgs k)
def leaveW (tell:M→Br→Br) (b:Br) (k:Nat):Br:=
 match b.cs k with
 | none=>b
 | some c=>if c.st=1 then tell (left k) { setc b k (some { c with st:=2 }) with fl:=fleave b.fl k } else setc b k (some { c with st:=2 })
def sendW (leave:Br→Nat→Br) (m:M) (b:Br) (k:Nat):Br:=
 match b.cs k with
 | none=>b
 | some c=>if c.st=2 then b else if c.out.length+(enc m).length≤b.cf.queue then setc b k (some { c with out:=c.out ++ enc m }) else leave b k
def tellN:Nat→M→Br→Br
 | 0,_,b=>b
 | n+1,m,b=>goes (sendW (leaveW (tellN n)) m) b ids
def leaveN (n:Nat):Br→Nat→Br:=leaveW (tellN n)
def sendN (n:Nat) (m:M):Br→Nat→Br:=sendW (leaveN n) m
def tell (m:M) (b:Br):Br:=tellN 17 m b
def leave (b:Br) (k:Nat):Br:=leaveN 16 b k
def send (m:M) (b:Br) (k:Nat):Br:=sendN 16 m b k
def closed (why:Nat):M:=⟨13,why,0,[]⟩
def shut (b:Br) (k:Nat) (why:Nat):Br:=leave (send (closed why) b k) k
def mfloor (h:Int):M:=⟨9,h,0,[]⟩
def holderN:Nat→Br→Br
 | 0,b=>b
 | n+1,b=>if fhold b.fl=b.told then b else holderN n (tell (mfloor (fhold b.fl)) { b with told:=fhold b.fl })
def holder (b:Br):Br:=holderN 18 b
def nextOf (L:Bs) (log:Nat) (p s:Nat) (room:Int) (data strikes:Nat):Option (M×Nat×Nat):=
 if p<L.length - log then (if strikes≤s∨room<17 then some (⟨12,0,0,[]⟩,p,s) else some (⟨7,p,(L.length - log:Nat),[]⟩,L.length - log,s+1))
 else if countOf L.length p room data=0 then none
 else some (⟨6,p,0,(L.drop p).take (countOf L.length p room data)⟩,p+countOf L.length p room data,s)
def putc (q:Nat) (c:Cn) (t:Bs):Cn:=if c.out.length+t.length≤q then { c with out:=c.out ++ t } else c
def serveN:Nat→Br→Nat→Br
  | 0,b,_=>b
  | n+1,b,k =>
    match b.cs k with
    | none=>b
    | some c =>
      match nextOf b.L b.cf.log c.p c.s ((b.cf.queue:Int) - c.out.length - 200) b.cf.data b.strikes with
      | none=>b
      | some (m,p,s) =>
        let b1:=setc b k (some (putc b.cf.queue { c with p:=p,s:=s } (enc m)))
        if m.k=12 then leave b1 k else serveN n b1 k
def serve (b:Br) (k:Nat):Br:=serveN (b.L.length+2) b k
def done (b:Br) (k:Nat):Bool:=match b.cs k with | some c=>decide (c.st=2∧c.out=[]) | none=>false
def reap (b:Br):Br:={ b with cs:=fun k=>if 1≤k∧k≤16∧done b k=true then none else b.cs k }
def settle (b:Br):Br:=reap (holder (goes serve (holder b) ids))
def mexit (code:Nat):M:=⟨15,code,0,[]⟩
def roleWord (r:Int):Bs:=if r=2 then [111#8,119#8,110#8,101#8,114#8] else if r=1 then [119#8,114#8,105#8,116#8,101#8,114#8] else [111#8,98#8,115#8,101#8,114#8,118#8,101#8,114#8]
def isName (t:Bs):Bool:=!t.isEmpty && t.all (fun c=>decide (32<c.toNat∧c.toNat<127))
def anyOwner (s:Fl):Bool:=s.roles.any (fun p=>decide (p.2=2))
def firstRole (s:Fl) (w:Bool):Int:=if w then (if anyOwner s then 1 else 2) else 0
noncomputable def viewAt (L:Bs) (log:Nat) (back:Int) (line:Bool):Nat:=if line then lineAt (L.length - log) L (startOf L.length log back:Nat) else startOf L.length log back
noncomputable def joinB (b:Br) (k:Nat) (m:M):Br:=
  let b1:=tell (notice (wJoined ++ Dgs.dgs k ++ [32#8] ++ m.t)) b
  match b1.cs k with
  | none=>b1
  | some c =>
    let p:=viewAt b1.L b1.cf.log m.b (decide (m.a % 4=2∨m.a % 4=3))
    let r:=firstRole b1.fl (decide (m.a % 2=1))
    let b2:={ setc b1 k (some { c with st:=1,name:=m.t,p:=p,s:=0 }) with fl:=fjoin b1.fl k r }
    let b3:=send ⟨5,k,p,roleWord r⟩ b2 k
    let b4:=send (mfloor b3.told) b3 k
    if b4.ended then send (mexit b4.code) b4 k else b4
noncomputable def hello (b:Br) (k:Nat) (m:M):Br:=
 if m.k≠1 then shut b k 4 else if m.a / 4≠1 then shut b k 2 else if isName m.t=false then shut b k 3 else joinB b k m
def listLine (b:Br) (j:Nat):Bs:=
 Dgs.dgs j ++ [32#8] ++ roleWord (rrole b.fl.roles j) ++ [32#8] ++ (match b.cs j with | some c=>c.name | none=>[]) ++ (if fhold b.fl=j then [32#8,42#8] else [])
def listB (b:Br) (k:Nat):Br:=goes (fun b j=>send (notice (listLine b j)) b k) b ids
def userB (b:Br) (n:Int):Option Nat:=if 1≤n∧n≤16∧opn b n.toNat=true then some n.toNat else none
def isOwners (k:Int):Bool:=decide (k=5∨k=6∨k=7∨k=8∨k=9∨k=11)
noncomputable def doB (b:Br) (k:Nat) (o:Option (Int×Int)):Br×Bool:=
  match o with
  | none=>(b,false)
  | some (kind,n) =>
    if isOwners kind=true∧rrole b.fl.roles k≠2 then (b,false)
    else if kind=1 then ({ b with fl:=fask b.fl k },decide (askE b.fl k=0))
    else if kind=2 then ({ b with fl:=fdrop b.fl k },decide (dropE b.fl k=0))
    else if kind=3 then (listB b k,true)
    else if kind=4 then (shut b k 0,true)
    else if kind=5 then ({ b with fl:=frev b.fl },decide (revE b.fl=0))
    else if kind=10 then (match b.cs k with | some c=>setc b k (some { c with p:=startOf b.L.length b.cf.log n }) | none=>b,true)
    else if kind=11 then (if 9<n then (b,false) else ({ b with strikes:=n.toNat },true))
    else match userB b n with
      | none=>(b,false)
      | some j =>
        if kind=6 then ({ b with fl:=fgive b.fl j },decide (giveE b.fl j=0))
        else if kind=7 then (shut b j 5,true)
        else if kind=8 then ({ b with fl:=fset b.fl j 1 },true)
        else if kind=9 then ({ b with fl:=fset b.fl j 0 },true)
        else (b,true)
open Classical in
noncomputable def parse (s:Bs):Option (Int×Int):=if h:∃ q:Int×Int,Orm.Rt q.1 q.2∧Orm.tx q.1 q.2=s then some h.choose else none
noncomputable def cmds (b:Br) (k:Nat):List Bs→Br
  | []=>b
  | s :: ss =>
    if opn b k then
      let d:=doB b k (parse s)
      cmds (holder (if d.2 then d.1 else send ⟨11,0,0,s⟩ d.1 k)) k ss
    else b
def whyB (b:Br) (k:Nat) (n:Nat):Nat:=
 if b.ended then 1 else if rhas b.fl.roles k=false then 2 else if rrole b.fl.roles k=0 then 3 else if fhold b.fl≠k then 4 else if b.cf.input<b.inp.length+n then 5 else 0
noncomputable def keysB (b:Br) (k:Nat) (m:M):Br:=
  match b.cs k with
  | none=>b
  | some c =>
    let ks:=lkeys c.lx m.t
    let cs:=lcmds c.lx m.t
    let b1:=setc b k (some { c with lx:=lrun c.lx m.t })
    let b2:=if ks=[] then b1 else if whyB b1 k ks.length=0 then { b1 with inp:=b1.inp ++ ks,tot:=b1.tot+ks.length } else send ⟨8,m.a,whyB b1 k ks.length,[]⟩ b1 k
    cmds b2 k cs
noncomputable def takeB (b:Br) (k:Nat) (m:Option M):Br:=
  match m with
  | none=>shut b k 4
  | some m =>
    if (match b.cs k with | some c=>decide (c.st=0) | none=>false) then hello b k m
    else if m.k=2 then keysB b k m
    else if m.k=3 then send ⟨14,0,0,[]⟩ b k
    else if m.k=4 then shut b k 0
    else shut b k 4
def closing (b:Br) (k:Nat):Bool:=match b.cs k with | some c=>decide (c.st=2) | none=>true
noncomputable def takes (b:Br) (k:Nat):List (BitVec 8×Bs)→Br
 | []=>b
 | f :: fs=>if closing b k then b else takes (holder (takeB b k (mof f))) k fs
noncomputable def recvB (b:Br) (k:Nat) (t:Bs):Br:=
  match b.cs k with
  | none=>b
  | some c =>
    let b1:=setc b k (some { c with fd:=fpush c.fd t })
    let b2:=takes b1 k (fgot c.fd t)
    if closing b2 k=false∧(fpush c.fd t).e≠0 then shut b2 k 1 else b2
def cnew:Cn:=⟨0,0,⟨[],0⟩,lx0,[],[],0,0⟩
def isThere (b:Br) (id:Int):Bool:=decide (1≤id∧id≤16) && (b.cs id.toNat).isSome
def connectE (b:Br) (id:Int):Nat:=if id<1∨16<id then 1 else if isThere b id then 3 else 0
def connectB (b:Br) (id:Int):Br:=if connectE b id=0 then setc b id.toNat (some cnew) else b
def bytesE (b:Br) (id:Int):Nat:=if isThere b id then (if closing b id.toNat then 3 else 0) else 2
noncomputable def bytesB (b:Br) (id:Int) (t:Bs):Br:=
 if bytesE b id=0 then
  let k:=id.toNat
  let b1:=match b.cs k with | some c=>(if t=[] then b else setc b k (some { c with idle:=0 })) | none=>b
  settle (recvB b1 k t)
 else b
def takeN (n:Int) (len:Nat):Nat:=(min (max n 0) len).toNat
def writeE (b:Br) (id:Int):Nat:=if isThere b id then 0 else 2
def writeT (b:Br) (id n:Int):Bs:=if isThere b id then (match b.cs id.toNat with | some c=>c.out.take (takeN n c.out.length) | none=>[]) else []
def writeB (b:Br) (id n:Int):Br:=
 if isThere b id then (match b.cs id.toNat with | some c=>settle (setc b id.toNat (some { c with out:=c.out.drop (takeN n c.out.length) })) | none=>b) else b
def cutB (b:Br) (id:Int):Br:=if isThere b id then settle (setc (leave b id.toNat) id.toNat none) else b
def outputE (b:Br):Nat:=if b.ended then 3 else 0
def outputB (b:Br) (t:Bs):Br:=if b.ended then b else settle { b with L:=b.L ++ t,sp:=Sp.nxts b.sp t }
def drainT (b:Br) (n:Int):Bs:=b.inp.take (takeN n b.inp.length)
def drainB (b:Br) (n:Int):Br:={ b with inp:=b.inp.drop (takeN n b.inp.length) }
def endE (b:Br) (code:Int):Nat:=if b.ended then 3 else if code<0∨255<code then 1 else 0
def endB (b:Br) (code:Int):Br:=
 if endE b code=0 then settle (tell (mexit code.toNat) { b with ended:=true,code:=code.toNat,inp:=[] }) else b
def tickC (b:Br) (k:Nat):Br:=
  match b.cs k with
  | none=>b
  | some c =>
    let b1:=setc b k (some { c with idle:=c.idle+1 })
    if b.cf.idle≠0∧b.cf.idle≤c.idle+1 then shut b1 k 6 else b1
def tickB (b:Br):Br:=settle (ids.foldl tickC { b with fl:=ftick b.fl })
def bnew (c:Cf):Br:=⟨c,[],⟨c.width,0,0,0⟩,fnew c.lease,[],0,c.strikes,0,fun _=>none,false,0⟩
end Bk
end
section
namespace Bk
open Fr
theorem ids_take (j:Nat) (h:j<16):ids.take (j+1)=ids.take j ++ [j+1]:=by
 have hall:∀ i:Fin 16,ids.take (i.val+1)=ids.take i.val ++ [i.val+1]:=by decide
 exact hall ⟨j,h⟩
theorem goes_app (f:Br→Nat→Br) (b:Br) (l:List Nat) (k:Nat):goes f b (l ++ [k])=if opn (goes f b l) k then f (goes f b l) k else goes f b l:=by
 induction l generalizing b with
 | nil=>rfl
 | cons x l ih=>exact ih _
theorem goes_take (f:Br→Nat→Br) (b:Br) (j:Nat) (h:j<16):goes f b (ids.take (j+1))=if opn (goes f b (ids.take j)) (j+1) then f (goes f b (ids.take j)) (j+1) else goes f b (ids.take j):=by
 rw [ids_take j h,goes_app]
structure CLe (c' c:Cn):Prop where
 p:c'.p=c.p
 s:c'.s=c.s
 name:c'.name=c.name
 idle:c'.idle=c.idle
 fd:c'.fd=c.fd
 lx:c'.lx=c.lx
 st:c'.st=c.st∨c'.st=2
 out:c.out <+: c'.out
theorem CLe.refl (c:Cn):CLe c c:=⟨rfl,rfl,rfl,rfl,rfl,rfl,.inl rfl,List.prefix_refl _⟩
theorem CLe.trans {a b c:Cn} (h:CLe c b) (k:CLe b a):CLe c a:=
 ⟨h.p.trans k.p,h.s.trans k.s,h.name.trans k.name,h.idle.trans k.idle,h.fd.trans k.fd,h.lx.trans k.lx,by rcases h.st with e | e; rw [e]; exact k.st; exact .inr e,k.out.trans h.out⟩
structure Le (b' b:Br):Prop where
 cf:b'.cf=b.cf
 L:b'.L=b.L
 sp:b'.sp=b.sp
 inp:b'.inp=b.inp
 tot:b'.tot=b.tot
 strikes:b'.strikes=b.strikes
 told:b'.told=b.told
 ended:b'.ended=b.ended
 code:b'.code=b.code
 op:∀ j,opn b' j=true→opn b j=true
 ro:∀ p∈b'.fl.roles,p∈b.fl.roles
 some:∀ j,(b'.cs j).isSome=(b.cs j).isSome
 cn:∀ j c',b'.cs j = .some c'→∃ c,b.cs j = .some c∧CLe c' c
theorem Le.refl (b:Br):Le b b:=⟨rfl,rfl,rfl,rfl,rfl,rfl,rfl,rfl,rfl,fun _ h=>h,fun _ h=>h,fun _=>rfl,fun _ c h=>⟨c,h,CLe.refl c⟩⟩
theorem Le.trans {a b c:Br} (h:Le c b) (k:Le b a):Le c a:=
 ⟨h.cf.trans k.cf,h.L.trans k.L,h.sp.trans k.sp,h.inp.trans k.inp,h.tot.trans k.tot,h.strikes.trans k.strikes,h.told.trans k.told,h.ended.trans k.ended,h.code.trans k.code,fun j hj=>k.op j (h.op j hj),fun p hp=>k.ro p (h.ro p hp),fun j=>(h.some j).trans (k.some j),fun j c hc=>by
  obtain ⟨c1,h1,h2⟩:=h.cn j c hc;obtain ⟨c2,h3,h4⟩:=k.cn j c1 h1
  exact ⟨c2,h3,h2.trans h4⟩⟩
theorem opn_setc (b:Br) (k:Nat) (c:Option Cn) (j:Nat):opn (setc b k c) j=if j=k then (match c with | some c=>decide (c.st=1) | none=>false) else opn b j:=by
 unfold opn setc
 by_cases e:j=k
 ·simp only [e,if_true]
  all_goals (cases c <;> rfl)
 ·simp [e]
def setFl (b:Br) (s:Fl):Br:={ b with fl:=s }
theorem opens_le {b' b:Br} (h:∀ j,opn b' j=true→opn b j=true):opens b'≤opens b:=by
  unfold opens;generalize ids=l
  induction l with
  | nil=>simp
  | cons x l ih =>
    simp only [List.filter_cons]
    by_cases h1:opn b' x=true
    · rw [if_pos h1,if_pos (h x h1)]; simp; exact ih
    · rw [if_neg h1]
      split
      · simp; omega
      · exact ih
theorem opens_lt {b' b:Br} (h:∀ j,opn b' j=true→opn b j=true) {k:Nat} (hk:k∈ids) (h1:opn b k=true) (h2:opn b' k=false):opens b'<opens b:=by
  unfold opens;generalize ids=l at hk
  induction l with
  | nil=>cases hk
  | cons x l ih =>
    have hle:(l.filter (opn b')).length≤(l.filter (opn b)).length:=by
      clear ih hk
      induction l with
      | nil=>simp
      | cons z l ih =>
        simp only [List.filter_cons]
        by_cases h3:opn b' z=true
        · rw [if_pos h3,if_pos (h z h3)]; simp; exact ih
        · rw [if_neg h3]
          split
          · simp; omega
          · exact ih
    simp only [List.filter_cons]
    rcases List.mem_cons.1 hk with e | e
    · subst e
      rw [h1,h2]
      simp; omega
    · have:=ih e
      by_cases h3:opn b' x=true
      · rw [if_pos h3,if_pos (h x h3)]; simp; exact this
      · rw [if_neg h3]
        split
        · simp; omega
        · exact this
theorem opens_max (b:Br):opens b≤16:=by
 unfold opens;exact Nat.le_trans (List.length_filter_le _ _) (by decide)
theorem mem_ids {k:Nat}:k∈ids↔1≤k∧k≤16:=by
 constructor
 ·intro h
  have hall:∀ x∈ids,1≤x∧x≤16:=by decide
  exact hall k h
 ·rintro ⟨h1,h2⟩
  have hall:∀ i:Fin 17,1≤i.val→i.val∈ids:=by decide
  exact hall ⟨k,by omega⟩ h1
theorem setc_le (b:Br) (k:Nat) (c c':Cn) (hc:b.cs k=some c) (hC:CLe c' c):Le (setc b k (some c')) b:=by
 have ho:c'.st=1→c.st=1:=fun e=>by rcases hC.st with h | h <;> omega
 refine ⟨rfl,rfl,rfl,rfl,rfl,rfl,rfl,rfl,rfl,fun j hj=>?_,fun _ h=>h,fun j=>?_,fun j c2 h2=>?_⟩
 ·rw [opn_setc] at hj
  by_cases e:j=k
  ·rw [if_pos e] at hj
   subst e;unfold opn;rw [hc]
   simpa using ho (by simpa using hj)
  ·rw [if_neg e] at hj; exact hj
 ·show ((if j=k then some c' else b.cs j):Option Cn).isSome=_
  by_cases e:j=k
  ·subst e; rw [if_pos rfl,hc]; rfl
  ·rw [if_neg e]
 ·replace h2:(if j=k then some c' else b.cs j)=some c2:=h2
  by_cases e:j=k
  ·subst e
   rw [if_pos rfl] at h2
   injection h2 with h2
   subst h2;exact ⟨c,hc,hC⟩
  ·rw [if_neg e] at h2
   exact ⟨c2,h2,CLe.refl c2⟩
theorem cle_shut (c:Cn):CLe { c with st:=2 } c:=⟨rfl,rfl,rfl,rfl,rfl,rfl,.inr rfl,List.prefix_refl _⟩
theorem cle_out (c:Cn) (t:Bs):CLe { c with out:=c.out ++ t } c:=⟨rfl,rfl,rfl,rfl,rfl,rfl,.inl rfl,List.prefix_append _ _⟩
theorem fleave_sub (s:Fl) (id:Int):∀ p∈(fleave s id).roles,p∈s.roles:=by
 intro p hp;unfold fleave at hp
 split at hp
 ·exact rdel_mem hp
 ·exact hp
theorem leaveW_le {tl:M→Br→Br} (h:∀ m b,Le (tl m b) b) (b:Br) (k:Nat):Le (leaveW tl b k) b:=by
 unfold leaveW
 rcases hc:b.cs k with _ | c
 ·exact Le.refl b
 ·have h1:Le (setc b k (some { c with st:=2 })) b:=setc_le b k c _ hc (cle_shut c)
  show Le (if c.st=1 then _ else _) b
  split
  ·refine (h _ _).trans ?_
   exact ⟨h1.cf,h1.L,h1.sp,h1.inp,h1.tot,h1.strikes,h1.told,h1.ended,h1.code,h1.op,fleave_sub b.fl k,h1.some,h1.cn⟩
  ·exact h1
theorem sendW_le {lv:Br→Nat→Br} (h:∀ b k,Le (lv b k) b) (m:M) (b:Br) (k:Nat):Le (sendW lv m b k) b:=by
 unfold sendW
 rcases hc:b.cs k with _ | c
 ·exact Le.refl b
 ·show Le (if c.st=2 then b else if _ then _ else _) b
  split
  ·exact Le.refl b
  ·split
   ·exact setc_le b k c _ hc (cle_out c _)
   ·exact h b k
theorem goes_le {f:Br→Nat→Br} (h:∀ b k,Le (f b k) b) (b:Br) (l:List Nat):Le (goes f b l) b:=by
  induction l generalizing b with
  | nil=>exact Le.refl b
  | cons k l ih =>
    refine (ih _).trans ?_
    split
    · exact h b k
    · exact Le.refl b
theorem tellN_le:∀ (n:Nat) (m:M) (b:Br),Le (tellN n m b) b
 | 0,_,b=>Le.refl b
 | n+1,m,b=>goes_le (fun b k=>sendW_le (fun b k=>leaveW_le (tellN_le n) b k) m b k) b ids
theorem leaveN_le (n:Nat) (b:Br) (k:Nat):Le (leaveN n b k) b:=leaveW_le (tellN_le n) b k
theorem sendN_le (n:Nat) (m:M) (b:Br) (k:Nat):Le (sendN n m b k) b:=sendW_le (leaveN_le n) m b k
theorem leaveW_fok {tl:M→Br→Br} (h:∀ m b,FOk 16 b.fl→FOk 16 (tl m b).fl) (b:Br) (k:Nat) (hf:FOk 16 b.fl):FOk 16 (leaveW tl b k).fl:=by
 unfold leaveW
 rcases hc:b.cs k with _ | c
 ·exact hf
 ·show FOk 16 (Br.fl (if c.st=1 then _ else _))
  split
  ·exact h _ _ (hf.leave k)
  ·exact hf
theorem sendW_fok {lv:Br→Nat→Br} (h:∀ b k,FOk 16 b.fl→FOk 16 (lv b k).fl) (m:M) (b:Br) (k:Nat) (hf:FOk 16 b.fl):FOk 16 (sendW lv m b k).fl:=by
 unfold sendW
 rcases hc:b.cs k with _ | c
 ·exact hf
 ·show FOk 16 (Br.fl (if c.st=2 then b else if _ then _ else _))
  split
  ·exact hf
  ·split
   ·exact hf
   ·exact h b k hf
theorem goes_fok {f:Br→Nat→Br} (h:∀ b k,FOk 16 b.fl→FOk 16 (f b k).fl) (b:Br) (l:List Nat) (hf:FOk 16 b.fl):FOk 16 (goes f b l).fl:=by
  induction l generalizing b with
  | nil=>exact hf
  | cons k l ih =>
    refine ih _ ?_
    split
    · exact h b k hf
    · exact hf
theorem tellN_fok:∀ (n:Nat) (m:M) (b:Br),FOk 16 b.fl→FOk 16 (tellN n m b).fl
 | 0,_,_,h=>h
 | n+1,m,b,h=>goes_fok (fun b k hb=>sendW_fok (fun b k hb=>leaveW_fok (tellN_fok n) b k hb) m b k hb) b ids h
theorem leaveN_fok (n:Nat) (b:Br) (k:Nat) (hf:FOk 16 b.fl):FOk 16 (leaveN n b k).fl:=leaveW_fok (tellN_fok n) b k hf
theorem sendN_fok (n:Nat) (m:M) (b:Br) (k:Nat) (hf:FOk 16 b.fl):FOk 16 (sendN n m b k).fl:=sendW_fok (leaveN_fok n) m b k hf
theorem goes_none {f:Br→Nat→Br} (b:Br) (l:List Nat) (h:∀ k∈l,opn b k=false):goes f b l=b:=by
  induction l with
  | nil=>rfl
  | cons k l ih =>
    show goes f (if opn b k then f b k else b) l=b
    rw [h k (List.mem_cons_self ..)]
    exact ih fun j hj=>h j (List.mem_cons_of_mem _ hj)
theorem opens_zero {b:Br} (h:opens b=0):∀ k∈ids,opn b k=false:=by
 intro k hk;unfold opens at h;have:=List.eq_nil_of_length_eq_zero h;rw [List.filter_eq_nil_iff] at this
 simpa using this k hk
theorem leaveW_fl {tl:M→Br→Br} (h:∀ m b,Le (tl m b) b) (b:Br) (k:Nat) (hk:1≤k∧k≤16):(leaveW tl b k).fl=b.fl∨opens (leaveW tl b k)<opens b:=by
 unfold leaveW
 rcases hc:b.cs k with _ | c
 ·exact .inl rfl
 ·show Br.fl (if c.st=1 then _ else _)=_∨opens (if c.st=1 then _ else _)<_
  by_cases hst:c.st=1
  ·rw [if_pos hst]
   refine .inr (Nat.lt_of_le_of_lt (opens_le (h _ _).op) ?_);refine opens_lt (fun j hj=>(setc_le b k c { c with st:=2 } hc (cle_shut c)).op j hj) (mem_ids.2 hk) (by unfold opn; rw [hc]; simpa using hst) ?_
   show opn (setc b k (some { c with st:=2 })) k=false
   rw [opn_setc,if_pos rfl];rfl
  ·rw [if_neg hst]
   exact .inl rfl
theorem sendW_fl {lv:Br→Nat→Br} (h:∀ b k,1≤k∧k≤16→(lv b k).fl=b.fl∨opens (lv b k)<opens b) (m:M) (b:Br) (k:Nat) (hk:1≤k∧k≤16):(sendW lv m b k).fl=b.fl∨opens (sendW lv m b k)<opens b:=by
 unfold sendW
 rcases hc:b.cs k with _ | c
 ·exact .inl rfl
 ·show Br.fl (if c.st=2 then b else if _ then _ else _)=_∨opens (if c.st=2 then b else if _ then _ else _)<_
  split
  ·exact .inl rfl
  ·split
   ·exact .inl rfl
   ·exact h b k hk
theorem goes_fl {f:Br→Nat→Br} (hl:∀ b k,Le (f b k) b) (h:∀ b k,1≤k∧k≤16→(f b k).fl=b.fl∨opens (f b k)<opens b) (b:Br) (l:List Nat) (hm:∀ k∈l,1≤k∧k≤16):(goes f b l).fl=b.fl∨opens (goes f b l)<opens b:=by
  induction l generalizing b with
  | nil=>exact .inl rfl
  | cons k l ih =>
    have ih':=fun b=>ih b fun j hj=>hm j (List.mem_cons_of_mem _ hj)
    show (goes f (if opn b k then f b k else b) l).fl=_∨_
    have hle:∀ b',opens (goes f b' l)≤opens b':=fun b'=>opens_le (goes_le hl b' l).op
    by_cases ho:opn b k=true
    · simp only [goes,ho,if_true]
      rcases h b k (hm k (List.mem_cons_self ..)) with h1 | h1
      · rcases ih' (f b k) with h2 | h2
        · exact .inl (h2.trans h1)
        · exact .inr (Nat.lt_of_lt_of_le h2 (opens_le (hl b k).op))
      · exact .inr (Nat.lt_of_le_of_lt (hle _) h1)
    · simp only [goes,ho]
      exact ih' b
theorem ids_in:∀ k∈ids,1≤k∧k≤16:=fun _ h=>mem_ids.1 h
theorem tellN_fl:∀ (n:Nat) (m:M) (b:Br),(tellN n m b).fl=b.fl∨opens (tellN n m b)<opens b
 | 0,_,_=>.inl rfl
 | n+1,m,b=>goes_fl (sendN_le n m) (fun b k hk=>sendW_fl (fun b k hk=>leaveW_fl (tellN_le n) b k hk) m b k hk) b ids ids_in
def mu (b:Br):Nat:=if fhold b.fl=b.told then 0 else opens b+1
def toldB (b:Br):Br:={ b with told:=fhold b.fl }
theorem mu_step (m:M) {b:Br} (h:fhold b.fl≠b.told):mu (tell m (toldB b))<mu b:=by
 have hle:=tellN_le 17 m (toldB b);have hop:=opens_le hle.op
 have e:mu b=opens b+1:=by unfold mu; rw [if_neg h]
 rw [e];unfold mu tell
 rcases tellN_fl 17 m (toldB b) with h1 | h1
 ·rw [if_pos (by rw [h1,hle.told]; rfl)]
  omega
 ·have:opens (toldB b)=opens b:=rfl
  split <;> omega
theorem holderN_any:∀ (n m:Nat) (b:Br),mu b≤n→mu b≤m→holderN n b=holderN m b:=by
  intro n
  induction n with
  | zero =>
    intro m b h1 _
    have h:fhold b.fl=b.told:=by
      unfold mu at h1
      by_cases e:fhold b.fl=b.told
      · exact e
      · rw [if_neg e] at h1; omega
    cases m with
    | zero=>rfl
    | succ m=>show b=if _ then b else _; rw [if_pos h]
  | succ n ih =>
    intro m b h1 h2
    by_cases h:fhold b.fl=b.told
    · cases m with
      | zero=>show (if _ then b else _)=b; rw [if_pos h]
      | succ m=>show (if _ then b else _)=if _ then b else _; rw [if_pos h,if_pos h]
    · have hs:=mu_step (mfloor (fhold b.fl)) h
      cases m with
      | zero => have:mu b=opens b+1:=by unfold mu; rw [if_neg h]
                omega
      | succ m =>
        show (if _ then b else holderN n (tell (mfloor (fhold b.fl)) (toldB b)))=if _ then b else holderN m (tell (mfloor (fhold b.fl)) (toldB b))
        rw [if_neg h,if_neg h];exact ih m _ (by omega) (by omega)
theorem mu_le (b:Br):mu b≤17:=by
 have:=opens_max b;unfold mu
 split <;> omega
theorem holder_same {b:Br} (h:fhold b.fl=b.told):holder b=b:=by
 show (if _ then b else _)=b
 rw [if_pos h]
theorem holder_step {b:Br} (h:fhold b.fl≠b.told):holder b=holder (tell (mfloor (fhold b.fl)) (toldB b)):=by
 show (if _ then b else holderN 17 (tell (mfloor (fhold b.fl)) (toldB b)))=_
 rw [if_neg h];exact holderN_any 17 18 _ (mu_le _) (by have:=mu_le (tell (mfloor (fhold b.fl)) (toldB b)); omega)
def RIn (s:Fl):Prop:=∀ p∈s.roles,1≤p.1∧p.1≤16
theorem Le.rin {b' b:Br} (h:Le b' b) (hr:RIn b.fl):RIn b'.fl:=fun p hp=>hr p (h.ro p hp)
theorem hold_in {s:Fl} (hf:FOk 16 s) (hr:RIn s):0≤fhold s∧fhold s≤16:=by
 unfold fhold
 rcases hl:s.line with _ | ⟨i,t⟩
 ·exact ⟨by decide,by decide⟩
 ·have h:=(hf.mem i (by rw [hl]; exact List.mem_cons_self ..)).1
  have:=hr _ (rhas_of_mem h)
  show 0≤i∧i≤16
  have h1:1≤i∧i≤16:=this;omega
theorem least (P:Nat→Prop) (h:∃ n,P n):∃ n,P n∧∀ m,P m→n≤m:=by
  obtain ⟨n,hn⟩:=h
  induction n using Nat.strongRecOn with
  | _ n ih =>
    by_cases h:∃ m,m<n∧P m
    · obtain ⟨m,h1,h2⟩:=h
      exact ih m h1 h2
    · exact ⟨n,hn,fun m hm=>Nat.le_of_not_lt fun hlt=>h ⟨m,hlt,hm⟩⟩
open Classical in
noncomputable def leastN (P:Nat→Prop):Nat:=if h:∃ n,P n then (least P h).choose else 0
theorem leastN_le {P:Nat→Prop} {m:Nat} (h:P m):leastN P≤m:=by
 have hex:∃ n,P n:=⟨m,h⟩
 unfold leastN;rw [dif_pos hex];exact (least P hex).choose_spec.2 m h
theorem leastN_is {P:Nat→Prop} (h:∃ n,P n):P (leastN P):=by
 unfold leastN;rw [dif_pos h];exact (least P h).choose_spec.1
end Bk
end
section
namespace Bk
open Fr
structure CnOk (b:Br) (c:Cn):Prop where
 p:c.p≤b.L.length
 s:c.s≤9
 name:c.name.length≤20
 st:c.st≤2
structure BOk (b:Br):Prop where
 log:1≤b.cf.log∧b.cf.log≤65536
 data:1≤b.cf.data∧b.cf.data≤2042
 queue:220≤b.cf.queue∧b.cf.queue≤65536
 input:1≤b.cf.input∧b.cf.input≤65536
 idle:b.cf.idle≤1000
 strikes:b.strikes≤9
 fok:FOk 16 b.fl
 rin:RIn b.fl
 len:b.L.length≤1099511627776
 told:0≤b.told∧b.told≤16
 code:b.code≤255
 cn:∀ k c,b.cs k=some c→CnOk b c
theorem BOk.le {b' b:Br} (h:BOk b) (hl:Le b' b) (hf:FOk 16 b'.fl):BOk b':=by
 refine ⟨by rw [hl.cf]; exact h.log,by rw [hl.cf]; exact h.data,by rw [hl.cf]; exact h.queue,by rw [hl.cf]; exact h.input,by rw [hl.cf]; exact h.idle,by rw [hl.strikes]; exact h.strikes,hf,hl.rin h.rin,by rw [hl.L]; exact h.len,by rw [hl.told]; exact h.told,by rw [hl.code]; exact h.code,fun k c hc=>?_⟩;obtain ⟨c0,h0,hC⟩:=hl.cn k c hc;have hk:=h.cn k c0 h0;refine ⟨by rw [hC.p,hl.L]; exact hk.p,by rw [hC.s]; exact hk.s,by rw [hC.name]; exact hk.name,?_⟩
 rcases hC.st with e | e
 ·rw [e]; exact hk.st
 ·omega
theorem BOk.setc {b:Br} (h:BOk b) (k:Nat) {c:Cn} (hc:CnOk b c):BOk (setc b k (some c)):=
 ⟨h.log,h.data,h.queue,h.input,h.idle,h.strikes,h.fok,h.rin,h.len,h.told,h.code,fun j c' hj=>by
  replace hj:(if j=k then some c else b.cs j)=some c':=hj
  by_cases e:j=k
  ·rw [if_pos e] at hj; injection hj with hj; subst hj; exact ⟨hc.p,hc.s,hc.name,hc.st⟩
  ·rw [if_neg e] at hj; have:=h.cn j c' hj; exact ⟨this.p,this.s,this.name,this.st⟩⟩
theorem BOk.send {b:Br} (h:BOk b) (m:M) (k:Nat):BOk (send m b k):=h.le (sendN_le 16 m b k) (sendN_fok 16 m b k h.fok)
theorem BOk.leave {b:Br} (h:BOk b) (k:Nat):BOk (leave b k):=h.le (leaveN_le 16 b k) (leaveN_fok 16 b k h.fok)
theorem BOk.tell {b:Br} (h:BOk b) (m:M):BOk (tell m b):=h.le (tellN_le 17 m b) (tellN_fok 17 m b h.fok)
theorem BOk.shut {b:Br} (h:BOk b) (k why:Nat):BOk (shut b k why):=(h.send (closed why) k).leave k
theorem shut_le (b:Br) (k why:Nat):Le (shut b k why) b:=(leaveN_le 16 _ k).trans (sendN_le 16 _ b k)
theorem BOk.toldB {b:Br} (h:BOk b):BOk (toldB b):=
 ⟨h.log,h.data,h.queue,h.input,h.idle,h.strikes,h.fok,h.rin,h.len,hold_in h.fok h.rin,h.code,fun k c hc=>by have:=h.cn k c hc; exact ⟨this.p,this.s,this.name,this.st⟩⟩
theorem BOk.holderN {b:Br} (h:BOk b):∀ n,BOk (holderN n b):=by
  intro n
  induction n generalizing b with
  | zero=>exact h
  | succ n ih =>
    show BOk (if _ then b else Bk.holderN n (Bk.tell (mfloor (fhold b.fl)) (Bk.toldB b)))
    split
    · exact h
    · exact ih (h.toldB.tell _)
theorem BOk.holder {b:Br} (h:BOk b):BOk (holder b):=h.holderN 18
structure Lh (b' b:Br):Prop where
 cf:b'.cf=b.cf
 L:b'.L=b.L
 sp:b'.sp=b.sp
 inp:b'.inp=b.inp
 tot:b'.tot=b.tot
 strikes:b'.strikes=b.strikes
 ended:b'.ended=b.ended
 code:b'.code=b.code
 some:∀ j,(b'.cs j).isSome=(b.cs j).isSome
 cn:∀ j c',b'.cs j = .some c'→∃ c,b.cs j = .some c∧CLe c' c
theorem Le.lh {b' b:Br} (h:Le b' b):Lh b' b:=⟨h.cf,h.L,h.sp,h.inp,h.tot,h.strikes,h.ended,h.code,h.some,h.cn⟩
theorem Lh.refl (b:Br):Lh b b:=(Le.refl b).lh
theorem Lh.trans {a b c:Br} (h:Lh c b) (k:Lh b a):Lh c a:=
 ⟨h.cf.trans k.cf,h.L.trans k.L,h.sp.trans k.sp,h.inp.trans k.inp,h.tot.trans k.tot,h.strikes.trans k.strikes,h.ended.trans k.ended,h.code.trans k.code,fun j=>(h.some j).trans (k.some j),fun j c hc=>by
  obtain ⟨c1,h1,h2⟩:=h.cn j c hc;obtain ⟨c2,h3,h4⟩:=k.cn j c1 h1
  exact ⟨c2,h3,h2.trans h4⟩⟩
theorem toldB_lh (b:Br):Lh (toldB b) b:=⟨rfl,rfl,rfl,rfl,rfl,rfl,rfl,rfl,fun _=>rfl,fun _ c h=>⟨c,h,CLe.refl c⟩⟩
theorem holderN_lh:∀ (n:Nat) (b:Br),Lh (holderN n b) b
  | 0,b=>Lh.refl b
  | n+1,b=>by
    show Lh (if _ then b else holderN n (tell (mfloor (fhold b.fl)) (toldB b))) b
    split
    · exact Lh.refl b
    · exact (holderN_lh n _).trans ((tellN_le 17 _ _).lh.trans (toldB_lh b))
theorem holder_lh (b:Br):Lh (holder b) b:=holderN_lh 18 b
theorem count_pos {n p:Nat} {room most:Int} (h:countOf n p room most≠0):p<n∧p+countOf n p room most≤n∧countOf n p room most≤2042∧(countOf n p room most:Int)+11≤room:=by
 unfold countOf at *;omega
theorem next_ok {L:Bs} {log p s:Nat} {room:Int} {data strikes:Nat} {m:M} {p' s':Nat} (hp:p≤L.length) (hs:s≤9) (hst:strikes≤9) (hL:L.length≤1099511627776) (h:nextOf L log p s room data strikes=some (m,p',s')) :
  p'≤L.length∧s'≤9∧m.ok=true∧(m.k=12→p'=p∧s'=s)∧(m.k≠12→p<p'∧(enc m).length+0≤room.toNat+0):=by
 unfold nextOf at h
 split at h
 ·next h1 =>
  split at h
  ·injection h with h; injection h with h2 h; injection h with h3 h4
   subst h2 h3 h4;exact ⟨hp,hs,rfl,fun _=>⟨rfl,rfl⟩,fun h=>absurd rfl h⟩
  ·next h5 =>
   injection h with h; injection h with h2 h; injection h with h3 h4
   subst h2 h3 h4;refine ⟨by omega,by omega,?_,fun h=>absurd h (by show ¬ ((7:Int)=12); decide),fun _=>⟨h1,?_⟩⟩
   ·unfold M.ok
    rw [Ms.rt_iff];refine ⟨rfl,?_,?_,Nat.zero_le _⟩
    ·show Ms.okN (p:Int) true=true
     unfold Ms.okN; simp; omega
    ·show Ms.okN ((L.length - log:Nat):Int) true=true
     unfold Ms.okN; simp; omega
   ·unfold enc
    rw [fr_len,Ms.body_len]
    show 6 * 2+0+5+0≤_
    omega
 ·split at h
  ·cases h
  ·next h1 h2 =>
   injection h with h; injection h with h3 h; injection h with h4 h5
   have hc:=count_pos h2;subst h3 h4 h5
   have hlen:((L.drop p).take (countOf L.length p room data)).length=countOf L.length p room data:=by simp; omega
   refine ⟨hc.2.1,hs,?_,fun h=>absurd h (by show ¬ ((6:Int)=12); decide),fun _=>⟨by omega,?_⟩⟩
   ·unfold M.ok
    rw [Ms.rt_iff];refine ⟨rfl,?_,rfl,?_⟩
    ·show Ms.okN (p:Int) true=true
     unfold Ms.okN; simp; omega
    ·show ((L.drop p).take (countOf L.length p room data)).length≤2042
     rw [hlen]; exact hc.2.2.1
   ·unfold enc
    rw [fr_len,Ms.body_len]
    show 6 * 1+((L.drop p).take (countOf L.length p room data)).length+5+0≤_
    rw [hlen];omega
def nextB (b:Br) (c:Cn):Option (M×Nat×Nat):=nextOf b.L b.cf.log c.p c.s ((b.cf.queue:Int) - c.out.length - 200) b.cf.data b.strikes
def served (b:Br) (k:Nat) (c:Cn) (m:M) (p s:Nat):Br:=setc b k (some (putc b.cf.queue { c with p:=p,s:=s } (enc m)))
theorem putc_same (q:Nat) (c:Cn) (t:Bs):(putc q c t).st=c.st∧(putc q c t).p=c.p∧(putc q c t).s=c.s∧(putc q c t).name=c.name∧(putc q c t).idle=c.idle∧(putc q c t).fd=c.fd∧(putc q c t).lx=c.lx:=by
 unfold putc
 split <;> exact ⟨rfl,rfl,rfl,rfl,rfl,rfl,rfl⟩
theorem serveN_succ (n:Nat) (b:Br) (k:Nat) {c:Cn} (hc:b.cs k=some c):serveN (n+1) b k=match nextB b c with
  | none=>b
  | some (m,p,s)=>if m.k=12 then leave (served b k c m p s) k else serveN n (served b k c m p s) k:=by
 show (match b.cs k with | none=>b | some c=>_)=_
 rw [hc];rfl
theorem serveN_any:∀ (n m:Nat) (b:Br) (k:Nat) (c:Cn),BOk b→b.cs k=some c→b.L.length - c.p<n→b.L.length - c.p<m→serveN n b k=serveN m b k:=by
  intro n
  induction n with
  | zero=>intro m b k c _ _ h; omega
  | succ n ih =>
    intro m b k c hb hc h1 h2
    cases m with
    | zero=>omega
    | succ m =>
      rw [serveN_succ n b k hc,serveN_succ m b k hc]
      rcases hn:nextB b c with _ | ⟨x,p,s⟩
      · rfl
      · show (if _ then _ else _)=(if _ then _ else _)
        split
        · rfl
        · next hx =>
          have hk:=hb.cn k c hc;have hno:=next_ok hk.p hk.s hb.strikes hb.len hn;have hp:=putc_same b.cf.queue { c with p:=p,s:=s } (enc x);refine ih m _ k (putc b.cf.queue { c with p:=p,s:=s } (enc x)) (hb.setc k ⟨by rw [hp.2.1]; exact hno.1,by rw [hp.2.2.1]; exact hno.2.1,by rw [hp.2.2.2.1]; exact hk.name,by rw [hp.1]; exact hk.st⟩) (by show (if k=k then _ else _)=_; rw [if_pos rfl]) ?_ ?_
          · rw [hp.2.1]
            have:=(hno.2.2.2.2 hx).1
            show b.L.length - p<n
            omega
          · rw [hp.2.1]
            have:=(hno.2.2.2.2 hx).1
            show b.L.length - p<m
            omega
theorem BOk.served {b:Br} (h:BOk b) {k:Nat} {c:Cn} (hc:b.cs k=some c) {m:M} {p s:Nat} (hn:nextB b c=some (m,p,s)):BOk (served b k c m p s):=by
 have hk:=h.cn k c hc;have hno:=next_ok hk.p hk.s h.strikes h.len hn;have hp:=putc_same b.cf.queue { c with p:=p,s:=s } (enc m);exact h.setc k ⟨by rw [hp.2.1]; exact hno.1,by rw [hp.2.2.1]; exact hno.2.1,by rw [hp.2.2.2.1]; exact hk.name,by rw [hp.1]; exact hk.st⟩
theorem serve_none {b:Br} {k:Nat} {c:Cn} (hc:b.cs k=some c) (hn:nextB b c=none):serve b k=b:=by
 show serveN (b.L.length+1+1) b k=b
 rw [serveN_succ _ b k hc,hn]
theorem serve_gone {b:Br} {k:Nat} {c:Cn} (hc:b.cs k=some c) {m:M} {p s:Nat} (hn:nextB b c=some (m,p,s)) (hm:m.k=12):serve b k=leave (Bk.served b k c m p s) k:=by
 show serveN (b.L.length+1+1) b k=_
 rw [serveN_succ _ b k hc,hn];simp [hm]
theorem serve_more {b:Br} (h:BOk b) {k:Nat} {c:Cn} (hc:b.cs k=some c) {m:M} {p s:Nat} (hn:nextB b c=some (m,p,s)) (hm:m.k≠12):serve b k=serve (Bk.served b k c m p s) k:=by
 have h1:serve b k=serveN (b.L.length+1) (Bk.served b k c m p s) k:=by
  show serveN (b.L.length+1+1) b k=_
  rw [serveN_succ _ b k hc,hn];simp [hm]
 rw [h1];have hp:=putc_same b.cf.queue { c with p:=p,s:=s } (enc m);have hk:=h.cn k c hc;have hno:=next_ok hk.p hk.s h.strikes h.len hn;have h2:=(hno.2.2.2.2 hm).1;exact serveN_any _ _ _ k (putc b.cf.queue { c with p:=p,s:=s } (enc m)) (h.served hc hn) (by show (if k=k then _ else _)=_; rw [if_pos rfl]) (by rw [hp.2.1]; show b.L.length - p<_; omega) (by rw [hp.2.1]; show b.L.length - p<b.L.length+2; omega)
def more (b:Br) (k:Nat):Nat:=match b.cs k with | some c=>b.L.length - c.p | none=>0
theorem more_step {b:Br} (h:BOk b) {k:Nat} {c:Cn} (hc:b.cs k=some c) {m:M} {p s:Nat} (hn:nextB b c=some (m,p,s)) (hm:m.k≠12):more (Bk.served b k c m p s) k<more b k:=by
 have hp:=putc_same b.cf.queue { c with p:=p,s:=s } (enc m);have hk:=h.cn k c hc;have hno:=next_ok hk.p hk.s h.strikes h.len hn;have h2:=(hno.2.2.2.2 hm).1
 have e1:more b k=b.L.length - c.p:=by unfold more; rw [hc]
 have e2:more (Bk.served b k c m p s) k=b.L.length - p:=by
  unfold more
  have:(Bk.served b k c m p s).cs k=some (putc b.cf.queue { c with p:=p,s:=s } (enc m)):=by show (if k=k then _ else _)=_; rw [if_pos rfl]
  rw [this]
  show b.L.length - (putc b.cf.queue { c with p:=p,s:=s } (enc m)).p=_
  rw [hp.2.1]
 rw [e1,e2];omega
theorem BOk.serveN:∀ (n:Nat) {b:Br} (k:Nat),BOk b→BOk (serveN n b k)
  | 0,_,_,h=>h
  | n+1,b,k,h=>by
    rcases hc:b.cs k with _ | c
    · show BOk (match b.cs k with | none=>b | some c=>_)
      rw [hc];exact h
    · rw [serveN_succ n b k hc]
      rcases hn:nextB b c with _ | ⟨m,p,s⟩
      · exact h
      · show BOk (if _ then _ else _)
        split
        · exact (h.served hc hn).leave k
        · exact BOk.serveN n k (h.served hc hn)
theorem BOk.serve {b:Br} (h:BOk b) (k:Nat):BOk (serve b k):=h.serveN _ k
theorem BOk.goes {f:Br→Nat→Br} (hf:∀ b k,BOk b→BOk (f b k)):∀ (l:List Nat) {b:Br},BOk b→BOk (goes f b l)
  | [],_,h=>h
  | k :: l,b,h=>by
    show BOk (Bk.goes f (if opn b k then f b k else b) l)
    refine BOk.goes hf l ?_
    split
    · exact hf b k h
    · exact h
def reapTo (b:Br) (j:Nat):Br:={ b with cs:=fun k=>if 1≤k∧k≤j∧done b k=true then none else b.cs k }
theorem reapTo_zero (b:Br):reapTo b 0=b:=by
 unfold reapTo
 have:(fun k=>if 1≤k∧k≤0∧done b k=true then none else b.cs k)=b.cs:=by
  funext k
  rw [if_neg (by omega)]
 rw [this]
theorem reapTo_cs (b:Br) (j:Nat):(reapTo b j).cs (j+1)=b.cs (j+1):=by
 show (if 1≤j+1∧j+1≤j∧_ then _ else _)=_
 rw [if_neg (by omega)]
theorem reapTo_no (b:Br) (j:Nat) (h:done b (j+1)=false):reapTo b (j+1)=reapTo b j:=by
 unfold reapTo
 congr 1
 funext k
 by_cases e:k=j+1
 ·subst e
  rw [if_neg (by rw [h]; simp),if_neg (by omega)]
 ·by_cases h1:1≤k∧k≤j∧done b k=true
  ·rw [if_pos h1,if_pos ⟨h1.1,by omega,h1.2.2⟩]
  ·rw [if_neg h1,if_neg (fun h2=>h1 ⟨h2.1,by omega,h2.2.2⟩)]
theorem reapTo_yes (b:Br) (j:Nat) (h:done b (j+1)=true):reapTo b (j+1)=Bk.setc (reapTo b j) (j+1) none:=by
 unfold reapTo Bk.setc
 congr 1
 funext k
 by_cases e:k=j+1
 ·subst e
  rw [if_pos ⟨by omega,by omega,h⟩,if_pos rfl]
 ·rw [if_neg e]
  show _=(if 1≤k∧k≤j∧done b k=true then none else b.cs k)
  by_cases h1:1≤k∧k≤j∧done b k=true
  ·rw [if_pos h1,if_pos ⟨h1.1,by omega,h1.2.2⟩]
  ·rw [if_neg h1,if_neg (fun h2=>h1 ⟨h2.1,by omega,h2.2.2⟩)]
theorem BOk.reap {b:Br} (h:BOk b):BOk (reap b):=
 ⟨h.log,h.data,h.queue,h.input,h.idle,h.strikes,h.fok,h.rin,h.len,h.told,h.code,fun k c hc=>by
  replace hc:(if 1≤k∧k≤16∧done b k=true then none else b.cs k)=some c:=hc
  split at hc
  ·cases hc
  ·have:=h.cn k c hc; exact ⟨this.p,this.s,this.name,this.st⟩⟩
theorem BOk.settle {b:Br} (h:BOk b):BOk (settle b):=(BOk.goes (fun _ k h=>h.serve k) ids h.holder).holder.reap
end Bk
end
section
namespace Bk
open Fr
def fm (m:M):BitVec 8×Bs:=(BitVec.ofInt 8 m.k,Ms.body m.k m.a m.b m.t)
theorem enc_fr (m:M):enc m=fr (fm m).1 (fm m).2:=rfl
theorem kind_nat {k:Int} (h:1≤k∧k≤15):((BitVec.ofInt 8 k).toNat:Int)=k:=by
 rw [Ms.byte_nat];omega
theorem mof_fm {m:M} (h:m.ok=true):mof (fm m)=some m:=by
 have hk:=kind_nat (Ms.rt_k h);obtain ⟨h1,h2,h3,h4⟩:=Ms.of_body h;unfold mof
 show (if Ms.ofOk ((BitVec.ofInt 8 m.k).toNat:Int) (Ms.body m.k m.a m.b m.t)=true then _ else _)=_
 rw [hk,if_pos h4]
 show some (⟨((BitVec.ofInt 8 m.k).toNat:Int),Ms.ofA ((BitVec.ofInt 8 m.k).toNat:Int) (Ms.body m.k m.a m.b m.t),Ms.ofB ((BitVec.ofInt 8 m.k).toNat:Int) (Ms.body m.k m.a m.b m.t),Ms.ofT ((BitVec.ofInt 8 m.k).toNat:Int) (Ms.body m.k m.a m.b m.t)⟩:M)=some m
 rw [hk,h1,h2,h3]
theorem ok_len {m:M} (h:m.ok=true):(fm m).2.length≤2048:=Ms.body_le h
def encs (ms:List M):Bs:=ms.flatMap enc
theorem encs_cats (ms:List M):encs ms=cats (ms.map fm):=by
 induction ms with
 | nil=>rfl
 | cons m ms ih=>show enc m ++ encs ms=fr _ _ ++ cats _; rw [ih]; rfl
theorem tells_encs {ms:List M} (h:∀ m∈ms,m.ok=true):Tells (encs ms) (ms.map fm) []:=by
 have:=tells_frames (ms.map fm) [] (fun f hf=>by
  obtain ⟨m,hm,rfl⟩:=List.mem_map.1 hf
  exact ok_len (h m hm)) (by rw [err_nil]; decide)
 rwa [List.append_nil,← encs_cats] at this
theorem tfs_encs {ms:List M} (h:∀ m∈ms,m.ok=true):tfs (encs ms)=ms.map fm∧trest (encs ms)=[]:=by
 have:=tells_eq (tells_encs h);exact ⟨this.1.symm,this.2.symm⟩
theorem enc_ne (m:M):enc m≠[]:=fun h=>by
 have:=congrArg List.length h;rw [enc_fr,fr_len] at this;simp at this
theorem enc_len5 (m:M):(enc m).length=6 * Ms.nu m.k+m.t.length+5:=by
 rw [enc_fr,fr_len]
 show (Ms.body _ _ _ _).length+5=_
 rw [Ms.body_len]
theorem parse_is {s:Bs} {k n:Int} (h:Orm.Rt k n) (e:Orm.tx k n=s):parse s=some (k,n):=by
 have hex:∃ q:Int×Int,Orm.Rt q.1 q.2∧Orm.tx q.1 q.2=s:=⟨(k,n),h,e⟩
 unfold parse;rw [dif_pos hex];obtain ⟨h1,h2⟩:=hex.choose_spec;have:=Orm.tx_inj h1 h (h2.trans e.symm)
 congr 1
 exact Prod.ext this.1 this.2
theorem parse_rt {s:Bs} {k n:Int} (h:parse s=some (k,n)):Orm.Is s k n:=by
 unfold parse at h
 split at h
 ·next hex =>
  injection h with h
  have:=hex.choose_spec;rw [h] at this;exact this
 ·cases h
def In16 (b:Br):Prop:=∀ k,(b.cs k).isSome=true→1≤k∧k≤16
theorem In16.no {b:Br} (h:In16 b) {k:Nat} (hk:¬ (1≤k∧k≤16)):b.cs k=none:=by
 rcases e:b.cs k with _ | c
 ·rfl
 ·exact absurd (h k (by rw [e]; rfl)) hk
def mapc (b:Br) (h:Cn→Cn):Br:={ b with cs:=fun k=>(b.cs k).map h }
theorem goes_map (f:Br→Nat→Br) (h:Cn→Cn):∀ (l:List Nat) (b:Br),l.Nodup →
    (∀ (cs':Nat→Option Cn) k c,k∈l→b.cs k=some c→c.st=1→cs' k=some c→f { b with cs:=cs' } k=setc { b with cs:=cs' } k (some (h c))) →
    ∀ cs0:Nat→Option Cn,(∀ k∈l,cs0 k=b.cs k)→goes f { b with cs:=cs0 } l={ b with cs:=fun k=>if k∈l then (b.cs k).map (fun c=>if c.st=1 then h c else c) else cs0 k }
  | [],b,_,_,cs0,_=>by simp [goes]
  | k :: l,b,hn,hf,cs0,h0=>by
    obtain ⟨hk,hn⟩:=List.nodup_cons.1 hn
    show goes f (if opn { b with cs:=cs0 } k then f { b with cs:=cs0 } k else { b with cs:=cs0 }) l=_
    have hk0:=h0 k List.mem_cons_self
    have ih:=fun cs1 hc1=>goes_map f h l b hn (fun cs' j c hj=>hf cs' j c (List.mem_cons_of_mem _ hj)) cs1 hc1
    rcases hc:b.cs k with _ | c
    · have ho:opn { b with cs:=cs0 } k=false:=by unfold opn; show (match cs0 k with | some c=>decide (c.st=1) | none=>false)=false; rw [hk0,hc]
      rw [ho];rw [show (if false=true then f { b with cs:=cs0 } k else { b with cs:=cs0 })={ b with cs:=cs0 } from rfl,ih cs0 (fun j hj=>h0 j (List.mem_cons_of_mem _ hj))]
      congr 1
      funext j
      by_cases e:j=k
      · subst e; rw [if_neg hk,if_pos List.mem_cons_self,hk0,hc]; rfl
      · by_cases e2:j∈l
        · rw [if_pos e2,if_pos (List.mem_cons_of_mem _ e2)]
        · rw [if_neg e2,if_neg (fun h=>(List.mem_cons.1 h).elim e e2)]
    · by_cases hst:c.st=1
      · have ho:opn { b with cs:=cs0 } k=true:=by unfold opn; show (match cs0 k with | some c=>decide (c.st=1) | none=>false)=true; rw [hk0,hc]; simpa using hst
        rw [ho];rw [show (if true=true then f { b with cs:=cs0 } k else { b with cs:=cs0 })=f { b with cs:=cs0 } k from rfl,hf cs0 k c List.mem_cons_self hc hst (hk0.trans hc)];rw [show setc { b with cs:=cs0 } k (some (h c))={ b with cs:=fun j=>if j=k then some (h c) else cs0 j } from rfl];rw [ih _ (fun j hj=>(if_neg (fun e:j=k=>hk (e ▸ hj))).trans (h0 j (List.mem_cons_of_mem _ hj)))]
        congr 1
        funext j
        by_cases e:j=k
        · subst e; rw [if_neg hk,if_pos rfl,if_pos List.mem_cons_self,hc]; simp [hst]
        · by_cases e2:j∈l
          · rw [if_pos e2,if_pos (List.mem_cons_of_mem _ e2)]
          · rw [if_neg e2,if_neg (fun h=>(List.mem_cons.1 h).elim e e2),if_neg e]
      · have ho:opn { b with cs:=cs0 } k=false:=by unfold opn; show (match cs0 k with | some c=>decide (c.st=1) | none=>false)=false; rw [hk0,hc]; simpa using hst
        rw [ho];rw [show (if false=true then f { b with cs:=cs0 } k else { b with cs:=cs0 })={ b with cs:=cs0 } from rfl,ih cs0 (fun j hj=>h0 j (List.mem_cons_of_mem _ hj))]
        congr 1
        funext j
        by_cases e:j=k
        · subst e; rw [if_neg hk,if_pos List.mem_cons_self,hk0,hc]; simp [hst]
        · by_cases e2:j∈l
          · rw [if_pos e2,if_pos (List.mem_cons_of_mem _ e2)]
          · rw [if_neg e2,if_neg (fun h=>(List.mem_cons.1 h).elim e e2)]
theorem ids_nodup:ids.Nodup:=by decide
theorem goes_mapc (f:Br→Nat→Br) (h:Cn→Cn) (b:Br) (hI:In16 b)
  (hf:∀ (cs':Nat→Option Cn) k c,1≤k→k≤16→b.cs k=some c→c.st=1→cs' k=some c→f { b with cs:=cs' } k=setc { b with cs:=cs' } k (some (h c))) :
  goes f b ids=mapc b (fun c=>if c.st=1 then h c else c):=by
 have:=goes_map f h ids b ids_nodup (fun cs' k c hk=>hf cs' k c (mem_ids.1 hk).1 (mem_ids.1 hk).2) b.cs (fun _ _=>rfl);rw [show ({ b with cs:=b.cs }:Br)=b from rfl] at this;rw [this];unfold mapc
 congr 1
 funext k
 by_cases e:k∈ids
 ·rw [if_pos e]
 ·rw [if_neg e,hI.no (fun h=>e (mem_ids.2 h))]; rfl
def plus (m:M) (c:Cn):Cn:={ c with out:=c.out ++ enc m }
def Fits (b:Br) (m:M):Prop:=∀ k c,b.cs k=some c→c.st=1→c.out.length+(enc m).length≤b.cf.queue
theorem sendN_fits {n:Nat} {b:Br} {k:Nat} {c:Cn} {m:M} (hc:b.cs k=some c) (hst:c.st≠2) (hf:c.out.length+(enc m).length≤b.cf.queue):sendN n m b k=setc b k (some (plus m c)):=by
 unfold sendN sendW;rw [hc];simp [hst,hf,plus]
theorem send_fits {b:Br} {k:Nat} {c:Cn} {m:M} (hc:b.cs k=some c) (hst:c.st≠2) (hf:c.out.length+(enc m).length≤b.cf.queue):send m b k=setc b k (some (plus m c)):=sendN_fits hc hst hf
theorem tell_fits {b:Br} {m:M} (hI:In16 b) (h:Fits b m):tell m b=mapc b (fun c=>if c.st=1 then plus m c else c):=by
 show goes (sendN 16 m) b ids=_
 refine goes_mapc _ _ b hI fun cs' k c _ _ hc hst hc'=>?_
 exact sendN_fits hc' (by omega) (h k c hc hst)
structure Rest (b:Br):Prop where
 told:fhold b.fl=b.told
 seen:∀ k c,b.cs k=some c→c.st=1→nextB b c=none
 gone:∀ k c,b.cs k=some c→c.st=2→c.out≠[]
theorem goes_same (f:Br→Nat→Br) (b:Br) (l:List Nat) (h:∀ k∈l,opn b k=true→f b k=b):goes f b l=b:=by
  induction l with
  | nil=>rfl
  | cons k l ih =>
    show goes f (if opn b k then f b k else b) l=b
    have:(if opn b k then f b k else b)=b:=by
      split
      · next ho=>exact h k List.mem_cons_self ho
      · rfl
    rw [this]
    exact ih fun j hj=>h j (List.mem_cons_of_mem _ hj)
theorem opn_cs {b:Br} {k:Nat} (h:opn b k=true):∃ c,b.cs k=some c∧c.st=1:=by
 unfold opn at h
 rcases e:b.cs k with _ | c
 ·rw [e] at h; cases h
 ·rw [e] at h; exact ⟨c,rfl,by simpa using h⟩
theorem served_rest {b:Br} (h:∀ k c,b.cs k=some c→c.st=1→nextB b c=none):goes serve b ids=b:=by
 refine goes_same _ _ _ fun k _ ho=>?_
 obtain ⟨c,hc,hst⟩:=opn_cs ho;exact serve_none hc (h k c hc hst)
theorem reap_rest {b:Br} (h:∀ k c,b.cs k=some c→c.st=2→c.out≠[]):reap b=b:=by
 unfold reap
 have:(fun k=>if 1≤k∧k≤16∧done b k=true then none else b.cs k)=b.cs:=by
  funext k
  rw [if_neg];rintro ⟨_,_,hd⟩;unfold done at hd
  rcases e:b.cs k with _ | c
  ·rw [e] at hd; cases hd
  ·rw [e] at hd
   have:c.st=2∧c.out=[]:=by simpa using hd
   exact h k c e this.1 this.2
 rw [this]
theorem settle_rest {b:Br} (h:Rest b):settle b=b:=by
 unfold settle;rw [holder_same h.told,served_rest h.seen,holder_same h.told,reap_rest h.gone]
theorem next_end {b:Br} {c:Cn} (h:c.p=b.L.length):nextB b c=none:=by
 unfold nextB nextOf;rw [h,if_neg (by omega)]
 have:countOf b.L.length b.L.length ((b.cf.queue:Int) - c.out.length - 200) b.cf.data=0:=by
  unfold countOf;omega
 rw [if_pos this]
end Bk
end
section
namespace Bk
open Fr Lx
theorem setc_cs (b:Br) (k:Nat) (c:Option Cn):(setc b k c).cs k=c:=by show (if k=k then c else b.cs k)=c; rw [if_pos rfl]
theorem setc_ne (b:Br) (k:Nat) (c:Option Cn) {j:Nat} (h:j≠k):(setc b k c).cs j=b.cs j:=by show (if j=k then c else b.cs j)=b.cs j; rw [if_neg h]
theorem setc_two (b:Br) (k:Nat) (x y:Option Cn):setc (setc b k x) k y=setc b k y:=by
 unfold setc
 congr 1
 funext j
 by_cases e:j=k <;> simp [e]
theorem setc_as {b:Br} {k:Nat} {c:Cn} (hc:b.cs k=some c):setc b k (some c)=b:=by
 unfold setc
 have:(fun j=>if j=k then some c else b.cs j)=b.cs:=by
  funext j
  by_cases e:j=k
  ·subst e; rw [if_pos rfl,hc]
  ·rw [if_neg e]
 rw [this]
theorem keep_nil:keep []=[]∧broke []=0:=keep_short err_nil
abbrev fd0:Fs:=⟨[],0⟩
theorem fpush_enc {ms:List M} (h:∀ m∈ms,m.ok=true):fpush fd0 (encs ms)=fd0∧fgot fd0 (encs ms)=ms.map fm:=by
 obtain ⟨h1,h2⟩:=tfs_encs h;unfold fpush fgot
 show (if (0:Nat)=0 then _ else _)=_∧(if (0:Nat)=0 then _ else _)=_
 rw [if_pos rfl,if_pos rfl]
 show (⟨keep (trest ([] ++ encs ms)),broke (trest ([] ++ encs ms))⟩:Fs)=_∧tfs ([] ++ encs ms)=_
 rw [List.nil_append,h2,keep_nil.1,keep_nil.2];exact ⟨rfl,h1⟩
theorem encs_one (m:M):encs [m]=enc m:=by unfold encs; simp
theorem recv_one {b:Br} {k:Nat} {c:Cn} {m:M} (hc:b.cs k=some c) (hf:c.fd=fd0) (hst:c.st≠2) (hm:m.ok=true):recvB b k (enc m)=holder (takeB b k (some m)):=by
 obtain ⟨h1,h2⟩:=fpush_enc (ms:=[m]) (fun x hx=>by rw [List.mem_singleton.1 hx]; exact hm);rw [encs_one] at h1 h2;unfold recvB;rw [hc]
 show (if closing (takes (setc b k (some { c with fd:=fpush c.fd (enc m) })) k (fgot c.fd (enc m))) k=false∧(fpush c.fd (enc m)).e≠0 then _ else takes (setc b k (some { c with fd:=fpush c.fd (enc m) })) k (fgot c.fd (enc m)))=_
 rw [hf,h1,h2];rw [if_neg (fun h=>h.2 rfl)];rw [show ({ c with fd:=fd0 }:Cn)=c by rw [← hf],setc_as hc]
 show (if closing b k then b else holder (takeB b k (mof (fm m))))=_
 have:closing b k=false:=by unfold closing; rw [hc]; simpa using hst
 rw [this,mof_fm hm];rfl
theorem there_of {b:Br} {k:Nat} {c:Cn} (hc:b.cs k=some c) (h1:1≤k) (h2:k≤16):isThere b (k:Nat)=true:=by
 unfold isThere;rw [show ((k:Nat):Int).toNat=k by omega,hc];simp;omega
theorem bytes_one {b:Br} {k:Nat} {c:Cn} {m:M} (h1:1≤k) (h2:k≤16) (hc:b.cs k=some c) (hf:c.fd=fd0) (hst:c.st≠2) (hm:m.ok=true) :
  bytesB b (k:Nat) (enc m)=settle (holder (takeB (setc b k (some { c with idle:=0 })) k (some m)))∧bytesE b (k:Nat)=0:=by
 have hE:bytesE b (k:Nat)=0:=by
  unfold bytesE;rw [there_of hc h1 h2,show ((k:Nat):Int).toNat=k by omega]
  have:closing b k=false:=by unfold closing; rw [hc]; simpa using hst
  rw [this];rfl
 refine ⟨?_,hE⟩;unfold bytesB;rw [if_pos hE,show ((k:Nat):Int).toNat=k by omega]
 show settle (recvB (match b.cs k with | some c=>(if enc m=[] then b else setc b k (some { c with idle:=0 })) | none=>b) k (enc m))=_
 rw [hc]
 show settle (recvB (if enc m=[] then b else setc b k (some { c with idle:=0 })) k (enc m))=_
 rw [if_neg (enc_ne m)];rw [recv_one (c:={ c with idle:=0 }) (setc_cs _ _ _) hf hst hm]
theorem write_all {b:Br} {k:Nat} {c:Cn} {n:Int} (h1:1≤k) (h2:k≤16) (hc:b.cs k=some c) (hn:(c.out.length:Int)≤n) :
  writeT b (k:Nat) n=c.out∧writeE b (k:Nat)=0∧writeB b (k:Nat) n=settle (setc b k (some { c with out:=[] })):=by
 have ht:=there_of hc h1 h2
 have hk:((k:Nat):Int).toNat=k:=by omega
 have htk:takeN n c.out.length=c.out.length:=by unfold takeN; omega
 unfold writeT writeE writeB;rw [ht,hk,hc];refine ⟨?_,rfl,?_⟩
 ·show c.out.take (takeN n c.out.length)=_
  rw [htk,List.take_length]
 ·show settle (setc b k (some { c with out:=c.out.drop (takeN n c.out.length) }))=_
  rw [htk,List.drop_length]
theorem connect_new {b:Br} {k:Nat} (h1:1≤k) (h2:k≤16) (hc:b.cs k=none):connectE b (k:Nat)=0∧connectB b (k:Nat)=setc b k (some cnew):=by
 have hk:((k:Nat):Int).toNat=k:=by omega
 have hE:connectE b (k:Nat)=0:=by
  unfold connectE isThere;rw [hk,hc,if_neg (by omega)];simp
 unfold connectB;rw [if_pos hE,hk];exact ⟨hE,rfl⟩
def welcome (k p:Nat) (r:Int):M:=⟨5,k,p,roleWord r⟩
theorem role_len (r:Int):(roleWord r).length≤8:=by unfold roleWord; (repeat' split) <;> decide
theorem welcome_len (k p:Nat) (r:Int):(enc (welcome k p r)).length≤25:=by
 rw [enc_len5];have:=role_len r
 show 6 * 2+(roleWord r).length+5≤25
 omega
theorem floor_len (h:Int):(enc (mfloor h)).length=11:=by rw [enc_len5]; rfl
theorem exit_len (c:Nat):(enc (mexit c)).length=11:=by rw [enc_len5]; rfl
theorem notice_len (t:Bs):(enc (notice t)).length=t.length+5:=by rw [enc_len5]; show 6 * 0+t.length+5=_; omega
def joined (k:Nat) (t:Bs):M:=notice (wJoined ++ Dgs.dgs k ++ [32#8] ++ t)
theorem joined_len {k:Nat} {t:Bs} (hk:k≤16) (ht:t.length≤20):(enc (joined k t)).length≤36:=by
 have:=Dgs.dgs_len k 2 (by omega);unfold joined wJoined;rw [notice_len];simp;omega
def greet (b:Br) (k p:Nat) (r:Int):Bs:=enc (welcome k p r) ++ enc (mfloor b.told) ++ (if b.ended then enc (mexit b.code) else [])
def opened (c:Cn) (t:Bs) (p:Nat):Cn:={ c with st:=1,name:=t,p:=p,s:=0 }
noncomputable def comeAt (b:Br) (m:M):Nat:=viewAt b.L b.cf.log m.b (decide (m.a % 4=2∨m.a % 4=3))
def comeRole (b:Br) (m:M):Int:=firstRole b.fl (decide (m.a % 2=1))
noncomputable def come (b:Br) (k:Nat) (c:Cn) (m:M):Cn:=
 let c1:=plus (mfloor b.told) (plus (welcome k (comeAt b m) (comeRole b m)) (opened c m.t (comeAt b m)))
 if b.ended then plus (mexit b.code) c1 else c1
theorem come_is (b:Br) (k:Nat) (c:Cn) (m:M):(come b k c m).out=c.out ++ greet b k (comeAt b m) (comeRole b m)∧(come b k c m).st=1∧(come b k c m).idle=c.idle∧(come b k c m).fd=c.fd∧(come b k c m).lx=c.lx∧(come b k c m).name=m.t∧(come b k c m).p=comeAt b m∧(come b k c m).s=0:=by
 unfold come greet
 by_cases h:b.ended=true
 ·simp only [h,if_true]
  refine ⟨?_,rfl,rfl,rfl,rfl,rfl,rfl,rfl⟩
  show ((c.out ++ _) ++ _) ++ _=_
  simp only [List.append_assoc]
 ·rw [if_neg h,if_neg h]
  refine ⟨?_,rfl,rfl,rfl,rfl,rfl,rfl,rfl⟩
  show ((c.out ++ _) ++ _)=_
  simp only [List.append_assoc,List.append_nil]
def joinY (b4:Br) (k:Nat):Br:=if b4.ended then send (mexit b4.code) b4 k else b4
def joinX (b3:Br) (k:Nat):Br:=joinY (send (mfloor b3.told) b3 k) k
noncomputable def joinR (b1:Br) (k:Nat) (c:Cn) (m:M):Br:=
 joinX (send (welcome k (comeAt b1 m) (comeRole b1 m)) (setFl (setc b1 k (some (opened c m.t (comeAt b1 m)))) (fjoin b1.fl k (comeRole b1 m))) k) k
theorem joinB_eq (b:Br) (k:Nat) (m:M):joinB b k m=match (tell (joined k m.t) b).cs k with | none=>tell (joined k m.t) b | some c=>joinR (tell (joined k m.t) b) k c m:=by
 unfold joinB joined;generalize tell (notice (wJoined ++ Dgs.dgs k ++ [32#8] ++ m.t)) b=b1
 dsimp only
 rcases b1.cs k with _ | c
 ·rfl
 ·show _=joinR b1 k c m
  unfold joinR joinX joinY comeAt comeRole opened welcome setFl
  dsimp only
theorem send_on {b:Br} {s:Fl} {k:Nat} {c:Cn} {m:M} (hst:c.st≠2) (hf:c.out.length+(enc m).length≤b.cf.queue):send m (setFl (setc b k (some c)) s) k=setFl (setc b k (some (plus m c))) s:=by
 rw [send_fits (b:=setFl (setc b k (some c)) s) (setc_cs b k _) hst hf];exact congrArg (fun x=>setFl x s) (setc_two b k _ _)
theorem joinY_on {b:Br} {s:Fl} {k:Nat} {c:Cn} (hst:c.st≠2) (hf:c.out.length+11≤b.cf.queue):joinY (setFl (setc b k (some c)) s) k=setFl (setc b k (some (if b.ended then plus (mexit b.code) c else c))) s:=by
 unfold joinY
 show (if b.ended=true then send (mexit b.code) _ k else _)=_
 by_cases h:b.ended=true
 ·rw [if_pos h,if_pos h,send_on hst (by rw [exit_len]; exact hf)]
 ·rw [if_neg h,if_neg h]
theorem joinX_on {b:Br} {s:Fl} {k:Nat} {c:Cn} (hst:c.st≠2) (hf:c.out.length+22≤b.cf.queue):joinX (setFl (setc b k (some c)) s) k=setFl (setc b k (some (if b.ended then plus (mexit b.code) (plus (mfloor b.told) c) else plus (mfloor b.told) c))) s:=by
 unfold joinX
 show joinY (send (mfloor b.told) _ k) k=_
 rw [send_on hst (by rw [floor_len]; omega)];exact joinY_on (c:=plus (mfloor b.told) c) hst (by show (c.out ++ enc _).length+11≤_; rw [List.length_append,floor_len]; omega)
theorem joinR_fits {b:Br} {k:Nat} {c:Cn} {m:M} (hq:c.out.length+60≤b.cf.queue):joinR b k c m=setFl (setc b k (some (come b k c m))) (fjoin b.fl k (comeRole b m)):=by
 have hw:=welcome_len k (comeAt b m) (comeRole b m);unfold joinR;rw [send_on (c:=opened c m.t (comeAt b m)) (by show (1:Nat)≠2; decide) (by show c.out.length+_≤_; omega)];rw [joinX_on (c:=plus (welcome k (comeAt b m) (comeRole b m)) (opened c m.t (comeAt b m))) (by show (1:Nat)≠2; decide) (by show (c.out ++ enc _).length+22≤_; rw [List.length_append]; omega)];rfl
def hear (m:M) (c:Cn):Cn:=if c.st=1 then plus m c else c
theorem hear_tell {b:Br} {m:M} (hI:In16 b) (h:Fits b m):tell m b=mapc b (hear m):=tell_fits hI h
theorem join_fits {b:Br} {k:Nat} {c:Cn} {m:M} (hI:In16 b) (hc:b.cs k=some c) (hst:c.st=0) (hk:k≤16) (ht:m.t.length≤20) (hfit:∀ j c,b.cs j=some c→c.out.length+60≤b.cf.queue) :
  joinB b k m=setFl (setc (mapc b (hear (joined k m.t))) k (some (come b k c m))) (fjoin b.fl k (comeRole b m)):=by
 have hj:=joined_len (k:=k) hk ht;have ht1:tell (joined k m.t) b=mapc b (hear (joined k m.t)):=hear_tell hI (fun j c hc _=>by have:=hfit j c hc; omega)
 have hck:(mapc b (hear (joined k m.t))).cs k=some c:=by
  show (b.cs k).map _=_
  rw [hc];simp [hear,hst]
 rw [joinB_eq,ht1,hck];exact joinR_fits (b:=mapc b (hear (joined k m.t))) (hfit k c hc)
theorem hello_fits {b:Br} {k:Nat} {c:Cn} {m:M} (hI:In16 b) (hc:b.cs k=some c) (hst:c.st=0) (hk:k≤16) (hm:m.ok=true) (hk1:m.k=1) (ha:m.a / 4=1) (hn:isName m.t=true) (hfit:∀ j c,b.cs j=some c→c.out.length+60≤b.cf.queue) :
  takeB b k (some m)=setFl (setc (mapc b (hear (joined k m.t))) k (some (come b k c m))) (fjoin b.fl k (comeRole b m)):=by
 unfold takeB;rw [hc];simp only [hst,decide_true,if_true];unfold hello;rw [if_neg (by simp [hk1]),if_neg (by simp [ha]),if_neg (by simp [hn])];exact join_fits hI hc hst hk (by have:=Ms.rt_n hm; rw [hk1] at this; exact this) hfit
end Bk
end
section
namespace Bk
open Fr Lx
def gone (b:Br) (k:Nat) (c:Cn):Br:=if c.st=1 then setFl (setc b k (some { c with st:=2 })) (fleave b.fl k) else setc b k (some { c with st:=2 })
def FlStep (s s':Fl):Prop:=(∃ id,s'=fask s id)∨(∃ id,s'=fdrop s id)∨(∃ id,s'=fgive s id)∨s'=frev s∨(∃ id r,s'=fset s id r)∨s'=ftick s
structure KCore (P:Br→Prop):Prop where
 gone:∀ b k c,P b→b.cs k=some c→1≤k→k≤16→P (gone b k c)
 plus:∀ b k c m,P b→b.cs k=some c→c.st≠2→c.out.length+(enc m).length≤b.cf.queue→P (setc b k (some (plus m c)))
 told:∀ b,P b→P (toldB b)
 served:∀ b k c m p s,P b→b.cs k=some c→c.st=1→nextB b c=some (m,p,s)→P (served b k c m p s)
 reap:∀ b,P b→P (reap b)
theorem keep_goes {P:Br→Prop} {f:Br→Nat→Br} (hf:∀ b k,P b→1≤k→k≤16→opn b k=true→P (f b k)):∀ (l:List Nat) {b:Br},(∀ k∈l,1≤k∧k≤16)→P b→P (goes f b l)
  | [],_,_,h=>h
  | k :: l,b,hl,h=>by
    show P (goes f (if opn b k then f b k else b) l)
    refine keep_goes hf l (fun j hj=>hl j (List.mem_cons_of_mem _ hj)) ?_
    split
    · next ho=>exact hf b k h (hl k List.mem_cons_self).1 (hl k List.mem_cons_self).2 ho
    · exact h
section
variable {P:Br→Prop} (K:KCore P)
include K
theorem KCore.leaveW {tl:M→Br→Br} (ht:∀ m b,P b→P (tl m b)) {b:Br} (h:P b) {k:Nat} (h1:1≤k) (h2:k≤16):P (leaveW tl b k):=by
 unfold Bk.leaveW
 rcases hc:b.cs k with _ | c
 ·exact h
 ·have hg:=K.gone b k c h hc h1 h2
  unfold Bk.gone at hg
  show P (if c.st=1 then tl (left k) (setFl (setc b k (some { c with st:=2 })) (fleave b.fl k)) else setc b k (some { c with st:=2 }))
  by_cases hst:c.st=1
  ·rw [if_pos hst] at hg ⊢
   exact ht _ _ hg
  ·rw [if_neg hst] at hg ⊢
   exact hg
theorem KCore.sendW {lv:Br→Nat→Br} (hl:∀ b k,P b→1≤k→k≤16→P (lv b k)) (m:M) {b:Br} (h:P b) {k:Nat} (h1:1≤k) (h2:k≤16):P (sendW lv m b k):=by
 unfold Bk.sendW
 rcases hc:b.cs k with _ | c
 ·exact h
 ·show P (if c.st=2 then b else if c.out.length+(enc m).length≤b.cf.queue then setc b k (some (Bk.plus m c)) else lv b k)
  split
  ·exact h
  ·next hst =>
   split
   ·next hf=>exact K.plus b k c m h hc hst hf
   ·exact hl b k h h1 h2
theorem KCore.tellN:∀ (n:Nat) (m:M) (b:Br),P b→P (tellN n m b)
 | 0,_,_,h=>h
 | n+1,m,_,h=>keep_goes (P:=P) (fun _ _ hb h1 h2 _=>K.sendW (fun _ _ hb h1 h2=>K.leaveW (KCore.tellN n) hb h1 h2) m hb h1 h2) ids ids_in h
theorem KCore.tell (m:M) {b:Br} (h:P b):P (tell m b):=K.tellN 17 m b h
theorem KCore.leave {b:Br} (h:P b) {k:Nat} (h1:1≤k) (h2:k≤16):P (leave b k):=K.leaveW (K.tellN 16) h h1 h2
theorem KCore.send (m:M) {b:Br} (h:P b) {k:Nat} (h1:1≤k) (h2:k≤16):P (send m b k):=K.sendW (fun _ _ hb h1 h2=>K.leaveW (K.tellN 16) hb h1 h2) m h h1 h2
theorem KCore.shut {b:Br} (h:P b) {k:Nat} (h1:1≤k) (h2:k≤16) (why:Nat):P (shut b k why):=K.leave (K.send _ h h1 h2) h1 h2
theorem KCore.holderN:∀ (n:Nat) {b:Br},P b→P (holderN n b)
  | 0,_,h=>h
  | n+1,b,h=>by
    show P (if _ then b else Bk.holderN n (Bk.tell (mfloor (fhold b.fl)) (toldB b)))
    split
    · exact h
    · exact KCore.holderN n (K.tell _ (K.told b h))
theorem KCore.holder {b:Br} (h:P b):P (holder b):=K.holderN 18 h
theorem KCore.serveN:∀ (n:Nat) {b:Br} {k:Nat},P b→1≤k→k≤16→opn b k=true→P (serveN n b k)
  | 0,_,_,h,_,_,_=>h
  | n+1,b,k,h,h1,h2,ho=>by
    obtain ⟨c,hc,hst⟩:=opn_cs ho;rw [serveN_succ n b k hc]
    rcases hn:nextB b c with _ | ⟨m,p,s⟩
    · exact h
    · have hs:=K.served b k c m p s h hc hst hn
      show P (if m.k=12 then Bk.leave (Bk.served b k c m p s) k else Bk.serveN n (Bk.served b k c m p s) k)
      split
      · exact K.leave hs h1 h2
      · refine KCore.serveN n hs h1 h2 ?_
        unfold Bk.served;rw [opn_setc,if_pos rfl]
        show decide ((putc b.cf.queue { c with p:=p,s:=s } (enc m)).st=1)=true
        rw [(putc_same b.cf.queue { c with p:=p,s:=s } (enc m)).1]
        simpa using hst
theorem KCore.settle {b:Br} (h:P b):P (settle b):=
 K.reap _ (K.holder (keep_goes (P:=P) (fun _ _ hb h1 h2 ho=>K.serveN _ hb h1 h2 ho) ids ids_in (K.holder h)))
end
structure KMost (P:Br→Prop):Prop extends KCore P where
 lx:∀ b k c t,P b→b.cs k=some c→P (setc b k (some { c with lx:=lrun c.lx t }))
 join:∀ b k c t p r,P b→b.cs k=some c→1≤k→k≤16→c.st=0→t.length≤20→isName t=true→p≤b.L.length→0≤r→r≤2→P (setFl (setc b k (some (opened c t p))) (fjoin b.fl k r))
 fl:∀ b s,P b→FlStep b.fl s→P (setFl b s)
 again:∀ b k c p,P b→b.cs k=some c→p≤b.L.length→P (setc b k (some { c with p:=p }))
 strikes:∀ b n,P b→n≤9→P { b with strikes:=n }
structure KTake (P:Br→Prop):Prop extends KMost P where
 typed:∀ b ks,P b→b.ended=false→b.inp.length+ks.length≤b.cf.input→P { b with inp:=b.inp ++ ks,tot:=b.tot+ks.length }
structure KAll (P:Br→Prop):Prop extends KTake P where
 idle0:∀ b k c,P b→b.cs k=some c→P (setc b k (some { c with idle:=0 }))
 fd:∀ b k c t,P b→b.cs k=some c→P (setc b k (some { c with fd:=fpush c.fd t }))
end Bk
end
section
namespace Bk
open Fr
theorem nodup_le:∀ (l m:List Int),l.Nodup→(∀ x∈l,x∈m)→l.length≤m.length
  | [],_,_,_=>Nat.zero_le _
  | a :: l,m,hn,hs=>by
    have hn':=List.nodup_cons.1 hn;have ha:=hs a (List.mem_cons_self ..)
    have:=nodup_le l (m.erase a) hn'.2 fun x hx=>(List.mem_erase_of_ne (fun e=>hn'.1 (by rw [← e]; exact hx))).2 (hs x (List.mem_cons_of_mem _ hx))
    rw [List.length_erase_of_mem ha] at this;have:=List.length_pos_of_mem ha;simp only [List.length_cons];omega
def six:List Int:=[1,2,3,4,5,6,7,8,9,10,11,12,13,14,15,16]
theorem mem_six {i:Int} (h1:1≤i) (h2:i≤16):i∈six:=by
 unfold six;simp only [List.mem_cons,List.not_mem_nil,or_false];omega
theorem rising_keys:∀ {l:List (Int×Int)},Rising l→(l.map (·.1)).Nodup
  | [],_=>List.nodup_nil
  | p :: l,h=>by
    have h:=List.pairwise_cons.1 h;refine List.nodup_cons.2 ⟨fun hm=>?_,rising_keys h.2⟩;obtain ⟨q,hq,e⟩:=List.mem_map.1 hm;have:=h.1 q hq
    dsimp only at e this
    omega
theorem fok_few {n:Nat} {s:Fl} (h:FOk n s) (hr:RIn s):FOk 16 s:=by
 refine ⟨h.l1,h.l2,h.left,h.zero,h.rising,h.nodup,h.mem,h.ids,?_,?_⟩
 ·have:=nodup_le _ six (rising_keys h.rising) fun x hx=>by
   obtain ⟨q,hq,e⟩:=List.mem_map.1 hx;have:=hr q hq;subst e;exact mem_six this.1 this.2
  rw [List.length_map] at this;exact this
 ·exact nodup_le _ six h.nodup fun x hx=>by
   have:=hr _ (rhas_of_mem (h.mem x hx).1);exact mem_six this.1 this.2
theorem fok_step {s s':Fl} (h:FOk 16 s) (hr:RIn s) (hs:FlStep s s'):FOk 16 s'∧RIn s':=by
 rcases hs with ⟨id,rfl⟩ | ⟨id,rfl⟩ | ⟨id,rfl⟩ | rfl | ⟨id,r,rfl⟩ | rfl
 ·have hr':RIn (fask s id):=by unfold fask; split <;> exact hr
  exact ⟨fok_few (h.ask id) hr',hr'⟩
 ·have hr':RIn (fdrop s id):=by
   unfold fdrop fout outAt
   repeat' split
   all_goals exact hr
  exact ⟨h.drop id,hr'⟩
 ·have hr':RIn (fgive s id):=by unfold fgive; split <;> exact hr
  exact ⟨fok_few (h.give id) hr',hr'⟩
 ·have hr':RIn (frev s):=by
   unfold frev outAt
   repeat' split
   all_goals exact hr
  exact ⟨h.rev,hr'⟩
 ·have hr':RIn (fset s id r):=by
   by_cases hs:sets s id r=true
   ·have hp:RIn (frole s id r):=by
     intro p hp;have hi:=rhas_of_mem (show rhas s.roles id=true by unfold sets at hs; simp at hs; exact hs.1)
     rcases rput_mem hp with h1 | h1
     ·rw [h1]; have:=hr (id,rrole s.roles id) hi; exact this
     ·exact hr p h1
    unfold fset fout outAt
    repeat' split
    all_goals exact hp
   ·unfold fset
    rw [if_neg hs];exact hr
  exact ⟨h.set id r,hr'⟩
 ·have hr':RIn (ftick s):=by
   unfold ftick outAt
   repeat' split
   all_goals exact hr
  exact ⟨h.tick,hr'⟩
theorem BOk.fl {b:Br} (h:BOk b) {s:Fl} (hs:FlStep b.fl s):BOk (setFl b s):=by
 have:=fok_step h.fok h.rin hs;exact ⟨h.log,h.data,h.queue,h.input,h.idle,h.strikes,this.1,this.2,h.len,h.told,h.code,fun k c hc=>by have:=h.cn k c hc; exact ⟨this.p,this.s,this.name,this.st⟩⟩
theorem BOk.listB {b:Br} (h:BOk b) (k:Nat):BOk (Bk.listB b k):=by
 unfold Bk.listB;exact BOk.goes (fun _ _ h=>h.send _ k) _ h
theorem startOf_le (n log:Nat) (back:Int):startOf n log back≤n:=by
 unfold startOf;omega
theorem p_ite {P:Br×Bool→Prop} {c:Prop} [Decidable c] {x y:Br×Bool} (hx:c→P x) (hy:¬ c→P y):P (if c then x else y):=by
 by_cases h:c
 ·rw [if_pos h]; exact hx h
 ·rw [if_neg h]; exact hy h
theorem BOk.doB {b:Br} (h:BOk b) (k:Nat):∀ o:Option (Int×Int),BOk (Bk.doB b k o).1
  | none=>h
  | some (kind,n)=>by
    unfold Bk.doB
    refine p_ite (P:=fun x:Br×Bool=>BOk x.1) (fun _=>h) fun hn=>?_
    refine p_ite (P:=fun x:Br×Bool=>BOk x.1) (fun _=>h.fl (.inl ⟨_,rfl⟩)) fun hn=>?_
    refine p_ite (P:=fun x:Br×Bool=>BOk x.1) (fun _=>h.fl (.inr (.inl ⟨_,rfl⟩))) fun hn=>?_
    refine p_ite (P:=fun x:Br×Bool=>BOk x.1) (fun _=>h.listB k) fun hn=>?_
    refine p_ite (P:=fun x:Br×Bool=>BOk x.1) (fun _=>h.shut k 0) fun hn=>?_
    refine p_ite (P:=fun x:Br×Bool=>BOk x.1) (fun _=>h.fl (.inr (.inr (.inr (.inl rfl))))) fun hn=>?_
    refine p_ite (P:=fun x:Br×Bool=>BOk x.1) (fun _=>?_) fun hn=>?_
    · dsimp only
      rcases hc:b.cs k with _ | c
      · exact h
      · have hk:=h.cn k c hc
        exact h.setc k ⟨startOf_le _ _ _,hk.s,hk.name,hk.st⟩
    refine p_ite (P:=fun x:Br×Bool=>BOk x.1) (fun _=>p_ite (P:=fun x:Br×Bool=>BOk x.1) (fun _=>h) fun h9=>⟨h.log,h.data,h.queue,h.input,h.idle,?_,h.fok,h.rin,h.len,h.told,h.code,fun k c hc=>by have:=h.cn k c hc; exact ⟨this.p,this.s,this.name,this.st⟩⟩) fun hn=>?_
    · show n.toNat≤9
      omega
    rcases hj:userB b n with _ | j
    · exact h
    · refine p_ite (P:=fun x:Br×Bool=>BOk x.1) (fun _=>h.fl (.inr (.inr (.inl ⟨_,rfl⟩)))) fun hn=>?_
      refine p_ite (P:=fun x:Br×Bool=>BOk x.1) (fun _=>h.shut j 5) fun hn=>?_
      refine p_ite (P:=fun x:Br×Bool=>BOk x.1) (fun _=>h.fl (.inr (.inr (.inr (.inr (.inl ⟨_,_,rfl⟩)))))) fun hn=>?_
      refine p_ite (P:=fun x:Br×Bool=>BOk x.1) (fun _=>h.fl (.inr (.inr (.inr (.inr (.inl ⟨_,_,rfl⟩)))))) fun hn=>?_
      exact h
noncomputable def stepC (b:Br) (k:Nat) (s:Bs):Br:=holder (if (doB b k (parse s)).2 then (doB b k (parse s)).1 else send ⟨11,0,0,s⟩ (doB b k (parse s)).1 k)
theorem cmds_cons (b:Br) (k:Nat) (s:Bs) (ss:List Bs):cmds b k (s :: ss)=if opn b k then cmds (stepC b k s) k ss else b:=rfl
theorem cmds_shut {b:Br} {k:Nat} (h:opn b k=false):∀ l,cmds b k l=b
 | []=>rfl
 | s :: ss=>by rw [cmds_cons,h]; rfl
theorem cmds_app (k:Nat):∀ (l:List Bs) (b:Br) (r:List Bs),cmds b k (l ++ r)=cmds (cmds b k l) k r
  | [],_,_=>rfl
  | s :: l,b,r=>by
    rw [List.cons_append,cmds_cons,cmds_cons]
    by_cases h:opn b k=true
    · rw [if_pos h,if_pos h,cmds_app k l]
    · rw [if_neg h,if_neg h,cmds_shut (by simpa using h)]
theorem BOk.stepC {b:Br} (h:BOk b) (k:Nat) (s:Bs):BOk (Bk.stepC b k s):=by
 unfold Bk.stepC;refine BOk.holder ?_
 split
 ·exact h.doB k _
 ·exact (h.doB k _).send _ k
theorem BOk.cmds {k:Nat}:∀ (l:List Bs) {b:Br},BOk b→BOk (Bk.cmds b k l)
  | [],_,h=>h
  | s :: l,b,h=>by
    rw [cmds_cons]
    split
    · exact BOk.cmds l (h.stepC k s)
    · exact h
noncomputable def cmdsTo (b:Br) (k:Nat) (l:List Bs) (j:Nat):Br:=cmds b k (l.take j)
theorem cmdsTo_all (b:Br) (k:Nat) (l:List Bs):cmdsTo b k l l.length=cmds b k l:=by unfold cmdsTo; rw [List.take_length]
theorem cmdsTo_next {b:Br} {k:Nat} {l:List Bs} {j:Nat} {s:Bs} (hs:l[j]?=some s) (ho:opn (cmdsTo b k l j) k=true):cmdsTo b k l (j+1)=stepC (cmdsTo b k l j) k s:=by
 unfold cmdsTo at *;obtain ⟨hj,e⟩:=List.getElem?_eq_some_iff.1 hs;rw [List.take_add_one,hs,Option.toList_some,cmds_app,cmds_cons,if_pos ho];rfl
theorem cmdsTo_stop {b:Br} {k:Nat} {l:List Bs} {j:Nat} (ho:opn (cmdsTo b k l j) k=false):cmds b k l=cmdsTo b k l j:=by
 unfold cmdsTo at *
 conv=>lhs; rw [← List.take_append_drop j l,cmds_app,cmds_shut ho]
theorem lcmd_short (s:Lx.Lx) (c:BitVec 8):∀ x∈Lx.lcmd s c,x.length≤80:=by
 intro x hx;unfold Lx.lcmd at hx
 split at hx
 ·cases hx
 split at hx
 ·cases hx
 split at hx
 ·rw [List.mem_singleton.1 hx]
  unfold Lx.shut
  split
  ·exact Nat.zero_le _
  ·omega
 ·cases hx
theorem lcmds_short:∀ (t:Bs) (s:Lx.Lx),∀ x∈Lx.lcmds s t,x.length≤80
  | [],_,_,h=>by cases h
  | c :: t,s,x,h=>by
    rcases List.mem_append.1 h with h | h
    · exact lcmd_short s c x h
    · exact lcmds_short t _ x h
def offered (b:Br) (k:Nat) (a:Int) (ks:Bs):Br:=if ks=[] then b else if whyB b k ks.length=0 then { b with inp:=b.inp ++ ks,tot:=b.tot+ks.length } else send ⟨8,a,whyB b k ks.length,[]⟩ b k
theorem keysB_eq {b:Br} {k:Nat} {c:Cn} (hc:b.cs k=some c) (m:M):keysB b k m=cmds (offered (setc b k (some { c with lx:=Lx.lrun c.lx m.t })) k m.a (Lx.lkeys c.lx m.t)) k (Lx.lcmds c.lx m.t):=by
 unfold keysB;rw [hc];rfl
theorem BOk.offered {b:Br} (h:BOk b) (k:Nat) (a:Int) (ks:Bs):BOk (Bk.offered b k a ks):=by
 unfold Bk.offered
 split
 ·exact h
 split
 ·exact ⟨h.log,h.data,h.queue,h.input,h.idle,h.strikes,h.fok,h.rin,h.len,h.told,h.code,fun k c hc=>by have:=h.cn k c hc; exact ⟨this.p,this.s,this.name,this.st⟩⟩
 ·exact h.send _ k
theorem BOk.lexed {b:Br} (h:BOk b) {k:Nat} {c:Cn} (hc:b.cs k=some c) (l:Lx.Lx):BOk (Bk.setc b k (some { c with lx:=l })):=by
 have hk:=h.cn k c hc;exact h.setc k ⟨hk.p,hk.s,hk.name,hk.st⟩
end Bk
end
section
namespace Bk
open Fr Lx
theorem opn_of_cs {b b':Br} {k:Nat} (h:b'.cs k=b.cs k):opn b' k=opn b k:=by unfold opn; rw [h]
theorem goes_shut {f:Br→Nat→Br} (hf:∀ b j k,opn b k=false→j≠k→(f b j).cs k=b.cs k):∀ (l:List Nat) (b:Br) (k:Nat),opn b k=false→(goes f b l).cs k=b.cs k
  | [],_,_,_=>rfl
  | j :: l,b,k,h=>by
    show (goes f (if opn b j then f b j else b) l).cs k=b.cs k
    by_cases hj:opn b j=true
    · rw [if_pos hj]
      have e:=hf b j k h (fun e=>by rw [e,h] at hj; cases hj);rw [goes_shut hf l _ k (by rw [opn_of_cs e]; exact h),e]
    · rw [if_neg hj]
      exact goes_shut hf l b k h
theorem leaveW_shut {tl:M→Br→Br} (ht:∀ m b k,opn b k=false→(tl m b).cs k=b.cs k) (b:Br) (j k:Nat) (h:opn b k=false) (hne:j≠k):(leaveW tl b j).cs k=b.cs k:=by
 unfold leaveW
 rcases hc:b.cs j with _ | c
 ·rfl
 ·have e:(setc b j (some { c with st:=2 })).cs k=b.cs k:=setc_ne b j _ (fun h=>hne h.symm)
  show (if c.st=1 then tl (left j) (setFl (setc b j (some { c with st:=2 })) (fleave b.fl j)) else setc b j (some { c with st:=2 })).cs k=b.cs k
  split
  ·rw [ht _ _ k (by rw [opn_of_cs (b:=b)]; exact h; exact e)]
   exact e
  ·exact e
theorem sendW_shut {lv:Br→Nat→Br} (hl:∀ b j k,opn b k=false→j≠k→(lv b j).cs k=b.cs k) (m:M) (b:Br) (j k:Nat) (h:opn b k=false) (hne:j≠k):(sendW lv m b j).cs k=b.cs k:=by
 unfold sendW
 rcases hc:b.cs j with _ | c
 ·rfl
 ·show (if c.st=2 then b else if c.out.length+(enc m).length≤b.cf.queue then setc b j (some { c with out:=c.out ++ enc m }) else lv b j).cs k=b.cs k
  split
  ·rfl
  ·split
   ·exact setc_ne b j _ (fun h=>hne h.symm)
   ·exact hl b j k h hne
theorem tellN_shut:∀ (n:Nat) (m:M) (b:Br) (k:Nat),opn b k=false→(tellN n m b).cs k=b.cs k
 | 0,_,_,_,_=>rfl
 | n+1,m,b,k,h=>goes_shut (fun b j k h hne=>sendW_shut (fun b j k h hne=>leaveW_shut (tellN_shut n) b j k h hne) m b j k h hne) ids b k h
theorem tell_shut (m:M) {b:Br} {k:Nat} (h:opn b k=false):(tell m b).cs k=b.cs k:=tellN_shut 17 m b k h
theorem mof_ok {f:BitVec 8×Bs} {m:M} (h:mof f=some m):m.ok=true∧m.t.length≤f.2.length:=by
 unfold mof at h
 split at h
 ·next hk =>
  injection h with h
  subst h;unfold Ms.ofOk at hk;rw [Bool.and_eq_true] at hk;refine ⟨hk.2,?_⟩
  show (Ms.ofT _ _).length≤_
  unfold Ms.ofT;rw [List.length_drop];omega
 ·cases h
theorem viewAt_le (L:Bs) (log:Nat) (back:Int) (line:Bool):viewAt L log back line≤L.length:=by
 unfold viewAt
 split
 ·unfold lineAt
  split
  ·next h=>exact h.choose_spec.1
  ·exact Nat.zero_le _
 ·exact startOf_le _ _ _
theorem firstRole_in (s:Fl) (w:Bool):0≤firstRole s w∧firstRole s w≤2:=by
 unfold firstRole
 repeat' split
 all_goals exact ⟨by decide,by decide⟩
section
variable {P:Br→Prop} (K:KMost P)
include K
theorem KMost.listB {b:Br} (h:P b) {k:Nat} (h1:1≤k) (h2:k≤16):P (Bk.listB b k):=by
 unfold Bk.listB;exact keep_goes (P:=P) (f:=fun b j=>Bk.send (notice (listLine b j)) b k) (fun b j hb _ _ _=>K.send (notice (listLine b j)) hb h1 h2) ids ids_in h
theorem KMost.doB {b:Br} (h:P b) {k:Nat} (h1:1≤k) (h2:k≤16) (o:Option (Int×Int)):P (Bk.doB b k o).1:=by
 rcases o with _ | ⟨kind,n⟩
 ·exact h
 unfold Bk.doB
 refine p_ite (P:=fun x:Br×Bool=>P x.1) (fun _=>h) fun hn=>?_
 refine p_ite (P:=fun x:Br×Bool=>P x.1) (fun _=>K.fl b (fask b.fl k) h (.inl ⟨_,rfl⟩)) fun hn=>?_
 refine p_ite (P:=fun x:Br×Bool=>P x.1) (fun _=>K.fl b (fdrop b.fl k) h (.inr (.inl ⟨_,rfl⟩))) fun hn=>?_
 refine p_ite (P:=fun x:Br×Bool=>P x.1) (fun _=>K.listB h h1 h2) fun hn=>?_
 refine p_ite (P:=fun x:Br×Bool=>P x.1) (fun _=>K.shut h h1 h2 0) fun hn=>?_
 refine p_ite (P:=fun x:Br×Bool=>P x.1) (fun _=>K.fl b (frev b.fl) h (.inr (.inr (.inr (.inl rfl))))) fun hn=>?_
 refine p_ite (P:=fun x:Br×Bool=>P x.1) (fun _=>?_) fun hn=>?_
 ·dsimp only
  rcases hc:b.cs k with _ | c
  ·exact h
  ·exact K.again b k c _ h hc (startOf_le _ _ _)
 refine p_ite (P:=fun x:Br×Bool=>P x.1) (fun _=>p_ite (P:=fun x:Br×Bool=>P x.1) (fun _=>h) fun h9=>K.strikes b n.toNat h (by omega)) fun hn=>?_
 rcases hj:userB b n with _ | j
 ·exact h
 ·have hj2:1≤j∧j≤16:=by
   unfold userB at hj
   split at hj
   ·injection hj with hj; omega
   ·cases hj
  refine p_ite (P:=fun x:Br×Bool=>P x.1) (fun _=>K.fl b (fgive b.fl j) h (.inr (.inr (.inl ⟨_,rfl⟩)))) fun hn=>?_
  refine p_ite (P:=fun x:Br×Bool=>P x.1) (fun _=>K.shut h hj2.1 hj2.2 5) fun hn=>?_
  refine p_ite (P:=fun x:Br×Bool=>P x.1) (fun _=>K.fl b (fset b.fl j 1) h (.inr (.inr (.inr (.inr (.inl ⟨_,_,rfl⟩)))))) fun hn=>?_
  refine p_ite (P:=fun x:Br×Bool=>P x.1) (fun _=>K.fl b (fset b.fl j 0) h (.inr (.inr (.inr (.inr (.inl ⟨_,_,rfl⟩)))))) fun hn=>?_
  exact h
theorem KMost.stepC {b:Br} (h:P b) {k:Nat} (h1:1≤k) (h2:k≤16) (s:Bs):P (Bk.stepC b k s):=by
 unfold Bk.stepC;refine K.holder ?_
 split
 ·exact K.doB h h1 h2 _
 ·exact K.send _ (K.doB h h1 h2 _) h1 h2
theorem KMost.cmds {k:Nat} (h1:1≤k) (h2:k≤16):∀ (l:List Bs) {b:Br},P b→P (Bk.cmds b k l)
  | [],_,h=>h
  | s :: l,b,h=>by
    rw [cmds_cons]
    split
    · exact KMost.cmds h1 h2 l (K.stepC h h1 h2 s)
    · exact h
theorem KMost.joinB {b:Br} (h:P b) {k:Nat} {c:Cn} {m:M} (hc:b.cs k=some c) (hst:c.st=0) (h1:1≤k) (h2:k≤16) (hm:m.ok=true) (hm1:m.k=1) (hn:isName m.t=true):P (Bk.joinB b k m):=by
 have ho:opn b k=false:=by unfold opn; rw [hc]; simp [hst]
 have hc1:=(tell_shut (joined k m.t) ho).trans hc;have hP1:=K.tell (joined k m.t) h
 have ht:m.t.length≤20:=by have:=Ms.rt_n hm; rw [hm1] at this; exact this
 rw [joinB_eq,hc1];have hr:=firstRole_in (Bk.tell (joined k m.t) b).fl (decide (m.a % 2=1));have hJ:=K.join _ k c m.t (comeAt (Bk.tell (joined k m.t) b) m) (comeRole (Bk.tell (joined k m.t) b) m) hP1 hc1 h1 h2 hst ht hn (viewAt_le _ _ _ _) hr.1 hr.2;have hX:=K.send (welcome k (comeAt (Bk.tell (joined k m.t) b) m) (comeRole (Bk.tell (joined k m.t) b) m)) hJ h1 h2;have hY:=K.send (mfloor (Bk.send (welcome k (comeAt (Bk.tell (joined k m.t) b) m) (comeRole (Bk.tell (joined k m.t) b) m)) (setFl (setc (Bk.tell (joined k m.t) b) k (some (opened c m.t (comeAt (Bk.tell (joined k m.t) b) m)))) (fjoin (Bk.tell (joined k m.t) b).fl k (comeRole (Bk.tell (joined k m.t) b) m))) k).told) hX h1 h2
 show P (joinR (Bk.tell (joined k m.t) b) k c m)
 unfold joinR joinX joinY
 split
 ·exact K.send _ hY h1 h2
 ·exact hY
theorem KMost.hello {b:Br} (h:P b) {k:Nat} {c:Cn} {m:M} (hc:b.cs k=some c) (hst:c.st=0) (h1:1≤k) (h2:k≤16) (hm:m.ok=true):P (Bk.hello b k m):=by
 unfold Bk.hello
 split
 ·exact K.shut h h1 h2 4
 ·next hk1 =>
  split
  ·exact K.shut h h1 h2 2
  ·split
   ·exact K.shut h h1 h2 3
   ·next hn=>exact K.joinB h hc hst h1 h2 hm (by omega) (by simpa using hn)
theorem KMost.takeB {b:Br} (h:P b) {k:Nat} (h1:1≤k) (h2:k≤16) {mo:Option M} (hm:∀ m,mo=some m→m.ok=true) (hkey:∀ m,mo=some m→m.k=2→P (Bk.keysB b k m)):P (Bk.takeB b k mo):=by
 unfold Bk.takeB
 rcases mo with _ | m
 ·exact K.shut h h1 h2 4
 ·show P (if (match b.cs k with | some c=>decide (c.st=0) | none=>false)=true then Bk.hello b k m else if m.k=2 then Bk.keysB b k m else if m.k=3 then Bk.send ⟨14,0,0,[]⟩ b k else if m.k=4 then Bk.shut b k 0 else Bk.shut b k 4)
  rcases hc:b.cs k with _ | c
  ·dsimp only
   rw [if_neg (by decide)]
   split
   ·next h2k=>exact hkey m rfl h2k
   split
   ·exact K.send _ h h1 h2
   split
   ·exact K.shut h h1 h2 0
   ·exact K.shut h h1 h2 4
  ·dsimp only
   by_cases hst:c.st=0
   ·rw [if_pos (by simpa using hst)]
    exact K.hello h hc hst h1 h2 (hm m rfl)
   ·rw [if_neg (by simpa using hst)]
    split
    ·next h2k=>exact hkey m rfl h2k
    split
    ·exact K.send _ h h1 h2
    split
    ·exact K.shut h h1 h2 0
    ·exact K.shut h h1 h2 4
end
section
variable {P:Br→Prop} (K:KTake P)
include K
theorem KTake.offered {b:Br} (h:P b) {k:Nat} (h1:1≤k) (h2:k≤16) (a:Int) (ks:Bs):P (Bk.offered b k a ks):=by
 unfold Bk.offered
 split
 ·exact h
 split
 ·next hw =>
  unfold whyB at hw
  split at hw
  ·cases hw
  ·next he =>
   split at hw
   ·cases hw
   split at hw
   ·cases hw
   split at hw
   ·cases hw
   split at hw
   ·cases hw
   ·next hi=>exact K.typed b ks h (by simpa using he) (by omega)
 ·exact K.send _ h h1 h2
theorem KTake.keysB {b:Br} (h:P b) {k:Nat} (h1:1≤k) (h2:k≤16) (m:M):P (Bk.keysB b k m):=by
 rcases hc:b.cs k with _ | c
 ·unfold Bk.keysB; rw [hc]; exact h
 ·rw [keysB_eq hc]
  exact K.cmds h1 h2 _ (K.offered (K.lx b k c m.t h hc) h1 h2 _ _)
theorem KTake.takeB {b:Br} (h:P b) {k:Nat} (h1:1≤k) (h2:k≤16) {mo:Option M} (hm:∀ m,mo=some m→m.ok=true):P (Bk.takeB b k mo):=
 K.toKMost.takeB h h1 h2 hm fun m _ _=>K.keysB h h1 h2 m
theorem KTake.takes {k:Nat} (h1:1≤k) (h2:k≤16):∀ (l:List (BitVec 8×Bs)) {b:Br},P b→P (Bk.takes b k l)
  | [],_,h=>h
  | f :: l,b,h=>by
    show P (if closing b k then b else Bk.takes (Bk.holder (Bk.takeB b k (mof f))) k l)
    split
    · exact h
    · exact KTake.takes h1 h2 l (K.holder (K.takeB h h1 h2 fun m hm=>(mof_ok hm).1))
end
section
variable {P:Br→Prop} (K:KAll P)
include K
theorem KAll.recv {b:Br} (h:P b) {k:Nat} (h1:1≤k) (h2:k≤16) (t:Bs):P (Bk.recvB b k t):=by
 unfold Bk.recvB
 rcases hc:b.cs k with _ | c
 ·exact h
 ·have ht:=K.takes h1 h2 (fgot c.fd t) (K.fd b k c t h hc)
  show P (if _ then Bk.shut _ k 1 else Bk.takes _ k _)
  split
  ·exact K.shut ht h1 h2 1
  ·exact ht
theorem KAll.bytes {b:Br} (h:P b) (id:Int) (t:Bs):P (Bk.bytesB b id t):=by
 unfold Bk.bytesB
 split
 ·next he =>
  have ht:1≤id∧id≤16:=by
   unfold bytesE at he
   split at he
   ·next hi=>unfold isThere at hi; simp at hi; exact hi.1
   ·cases he
  have h1:1≤id.toNat:=by omega
  have h2:id.toNat≤16:=by omega
  refine K.settle (K.recv ?_ h1 h2 t)
  rcases hc:b.cs id.toNat with _ | c
  ·exact h
  ·show P (if t=[] then b else setc b id.toNat (some { c with idle:=0 }))
   split
   ·exact h
   ·exact K.idle0 b _ c h hc
 ·exact h
end
end Bk
end
section
namespace Bk
open Fr Lx
def PC (Q:Nat→Fs→Prop) (b:Br):Prop:=∀ k c,b.cs k=some c→Q c.idle c.fd
theorem PC.setc {Q:Nat→Fs→Prop} {b:Br} (h:PC Q b) (k:Nat) (c:Cn) (hc:Q c.idle c.fd):PC Q (setc b k (some c)):=fun j d hd=>by
 by_cases e:j=k
 ·subst e
  rw [setc_cs] at hd
  injection hd with hd
  subst hd;exact hc
 ·rw [setc_ne b k _ e] at hd
  exact h j d hd
theorem gone_pc {Q:Nat→Fs→Prop} {b:Br} {k:Nat} {c:Cn} (h:PC Q b) (hc:b.cs k=some c):PC Q (gone b k c):=by
 have:=h.setc k { c with st:=2 } (h k c hc);unfold gone
 split
 ·exact this
 ·exact this
theorem pc_core (Q:Nat→Fs→Prop):KCore (PC Q):=
 ⟨fun b k c h hc _ _=>gone_pc h hc,
  fun b k c m h hc _ _=>h.setc k _ (h k c hc),fun b h=>h,fun b k c m p s h hc _ _=>by
   have hp:=putc_same b.cf.queue { c with p:=p,s:=s } (enc m)
   exact h.setc k _ (by rw [hp.2.2.2.2.1,hp.2.2.2.2.2.1]; exact h k c hc),
  fun b h k c hc=>by
   replace hc:(if 1≤k∧k≤16∧done b k=true then none else b.cs k)=some c:=hc
   split at hc
   ·cases hc
   ·exact h k c hc⟩
theorem pc_all {Q:Nat→Fs→Prop} (hi:∀ i f,Q i f→Q 0 f) (hf:∀ i f t,Q i f→Q i (fpush f t)):KAll (PC Q) where
 toKCore:=pc_core Q
 idle0:=fun _ k c h hc=>h.setc k _ (hi _ _ (h k c hc))
 fd:=fun _ k c t h hc=>h.setc k _ (hf _ _ t (h k c hc))
 lx:=fun _ k c _ h hc=>h.setc k _ (h k c hc)
 join:=fun _ k c _ _ _ h hc _ _ _ _ _ _ _ _=>h.setc k _ (h k c hc)
 fl:=fun _ _ h _=>h
 again:=fun _ k c _ h hc _=>h.setc k _ (h k c hc)
 strikes:=fun _ _ h _=>h
 typed:=fun _ _ h _ _=>h
def PL (Q:Bs→Sp.Sp→Cf→Bool→Nat→Prop) (b:Br):Prop:=Q b.L b.sp b.cf b.ended b.code
theorem pl_all (Q:Bs→Sp.Sp→Cf→Bool→Nat→Prop):KAll (PL Q) where
 gone:=fun b k c h _ _ _=>by unfold gone; split <;> exact h
 plus:=fun b k c m h _ _ _=>h
 told:=fun b h=>h
 served:=fun b k c m p s h _ _ _=>h
 reap:=fun b h=>h
 idle0:=fun b k c h hc=>h
 fd:=fun b k c t h hc=>h
 lx:=fun b k c t h hc=>h
 join:=fun b k c t p r h hc _ _ _ _ _ _ _ _=>h
 fl:=fun b s h _=>h
 again:=fun b k c p h hc _=>h
 strikes:=fun b n h _=>h
 typed:=fun b ks h _ _=>h
def PT (T:Nat) (b:Br):Prop:=b.tot≤T
theorem pt_most (T:Nat):KMost (PT T) where
 gone:=fun b k c h _ _ _=>by unfold gone; split <;> exact h
 plus:=fun b k c m h _ _ _=>h
 told:=fun b h=>h
 served:=fun b k c m p s h _ _ _=>h
 reap:=fun b h=>h
 lx:=fun b k c t h hc=>h
 join:=fun b k c t p r h hc _ _ _ _ _ _ _ _=>h
 fl:=fun b s h _=>h
 again:=fun b k c p h hc _=>h
 strikes:=fun b n h _=>h
theorem offered_tot {b:Br} {T:Nat} (h:PT T b) {k:Nat} (h1:1≤k) (h2:k≤16) (a:Int) (ks:Bs):PT (T+ks.length) (offered b k a ks):=by
 have hw:PT (T+ks.length) b:=Nat.le_trans h (Nat.le_add_right _ _);unfold offered
 split
 ·exact hw
 split
 ·show b.tot+ks.length≤T+ks.length
  have:b.tot≤T:=h;omega
 ·exact (pt_most _).send _ hw h1 h2
theorem keysB_tot {b:Br} {T:Nat} (h:PT T b) {k:Nat} (h1:1≤k) (h2:k≤16) (m:M):PT (T+m.t.length) (keysB b k m):=by
 rcases hc:b.cs k with _ | c
 ·unfold keysB; rw [hc]; exact Nat.le_trans h (Nat.le_add_right _ _)
 ·rw [keysB_eq hc]
  have h3:PT T (setc b k (some { c with lx:=lrun c.lx m.t })):=h;have h4:=offered_tot h3 h1 h2 m.a (lkeys c.lx m.t);have h5:=lkeys_len c.lx m.t;exact (pt_most _).cmds h1 h2 _ (Nat.le_trans h4 (by omega))
theorem takeB_tot {b:Br} {T n:Nat} (h:PT T b) {k:Nat} (h1:1≤k) (h2:k≤16) {mo:Option M} (hm:∀ m,mo=some m→m.ok=true∧m.t.length≤n):PT (T+n) (takeB b k mo):=
 (pt_most (T+n)).takeB (Nat.le_trans h (Nat.le_add_right _ _)) h1 h2 (fun m e=>(hm m e).1) fun m e _=>Nat.le_trans (keysB_tot h h1 h2 m) (by have:=(hm m e).2; omega)
def fsum:List (BitVec 8×Bs)→Nat
 | []=>0
 | f :: fs=>f.2.length+fsum fs
theorem takes_tot {k:Nat} (h1:1≤k) (h2:k≤16):∀ (l:List (BitVec 8×Bs)) {b:Br} {T:Nat},PT T b→PT (T+fsum l) (takes b k l)
  | [],_,_,h=>h
  | f :: l,b,T,h=>by
    show PT (T+(f.2.length+fsum l)) (if closing b k then b else takes (holder (takeB b k (mof f))) k l)
    split
    · exact Nat.le_trans h (Nat.le_add_right _ _)
    · have:=takes_tot h1 h2 l ((pt_most _).holder (takeB_tot (n:=f.2.length) h h1 h2 fun m hm=>mof_ok hm))
      rw [Nat.add_assoc] at this;exact this
theorem tells_sum {r:Bs}:∀ {fs:List (BitVec 8×Bs)} {l:Bs},Tells l fs r→fsum fs+r.length≤l.length
  | [],l,h=>by
    rw [h.1];exact Nat.le_of_eq (Nat.zero_add _)
  | f :: fs,l,⟨h0,h1,h2⟩=>by
    have:=tells_sum h2;have hb:=get_body_len h0;have hn:=get_n5 h0;rw [List.length_drop] at this
    show f.2.length+fsum fs+r.length≤_
    rw [h1]
    show (get l).body.length+fsum fs+r.length≤_
    omega
theorem fgot_sum (s:Fs) (t:Bs):fsum (fgot s t)≤s.l.length+t.length:=by
 unfold fgot
 split
 ·have:=tells_sum (tells_tfs (s.l ++ t))
  rw [List.length_append] at this;omega
 ·exact Nat.zero_le _
theorem recv_tot {b:Br} {T n:Nat} (h:PT T b) {k:Nat} (h1:1≤k) (h2:k≤16) (hf:PC (fun _ f=>f.l.length≤n) b) (t:Bs):PT (T+(n+t.length)) (recvB b k t):=by
 unfold recvB
 rcases hc:b.cs k with _ | c
 ·exact Nat.le_trans h (Nat.le_add_right _ _)
 ·have h3:PT T (setc b k (some { c with fd:=fpush c.fd t })):=h
  have ht:=takes_tot h1 h2 (fgot c.fd t) h3;have hs:=fgot_sum c.fd t;have hl:c.fd.l.length≤n:=hf k c hc;replace ht:PT (T+(n+t.length)) (takes (setc b k (some { c with fd:=fpush c.fd t })) k (fgot c.fd t)):=Nat.le_trans ht (by omega)
  show PT _ (if _ then shut _ k 1 else takes _ k _)
  split
  ·exact (pt_most _).shut ht h1 h2 1
  ·exact ht
theorem bytes_tot {b:Br} {T n:Nat} (h:PT T b) (hf:PC (fun _ f=>f.l.length≤n) b) (id:Int) (t:Bs):PT (T+(n+t.length)) (bytesB b id t):=by
 unfold bytesB
 split
 ·next he =>
  have ht:1≤id∧id≤16:=by
   unfold bytesE at he
   split at he
   ·next hi=>unfold isThere at hi; simp at hi; exact hi.1
   ·cases he
  refine (pt_most _).settle (recv_tot ?_ (by omega) (by omega) ?_ t)
  ·rcases hc:b.cs id.toNat with _ | c
   ·exact h
   ·show PT T (if t=[] then b else _)
    split
    ·exact h
    ·exact h
  ·rcases hc:b.cs id.toNat with _ | c
   ·exact hf
   ·show PC _ (if t=[] then b else setc b id.toNat (some { c with idle:=0 }))
    split
    ·exact hf
    ·exact hf.setc _ _ (hf _ c hc)
 ·exact Nat.le_trans h (Nat.le_add_right _ _)
theorem pcf_take (k:Nat) (f:Fs):KTake (fun b=>∀ c,b.cs k=some c→c.fd=f):=by
 have set:∀ {b:Br} {j:Nat} {c c':Cn},(∀ c,b.cs k=some c→c.fd=f)→b.cs j=some c→c'.fd=c.fd→∀ d,(Bk.setc b j (some c')).cs k=some d→d.fd=f:=fun {b j c c'} h hc e d hd=>by
  by_cases ej:k=j
  ·subst ej
   rw [setc_cs] at hd
   injection hd with hd
   subst hd;rw [e];exact h c hc
  ·rw [setc_ne b j _ ej] at hd
   exact h d hd
 exact {
  gone:=fun b j c h hc _ _=>by
   have:=set (c':={ c with st:=2 }) h hc rfl;unfold gone
   split
   ·exact this
   ·exact this
  plus:=fun b j c m h hc _ _=>set h hc rfl
  told:=fun b h=>h
  served:=fun b j c m p s h hc _ _=>set h hc (putc_same b.cf.queue { c with p:=p,s:=s } (enc m)).2.2.2.2.2.1
  reap:=fun b h c hc=>by
   replace hc:(if 1≤k∧k≤16∧done b k=true then none else b.cs k)=some c:=hc
   split at hc
   ·cases hc
   ·exact h c hc
  lx:=fun b j c t h hc=>set h hc rfl
  join:=fun b j c t p r h hc _ _ _ _ _ _ _ _=>set h hc rfl
  fl:=fun b s h _=>h
  again:=fun b j c p h hc _=>set h hc rfl
  strikes:=fun b n h _=>h
  typed:=fun b ks h _ _=>h }
theorem shut_closing {b:Br} {k:Nat} {c:Cn} (hc:b.cs k=some c) (hst:c.st=2) (why:Nat):shut b k why=b:=by
 have h1:send (closed why) b k=b:=by
  show sendW (leaveN 16) (closed why) b k=b
  unfold sendW;rw [hc];simp [hst]
 have h2:leave b k=b:=by
  show leaveW (tellN 16) b k=b
  unfold leaveW;rw [hc]
  show (if c.st=1 then _ else setc b k (some { c with st:=2 }))=b
  rw [if_neg (by omega),show ({ c with st:=2 }:Cn)=c by rw [← hst],setc_as hc]
 unfold shut;rw [h1,h2]
theorem err5_len {r:Bs} (h:err r=5):r.length≤2052:=by
  by_cases h2:r.length<2
  · omega
  · by_cases h3:num2 r=0∨2049<num2 r
    · have:=err_long (by omega) h3
      rw [this] at h;cases h
    · by_cases h4:r.length<num2 r+4
      · omega
      · unfold err at h
        rw [if_neg h2,if_neg h3,if_neg h4] at h
        split at h <;> cases h
theorem keep_len (r:Bs):(keep r).length≤2052:=by
 unfold keep
 split
 ·next h=>exact err5_len h
 ·exact Nat.zero_le _
theorem fpush_len {s:Fs} (h:s.l.length≤2052) (t:Bs):(fpush s t).l.length≤2052:=by
 unfold fpush
 split
 ·exact keep_len _
 ·exact h
structure EvOk (b:Br) (i T m:Nat):Prop where
 ok:BOk b
 cn:PC (fun j f=>j≤i∧f.l.length≤2052) b
 tot:b.tot≤T
 len:b.L.length≤m
 sp:Sp.Ok b.sp b.L.length
theorem bok_all:KAll BOk where
 gone:=fun b k c h hc _ _=>by
  have hk:=h.cn k c hc;have h2:=h.setc k (c:={ c with st:=2 }) ⟨hk.p,hk.s,hk.name,Nat.le_refl _⟩;unfold gone
  split
  ·have hr:RIn (fleave b.fl k):=fun p hp=>h.rin p (fleave_sub b.fl k p hp)
   exact ⟨h2.log,h2.data,h2.queue,h2.input,h2.idle,h2.strikes,h.fok.leave k,hr,h2.len,h2.told,h2.code,fun j d hd=>by have:=h2.cn j d hd; exact ⟨this.p,this.s,this.name,this.st⟩⟩
  ·exact h2
 plus:=fun b k c m h hc _ _=>by have hk:=h.cn k c hc; exact h.setc k ⟨hk.p,hk.s,hk.name,hk.st⟩
 told:=fun b h=>h.toldB
 served:=fun b k c m p s h hc _ hn=>h.served hc hn
 reap:=fun b h=>h.reap
 idle0:=fun b k c h hc=>by have hk:=h.cn k c hc; exact h.setc k ⟨hk.p,hk.s,hk.name,hk.st⟩
 fd:=fun b k c t h hc=>by have hk:=h.cn k c hc; exact h.setc k ⟨hk.p,hk.s,hk.name,hk.st⟩
 lx:=fun b k c t h hc=>h.lexed hc _
 join:=fun b k c t p r h hc h1 h2 _ ht _ hp _ _=>by
  have hk:=h.cn k c hc;have h3:=h.setc k (c:=opened c t p) ⟨hp,Nat.zero_le _,ht,by show (1:Nat)≤2; decide⟩
  have hr:RIn (fjoin b.fl k r):=fun q hq=>by
   unfold fjoin at hq
   split at hq
   ·rcases rput_mem hq with e | e
    ·rw [e]; show 1≤((k:Nat):Int)∧((k:Nat):Int)≤16; omega
    ·exact h.rin q e
   ·exact h.rin q hq
  exact ⟨h3.log,h3.data,h3.queue,h3.input,h3.idle,h3.strikes,fok_few (h.fok.join r (by omega)) hr,hr,h3.len,h3.told,h3.code,fun j d hd=>by have:=h3.cn j d hd; exact ⟨this.p,this.s,this.name,this.st⟩⟩
 fl:=fun b s h hs=>h.fl hs
 again:=fun b k c p h hc hp=>by have hk:=h.cn k c hc; exact h.setc k ⟨hp,hk.s,hk.name,hk.st⟩
 strikes:=fun b n h hn=>⟨h.log,h.data,h.queue,h.input,h.idle,hn,h.fok,h.rin,h.len,h.told,h.code,fun k c hc=>by have:=h.cn k c hc; exact ⟨this.p,this.s,this.name,this.st⟩⟩
 typed:=fun b ks h _ _=>⟨h.log,h.data,h.queue,h.input,h.idle,h.strikes,h.fok,h.rin,h.len,h.told,h.code,fun k c hc=>by have:=h.cn k c hc; exact ⟨this.p,this.s,this.name,this.st⟩⟩
theorem pcq_all (i:Nat):KAll (PC (fun j f=>j≤i∧f.l.length≤2052)):=pc_all (fun _ _ h=>⟨Nat.zero_le _,h.2⟩) fun _ _ t h=>⟨h.1,fpush_len h.2 t⟩
theorem plq_all (m:Nat):KAll (PL fun L sp _ _ _=>L.length≤m∧Sp.Ok sp L.length):=pl_all _
variable {b:Br} {i T m:Nat}
theorem EvOk.bytes (h:EvOk b i T m) (id:Int) (t:Bs):EvOk (bytesB b id t) i (T+2052+t.length) m:=by
 have h1:=(plq_all m).bytes (b:=b) ⟨h.len,h.sp⟩ id t;exact ⟨bok_all.bytes h.ok id t,(pcq_all i).bytes h.cn id t,Nat.le_trans (bytes_tot h.tot (fun k c hc=>(h.cn k c hc).2) id t) (by omega),h1.1,h1.2⟩
theorem EvOk.connect (h:EvOk b i T m) (id:Int):EvOk (connectB b id) i T m:=by
 unfold connectB
 split
 ·exact ⟨h.ok.setc _ ⟨Nat.zero_le _,Nat.zero_le _,Nat.zero_le _,Nat.zero_le _⟩,h.cn.setc _ cnew ⟨Nat.zero_le _,Nat.zero_le _⟩,h.tot,h.len,h.sp⟩
 ·exact h
theorem EvOk.settle (h:EvOk b i T m):EvOk (settle b) i T m:=by
 have h1:=(plq_all m).settle (b:=b) ⟨h.len,h.sp⟩;exact ⟨h.ok.settle,(pcq_all i).settle h.cn,(pt_most T).settle h.tot,h1.1,h1.2⟩
theorem EvOk.set (h:EvOk b i T m) (k:Nat) {c:Cn} (hc:CnOk b c) (hi:c.idle≤i∧c.fd.l.length≤2052):EvOk (setc b k (some c)) i T m:=
 ⟨h.ok.setc k hc,h.cn.setc k c hi,h.tot,h.len,h.sp⟩
theorem EvOk.unset (h:EvOk b i T m) (k:Nat):EvOk (setc b k none) i T m:=by
 have hk:∀ j d,(setc b k none).cs j=some d→b.cs j=some d:=fun j d hd=>by
  by_cases e:j=k
  ·subst e; rw [setc_cs] at hd; cases hd
  ·rwa [setc_ne b k _ e] at hd
 exact ⟨⟨h.ok.log,h.ok.data,h.ok.queue,h.ok.input,h.ok.idle,h.ok.strikes,h.ok.fok,h.ok.rin,h.ok.len,h.ok.told,h.ok.code,fun j d hd=>by have:=h.ok.cn j d (hk j d hd); exact ⟨this.p,this.s,this.name,this.st⟩⟩,fun j d hd=>h.cn j d (hk j d hd),h.tot,h.len,h.sp⟩
theorem EvOk.write (h:EvOk b i T m) (id n:Int):EvOk (writeB b id n) i T m:=by
 unfold writeB
 split
 ·rcases hc:b.cs id.toNat with _ | c
  ·exact h
  ·have hk:=h.ok.cn _ c hc
   exact (h.set id.toNat (c:={ c with out:=c.out.drop (takeN n c.out.length) }) ⟨hk.p,hk.s,hk.name,hk.st⟩ (h.cn _ c hc)).settle
 ·exact h
theorem EvOk.leave (h:EvOk b i T m) {k:Nat} (h1:1≤k) (h2:k≤16):EvOk (leave b k) i T m:=by
 have h3:=(plq_all m).leave (b:=b) ⟨h.len,h.sp⟩ h1 h2;exact ⟨h.ok.leave k,(pcq_all i).leave h.cn h1 h2,(pt_most T).leave h.tot h1 h2,h3.1,h3.2⟩
theorem EvOk.cut (h:EvOk b i T m) (id:Int):EvOk (cutB b id) i T m:=by
 unfold cutB
 split
 ·next ht =>
  have h0:1≤id∧id≤16:=by unfold isThere at ht; simp at ht; exact ht.1
  exact ((h.leave (by omega) (by omega)).unset _).settle
 ·exact h
theorem EvOk.output (h:EvOk b i T m) (t:Bs) (hm:m+t.length≤1099511627776):EvOk (outputB b t) i T (m+t.length):=by
 unfold outputB
 split
 ·exact ⟨h.ok,h.cn,h.tot,Nat.le_trans h.len (Nat.le_add_right _ _),h.sp⟩
 ·have hl:(b.L ++ t).length≤m+t.length:=by rw [List.length_append]; have:=h.len; omega
  refine EvOk.settle (b:={ b with L:=b.L ++ t,sp:=Sp.nxts b.sp t }) ⟨⟨h.ok.log,h.ok.data,h.ok.queue,h.ok.input,h.ok.idle,h.ok.strikes,h.ok.fok,h.ok.rin,Nat.le_trans hl hm,h.ok.told,h.ok.code,fun j d hd=>by
   have:=h.ok.cn j d hd
   exact ⟨Nat.le_trans this.p (by show b.L.length≤(b.L ++ t).length; rw [List.length_append]; omega),this.s,this.name,this.st⟩⟩,h.cn,h.tot,hl,?_⟩
  show Sp.Ok (Sp.nxts b.sp t) (b.L ++ t).length
  rw [List.length_append];exact h.sp.nxts t
theorem EvOk.drain (h:EvOk b i T m) (n:Int):EvOk (drainB b n) i T m:=
 ⟨⟨h.ok.log,h.ok.data,h.ok.queue,h.ok.input,h.ok.idle,h.ok.strikes,h.ok.fok,h.ok.rin,h.ok.len,h.ok.told,h.ok.code,fun j d hd=>by have:=h.ok.cn j d hd; exact ⟨this.p,this.s,this.name,this.st⟩⟩,h.cn,h.tot,h.len,h.sp⟩
theorem EvOk.tell (h:EvOk b i T m) (x:M):EvOk (tell x b) i T m:=by
 have h3:=(plq_all m).tell x (b:=b) ⟨h.len,h.sp⟩;exact ⟨h.ok.tell x,(pcq_all i).tell x h.cn,(pt_most T).tell x h.tot,h3.1,h3.2⟩
theorem EvOk.ends (h:EvOk b i T m) (code:Int):EvOk (endB b code) i T m:=by
 unfold endB
 split
 ·next he =>
  have hc:code.toNat≤255:=by
   unfold endE at he
   split at he
   ·cases he
   ·split at he
    ·cases he
    ·omega
  exact (EvOk.tell (b:={ b with ended:=true,code:=code.toNat,inp:=[] }) ⟨⟨h.ok.log,h.ok.data,h.ok.queue,h.ok.input,h.ok.idle,h.ok.strikes,h.ok.fok,h.ok.rin,h.ok.len,h.ok.told,hc,fun j d hd=>by have:=h.ok.cn j d hd; exact ⟨this.p,this.s,this.name,this.st⟩⟩,h.cn,h.tot,h.len,h.sp⟩ _).settle
 ·exact h
theorem EvOk.shut (h:EvOk b i T m) {k:Nat} (h1:1≤k) (h2:k≤16) (why:Nat):EvOk (shut b k why) i T m:=by
 have h3:=(plq_all m).shut (b:=b) ⟨h.len,h.sp⟩ h1 h2 why;exact ⟨h.ok.shut k why,(pcq_all i).shut h.cn h1 h2 why,(pt_most T).shut h.tot h1 h2 why,h3.1,h3.2⟩
theorem EvOk.tickC (h:EvOk b (i+1) T m) {k:Nat} (h1:1≤k) (h2:k≤16) (hi:∀ c,b.cs k=some c→c.idle≤i):EvOk (tickC b k) (i+1) T m:=by
 unfold Bk.tickC
 rcases hc:b.cs k with _ | c
 ·exact h
 ·have hk:=h.ok.cn k c hc
  have:=h.set k (c:={ c with idle:=c.idle+1 }) ⟨hk.p,hk.s,hk.name,hk.st⟩ ⟨by show c.idle+1≤_; have:=hi c hc; omega,(h.cn k c hc).2⟩
  show EvOk (if _ then Bk.shut (setc b k (some { c with idle:=c.idle+1 })) k 6 else setc b k (some { c with idle:=c.idle+1 })) _ _ _
  split
  ·exact this.shut h1 h2 6
  ·exact this
theorem tickC_idle {b:Br} {k j:Nat} {d:Cn} (hj:j≠k) (h:(Bk.tickC b k).cs j=some d):∃ c,b.cs j=some c∧d.idle=c.idle:=by
 unfold Bk.tickC at h
 rcases hc:b.cs k with _ | c
 ·rw [hc] at h; exact ⟨d,h,rfl⟩
 ·rw [hc] at h
  replace h:(if b.cf.idle≠0∧b.cf.idle≤c.idle+1 then Bk.shut (setc b k (some { c with idle:=c.idle+1 })) k 6 else setc b k (some { c with idle:=c.idle+1 })).cs j=some d:=h
  split at h
  ·obtain ⟨c1,h1,h2⟩:=(shut_le _ _ _).cn j d h
   rw [setc_ne b k _ hj] at h1;exact ⟨c1,h1,h2.idle⟩
  ·rw [setc_ne b k _ hj] at h
   exact ⟨d,h,rfl⟩
theorem EvOk.ticks:∀ (l:List Nat) {b:Br},l.Nodup→(∀ k∈l,1≤k∧k≤16)→EvOk b (i+1) T m→(∀ k∈l,∀ c,b.cs k=some c→c.idle≤i)→EvOk (l.foldl Bk.tickC b) (i+1) T m
  | [],_,_,_,h,_=>h
  | k :: l,b,hn,hl,h,hi=>by
    obtain ⟨hk,hn⟩:=List.nodup_cons.1 hn;have h1:=hl k List.mem_cons_self
    refine EvOk.ticks l hn (fun j hj=>hl j (List.mem_cons_of_mem _ hj)) (h.tickC h1.1 h1.2 (hi k List.mem_cons_self)) fun j hj d hd=>?_
    obtain ⟨c,hc,e⟩:=tickC_idle (fun e:j=k=>hk (by rw [← e]; exact hj)) hd;rw [e];exact hi j (List.mem_cons_of_mem _ hj) c hc
theorem EvOk.tick (h:EvOk b i T m):EvOk (tickB b) (i+1) T m:=by
 unfold tickB;refine EvOk.settle (EvOk.ticks ids ids_nodup ids_in ?_ fun k _ c hc=>(h.cn k c hc).1);have:=fok_step h.ok.fok h.ok.rin (.inr (.inr (.inr (.inr (.inr rfl)))));exact ⟨⟨h.ok.log,h.ok.data,h.ok.queue,h.ok.input,h.ok.idle,h.ok.strikes,this.1,this.2,h.ok.len,h.ok.told,h.ok.code,fun j d hd=>by have:=h.ok.cn j d hd; exact ⟨this.p,this.s,this.name,this.st⟩⟩,fun k c hc=>⟨by have:=(h.cn k c hc).1; show c.idle≤i+1; omega,(h.cn k c hc).2⟩,h.tot,h.len,h.sp⟩
end Bk
end
section
namespace Bk
open Fr Lx
theorem takes_shut {b:Br} {k:Nat} (h:closing b k=true):∀ l,takes b k l=b
  | []=>rfl
  | f :: l=>by
    show (if closing b k then b else takes (holder (takeB b k (mof f))) k l)=b
    rw [h];rfl
theorem takes_app (k:Nat):∀ (l:List (BitVec 8×Bs)) (b:Br) (r:List (BitVec 8×Bs)),takes b k (l ++ r)=takes (takes b k l) k r
  | [],_,_=>rfl
  | f :: l,b,r=>by
    show (if closing b k then b else takes (holder (takeB b k (mof f))) k (l ++ r))=takes (if closing b k then b else takes (holder (takeB b k (mof f))) k l) k r
    by_cases h:closing b k=true
    · rw [if_pos h,if_pos h,takes_shut h]
    · rw [if_neg h,if_neg h,takes_app k l]
noncomputable def takesTo (b:Br) (k:Nat) (l:List (BitVec 8×Bs)) (j:Nat):Br:=takes b k (l.take j)
theorem takesTo_all (b:Br) (k:Nat) (l:List (BitVec 8×Bs)):takesTo b k l l.length=takes b k l:=by unfold takesTo; rw [List.take_length]
theorem takesTo_next {b:Br} {k:Nat} {l:List (BitVec 8×Bs)} {j:Nat} {f:BitVec 8×Bs} (hs:l[j]?=some f) (ho:closing (takesTo b k l j) k=false):takesTo b k l (j+1)=holder (takeB (takesTo b k l j) k (mof f)):=by
 unfold takesTo at *;rw [List.take_add_one,hs,Option.toList_some,takes_app]
 show (if closing (takes b k (l.take j)) k then _ else takes (holder (takeB (takes b k (l.take j)) k (mof f))) k [])=_
 rw [ho];rfl
theorem takesTo_stop {b:Br} {k:Nat} {l:List (BitVec 8×Bs)} {j:Nat} (ho:closing (takesTo b k l j) k=true):takes b k l=takesTo b k l j:=by
 unfold takesTo at *
 conv=>lhs; rw [← List.take_append_drop j l,takes_app,takes_shut ho]
theorem fgot_count (s:Fs) (t:Bs):5 * (fgot s t).length≤s.l.length+t.length:=by
 unfold fgot
 split
 ·have:=Tells.short (tells_tfs (s.l ++ t))
  rw [List.length_append] at this;omega
 ·exact Nat.zero_le _
theorem fsum_get:∀ {l:List (BitVec 8×Bs)} {j:Nat} {f:BitVec 8×Bs},l[j]?=some f→f.2.length≤fsum l
  | [],_,_,h=>by simp at h
  | x :: l,0,f,h=>by
    simp at h;subst h;exact Nat.le_add_right _ _
  | x :: l,j+1,f,h=>by
    have:=fsum_get (l:=l) (j:=j) (f:=f) (by simpa using h);exact Nat.le_trans this (Nat.le_add_left _ _)
theorem fsum_take:∀ (l:List (BitVec 8×Bs)) (j:Nat),fsum (l.take j)≤fsum l
  | [],_=>by simp
  | f :: l,0=>Nat.zero_le _
  | f :: l,j+1=>by
    show f.2.length+fsum (l.take j)≤f.2.length+fsum l
    have:=fsum_take l j;omega
noncomputable def recvX (e:Nat) (b2:Br) (k:Nat):Br:=if e=0∨closing b2 k=true then b2 else shut b2 k 1
theorem recvX_same {e:Nat} {b2:Br} {k:Nat} (h:e=0∨closing b2 k=true):recvX e b2 k=b2:=by unfold recvX; rw [if_pos h]
theorem recvX_shut {e:Nat} {b2:Br} {k:Nat} (h:e≠0) (h2:closing b2 k=false):recvX e b2 k=shut b2 k 1:=by unfold recvX; rw [if_neg (by simp [h,h2])]
theorem recvB_eq {b:Br} {k:Nat} {c:Cn} (hc:b.cs k=some c) (t:Bs):recvB b k t=recvX (fpush c.fd t).e (takes (setc b k (some { c with fd:=fpush c.fd t })) k (fgot c.fd t)) k:=by
 unfold recvB;rw [hc]
 show (if closing (takes (setc b k (some { c with fd:=fpush c.fd t })) k (fgot c.fd t)) k=false∧(fpush c.fd t).e≠0 then _ else _)=_
 by_cases he:(fpush c.fd t).e=0
 ·rw [if_neg (fun h=>h.2 he),recvX_same (.inl he)]
 ·rcases hcl:closing (takes (setc b k (some { c with fd:=fpush c.fd t })) k (fgot c.fd t)) k with _ | _
  ·rw [if_pos ⟨rfl,he⟩,recvX_shut he hcl]
  ·rw [if_neg (fun h=>by cases h.1),recvX_same (.inr hcl)]
theorem takesTo_kept {b:Br} {k:Nat} {c:Cn} {t:Bs} {T:Nat} (hk:BOk b) (hc:b.cs k=some c) (h1:1≤k) (h2:k≤16) (hT:b.tot≤T) (j:Nat) :
  BOk (takesTo (setc b k (some { c with fd:=fpush c.fd t })) k (fgot c.fd t) j)∧(takesTo (setc b k (some { c with fd:=fpush c.fd t })) k (fgot c.fd t) j).tot≤T+c.fd.l.length+t.length ∧
   ∀ d,(takesTo (setc b k (some { c with fd:=fpush c.fd t })) k (fgot c.fd t) j).cs k=some d→d.fd=fpush c.fd t:=by
 have hb:=bok_all.fd b k c t hk hc;refine ⟨bok_all.toKTake.takes h1 h2 _ hb,?_,?_⟩
 ·have h3:PT T (setc b k (some { c with fd:=fpush c.fd t })):=hT
  have h4:=takes_tot h1 h2 ((fgot c.fd t).take j) h3;have h5:=fsum_take (fgot c.fd t) j;have h6:=fgot_sum c.fd t;exact Nat.le_trans h4 (by omega)
 ·refine (pcf_take k (fpush c.fd t)).takes h1 h2 _ (fun d hd=>?_)
  rw [setc_cs] at hd
  injection hd with hd
  rw [← hd]
end Bk
end
section
namespace Bk
open Fr Lx
def esc (s:Bs):Bs:=[29#8,58#8] ++ s ++ [10#8]
theorem lx_in (s:Bs) (h:∀ c∈s,c≠10#8):∀ b:Bs,lrun ⟨2,b⟩ (s ++ [10#8])=lx0∧lkeys ⟨2,b⟩ (s ++ [10#8])=[]∧lcmds ⟨2,b⟩ (s ++ [10#8])=[Lx.shut (b ++ s)]:=by
  induction s with
  | nil =>
    intro b;refine ⟨rfl,rfl,?_⟩;rw [List.append_nil];rfl
  | cons c s ih =>
    intro b
    have hc:c.toNat≠10:=fun e=>h c List.mem_cons_self (BitVec.eq_of_toNat_eq e)
    have hs:lstep ⟨2,b⟩ c=⟨2,b ++ [c]⟩:=by unfold lstep; simp [hc]
    have hk:lkey ⟨2,b⟩ c=[]:=by unfold lkey; simp
    have hm:lcmd ⟨2,b⟩ c=[]:=by unfold lcmd; simp [hc]
    obtain ⟨h1,h2,h3⟩:=ih (fun x hx=>h x (List.mem_cons_of_mem _ hx)) (b ++ [c]);refine ⟨?_,?_,?_⟩
    · show lrun (lstep ⟨2,b⟩ c) (s ++ [10#8])=_
      rw [hs]; exact h1
    · show lkey ⟨2,b⟩ c ++ lkeys (lstep ⟨2,b⟩ c) (s ++ [10#8])=_
      rw [hs,hk,h2]; rfl
    · show lcmd ⟨2,b⟩ c ++ lcmds (lstep ⟨2,b⟩ c) (s ++ [10#8])=_
      rw [hs,hm,h3]; simp
theorem lx_esc (s:Bs) (h:∀ c∈s,c≠10#8) (hl:s.length≤80):lrun lx0 (esc s)=lx0∧lkeys lx0 (esc s)=[]∧lcmds lx0 (esc s)=[s]:=by
 obtain ⟨h1,h2,h3⟩:=lx_in s h [];refine ⟨h1,h2,?_⟩
 show lcmds ⟨2,[]⟩ (s ++ [10#8])=[s]
 rw [h3];unfold Lx.shut;rw [List.nil_append,if_neg (by omega)]
theorem lx_plain (s:Bs) (h:∀ c∈s,c≠29#8):lrun lx0 s=lx0∧lkeys lx0 s=s∧lcmds lx0 s=[]:=by
  induction s with
  | nil=>exact ⟨rfl,rfl,rfl⟩
  | cons c s ih =>
    have hc:c.toNat≠29:=fun e=>h c List.mem_cons_self (BitVec.eq_of_toNat_eq e)
    have hs:lstep lx0 c=lx0:=by unfold lstep lx0; simp [hc]
    have hk:lkey lx0 c=[c]:=by unfold lkey lx0; simp [hc]
    have hm:lcmd lx0 c=[]:=by unfold lcmd lx0; simp
    obtain ⟨h1,h2,h3⟩:=ih (fun x hx=>h x (List.mem_cons_of_mem _ hx));refine ⟨?_,?_,?_⟩
    · show lrun (lstep lx0 c) s=_
      rw [hs]; exact h1
    · show lkey lx0 c ++ lkeys (lstep lx0 c) s=_
      rw [hs,hk,h2]; rfl
    · show lcmd lx0 c ++ lcmds (lstep lx0 c) s=_
      rw [hs,hm,h3]; rfl
def keys (seq:Int) (t:Bs):M:=⟨2,seq,0,t⟩
theorem keys_ok {seq:Int} {t:Bs} (h0:0≤seq) (h1:seq≤1099511627776) (ht:t.length≤2042):(keys seq t).ok=true:=by
 unfold M.ok keys;rw [Ms.rt_iff];refine ⟨rfl,?_,rfl,ht⟩
 show Ms.okN seq true=true
 unfold Ms.okN;simp;omega
noncomputable def cmd1 (b:Br) (k:Nat) (s:Bs):Br:=holder (if (doB b k (parse s)).2 then (doB b k (parse s)).1 else send ⟨11,0,0,s⟩ (doB b k (parse s)).1 k)
theorem cmds_one {b:Br} {k:Nat} {s:Bs} (ho:opn b k=true):cmds b k [s]=cmd1 b k s:=by
 show (if opn b k then cmds (cmd1 b k s) k [] else b)=_
 rw [if_pos ho];rfl
theorem take_keys {b:Br} {k:Nat} {c:Cn} {seq:Int} {t:Bs} (hc:b.cs k=some c) (hst:c.st=1):takeB b k (some (keys seq t))=keysB b k (keys seq t):=by
 unfold takeB;rw [hc];simp [hst,keys]
theorem keys_cmd {b:Br} {k:Nat} {c:Cn} {seq:Int} {s:Bs} (hc:b.cs k=some c) (hst:c.st=1) (hl:c.lx=lx0) (hs:∀ x∈s,x≠10#8) (hn:s.length≤80):takeB b k (some (keys seq (esc s)))=cmd1 b k s:=by
 rw [take_keys hc hst];obtain ⟨h1,h2,h3⟩:=lx_esc s hs hn;unfold keysB;rw [hc]
 show cmds (if lkeys c.lx (esc s)=[] then setc b k (some { c with lx:=lrun c.lx (esc s) }) else _) k (lcmds c.lx (esc s))=_
 rw [hl,h1,h2,h3,if_pos rfl,show ({ c with lx:=lx0 }:Cn)=c by rw [← hl],setc_as hc];exact cmds_one (by unfold opn; rw [hc]; simpa using hst)
def wFloor:Bs:=Orm.wd 1
theorem parse_floor:parse wFloor=some (1,0):=parse_is ⟨by decide,by decide,by decide,by decide,by decide⟩ rfl
def cfd:Cf:=⟨4096,512,2048,256,3,100,0,80⟩
def helloM (t:Bs):M:=⟨1,5,0,t⟩
noncomputable def hd1:Br:=connectB (bnew cfd) 1
noncomputable def hd2:Br:=bytesB hd1 1 (enc (helloM [97#8]))
def lone (b:Br) (k:Nat) (c:Cn):Br:=setc { b with cs:=fun _=>none } k (some c)
end Bk
end
section
namespace Bk
open Fr Lx
structure CW (b:Br) (n:Nat):Prop where
 in16:In16 b
 cn:∀ k c,b.cs k=some c→c.st=1∧c.fd=fd0∧c.lx=lx0∧c.p=b.L.length∧c.out.length≤n
section
variable {b:Br} {n:Nat}
theorem CW.mono (h:CW b n) {n':Nat} (hn:n≤n'):CW b n':=⟨h.in16,fun k c hc=>by obtain ⟨h1,h2,h3,h4,h5⟩:=h.cn k c hc; exact ⟨h1,h2,h3,h4,Nat.le_trans h5 hn⟩⟩
theorem CW.fl (h:CW b n) (s:Fl):CW (setFl b s) n:=⟨h.in16,h.cn⟩
theorem CW.toldB (h:CW b n):CW (Bk.toldB b) n:=⟨h.in16,h.cn⟩
theorem CW.rest (h:CW b n) (ht:fhold b.fl=b.told):Rest b:=⟨ht,fun k c hc _=>next_end (h.cn k c hc).2.2.2.1,fun k c hc h2=>by have:=(h.cn k c hc).1; omega⟩
theorem CW.fits (h:CW b n) {m:M} (hq:n+(enc m).length≤b.cf.queue):Fits b m:=fun k c hc _=>by have:=(h.cn k c hc).2.2.2.2; omega
theorem CW.mapc (h:CW b n) {n':Nat} {f:Cn→Cn} (hf:∀ c,c.st=1→c.out.length≤n→(f c).st=1∧(f c).fd=c.fd∧(f c).lx=c.lx∧(f c).p=c.p∧(f c).out.length≤n'):CW (Bk.mapc b f) n':=by
 refine ⟨fun k hk=>h.in16 k ?_,fun k c hc=>?_⟩
 ·unfold Bk.mapc at hk
  show (b.cs k).isSome=true
  replace hk:((b.cs k).map f).isSome=true:=hk
  rwa [Option.isSome_map] at hk
 ·replace hc:(b.cs k).map f=some c:=hc
  obtain ⟨d,hd,rfl⟩:=Option.map_eq_some_iff.1 hc;obtain ⟨h1,h2,h3,h4,h5⟩:=h.cn k d hd;obtain ⟨f1,f2,f3,f4,f5⟩:=hf d h1 h5;exact ⟨f1,f2.trans h2,f3.trans h3,f4.trans h4,f5⟩
theorem CW.tell (h:CW b n) {m:M} (hq:n+(enc m).length≤b.cf.queue):Bk.tell m b=Bk.mapc b (fun c=>if c.st=1 then plus m c else c)∧CW (Bk.tell m b) (n+(enc m).length):=by
 have e:=tell_fits h.in16 (h.fits hq);refine ⟨e,?_⟩;rw [e]
 refine h.mapc fun c h1 h2=>?_
 rw [if_pos h1];exact ⟨h1,rfl,rfl,rfl,by show (c.out ++ enc m).length≤_; rw [List.length_append]; omega⟩
theorem CW.holder (h:CW b n) (hq:n+11≤b.cf.queue):CW (Bk.holder b) (n+11)∧(Bk.holder b).fl=b.fl∧(Bk.holder b).told=fhold b.fl:=by
 by_cases ht:fhold b.fl=b.told
 ·rw [holder_same ht]
  exact ⟨h.mono (by omega),rfl,ht.symm⟩
 ·rw [holder_step ht]
  obtain ⟨h1,h2⟩:=h.toldB.tell (m:=mfloor (fhold b.fl)) (by rw [floor_len]; exact hq);rw [floor_len] at h2;have hs:Bk.holder (Bk.tell (mfloor (fhold b.fl)) (Bk.toldB b))=Bk.tell (mfloor (fhold b.fl)) (Bk.toldB b):=holder_same (by rw [h1]; rfl);rw [hs];exact ⟨h2,by rw [h1]; rfl,by rw [h1]; rfl⟩
theorem CW.settle (h:CW b n) (hq:n+11≤b.cf.queue):Bk.settle b=Bk.holder b∧CW (Bk.settle b) (n+11)∧(Bk.settle b).fl=b.fl∧(Bk.settle b).told=fhold b.fl:=by
 obtain ⟨h1,h2,h3⟩:=h.holder hq;have hr:Rest (Bk.holder b):=h1.rest (by rw [h2,h3])
 have e:Bk.settle b=Bk.holder b:=by
  unfold Bk.settle;rw [served_rest hr.seen,holder_same hr.told,reap_rest hr.gone]
 rw [e];exact ⟨rfl,h1,h2,h3⟩
theorem CW.set (h:CW b n) {k:Nat} (h1:1≤k) (h2:k≤16) {c:Cn} (hc:c.st=1∧c.fd=fd0∧c.lx=lx0∧c.p=b.L.length∧c.out.length≤n):CW (setc b k (some c)) n:=by
  refine ⟨fun j hj=>?_,fun j d hd=>?_⟩
  · by_cases e:j=k
    · omega
    · rw [setc_ne b k _ e] at hj; exact h.in16 j hj
  · by_cases e:j=k
    · subst e
      rw [setc_cs] at hd
      injection hd with hd
      subst hd;exact hc
    · rw [setc_ne b k _ e] at hd; exact h.cn j d hd
structure Sm (b' b:Br):Prop where
 cf:b'.cf=b.cf
 L:b'.L=b.L
 inp:b'.inp=b.inp
 ended:b'.ended=b.ended
 code:b'.code=b.code
 strikes:b'.strikes=b.strikes
theorem Sm.trans {a b c:Br} (h:Sm c b) (k:Sm b a):Sm c a:=⟨h.cf.trans k.cf,h.L.trans k.L,h.inp.trans k.inp,h.ended.trans k.ended,h.code.trans k.code,h.strikes.trans k.strikes⟩
theorem Lh.sm {b' b:Br} (h:Lh b' b):Sm b' b:=⟨h.cf,h.L,h.inp,h.ended,h.code,h.strikes⟩
theorem CW.cmd (h:CW b n) {k:Nat} {c:Cn} (hc:b.cs k=some c) {seq:Int} {s:Bs} {fl':Fl} (h0:0≤seq) (hs1:seq≤1099511627776) (hs:∀ x∈s,x≠10#8) (hn:s.length≤80) (hd:∀ b':Br,b'.fl=b.fl→doB b' k (parse s)=(setFl b' fl',true)) (hq:n+22≤b.cf.queue) :
  bytesE b (k:Nat)=0∧CW (bytesB b (k:Nat) (enc (keys seq (esc s)))) (n+22)∧(bytesB b (k:Nat) (enc (keys seq (esc s)))).fl=fl'∧(bytesB b (k:Nat) (enc (keys seq (esc s)))).told=fhold fl'∧Sm (bytesB b (k:Nat) (enc (keys seq (esc s)))) b∧∀ j,((bytesB b (k:Nat) (enc (keys seq (esc s)))).cs j).isSome=(b.cs j).isSome:=by
 obtain ⟨h1,h2⟩:=h.in16 k (by rw [hc]; rfl);obtain ⟨c1,c2,c3,c4,c5⟩:=h.cn k c hc;have hok:=keys_ok (seq:=seq) (t:=esc s) h0 hs1 (by unfold esc; simp; omega);obtain ⟨e1,e2⟩:=bytes_one (c:=c) (m:=keys seq (esc s)) h1 h2 hc c2 (by omega) hok;have hb1:CW (setc b k (some { c with idle:=0 })) n:=h.set h1 h2 ⟨c1,c2,c3,c4,c5⟩
 have hcm:takeB (setc b k (some { c with idle:=0 })) k (some (keys seq (esc s)))=Bk.holder (setFl (setc b k (some { c with idle:=0 })) fl'):=by
  rw [keys_cmd (c:={ c with idle:=0 }) (setc_cs _ _ _) c1 c3 hs hn];unfold cmd1;rw [hd (setc b k (some { c with idle:=0 })) rfl];rfl
 obtain ⟨g1,g2,g3⟩:=(hb1.fl fl').holder (by show n+11≤b.cf.queue; omega);have gq:(Bk.holder (setFl (setc b k (some { c with idle:=0 })) fl')).cf=b.cf:=(holder_lh _).cf;have hh:Bk.holder (Bk.holder (setFl (setc b k (some { c with idle:=0 })) fl'))=Bk.holder (setFl (setc b k (some { c with idle:=0 })) fl'):=holder_same (by rw [g2,g3]);obtain ⟨s1,s2,s3,s4⟩:=g1.settle (by rw [gq]; omega);rw [e1,hcm,hh];refine ⟨e2,s2,s3.trans g2,?_,?_,?_⟩
 ·rw [s4,g2]; rfl
 ·rw [s1,hh]
  exact (holder_lh _).sm.trans ⟨rfl,rfl,rfl,rfl,rfl,rfl⟩
 ·intro j
  rw [s1,hh,(holder_lh _).some j]
  show ((setc b k (some { c with idle:=0 })).cs j).isSome=_
  by_cases e:j=k
  ·subst e; rw [setc_cs,hc]; rfl
  ·rw [setc_ne b k _ e]
theorem CW.come (h:CW b n) {k:Nat} (h1:1≤k) (h2:k≤16) (hno:b.cs k=none) {m:M} (hm:m.ok=true) (hk1:m.k=1) (ha:m.a / 4=1) (hnm:isName m.t=true) (hL:comeAt b m=b.L.length) (hq:n+60+47≤b.cf.queue) :
    connectE b (k:Nat)=0∧bytesE (connectB b (k:Nat)) (k:Nat)=0∧CW (bytesB (connectB b (k:Nat)) (k:Nat) (enc m)) (n+60+47)∧(bytesB (connectB b (k:Nat)) (k:Nat) (enc m)).fl=fjoin b.fl k (comeRole b m) ∧
      (bytesB (connectB b (k:Nat)) (k:Nat) (enc m)).told=fhold (fjoin b.fl k (comeRole b m))∧Sm (bytesB (connectB b (k:Nat)) (k:Nat) (enc m)) b ∧
      ∀ j,((bytesB (connectB b (k:Nat)) (k:Nat) (enc m)).cs j).isSome=(decide (j=k) || (b.cs j).isSome):=by
  obtain ⟨a1,a2⟩:=connect_new h1 h2 hno;rw [a2]
  have ht:m.t.length≤20:=by have:=Ms.rt_n hm; rw [hk1] at this; exact this
  obtain ⟨e1,e2⟩:=bytes_one (b:=setc b k (some cnew)) (c:=cnew) (m:=m) h1 h2 (setc_cs _ _ _) rfl (by decide) hm;refine ⟨a1,e2,?_⟩
  have hI:In16 (setc b k (some cnew)):=fun j hj=>by
    by_cases e:j=k
    · omega
    · rw [setc_ne b k _ e] at hj; exact h.in16 j hj
  have hfit:∀ j c,(setc b k (some cnew)).cs j=some c→c.out.length+60≤b.cf.queue:=fun j c hc=>by
    by_cases e:j=k
    · subst e
      rw [setc_cs] at hc
      injection hc with hc
      subst hc
      show 0+60≤_
      omega
    · rw [setc_ne b k _ e] at hc
      have:=(h.cn j c hc).2.2.2.2;omega
  rw [e1,setc_two,show ({ cnew with idle:=0 }:Cn)=cnew from rfl];rw [hello_fits hI (setc_cs _ _ _) rfl h2 hm hk1 ha hnm hfit];have hjl:=joined_len (t:=m.t) h2 ht;obtain ⟨d1,d2,d3,d4,d5,d6,d7,d8⟩:=come_is (setc b k (some cnew)) k cnew m;have hro:comeRole (setc b k (some cnew)) m=comeRole b m:=rfl;have hat:comeAt (setc b k (some cnew)) m=b.L.length:=hL;rw [hro]
  obtain ⟨b2,hb2⟩:∃ b2,setFl (setc (Bk.mapc (setc b k (some cnew)) (hear (joined k m.t))) k (some (Bk.come (setc b k (some cnew)) k cnew m))) (fjoin (setc b k (some cnew)).fl k (comeRole b m))=b2:=⟨_,rfl⟩
  rw [hb2]
  have hw:CW b2 (n+60):=by
    rw [← hb2];refine CW.fl ?_ _;refine ⟨fun j hj=>?_,fun j d hd=>?_⟩
    · by_cases e:j=k
      · omega
      · rw [setc_ne _ k _ e] at hj
        replace hj:(((setc b k (some cnew)).cs j).map (hear (joined k m.t))).isSome=true:=hj;rw [Option.isSome_map,setc_ne b k _ e] at hj;exact h.in16 j hj
    · by_cases e:j=k
      · subst e
        rw [setc_cs] at hd
        injection hd with hd
        subst hd;refine ⟨d2,d4,d5,d7.trans hat,?_⟩;rw [d1];have hwl:=welcome_len j (comeAt (setc b j (some cnew)) m) (comeRole (setc b j (some cnew)) m);unfold greet
        show (([]:Bs) ++ _).length≤_
        rw [List.nil_append,List.length_append,List.length_append,floor_len]
        have:(if (setc b j (some cnew)).ended=true then enc (mexit (setc b j (some cnew)).code) else []).length≤11:=by
          split
          · rw [exit_len]; omega
          · exact Nat.zero_le _
        omega
      · rw [setc_ne _ k _ e] at hd
        replace hd:((setc b k (some cnew)).cs j).map (hear (joined k m.t))=some d:=hd;rw [setc_ne b k _ e] at hd;obtain ⟨d0,hd0,rfl⟩:=Option.map_eq_some_iff.1 hd;obtain ⟨f1,f2,f3,f4,f5⟩:=h.cn j d0 hd0;unfold hear;rw [if_pos f1];exact ⟨f1,f2,f3,f4,by show (d0.out ++ enc _).length≤_; rw [List.length_append]; omega⟩
  have hcf:b2.cf=b.cf:=by rw [← hb2]; rfl
  have hfl:b2.fl=fjoin b.fl k (comeRole b m):=by rw [← hb2]; rfl
  obtain ⟨g1,g2,g3⟩:=hw.holder (by rw [hcf]; omega);have gq:(Bk.holder b2).cf=b.cf:=(holder_lh b2).cf.trans hcf;obtain ⟨s1,s2,s3,s4⟩:=g1.settle (by rw [gq]; omega);have hh:Bk.holder (Bk.holder b2)=Bk.holder b2:=holder_same (by rw [g2,g3]);refine ⟨s2.mono (by omega),(s3.trans g2).trans hfl,by rw [s4,g2,hfl],?_,?_⟩
  · rw [s1,hh]
    exact (holder_lh _).sm.trans (by rw [← hb2]; exact ⟨rfl,rfl,rfl,rfl,rfl,rfl⟩)
  · intro j
    rw [s1,hh,(holder_lh _).some j,← hb2]
    show ((setc (Bk.mapc (setc b k (some cnew)) (hear (joined k m.t))) k (some (Bk.come (setc b k (some cnew)) k cnew m))).cs j).isSome=_
    by_cases e:j=k
    · subst e; rw [setc_cs]; simp
    · rw [setc_ne _ k _ e]
      show (((setc b k (some cnew)).cs j).map (hear (joined k m.t))).isSome=_
      rw [Option.isSome_map,setc_ne b k _ e];simp [e]
end
end Bk
end
section
namespace Bk
open Fr Lx
def tk (c:Cn):Cn:={ c with idle:=c.idle+1 }
def Stays (b:Br) (c:Cn):Prop:=b.cf.idle=0∨c.idle+1<b.cf.idle
theorem tickC_stays {b:Br} {k:Nat} {c:Cn} (hc:b.cs k=some c) (h:Stays b c):tickC b k=setc b k (some (tk c)):=by
 unfold tickC;rw [hc]
 show (if b.cf.idle≠0∧b.cf.idle≤c.idle+1 then _ else _)=_
 rw [if_neg (by unfold Stays at h; omega)];rfl
theorem tickC_none {b:Br} {k:Nat} (hc:b.cs k=none):tickC b k=b:=by unfold tickC; rw [hc]
theorem ticks_map:∀ (l:List Nat) (b:Br),l.Nodup→(∀ k∈l,∀ c,b.cs k=some c→Stays b c)→l.foldl tickC b={ b with cs:=fun j=>if j∈l then (b.cs j).map tk else b.cs j }
  | [],b,_,_=>by simp
  | k :: l,b,hn,hs=>by
    obtain ⟨hk,hn⟩:=List.nodup_cons.1 hn
    show l.foldl tickC (tickC b k)=_
    rcases hc:b.cs k with _ | c
    · rw [tickC_none hc,ticks_map l b hn fun j hj=>hs j (List.mem_cons_of_mem _ hj)]
      congr 1
      funext j
      by_cases e:j=k
      · subst e; rw [if_neg hk,if_pos List.mem_cons_self,hc]; rfl
      · by_cases e2:j∈l
        · rw [if_pos e2,if_pos (List.mem_cons_of_mem _ e2)]
        · rw [if_neg e2,if_neg (fun h=>(List.mem_cons.1 h).elim e e2)]
    · rw [tickC_stays hc (hs k List.mem_cons_self c hc),ticks_map l _ hn fun j hj d hd=>by
        rw [setc_ne b k _ (fun e:j=k=>hk (by rw [← e]; exact hj))] at hd
        exact hs j (List.mem_cons_of_mem _ hj) d hd]
      show ({ b with cs:=_ }:Br)=_
      congr 1
      funext j
      by_cases e:j=k
      · subst e; rw [if_neg hk,if_pos List.mem_cons_self,hc,setc_cs]; rfl
      · rw [setc_ne b k _ e]
        by_cases e2:j∈l
        · rw [if_pos e2,if_pos (List.mem_cons_of_mem _ e2)]
        · rw [if_neg e2,if_neg (fun h=>(List.mem_cons.1 h).elim e e2)]
theorem ticks_all {b:Br} (hI:In16 b) (hs:∀ k c,b.cs k=some c→Stays b c):ids.foldl tickC b=Bk.mapc b tk:=by
 rw [ticks_map ids b ids_nodup fun k _=>hs k];unfold Bk.mapc
 congr 1
 funext j
 by_cases e:j∈ids
 ·rw [if_pos e]
 ·rw [if_neg e,hI.no (fun h=>e (mem_ids.2 h))]; rfl
section
variable {b:Br} {n:Nat}
theorem CW.tick (h:CW b n) (hs:∀ k c,b.cs k=some c→Stays b c) (hq:n+11≤b.cf.queue):CW (tickB b) (n+11)∧(tickB b).fl=ftick b.fl∧(tickB b).told=fhold (ftick b.fl)∧Sm (tickB b) b∧(∀ j,((tickB b).cs j).isSome=(b.cs j).isSome) ∧
  ∀ k d,(tickB b).cs k=some d→∃ c,b.cs k=some c∧d.idle=c.idle+1:=by
 have e:tickB b=Bk.settle (Bk.mapc (setFl b (ftick b.fl)) tk):=by
  unfold tickB;exact congrArg _ (ticks_all (b:=setFl b (ftick b.fl)) h.in16 hs)
 have hw:CW (Bk.mapc (setFl b (ftick b.fl)) tk) n:=(h.fl (ftick b.fl)).mapc fun c h1 h2=>⟨h1,rfl,rfl,rfl,h2⟩
 obtain ⟨s1,s2,s3,s4⟩:=hw.settle (show n+11≤b.cf.queue from hq);have hl:=holder_lh (Bk.mapc (setFl b (ftick b.fl)) tk);rw [e];refine ⟨s2,s3,s4,?_,fun j=>?_,fun k d hd=>?_⟩
 ·rw [s1]
  exact hl.sm.trans ⟨rfl,rfl,rfl,rfl,rfl,rfl⟩
 ·rw [s1,hl.some j]
  show ((b.cs j).map tk).isSome=_
  rw [Option.isSome_map]
 ·rw [s1] at hd
  obtain ⟨c1,h1,h2⟩:=hl.cn k d hd;replace h1:(b.cs k).map tk=some c1:=h1;obtain ⟨c,hc,rfl⟩:=Option.map_eq_some_iff.1 h1;exact ⟨c,hc,h2.idle⟩
theorem CW.flush (h:CW b n) (ht:fhold b.fl=b.told) {k:Nat} {c:Cn} (hc:b.cs k=some c) {w:Int} (hw:(c.out.length:Int)≤w):writeT b (k:Nat) w=c.out∧writeE b (k:Nat)=0∧writeB b (k:Nat) w=setc b k (some { c with out:=[] })∧CW (setc b k (some { c with out:=[] })) n:=by
 obtain ⟨h1,h2⟩:=h.in16 k (by rw [hc]; rfl);obtain ⟨c1,c2,c3,c4,c5⟩:=h.cn k c hc;obtain ⟨e1,e2,e3⟩:=write_all h1 h2 hc hw;have hb:CW (setc b k (some { c with out:=[] })) n:=h.set h1 h2 ⟨c1,c2,c3,c4,Nat.zero_le _⟩;exact ⟨e1,e2,by rw [e3,settle_rest (hb.rest ht)],hb⟩
theorem CW.took {k:Nat} {c:Cn} {m:M} (h:CW b n) (hc:b.cs k=some c) (hm:m.ok=true) {b':Br} (ht:takeB (setc b k (some { c with idle:=0 })) k (some m)=b') (hr:Rest b'):bytesB b (k:Nat) (enc m)=b'∧bytesE b (k:Nat)=0:=by
 obtain ⟨h1,h2⟩:=h.in16 k (by rw [hc]; rfl);obtain ⟨c1,c2,c3,c4,c5⟩:=h.cn k c hc;obtain ⟨e1,e2⟩:=bytes_one h1 h2 hc c2 (by omega) hm;refine ⟨?_,e2⟩;rw [e1,ht,holder_same hr.told,settle_rest hr]
def deniedM (s:Bs):M:=⟨11,0,0,s⟩
theorem CW.denied (h:CW b n) (hto:fhold b.fl=b.told) {k:Nat} {c:Cn} (hc:b.cs k=some c) {seq:Int} {s:Bs} (h0:0≤seq) (hs1:seq≤1099511627776) (hs:∀ x∈s,x≠10#8) (hn:s.length≤80) (hd:∀ b':Br,b'.fl=b.fl→doB b' k (parse s)=(b',false)) (hq:n+(enc (deniedM s)).length≤b.cf.queue) :
  bytesB b (k:Nat) (enc (keys seq (esc s)))=setc b k (some (plus (deniedM s) { c with idle:=0 }))∧bytesE b (k:Nat)=0∧CW (setc b k (some (plus (deniedM s) { c with idle:=0 }))) (n+(enc (deniedM s)).length):=by
 obtain ⟨h1,h2⟩:=h.in16 k (by rw [hc]; rfl);obtain ⟨c1,c2,c3,c4,c5⟩:=h.cn k c hc;have hok:=keys_ok (seq:=seq) (t:=esc s) h0 hs1 (by unfold esc; simp; omega)
 have hb:CW (setc b k (some (plus (deniedM s) { c with idle:=0 }))) (n+(enc (deniedM s)).length):=
  (h.mono (Nat.le_add_right _ _)).set h1 h2 ⟨c1,c2,c3,c4,by show (c.out ++ _).length≤_; rw [List.length_append]; omega⟩
 have ht:takeB (setc b k (some { c with idle:=0 })) k (some (keys seq (esc s)))=setc b k (some (plus (deniedM s) { c with idle:=0 })):=by
  rw [keys_cmd (c:={ c with idle:=0 }) (setc_cs _ _ _) c1 c3 hs hn];unfold cmd1;rw [hd (setc b k (some { c with idle:=0 })) rfl]
  show Bk.holder (Bk.send (deniedM s) (setc b k (some { c with idle:=0 })) k)=_
  rw [send_fits (setc_cs _ _ _) (by show c.st≠2; omega) (by show c.out.length+_≤b.cf.queue; omega),setc_two];exact holder_same hto
 obtain ⟨e1,e2⟩:=h.took hc hok ht (hb.rest hto);exact ⟨e1,e2,hb⟩
theorem take_plain {k:Nat} {c:Cn} {seq:Int} {t:Bs} (hc:b.cs k=some c) (hst:c.st=1) (hl:c.lx=lx0) (ht:∀ x∈t,x≠29#8):takeB b k (some (keys seq t))=offered b k seq t:=by
 rw [take_keys hc hst,keysB_eq hc];obtain ⟨h1,h2,h3⟩:=lx_plain t ht
 show cmds (offered (setc b k (some { c with lx:=lrun c.lx t })) k seq (lkeys c.lx t)) k (lcmds c.lx t)=_
 rw [hl,h1,h2,h3,show ({ c with lx:=lx0 }:Cn)=c by rw [← hl],setc_as hc];rfl
theorem CW.typed (h:CW b n) (hto:fhold b.fl=b.told) {k:Nat} {c:Cn} (hc:b.cs k=some c) {seq:Int} {t:Bs} (h0:0≤seq) (hs1:seq≤1099511627776) (ht:∀ x∈t,x≠29#8) (hn:t.length≤2042) (hne:t≠[]) (hw:whyB b k t.length=0) :
  bytesB b (k:Nat) (enc (keys seq t))={ setc b k (some { c with idle:=0 }) with inp:=b.inp ++ t,tot:=b.tot+t.length }∧bytesE b (k:Nat)=0∧CW { setc b k (some { c with idle:=0 }) with inp:=b.inp ++ t,tot:=b.tot+t.length } n:=by
 obtain ⟨h1,h2⟩:=h.in16 k (by rw [hc]; rfl);obtain ⟨c1,c2,c3,c4,c5⟩:=h.cn k c hc
 have hb:CW { setc b k (some { c with idle:=0 }) with inp:=b.inp ++ t,tot:=b.tot+t.length } n:=by
  have:=h.set h1 h2 (c:={ c with idle:=0 }) ⟨c1,c2,c3,c4,c5⟩;exact ⟨this.in16,this.cn⟩
 have hk:takeB (setc b k (some { c with idle:=0 })) k (some (keys seq t))={ setc b k (some { c with idle:=0 }) with inp:=b.inp ++ t,tot:=b.tot+t.length }:=by
  rw [take_plain (c:={ c with idle:=0 }) (setc_cs _ _ _) c1 c3 ht];unfold offered;rw [if_neg hne,if_pos (show whyB (setc b k (some { c with idle:=0 })) k t.length=0 from hw)];rfl
 obtain ⟨e1,e2⟩:=h.took hc (keys_ok h0 hs1 hn) hk (hb.rest hto);exact ⟨e1,e2,hb⟩
def rejectM (seq:Int) (why:Nat):M:=⟨8,seq,why,[]⟩
theorem reject_len (seq:Int) (why:Nat):(enc (rejectM seq why)).length=17:=by rw [enc_len5]; rfl
theorem CW.rejected (h:CW b n) (hto:fhold b.fl=b.told) {k:Nat} {c:Cn} (hc:b.cs k=some c) {seq:Int} {t:Bs} (h0:0≤seq) (hs1:seq≤1099511627776) (ht:∀ x∈t,x≠29#8) (hn:t.length≤2042) (hne:t≠[]) (hw:whyB b k t.length≠0) (hq:n+17≤b.cf.queue) :
  bytesB b (k:Nat) (enc (keys seq t))=setc b k (some (plus (rejectM seq (whyB b k t.length)) { c with idle:=0 }))∧bytesE b (k:Nat)=0∧CW (setc b k (some (plus (rejectM seq (whyB b k t.length)) { c with idle:=0 }))) (n+17):=by
 obtain ⟨h1,h2⟩:=h.in16 k (by rw [hc]; rfl);obtain ⟨c1,c2,c3,c4,c5⟩:=h.cn k c hc
 have hb:CW (setc b k (some (plus (rejectM seq (whyB b k t.length)) { c with idle:=0 }))) (n+17):=
  (h.mono (Nat.le_add_right _ _)).set h1 h2 ⟨c1,c2,c3,c4,by show (c.out ++ enc _).length≤_; rw [List.length_append,reject_len]; omega⟩
 have hk:takeB (setc b k (some { c with idle:=0 })) k (some (keys seq t))=setc b k (some (plus (rejectM seq (whyB b k t.length)) { c with idle:=0 })):=by
  rw [take_plain (c:={ c with idle:=0 }) (setc_cs _ _ _) c1 c3 ht];have hwy:whyB (setc b k (some { c with idle:=0 })) k t.length=whyB b k t.length:=rfl;unfold offered;rw [if_neg hne,hwy,if_neg hw]
  show Bk.send (rejectM seq (whyB b k t.length)) _ k=_
  rw [send_fits (setc_cs _ _ _) (by show c.st≠2; omega) (by show c.out.length+(enc _).length≤b.cf.queue; rw [reject_len]; omega),setc_two]
 obtain ⟨e1,e2⟩:=h.took hc (keys_ok h0 hs1 hn) hk (hb.rest hto);exact ⟨e1,e2,hb⟩
end
def dataM (p:Nat) (t:Bs):M:=⟨6,p,0,t⟩
theorem data_len (p:Nat) (t:Bs):(enc (dataM p t)).length=t.length+11:=by rw [enc_len5]; show 6 * 1+t.length+5=_; omega
def sv (L:Bs) (c:Cn):Cn:=if c.p=L.length then c else { c with p:=L.length,out:=c.out ++ enc (dataM c.p (L.drop c.p)) }
def SvOk (b:Br) (c:Cn):Prop:=c.p≤b.L.length∧b.L.length - b.cf.log≤c.p∧b.L.length - c.p≤b.cf.data∧b.L.length - c.p≤2042∧c.out.length+(b.L.length - c.p)+211≤b.cf.queue
theorem sv_next {b:Br} {c:Cn} (h:SvOk b c) (hp:c.p≠b.L.length):nextB b c=some (dataM c.p (b.L.drop c.p),b.L.length,c.s):=by
 obtain ⟨h1,h2,h3,h4,h5⟩:=h
 have hc:countOf b.L.length c.p ((b.cf.queue:Int) - c.out.length - 200) b.cf.data=b.L.length - c.p:=by
  unfold countOf;omega
 unfold nextB nextOf;rw [if_neg (by omega),hc,if_neg (by omega),show c.p+(b.L.length - c.p)=b.L.length by omega];rw [List.take_of_length_le (by rw [List.length_drop]; omega)];rfl
theorem settle_sv {b:Br} (hI:In16 b) (ht:fhold b.fl=b.told) (hc:∀ k c,b.cs k=some c→c.st=1∧SvOk b c):Bk.settle b=Bk.mapc b (sv b.L):=by
  have hg:goes serve b ids=Bk.mapc b (sv b.L):=by
    rw [goes_mapc serve (sv b.L) b hI fun cs' k c _ _ hk hst hk'=>?_]
    · unfold Bk.mapc
      congr 1
      funext k
      rcases hk:b.cs k with _ | c
      · rfl
      · show some (if c.st=1 then sv b.L c else c)=_
        rw [if_pos (hc k c hk).1];rfl
    · by_cases hp:c.p=b.L.length
      · rw [serve_none (b:={ b with cs:=cs' }) hk' (next_end hp)]
        unfold sv;rw [if_pos hp,setc_as (b:={ b with cs:=cs' }) hk']
      · have h:=(hc k c hk).2
        have hn:nextB { b with cs:=cs' } c=some (dataM c.p (b.L.drop c.p),b.L.length,c.s):=sv_next (b:={ b with cs:=cs' }) h hp
        have hsv:served { b with cs:=cs' } k c (dataM c.p (b.L.drop c.p)) b.L.length c.s=setc { b with cs:=cs' } k (some (sv b.L c)):=by
          unfold served putc sv;obtain ⟨h1,h2,h3,h4,h5⟩:=h;rw [if_pos (by rw [data_len,List.length_drop]; show c.out.length+_≤b.cf.queue; omega),if_neg hp]
        show serveN (b.L.length+1+1) { b with cs:=cs' } k=_
        rw [serveN_succ _ _ k hk',hn]
        show (if (6:Int)=12 then _ else serveN (b.L.length+1) (served { b with cs:=cs' } k c (dataM c.p (b.L.drop c.p)) b.L.length c.s) k)=_
        rw [if_neg (by decide),hsv,serveN_succ _ _ k (setc_cs _ _ _),next_end (b:=setc { b with cs:=cs' } k (some (sv b.L c))) (c:=sv b.L c) (by
          show (sv b.L c).p=b.L.length
          unfold sv
          rw [if_neg hp])]
  have hend:∀ k c,(Bk.mapc b (sv b.L)).cs k=some c→c.st=1∧c.p=b.L.length:=fun k c hk=>by
    replace hk:(b.cs k).map (sv b.L)=some c:=hk;obtain ⟨d,hd,rfl⟩:=Option.map_eq_some_iff.1 hk;have:=(hc k d hd).1;unfold sv
    split
    · next e=>exact ⟨this,e⟩
    · exact ⟨this,rfl⟩
  unfold Bk.settle;rw [holder_same ht,hg,holder_same (by exact ht),reap_rest fun k c hk h2=>by have:=(hend k c hk).1; omega]
end Bk
end
section
namespace Bk
open Fr Lx
structure FlOwn (s:Fl) (ow i:Nat):Prop where
 rising:Rising s.roles
 own:∀ j,rget s.roles j=some 2→j=ow
 is:ow≠0→rget s.roles ow=some 2
 lo:∀ j v,rget s.roles j=some v→1≤j∧j≤i
theorem fout_roles (s:Fl) (id:Int):(fout s id).roles=s.roles:=by
 unfold fout outAt
 split <;> rfl
structure RolesAt (b:Br) (i ow:Nat):Prop where
 cw:CW b (i * 130)
 ev:EvOk b 0 (i * 2200) 0
 cf:b.cf=cfd
 ended:b.ended=false
 told:fhold b.fl=b.told
 few:∀ j,(b.cs j).isSome=true→j≤i
 own:FlOwn b.fl ow i
theorem cfd_ok:EvOk (bnew cfd) 0 0 0:=by
 refine ⟨⟨by decide,by decide,by decide,by decide,by decide,by decide,(fok_new 100).mono (by decide),fun p hp=>(by cases hp),Nat.zero_le _,by decide,by decide,fun k c hc=>(by cases hc)⟩,fun k c hc=>(by cases hc),Nat.zero_le _,Nat.zero_le _,Sp.Ok.start (by decide) (by decide)⟩
theorem roles_begin:RolesAt (bnew cfd) 0 0:=
 ⟨⟨fun k hk=>(by cases hk),fun k c hc=>(by cases hc)⟩,cfd_ok,rfl,rfl,rfl,fun j hj=>(by cases hj),⟨List.Pairwise.nil,fun j hj=>(by cases hj),fun h=>absurd rfl h,fun j v hv=>(by cases hv)⟩⟩
end Bk
end
section
namespace Bk
open Fr Lx
theorem fask_floor {k:Nat} {s:Fl} (ha:askE s k=0) (b':Br) (hb:b'.fl=s):doB b' k (parse wFloor)=(setFl b' (fask s k),true):=by
 rw [parse_floor];unfold doB
 show (if isOwners 1=true∧_ then _ else if (1:Int)=1 then ({ b' with fl:=fask b'.fl k },decide (askE b'.fl k=0)) else _)=_
 rw [if_neg (by rw [show isOwners 1=false by decide]; simp),if_pos rfl,hb,ha];rfl
def flD (w:Bool):Fl:=⟨100,100,[(1,2),(2,if w then 0 else 1)],[1]⟩
end Bk
end
section
namespace Bk
open Fr Lx
section
variable {b:Br} {n:Nat}
theorem setc_swap (b:Br) (k:Nat) (f:Cn→Cn) (x y:Option Cn):setc (mapc (setc b k x) f) k y=setc (mapc b f) k y:=by
 unfold setc mapc
 congr 1
 funext j
 dsimp only
 by_cases e:j=k
 ·rw [if_pos e,if_pos e]
 ·rw [if_neg e,if_neg e,if_neg e]
theorem CW.comeX (h:CW b n) {k:Nat} (h1:1≤k) (h2:k≤16) (hno:b.cs k=none) {m:M} (hm:m.ok=true) (hk1:m.k=1) (ha:m.a / 4=1) (hnm:isName m.t=true) (hL:comeAt b m=b.L.length) (hq:n+60+47≤b.cf.queue) (hto:fhold (fjoin b.fl k (comeRole b m))=b.told) :
    bytesB (connectB b (k:Nat)) (k:Nat) (enc m)=setFl (setc (Bk.mapc b (hear (joined k m.t))) k (some (Bk.come (setc b k (some cnew)) k cnew m))) (fjoin b.fl k (comeRole b m)):=by
  obtain ⟨a1,a2⟩:=connect_new h1 h2 hno;rw [a2]
  have ht:m.t.length≤20:=by have:=Ms.rt_n hm; rw [hk1] at this; exact this
  obtain ⟨e1,e2⟩:=bytes_one (b:=setc b k (some cnew)) (c:=cnew) (m:=m) h1 h2 (setc_cs _ _ _) rfl (by decide) hm
  have hI:In16 (setc b k (some cnew)):=fun j hj=>by
    by_cases e:j=k
    · omega
    · rw [setc_ne b k _ e] at hj; exact h.in16 j hj
  have hfit:∀ j c,(setc b k (some cnew)).cs j=some c→c.out.length+60≤b.cf.queue:=fun j c hc=>by
    by_cases e:j=k
    · subst e
      rw [setc_cs] at hc
      injection hc with hc
      subst hc
      show 0+60≤_
      omega
    · rw [setc_ne b k _ e] at hc
      have:=(h.cn j c hc).2.2.2.2;omega
  rw [e1,setc_two,show ({ cnew with idle:=0 }:Cn)=cnew from rfl];rw [hello_fits hI (setc_cs _ _ _) rfl h2 hm hk1 ha hnm hfit,setc_swap];have hjl:=joined_len (t:=m.t) h2 ht;obtain ⟨d1,d2,d3,d4,d5,d6,d7,d8⟩:=come_is (setc b k (some cnew)) k cnew m;have hat:comeAt (setc b k (some cnew)) m=b.L.length:=hL
  show Bk.settle (Bk.holder (setFl (setc (Bk.mapc b (hear (joined k m.t))) k (some (Bk.come (setc b k (some cnew)) k cnew m))) (fjoin b.fl k (comeRole b m))))=_
  have hw:CW (setFl (setc (Bk.mapc b (hear (joined k m.t))) k (some (Bk.come (setc b k (some cnew)) k cnew m))) (fjoin b.fl k (comeRole b m))) (n+60):=by
    refine CW.fl ?_ _;refine ⟨fun j hj=>?_,fun j d hd=>?_⟩
    · by_cases e:j=k
      · omega
      · rw [setc_ne _ k _ e] at hj
        replace hj:((b.cs j).map (hear (joined k m.t))).isSome=true:=hj;rw [Option.isSome_map] at hj;exact h.in16 j hj
    · by_cases e:j=k
      · subst e
        rw [setc_cs] at hd
        injection hd with hd
        subst hd;refine ⟨d2,d4,d5,d7.trans hat,?_⟩;rw [d1];have hwl:=welcome_len j (comeAt (setc b j (some cnew)) m) (comeRole (setc b j (some cnew)) m);unfold greet
        show (([]:Bs) ++ _).length≤_
        rw [List.nil_append,List.length_append,List.length_append,floor_len]
        have:(if (setc b j (some cnew)).ended=true then enc (mexit (setc b j (some cnew)).code) else []).length≤11:=by
          split
          · rw [exit_len]; omega
          · exact Nat.zero_le _
        omega
      · rw [setc_ne _ k _ e] at hd
        replace hd:(b.cs j).map (hear (joined k m.t))=some d:=hd;obtain ⟨d0,hd0,rfl⟩:=Option.map_eq_some_iff.1 hd;obtain ⟨f1,f2,f3,f4,f5⟩:=h.cn j d0 hd0;unfold hear;rw [if_pos f1];exact ⟨f1,f2,f3,f4,by show (d0.out ++ enc _).length≤_; rw [List.length_append]; omega⟩
  have hr:=hw.rest hto;rw [holder_same hr.told,settle_rest hr]
theorem CW.cmdX (h:CW b n) {k:Nat} {c:Cn} (hc:b.cs k=some c) {seq:Int} {s:Bs} {fl':Fl} (h0:0≤seq) (hs1:seq≤1099511627776) (hs:∀ x∈s,x≠10#8) (hn:s.length≤80) (hd:∀ b':Br,b'.fl=b.fl→doB b' k (parse s)=(setFl b' fl',true)) (hq:n+22≤b.cf.queue) :
  (fhold fl'=b.told→bytesB b (k:Nat) (enc (keys seq (esc s)))=setFl (setc b k (some { c with idle:=0 })) fl') ∧
  (fhold fl'≠b.told→bytesB b (k:Nat) (enc (keys seq (esc s)))={ setFl (Bk.mapc (setc b k (some { c with idle:=0 })) (hear (mfloor (fhold fl')))) fl' with told:=fhold fl' }):=by
 obtain ⟨h1,h2⟩:=h.in16 k (by rw [hc]; rfl);obtain ⟨c1,c2,c3,c4,c5⟩:=h.cn k c hc;have hok:=keys_ok (seq:=seq) (t:=esc s) h0 hs1 (by unfold esc; simp; omega);obtain ⟨e1,e2⟩:=bytes_one (c:=c) (m:=keys seq (esc s)) h1 h2 hc c2 (by omega) hok;have hb1:CW (setc b k (some { c with idle:=0 })) n:=h.set h1 h2 ⟨c1,c2,c3,c4,c5⟩
 have hcm:takeB (setc b k (some { c with idle:=0 })) k (some (keys seq (esc s)))=Bk.holder (setFl (setc b k (some { c with idle:=0 })) fl'):=by
  rw [keys_cmd (c:={ c with idle:=0 }) (setc_cs _ _ _) c1 c3 hs hn];unfold cmd1;rw [hd (setc b k (some { c with idle:=0 })) rfl];rfl
 obtain ⟨g1,g2,g3⟩:=(hb1.fl fl').holder (by show n+11≤b.cf.queue; omega);have hh:Bk.holder (Bk.holder (setFl (setc b k (some { c with idle:=0 })) fl'))=Bk.holder (setFl (setc b k (some { c with idle:=0 })) fl'):=holder_same (by rw [g2,g3]);have hst:Bk.settle (Bk.holder (setFl (setc b k (some { c with idle:=0 })) fl'))=Bk.holder (setFl (setc b k (some { c with idle:=0 })) fl'):=settle_rest (g1.rest (by rw [g2,g3]));rw [e1,hcm,hh,hst];refine ⟨fun e=>holder_same e,fun e=>?_⟩;rw [holder_step (by exact e)];have hw:CW { setFl (setc b k (some { c with idle:=0 })) fl' with told:=fhold fl' } n:=⟨hb1.in16,hb1.cn⟩;obtain ⟨t1,_⟩:=hw.tell (m:=mfloor (fhold fl')) (by rw [floor_len]; show n+11≤b.cf.queue; omega)
 show Bk.holder (Bk.tell (mfloor (fhold fl')) { setFl (setc b k (some { c with idle:=0 })) fl' with told:=fhold fl' })=_
 rw [t1,holder_same (by rfl)];rfl
theorem CW.outX (h:CW b n) (ht:fhold b.fl=b.told) (he:b.ended=false) {t:Bs} (hl:t.length≤b.cf.log) (hd:t.length≤b.cf.data) (h20:t.length≤2042) (hq:n+t.length+211≤b.cf.queue) :
  outputB b t=Bk.mapc { b with L:=b.L ++ t,sp:=Sp.nxts b.sp t } (sv (b.L ++ t))∧outputE b=0∧CW (Bk.mapc { b with L:=b.L ++ t,sp:=Sp.nxts b.sp t } (sv (b.L ++ t))) (n+t.length+11):=by
 have hw:∀ k c,({ b with L:=b.L ++ t,sp:=Sp.nxts b.sp t }:Br).cs k=some c→c.st=1∧SvOk { b with L:=b.L ++ t,sp:=Sp.nxts b.sp t } c:=fun k c hc=>by
  obtain ⟨c1,c2,c3,c4,c5⟩:=h.cn k c hc;refine ⟨c1,?_,?_,?_,?_,?_⟩
  ·show c.p≤(b.L ++ t).length
   rw [List.length_append]; omega
  ·show (b.L ++ t).length - b.cf.log≤c.p
   rw [List.length_append]; omega
  ·show (b.L ++ t).length - c.p≤b.cf.data
   rw [List.length_append]; omega
  ·show (b.L ++ t).length - c.p≤2042
   rw [List.length_append]; omega
  ·show c.out.length+((b.L ++ t).length - c.p)+211≤b.cf.queue
   rw [List.length_append]; omega
 refine ⟨?_,?_,?_⟩
 ·unfold outputB
  rw [if_neg (by rw [he]; decide)];exact settle_sv (b:={ b with L:=b.L ++ t,sp:=Sp.nxts b.sp t }) h.in16 ht hw
 ·unfold outputE
  rw [he];rfl
 ·refine ⟨fun k hk=>?_,fun k c hc=>?_⟩
  ·replace hk:((b.cs k).map (sv (b.L ++ t))).isSome=true:=hk
   rw [Option.isSome_map] at hk;exact h.in16 k hk
  ·replace hc:(b.cs k).map (sv (b.L ++ t))=some c:=hc
   obtain ⟨d,hd,rfl⟩:=Option.map_eq_some_iff.1 hc;obtain ⟨c1,c2,c3,c4,c5⟩:=h.cn k d hd
   show (sv (b.L ++ t) d).st=1∧(sv (b.L ++ t) d).fd=fd0∧(sv (b.L ++ t) d).lx=lx0∧(sv (b.L ++ t) d).p=(b.L ++ t).length∧(sv (b.L ++ t) d).out.length≤n+t.length+11
   unfold sv
   split
   ·next e=>exact ⟨c1,c2,c3,e,by omega⟩
   ·refine ⟨c1,c2,c3,rfl,?_⟩
    show (d.out ++ enc (dataM d.p ((b.L ++ t).drop d.p))).length≤_
    rw [List.length_append,data_len,List.length_drop,List.length_append];omega
end
end Bk
end
end Go.Proofs.YtalichkdeekdcaaGreatDoor
