/- PBr PBk PBi PBc PBd PKp PKd PKf PKg PKh PBe PQb PQa PVc PQc PQt PVp PQu PQy -/
import Derived.Test.YtdpagmcickkbmaaGreatDoorZd01
import Derived.Test.YtdpagmcickkbmaaGreatDoorZd02
import Derived.Test.YtdpagmcickkbmaaGreatDoorZd05
namespace Go.Proofs.YtdpagmcickkbmaaGreatDoor
set_option maxRecDepth 100000
section
namespace Bk
open Fr Lx
structure M where
 k:Int
 a:Int
 b:Int
 t:Bs
deriving DecidableEq
def enc (m:M):Bs:=fr (BitVec.ofInt 8 m.k) (Ms.body m.k m.a m.b m.t)
def M.ok (m:M):Bool:=Ms.rt m.k m.a m.b m.t.length
def mof (f:BitVec 8×Bs):Option M:=if Ms.ofOk f.1.toNat f.2 then some ⟨f.1.toNat,Ms.ofA f.1.toNat f.2,Ms.ofB f.1.toNat f.2,Ms.ofT f.1.toNat f.2⟩ else none
noncomputable def tfs (l:Bs):List (BitVec 8×Bs):=(tells_all l).choose
noncomputable def trest (l:Bs):Bs:=(tells_all l).choose_spec.choose
theorem tells_tfs (l:Bs):Tells l (tfs l) (trest l):=(tells_all l).choose_spec.choose_spec
theorem tells_eq {l r:Bs} {fs:List (BitVec 8×Bs)} (h:Tells l fs r):fs=tfs l∧r=trest l:=Tells.one h (tells_tfs l)
structure Fs where
 l:Bs
 e:Nat
noncomputable def fpush (s:Fs) (t:Bs):Fs:=if s.e=0 then ⟨keep (trest (s.l ++ t)),broke (trest (s.l ++ t))⟩ else s
noncomputable def fgot (s:Fs) (t:Bs):List (BitVec 8×Bs):=if s.e=0 then tfs (s.l ++ t) else []
structure Cn where
 st:Nat
 idle:Nat
 fd:Fs
 lx:Lx.Lx
 out:Bs
 name:Bs
 p:Nat
 s:Nat
structure Cf where
 log:Nat
 data:Nat
 queue:Nat
 input:Nat
 strikes:Nat
 lease:Nat
 idle:Nat
 width:Nat
structure Br where
 cf:Cf
 L:Bs
 sp:Sp.Sp
 fl:Fl
 inp:Bs
 tot:Nat
 strikes:Nat
 told:Int
 cs:Nat→Option Cn
 ended:Bool
 code:Nat
def startOf (n room:Nat) (back:Int):Nat:=max (n - (max back 0).toNat) (n - room)
def countOf (n p:Nat) (room most:Int):Nat:=(min (min (min most (max room 11 - 11)) 2042) ((n:Int) - p)).toNat
def Begins (b0:Nat) (L:Bs) (off:Int) (i:Nat):Prop:=off≤i∧(i=0∨(b0<i∧L[i - 1]?=some 10#8))
def IsLine (b0:Nat) (L:Bs) (off:Int) (r:Nat):Prop:=
 r≤L.length∧(r<L.length→b0≤r∧Begins b0 L off r)∧∀ i,b0≤i→i<r→¬ Begins b0 L off i
open Classical in
noncomputable def lineAt (b0:Nat) (L:Bs) (off:Int):Nat:=if h:∃ r,IsLine b0 L off r then h.choose else 0
theorem isLine_one {b0:Nat} {L:Bs} {off:Int} {r s:Nat} (h:IsLine b0 L off r) (k:IsLine b0 L off s):r=s:=by
 obtain ⟨h1,h2,h3⟩:=h;obtain ⟨k1,k2,k3⟩:=k
 rcases Nat.lt_trichotomy r s with e | e | e
 ·have:=h2 (by omega)
  exact absurd this.2 (k3 r this.1 e)
 ·exact e
 ·have:=k2 (by omega)
  exact absurd this.2 (h3 s this.1 e)
theorem lineAt_eq {b0:Nat} {L:Bs} {off:Int} {r:Nat} (h:IsLine b0 L off r):lineAt b0 L off=r:=by
 have hex:∃ r,IsLine b0 L off r:=⟨r,h⟩
 unfold lineAt;rw [dif_pos hex];exact isLine_one hex.choose_spec h
def ids:List Nat:=[1,2,3,4,5,6,7,8,9,10,11,12,13,14,15,16]
def opn (b:Br) (k:Nat):Bool:=match b.cs k with | some c=>decide (c.st=1) | none=>false
def setc (b:Br) (k:Nat) (c:Option Cn):Br:={ b with cs:=fun j=>if j=k then c else b.cs j }
def opens (b:Br):Nat:=(ids.filter (opn b)).length
def goes (f:Br→Nat→Br) (b:Br):List Nat→Br
 | []=>b
 | k :: ks=>goes f (if opn b k then f b k else b) ks
def notice (t:Bs):M:=⟨10,0,0,t⟩
def wLeft:Bs:=[108#8,101#8,102#8,116#8,32#8]
def wJoined:Bs:=[106#8,111#8,105#8,110#8,101#8,100#8,32#8]
def left (k:Nat):M:=notice (wLeft ++ Dgs.dgs k)
def leaveW (tell:M→Br→Br) (b:Br) (k:Nat):Br:=
 match b.cs k with
 | none=>b
 | some c=>if c.st=1 then tell (left k) { setc b k (some { c with st:=2 }) with fl:=fleave b.fl k } else setc b k (some { c with st:=2 })
def sendW (leave:Br→Nat→Br) (m:M) (b:Br) (k:Nat):Br:=
 match b.cs k with
 | none=>b
 | some c=>if c.st=2 then b else if c.out.length+(enc m).length≤b.cf.queue then setc b k (some { c with out:=c.out ++ enc m }) else leave b k
def tellN:Nat→M→Br→Br
 | 0,_,b=>b
 | n+1,m,b=>goes (sendW (leaveW (tellN n)) m) b ids
def leaveN (n:Nat):Br→Nat→Br:=leaveW (tellN n)
def sendN (n:Nat) (m:M):Br→Nat→Br:=sendW (leaveN n) m
def tell (m:M) (b:Br):Br:=tellN 17 m b
def leave (b:Br) (k:Nat):Br:=leaveN 16 b k
def send (m:M) (b:Br) (k:Nat):Br:=sendN 16 m b k
def closed (why:Nat):M:=⟨13,why,0,[]⟩
def shut (b:Br) (k:Nat) (why:Nat):Br:=leave (send (closed why) b k) k
def mfloor (h:Int):M:=⟨9,h,0,[]⟩
def holderN:Nat→Br→Br
 | 0,b=>b
 | n+1,b=>if fhold b.fl=b.told then b else holderN n (tell (mfloor (fhold b.fl)) { b with told:=fhold b.fl })
def holder (b:Br):Br:=holderN 18 b
def nextOf (L:Bs) (log:Nat) (p s:Nat) (room:Int) (data strikes:Nat):Option (M×Nat×Nat):=
 if p<L.length - log then (if strikes≤s∨room<17 then some (⟨12,0,0,[]⟩,p,s) else some (⟨7,p,(L.length - log:Nat),[]⟩,L.length - log,s+1))
 else if countOf L.length p room data=0 then none
 else some (⟨6,p,0,(L.drop p).take (countOf L.length p room data)⟩,p+countOf L.length p room data,s)
def putc (q:Nat) (c:Cn) (t:Bs):Cn:=if c.out.length+t.length≤q then { c with out:=c.out ++ t } else c
def serveN:Nat→Br→Nat→Br
  | 0,b,_=>b
  | n+1,b,k =>
    match b.cs k with
    | none=>b
    | some c =>
      match nextOf b.L b.cf.log c.p c.s ((b.cf.queue:Int) - c.out.length - 200) b.cf.data b.strikes with
      | none=>b
      | some (m,p,s) =>
        let b1:=setc b k (some (putc b.cf.queue { c with p:=p,s:=s } (enc m)))
        if m.k=12 then leave b1 k else serveN n b1 k
def serve (b:Br) (k:Nat):Br:=serveN (b.L.length+2) b k
def done (b:Br) (k:Nat):Bool:=match b.cs k with | some c=>decide (c.st=2∧c.out=[]) | none=>false
def reap (b:Br):Br:={ b with cs:=fun k=>if 1≤k∧k≤16∧done b k=true then none else b.cs k }
def settle (b:Br):Br:=reap (holder (goes serve (holder b) ids))
def mexit (code:Nat):M:=⟨15,code,0,[]⟩
def roleWord (r:Int):Bs:=if r=2 then [111#8,119#8,110#8,101#8,114#8] else if r=1 then [119#8,114#8,105#8,116#8,101#8,114#8] else [111#8,98#8,115#8,101#8,114#8,118#8,101#8,114#8]
def isName (t:Bs):Bool:=!t.isEmpty && t.all (fun c=>decide (32<c.toNat∧c.toNat<127))
def anyOwner (s:Fl):Bool:=s.roles.any (fun p=>decide (p.2=2))
def firstRole (s:Fl) (w:Bool):Int:=if w then (if anyOwner s then 1 else 2) else 0
noncomputable def viewAt (L:Bs) (log:Nat) (back:Int) (line:Bool):Nat:=if line then lineAt (L.length - log) L (startOf L.length log back:Nat) else startOf L.length log back
noncomputable def joinB (b:Br) (k:Nat) (m:M):Br:=
  let b1:=tell (notice (wJoined ++ Dgs.dgs k ++ [32#8] ++ m.t)) b
  match b1.cs k with
  | none=>b1
  | some c =>
    let p:=viewAt b1.L b1.cf.log m.b (decide (m.a % 4=2∨m.a % 4=3))
    let r:=firstRole b1.fl (decide (m.a % 2=1))
    let b2:={ setc b1 k (some { c with st:=1,name:=m.t,p:=p,s:=0 }) with fl:=fjoin b1.fl k r }
    let b3:=send ⟨5,k,p,roleWord r⟩ b2 k
    let b4:=send (mfloor b3.told) b3 k
    if b4.ended then send (mexit b4.code) b4 k else b4
noncomputable def hello (b:Br) (k:Nat) (m:M):Br:=
 if m.k≠1 then shut b k 4 else if m.a / 4≠1 then shut b k 2 else if isName m.t=false then shut b k 3 else joinB b k m
def listLine (b:Br) (j:Nat):Bs:=
 Dgs.dgs j ++ [32#8] ++ roleWord (rrole b.fl.roles j) ++ [32#8] ++ (match b.cs j with | some c=>c.name | none=>[]) ++ (if fhold b.fl=j then [32#8,42#8] else [])
def listB (b:Br) (k:Nat):Br:=goes (fun b j=>send (notice (listLine b j)) b k) b ids
def userB (b:Br) (n:Int):Option Nat:=if 1≤n∧n≤16∧opn b n.toNat=true then some n.toNat else none
def isOwners (k:Int):Bool:=decide (k=5∨k=6∨k=7∨k=8∨k=9∨k=11)
noncomputable def doB (b:Br) (k:Nat) (o:Option (Int×Int)):Br×Bool:=
  match o with
  | none=>(b,false)
  | some (kind,n) =>
    if isOwners kind=true∧rrole b.fl.roles k≠2 then (b,false)
    else if kind=1 then ({ b with fl:=fask b.fl k },decide (askE b.fl k=0))
    else if kind=2 then ({ b with fl:=fdrop b.fl k },decide (dropE b.fl k=0))
    else if kind=3 then (listB b k,true)
    else if kind=4 then (shut b k 0,true)
    else if kind=5 then ({ b with fl:=frev b.fl },decide (revE b.fl=0))
    else if kind=10 then (match b.cs k with | some c=>setc b k (some { c with p:=startOf b.L.length b.cf.log n }) | none=>b,true)
    else if kind=11 then (if 9<n then (b,false) else ({ b with strikes:=n.toNat },true))
    else match userB b n with
      | none=>(b,false)
      | some j =>
        if kind=6 then ({ b with fl:=fgive b.fl j },decide (giveE b.fl j=0))
        else if kind=7 then (shut b j 5,true)
        else if kind=8 then ({ b with fl:=fset b.fl j 1 },true)
        else if kind=9 then ({ b with fl:=fset b.fl j 0 },true)
        else (b,true)
open Classical in
noncomputable def parse (s:Bs):Option (Int×Int):=if h:∃ q:Int×Int,Orm.Rt q.1 q.2∧Orm.tx q.1 q.2=s then some h.choose else none
noncomputable def cmds (b:Br) (k:Nat):List Bs→Br
  | []=>b
  | s :: ss =>
    if opn b k then
      let d:=doB b k (parse s)
      cmds (holder (if d.2 then d.1 else send ⟨11,0,0,s⟩ d.1 k)) k ss
    else b
def whyB (b:Br) (k:Nat) (n:Nat):Nat:=
 if b.ended then 1 else if rhas b.fl.roles k=false then 2 else if rrole b.fl.roles k=0 then 3 else if fhold b.fl≠k then 4 else if b.cf.input<b.inp.length+n then 5 else 0
noncomputable def keysB (b:Br) (k:Nat) (m:M):Br:=
  match b.cs k with
  | none=>b
  | some c =>
    let ks:=lkeys c.lx m.t
    let cs:=lcmds c.lx m.t
    let b1:=setc b k (some { c with lx:=lrun c.lx m.t })
    let b2:=if ks=[] then b1 else if whyB b1 k ks.length=0 then { b1 with inp:=b1.inp ++ ks,tot:=b1.tot+ks.length } else send ⟨8,m.a,whyB b1 k ks.length,[]⟩ b1 k
    cmds b2 k cs
noncomputable def takeB (b:Br) (k:Nat) (m:Option M):Br:=
  match m with
  | none=>shut b k 4
  | some m =>
    if (match b.cs k with | some c=>decide (c.st=0) | none=>false) then hello b k m
    else if m.k=2 then keysB b k m
    else if m.k=3 then send ⟨14,0,0,[]⟩ b k
    else if m.k=4 then shut b k 0
    else shut b k 4
def closing (b:Br) (k:Nat):Bool:=match b.cs k with | some c=>decide (c.st=2) | none=>true
noncomputable def takes (b:Br) (k:Nat):List (BitVec 8×Bs)→Br
 | []=>b
 | f :: fs=>if closing b k then b else takes (holder (takeB b k (mof f))) k fs
noncomputable def recvB (b:Br) (k:Nat) (t:Bs):Br:=
  match b.cs k with
  | none=>b
  | some c =>
    let b1:=setc b k (some { c with fd:=fpush c.fd t })
    let b2:=takes b1 k (fgot c.fd t)
    if closing b2 k=false∧(fpush c.fd t).e≠0 then shut b2 k 1 else b2
def cnew:Cn:=⟨0,0,⟨[],0⟩,lx0,[],[],0,0⟩
def isThere (b:Br) (id:Int):Bool:=decide (1≤id∧id≤16) && (b.cs id.toNat).isSome
def connectE (b:Br) (id:Int):Nat:=if id<1∨16<id then 1 else if isThere b id then 3 else 0
def connectB (b:Br) (id:Int):Br:=if connectE b id=0 then setc b id.toNat (some cnew) else b
def bytesE (b:Br) (id:Int):Nat:=if isThere b id then (if closing b id.toNat then 3 else 0) else 2
noncomputable def bytesB (b:Br) (id:Int) (t:Bs):Br:=
 if bytesE b id=0 then
  let k:=id.toNat
  let b1:=match b.cs k with | some c=>(if t=[] then b else setc b k (some { c with idle:=0 })) | none=>b
  settle (recvB b1 k t)
 else b
def takeN (n:Int) (len:Nat):Nat:=(min (max n 0) len).toNat
def writeE (b:Br) (id:Int):Nat:=if isThere b id then 0 else 2
def writeT (b:Br) (id n:Int):Bs:=if isThere b id then (match b.cs id.toNat with | some c=>c.out.take (takeN n c.out.length) | none=>[]) else []
def writeB (b:Br) (id n:Int):Br:=
 if isThere b id then (match b.cs id.toNat with | some c=>settle (setc b id.toNat (some { c with out:=c.out.drop (takeN n c.out.length) })) | none=>b) else b
def cutB (b:Br) (id:Int):Br:=if isThere b id then settle (setc (leave b id.toNat) id.toNat none) else b
def outputE (b:Br):Nat:=if b.ended then 3 else 0
def outputB (b:Br) (t:Bs):Br:=if b.ended then b else settle { b with L:=b.L ++ t,sp:=Sp.nxts b.sp t }
def drainT (b:Br) (n:Int):Bs:=b.inp.take (takeN n b.inp.length)
def drainB (b:Br) (n:Int):Br:={ b with inp:=b.inp.drop (takeN n b.inp.length) }
def endE (b:Br) (code:Int):Nat:=if b.ended then 3 else if code<0∨255<code then 1 else 0
def endB (b:Br) (code:Int):Br:=
 if endE b code=0 then settle (tell (mexit code.toNat) { b with ended:=true,code:=code.toNat,inp:=[] }) else b
def tickC (b:Br) (k:Nat):Br:=
  match b.cs k with
  | none=>b
  | some c =>
    let b1:=setc b k (some { c with idle:=c.idle+1 })
    if b.cf.idle≠0∧b.cf.idle≤c.idle+1 then shut b1 k 6 else b1
def tickB (b:Br):Br:=settle (ids.foldl tickC { b with fl:=ftick b.fl })
def bnew (c:Cf):Br:=⟨c,[],⟨c.width,0,0,0⟩,fnew c.lease,[],0,c.strikes,0,fun _=>none,false,0⟩
end Bk
end
section
namespace Bk
open Fr
theorem ids_take (j:Nat) (h:j<16):ids.take (j+1)=ids.take j ++ [j+1]:=by
 have hall:∀ i:Fin 16,ids.take (i.val+1)=ids.take i.val ++ [i.val+1]:=by decide
 exact hall ⟨j,h⟩
theorem goes_app (f:Br→Nat→Br) (b:Br) (l:List Nat) (k:Nat):goes f b (l ++ [k])=if opn (goes f b l) k then f (goes f b l) k else goes f b l:=by
 induction l generalizing b with
 | nil=>rfl
 | cons x l ih=>exact ih _
theorem goes_take (f:Br→Nat→Br) (b:Br) (j:Nat) (h:j<16):goes f b (ids.take (j+1))=if opn (goes f b (ids.take j)) (j+1) then f (goes f b (ids.take j)) (j+1) else goes f b (ids.take j):=by
 rw [ids_take j h,goes_app]
structure CLe (c' c:Cn):Prop where
 p:c'.p=c.p
 s:c'.s=c.s
 name:c'.name=c.name
 idle:c'.idle=c.idle
 fd:c'.fd=c.fd
 lx:c'.lx=c.lx
 st:c'.st=c.st∨c'.st=2
 out:c.out <+: c'.out
theorem CLe.refl (c:Cn):CLe c c:=⟨rfl,rfl,rfl,rfl,rfl,rfl,.inl rfl,List.prefix_refl _⟩
theorem CLe.trans {a b c:Cn} (h:CLe c b) (k:CLe b a):CLe c a:=
 ⟨h.p.trans k.p,h.s.trans k.s,h.name.trans k.name,h.idle.trans k.idle,h.fd.trans k.fd,h.lx.trans k.lx,by rcases h.st with e | e; rw [e]; exact k.st; exact .inr e,k.out.trans h.out⟩
structure Le (b' b:Br):Prop where
 cf:b'.cf=b.cf
 L:b'.L=b.L
 sp:b'.sp=b.sp
 inp:b'.inp=b.inp
 tot:b'.tot=b.tot
 strikes:b'.strikes=b.strikes
 told:b'.told=b.told
 ended:b'.ended=b.ended
 code:b'.code=b.code
 op:∀ j,opn b' j=true→opn b j=true
 ro:∀ p∈b'.fl.roles,p∈b.fl.roles
 some:∀ j,(b'.cs j).isSome=(b.cs j).isSome
 cn:∀ j c',b'.cs j = .some c'→∃ c,b.cs j = .some c∧CLe c' c
theorem Le.refl (b:Br):Le b b:=⟨rfl,rfl,rfl,rfl,rfl,rfl,rfl,rfl,rfl,fun _ h=>h,fun _ h=>h,fun _=>rfl,fun _ c h=>⟨c,h,CLe.refl c⟩⟩
theorem Le.trans {a b c:Br} (h:Le c b) (k:Le b a):Le c a:=
 ⟨h.cf.trans k.cf,h.L.trans k.L,h.sp.trans k.sp,h.inp.trans k.inp,h.tot.trans k.tot,h.strikes.trans k.strikes,h.told.trans k.told,h.ended.trans k.ended,h.code.trans k.code,fun j hj=>k.op j (h.op j hj),fun p hp=>k.ro p (h.ro p hp),fun j=>(h.some j).trans (k.some j),fun j c hc=>by
  obtain ⟨c1,h1,h2⟩:=h.cn j c hc;obtain ⟨c2,h3,h4⟩:=k.cn j c1 h1
  exact ⟨c2,h3,h2.trans h4⟩⟩
theorem opn_setc (b:Br) (k:Nat) (c:Option Cn) (j:Nat):opn (setc b k c) j=if j=k then (match c with | some c=>decide (c.st=1) | none=>false) else opn b j:=by
 unfold opn setc
 by_cases e:j=k
 ·simp only [e,if_true]
  all_goals (cases c <;> rfl)
 ·simp [e]
def setFl (b:Br) (s:Fl):Br:={ b with fl:=s }
theorem opens_le {b' b:Br} (h:∀ j,opn b' j=true→opn b j=true):opens b'≤opens b:=by
  unfold opens;generalize ids=l
  induction l with
  | nil=>simp
  | cons x l ih =>
    simp only [List.filter_cons]
    by_cases h1:opn b' x=true
    · rw [if_pos h1,if_pos (h x h1)]; simp; exact ih
    · rw [if_neg h1]
      split
      · simp; omega
      · exact ih
theorem opens_lt {b' b:Br} (h:∀ j,opn b' j=true→opn b j=true) {k:Nat} (hk:k∈ids) (h1:opn b k=true) (h2:opn b' k=false):opens b'<opens b:=by
  unfold opens;generalize ids=l at hk
  induction l with
  | nil=>cases hk
  | cons x l ih =>
    have hle:(l.filter (opn b')).length≤(l.filter (opn b)).length:=by
      clear ih hk
      induction l with
      | nil=>simp
      | cons z l ih =>
        simp only [List.filter_cons]
        by_cases h3:opn b' z=true
        · rw [if_pos h3,if_pos (h z h3)]; simp; exact ih
        · rw [if_neg h3]
          split
          · simp; omega
          · exact ih
    simp only [List.filter_cons]
    rcases List.mem_cons.1 hk with e | e
    · subst e
      rw [h1,h2]
      simp; omega
    · have:=ih e
      by_cases h3:opn b' x=true
      · rw [if_pos h3,if_pos (h x h3)]; simp; exact this
      · rw [if_neg h3]
        split
        · simp; omega
        · exact this
theorem opens_max (b:Br):opens b≤16:=by
 unfold opens;exact Nat.le_trans (List.length_filter_le _ _) (by decide)
theorem mem_ids {k:Nat}:k∈ids↔1≤k∧k≤16:=by
 constructor
 ·intro h
  have hall:∀ x∈ids,1≤x∧x≤16:=by decide
  exact hall k h
 ·rintro ⟨h1,h2⟩
  have hall:∀ i:Fin 17,1≤i.val→i.val∈ids:=by decide
  exact hall ⟨k,by omega⟩ h1
theorem setc_le (b:Br) (k:Nat) (c c':Cn) (hc:b.cs k=some c) (hC:CLe c' c):Le (setc b k (some c')) b:=by
 have ho:c'.st=1→c.st=1:=fun e=>by rcases hC.st with h | h <;> omega
 refine ⟨rfl,rfl,rfl,rfl,rfl,rfl,rfl,rfl,rfl,fun j hj=>?_,fun _ h=>h,fun j=>?_,fun j c2 h2=>?_⟩
 ·rw [opn_setc] at hj
  by_cases e:j=k
  ·rw [if_pos e] at hj
   subst e;unfold opn;rw [hc]
   simpa using ho (by simpa using hj)
  ·rw [if_neg e] at hj; exact hj
 ·show ((if j=k then some c' else b.cs j):Option Cn).isSome=_
  by_cases e:j=k
  ·subst e; rw [if_pos rfl,hc]; rfl
  ·rw [if_neg e]
 ·replace h2:(if j=k then some c' else b.cs j)=some c2:=h2
  by_cases e:j=k
  ·subst e
   rw [if_pos rfl] at h2
   injection h2 with h2
   subst h2;exact ⟨c,hc,hC⟩
  ·rw [if_neg e] at h2
   exact ⟨c2,h2,CLe.refl c2⟩
theorem cle_shut (c:Cn):CLe { c with st:=2 } c:=⟨rfl,rfl,rfl,rfl,rfl,rfl,.inr rfl,List.prefix_refl _⟩
theorem cle_out (c:Cn) (t:Bs):CLe { c with out:=c.out ++ t } c:=⟨rfl,rfl,rfl,rfl,rfl,rfl,.inl rfl,List.prefix_append _ _⟩
theorem fleave_sub (s:Fl) (id:Int):∀ p∈(fleave s id).roles,p∈s.roles:=by
 intro p hp;unfold fleave at hp
 split at hp
 ·exact rdel_mem hp
 ·exact hp
theorem leaveW_le {tl:M→Br→Br} (h:∀ m b,Le (tl m b) b) (b:Br) (k:Nat):Le (leaveW tl b k) b:=by
 unfold leaveW
 rcases hc:b.cs k with _ | c
 ·exact Le.refl b
 ·have h1:Le (setc b k (some { c with st:=2 })) b:=setc_le b k c _ hc (cle_shut c)
  show Le (if c.st=1 then _ else _) b
  split
  ·refine (h _ _).trans ?_
   exact ⟨h1.cf,h1.L,h1.sp,h1.inp,h1.tot,h1.strikes,h1.told,h1.ended,h1.code,h1.op,fleave_sub b.fl k,h1.some,h1.cn⟩
  ·exact h1
theorem sendW_le {lv:Br→Nat→Br} (h:∀ b k,Le (lv b k) b) (m:M) (b:Br) (k:Nat):Le (sendW lv m b k) b:=by
 unfold sendW
 rcases hc:b.cs k with _ | c
 ·exact Le.refl b
 ·show Le (if c.st=2 then b else if _ then _ else _) b
  split
  ·exact Le.refl b
  ·split
   ·exact setc_le b k c _ hc (cle_out c _)
   ·exact h b k
theorem goes_le {f:Br→Nat→Br} (h:∀ b k,Le (f b k) b) (b:Br) (l:List Nat):Le (goes f b l) b:=by
  induction l generalizing b with
  | nil=>exact Le.refl b
  | cons k l ih =>
    refine (ih _).trans ?_
    split
    · exact h b k
    · exact Le.refl b
theorem tellN_le:∀ (n:Nat) (m:M) (b:Br),Le (tellN n m b) b
 | 0,_,b=>Le.refl b
 | n+1,m,b=>goes_le (fun b k=>sendW_le (fun b k=>leaveW_le (tellN_le n) b k) m b k) b ids
theorem leaveN_le (n:Nat) (b:Br) (k:Nat):Le (leaveN n b k) b:=leaveW_le (tellN_le n) b k
theorem sendN_le (n:Nat) (m:M) (b:Br) (k:Nat):Le (sendN n m b k) b:=sendW_le (leaveN_le n) m b k
theorem leaveW_fok {tl:M→Br→Br} (h:∀ m b,FOk 16 b.fl→FOk 16 (tl m b).fl) (b:Br) (k:Nat) (hf:FOk 16 b.fl):FOk 16 (leaveW tl b k).fl:=by
 unfold leaveW
 rcases hc:b.cs k with _ | c
 ·exact hf
 ·show FOk 16 (Br.fl (if c.st=1 then _ else _))
  split
  ·exact h _ _ (hf.leave k)
  ·exact hf
theorem sendW_fok {lv:Br→Nat→Br} (h:∀ b k,FOk 16 b.fl→FOk 16 (lv b k).fl) (m:M) (b:Br) (k:Nat) (hf:FOk 16 b.fl):FOk 16 (sendW lv m b k).fl:=by
 unfold sendW
 rcases hc:b.cs k with _ | c
 ·exact hf
 ·show FOk 16 (Br.fl (if c.st=2 then b else if _ then _ else _))
  split
  ·exact hf
  ·split
   ·exact hf
   ·exact h b k hf
theorem goes_fok {f:Br→Nat→Br} (h:∀ b k,FOk 16 b.fl→FOk 16 (f b k).fl) (b:Br) (l:List Nat) (hf:FOk 16 b.fl):FOk 16 (goes f b l).fl:=by
  induction l generalizing b with
  | nil=>exact hf
  | cons k l ih =>
    refine ih _ ?_
    split
    · exact h b k hf
    · exact hf
theorem tellN_fok:∀ (n:Nat) (m:M) (b:Br),FOk 16 b.fl→FOk 16 (tellN n m b).fl
 | 0,_,_,h=>h
 | n+1,m,b,h=>goes_fok (fun b k hb=>sendW_fok (fun b k hb=>leaveW_fok (tellN_fok n) b k hb) m b k hb) b ids h
theorem leaveN_fok (n:Nat) (b:Br) (k:Nat) (hf:FOk 16 b.fl):FOk 16 (leaveN n b k).fl:=leaveW_fok (tellN_fok n) b k hf
theorem sendN_fok (n:Nat) (m:M) (b:Br) (k:Nat) (hf:FOk 16 b.fl):FOk 16 (sendN n m b k).fl:=sendW_fok (leaveN_fok n) m b k hf
theorem goes_none {f:Br→Nat→Br} (b:Br) (l:List Nat) (h:∀ k∈l,opn b k=false):goes f b l=b:=by
  induction l with
  | nil=>rfl
  | cons k l ih =>
    show goes f (if opn b k then f b k else b) l=b
    rw [h k (List.mem_cons_self ..)]
    exact ih fun j hj=>h j (List.mem_cons_of_mem _ hj)
theorem opens_zero {b:Br} (h:opens b=0):∀ k∈ids,opn b k=false:=by
 intro k hk;unfold opens at h;have:=List.eq_nil_of_length_eq_zero h;rw [List.filter_eq_nil_iff] at this
 simpa using this k hk
theorem leaveW_fl {tl:M→Br→Br} (h:∀ m b,Le (tl m b) b) (b:Br) (k:Nat) (hk:1≤k∧k≤16):(leaveW tl b k).fl=b.fl∨opens (leaveW tl b k)<opens b:=by
 unfold leaveW
 rcases hc:b.cs k with _ | c
 ·exact .inl rfl
 ·show Br.fl (if c.st=1 then _ else _)=_∨opens (if c.st=1 then _ else _)<_
  by_cases hst:c.st=1
  ·rw [if_pos hst]
   refine .inr (Nat.lt_of_le_of_lt (opens_le (h _ _).op) ?_);refine opens_lt (fun j hj=>(setc_le b k c { c with st:=2 } hc (cle_shut c)).op j hj) (mem_ids.2 hk) (by unfold opn; rw [hc]; simpa using hst) ?_
   show opn (setc b k (some { c with st:=2 })) k=false
   rw [opn_setc,if_pos rfl];rfl
  ·rw [if_neg hst]
   exact .inl rfl
theorem sendW_fl {lv:Br→Nat→Br} (h:∀ b k,1≤k∧k≤16→(lv b k).fl=b.fl∨opens (lv b k)<opens b) (m:M) (b:Br) (k:Nat) (hk:1≤k∧k≤16):(sendW lv m b k).fl=b.fl∨opens (sendW lv m b k)<opens b:=by
 unfold sendW
 rcases hc:b.cs k with _ | c
 ·exact .inl rfl
 ·show Br.fl (if c.st=2 then b else if _ then _ else _)=_∨opens (if c.st=2 then b else if _ then _ else _)<_
  split
  ·exact .inl rfl
  ·split
   ·exact .inl rfl
   ·exact h b k hk
theorem goes_fl {f:Br→Nat→Br} (hl:∀ b k,Le (f b k) b) (h:∀ b k,1≤k∧k≤16→(f b k).fl=b.fl∨opens (f b k)<opens b) (b:Br) (l:List Nat) (hm:∀ k∈l,1≤k∧k≤16):(goes f b l).fl=b.fl∨opens (goes f b l)<opens b:=by
  induction l generalizing b with
  | nil=>exact .inl rfl
  | cons k l ih =>
    have ih':=fun b=>ih b fun j hj=>hm j (List.mem_cons_of_mem _ hj)
    show (goes f (if opn b k then f b k else b) l).fl=_∨_
    have hle:∀ b',opens (goes f b' l)≤opens b':=fun b'=>opens_le (goes_le hl b' l).op
    by_cases ho:opn b k=true
    · simp only [goes,ho,if_true]
      rcases h b k (hm k (List.mem_cons_self ..)) with h1 | h1
      · rcases ih' (f b k) with h2 | h2
        · exact .inl (h2.trans h1)
        · exact .inr (Nat.lt_of_lt_of_le h2 (opens_le (hl b k).op))
      · exact .inr (Nat.lt_of_le_of_lt (hle _) h1)
    · simp only [goes,ho]
      exact ih' b
theorem ids_in:∀ k∈ids,1≤k∧k≤16:=fun _ h=>mem_ids.1 h
theorem tellN_fl:∀ (n:Nat) (m:M) (b:Br),(tellN n m b).fl=b.fl∨opens (tellN n m b)<opens b
 | 0,_,_=>.inl rfl
 | n+1,m,b=>goes_fl (sendN_le n m) (fun b k hk=>sendW_fl (fun b k hk=>leaveW_fl (tellN_le n) b k hk) m b k hk) b ids ids_in
def mu (b:Br):Nat:=if fhold b.fl=b.told then 0 else opens b+1
def toldB (b:Br):Br:={ b with told:=fhold b.fl }
theorem mu_step (m:M) {b:Br} (h:fhold b.fl≠b.told):mu (tell m (toldB b))<mu b:=by
 have hle:=tellN_le 17 m (toldB b);have hop:=opens_le hle.op
 have e:mu b=opens b+1:=by unfold mu; rw [if_neg h]
 rw [e];unfold mu tell
 rcases tellN_fl 17 m (toldB b) with h1 | h1
 ·rw [if_pos (by rw [h1,hle.told]; rfl)]
  omega
 ·have:opens (toldB b)=opens b:=rfl
  split <;> omega
theorem holderN_any:∀ (n m:Nat) (b:Br),mu b≤n→mu b≤m→holderN n b=holderN m b:=by
  intro n
  induction n with
  | zero =>
    intro m b h1 _
    have h:fhold b.fl=b.told:=by
      unfold mu at h1
      by_cases e:fhold b.fl=b.told
      · exact e
      · rw [if_neg e] at h1; omega
    cases m with
    | zero=>rfl
    | succ m=>show b=if _ then b else _; rw [if_pos h]
  | succ n ih =>
    intro m b h1 h2
    by_cases h:fhold b.fl=b.told
    · cases m with
      | zero=>show (if _ then b else _)=b; rw [if_pos h]
      | succ m=>show (if _ then b else _)=if _ then b else _; rw [if_pos h,if_pos h]
    · have hs:=mu_step (mfloor (fhold b.fl)) h
      cases m with
      | zero => have:mu b=opens b+1:=by unfold mu; rw [if_neg h]
                omega
      | succ m =>
        show (if _ then b else holderN n (tell (mfloor (fhold b.fl)) (toldB b)))=if _ then b else holderN m (tell (mfloor (fhold b.fl)) (toldB b))
        rw [if_neg h,if_neg h];exact ih m _ (by omega) (by omega)
theorem mu_le (b:Br):mu b≤17:=by
 have:=opens_max b;unfold mu
 split <;> omega
theorem holder_same {b:Br} (h:fhold b.fl=b.told):holder b=b:=by
 show (if _ then b else _)=b
 rw [if_pos h]
theorem holder_step {b:Br} (h:fhold b.fl≠b.told):holder b=holder (tell (mfloor (fhold b.fl)) (toldB b)):=by
 show (if _ then b else holderN 17 (tell (mfloor (fhold b.fl)) (toldB b)))=_
 rw [if_neg h];exact holderN_any 17 18 _ (mu_le _) (by have:=mu_le (tell (mfloor (fhold b.fl)) (toldB b)); omega)
def RIn (s:Fl):Prop:=∀ p∈s.roles,1≤p.1∧p.1≤16
theorem Le.rin {b' b:Br} (h:Le b' b) (hr:RIn b.fl):RIn b'.fl:=fun p hp=>hr p (h.ro p hp)
theorem hold_in {s:Fl} (hf:FOk 16 s) (hr:RIn s):0≤fhold s∧fhold s≤16:=by
 unfold fhold
 rcases hl:s.line with _ | ⟨i,t⟩
 ·exact ⟨by decide,by decide⟩
 ·have h:=(hf.mem i (by rw [hl]; exact List.mem_cons_self ..)).1
  have:=hr _ (rhas_of_mem h)
  show 0≤i∧i≤16
  have h1:1≤i∧i≤16:=this;omega
theorem least (P:Nat→Prop) (h:∃ n,P n):∃ n,P n∧∀ m,P m→n≤m:=by
  obtain ⟨n,hn⟩:=h
  induction n using Nat.strongRecOn with
  | _ n ih =>
    by_cases h:∃ m,m<n∧P m
    · obtain ⟨m,h1,h2⟩:=h
      exact ih m h1 h2
    · exact ⟨n,hn,fun m hm=>Nat.le_of_not_lt fun hlt=>h ⟨m,hlt,hm⟩⟩
open Classical in
noncomputable def leastN (P:Nat→Prop):Nat:=if h:∃ n,P n then (least P h).choose else 0
theorem leastN_le {P:Nat→Prop} {m:Nat} (h:P m):leastN P≤m:=by
 have hex:∃ n,P n:=⟨m,h⟩
 unfold leastN;rw [dif_pos hex];exact (least P hex).choose_spec.2 m h
theorem leastN_is {P:Nat→Prop} (h:∃ n,P n):P (leastN P):=by
 unfold leastN;rw [dif_pos h];exact (least P h).choose_spec.1
end Bk
end
section
namespace Bk
open Fr
structure CnOk (b:Br) (c:Cn):Prop where
 p:c.p≤b.L.length
 s:c.s≤9
 name:c.name.length≤20
 st:c.st≤2
structure BOk (b:Br):Prop where
 log:1≤b.cf.log∧b.cf.log≤65536
 data:1≤b.cf.data∧b.cf.data≤2042
 queue:220≤b.cf.queue∧b.cf.queue≤65536
 input:1≤b.cf.input∧b.cf.input≤65536
 idle:b.cf.idle≤1000
 strikes:b.strikes≤9
 fok:FOk 16 b.fl
 rin:RIn b.fl
 len:b.L.length≤1099511627776
 told:0≤b.told∧b.told≤16
 code:b.code≤255
 cn:∀ k c,b.cs k=some c→CnOk b c
theorem BOk.le {b' b:Br} (h:BOk b) (hl:Le b' b) (hf:FOk 16 b'.fl):BOk b':=by
 refine ⟨by rw [hl.cf]; exact h.log,by rw [hl.cf]; exact h.data,by rw [hl.cf]; exact h.queue,by rw [hl.cf]; exact h.input,by rw [hl.cf]; exact h.idle,by rw [hl.strikes]; exact h.strikes,hf,hl.rin h.rin,by rw [hl.L]; exact h.len,by rw [hl.told]; exact h.told,by rw [hl.code]; exact h.code,fun k c hc=>?_⟩;obtain ⟨c0,h0,hC⟩:=hl.cn k c hc;have hk:=h.cn k c0 h0;refine ⟨by rw [hC.p,hl.L]; exact hk.p,by rw [hC.s]; exact hk.s,by rw [hC.name]; exact hk.name,?_⟩
 rcases hC.st with e | e
 ·rw [e]; exact hk.st
 ·omega
theorem BOk.setc {b:Br} (h:BOk b) (k:Nat) {c:Cn} (hc:CnOk b c):BOk (setc b k (some c)):=
 ⟨h.log,h.data,h.queue,h.input,h.idle,h.strikes,h.fok,h.rin,h.len,h.told,h.code,fun j c' hj=>by
  replace hj:(if j=k then some c else b.cs j)=some c':=hj
  by_cases e:j=k
  ·rw [if_pos e] at hj; injection hj with hj; subst hj; exact ⟨hc.p,hc.s,hc.name,hc.st⟩
  ·rw [if_neg e] at hj; have:=h.cn j c' hj; exact ⟨this.p,this.s,this.name,this.st⟩⟩
theorem BOk.send {b:Br} (h:BOk b) (m:M) (k:Nat):BOk (send m b k):=h.le (sendN_le 16 m b k) (sendN_fok 16 m b k h.fok)
theorem BOk.leave {b:Br} (h:BOk b) (k:Nat):BOk (leave b k):=h.le (leaveN_le 16 b k) (leaveN_fok 16 b k h.fok)
theorem BOk.tell {b:Br} (h:BOk b) (m:M):BOk (tell m b):=h.le (tellN_le 17 m b) (tellN_fok 17 m b h.fok)
theorem BOk.shut {b:Br} (h:BOk b) (k why:Nat):BOk (shut b k why):=(h.send (closed why) k).leave k
theorem shut_le (b:Br) (k why:Nat):Le (shut b k why) b:=(leaveN_le 16 _ k).trans (sendN_le 16 _ b k)
theorem BOk.toldB {b:Br} (h:BOk b):BOk (toldB b):=
 ⟨h.log,h.data,h.queue,h.input,h.idle,h.strikes,h.fok,h.rin,h.len,hold_in h.fok h.rin,h.code,fun k c hc=>by have:=h.cn k c hc; exact ⟨this.p,this.s,this.name,this.st⟩⟩
theorem BOk.holderN {b:Br} (h:BOk b):∀ n,BOk (holderN n b):=by
  intro n
  induction n generalizing b with
  | zero=>exact h
  | succ n ih =>
    show BOk (if _ then b else Bk.holderN n (Bk.tell (mfloor (fhold b.fl)) (Bk.toldB b)))
    split
    · exact h
    · exact ih (h.toldB.tell _)
theorem BOk.holder {b:Br} (h:BOk b):BOk (holder b):=h.holderN 18
structure Lh (b' b:Br):Prop where
 cf:b'.cf=b.cf
 L:b'.L=b.L
 sp:b'.sp=b.sp
 inp:b'.inp=b.inp
 tot:b'.tot=b.tot
 strikes:b'.strikes=b.strikes
 ended:b'.ended=b.ended
 code:b'.code=b.code
 some:∀ j,(b'.cs j).isSome=(b.cs j).isSome
 cn:∀ j c',b'.cs j = .some c'→∃ c,b.cs j = .some c∧CLe c' c
theorem count_pos {n p:Nat} {room most:Int} (h:countOf n p room most≠0):p<n∧p+countOf n p room most≤n∧countOf n p room most≤2042∧(countOf n p room most:Int)+11≤room:=by
 unfold countOf at *;omega
theorem next_ok {L:Bs} {log p s:Nat} {room:Int} {data strikes:Nat} {m:M} {p' s':Nat} (hp:p≤L.length) (hs:s≤9) (hst:strikes≤9) (hL:L.length≤1099511627776) (h:nextOf L log p s room data strikes=some (m,p',s')) :
  p'≤L.length∧s'≤9∧m.ok=true∧(m.k=12→p'=p∧s'=s)∧(m.k≠12→p<p'∧(enc m).length+0≤room.toNat+0):=by
 unfold nextOf at h
 split at h
 ·next h1 =>
  split at h
  ·injection h with h; injection h with h2 h; injection h with h3 h4
   subst h2 h3 h4;exact ⟨hp,hs,rfl,fun _=>⟨rfl,rfl⟩,fun h=>absurd rfl h⟩
  ·next h5 =>
   injection h with h; injection h with h2 h; injection h with h3 h4
   subst h2 h3 h4;refine ⟨by omega,by omega,?_,fun h=>absurd h (by show ¬ ((7:Int)=12); decide),fun _=>⟨h1,?_⟩⟩
   ·unfold M.ok
    rw [Ms.rt_iff];refine ⟨rfl,?_,?_,Nat.zero_le _⟩
    ·show Ms.okN (p:Int) true=true
     unfold Ms.okN; simp; omega
    ·show Ms.okN ((L.length - log:Nat):Int) true=true
     unfold Ms.okN; simp; omega
   ·unfold enc
    rw [fr_len,Ms.body_len]
    show 6 * 2+0+5+0≤_
    omega
 ·split at h
  ·cases h
  ·next h1 h2 =>
   injection h with h; injection h with h3 h; injection h with h4 h5
   have hc:=count_pos h2;subst h3 h4 h5
   have hlen:((L.drop p).take (countOf L.length p room data)).length=countOf L.length p room data:=by simp; omega
   refine ⟨hc.2.1,hs,?_,fun h=>absurd h (by show ¬ ((6:Int)=12); decide),fun _=>⟨by omega,?_⟩⟩
   ·unfold M.ok
    rw [Ms.rt_iff];refine ⟨rfl,?_,rfl,?_⟩
    ·show Ms.okN (p:Int) true=true
     unfold Ms.okN; simp; omega
    ·show ((L.drop p).take (countOf L.length p room data)).length≤2042
     rw [hlen]; exact hc.2.2.1
   ·unfold enc
    rw [fr_len,Ms.body_len]
    show 6 * 1+((L.drop p).take (countOf L.length p room data)).length+5+0≤_
    rw [hlen];omega
def nextB (b:Br) (c:Cn):Option (M×Nat×Nat):=nextOf b.L b.cf.log c.p c.s ((b.cf.queue:Int) - c.out.length - 200) b.cf.data b.strikes
def served (b:Br) (k:Nat) (c:Cn) (m:M) (p s:Nat):Br:=setc b k (some (putc b.cf.queue { c with p:=p,s:=s } (enc m)))
theorem putc_same (q:Nat) (c:Cn) (t:Bs):(putc q c t).st=c.st∧(putc q c t).p=c.p∧(putc q c t).s=c.s∧(putc q c t).name=c.name∧(putc q c t).idle=c.idle∧(putc q c t).fd=c.fd∧(putc q c t).lx=c.lx:=by
 unfold putc
 split <;> exact ⟨rfl,rfl,rfl,rfl,rfl,rfl,rfl⟩
theorem serveN_succ (n:Nat) (b:Br) (k:Nat) {c:Cn} (hc:b.cs k=some c):serveN (n+1) b k=match nextB b c with
  | none=>b
  | some (m,p,s)=>if m.k=12 then leave (served b k c m p s) k else serveN n (served b k c m p s) k:=by
 show (match b.cs k with | none=>b | some c=>_)=_
 rw [hc];rfl
theorem serveN_any:∀ (n m:Nat) (b:Br) (k:Nat) (c:Cn),BOk b→b.cs k=some c→b.L.length - c.p<n→b.L.length - c.p<m→serveN n b k=serveN m b k:=by
  intro n
  induction n with
  | zero=>intro m b k c _ _ h; omega
  | succ n ih =>
    intro m b k c hb hc h1 h2
    cases m with
    | zero=>omega
    | succ m =>
      rw [serveN_succ n b k hc,serveN_succ m b k hc]
      rcases hn:nextB b c with _ | ⟨x,p,s⟩
      · rfl
      · show (if _ then _ else _)=(if _ then _ else _)
        split
        · rfl
        · next hx =>
          have hk:=hb.cn k c hc;have hno:=next_ok hk.p hk.s hb.strikes hb.len hn;have hp:=putc_same b.cf.queue { c with p:=p,s:=s } (enc x);refine ih m _ k (putc b.cf.queue { c with p:=p,s:=s } (enc x)) (hb.setc k ⟨by rw [hp.2.1]; exact hno.1,by rw [hp.2.2.1]; exact hno.2.1,by rw [hp.2.2.2.1]; exact hk.name,by rw [hp.1]; exact hk.st⟩) (by show (if k=k then _ else _)=_; rw [if_pos rfl]) ?_ ?_
          · rw [hp.2.1]
            have:=(hno.2.2.2.2 hx).1
            show b.L.length - p<n
            omega
          · rw [hp.2.1]
            have:=(hno.2.2.2.2 hx).1
            show b.L.length - p<m
            omega
theorem BOk.served {b:Br} (h:BOk b) {k:Nat} {c:Cn} (hc:b.cs k=some c) {m:M} {p s:Nat} (hn:nextB b c=some (m,p,s)):BOk (served b k c m p s):=by
 have hk:=h.cn k c hc;have hno:=next_ok hk.p hk.s h.strikes h.len hn;have hp:=putc_same b.cf.queue { c with p:=p,s:=s } (enc m);exact h.setc k ⟨by rw [hp.2.1]; exact hno.1,by rw [hp.2.2.1]; exact hno.2.1,by rw [hp.2.2.2.1]; exact hk.name,by rw [hp.1]; exact hk.st⟩
theorem serve_none {b:Br} {k:Nat} {c:Cn} (hc:b.cs k=some c) (hn:nextB b c=none):serve b k=b:=by
 show serveN (b.L.length+1+1) b k=b
 rw [serveN_succ _ b k hc,hn]
theorem serve_gone {b:Br} {k:Nat} {c:Cn} (hc:b.cs k=some c) {m:M} {p s:Nat} (hn:nextB b c=some (m,p,s)) (hm:m.k=12):serve b k=leave (Bk.served b k c m p s) k:=by
 show serveN (b.L.length+1+1) b k=_
 rw [serveN_succ _ b k hc,hn];simp [hm]
theorem serve_more {b:Br} (h:BOk b) {k:Nat} {c:Cn} (hc:b.cs k=some c) {m:M} {p s:Nat} (hn:nextB b c=some (m,p,s)) (hm:m.k≠12):serve b k=serve (Bk.served b k c m p s) k:=by
 have h1:serve b k=serveN (b.L.length+1) (Bk.served b k c m p s) k:=by
  show serveN (b.L.length+1+1) b k=_
  rw [serveN_succ _ b k hc,hn];simp [hm]
 rw [h1];have hp:=putc_same b.cf.queue { c with p:=p,s:=s } (enc m);have hk:=h.cn k c hc;have hno:=next_ok hk.p hk.s h.strikes h.len hn;have h2:=(hno.2.2.2.2 hm).1;exact serveN_any _ _ _ k (putc b.cf.queue { c with p:=p,s:=s } (enc m)) (h.served hc hn) (by show (if k=k then _ else _)=_; rw [if_pos rfl]) (by rw [hp.2.1]; show b.L.length - p<_; omega) (by rw [hp.2.1]; show b.L.length - p<b.L.length+2; omega)
def more (b:Br) (k:Nat):Nat:=match b.cs k with | some c=>b.L.length - c.p | none=>0
theorem more_step {b:Br} (h:BOk b) {k:Nat} {c:Cn} (hc:b.cs k=some c) {m:M} {p s:Nat} (hn:nextB b c=some (m,p,s)) (hm:m.k≠12):more (Bk.served b k c m p s) k<more b k:=by
 have hp:=putc_same b.cf.queue { c with p:=p,s:=s } (enc m);have hk:=h.cn k c hc;have hno:=next_ok hk.p hk.s h.strikes h.len hn;have h2:=(hno.2.2.2.2 hm).1
 have e1:more b k=b.L.length - c.p:=by unfold more; rw [hc]
 have e2:more (Bk.served b k c m p s) k=b.L.length - p:=by
  unfold more
  have:(Bk.served b k c m p s).cs k=some (putc b.cf.queue { c with p:=p,s:=s } (enc m)):=by show (if k=k then _ else _)=_; rw [if_pos rfl]
  rw [this]
  show b.L.length - (putc b.cf.queue { c with p:=p,s:=s } (enc m)).p=_
  rw [hp.2.1]
 rw [e1,e2];omega
theorem BOk.serveN:∀ (n:Nat) {b:Br} (k:Nat),BOk b→BOk (serveN n b k)
  | 0,_,_,h=>h
  | n+1,b,k,h=>by
    rcases hc:b.cs k with _ | c
    · show BOk (match b.cs k with | none=>b | some c=>_)
      rw [hc];exact h
    · rw [serveN_succ n b k hc]
      rcases hn:nextB b c with _ | ⟨m,p,s⟩
      · exact h
      · show BOk (if _ then _ else _)
        split
        · exact (h.served hc hn).leave k
        · exact BOk.serveN n k (h.served hc hn)
theorem BOk.serve {b:Br} (h:BOk b) (k:Nat):BOk (serve b k):=h.serveN _ k
theorem BOk.goes {f:Br→Nat→Br} (hf:∀ b k,BOk b→BOk (f b k)):∀ (l:List Nat) {b:Br},BOk b→BOk (goes f b l)
  | [],_,h=>h
  | k :: l,b,h=>by
    show BOk (Bk.goes f (if opn b k then f b k else b) l)
    refine BOk.goes hf l ?_
    split
    · exact hf b k h
    · exact h
def reapTo (b:Br) (j:Nat):Br:={ b with cs:=fun k=>if 1≤k∧k≤j∧done b k=true then none else b.cs k }
theorem reapTo_zero (b:Br):reapTo b 0=b:=by
 unfold reapTo
 have:(fun k=>if 1≤k∧k≤0∧done b k=true then none else b.cs k)=b.cs:=by
  funext k
  rw [if_neg (by omega)]
 rw [this]
theorem reapTo_cs (b:Br) (j:Nat):(reapTo b j).cs (j+1)=b.cs (j+1):=by
 show (if 1≤j+1∧j+1≤j∧_ then _ else _)=_
 rw [if_neg (by omega)]
theorem reapTo_no (b:Br) (j:Nat) (h:done b (j+1)=false):reapTo b (j+1)=reapTo b j:=by
 unfold reapTo
 congr 1
 funext k
 by_cases e:k=j+1
 ·subst e
  rw [if_neg (by rw [h]; simp),if_neg (by omega)]
 ·by_cases h1:1≤k∧k≤j∧done b k=true
  ·rw [if_pos h1,if_pos ⟨h1.1,by omega,h1.2.2⟩]
  ·rw [if_neg h1,if_neg (fun h2=>h1 ⟨h2.1,by omega,h2.2.2⟩)]
theorem reapTo_yes (b:Br) (j:Nat) (h:done b (j+1)=true):reapTo b (j+1)=Bk.setc (reapTo b j) (j+1) none:=by
 unfold reapTo Bk.setc
 congr 1
 funext k
 by_cases e:k=j+1
 ·subst e
  rw [if_pos ⟨by omega,by omega,h⟩,if_pos rfl]
 ·rw [if_neg e]
  show _=(if 1≤k∧k≤j∧done b k=true then none else b.cs k)
  by_cases h1:1≤k∧k≤j∧done b k=true
  ·rw [if_pos h1,if_pos ⟨h1.1,by omega,h1.2.2⟩]
  ·rw [if_neg h1,if_neg (fun h2=>h1 ⟨h2.1,by omega,h2.2.2⟩)]
theorem BOk.reap {b:Br} (h:BOk b):BOk (reap b):=
 ⟨h.log,h.data,h.queue,h.input,h.idle,h.strikes,h.fok,h.rin,h.len,h.told,h.code,fun k c hc=>by
  replace hc:(if 1≤k∧k≤16∧done b k=true then none else b.cs k)=some c:=hc
  split at hc
  ·cases hc
  ·have:=h.cn k c hc; exact ⟨this.p,this.s,this.name,this.st⟩⟩
theorem BOk.settle {b:Br} (h:BOk b):BOk (settle b):=(BOk.goes (fun _ k h=>h.serve k) ids h.holder).holder.reap
end Bk
end
section
namespace Bk
open Fr
def fm (m:M):BitVec 8×Bs:=(BitVec.ofInt 8 m.k,Ms.body m.k m.a m.b m.t)
theorem enc_fr (m:M):enc m=fr (fm m).1 (fm m).2:=rfl
theorem kind_nat {k:Int} (h:1≤k∧k≤15):((BitVec.ofInt 8 k).toNat:Int)=k:=by
 rw [Ms.byte_nat];omega
theorem mof_fm {m:M} (h:m.ok=true):mof (fm m)=some m:=by
 have hk:=kind_nat (Ms.rt_k h);obtain ⟨h1,h2,h3,h4⟩:=Ms.of_body h;unfold mof
 show (if Ms.ofOk ((BitVec.ofInt 8 m.k).toNat:Int) (Ms.body m.k m.a m.b m.t)=true then _ else _)=_
 rw [hk,if_pos h4]
 show some (⟨((BitVec.ofInt 8 m.k).toNat:Int),Ms.ofA ((BitVec.ofInt 8 m.k).toNat:Int) (Ms.body m.k m.a m.b m.t),Ms.ofB ((BitVec.ofInt 8 m.k).toNat:Int) (Ms.body m.k m.a m.b m.t),Ms.ofT ((BitVec.ofInt 8 m.k).toNat:Int) (Ms.body m.k m.a m.b m.t)⟩:M)=some m
 rw [hk,h1,h2,h3]
theorem ok_len {m:M} (h:m.ok=true):(fm m).2.length≤2048:=Ms.body_le h
def encs (ms:List M):Bs:=ms.flatMap enc
theorem enc_len5 (m:M):(enc m).length=6 * Ms.nu m.k+m.t.length+5:=by
 rw [enc_fr,fr_len]
 show (Ms.body _ _ _ _).length+5=_
 rw [Ms.body_len]
theorem parse_is {s:Bs} {k n:Int} (h:Orm.Rt k n) (e:Orm.tx k n=s):parse s=some (k,n):=by
 have hex:∃ q:Int×Int,Orm.Rt q.1 q.2∧Orm.tx q.1 q.2=s:=⟨(k,n),h,e⟩
 unfold parse;rw [dif_pos hex];obtain ⟨h1,h2⟩:=hex.choose_spec;have:=Orm.tx_inj h1 h (h2.trans e.symm)
 congr 1
 exact Prod.ext this.1 this.2
theorem parse_rt {s:Bs} {k n:Int} (h:parse s=some (k,n)):Orm.Is s k n:=by
 unfold parse at h
 split at h
 ·next hex =>
  injection h with h
  have:=hex.choose_spec;rw [h] at this;exact this
 ·cases h
def In16 (b:Br):Prop:=∀ k,(b.cs k).isSome=true→1≤k∧k≤16
theorem ids_nodup:ids.Nodup:=by decide
def plus (m:M) (c:Cn):Cn:={ c with out:=c.out ++ enc m }
def Fits (b:Br) (m:M):Prop:=∀ k c,b.cs k=some c→c.st=1→c.out.length+(enc m).length≤b.cf.queue
theorem sendN_fits {n:Nat} {b:Br} {k:Nat} {c:Cn} {m:M} (hc:b.cs k=some c) (hst:c.st≠2) (hf:c.out.length+(enc m).length≤b.cf.queue):sendN n m b k=setc b k (some (plus m c)):=by
 unfold sendN sendW;rw [hc];simp [hst,hf,plus]
theorem send_fits {b:Br} {k:Nat} {c:Cn} {m:M} (hc:b.cs k=some c) (hst:c.st≠2) (hf:c.out.length+(enc m).length≤b.cf.queue):send m b k=setc b k (some (plus m c)):=sendN_fits hc hst hf
structure Rest (b:Br):Prop where
 told:fhold b.fl=b.told
 seen:∀ k c,b.cs k=some c→c.st=1→nextB b c=none
 gone:∀ k c,b.cs k=some c→c.st=2→c.out≠[]
theorem opn_cs {b:Br} {k:Nat} (h:opn b k=true):∃ c,b.cs k=some c∧c.st=1:=by
 unfold opn at h
 rcases e:b.cs k with _ | c
 ·rw [e] at h; cases h
 ·rw [e] at h; exact ⟨c,rfl,by simpa using h⟩
end Bk
end
section
namespace Bk
open Fr Lx
theorem setc_cs (b:Br) (k:Nat) (c:Option Cn):(setc b k c).cs k=c:=by show (if k=k then c else b.cs k)=c; rw [if_pos rfl]
theorem setc_ne (b:Br) (k:Nat) (c:Option Cn) {j:Nat} (h:j≠k):(setc b k c).cs j=b.cs j:=by show (if j=k then c else b.cs j)=b.cs j; rw [if_neg h]
theorem setc_two (b:Br) (k:Nat) (x y:Option Cn):setc (setc b k x) k y=setc b k y:=by
 unfold setc
 congr 1
 funext j
 by_cases e:j=k <;> simp [e]
theorem setc_as {b:Br} {k:Nat} {c:Cn} (hc:b.cs k=some c):setc b k (some c)=b:=by
 unfold setc
 have:(fun j=>if j=k then some c else b.cs j)=b.cs:=by
  funext j
  by_cases e:j=k
  ·subst e; rw [if_pos rfl,hc]
  ·rw [if_neg e]
 rw [this]
abbrev fd0:Fs:=⟨[],0⟩
theorem encs_one (m:M):encs [m]=enc m:=by unfold encs; simp
theorem connect_new {b:Br} {k:Nat} (h1:1≤k) (h2:k≤16) (hc:b.cs k=none):connectE b (k:Nat)=0∧connectB b (k:Nat)=setc b k (some cnew):=by
 have hk:((k:Nat):Int).toNat=k:=by omega
 have hE:connectE b (k:Nat)=0:=by
  unfold connectE isThere;rw [hk,hc,if_neg (by omega)];simp
 unfold connectB;rw [if_pos hE,hk];exact ⟨hE,rfl⟩
def welcome (k p:Nat) (r:Int):M:=⟨5,k,p,roleWord r⟩
theorem role_len (r:Int):(roleWord r).length≤8:=by unfold roleWord; (repeat' split) <;> decide
theorem welcome_len (k p:Nat) (r:Int):(enc (welcome k p r)).length≤25:=by
 rw [enc_len5];have:=role_len r
 show 6 * 2+(roleWord r).length+5≤25
 omega
theorem closed_len (c:Nat):(enc (closed c)).length=11:=by rw [enc_len5]; rfl
theorem notice_len (t:Bs):(enc (notice t)).length=t.length+5:=by rw [enc_len5]; show 6 * 0+t.length+5=_; omega
def joined (k:Nat) (t:Bs):M:=notice (wJoined ++ Dgs.dgs k ++ [32#8] ++ t)
def opened (c:Cn) (t:Bs) (p:Nat):Cn:={ c with st:=1,name:=t,p:=p,s:=0 }
noncomputable def comeAt (b:Br) (m:M):Nat:=viewAt b.L b.cf.log m.b (decide (m.a % 4=2∨m.a % 4=3))
def comeRole (b:Br) (m:M):Int:=firstRole b.fl (decide (m.a % 2=1))
def joinY (b4:Br) (k:Nat):Br:=if b4.ended then send (mexit b4.code) b4 k else b4
def joinX (b3:Br) (k:Nat):Br:=joinY (send (mfloor b3.told) b3 k) k
noncomputable def joinR (b1:Br) (k:Nat) (c:Cn) (m:M):Br:=
 joinX (send (welcome k (comeAt b1 m) (comeRole b1 m)) (setFl (setc b1 k (some (opened c m.t (comeAt b1 m)))) (fjoin b1.fl k (comeRole b1 m))) k) k
theorem joinB_eq (b:Br) (k:Nat) (m:M):joinB b k m=match (tell (joined k m.t) b).cs k with | none=>tell (joined k m.t) b | some c=>joinR (tell (joined k m.t) b) k c m:=by
 unfold joinB joined;generalize tell (notice (wJoined ++ Dgs.dgs k ++ [32#8] ++ m.t)) b=b1
 dsimp only
 rcases b1.cs k with _ | c
 ·rfl
 ·show _=joinR b1 k c m
  unfold joinR joinX joinY comeAt comeRole opened welcome setFl
  dsimp only
end Bk
end
section
namespace Bk
open Fr Lx
def gone (b:Br) (k:Nat) (c:Cn):Br:=if c.st=1 then setFl (setc b k (some { c with st:=2 })) (fleave b.fl k) else setc b k (some { c with st:=2 })
def FlStep (s s':Fl):Prop:=(∃ id,s'=fask s id)∨(∃ id,s'=fdrop s id)∨(∃ id,s'=fgive s id)∨s'=frev s∨(∃ id r,s'=fset s id r)∨s'=ftick s
structure KCore (P:Br→Prop):Prop where
 gone:∀ b k c,P b→b.cs k=some c→1≤k→k≤16→P (gone b k c)
 plus:∀ b k c m,P b→b.cs k=some c→c.st≠2→c.out.length+(enc m).length≤b.cf.queue→P (setc b k (some (plus m c)))
 told:∀ b,P b→P (toldB b)
 served:∀ b k c m p s,P b→b.cs k=some c→c.st=1→nextB b c=some (m,p,s)→P (served b k c m p s)
 reap:∀ b,P b→P (reap b)
theorem keep_goes {P:Br→Prop} {f:Br→Nat→Br} (hf:∀ b k,P b→1≤k→k≤16→opn b k=true→P (f b k)):∀ (l:List Nat) {b:Br},(∀ k∈l,1≤k∧k≤16)→P b→P (goes f b l)
  | [],_,_,h=>h
  | k :: l,b,hl,h=>by
    show P (goes f (if opn b k then f b k else b) l)
    refine keep_goes hf l (fun j hj=>hl j (List.mem_cons_of_mem _ hj)) ?_
    split
    · next ho=>exact hf b k h (hl k List.mem_cons_self).1 (hl k List.mem_cons_self).2 ho
    · exact h
section
variable {P:Br→Prop} (K:KCore P)
include K
theorem KCore.leaveW {tl:M→Br→Br} (ht:∀ m b,P b→P (tl m b)) {b:Br} (h:P b) {k:Nat} (h1:1≤k) (h2:k≤16):P (leaveW tl b k):=by
 unfold Bk.leaveW
 rcases hc:b.cs k with _ | c
 ·exact h
 ·have hg:=K.gone b k c h hc h1 h2
  unfold Bk.gone at hg
  show P (if c.st=1 then tl (left k) (setFl (setc b k (some { c with st:=2 })) (fleave b.fl k)) else setc b k (some { c with st:=2 }))
  by_cases hst:c.st=1
  ·rw [if_pos hst] at hg ⊢
   exact ht _ _ hg
  ·rw [if_neg hst] at hg ⊢
   exact hg
theorem KCore.sendW {lv:Br→Nat→Br} (hl:∀ b k,P b→1≤k→k≤16→P (lv b k)) (m:M) {b:Br} (h:P b) {k:Nat} (h1:1≤k) (h2:k≤16):P (sendW lv m b k):=by
 unfold Bk.sendW
 rcases hc:b.cs k with _ | c
 ·exact h
 ·show P (if c.st=2 then b else if c.out.length+(enc m).length≤b.cf.queue then setc b k (some (Bk.plus m c)) else lv b k)
  split
  ·exact h
  ·next hst =>
   split
   ·next hf=>exact K.plus b k c m h hc hst hf
   ·exact hl b k h h1 h2
theorem KCore.tellN:∀ (n:Nat) (m:M) (b:Br),P b→P (tellN n m b)
 | 0,_,_,h=>h
 | n+1,m,_,h=>keep_goes (P:=P) (fun _ _ hb h1 h2 _=>K.sendW (fun _ _ hb h1 h2=>K.leaveW (KCore.tellN n) hb h1 h2) m hb h1 h2) ids ids_in h
theorem KCore.tell (m:M) {b:Br} (h:P b):P (tell m b):=K.tellN 17 m b h
theorem KCore.leave {b:Br} (h:P b) {k:Nat} (h1:1≤k) (h2:k≤16):P (leave b k):=K.leaveW (K.tellN 16) h h1 h2
theorem KCore.send (m:M) {b:Br} (h:P b) {k:Nat} (h1:1≤k) (h2:k≤16):P (send m b k):=K.sendW (fun _ _ hb h1 h2=>K.leaveW (K.tellN 16) hb h1 h2) m h h1 h2
theorem KCore.shut {b:Br} (h:P b) {k:Nat} (h1:1≤k) (h2:k≤16) (why:Nat):P (shut b k why):=K.leave (K.send _ h h1 h2) h1 h2
theorem KCore.holderN:∀ (n:Nat) {b:Br},P b→P (holderN n b)
  | 0,_,h=>h
  | n+1,b,h=>by
    show P (if _ then b else Bk.holderN n (Bk.tell (mfloor (fhold b.fl)) (toldB b)))
    split
    · exact h
    · exact KCore.holderN n (K.tell _ (K.told b h))
theorem KCore.holder {b:Br} (h:P b):P (holder b):=K.holderN 18 h
theorem KCore.serveN:∀ (n:Nat) {b:Br} {k:Nat},P b→1≤k→k≤16→opn b k=true→P (serveN n b k)
  | 0,_,_,h,_,_,_=>h
  | n+1,b,k,h,h1,h2,ho=>by
    obtain ⟨c,hc,hst⟩:=opn_cs ho;rw [serveN_succ n b k hc]
    rcases hn:nextB b c with _ | ⟨m,p,s⟩
    · exact h
    · have hs:=K.served b k c m p s h hc hst hn
      show P (if m.k=12 then Bk.leave (Bk.served b k c m p s) k else Bk.serveN n (Bk.served b k c m p s) k)
      split
      · exact K.leave hs h1 h2
      · refine KCore.serveN n hs h1 h2 ?_
        unfold Bk.served;rw [opn_setc,if_pos rfl]
        show decide ((putc b.cf.queue { c with p:=p,s:=s } (enc m)).st=1)=true
        rw [(putc_same b.cf.queue { c with p:=p,s:=s } (enc m)).1]
        simpa using hst
theorem KCore.settle {b:Br} (h:P b):P (settle b):=
 K.reap _ (K.holder (keep_goes (P:=P) (fun _ _ hb h1 h2 ho=>K.serveN _ hb h1 h2 ho) ids ids_in (K.holder h)))
theorem KCore.write {b:Br} (h:P b) (id n:Int) (ho:∀ k c,1≤k→k≤16→id=(k:Nat)→b.cs k=some c→P (setc b k (some { c with out:=c.out.drop (takeN n c.out.length) }))):P (writeB b id n):=by
 unfold writeB
 by_cases ht:isThere b id=true
 ·rw [if_pos ht]
  have h0:1≤id∧id≤16:=by unfold isThere at ht; simp at ht; exact ht.1
  rcases hc:b.cs id.toNat with _ | c
  ·exact h
  ·exact K.settle (ho id.toNat c (by omega) (by omega) (by omega) hc)
 ·rw [if_neg ht]; exact h
theorem KCore.cut {b:Br} (h:P b) (id:Int) (hcut:∀ b k c,P b→b.cs k=some c→c.st=2→P (setc b k none)):P (cutB b id):=by
 unfold cutB
 by_cases ht:isThere b id=true
 ·rw [if_pos ht]
  have h0:1≤id∧id≤16:=by unfold isThere at ht; simp at ht; exact ht.1
  obtain ⟨k,hk⟩:∃ k,id.toNat=k:=⟨_,rfl⟩
  rw [hk]
  have h1:1≤k:=by omega
  have h2:k≤16:=by omega
  have hl:=K.leave h h1 h2;refine K.settle ?_
  have hs:((Bk.leave b k).cs k).isSome=true:=by
   show ((leaveN 16 b k).cs k).isSome=true
   rw [(leaveN_le 16 b k).some k];unfold isThere at ht;rw [hk] at ht;simp at ht;exact ht.2
  obtain ⟨c,hc⟩:=Option.isSome_iff_exists.1 hs;refine hcut _ k c hl hc ?_;have:((leaveN 16 b k).cs k)=some c:=hc;unfold leaveN Bk.leaveW at this
  rcases hc0:b.cs k with _ | c0
  ·rw [hc0] at this; cases (hc0.symm.trans this)
  ·rw [hc0] at this
   by_cases hst:c0.st=1
   ·simp only [hst,if_true] at this
    obtain ⟨c1,h3,h4⟩:=(tellN_le 16 (left k) _).cn k c this;replace h3:(setc b k (some { c0 with st:=2 })).cs k=some c1:=h3;rw [setc_cs] at h3
    injection h3 with h3
    rcases h4.st with e | e
    ·rw [e,← h3]
    ·exact e
   ·simp only [hst,if_false] at this
    rw [setc_cs] at this
    injection this with this
    rw [← this]
 ·rw [if_neg ht]; exact h
theorem KCore.output {b:Br} (h:P b) (t:Bs) (hL:b.ended=false→P { b with L:=b.L ++ t,sp:=Sp.nxts b.sp t }):P (outputB b t):=by
 unfold outputB
 by_cases he:b.ended=true
 ·rw [if_pos he]; exact h
 ·rw [if_neg he]; exact K.settle (hL (by simpa using he))
theorem KCore.ends {b:Br} (h:P b) (code:Int) (hE:∀ n:Nat,n≤255→b.ended=false→P { b with ended:=true,code:=n,inp:=[] }):P (endB b code):=by
 unfold endB
 by_cases he:endE b code=0
 ·rw [if_pos he]
  have h0:b.ended=false∧¬ (code<0∨255<code):=by
   unfold endE at he
   split at he
   ·cases he
   ·next hn =>
    split at he
    ·cases he
    ·next hc=>exact ⟨by simpa using hn,hc⟩
  exact K.settle (K.tell _ (hE code.toNat (by omega) h0.1))
 ·rw [if_neg he]; exact h
theorem KCore.tick {b:Br} (hf:P { b with fl:=ftick b.fl }) (hi:∀ b k c,P b→b.cs k=some c→P (setc b k (some { c with idle:=c.idle+1 }))):P (tickB b):=by
  unfold tickB;refine K.settle ?_
  have key:∀ (l:List Nat) (b:Br),(∀ k∈l,1≤k∧k≤16)→P b→P (l.foldl tickC b):=by
    intro l
    induction l with
    | nil=>exact fun _ _ h=>h
    | cons k l ih =>
      intro b hl hb;refine ih _ (fun j hj=>hl j (List.mem_cons_of_mem _ hj)) ?_;obtain ⟨h1,h2⟩:=hl k List.mem_cons_self;unfold tickC
      rcases hc:b.cs k with _ | c
      · exact hb
      · have:=hi b k c hb hc
        show P (if _ then Bk.shut (setc b k (some { c with idle:=c.idle+1 })) k 6 else setc b k (some { c with idle:=c.idle+1 }))
        split
        · exact K.shut this h1 h2 6
        · exact this
  exact key ids _ ids_in hf
end
theorem keep_connect {P:Br→Prop} {b:Br} (h:P b) (id:Int) (hn:∀ k,1≤k→k≤16→b.cs k=none→P (setc b k (some cnew))):P (connectB b id):=by
 unfold connectB
 by_cases he:connectE b id=0
 ·rw [if_pos he]
  unfold connectE at he
  split at he
  ·cases he
  ·next h0 =>
   split at he
   ·cases he
   ·next ht =>
    refine hn id.toNat (by omega) (by omega) ?_;unfold isThere at ht
    rcases hc:b.cs id.toNat with _ | c
    ·rfl
    ·rw [hc] at ht
     simp at ht;omega
 ·rw [if_neg he]; exact h
structure KMost (P:Br→Prop):Prop extends KCore P where
 lx:∀ b k c t,P b→b.cs k=some c→P (setc b k (some { c with lx:=lrun c.lx t }))
 join:∀ b k c t p r,P b→b.cs k=some c→1≤k→k≤16→c.st=0→t.length≤20→isName t=true→p≤b.L.length→0≤r→r≤2→P (setFl (setc b k (some (opened c t p))) (fjoin b.fl k r))
 fl:∀ b s,P b→FlStep b.fl s→P (setFl b s)
 again:∀ b k c p,P b→b.cs k=some c→p≤b.L.length→P (setc b k (some { c with p:=p }))
 strikes:∀ b n,P b→n≤9→P { b with strikes:=n }
structure KTake (P:Br→Prop):Prop extends KMost P where
 typed:∀ b ks,P b→b.ended=false→b.inp.length+ks.length≤b.cf.input→P { b with inp:=b.inp ++ ks,tot:=b.tot+ks.length }
structure KAll (P:Br→Prop):Prop extends KTake P where
 idle0:∀ b k c,P b→b.cs k=some c→P (setc b k (some { c with idle:=0 }))
 fd:∀ b k c t,P b→b.cs k=some c→P (setc b k (some { c with fd:=fpush c.fd t }))
end Bk
end
section
namespace Bk
open Fr
theorem nodup_le:∀ (l m:List Int),l.Nodup→(∀ x∈l,x∈m)→l.length≤m.length
  | [],_,_,_=>Nat.zero_le _
  | a :: l,m,hn,hs=>by
    have hn':=List.nodup_cons.1 hn;have ha:=hs a (List.mem_cons_self ..)
    have:=nodup_le l (m.erase a) hn'.2 fun x hx=>(List.mem_erase_of_ne (fun e=>hn'.1 (by rw [← e]; exact hx))).2 (hs x (List.mem_cons_of_mem _ hx))
    rw [List.length_erase_of_mem ha] at this;have:=List.length_pos_of_mem ha;simp only [List.length_cons];omega
def six:List Int:=[1,2,3,4,5,6,7,8,9,10,11,12,13,14,15,16]
theorem mem_six {i:Int} (h1:1≤i) (h2:i≤16):i∈six:=by
 unfold six;simp only [List.mem_cons,List.not_mem_nil,or_false];omega
theorem rising_keys:∀ {l:List (Int×Int)},Rising l→(l.map (·.1)).Nodup
  | [],_=>List.nodup_nil
  | p :: l,h=>by
    have h:=List.pairwise_cons.1 h;refine List.nodup_cons.2 ⟨fun hm=>?_,rising_keys h.2⟩;obtain ⟨q,hq,e⟩:=List.mem_map.1 hm;have:=h.1 q hq
    dsimp only at e this
    omega
theorem fok_few {n:Nat} {s:Fl} (h:FOk n s) (hr:RIn s):FOk 16 s:=by
 refine ⟨h.l1,h.l2,h.left,h.zero,h.rising,h.nodup,h.mem,h.ids,?_,?_⟩
 ·have:=nodup_le _ six (rising_keys h.rising) fun x hx=>by
   obtain ⟨q,hq,e⟩:=List.mem_map.1 hx;have:=hr q hq;subst e;exact mem_six this.1 this.2
  rw [List.length_map] at this;exact this
 ·exact nodup_le _ six h.nodup fun x hx=>by
   have:=hr _ (rhas_of_mem (h.mem x hx).1);exact mem_six this.1 this.2
theorem fok_step {s s':Fl} (h:FOk 16 s) (hr:RIn s) (hs:FlStep s s'):FOk 16 s'∧RIn s':=by
 rcases hs with ⟨id,rfl⟩ | ⟨id,rfl⟩ | ⟨id,rfl⟩ | rfl | ⟨id,r,rfl⟩ | rfl
 ·have hr':RIn (fask s id):=by unfold fask; split <;> exact hr
  exact ⟨fok_few (h.ask id) hr',hr'⟩
 ·have hr':RIn (fdrop s id):=by
   unfold fdrop fout outAt
   repeat' split
   all_goals exact hr
  exact ⟨h.drop id,hr'⟩
 ·have hr':RIn (fgive s id):=by unfold fgive; split <;> exact hr
  exact ⟨fok_few (h.give id) hr',hr'⟩
 ·have hr':RIn (frev s):=by
   unfold frev outAt
   repeat' split
   all_goals exact hr
  exact ⟨h.rev,hr'⟩
 ·have hr':RIn (fset s id r):=by
   by_cases hs:sets s id r=true
   ·have hp:RIn (frole s id r):=by
     intro p hp;have hi:=rhas_of_mem (show rhas s.roles id=true by unfold sets at hs; simp at hs; exact hs.1)
     rcases rput_mem hp with h1 | h1
     ·rw [h1]; have:=hr (id,rrole s.roles id) hi; exact this
     ·exact hr p h1
    unfold fset fout outAt
    repeat' split
    all_goals exact hp
   ·unfold fset
    rw [if_neg hs];exact hr
  exact ⟨h.set id r,hr'⟩
 ·have hr':RIn (ftick s):=by
   unfold ftick outAt
   repeat' split
   all_goals exact hr
  exact ⟨h.tick,hr'⟩
theorem BOk.fl {b:Br} (h:BOk b) {s:Fl} (hs:FlStep b.fl s):BOk (setFl b s):=by
 have:=fok_step h.fok h.rin hs;exact ⟨h.log,h.data,h.queue,h.input,h.idle,h.strikes,this.1,this.2,h.len,h.told,h.code,fun k c hc=>by have:=h.cn k c hc; exact ⟨this.p,this.s,this.name,this.st⟩⟩
theorem BOk.listB {b:Br} (h:BOk b) (k:Nat):BOk (Bk.listB b k):=by
 unfold Bk.listB;exact BOk.goes (fun _ _ h=>h.send _ k) _ h
theorem startOf_le (n log:Nat) (back:Int):startOf n log back≤n:=by
 unfold startOf;omega
theorem p_ite {P:Br×Bool→Prop} {c:Prop} [Decidable c] {x y:Br×Bool} (hx:c→P x) (hy:¬ c→P y):P (if c then x else y):=by
 by_cases h:c
 ·rw [if_pos h]; exact hx h
 ·rw [if_neg h]; exact hy h
theorem BOk.doB {b:Br} (h:BOk b) (k:Nat):∀ o:Option (Int×Int),BOk (Bk.doB b k o).1
  | none=>h
  | some (kind,n)=>by
    unfold Bk.doB
    refine p_ite (P:=fun x:Br×Bool=>BOk x.1) (fun _=>h) fun hn=>?_
    refine p_ite (P:=fun x:Br×Bool=>BOk x.1) (fun _=>h.fl (.inl ⟨_,rfl⟩)) fun hn=>?_
    refine p_ite (P:=fun x:Br×Bool=>BOk x.1) (fun _=>h.fl (.inr (.inl ⟨_,rfl⟩))) fun hn=>?_
    refine p_ite (P:=fun x:Br×Bool=>BOk x.1) (fun _=>h.listB k) fun hn=>?_
    refine p_ite (P:=fun x:Br×Bool=>BOk x.1) (fun _=>h.shut k 0) fun hn=>?_
    refine p_ite (P:=fun x:Br×Bool=>BOk x.1) (fun _=>h.fl (.inr (.inr (.inr (.inl rfl))))) fun hn=>?_
    refine p_ite (P:=fun x:Br×Bool=>BOk x.1) (fun _=>?_) fun hn=>?_
    · dsimp only
      rcases hc:b.cs k with _ | c
      · exact h
      · have hk:=h.cn k c hc
        exact h.setc k ⟨startOf_le _ _ _,hk.s,hk.name,hk.st⟩
    refine p_ite (P:=fun x:Br×Bool=>BOk x.1) (fun _=>p_ite (P:=fun x:Br×Bool=>BOk x.1) (fun _=>h) fun h9=>⟨h.log,h.data,h.queue,h.input,h.idle,?_,h.fok,h.rin,h.len,h.told,h.code,fun k c hc=>by have:=h.cn k c hc; exact ⟨this.p,this.s,this.name,this.st⟩⟩) fun hn=>?_
    · show n.toNat≤9
      omega
    rcases hj:userB b n with _ | j
    · exact h
    · refine p_ite (P:=fun x:Br×Bool=>BOk x.1) (fun _=>h.fl (.inr (.inr (.inl ⟨_,rfl⟩)))) fun hn=>?_
      refine p_ite (P:=fun x:Br×Bool=>BOk x.1) (fun _=>h.shut j 5) fun hn=>?_
      refine p_ite (P:=fun x:Br×Bool=>BOk x.1) (fun _=>h.fl (.inr (.inr (.inr (.inr (.inl ⟨_,_,rfl⟩)))))) fun hn=>?_
      refine p_ite (P:=fun x:Br×Bool=>BOk x.1) (fun _=>h.fl (.inr (.inr (.inr (.inr (.inl ⟨_,_,rfl⟩)))))) fun hn=>?_
      exact h
noncomputable def stepC (b:Br) (k:Nat) (s:Bs):Br:=holder (if (doB b k (parse s)).2 then (doB b k (parse s)).1 else send ⟨11,0,0,s⟩ (doB b k (parse s)).1 k)
theorem cmds_cons (b:Br) (k:Nat) (s:Bs) (ss:List Bs):cmds b k (s :: ss)=if opn b k then cmds (stepC b k s) k ss else b:=rfl
theorem cmds_shut {b:Br} {k:Nat} (h:opn b k=false):∀ l,cmds b k l=b
 | []=>rfl
 | s :: ss=>by rw [cmds_cons,h]; rfl
theorem cmds_app (k:Nat):∀ (l:List Bs) (b:Br) (r:List Bs),cmds b k (l ++ r)=cmds (cmds b k l) k r
  | [],_,_=>rfl
  | s :: l,b,r=>by
    rw [List.cons_append,cmds_cons,cmds_cons]
    by_cases h:opn b k=true
    · rw [if_pos h,if_pos h,cmds_app k l]
    · rw [if_neg h,if_neg h,cmds_shut (by simpa using h)]
theorem BOk.stepC {b:Br} (h:BOk b) (k:Nat) (s:Bs):BOk (Bk.stepC b k s):=by
 unfold Bk.stepC;refine BOk.holder ?_
 split
 ·exact h.doB k _
 ·exact (h.doB k _).send _ k
theorem BOk.cmds {k:Nat}:∀ (l:List Bs) {b:Br},BOk b→BOk (Bk.cmds b k l)
  | [],_,h=>h
  | s :: l,b,h=>by
    rw [cmds_cons]
    split
    · exact BOk.cmds l (h.stepC k s)
    · exact h
noncomputable def cmdsTo (b:Br) (k:Nat) (l:List Bs) (j:Nat):Br:=cmds b k (l.take j)
theorem cmdsTo_all (b:Br) (k:Nat) (l:List Bs):cmdsTo b k l l.length=cmds b k l:=by unfold cmdsTo; rw [List.take_length]
theorem cmdsTo_next {b:Br} {k:Nat} {l:List Bs} {j:Nat} {s:Bs} (hs:l[j]?=some s) (ho:opn (cmdsTo b k l j) k=true):cmdsTo b k l (j+1)=stepC (cmdsTo b k l j) k s:=by
 unfold cmdsTo at *;obtain ⟨hj,e⟩:=List.getElem?_eq_some_iff.1 hs;rw [List.take_add_one,hs,Option.toList_some,cmds_app,cmds_cons,if_pos ho];rfl
theorem cmdsTo_stop {b:Br} {k:Nat} {l:List Bs} {j:Nat} (ho:opn (cmdsTo b k l j) k=false):cmds b k l=cmdsTo b k l j:=by
 unfold cmdsTo at *
 conv=>lhs; rw [← List.take_append_drop j l,cmds_app,cmds_shut ho]
theorem lcmd_short (s:Lx.Lx) (c:BitVec 8):∀ x∈Lx.lcmd s c,x.length≤80:=by
 intro x hx;unfold Lx.lcmd at hx
 split at hx
 ·cases hx
 split at hx
 ·cases hx
 split at hx
 ·rw [List.mem_singleton.1 hx]
  unfold Lx.shut
  split
  ·exact Nat.zero_le _
  ·omega
 ·cases hx
theorem lcmds_short:∀ (t:Bs) (s:Lx.Lx),∀ x∈Lx.lcmds s t,x.length≤80
  | [],_,_,h=>by cases h
  | c :: t,s,x,h=>by
    rcases List.mem_append.1 h with h | h
    · exact lcmd_short s c x h
    · exact lcmds_short t _ x h
def offered (b:Br) (k:Nat) (a:Int) (ks:Bs):Br:=if ks=[] then b else if whyB b k ks.length=0 then { b with inp:=b.inp ++ ks,tot:=b.tot+ks.length } else send ⟨8,a,whyB b k ks.length,[]⟩ b k
theorem keysB_eq {b:Br} {k:Nat} {c:Cn} (hc:b.cs k=some c) (m:M):keysB b k m=cmds (offered (setc b k (some { c with lx:=Lx.lrun c.lx m.t })) k m.a (Lx.lkeys c.lx m.t)) k (Lx.lcmds c.lx m.t):=by
 unfold keysB;rw [hc];rfl
theorem BOk.offered {b:Br} (h:BOk b) (k:Nat) (a:Int) (ks:Bs):BOk (Bk.offered b k a ks):=by
 unfold Bk.offered
 split
 ·exact h
 split
 ·exact ⟨h.log,h.data,h.queue,h.input,h.idle,h.strikes,h.fok,h.rin,h.len,h.told,h.code,fun k c hc=>by have:=h.cn k c hc; exact ⟨this.p,this.s,this.name,this.st⟩⟩
 ·exact h.send _ k
theorem BOk.lexed {b:Br} (h:BOk b) {k:Nat} {c:Cn} (hc:b.cs k=some c) (l:Lx.Lx):BOk (Bk.setc b k (some { c with lx:=l })):=by
 have hk:=h.cn k c hc;exact h.setc k ⟨hk.p,hk.s,hk.name,hk.st⟩
end Bk
end
section
namespace Bk
open Fr Lx
theorem opn_of_cs {b b':Br} {k:Nat} (h:b'.cs k=b.cs k):opn b' k=opn b k:=by unfold opn; rw [h]
theorem goes_shut {f:Br→Nat→Br} (hf:∀ b j k,opn b k=false→j≠k→(f b j).cs k=b.cs k):∀ (l:List Nat) (b:Br) (k:Nat),opn b k=false→(goes f b l).cs k=b.cs k
  | [],_,_,_=>rfl
  | j :: l,b,k,h=>by
    show (goes f (if opn b j then f b j else b) l).cs k=b.cs k
    by_cases hj:opn b j=true
    · rw [if_pos hj]
      have e:=hf b j k h (fun e=>by rw [e,h] at hj; cases hj);rw [goes_shut hf l _ k (by rw [opn_of_cs e]; exact h),e]
    · rw [if_neg hj]
      exact goes_shut hf l b k h
theorem leaveW_shut {tl:M→Br→Br} (ht:∀ m b k,opn b k=false→(tl m b).cs k=b.cs k) (b:Br) (j k:Nat) (h:opn b k=false) (hne:j≠k):(leaveW tl b j).cs k=b.cs k:=by
 unfold leaveW
 rcases hc:b.cs j with _ | c
 ·rfl
 ·have e:(setc b j (some { c with st:=2 })).cs k=b.cs k:=setc_ne b j _ (fun h=>hne h.symm)
  show (if c.st=1 then tl (left j) (setFl (setc b j (some { c with st:=2 })) (fleave b.fl j)) else setc b j (some { c with st:=2 })).cs k=b.cs k
  split
  ·rw [ht _ _ k (by rw [opn_of_cs (b:=b)]; exact h; exact e)]
   exact e
  ·exact e
theorem sendW_shut {lv:Br→Nat→Br} (hl:∀ b j k,opn b k=false→j≠k→(lv b j).cs k=b.cs k) (m:M) (b:Br) (j k:Nat) (h:opn b k=false) (hne:j≠k):(sendW lv m b j).cs k=b.cs k:=by
 unfold sendW
 rcases hc:b.cs j with _ | c
 ·rfl
 ·show (if c.st=2 then b else if c.out.length+(enc m).length≤b.cf.queue then setc b j (some { c with out:=c.out ++ enc m }) else lv b j).cs k=b.cs k
  split
  ·rfl
  ·split
   ·exact setc_ne b j _ (fun h=>hne h.symm)
   ·exact hl b j k h hne
theorem tellN_shut:∀ (n:Nat) (m:M) (b:Br) (k:Nat),opn b k=false→(tellN n m b).cs k=b.cs k
 | 0,_,_,_,_=>rfl
 | n+1,m,b,k,h=>goes_shut (fun b j k h hne=>sendW_shut (fun b j k h hne=>leaveW_shut (tellN_shut n) b j k h hne) m b j k h hne) ids b k h
theorem tell_shut (m:M) {b:Br} {k:Nat} (h:opn b k=false):(tell m b).cs k=b.cs k:=tellN_shut 17 m b k h
theorem mof_ok {f:BitVec 8×Bs} {m:M} (h:mof f=some m):m.ok=true∧m.t.length≤f.2.length:=by
 unfold mof at h
 split at h
 ·next hk =>
  injection h with h
  subst h;unfold Ms.ofOk at hk;rw [Bool.and_eq_true] at hk;refine ⟨hk.2,?_⟩
  show (Ms.ofT _ _).length≤_
  unfold Ms.ofT;rw [List.length_drop];omega
 ·cases h
theorem viewAt_le (L:Bs) (log:Nat) (back:Int) (line:Bool):viewAt L log back line≤L.length:=by
 unfold viewAt
 split
 ·unfold lineAt
  split
  ·next h=>exact h.choose_spec.1
  ·exact Nat.zero_le _
 ·exact startOf_le _ _ _
theorem firstRole_in (s:Fl) (w:Bool):0≤firstRole s w∧firstRole s w≤2:=by
 unfold firstRole
 repeat' split
 all_goals exact ⟨by decide,by decide⟩
section
variable {P:Br→Prop} (K:KMost P)
include K
theorem KMost.listB {b:Br} (h:P b) {k:Nat} (h1:1≤k) (h2:k≤16):P (Bk.listB b k):=by
 unfold Bk.listB;exact keep_goes (P:=P) (f:=fun b j=>Bk.send (notice (listLine b j)) b k) (fun b j hb _ _ _=>K.send (notice (listLine b j)) hb h1 h2) ids ids_in h
theorem KMost.doB {b:Br} (h:P b) {k:Nat} (h1:1≤k) (h2:k≤16) (o:Option (Int×Int)):P (Bk.doB b k o).1:=by
 rcases o with _ | ⟨kind,n⟩
 ·exact h
 unfold Bk.doB
 refine p_ite (P:=fun x:Br×Bool=>P x.1) (fun _=>h) fun hn=>?_
 refine p_ite (P:=fun x:Br×Bool=>P x.1) (fun _=>K.fl b (fask b.fl k) h (.inl ⟨_,rfl⟩)) fun hn=>?_
 refine p_ite (P:=fun x:Br×Bool=>P x.1) (fun _=>K.fl b (fdrop b.fl k) h (.inr (.inl ⟨_,rfl⟩))) fun hn=>?_
 refine p_ite (P:=fun x:Br×Bool=>P x.1) (fun _=>K.listB h h1 h2) fun hn=>?_
 refine p_ite (P:=fun x:Br×Bool=>P x.1) (fun _=>K.shut h h1 h2 0) fun hn=>?_
 refine p_ite (P:=fun x:Br×Bool=>P x.1) (fun _=>K.fl b (frev b.fl) h (.inr (.inr (.inr (.inl rfl))))) fun hn=>?_
 refine p_ite (P:=fun x:Br×Bool=>P x.1) (fun _=>?_) fun hn=>?_
 ·dsimp only
  rcases hc:b.cs k with _ | c
  ·exact h
  ·exact K.again b k c _ h hc (startOf_le _ _ _)
 refine p_ite (P:=fun x:Br×Bool=>P x.1) (fun _=>p_ite (P:=fun x:Br×Bool=>P x.1) (fun _=>h) fun h9=>K.strikes b n.toNat h (by omega)) fun hn=>?_
 rcases hj:userB b n with _ | j
 ·exact h
 ·have hj2:1≤j∧j≤16:=by
   unfold userB at hj
   split at hj
   ·injection hj with hj; omega
   ·cases hj
  refine p_ite (P:=fun x:Br×Bool=>P x.1) (fun _=>K.fl b (fgive b.fl j) h (.inr (.inr (.inl ⟨_,rfl⟩)))) fun hn=>?_
  refine p_ite (P:=fun x:Br×Bool=>P x.1) (fun _=>K.shut h hj2.1 hj2.2 5) fun hn=>?_
  refine p_ite (P:=fun x:Br×Bool=>P x.1) (fun _=>K.fl b (fset b.fl j 1) h (.inr (.inr (.inr (.inr (.inl ⟨_,_,rfl⟩)))))) fun hn=>?_
  refine p_ite (P:=fun x:Br×Bool=>P x.1) (fun _=>K.fl b (fset b.fl j 0) h (.inr (.inr (.inr (.inr (.inl ⟨_,_,rfl⟩)))))) fun hn=>?_
  exact h
theorem KMost.stepC {b:Br} (h:P b) {k:Nat} (h1:1≤k) (h2:k≤16) (s:Bs):P (Bk.stepC b k s):=by
 unfold Bk.stepC;refine K.holder ?_
 split
 ·exact K.doB h h1 h2 _
 ·exact K.send _ (K.doB h h1 h2 _) h1 h2
theorem KMost.cmds {k:Nat} (h1:1≤k) (h2:k≤16):∀ (l:List Bs) {b:Br},P b→P (Bk.cmds b k l)
  | [],_,h=>h
  | s :: l,b,h=>by
    rw [cmds_cons]
    split
    · exact KMost.cmds h1 h2 l (K.stepC h h1 h2 s)
    · exact h
theorem KMost.joinB {b:Br} (h:P b) {k:Nat} {c:Cn} {m:M} (hc:b.cs k=some c) (hst:c.st=0) (h1:1≤k) (h2:k≤16) (hm:m.ok=true) (hm1:m.k=1) (hn:isName m.t=true):P (Bk.joinB b k m):=by
 have ho:opn b k=false:=by unfold opn; rw [hc]; simp [hst]
 have hc1:=(tell_shut (joined k m.t) ho).trans hc;have hP1:=K.tell (joined k m.t) h
 have ht:m.t.length≤20:=by have:=Ms.rt_n hm; rw [hm1] at this; exact this
 rw [joinB_eq,hc1];have hr:=firstRole_in (Bk.tell (joined k m.t) b).fl (decide (m.a % 2=1));have hJ:=K.join _ k c m.t (comeAt (Bk.tell (joined k m.t) b) m) (comeRole (Bk.tell (joined k m.t) b) m) hP1 hc1 h1 h2 hst ht hn (viewAt_le _ _ _ _) hr.1 hr.2;have hX:=K.send (welcome k (comeAt (Bk.tell (joined k m.t) b) m) (comeRole (Bk.tell (joined k m.t) b) m)) hJ h1 h2;have hY:=K.send (mfloor (Bk.send (welcome k (comeAt (Bk.tell (joined k m.t) b) m) (comeRole (Bk.tell (joined k m.t) b) m)) (setFl (setc (Bk.tell (joined k m.t) b) k (some (opened c m.t (comeAt (Bk.tell (joined k m.t) b) m)))) (fjoin (Bk.tell (joined k m.t) b).fl k (comeRole (Bk.tell (joined k m.t) b) m))) k).told) hX h1 h2
 show P (joinR (Bk.tell (joined k m.t) b) k c m)
 unfold joinR joinX joinY
 split
 ·exact K.send _ hY h1 h2
 ·exact hY
theorem KMost.hello {b:Br} (h:P b) {k:Nat} {c:Cn} {m:M} (hc:b.cs k=some c) (hst:c.st=0) (h1:1≤k) (h2:k≤16) (hm:m.ok=true):P (Bk.hello b k m):=by
 unfold Bk.hello
 split
 ·exact K.shut h h1 h2 4
 ·next hk1 =>
  split
  ·exact K.shut h h1 h2 2
  ·split
   ·exact K.shut h h1 h2 3
   ·next hn=>exact K.joinB h hc hst h1 h2 hm (by omega) (by simpa using hn)
theorem KMost.takeB {b:Br} (h:P b) {k:Nat} (h1:1≤k) (h2:k≤16) {mo:Option M} (hm:∀ m,mo=some m→m.ok=true) (hkey:∀ m,mo=some m→m.k=2→P (Bk.keysB b k m)):P (Bk.takeB b k mo):=by
 unfold Bk.takeB
 rcases mo with _ | m
 ·exact K.shut h h1 h2 4
 ·show P (if (match b.cs k with | some c=>decide (c.st=0) | none=>false)=true then Bk.hello b k m else if m.k=2 then Bk.keysB b k m else if m.k=3 then Bk.send ⟨14,0,0,[]⟩ b k else if m.k=4 then Bk.shut b k 0 else Bk.shut b k 4)
  rcases hc:b.cs k with _ | c
  ·dsimp only
   rw [if_neg (by decide)]
   split
   ·next h2k=>exact hkey m rfl h2k
   split
   ·exact K.send _ h h1 h2
   split
   ·exact K.shut h h1 h2 0
   ·exact K.shut h h1 h2 4
  ·dsimp only
   by_cases hst:c.st=0
   ·rw [if_pos (by simpa using hst)]
    exact K.hello h hc hst h1 h2 (hm m rfl)
   ·rw [if_neg (by simpa using hst)]
    split
    ·next h2k=>exact hkey m rfl h2k
    split
    ·exact K.send _ h h1 h2
    split
    ·exact K.shut h h1 h2 0
    ·exact K.shut h h1 h2 4
end
section
variable {P:Br→Prop} (K:KTake P)
include K
theorem KTake.offered {b:Br} (h:P b) {k:Nat} (h1:1≤k) (h2:k≤16) (a:Int) (ks:Bs):P (Bk.offered b k a ks):=by
 unfold Bk.offered
 split
 ·exact h
 split
 ·next hw =>
  unfold whyB at hw
  split at hw
  ·cases hw
  ·next he =>
   split at hw
   ·cases hw
   split at hw
   ·cases hw
   split at hw
   ·cases hw
   split at hw
   ·cases hw
   ·next hi=>exact K.typed b ks h (by simpa using he) (by omega)
 ·exact K.send _ h h1 h2
theorem KTake.keysB {b:Br} (h:P b) {k:Nat} (h1:1≤k) (h2:k≤16) (m:M):P (Bk.keysB b k m):=by
 rcases hc:b.cs k with _ | c
 ·unfold Bk.keysB; rw [hc]; exact h
 ·rw [keysB_eq hc]
  exact K.cmds h1 h2 _ (K.offered (K.lx b k c m.t h hc) h1 h2 _ _)
theorem KTake.takeB {b:Br} (h:P b) {k:Nat} (h1:1≤k) (h2:k≤16) {mo:Option M} (hm:∀ m,mo=some m→m.ok=true):P (Bk.takeB b k mo):=
 K.toKMost.takeB h h1 h2 hm fun m _ _=>K.keysB h h1 h2 m
theorem KTake.takes {k:Nat} (h1:1≤k) (h2:k≤16):∀ (l:List (BitVec 8×Bs)) {b:Br},P b→P (Bk.takes b k l)
  | [],_,h=>h
  | f :: l,b,h=>by
    show P (if closing b k then b else Bk.takes (Bk.holder (Bk.takeB b k (mof f))) k l)
    split
    · exact h
    · exact KTake.takes h1 h2 l (K.holder (K.takeB h h1 h2 fun m hm=>(mof_ok hm).1))
end
section
variable {P:Br→Prop} (K:KAll P)
include K
theorem KAll.recv {b:Br} (h:P b) {k:Nat} (h1:1≤k) (h2:k≤16) (t:Bs):P (Bk.recvB b k t):=by
 unfold Bk.recvB
 rcases hc:b.cs k with _ | c
 ·exact h
 ·have ht:=K.takes h1 h2 (fgot c.fd t) (K.fd b k c t h hc)
  show P (if _ then Bk.shut _ k 1 else Bk.takes _ k _)
  split
  ·exact K.shut ht h1 h2 1
  ·exact ht
theorem KAll.bytes {b:Br} (h:P b) (id:Int) (t:Bs):P (Bk.bytesB b id t):=by
 unfold Bk.bytesB
 split
 ·next he =>
  have ht:1≤id∧id≤16:=by
   unfold bytesE at he
   split at he
   ·next hi=>unfold isThere at hi; simp at hi; exact hi.1
   ·cases he
  have h1:1≤id.toNat:=by omega
  have h2:id.toNat≤16:=by omega
  refine K.settle (K.recv ?_ h1 h2 t)
  rcases hc:b.cs id.toNat with _ | c
  ·exact h
  ·show P (if t=[] then b else setc b id.toNat (some { c with idle:=0 }))
   split
   ·exact h
   ·exact K.idle0 b _ c h hc
 ·exact h
end
end Bk
end
section
namespace Bk
open Fr Lx
def PC (Q:Nat→Fs→Prop) (b:Br):Prop:=∀ k c,b.cs k=some c→Q c.idle c.fd
theorem PC.setc {Q:Nat→Fs→Prop} {b:Br} (h:PC Q b) (k:Nat) (c:Cn) (hc:Q c.idle c.fd):PC Q (setc b k (some c)):=fun j d hd=>by
 by_cases e:j=k
 ·subst e
  rw [setc_cs] at hd
  injection hd with hd
  subst hd;exact hc
 ·rw [setc_ne b k _ e] at hd
  exact h j d hd
theorem gone_pc {Q:Nat→Fs→Prop} {b:Br} {k:Nat} {c:Cn} (h:PC Q b) (hc:b.cs k=some c):PC Q (gone b k c):=by
 have:=h.setc k { c with st:=2 } (h k c hc);unfold gone
 split
 ·exact this
 ·exact this
theorem pc_core (Q:Nat→Fs→Prop):KCore (PC Q):=
 ⟨fun b k c h hc _ _=>gone_pc h hc,
  fun b k c m h hc _ _=>h.setc k _ (h k c hc),fun b h=>h,fun b k c m p s h hc _ _=>by
   have hp:=putc_same b.cf.queue { c with p:=p,s:=s } (enc m)
   exact h.setc k _ (by rw [hp.2.2.2.2.1,hp.2.2.2.2.2.1]; exact h k c hc),
  fun b h k c hc=>by
   replace hc:(if 1≤k∧k≤16∧done b k=true then none else b.cs k)=some c:=hc
   split at hc
   ·cases hc
   ·exact h k c hc⟩
theorem pc_all {Q:Nat→Fs→Prop} (hi:∀ i f,Q i f→Q 0 f) (hf:∀ i f t,Q i f→Q i (fpush f t)):KAll (PC Q) where
 toKCore:=pc_core Q
 idle0:=fun _ k c h hc=>h.setc k _ (hi _ _ (h k c hc))
 fd:=fun _ k c t h hc=>h.setc k _ (hf _ _ t (h k c hc))
 lx:=fun _ k c _ h hc=>h.setc k _ (h k c hc)
 join:=fun _ k c _ _ _ h hc _ _ _ _ _ _ _ _=>h.setc k _ (h k c hc)
 fl:=fun _ _ h _=>h
 again:=fun _ k c _ h hc _=>h.setc k _ (h k c hc)
 strikes:=fun _ _ h _=>h
 typed:=fun _ _ h _ _=>h
def PL (Q:Bs→Sp.Sp→Cf→Bool→Nat→Prop) (b:Br):Prop:=Q b.L b.sp b.cf b.ended b.code
theorem pl_all (Q:Bs→Sp.Sp→Cf→Bool→Nat→Prop):KAll (PL Q) where
 gone:=fun b k c h _ _ _=>by unfold gone; split <;> exact h
 plus:=fun b k c m h _ _ _=>h
 told:=fun b h=>h
 served:=fun b k c m p s h _ _ _=>h
 reap:=fun b h=>h
 idle0:=fun b k c h hc=>h
 fd:=fun b k c t h hc=>h
 lx:=fun b k c t h hc=>h
 join:=fun b k c t p r h hc _ _ _ _ _ _ _ _=>h
 fl:=fun b s h _=>h
 again:=fun b k c p h hc _=>h
 strikes:=fun b n h _=>h
 typed:=fun b ks h _ _=>h
def PT (T:Nat) (b:Br):Prop:=b.tot≤T
theorem pt_most (T:Nat):KMost (PT T) where
 gone:=fun b k c h _ _ _=>by unfold gone; split <;> exact h
 plus:=fun b k c m h _ _ _=>h
 told:=fun b h=>h
 served:=fun b k c m p s h _ _ _=>h
 reap:=fun b h=>h
 lx:=fun b k c t h hc=>h
 join:=fun b k c t p r h hc _ _ _ _ _ _ _ _=>h
 fl:=fun b s h _=>h
 again:=fun b k c p h hc _=>h
 strikes:=fun b n h _=>h
theorem offered_tot {b:Br} {T:Nat} (h:PT T b) {k:Nat} (h1:1≤k) (h2:k≤16) (a:Int) (ks:Bs):PT (T+ks.length) (offered b k a ks):=by
 have hw:PT (T+ks.length) b:=Nat.le_trans h (Nat.le_add_right _ _);unfold offered
 split
 ·exact hw
 split
 ·show b.tot+ks.length≤T+ks.length
  have:b.tot≤T:=h;omega
 ·exact (pt_most _).send _ hw h1 h2
theorem keysB_tot {b:Br} {T:Nat} (h:PT T b) {k:Nat} (h1:1≤k) (h2:k≤16) (m:M):PT (T+m.t.length) (keysB b k m):=by
 rcases hc:b.cs k with _ | c
 ·unfold keysB; rw [hc]; exact Nat.le_trans h (Nat.le_add_right _ _)
 ·rw [keysB_eq hc]
  have h3:PT T (setc b k (some { c with lx:=lrun c.lx m.t })):=h;have h4:=offered_tot h3 h1 h2 m.a (lkeys c.lx m.t);have h5:=lkeys_len c.lx m.t;exact (pt_most _).cmds h1 h2 _ (Nat.le_trans h4 (by omega))
theorem takeB_tot {b:Br} {T n:Nat} (h:PT T b) {k:Nat} (h1:1≤k) (h2:k≤16) {mo:Option M} (hm:∀ m,mo=some m→m.ok=true∧m.t.length≤n):PT (T+n) (takeB b k mo):=
 (pt_most (T+n)).takeB (Nat.le_trans h (Nat.le_add_right _ _)) h1 h2 (fun m e=>(hm m e).1) fun m e _=>Nat.le_trans (keysB_tot h h1 h2 m) (by have:=(hm m e).2; omega)
def fsum:List (BitVec 8×Bs)→Nat
 | []=>0
 | f :: fs=>f.2.length+fsum fs
theorem takes_tot {k:Nat} (h1:1≤k) (h2:k≤16):∀ (l:List (BitVec 8×Bs)) {b:Br} {T:Nat},PT T b→PT (T+fsum l) (takes b k l)
  | [],_,_,h=>h
  | f :: l,b,T,h=>by
    show PT (T+(f.2.length+fsum l)) (if closing b k then b else takes (holder (takeB b k (mof f))) k l)
    split
    · exact Nat.le_trans h (Nat.le_add_right _ _)
    · have:=takes_tot h1 h2 l ((pt_most _).holder (takeB_tot (n:=f.2.length) h h1 h2 fun m hm=>mof_ok hm))
      rw [Nat.add_assoc] at this;exact this
theorem tells_sum {r:Bs}:∀ {fs:List (BitVec 8×Bs)} {l:Bs},Tells l fs r→fsum fs+r.length≤l.length
  | [],l,h=>by
    rw [h.1];exact Nat.le_of_eq (Nat.zero_add _)
  | f :: fs,l,⟨h0,h1,h2⟩=>by
    have:=tells_sum h2;have hb:=get_body_len h0;have hn:=get_n5 h0;rw [List.length_drop] at this
    show f.2.length+fsum fs+r.length≤_
    rw [h1]
    show (get l).body.length+fsum fs+r.length≤_
    omega
theorem fgot_sum (s:Fs) (t:Bs):fsum (fgot s t)≤s.l.length+t.length:=by
 unfold fgot
 split
 ·have:=tells_sum (tells_tfs (s.l ++ t))
  rw [List.length_append] at this;omega
 ·exact Nat.zero_le _
theorem recv_tot {b:Br} {T n:Nat} (h:PT T b) {k:Nat} (h1:1≤k) (h2:k≤16) (hf:PC (fun _ f=>f.l.length≤n) b) (t:Bs):PT (T+(n+t.length)) (recvB b k t):=by
 unfold recvB
 rcases hc:b.cs k with _ | c
 ·exact Nat.le_trans h (Nat.le_add_right _ _)
 ·have h3:PT T (setc b k (some { c with fd:=fpush c.fd t })):=h
  have ht:=takes_tot h1 h2 (fgot c.fd t) h3;have hs:=fgot_sum c.fd t;have hl:c.fd.l.length≤n:=hf k c hc;replace ht:PT (T+(n+t.length)) (takes (setc b k (some { c with fd:=fpush c.fd t })) k (fgot c.fd t)):=Nat.le_trans ht (by omega)
  show PT _ (if _ then shut _ k 1 else takes _ k _)
  split
  ·exact (pt_most _).shut ht h1 h2 1
  ·exact ht
theorem bytes_tot {b:Br} {T n:Nat} (h:PT T b) (hf:PC (fun _ f=>f.l.length≤n) b) (id:Int) (t:Bs):PT (T+(n+t.length)) (bytesB b id t):=by
 unfold bytesB
 split
 ·next he =>
  have ht:1≤id∧id≤16:=by
   unfold bytesE at he
   split at he
   ·next hi=>unfold isThere at hi; simp at hi; exact hi.1
   ·cases he
  refine (pt_most _).settle (recv_tot ?_ (by omega) (by omega) ?_ t)
  ·rcases hc:b.cs id.toNat with _ | c
   ·exact h
   ·show PT T (if t=[] then b else _)
    split
    ·exact h
    ·exact h
  ·rcases hc:b.cs id.toNat with _ | c
   ·exact hf
   ·show PC _ (if t=[] then b else setc b id.toNat (some { c with idle:=0 }))
    split
    ·exact hf
    ·exact hf.setc _ _ (hf _ c hc)
 ·exact Nat.le_trans h (Nat.le_add_right _ _)
theorem pcf_take (k:Nat) (f:Fs):KTake (fun b=>∀ c,b.cs k=some c→c.fd=f):=by
 have set:∀ {b:Br} {j:Nat} {c c':Cn},(∀ c,b.cs k=some c→c.fd=f)→b.cs j=some c→c'.fd=c.fd→∀ d,(Bk.setc b j (some c')).cs k=some d→d.fd=f:=fun {b j c c'} h hc e d hd=>by
  by_cases ej:k=j
  ·subst ej
   rw [setc_cs] at hd
   injection hd with hd
   subst hd;rw [e];exact h c hc
  ·rw [setc_ne b j _ ej] at hd
   exact h d hd
 exact {
  gone:=fun b j c h hc _ _=>by
   have:=set (c':={ c with st:=2 }) h hc rfl;unfold gone
   split
   ·exact this
   ·exact this
  plus:=fun b j c m h hc _ _=>set h hc rfl
  told:=fun b h=>h
  served:=fun b j c m p s h hc _ _=>set h hc (putc_same b.cf.queue { c with p:=p,s:=s } (enc m)).2.2.2.2.2.1
  reap:=fun b h c hc=>by
   replace hc:(if 1≤k∧k≤16∧done b k=true then none else b.cs k)=some c:=hc
   split at hc
   ·cases hc
   ·exact h c hc
  lx:=fun b j c t h hc=>set h hc rfl
  join:=fun b j c t p r h hc _ _ _ _ _ _ _ _=>set h hc rfl
  fl:=fun b s h _=>h
  again:=fun b j c p h hc _=>set h hc rfl
  strikes:=fun b n h _=>h
  typed:=fun b ks h _ _=>h }
theorem shut_closing {b:Br} {k:Nat} {c:Cn} (hc:b.cs k=some c) (hst:c.st=2) (why:Nat):shut b k why=b:=by
 have h1:send (closed why) b k=b:=by
  show sendW (leaveN 16) (closed why) b k=b
  unfold sendW;rw [hc];simp [hst]
 have h2:leave b k=b:=by
  show leaveW (tellN 16) b k=b
  unfold leaveW;rw [hc]
  show (if c.st=1 then _ else setc b k (some { c with st:=2 }))=b
  rw [if_neg (by omega),show ({ c with st:=2 }:Cn)=c by rw [← hst],setc_as hc]
 unfold shut;rw [h1,h2]
theorem err5_len {r:Bs} (h:err r=5):r.length≤2052:=by
  by_cases h2:r.length<2
  · omega
  · by_cases h3:num2 r=0∨2049<num2 r
    · have:=err_long (by omega) h3
      rw [this] at h;cases h
    · by_cases h4:r.length<num2 r+4
      · omega
      · unfold err at h
        rw [if_neg h2,if_neg h3,if_neg h4] at h
        split at h <;> cases h
theorem keep_len (r:Bs):(keep r).length≤2052:=by
 unfold keep
 split
 ·next h=>exact err5_len h
 ·exact Nat.zero_le _
theorem fpush_len {s:Fs} (h:s.l.length≤2052) (t:Bs):(fpush s t).l.length≤2052:=by
 unfold fpush
 split
 ·exact keep_len _
 ·exact h
structure EvOk (b:Br) (i T m:Nat):Prop where
 ok:BOk b
 cn:PC (fun j f=>j≤i∧f.l.length≤2052) b
 tot:b.tot≤T
 len:b.L.length≤m
 sp:Sp.Ok b.sp b.L.length
theorem bok_all:KAll BOk where
 gone:=fun b k c h hc _ _=>by
  have hk:=h.cn k c hc;have h2:=h.setc k (c:={ c with st:=2 }) ⟨hk.p,hk.s,hk.name,Nat.le_refl _⟩;unfold gone
  split
  ·have hr:RIn (fleave b.fl k):=fun p hp=>h.rin p (fleave_sub b.fl k p hp)
   exact ⟨h2.log,h2.data,h2.queue,h2.input,h2.idle,h2.strikes,h.fok.leave k,hr,h2.len,h2.told,h2.code,fun j d hd=>by have:=h2.cn j d hd; exact ⟨this.p,this.s,this.name,this.st⟩⟩
  ·exact h2
 plus:=fun b k c m h hc _ _=>by have hk:=h.cn k c hc; exact h.setc k ⟨hk.p,hk.s,hk.name,hk.st⟩
 told:=fun b h=>h.toldB
 served:=fun b k c m p s h hc _ hn=>h.served hc hn
 reap:=fun b h=>h.reap
 idle0:=fun b k c h hc=>by have hk:=h.cn k c hc; exact h.setc k ⟨hk.p,hk.s,hk.name,hk.st⟩
 fd:=fun b k c t h hc=>by have hk:=h.cn k c hc; exact h.setc k ⟨hk.p,hk.s,hk.name,hk.st⟩
 lx:=fun b k c t h hc=>h.lexed hc _
 join:=fun b k c t p r h hc h1 h2 _ ht _ hp _ _=>by
  have hk:=h.cn k c hc;have h3:=h.setc k (c:=opened c t p) ⟨hp,Nat.zero_le _,ht,by show (1:Nat)≤2; decide⟩
  have hr:RIn (fjoin b.fl k r):=fun q hq=>by
   unfold fjoin at hq
   split at hq
   ·rcases rput_mem hq with e | e
    ·rw [e]; show 1≤((k:Nat):Int)∧((k:Nat):Int)≤16; omega
    ·exact h.rin q e
   ·exact h.rin q hq
  exact ⟨h3.log,h3.data,h3.queue,h3.input,h3.idle,h3.strikes,fok_few (h.fok.join r (by omega)) hr,hr,h3.len,h3.told,h3.code,fun j d hd=>by have:=h3.cn j d hd; exact ⟨this.p,this.s,this.name,this.st⟩⟩
 fl:=fun b s h hs=>h.fl hs
 again:=fun b k c p h hc hp=>by have hk:=h.cn k c hc; exact h.setc k ⟨hp,hk.s,hk.name,hk.st⟩
 strikes:=fun b n h hn=>⟨h.log,h.data,h.queue,h.input,h.idle,hn,h.fok,h.rin,h.len,h.told,h.code,fun k c hc=>by have:=h.cn k c hc; exact ⟨this.p,this.s,this.name,this.st⟩⟩
 typed:=fun b ks h _ _=>⟨h.log,h.data,h.queue,h.input,h.idle,h.strikes,h.fok,h.rin,h.len,h.told,h.code,fun k c hc=>by have:=h.cn k c hc; exact ⟨this.p,this.s,this.name,this.st⟩⟩
theorem pcq_all (i:Nat):KAll (PC (fun j f=>j≤i∧f.l.length≤2052)):=pc_all (fun _ _ h=>⟨Nat.zero_le _,h.2⟩) fun _ _ t h=>⟨h.1,fpush_len h.2 t⟩
theorem plq_all (m:Nat):KAll (PL fun L sp _ _ _=>L.length≤m∧Sp.Ok sp L.length):=pl_all _
variable {b:Br} {i T m:Nat}
theorem EvOk.bytes (h:EvOk b i T m) (id:Int) (t:Bs):EvOk (bytesB b id t) i (T+2052+t.length) m:=by
 have h1:=(plq_all m).bytes (b:=b) ⟨h.len,h.sp⟩ id t;exact ⟨bok_all.bytes h.ok id t,(pcq_all i).bytes h.cn id t,Nat.le_trans (bytes_tot h.tot (fun k c hc=>(h.cn k c hc).2) id t) (by omega),h1.1,h1.2⟩
theorem EvOk.connect (h:EvOk b i T m) (id:Int):EvOk (connectB b id) i T m:=by
 unfold connectB
 split
 ·exact ⟨h.ok.setc _ ⟨Nat.zero_le _,Nat.zero_le _,Nat.zero_le _,Nat.zero_le _⟩,h.cn.setc _ cnew ⟨Nat.zero_le _,Nat.zero_le _⟩,h.tot,h.len,h.sp⟩
 ·exact h
theorem EvOk.settle (h:EvOk b i T m):EvOk (settle b) i T m:=by
 have h1:=(plq_all m).settle (b:=b) ⟨h.len,h.sp⟩;exact ⟨h.ok.settle,(pcq_all i).settle h.cn,(pt_most T).settle h.tot,h1.1,h1.2⟩
theorem EvOk.set (h:EvOk b i T m) (k:Nat) {c:Cn} (hc:CnOk b c) (hi:c.idle≤i∧c.fd.l.length≤2052):EvOk (setc b k (some c)) i T m:=
 ⟨h.ok.setc k hc,h.cn.setc k c hi,h.tot,h.len,h.sp⟩
theorem EvOk.unset (h:EvOk b i T m) (k:Nat):EvOk (setc b k none) i T m:=by
 have hk:∀ j d,(setc b k none).cs j=some d→b.cs j=some d:=fun j d hd=>by
  by_cases e:j=k
  ·subst e; rw [setc_cs] at hd; cases hd
  ·rwa [setc_ne b k _ e] at hd
 exact ⟨⟨h.ok.log,h.ok.data,h.ok.queue,h.ok.input,h.ok.idle,h.ok.strikes,h.ok.fok,h.ok.rin,h.ok.len,h.ok.told,h.ok.code,fun j d hd=>by have:=h.ok.cn j d (hk j d hd); exact ⟨this.p,this.s,this.name,this.st⟩⟩,fun j d hd=>h.cn j d (hk j d hd),h.tot,h.len,h.sp⟩
theorem EvOk.write (h:EvOk b i T m) (id n:Int):EvOk (writeB b id n) i T m:=by
 unfold writeB
 split
 ·rcases hc:b.cs id.toNat with _ | c
  ·exact h
  ·have hk:=h.ok.cn _ c hc
   exact (h.set id.toNat (c:={ c with out:=c.out.drop (takeN n c.out.length) }) ⟨hk.p,hk.s,hk.name,hk.st⟩ (h.cn _ c hc)).settle
 ·exact h
theorem EvOk.leave (h:EvOk b i T m) {k:Nat} (h1:1≤k) (h2:k≤16):EvOk (leave b k) i T m:=by
 have h3:=(plq_all m).leave (b:=b) ⟨h.len,h.sp⟩ h1 h2;exact ⟨h.ok.leave k,(pcq_all i).leave h.cn h1 h2,(pt_most T).leave h.tot h1 h2,h3.1,h3.2⟩
theorem EvOk.cut (h:EvOk b i T m) (id:Int):EvOk (cutB b id) i T m:=by
 unfold cutB
 split
 ·next ht =>
  have h0:1≤id∧id≤16:=by unfold isThere at ht; simp at ht; exact ht.1
  exact ((h.leave (by omega) (by omega)).unset _).settle
 ·exact h
theorem EvOk.output (h:EvOk b i T m) (t:Bs) (hm:m+t.length≤1099511627776):EvOk (outputB b t) i T (m+t.length):=by
 unfold outputB
 split
 ·exact ⟨h.ok,h.cn,h.tot,Nat.le_trans h.len (Nat.le_add_right _ _),h.sp⟩
 ·have hl:(b.L ++ t).length≤m+t.length:=by rw [List.length_append]; have:=h.len; omega
  refine EvOk.settle (b:={ b with L:=b.L ++ t,sp:=Sp.nxts b.sp t }) ⟨⟨h.ok.log,h.ok.data,h.ok.queue,h.ok.input,h.ok.idle,h.ok.strikes,h.ok.fok,h.ok.rin,Nat.le_trans hl hm,h.ok.told,h.ok.code,fun j d hd=>by
   have:=h.ok.cn j d hd
   exact ⟨Nat.le_trans this.p (by show b.L.length≤(b.L ++ t).length; rw [List.length_append]; omega),this.s,this.name,this.st⟩⟩,h.cn,h.tot,hl,?_⟩
  show Sp.Ok (Sp.nxts b.sp t) (b.L ++ t).length
  rw [List.length_append];exact h.sp.nxts t
theorem EvOk.drain (h:EvOk b i T m) (n:Int):EvOk (drainB b n) i T m:=
 ⟨⟨h.ok.log,h.ok.data,h.ok.queue,h.ok.input,h.ok.idle,h.ok.strikes,h.ok.fok,h.ok.rin,h.ok.len,h.ok.told,h.ok.code,fun j d hd=>by have:=h.ok.cn j d hd; exact ⟨this.p,this.s,this.name,this.st⟩⟩,h.cn,h.tot,h.len,h.sp⟩
theorem EvOk.tell (h:EvOk b i T m) (x:M):EvOk (tell x b) i T m:=by
 have h3:=(plq_all m).tell x (b:=b) ⟨h.len,h.sp⟩;exact ⟨h.ok.tell x,(pcq_all i).tell x h.cn,(pt_most T).tell x h.tot,h3.1,h3.2⟩
theorem EvOk.ends (h:EvOk b i T m) (code:Int):EvOk (endB b code) i T m:=by
 unfold endB
 split
 ·next he =>
  have hc:code.toNat≤255:=by
   unfold endE at he
   split at he
   ·cases he
   ·split at he
    ·cases he
    ·omega
  exact (EvOk.tell (b:={ b with ended:=true,code:=code.toNat,inp:=[] }) ⟨⟨h.ok.log,h.ok.data,h.ok.queue,h.ok.input,h.ok.idle,h.ok.strikes,h.ok.fok,h.ok.rin,h.ok.len,h.ok.told,hc,fun j d hd=>by have:=h.ok.cn j d hd; exact ⟨this.p,this.s,this.name,this.st⟩⟩,h.cn,h.tot,h.len,h.sp⟩ _).settle
 ·exact h
theorem EvOk.shut (h:EvOk b i T m) {k:Nat} (h1:1≤k) (h2:k≤16) (why:Nat):EvOk (shut b k why) i T m:=by
 have h3:=(plq_all m).shut (b:=b) ⟨h.len,h.sp⟩ h1 h2 why;exact ⟨h.ok.shut k why,(pcq_all i).shut h.cn h1 h2 why,(pt_most T).shut h.tot h1 h2 why,h3.1,h3.2⟩
theorem EvOk.tickC (h:EvOk b (i+1) T m) {k:Nat} (h1:1≤k) (h2:k≤16) (hi:∀ c,b.cs k=some c→c.idle≤i):EvOk (tickC b k) (i+1) T m:=by
 unfold Bk.tickC
 rcases hc:b.cs k with _ | c
 ·exact h
 ·have hk:=h.ok.cn k c hc
  have:=h.set k (c:={ c with idle:=c.idle+1 }) ⟨hk.p,hk.s,hk.name,hk.st⟩ ⟨by show c.idle+1≤_; have:=hi c hc; omega,(h.cn k c hc).2⟩
  show EvOk (if _ then Bk.shut (setc b k (some { c with idle:=c.idle+1 })) k 6 else setc b k (some { c with idle:=c.idle+1 })) _ _ _
  split
  ·exact this.shut h1 h2 6
  ·exact this
theorem tickC_idle {b:Br} {k j:Nat} {d:Cn} (hj:j≠k) (h:(Bk.tickC b k).cs j=some d):∃ c,b.cs j=some c∧d.idle=c.idle:=by
 unfold Bk.tickC at h
 rcases hc:b.cs k with _ | c
 ·rw [hc] at h; exact ⟨d,h,rfl⟩
 ·rw [hc] at h
  replace h:(if b.cf.idle≠0∧b.cf.idle≤c.idle+1 then Bk.shut (setc b k (some { c with idle:=c.idle+1 })) k 6 else setc b k (some { c with idle:=c.idle+1 })).cs j=some d:=h
  split at h
  ·obtain ⟨c1,h1,h2⟩:=(shut_le _ _ _).cn j d h
   rw [setc_ne b k _ hj] at h1;exact ⟨c1,h1,h2.idle⟩
  ·rw [setc_ne b k _ hj] at h
   exact ⟨d,h,rfl⟩
theorem EvOk.ticks:∀ (l:List Nat) {b:Br},l.Nodup→(∀ k∈l,1≤k∧k≤16)→EvOk b (i+1) T m→(∀ k∈l,∀ c,b.cs k=some c→c.idle≤i)→EvOk (l.foldl Bk.tickC b) (i+1) T m
  | [],_,_,_,h,_=>h
  | k :: l,b,hn,hl,h,hi=>by
    obtain ⟨hk,hn⟩:=List.nodup_cons.1 hn;have h1:=hl k List.mem_cons_self
    refine EvOk.ticks l hn (fun j hj=>hl j (List.mem_cons_of_mem _ hj)) (h.tickC h1.1 h1.2 (hi k List.mem_cons_self)) fun j hj d hd=>?_
    obtain ⟨c,hc,e⟩:=tickC_idle (fun e:j=k=>hk (by rw [← e]; exact hj)) hd;rw [e];exact hi j (List.mem_cons_of_mem _ hj) c hc
theorem EvOk.tick (h:EvOk b i T m):EvOk (tickB b) (i+1) T m:=by
 unfold tickB;refine EvOk.settle (EvOk.ticks ids ids_nodup ids_in ?_ fun k _ c hc=>(h.cn k c hc).1);have:=fok_step h.ok.fok h.ok.rin (.inr (.inr (.inr (.inr (.inr rfl)))));exact ⟨⟨h.ok.log,h.ok.data,h.ok.queue,h.ok.input,h.ok.idle,h.ok.strikes,this.1,this.2,h.ok.len,h.ok.told,h.ok.code,fun j d hd=>by have:=h.ok.cn j d hd; exact ⟨this.p,this.s,this.name,this.st⟩⟩,fun k c hc=>⟨by have:=(h.cn k c hc).1; show c.idle≤i+1; omega,(h.cn k c hc).2⟩,h.tot,h.len,h.sp⟩
end Bk
end
section
namespace Bk
open Fr Lx
theorem takes_shut {b:Br} {k:Nat} (h:closing b k=true):∀ l,takes b k l=b
  | []=>rfl
  | f :: l=>by
    show (if closing b k then b else takes (holder (takeB b k (mof f))) k l)=b
    rw [h];rfl
theorem takes_app (k:Nat):∀ (l:List (BitVec 8×Bs)) (b:Br) (r:List (BitVec 8×Bs)),takes b k (l ++ r)=takes (takes b k l) k r
  | [],_,_=>rfl
  | f :: l,b,r=>by
    show (if closing b k then b else takes (holder (takeB b k (mof f))) k (l ++ r))=takes (if closing b k then b else takes (holder (takeB b k (mof f))) k l) k r
    by_cases h:closing b k=true
    · rw [if_pos h,if_pos h,takes_shut h]
    · rw [if_neg h,if_neg h,takes_app k l]
noncomputable def takesTo (b:Br) (k:Nat) (l:List (BitVec 8×Bs)) (j:Nat):Br:=takes b k (l.take j)
theorem takesTo_all (b:Br) (k:Nat) (l:List (BitVec 8×Bs)):takesTo b k l l.length=takes b k l:=by unfold takesTo; rw [List.take_length]
theorem takesTo_next {b:Br} {k:Nat} {l:List (BitVec 8×Bs)} {j:Nat} {f:BitVec 8×Bs} (hs:l[j]?=some f) (ho:closing (takesTo b k l j) k=false):takesTo b k l (j+1)=holder (takeB (takesTo b k l j) k (mof f)):=by
 unfold takesTo at *;rw [List.take_add_one,hs,Option.toList_some,takes_app]
 show (if closing (takes b k (l.take j)) k then _ else takes (holder (takeB (takes b k (l.take j)) k (mof f))) k [])=_
 rw [ho];rfl
theorem takesTo_stop {b:Br} {k:Nat} {l:List (BitVec 8×Bs)} {j:Nat} (ho:closing (takesTo b k l j) k=true):takes b k l=takesTo b k l j:=by
 unfold takesTo at *
 conv=>lhs; rw [← List.take_append_drop j l,takes_app,takes_shut ho]
theorem fgot_count (s:Fs) (t:Bs):5 * (fgot s t).length≤s.l.length+t.length:=by
 unfold fgot
 split
 ·have:=Tells.short (tells_tfs (s.l ++ t))
  rw [List.length_append] at this;omega
 ·exact Nat.zero_le _
theorem fsum_get:∀ {l:List (BitVec 8×Bs)} {j:Nat} {f:BitVec 8×Bs},l[j]?=some f→f.2.length≤fsum l
  | [],_,_,h=>by simp at h
  | x :: l,0,f,h=>by
    simp at h;subst h;exact Nat.le_add_right _ _
  | x :: l,j+1,f,h=>by
    have:=fsum_get (l:=l) (j:=j) (f:=f) (by simpa using h);exact Nat.le_trans this (Nat.le_add_left _ _)
theorem fsum_take:∀ (l:List (BitVec 8×Bs)) (j:Nat),fsum (l.take j)≤fsum l
  | [],_=>by simp
  | f :: l,0=>Nat.zero_le _
  | f :: l,j+1=>by
    show f.2.length+fsum (l.take j)≤f.2.length+fsum l
    have:=fsum_take l j;omega
noncomputable def recvX (e:Nat) (b2:Br) (k:Nat):Br:=if e=0∨closing b2 k=true then b2 else shut b2 k 1
theorem recvX_same {e:Nat} {b2:Br} {k:Nat} (h:e=0∨closing b2 k=true):recvX e b2 k=b2:=by unfold recvX; rw [if_pos h]
theorem recvX_shut {e:Nat} {b2:Br} {k:Nat} (h:e≠0) (h2:closing b2 k=false):recvX e b2 k=shut b2 k 1:=by unfold recvX; rw [if_neg (by simp [h,h2])]
theorem recvB_eq {b:Br} {k:Nat} {c:Cn} (hc:b.cs k=some c) (t:Bs):recvB b k t=recvX (fpush c.fd t).e (takes (setc b k (some { c with fd:=fpush c.fd t })) k (fgot c.fd t)) k:=by
 unfold recvB;rw [hc]
 show (if closing (takes (setc b k (some { c with fd:=fpush c.fd t })) k (fgot c.fd t)) k=false∧(fpush c.fd t).e≠0 then _ else _)=_
 by_cases he:(fpush c.fd t).e=0
 ·rw [if_neg (fun h=>h.2 he),recvX_same (.inl he)]
 ·rcases hcl:closing (takes (setc b k (some { c with fd:=fpush c.fd t })) k (fgot c.fd t)) k with _ | _
  ·rw [if_pos ⟨rfl,he⟩,recvX_shut he hcl]
  ·rw [if_neg (fun h=>by cases h.1),recvX_same (.inr hcl)]
theorem takesTo_kept {b:Br} {k:Nat} {c:Cn} {t:Bs} {T:Nat} (hk:BOk b) (hc:b.cs k=some c) (h1:1≤k) (h2:k≤16) (hT:b.tot≤T) (j:Nat) :
  BOk (takesTo (setc b k (some { c with fd:=fpush c.fd t })) k (fgot c.fd t) j)∧(takesTo (setc b k (some { c with fd:=fpush c.fd t })) k (fgot c.fd t) j).tot≤T+c.fd.l.length+t.length ∧
   ∀ d,(takesTo (setc b k (some { c with fd:=fpush c.fd t })) k (fgot c.fd t) j).cs k=some d→d.fd=fpush c.fd t:=by
 have hb:=bok_all.fd b k c t hk hc;refine ⟨bok_all.toKTake.takes h1 h2 _ hb,?_,?_⟩
 ·have h3:PT T (setc b k (some { c with fd:=fpush c.fd t })):=hT
  have h4:=takes_tot h1 h2 ((fgot c.fd t).take j) h3;have h5:=fsum_take (fgot c.fd t) j;have h6:=fgot_sum c.fd t;exact Nat.le_trans h4 (by omega)
 ·refine (pcf_take k (fpush c.fd t)).takes h1 h2 _ (fun d hd=>?_)
  rw [setc_cs] at hd
  injection hd with hd
  rw [← hd]
end Bk
end
section
namespace Bk
open Fr Lx
theorem lx_plain (s:Bs) (h:∀ c∈s,c≠29#8):lrun lx0 s=lx0∧lkeys lx0 s=s∧lcmds lx0 s=[]:=by
  induction s with
  | nil=>exact ⟨rfl,rfl,rfl⟩
  | cons c s ih =>
    have hc:c.toNat≠29:=fun e=>h c List.mem_cons_self (BitVec.eq_of_toNat_eq e)
    have hs:lstep lx0 c=lx0:=by unfold lstep lx0; simp [hc]
    have hk:lkey lx0 c=[c]:=by unfold lkey lx0; simp [hc]
    have hm:lcmd lx0 c=[]:=by unfold lcmd lx0; simp
    obtain ⟨h1,h2,h3⟩:=ih (fun x hx=>h x (List.mem_cons_of_mem _ hx));refine ⟨?_,?_,?_⟩
    · show lrun (lstep lx0 c) s=_
      rw [hs]; exact h1
    · show lkey lx0 c ++ lkeys (lstep lx0 c) s=_
      rw [hs,hk,h2]; rfl
    · show lcmd lx0 c ++ lcmds (lstep lx0 c) s=_
      rw [hs,hm,h3]; rfl
def keys (seq:Int) (t:Bs):M:=⟨2,seq,0,t⟩
def cfd:Cf:=⟨4096,512,2048,256,3,100,0,80⟩
def helloM (t:Bs):M:=⟨1,5,0,t⟩
noncomputable def hd1:Br:=connectB (bnew cfd) 1
noncomputable def hd2:Br:=bytesB hd1 1 (enc (helloM [97#8]))
def lone (b:Br) (k:Nat) (c:Cn):Br:=setc { b with cs:=fun _=>none } k (some c)
end Bk
end
section
namespace Bk
open Fr Lx
structure KEv (P:Br→Prop):Prop extends KAll P where
 cut0:∀ b k c,P b→b.cs k=some c→c.st=2→P (setc b k none)
 new:∀ b k,P b→1≤k→k≤16→b.cs k=none→P (setc b k (some cnew))
 idle1:∀ b k c,P b→b.cs k=some c→P (setc b k (some { c with idle:=c.idle+1 }))
 wrote:∀ b k c n,P b→b.cs k=some c→P (setc b k (some { c with out:=c.out.drop n }))
 out:∀ b t,P b→b.ended=false→P { b with L:=b.L ++ t,sp:=Sp.nxts b.sp t }
 ended:∀ b n,P b→n≤255→b.ended=false→P { b with ended:=true,code:=n,inp:=[] }
 drained:∀ b n,P b→P { b with inp:=b.inp.drop n }
section
variable {P:Br→Prop} (K:KEv P) {b:Br}
include K
theorem KEv.connectB (h:P b) (id:Int):P (connectB b id):=keep_connect h id fun k h1 h2 hn=>K.new b k h h1 h2 hn
theorem KEv.bytesB (h:P b) (id:Int) (t:Bs):P (bytesB b id t):=K.toKAll.bytes h id t
theorem KEv.writeB (h:P b) (id n:Int):P (writeB b id n):=K.toKCore.write h id n fun k c _ _ _ hc=>K.wrote b k c _ h hc
theorem KEv.cutB (h:P b) (id:Int):P (cutB b id):=K.toKCore.cut h id K.cut0
theorem KEv.outputB (h:P b) (t:Bs):P (outputB b t):=K.toKCore.output h t (K.out b t h)
theorem KEv.drainB (h:P b) (n:Int):P (drainB b n):=K.drained b _ h
theorem KEv.endB (h:P b) (code:Int):P (endB b code):=K.toKCore.ends h code fun n hn he=>K.ended b n h hn he
theorem KEv.tickB (h:P b):P (tickB b):=K.toKCore.tick (K.fl b _ h (.inr (.inr (.inr (.inr (.inr rfl)))))) K.idle1
end
theorem fstep_roles {s s':Fl} (h:FlStep s s') (hr:Rising s.roles):Rising s'.roles∧∀ j,rhas s'.roles j=rhas s.roles j:=by
  have hout:∀ id,(fout s id).roles=s.roles:=fun id=>by unfold fout; split <;> rfl
  rcases h with ⟨id,rfl⟩ | ⟨id,rfl⟩ | ⟨id,rfl⟩ | rfl | ⟨id,r,rfl⟩ | rfl
  · have e:(fask s id).roles=s.roles:=by unfold fask; split <;> rfl
    rw [e]; exact ⟨hr,fun _=>rfl⟩
  · have e:(fdrop s id).roles=s.roles:=by unfold fdrop; split; exact hout id; rfl
    rw [e]; exact ⟨hr,fun _=>rfl⟩
  · have e:(fgive s id).roles=s.roles:=by unfold fgive; split <;> rfl
    rw [e]; exact ⟨hr,fun _=>rfl⟩
  · have e:(frev s).roles=s.roles:=by unfold frev; split <;> rfl
    rw [e]; exact ⟨hr,fun _=>rfl⟩
  · by_cases hs:sets s id r=true
    · have hi:rhas s.roles id=true:=by unfold sets at hs; simp at hs; exact hs.1
      have e:(fset s id r).roles=rput s.roles id r:=by
        unfold fset;rw [if_pos hs]
        have h2:∀ t:Fl,(fout t id).roles=t.roles:=fun t=>by unfold fout; split <;> rfl
        split
        · rw [h2]; rfl
        · rfl
      rw [e];refine ⟨hr.put _ _,fun j=>?_⟩;rw [rhas_put hr]
      by_cases ej:j=id
      · subst ej; simp [hi]
      · simp [ej]
    · have e:fset s id r=s:=by unfold fset; rw [if_neg hs]
      rw [e]; exact ⟨hr,fun _=>rfl⟩
  · have e:(ftick s).roles=s.roles:=by unfold ftick; (repeat' split) <;> rfl
    rw [e]; exact ⟨hr,fun _=>rfl⟩
structure R3 (b:Br):Prop where
 rising:Rising b.fl.roles
 ro:∀ k:Nat,rhas b.fl.roles k=true→opn b k=true
 out:∀ k c,b.cs k=some c→c.out.length≤b.cf.queue
theorem R3.same {b:Br} (h:R3 b) {k:Nat} {c c':Cn} (hc:b.cs k=some c) (hs:c'.st=c.st) (ho:c'.out.length≤b.cf.queue):R3 (setc b k (some c')):=by
  refine ⟨h.rising,fun j hj=>?_,fun j d hd=>?_⟩
  · have:=h.ro j hj
    rw [opn_setc]
    by_cases e:j=k
    · rw [if_pos e]
      subst e;unfold opn at this;rw [hc] at this
      show decide (c'.st=1)=true
      rw [hs];exact this
    · rw [if_neg e]; exact this
  · by_cases e:j=k
    · subst e
      rw [setc_cs] at hd
      injection hd with hd
      subst hd;exact ho
    · rw [setc_ne b k _ e] at hd
      exact h.out j d hd
theorem r3_all:KEv R3 where
  gone:=fun b k c h hc _ _=>by
    unfold gone
    by_cases hst:c.st=1
    · rw [if_pos hst]
      have hrl:(fleave b.fl k).roles=rdel b.fl.roles k:=by
        unfold fleave
        split
        · rfl
        · next hn=>exact (rdel_none (by unfold rhas at hn; simpa using hn)).symm
      refine ⟨?_,fun j hj=>?_,fun j d hd=>?_⟩
      · show Rising (fleave b.fl k).roles
        rw [hrl]; exact h.rising.del _
      · replace hj:rhas (fleave b.fl k).roles j=true:=hj
        rw [hrl] at hj;unfold rhas at hj;rw [rget_del h.rising] at hj
        split at hj
        · cases hj
        · next e =>
          have:=h.ro j hj
          show opn (setc b k (some { c with st:=2 })) j=true
          rw [opn_setc,if_neg (fun e2=>e (by rw [e2]))];exact this
      · replace hd:(setc b k (some { c with st:=2 })).cs j=some d:=hd
        show d.out.length≤b.cf.queue
        by_cases e:j=k
        · subst e
          rw [setc_cs] at hd
          injection hd with hd
          subst hd;exact h.out j c hc
        · rw [setc_ne b k _ e] at hd
          exact h.out j d hd
    · rw [if_neg hst]
      refine ⟨h.rising,fun j hj=>?_,fun j d hd=>?_⟩
      · have:=h.ro j hj
        rw [opn_setc]
        by_cases e:j=k
        · subst e
          unfold opn at this;rw [hc] at this;simp at this;exact absurd this hst
        · rw [if_neg e]; exact this
      · by_cases e:j=k
        · subst e
          rw [setc_cs] at hd
          injection hd with hd
          subst hd;exact h.out j c hc
        · rw [setc_ne b k _ e] at hd
          exact h.out j d hd
  plus:=fun b k c m h hc _ hf=>h.same hc rfl (by show (c.out ++ enc m).length≤_; rw [List.length_append]; exact hf)
  told:=fun b h=>⟨h.rising,h.ro,h.out⟩
  served:=fun b k c m p s h hc _ _=>h.same hc (putc_same b.cf.queue { c with p:=p,s:=s } (enc m)).1 (by
    have:=h.out k c hc;unfold putc
    split
    · next hq=>show (c.out ++ enc m).length≤_; rw [List.length_append]; exact hq
    · exact this)
  reap:=fun b h=>by
    have hcs:∀ k c,(reap b).cs k=some c→b.cs k=some c:=fun k c hc=>by
      replace hc:(if 1≤k∧k≤16∧done b k=true then none else b.cs k)=some c:=hc
      split at hc
      · cases hc
      · exact hc
    refine ⟨h.rising,fun k hk=>?_,fun k c hc=>h.out k c (hcs k c hc)⟩;have:=h.ro k hk;obtain ⟨c,hc,hst⟩:=opn_cs this
    have hd:done b k=false:=by unfold done; rw [hc]; simp; omega
    unfold opn
    show (match (if 1≤k∧k≤16∧done b k=true then none else b.cs k) with | some c=>decide (c.st=1) | none=>false)=true
    rw [if_neg (by rw [hd]; simp),hc]
    simpa using hst
  lx:=fun b k c t h hc=>h.same hc rfl (h.out k c hc)
  join:=fun b k c t p r h hc _ _ _ _ _ _ _ _=>by
    refine ⟨?_,fun j hj=>?_,fun j d hd=>?_⟩
    · show Rising (fjoin b.fl k r).roles
      unfold fjoin
      split
      · exact h.rising.put _ _
      · exact h.rising
    · replace hj:rhas (fjoin b.fl k r).roles j=true:=hj
      show opn (setc b k (some (opened c t p))) j=true
      rw [opn_setc]
      by_cases e:j=k
      · rw [if_pos e]; rfl
      · rw [if_neg e]
        refine h.ro j ?_;unfold fjoin at hj
        split at hj
        · replace hj:rhas (rput b.fl.roles k r) j=true:=hj
          rw [rhas_put h.rising] at hj;simp only [Bool.or_eq_true,decide_eq_true_eq] at hj
          rcases hj with hj | hj
          · omega
          · exact hj
        · exact hj
    · replace hd:(setc b k (some (opened c t p))).cs j=some d:=hd
      show d.out.length≤b.cf.queue
      by_cases e:j=k
      · subst e
        rw [setc_cs] at hd
        injection hd with hd
        subst hd;exact h.out j c hc
      · rw [setc_ne b k _ e] at hd
        exact h.out j d hd
  fl:=fun b s h hs=>by
    obtain ⟨h1,h2⟩:=fstep_roles hs h.rising;exact ⟨h1,fun k hk=>h.ro k (by rw [← h2]; exact hk),h.out⟩
  again:=fun b k c p h hc _=>h.same hc rfl (h.out k c hc)
  strikes:=fun b n h _=>⟨h.rising,h.ro,h.out⟩
  typed:=fun b ks h _ _=>⟨h.rising,h.ro,h.out⟩
  idle0:=fun b k c h hc=>h.same hc rfl (h.out k c hc)
  fd:=fun b k c t h hc=>h.same hc rfl (h.out k c hc)
  cut0:=fun b k c h hc hst=>by
    refine ⟨h.rising,fun j hj=>?_,fun j d hd=>?_⟩
    · have:=h.ro j hj
      rw [opn_setc]
      by_cases e:j=k
      · subst e
        unfold opn at this;rw [hc] at this;simp at this;omega
      · rw [if_neg e]; exact this
    · by_cases e:j=k
      · subst e; rw [setc_cs] at hd; cases hd
      · rw [setc_ne b k _ e] at hd
        exact h.out j d hd
  new:=fun b k h _ _ hn=>by
    refine ⟨h.rising,fun j hj=>?_,fun j d hd=>?_⟩
    · have:=h.ro j hj
      rw [opn_setc]
      by_cases e:j=k
      · subst e
        unfold opn at this;rw [hn] at this;cases this
      · rw [if_neg e]; exact this
    · by_cases e:j=k
      · subst e
        rw [setc_cs] at hd
        injection hd with hd
        subst hd;exact Nat.zero_le _
      · rw [setc_ne b k _ e] at hd
        exact h.out j d hd
  idle1:=fun b k c h hc=>h.same hc rfl (h.out k c hc)
  wrote:=fun b k c n h hc=>h.same hc rfl (by show (c.out.drop n).length≤_; rw [List.length_drop]; have:=h.out k c hc; omega)
  out:=fun b t h _=>⟨h.rising,h.ro,h.out⟩
  ended:=fun b n h _ _=>⟨h.rising,h.ro,h.out⟩
  drained:=fun b n h=>⟨h.rising,h.ro,h.out⟩
end Bk
end
section
namespace Bk
open Fr Lx
theorem encs_app (a b:List M):encs (a ++ b)=encs a ++ encs b:=by unfold encs; simp
end Bk
end
section
namespace Bk
open Fr Lx
theorem fm_of {f:BitVec 8×Bs} {m:M} (h:mof f=some m):fm m=f:=by
 unfold mof at h
 split at h
 ·next hk =>
  injection h with h
  subst h
  show (BitVec.ofInt 8 (f.1.toNat:Int),Ms.body _ _ _ _)=f
  rw [Ms.body_of hk,show BitVec.ofInt 8 (f.1.toNat:Int)=f.1 by
   apply BitVec.eq_of_toNat_eq
   rw [Ms.byte_nat];have:=f.1.isLt
   omega]
 ·cases h
theorem get_msg {l:Bs} {m:M} (he:(get l).err=0) (hm:mof ((get l).k,(get l).body)=some m):m.ok=true∧l=enc m ++ l.drop (get l).n∧(get l).n=(enc m).length∧(get l).n≤l.length:=by
 have h0:err l=0:=by
  by_cases x:err l=0
  ·exact x
  ·rw [get_no rfl x] at he
   exact absurd he x
 have hg:=get_yes h0
 have hb:0<num2 l∧num2 l+4≤l.length∧sum ((l.drop 2).take (num2 l))=num2 (l.drop (num2 l+2)):=by
  unfold err at h0
  split at h0
  ·cases h0
  ·split at h0
   ·cases h0
   ·split at h0
    ·cases h0
    ·split at h0
     ·cases h0
     ·next h1 h2 h3 h4=>exact ⟨by omega,by omega,Decidable.byContradiction h4⟩
 rw [hg] at hm ⊢;have hf:=fm_of hm;have hfr:=(fr_of l hb.1 hb.2.1).2 hb.2.2
 have he2:enc m=l.take (num2 l+4):=by rw [enc_fr,hf]; exact hfr
 refine ⟨(mof_ok hm).1,?_,?_,hb.2.1⟩
 ·show l=enc m ++ l.drop (num2 l+4)
  rw [he2,List.take_append_drop]
 ·show num2 l+4=_
  rw [he2,List.length_take];omega
theorem msg_get {m:M} (h:m.ok=true) (r:Bs):(get (enc m ++ r)).err=0∧mof ((get (enc m ++ r)).k,(get (enc m ++ r)).body)=some m∧(get (enc m ++ r)).n=(enc m).length:=by
 rw [enc_fr,get_fr _ _ _ (ok_len h),fr_len];exact ⟨rfl,mof_fm h,rfl⟩
theorem enc_apart {m n:M} (hm:m.ok=true) (hn:n.ok=true) {a b:Bs} (h:enc m ++ a=enc n ++ b):m=n∧a=b:=by
 have h1:=(msg_get hm a).2.1;have h2:=(msg_get hn b).2.1;rw [h,h2] at h1
 injection h1 with h1
 subst h1;exact ⟨rfl,List.append_cancel_left h⟩
theorem get_body (l:Bs):(get l).body.length≤l.length:=by
 unfold Fr.get
 split
 ·show ((l.drop 3).take _).length≤_
  rw [List.length_take,List.length_drop];omega
 ·exact Nat.zero_le _
def Stop (r:Bs):Prop:=∀ m r',m.ok=true→r≠enc m ++ r'
structure Msgs (t:Bs) (ms:List M) (r:Bs):Prop where
 all:t=encs ms ++ r
 ok:∀ m∈ms,m.ok=true
 stop:Stop r
theorem stop_nil:Stop []:=fun m r' _ h=>by
 have:=congrArg List.length h;rw [List.length_append,enc_len5] at this;simp at this;omega
theorem stop_get {l:Bs} (h:(get l).err≠0∨mof ((get l).k,(get l).body)=none):Stop l:=fun m r' hm e=>by
 subst e;obtain ⟨h1,h2,_⟩:=msg_get hm r'
 rcases h with h | h
 ·exact h h1
 ·rw [h2] at h; cases h
theorem msgs_all:∀ (ms:List M) {t r:Bs} {all:List M},t=encs ms ++ r→(∀ m∈ms,m.ok=true)→(∀ m∈all,m.ok=true)→t=encs all→Stop r→ms=all∧r=[]
  | [],t,r,[],h1,_,_,h4,_=>⟨rfl,by rw [h4] at h1; exact h1.symm⟩
  | [],t,r,n :: all,h1,_,h3,h4,h5=>by
    rw [h4] at h1;exact absurd h1.symm (h5 n (encs all) (h3 n List.mem_cons_self))
  | m :: ms,t,r,[],h1,_,_,h4,_=>by
    rw [h1] at h4;have:=congrArg List.length h4;rw [show encs (m :: ms)=enc m ++ encs ms from rfl] at this;simp only [List.length_append,enc_len5] at this;simp [encs] at this
  | m :: ms,t,r,n :: all,h1,h2,h3,h4,h5=>by
    rw [h1,show encs (m :: ms)=enc m ++ encs ms from rfl,show encs (n :: all)=enc n ++ encs all from rfl,List.append_assoc] at h4;obtain ⟨e1,e2⟩:=enc_apart (h2 m List.mem_cons_self) (h3 n List.mem_cons_self) h4;obtain ⟨e3,e4⟩:=msgs_all ms (t:=encs ms ++ r) rfl (fun x hx=>h2 x (List.mem_cons_of_mem _ hx)) (fun x hx=>h3 x (List.mem_cons_of_mem _ hx)) e2 h5;exact ⟨by rw [e1,e3],e4⟩
end Bk
end
section
namespace Bk
open Fr Lx
structure CW (b:Br) (n:Nat):Prop where
 in16:In16 b
 cn:∀ k c,b.cs k=some c→c.st=1∧c.fd=fd0∧c.lx=lx0∧c.p=b.L.length∧c.out.length≤n
section
variable {b:Br} {n:Nat}
structure Sm (b' b:Br):Prop where
 cf:b'.cf=b.cf
 L:b'.L=b.L
 inp:b'.inp=b.inp
 ended:b'.ended=b.ended
 code:b'.code=b.code
 strikes:b'.strikes=b.strikes
end
end Bk
end
section
namespace Bk
open Fr Lx
def tk (c:Cn):Cn:={ c with idle:=c.idle+1 }
section
variable {b:Br} {n:Nat}
theorem left_len {k:Nat} (hk:k≤16):(enc (left k)).length≤12:=by
 have:=Dgs.dgs_len k 1 (by show k<100; omega);unfold left;rw [notice_len,List.length_append]
 show 5+_+5≤12
 omega
def rejectM (seq:Int) (why:Nat):M:=⟨8,seq,why,[]⟩
end
def dataM (p:Nat) (t:Bs):M:=⟨6,p,0,t⟩
def sv (L:Bs) (c:Cn):Cn:=if c.p=L.length then c else { c with p:=L.length,out:=c.out ++ enc (dataM c.p (L.drop c.p)) }
end Bk
end
section
namespace Bk
open Fr Lx
def stillC (L:Nat) (c:Option Cn):Nat:=match c with
 | some c=>c.out.length+20 * (L - c.p)
 | none=>0
def still (i:Nat) (b:Br):Nat:=stillC b.L.length (b.cs i)+60 * opens b+(if fhold b.fl=b.told then 0 else 20)
theorem opens_same {b b':Br} (h:∀ j,opn b' j=opn b j):opens b'=opens b:=by
 unfold opens;rw [show opn b'=opn b from funext h]
theorem still_hd (i:Nat) {b b':Br} (n:Nat) (hs:stillC b'.L.length (b'.cs i)≤stillC b.L.length (b.cs i)+n) (ho:opens b'≤opens b) (hf:fhold b'.fl=b'.told∨(b'.fl=b.fl∧b'.told=b.told)):still i b'≤still i b+n:=by
 unfold still
 rcases hf with h | ⟨h1,h2⟩
 ·rw [if_pos h]; omega
 ·rw [h1,h2]; omega
theorem still_gone (i:Nat) {b:Br} {k:Nat} {c:Cn} (hc:b.cs k=some c) (h1:1≤k) (h2:k≤16) (hst:c.st=1):still i (setFl (setc b k (some { c with st:=2 })) (fleave b.fl k))+40≤still i b:=by
 have ho:opens (setFl (setc b k (some { c with st:=2 })) (fleave b.fl k))<opens b:=by
  refine opens_lt (k:=k) (fun j hj=>?_) (mem_ids.2 ⟨h1,h2⟩) (by unfold opn; rw [hc]; simpa using hst) ?_
  ·have hj:opn (setc b k (some { c with st:=2 })) j=true:=hj
   rw [opn_setc] at hj
   split at hj
   ·cases hj
   ·exact hj
  ·show opn (setc b k (some { c with st:=2 })) k=false
   rw [opn_setc,if_pos rfl];rfl
 have hs:stillC b.L.length ((setc b k (some { c with st:=2 })).cs i)=stillC b.L.length (b.cs i):=by
  by_cases e:i=k
  ·rw [e,setc_cs,hc]; rfl
  ·rw [setc_ne _ _ _ e]
 unfold still
 show stillC b.L.length ((setc b k (some { c with st:=2 })).cs i)+_+_+40≤_
 rw [hs]
 split <;> split <;> omega
def Tells20 (i:Nat) (tl:M→Br→Br):Prop:=∀ m b,(enc m).length≤20→still i (tl m b)≤still i b+20
theorem still_shut (i:Nat) {b:Br} {k:Nat} {c:Cn} (hc:b.cs k=some c) (hst:c.st≠1):still i (setc b k (some { c with st:=2 }))=still i b:=by
 have ho:opens (setc b k (some { c with st:=2 }))=opens b:=opens_same fun j=>by
  rw [opn_setc]
  split
  ·next e =>
   subst e;unfold opn;rw [hc]
   simpa using hst
  ·rfl
 have hs:stillC b.L.length ((setc b k (some { c with st:=2 })).cs i)=stillC b.L.length (b.cs i):=by
  by_cases e:i=k
  ·rw [e,setc_cs,hc]; rfl
  ·rw [setc_ne _ _ _ e]
 unfold still
 show stillC b.L.length ((setc b k (some { c with st:=2 })).cs i)+60 * opens (setc b k (some { c with st:=2 }))+(if fhold b.fl=b.told then 0 else 20)=_
 rw [hs,ho]
theorem still_leaveW {i:Nat} {tl:M→Br→Br} (ht:Tells20 i tl) (b:Br) {k:Nat} (h1:1≤k) (h2:k≤16):still i (leaveW tl b k)≤still i b∧(opn b k=true→still i (leaveW tl b k)+20≤still i b):=by
 unfold Bk.leaveW
 rcases hc:b.cs k with _ | c
 ·refine ⟨Nat.le_refl _,fun ho=>?_⟩
  unfold opn at ho;rw [hc] at ho;cases ho
 ·have hll:(enc (left k)).length≤20:=by have:=left_len h2; omega
  show still i (if c.st=1 then tl (left k) (setFl (setc b k (some { c with st:=2 })) (fleave b.fl k)) else setc b k (some { c with st:=2 }))≤_∧(_→still i (if c.st=1 then tl (left k) (setFl (setc b k (some { c with st:=2 })) (fleave b.fl k)) else setc b k (some { c with st:=2 }))+20≤_)
  by_cases hst:c.st=1
  ·rw [if_pos hst]
   have h3:=still_gone i hc h1 h2 hst;have h4:=ht (left k) (setFl (setc b k (some { c with st:=2 })) (fleave b.fl k)) hll;exact ⟨by omega,fun _=>by omega⟩
  ·rw [if_neg hst]
   refine ⟨Nat.le_of_eq (still_shut i hc hst),fun ho=>?_⟩;unfold opn at ho;rw [hc] at ho;exact absurd (by simpa using ho) hst
theorem still_sendW {i:Nat} {lv:Br→Nat→Br} (hl:∀ b k,1≤k→k≤16→still i (lv b k)≤still i b) (m:M) (hm:(enc m).length≤20) (b:Br) {k:Nat} (h1:1≤k) (h2:k≤16):still i (sendW lv m b k)≤still i b+(if k=i then 20 else 0):=by
 unfold Bk.sendW
 rcases hc:b.cs k with _ | c
 ·exact Nat.le_add_right _ _
 ·show still i (if c.st=2 then b else if c.out.length+(enc m).length≤b.cf.queue then setc b k (some (Bk.plus m c)) else lv b k)≤_
  split
  ·exact Nat.le_add_right _ _
  ·split
   ·have ho:opens (setc b k (some (Bk.plus m c)))=opens b:=opens_same fun j=>by
     rw [opn_setc]
     split
     ·next e =>
      subst e;unfold opn;rw [hc];rfl
     ·rfl
    refine still_hd i _ ?_ (Nat.le_of_eq ho) (.inr ⟨rfl,rfl⟩)
    show stillC b.L.length ((setc b k (some (Bk.plus m c))).cs i)≤_
    by_cases e:k=i
    ·subst e
     rw [setc_cs,hc,if_pos rfl]
     show (c.out ++ enc m).length+20 * (b.L.length - c.p)≤c.out.length+20 * (b.L.length - c.p)+20
     rw [List.length_append];omega
    ·rw [setc_ne _ _ _ (fun h=>e h.symm)]
     omega
   ·have:=hl b k h1 h2
    omega
theorem still_goes {i:Nat} {f:Br→Nat→Br} (x:Nat) (hf:∀ b k,1≤k→k≤16→opn b k=true→still i (f b k)≤still i b+(if k=i then x else 0)):∀ (l:List Nat) (b:Br),l.Nodup→(∀ k∈l,1≤k∧k≤16)→still i (goes f b l)≤still i b+(if i∈l then x else 0)
  | [],_,_,_=>Nat.le_add_right _ _
  | k :: l,b,hn,hl=>by
    obtain ⟨h1,h2⟩:=hl k List.mem_cons_self;have hn':=List.nodup_cons.1 hn
    have ih:=still_goes x hf l (if opn b k then f b k else b) hn'.2 fun j hj=>hl j (List.mem_cons_of_mem _ hj)
    have h3:still i (if opn b k then f b k else b)≤still i b+(if k=i then x else 0):=by
      split
      · next ho=>exact hf b k h1 h2 ho
      · exact Nat.le_add_right _ _
    show still i (goes f (if opn b k then f b k else b) l)≤_
    by_cases e:k=i
    · subst e
      rw [if_neg hn'.1] at ih;rw [if_pos rfl] at h3;rw [if_pos List.mem_cons_self];omega
    · rw [if_neg e] at h3
      by_cases hi:i∈l
      · rw [if_pos hi] at ih
        rw [if_pos (List.mem_cons_of_mem _ hi)];omega
      · rw [if_neg hi] at ih
        rw [if_neg (show ¬ i∈k :: l from fun h=>(List.mem_cons.1 h).elim (fun h=>e h.symm) hi)];omega
theorem still_tellN (i:Nat):∀ n,Tells20 i (tellN n)
  | 0,_,_,_=>Nat.le_add_right _ _
  | n+1,m,b,hm=>by
    have h:=still_goes (i:=i) (f:=sendW (leaveW (tellN n)) m) 20 (fun b k h1 h2 _=>still_sendW (fun b k h1 h2=>(still_leaveW (still_tellN i n) b h1 h2).1) m hm b h1 h2) ids b ids_nodup ids_in
    show still i (goes (sendW (leaveW (tellN n)) m) b ids)≤_
    split at h <;> omega
theorem still_leave (i:Nat) (b:Br) {k:Nat} (h1:1≤k) (h2:k≤16):still i (leave b k)≤still i b∧(opn b k=true→still i (leave b k)+20≤still i b):=still_leaveW (still_tellN i 16) b h1 h2
theorem mfloor_len (h:Int):(enc (mfloor h)).length≤20:=by rw [enc_len5]; show 6 * 1+0+5≤20; decide
theorem still_holderN (i:Nat):∀ (n:Nat) (b:Br),still i (holderN n b)≤still i b
  | 0,_=>Nat.le_refl _
  | n+1,b=>by
    show still i (if fhold b.fl=b.told then b else Bk.holderN n (Bk.tell (mfloor (fhold b.fl)) (toldB b)))≤_
    by_cases h:fhold b.fl=b.told
    · rw [if_pos h]; exact Nat.le_refl _
    · rw [if_neg h]
      have h1:=still_holderN i n (Bk.tell (mfloor (fhold b.fl)) (toldB b));have h2:=still_tellN i 17 (mfloor (fhold b.fl)) (toldB b) (mfloor_len _)
      have h3:still i (toldB b)+20≤still i b:=by
        unfold still;rw [if_neg h]
        show stillC b.L.length (b.cs i)+60 * opens (toldB b)+(if fhold b.fl=fhold b.fl then 0 else 20)+20≤_
        rw [if_pos rfl,show opens (toldB b)=opens b from rfl];omega
      have h4:still i (Bk.tell (mfloor (fhold b.fl)) (toldB b))≤still i (toldB b)+20:=h2;omega
theorem next_in {L:Bs} {log p s:Nat} {room:Int} {data strikes:Nat} {m:M} {p' s':Nat} (h:nextOf L log p s room data strikes=some (m,p',s')):(m.k=12∧(enc m).length≤20∧p'=p)∨(m.k≠12∧(enc m).length+20 * (L.length - p')≤20 * (L.length - p)):=by
 unfold nextOf at h
 split at h
 ·next hp =>
  split at h
  ·injection h with h
   injection h with h1 h2
   injection h2 with h2 h3
   subst h1;refine .inl ⟨rfl,?_,h2.symm⟩;rw [enc_len5]
   show 6 * 0+0+5≤20
   decide
  ·injection h with h
   injection h with h1 h2
   injection h2 with h2 h3
   subst h1;subst h2;refine .inr ⟨by show (7:Int)≠12; decide,?_⟩;rw [enc_len5]
   show 6 * 2+0+5+_≤_
   omega
 ·split at h
  ·cases h
  ·next hz =>
   injection h with h
   injection h with h1 h2
   injection h2 with h2 h3
   subst h1;subst h2;refine .inr ⟨by show (6:Int)≠12; decide,?_⟩
   have hc:countOf L.length p room data≤L.length - p:=by unfold Bk.countOf; omega
   rw [enc_len5]
   show 6 * 1+((L.drop p).take _).length+5+_≤_
   rw [List.length_take,List.length_drop];omega
theorem putc_out (q:Nat) (c:Cn) (t:Bs):(putc q c t).out.length≤c.out.length+t.length:=by
 unfold putc
 split
 ·show (c.out ++ t).length≤_; rw [List.length_append]; exact Nat.le_refl _
 ·omega
theorem still_served (i:Nat) {b:Br} {k:Nat} {c:Cn} {m:M} {p s:Nat} (hc:b.cs k=some c) (hn:nextB b c=some (m,p,s)):(m.k≠12→still i (served b k c m p s)≤still i b)∧(m.k=12→still i (served b k c m p s)≤still i b+20):=by
 have ho:opens (served b k c m p s)=opens b:=opens_same fun j=>by
  unfold Bk.served;rw [opn_setc]
  split
  ·next e =>
   subst e;unfold opn;rw [hc]
   show decide ((putc b.cf.queue { c with p:=p,s:=s } (enc m)).st=1)=decide (c.st=1)
   rw [(putc_same _ _ _).1]
  ·rfl
 have hw:=putc_out b.cf.queue { c with p:=p,s:=s } (enc m);have hp:(putc b.cf.queue { c with p:=p,s:=s } (enc m)).p=p:=(putc_same _ _ _).2.1;have hx:=next_in hn;refine ⟨fun h12=>?_,fun h12=>?_⟩
 ·refine still_hd i 0 ?_ (Nat.le_of_eq ho) (.inr ⟨rfl,rfl⟩)
  show stillC b.L.length ((setc b k (some (putc b.cf.queue { c with p:=p,s:=s } (enc m)))).cs i)≤_
  by_cases e:i=k
  ·subst e
   rw [setc_cs,hc]
   show (putc b.cf.queue { c with p:=p,s:=s } (enc m)).out.length+20 * (b.L.length - (putc b.cf.queue { c with p:=p,s:=s } (enc m)).p)≤c.out.length+20 * (b.L.length - c.p)+0
   rw [hp]
   rcases hx with ⟨h,_⟩ | ⟨_,h⟩
   ·exact absurd h h12
   ·replace hw:_≤c.out.length+(enc m).length:=hw
    omega
  ·rw [setc_ne _ _ _ e]
   exact Nat.le_refl _
 ·refine still_hd i 20 ?_ (Nat.le_of_eq ho) (.inr ⟨rfl,rfl⟩)
  show stillC b.L.length ((setc b k (some (putc b.cf.queue { c with p:=p,s:=s } (enc m)))).cs i)≤_
  by_cases e:i=k
  ·subst e
   rw [setc_cs,hc]
   show (putc b.cf.queue { c with p:=p,s:=s } (enc m)).out.length+20 * (b.L.length - (putc b.cf.queue { c with p:=p,s:=s } (enc m)).p)≤c.out.length+20 * (b.L.length - c.p)+20
   rw [hp]
   rcases hx with ⟨_,h,h2⟩ | ⟨h,_⟩
   ·replace hw:_≤c.out.length+(enc m).length:=hw
    rw [h2] at hw ⊢;omega
   ·exact absurd h12 h
  ·rw [setc_ne _ _ _ e]
   omega
theorem still_serveN (i:Nat):∀ (n:Nat) (b:Br) (k:Nat),1≤k→k≤16→opn b k=true→still i (serveN n b k)≤still i b
  | 0,_,_,_,_,_=>Nat.le_refl _
  | n+1,b,k,h1,h2,ho=>by
    obtain ⟨c,hc,hst⟩:=opn_cs ho;rw [serveN_succ n b k hc]
    rcases hn:nextB b c with _ | ⟨m,p,s⟩
    · exact Nat.le_refl _
    · obtain ⟨hs1,hs2⟩:=still_served i hc hn
      have ho2:opn (Bk.served b k c m p s) k=true:=by
        unfold Bk.served;rw [opn_setc,if_pos rfl]
        show decide ((putc b.cf.queue { c with p:=p,s:=s } (enc m)).st=1)=true
        rw [(putc_same b.cf.queue { c with p:=p,s:=s } (enc m)).1]
        simpa using hst
      show still i (if m.k=12 then Bk.leave (Bk.served b k c m p s) k else Bk.serveN n (Bk.served b k c m p s) k)≤_
      by_cases h12:m.k=12
      · rw [if_pos h12]
        have h3:=(still_leave i (Bk.served b k c m p s) h1 h2).2 ho2;have h4:=hs2 h12;omega
      · rw [if_neg h12]
        exact Nat.le_trans (still_serveN i n _ k h1 h2 ho2) (hs1 h12)
theorem still_reap (i:Nat) (b:Br):still i (reap b)≤still i b:=by
 refine still_hd i 0 ?_ (opens_le fun j hj=>?_) (.inr ⟨rfl,rfl⟩)
 ·show stillC b.L.length (if 1≤i∧i≤16∧done b i=true then none else b.cs i)≤_
  split
  ·exact Nat.zero_le _
  ·exact Nat.le_refl _
 ·unfold opn at hj ⊢
  replace hj:(match (if 1≤j∧j≤16∧done b j=true then none else b.cs j) with | some c=>decide (c.st=1) | none=>false)=true:=hj
  split at hj
  ·next heq =>
   split at heq
   ·cases heq
   ·rw [heq]; exact hj
  ·cases hj
theorem still_settle (i:Nat) (b:Br):still i (settle b)≤still i b:=by
 have h1:=still_holderN i 18 b;have h2:=still_goes (i:=i) (f:=serve) 0 (fun b k h1 h2 ho=>by have:=still_serveN i (b.L.length+2) b k h1 h2 ho; exact Nat.le_trans this (Nat.le_add_right _ _)) ids (holder b) ids_nodup ids_in;have h3:=still_holderN i 18 (goes serve (holder b) ids);have h4:=still_reap i (holder (goes serve (holder b) ids));replace h1:still i (holder b)≤still i b:=h1;replace h3:still i (holder (goes serve (holder b) ids))≤still i (goes serve (holder b) ids):=h3
 have h5:still i (goes serve (holder b) ids)≤still i (holder b):=by split at h2 <;> omega
 show still i (reap (holder (goes serve (holder b) ids)))≤_
 omega
theorem still_write (b:Br) (k:Nat) (n:Int):still k (writeB b (k:Nat) n)+(writeT b (k:Nat) n).length≤still k b:=by
 unfold writeB writeT
 by_cases ht:isThere b (k:Nat)=true
 ·rw [if_pos ht,if_pos ht,show ((k:Nat):Int).toNat=k from rfl]
  rcases hc:b.cs k with _ | c
  ·exact Nat.le_refl _
  ·have h1:=still_settle k (setc b k (some { c with out:=c.out.drop (takeN n c.out.length) }))
   have hw:takeN n c.out.length≤c.out.length:=by unfold takeN; omega
   have ho:opens (setc b k (some { c with out:=c.out.drop (takeN n c.out.length) }))=opens b:=opens_same fun j=>by
    rw [opn_setc]
    split
    ·next e=>subst e; unfold opn; rw [hc]
    ·rfl
   have h2:still k (setc b k (some { c with out:=c.out.drop (takeN n c.out.length) }))+takeN n c.out.length≤still k b:=by
    unfold still;rw [ho]
    show stillC b.L.length ((setc b k (some { c with out:=c.out.drop (takeN n c.out.length) })).cs k)+_+(if fhold b.fl=b.told then 0 else 20)+_≤_
    rw [setc_cs,hc]
    show (c.out.drop (takeN n c.out.length)).length+20 * (b.L.length - c.p)+_+_+_≤c.out.length+20 * (b.L.length - c.p)+_+_
    rw [List.length_drop];omega
   show still k (settle (setc b k (some { c with out:=c.out.drop (takeN n c.out.length) })))+(c.out.take (takeN n c.out.length)).length≤_
   rw [List.length_take];omega
 ·rw [if_neg ht,if_neg ht]
  exact Nat.le_refl _
theorem still_most {b:Br} {Q T:Nat} (hq:∀ k c,b.cs k=some c→c.out.length≤Q) (hL:b.L.length≤T) (k:Nat):still k b≤Q+20 * T+980:=by
 unfold still;have h1:=opens_max b
 have h2:stillC b.L.length (b.cs k)≤Q+20 * T:=by
  unfold stillC
  split
  ·next c hc=>have:=hq k c hc; omega
  ·exact Nat.zero_le _
 split <;> omega
end Bk
end
section
namespace Bk
open Fr Lx
theorem closing_core (k:Nat):KCore (fun b=>closing b k=true) where
 gone:=fun b j c h hc _ _=>by
  have:closing (setc b j (some { c with st:=2 })) k=true:=by
   unfold closing at h ⊢
   by_cases e:k=j
   ·subst e; rw [setc_cs]; rfl
   ·rw [setc_ne _ _ _ e]; exact h
  unfold gone
  split
  ·exact this
  ·exact this
 plus:=fun b j c m h hc _ _=>by
  unfold closing at h ⊢
  by_cases e:k=j
  ·subst e; rw [setc_cs]; rw [hc] at h; exact h
  ·rw [setc_ne _ _ _ e]; exact h
 told:=fun b h=>h
 served:=fun b j c m p s h hc _ _=>by
  unfold closing at h ⊢
  by_cases e:k=j
  ·subst e
   rw [hc] at h
   show (match (setc b k (some _)).cs k with | some c=>decide (c.st=2) | none=>true)=true
   rw [setc_cs]
   show decide ((putc _ _ _).st=2)=true
   rw [(putc_same _ _ _).1];exact h
  ·show (match (setc b j (some _)).cs k with | some c=>decide (c.st=2) | none=>true)=true
   rw [setc_ne _ _ _ e]; exact h
 reap:=fun b h=>by
  unfold closing at h ⊢
  show (match (if 1≤k∧k≤16∧done b k=true then none else b.cs k) with | some c=>decide (c.st=2) | none=>true)=true
  by_cases hk:1≤k∧k≤16∧done b k=true
  ·rw [if_pos hk]
  ·rw [if_neg hk]; exact h
theorem shut_closes {b:Br} {k:Nat} (why:Nat):closing (shut b k why) k=true:=by
 unfold shut
 obtain ⟨x,hx⟩:∃ x,send (closed why) b k=x:=⟨_,rfl⟩
 rw [hx]
 show closing (leaveW (tellN 16) x k) k=true
 unfold leaveW
 rcases hc:x.cs k with _ | c
 ·show closing x k=true
  unfold closing;rw [hc]
 ·have h:closing (setc x k (some { c with st:=2 })) k=true:=by unfold closing; rw [setc_cs]; rfl
  show closing (if c.st=1 then tellN 16 (left k) (setFl (setc x k (some { c with st:=2 })) (fleave x.fl k)) else setc x k (some { c with st:=2 })) k=true
  split
  ·exact (closing_core k).tellN 16 _ _ h
  ·exact h
end Bk
end
section
namespace Bk
open Fr Lx
def QC (b:Br):Prop:=∀ k c,b.cs k=some c→c.fd=fd0∧c.lx=lx0
structure KJoin (P:Br→Prop):Prop extends KCore P where
 join:∀ b k c t p r,P b→b.cs k=some c→1≤k→k≤16→c.st=0→t.length≤20→isName t=true→p≤b.L.length→0≤r→r≤2→P (setFl (setc b k (some (opened c t p))) (fjoin b.fl k r))
 fl:∀ b s,P b→P (setFl b s)
section
variable {P:Br→Prop} (K:KJoin P)
include K
end
structure InAt (b:Br) (i T m:Nat):Prop where
 ev:EvOk b i T m
 in16:In16 b
 rest:Rest b
 qc:QC b
 ended:b.ended=false
 queue:b.cf.queue=60000
 inp:b.inp.length≤b.cf.input
 r3:R3 b
section
variable {b:Br} {i T m:Nat}
variable {b:Br} {i T m:Nat}
theorem whyB_le (b:Br) (k n:Nat):whyB b k n≤5:=by unfold whyB; (repeat' split) <;> decide
theorem reject_ok {seq:Int} (h0:0≤seq) (h1:seq≤1099511627776) {w:Nat} (hw:w≤5):(rejectM seq w).ok=true:=by
 unfold M.ok rejectM;rw [Ms.rt_iff];refine ⟨rfl,?_,?_,Nat.zero_le _⟩
 ·show Ms.okN seq true=true
  unfold Ms.okN; simp; omega
 ·show Ms.okN (w:Int) true=true
  unfold Ms.okN; simp; omega
end
end Bk
end
end Go.Proofs.YtdpagmcickkbmaaGreatDoor
