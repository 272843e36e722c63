namespace Go.Proofs.YtalichkdeekdcaaGreatDoor
set_option maxRecDepth 100000
/- PCrc PFr PFd PMs PLx PSp PSc PAu -/
section
namespace Crc
def K:BitVec 16:=0x1021#16
def E:BitVec 16:=0x8000#16
def T (s:BitVec 16):BitVec 16:=(s <<< 1) ^^^ (if s.msb then K else 0#16)
def B (s:BitVec 16) (b:Bool):BitVec 16:=(s <<< 1) ^^^ (if (b != s.msb) then K else 0#16)
def iter:Nat→BitVec 16→BitVec 16
 | 0,s=>s
 | n+1,s=>T (iter n s)
def apart:Nat→BitVec 16→Bool
 | 0,_=>true
 | n+1,s=>s != E && apart n (T s)
def hi (c:BitVec 8):BitVec 16:=(BitVec.setWidth 16 c) <<< (8:Nat)
def more (s:BitVec 16) (l:List (BitVec 8)):BitVec 16:=l.foldl (fun s c=>iter 8 (s ^^^ (hi c))) s
end Crc
end
section
namespace Fr
open Crc
abbrev Bs:=List (BitVec 8)
def num (n:Nat):Bs:=[BitVec.ofNat 8 (n / 256),BitVec.ofNat 8 n]
def sum (l:Bs):Nat:=(more 0xffff#16 l).toNat
def pre (k:BitVec 8) (body:Bs):Bs:=num (body.length+1) ++ (k :: body)
def fr (k:BitVec 8) (body:Bs):Bs:=pre k body ++ num (sum (k :: body))
def num2 (l:Bs):Nat:=256 * (l[0]?.getD 0#8).toNat+(l[1]?.getD 0#8).toNat
structure Got where
 k:BitVec 8
 body:Bs
 n:Nat
 err:Nat
def err (l:Bs):Nat:=
 if l.length<2 then 5
 else if num2 l=0∨2049<num2 l then 6
 else if l.length<num2 l+4 then 5
 else if sum ((l.drop 2).take (num2 l))≠num2 (l.drop (num2 l+2)) then 7
 else 0
def get (l:Bs):Got:=
 if err l=0 then ⟨l[2]?.getD 0#8,(l.drop 3).take (num2 l - 1),num2 l+4,0⟩ else ⟨0#8,[],0,err l⟩
end Fr
end
section
namespace Fr
def Tells:Bs→List (BitVec 8×Bs)→Bs→Prop
 | l,[],r=>l=r∧err l≠0
 | l,f :: fs,r=>err l=0∧f=((get l).k,(get l).body)∧Tells (l.drop (get l).n) fs r
def keep (r:Bs):Bs:=if err r=5 then r else []
def broke (r:Bs):Nat:=if err r=5 then 0 else err r
end Fr
end
section
namespace Ms
open Fr
def nu (k:Int):Nat:=if k=1∨k=5∨k=7∨k=8 then 2 else if k=2∨k=6∨k=9∨k=13∨k=15 then 1 else 0
def tx (k:Int):Nat:=if k=1∨k=5 then 20 else if k=2∨k=6 then 2042 else if k=10∨k=11 then 80 else 0
def isK (k:Int):Bool:=decide (1≤k∧k≤15)
def okN (n:Int) (has:Bool):Bool:=if has then decide (0≤n∧n≤1099511627776) else decide (n=0)
def rt (k a b:Int) (n:Nat):Bool:=isK k && okN a (decide (1≤nu k)) && okN b (decide (2≤nu k)) && decide (n≤tx k)
def six (n:Int):Bs:=[BitVec.ofInt 8 (n / 1099511627776),BitVec.ofInt 8 (n / 4294967296),BitVec.ofInt 8 (n / 16777216),BitVec.ofInt 8 (n / 65536),BitVec.ofInt 8 (n / 256),BitVec.ofInt 8 n]
def nat (l:Bs):Nat:=l.foldl (fun n c=>256 * n+c.toNat) 0
def num6 (l:Bs):Nat:=nat (l.take 6)
def hd (k a b:Int):Bs:=(six a ++ six b).take (6 * nu k)
def body (k a b:Int) (t:Bs):Bs:=hd k a b ++ t
def ofA (k:Int) (l:Bs):Nat:=if 1≤nu k then num6 l else 0
def ofB (k:Int) (l:Bs):Nat:=if 2≤nu k then num6 (l.drop 6) else 0
def ofT (k:Int) (l:Bs):Bs:=l.drop (6 * nu k)
def ofOk (k:Int) (l:Bs):Bool:=decide (6 * nu k≤l.length) && rt k (ofA k l) (ofB k l) (ofT k l).length
end Ms
end
section
namespace Lx
abbrev By:=List (BitVec 8)
structure Lx where
 q:Nat
 b:By
def lx0:Lx:=⟨0,[]⟩
def lstep (s:Lx) (c:BitVec 8):Lx:=
 if s.q=0 then (if c.toNat=29 then ⟨1,[]⟩ else s)
 else if s.q=1 then (if c.toNat=58 then ⟨2,[]⟩ else lx0)
 else if c.toNat=10 then lx0 else ⟨2,s.b ++ [c]⟩
def lkey (s:Lx) (c:BitVec 8):By:=
 if s.q=0 then (if c.toNat=29 then [] else [c])
 else if s.q=1 then (if c.toNat=29 then [c] else [])
 else []
def shut (b:By):By:=if 80<b.length then [] else b
def lcmd (s:Lx) (c:BitVec 8):List By:=
 if s.q=0 then [] else if s.q=1 then [] else if c.toNat=10 then [shut s.b] else []
def lrun (s:Lx) (l:By):Lx:=l.foldl lstep s
def lkeys (s:Lx):By→By
 | []=>[]
 | c :: l=>lkey s c ++ lkeys (lstep s c) l
def lcmds (s:Lx):By→List By
 | []=>[]
 | c :: l=>lcmd s c ++ lcmds (lstep s c) l
def at_ (l:By) (k:Nat):BitVec 8:=l[k]?.getD 0#8
def S (l:By) (k:Nat):Lx:=lrun lx0 (l.take k)
def K (l:By) (k:Nat):By:=lkeys lx0 (l.take k)
def C (l:By) (k:Nat):List By:=lcmds lx0 (l.take k)
end Lx
end
section
namespace Sp
structure Sp where
 w:Int
 c:Int
 r:Int
 q:Int
def way (s:Sp) (x:Nat):Sp:=
 if x=65 then (if 0<s.r then { s with r:=s.r - 1 } else s)
 else if x=66 then { s with r:=s.r+1 }
 else if x=67 then (if s.c<s.w - 1 then { s with c:=s.c+1 } else s)
 else if x=68 then (if 0<s.c then { s with c:=s.c - 1 } else s)
 else s
def lone (s:Sp) (x:Nat):Sp:=
 if x=27 then { s with q:=1 }
 else if x=13 then { s with c:=0 }
 else if x=10 then { s with r:=s.r+1 }
 else if x=8 then (if 0<s.c then { s with c:=s.c - 1 } else s)
 else if x=9 then (if s.w - 1<s.c / 8 * 8+8 then { s with c:=s.w - 1 } else { s with c:=s.c / 8 * 8+8 })
 else if x<32∨x=127 then s
 else if s.c+1<s.w then { s with c:=s.c+1 }
 else { s with c:=0,r:=s.r+1 }
def nxt (s:Sp) (x:Nat):Sp:=
 if s.q=1 then { s with q:=if x=91 then 2 else 0 }
 else if s.q=2 then way { s with q:=0 } x
 else lone s x
def nxts (s:Sp) (l:List (BitVec 8)):Sp:=l.foldl (fun s x=>nxt s x.toNat) s
structure Ok (s:Sp) (n:Nat):Prop where
 w0:1≤s.w
 w1:s.w≤500
 c0:0≤s.c
 c1:s.c<s.w
 r0:0≤s.r
 r1:s.r≤n
 q0:s.q=0∨s.q=1∨s.q=2
end Sp
end
section
namespace Sc
abbrev Bs:=List (BitVec 8)
structure Ev where
 k:Int
 i:Int
 n:Int
 t:Bs
def hasI (k:Int):Bool:=decide (k=0∨k=1∨k=2∨k=6)
def hasN (k:Int):Bool:=decide (k=2∨k=4∨k=7)
def hasD (k:Int):Bool:=decide (k=1∨k=3)
def inB (e:Ev):Bool:=decide (0≤e.k) && (decide (e.k≤7) && (decide (0≤e.i) && (decide (e.i≤255) && (decide (0≤e.n) && (decide (e.n≤65536) && decide (e.t.length≤4000))))))
def ownB (e:Ev):Bool:=(hasI e.k || decide (e.i=0)) && ((hasN e.k || decide (e.n=0)) && (hasD e.k || decide (e.t=[])))
def rtE (e:Ev):Bool:=inB e && ownB e
def b8 (x:Nat):BitVec 8:=BitVec.ofNat 8 x
def three (n:Nat):Bs:=[b8 (n / 65536),b8 (n / 256),b8 n]
def two (n:Nat):Bs:=[b8 (n / 256),b8 n]
def evb (e:Ev):Bs:=[b8 e.k.toNat,b8 e.i.toNat] ++ three e.n.toNat ++ two e.t.length ++ e.t
def evs (l:List Ev):Bs:=l.flatMap evb
def nat (l:Bs):Nat:=l.foldl (fun n c=>256 * n+c.toNat) 0
def size (l:Bs):Nat:=7+nat ((l.drop 5).take 2)
def evOf (l:Bs):Ev:=⟨((l[0]?.getD 0#8).toNat:Nat),((l[1]?.getD 0#8).toNat:Nat),(nat ((l.drop 2).take 3):Nat),(l.drop 7).take (nat ((l.drop 5).take 2))⟩
def shortB (l:Bs):Prop:=l.length<7∨l.length<size l
def wholeB (l:Bs):Prop:=7≤l.length∧size l≤l.length
structure Reads (r:Bs) (L:List Ev) (m e:Nat):Prop where
 le:m≤r.length
 bytes:r.take m=evs L
 right:∀ x∈L,rtE x=true
 many:L.length≤8192
 stop:(e=0∧m=r.length)∨(e=5∧m<r.length∧shortB (r.drop m))∨(e=8∧m<r.length∧wholeB (r.drop m)∧rtE (evOf (r.drop m))=false) ∨
  (e=6∧m<r.length∧wholeB (r.drop m)∧rtE (evOf (r.drop m))=true∧L.length=8192)
end Sc
end
section
namespace Au
open Fr
structure M where
 k:Int
 a:Int
 b:Int
 t:Bs
structure St where
 bg:Bool
 en:Bool
 up:Nat
 gp:Nat
def ok (m:M):Bool:=Ms.rt m.k m.a m.b m.t.length
end Au
end
end Go.Proofs.YtalichkdeekdcaaGreatDoor
