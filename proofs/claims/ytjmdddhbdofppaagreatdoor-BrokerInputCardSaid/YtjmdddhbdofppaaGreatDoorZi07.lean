/- Qt Qr Qi Qd -/
import Derived.Test.YtjmdddhbdofppaaGreatDoorZi06
section
namespace Go.Proofs.YtjmdddhbdofppaaGreatDoor.Bk
open Fr Lx
def tk (c : Cn) : Cn:={ c with idle:=c.idle + 1 }
def Stays (b : Br) (c : Cn) : Prop:=b.cf.idle = 0∨c.idle + 1 < b.cf.idle
section
variable {b : Br} {n : Nat}
def deniedM (s : Bs) : M:=⟨11,0,0,s⟩
theorem take_plain {k : Nat} {c : Cn} {seq : Int} {t : Bs} (hc : b.cs k = some c) (hst : c.st = 1) (hl : c.lx = lx0) (ht : ∀ x∈t,x≠29#8) : takeB b k (some (keys seq t)) = offered b k seq t:=by
  rw [take_keys hc hst,keysB_eq hc]
  obtain ⟨h1,h2,h3⟩:=lx_plain t ht
  show cmds (offered (setc b k (some { c with lx:=lrun c.lx t })) k seq (lkeys c.lx t)) k (lcmds c.lx t) = _
  rw [hl,h1,h2,h3,show ({ c with lx:=lx0 } : Cn) = c by rw [← hl],setc_as hc]
  rfl
def rejectM (seq : Int) (why : Nat) : M:=⟨8,seq,why,[]⟩
theorem reject_len (seq : Int) (why : Nat) : (enc (rejectM seq why)).length = 17:=by rw [enc_len5]; rfl
end
def dataM (p : Nat) (t : Bs) : M:=⟨6,p,0,t⟩
def sv (L : Bs) (c : Cn) : Cn:=if c.p = L.length then c else { c with p:=L.length,out:=c.out ++ enc (dataM c.p (L.drop c.p)) }
def SvOk (b : Br) (c : Cn) : Prop:=c.p≤b.L.length∧b.L.length - b.cf.log≤c.p∧b.L.length - c.p≤b.cf.data∧b.L.length - c.p≤2042∧c.out.length + (b.L.length - c.p) + 211≤b.cf.queue
end Go.Proofs.YtjmdddhbdofppaaGreatDoor.Bk
end
section
namespace Go.Proofs.YtjmdddhbdofppaaGreatDoor.Bk
open Fr Lx
structure FlOwn (s : Fl) (ow i : Nat) : Prop where
  rising : Rising s.roles
  own : ∀ j,rget s.roles j = some 2→j = ow
  is : ow≠0→rget s.roles ow = some 2
  lo : ∀ j v,rget s.roles j = some v→1≤j∧j≤i
def roleFor (w : Bool) (ow : Nat) : Int:=if w then (if ow = 0 then 2 else 1) else 0
def ownNext (w : Bool) (ow id : Nat) : Nat:=if w = true∧ow = 0 then id else ow
structure RolesAt (b : Br) (i ow : Nat) : Prop where
  cw : CW b (i * 130)
  ev : EvOk b 0 (i * 2200) 0
  cf : b.cf = cfd
  ended : b.ended = false
  told : fhold b.fl = b.told
  few : ∀ j,(b.cs j).isSome = true→j≤i
  own : FlOwn b.fl ow i
def wU : Bs:=[117#8]
def roleM (w : Bool) : M:=⟨1,if w then 5 else 4,0,wU⟩
theorem cfd_ok : EvOk (bnew cfd) 0 0 0:=by
  refine ⟨⟨by decide,by decide,by decide,by decide,by decide,by decide,(fok_new 100).mono (by decide),fun p hp=>(by cases hp),Nat.zero_le _,by decide,by decide,fun k c hc=>(by cases hc)⟩,fun k c hc=>(by cases hc),Nat.zero_le _,Nat.zero_le _,Sp.Ok.start (by decide) (by decide)⟩
end Go.Proofs.YtjmdddhbdofppaaGreatDoor.Bk
end
section
namespace Go.Proofs.YtjmdddhbdofppaaGreatDoor.Bk
open Fr Lx
def pong : M:=⟨14,0,0,[]⟩
def ping : M:=⟨3,0,0,[]⟩
end Go.Proofs.YtjmdddhbdofppaaGreatDoor.Bk
end
section
namespace Go.Proofs.YtjmdddhbdofppaaGreatDoor.Bk
open Fr Lx
def secondM (watch : Bool) : M:=⟨1,if watch then 4 else 5,0,[98#8]⟩
noncomputable def dn1 : Br:=bytesB (connectB (bnew cfd) 1) 1 (enc (helloM [97#8]))
noncomputable def dn2 (w : Bool) : Br:=bytesB (connectB dn1 2) 2 (enc (secondM w))
noncomputable def dn3 (w : Bool) : Br:=bytesB (dn2 w) 1 (enc (keys 1 (esc wFloor)))
noncomputable def dn4 (w : Bool) : Br:=writeB (dn3 w) 1 5000
noncomputable def dn5 (w : Bool) : Br:=writeB (dn4 w) 2 5000
noncomputable def dn6 (w : Bool) (s : Bs) : Br:=bytesB (dn5 w) 2 (enc (keys 7 (esc s)))
noncomputable def dn7 (w : Bool) (s : Bs) : Br:=writeB (dn6 w s) 2 5000
noncomputable def dn8 (w : Bool) (s : Bs) : Br:=writeB (dn7 w s) 1 5000
def flD (w : Bool) : Fl:=⟨100,100,[(1,2),(2,if w then 0 else 1)],[1]⟩
end Go.Proofs.YtjmdddhbdofppaaGreatDoor.Bk
end
