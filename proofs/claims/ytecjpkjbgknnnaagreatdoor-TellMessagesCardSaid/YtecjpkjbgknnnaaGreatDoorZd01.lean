namespace Go.Proofs.YtecjpkjbgknnnaaGreatDoor
set_option maxRecDepth 100000
/- PCrc PFr PFd PMs PLx PSp PSc -/
section
namespace Crc
def K:BitVec 16:=0x1021#16
def E:BitVec 16:=0x8000#16
def T (s:BitVec 16):BitVec 16:=(s <<< 1) ^^^ (if s.msb then K else 0#16)
def B (s:BitVec 16) (b:Bool):BitVec 16:=(s <<< 1) ^^^ (if (b != s.msb) then K else 0#16)
def iter:Nat→BitVec 16→BitVec 16
 | 0,s=>s
 | n+1,s=>T (iter n s)
def run (d:Nat→Bool) (s:BitVec 16):Nat→BitVec 16
 | 0=>s
 | k+1=>B (run d s k) (d k)
def apart:Nat→BitVec 16→Bool
 | 0,_=>true
 | n+1,s=>s != E && apart n (T s)
def hi (c:BitVec 8):BitVec 16:=(BitVec.setWidth 16 c) <<< (8:Nat)
def more (s:BitVec 16) (l:List (BitVec 8)):BitVec 16:=l.foldl (fun s c=>iter 8 (s ^^^ (hi c))) s
end Crc
end
section
namespace Fr
open Crc
abbrev Bs:=List (BitVec 8)
def num (n:Nat):Bs:=[BitVec.ofNat 8 (n / 256),BitVec.ofNat 8 n]
def sum (l:Bs):Nat:=(more 0xffff#16 l).toNat
def pre (k:BitVec 8) (body:Bs):Bs:=num (body.length+1) ++ (k :: body)
def fr (k:BitVec 8) (body:Bs):Bs:=pre k body ++ num (sum (k :: body))
def num2 (l:Bs):Nat:=256 * (l[0]?.getD 0#8).toNat+(l[1]?.getD 0#8).toNat
structure Got where
 k:BitVec 8
 body:Bs
 n:Nat
 err:Nat
def err (l:Bs):Nat:=
 if l.length<2 then 5
 else if num2 l=0∨2049<num2 l then 6
 else if l.length<num2 l+4 then 5
 else if sum ((l.drop 2).take (num2 l))≠num2 (l.drop (num2 l+2)) then 7
 else 0
def get (l:Bs):Got:=
 if err l=0 then ⟨l[2]?.getD 0#8,(l.drop 3).take (num2 l - 1),num2 l+4,0⟩ else ⟨0#8,[],0,err l⟩
theorem err_short {l:Bs} (h:l.length<2):err l=5:=by unfold err; rw [if_pos h]
theorem err_long {l:Bs} (h:2≤l.length) (h2:num2 l=0∨2049<num2 l):err l=6:=by
 unfold err; rw [if_neg (by omega),if_pos h2]
theorem err_cut {l:Bs} (h:2≤l.length) (h2:0<num2 l) (h3:num2 l≤2049) (h4:l.length<num2 l+4):err l=5:=by
 unfold err; rw [if_neg (by omega),if_neg (by omega),if_pos h4]
theorem err_sum {l:Bs} (h2:0<num2 l) (h3:num2 l≤2049) (h4:num2 l+4≤l.length) (h5:sum ((l.drop 2).take (num2 l))≠num2 (l.drop (num2 l+2))):err l=7:=by
 unfold err; rw [if_neg (by omega),if_neg (by omega),if_neg (by omega),if_pos h5]
theorem get_yes {l:Bs} (h:err l=0):get l=⟨l[2]?.getD 0#8,(l.drop 3).take (num2 l - 1),num2 l+4,0⟩:=by
 unfold get; rw [if_pos h]
end Fr
end
section
namespace Fr
def Tells:Bs→List (BitVec 8×Bs)→Bs→Prop
 | l,[],r=>l=r∧err l≠0
 | l,f :: fs,r=>err l=0∧f=((get l).k,(get l).body)∧Tells (l.drop (get l).n) fs r
theorem Tells.stop (l:Bs) (h:err l≠0):Tells l [] l:=⟨rfl,h⟩
theorem Tells.next (l:Bs) (h:err l=0) (fs:List (BitVec 8×Bs)) (r:Bs) (t:Tells (l.drop (get l).n) fs r):Tells l (((get l).k,(get l).body) :: fs) r:=⟨h,rfl,t⟩
theorem err_zero {l:Bs} (h:err l=0):2≤l.length∧0<num2 l∧num2 l≤2049∧num2 l+4≤l.length∧sum ((l.drop 2).take (num2 l))=num2 (l.drop (num2 l+2)):=by
 by_cases h1:l.length<2
 ·rw [err_short h1] at h; omega
 by_cases h2:num2 l=0∨2049<num2 l
 ·rw [err_long (by omega) h2] at h; omega
 by_cases h3:l.length<num2 l+4
 ·rw [err_cut (by omega) (by omega) (by omega) h3] at h; omega
 by_cases h4:sum ((l.drop 2).take (num2 l))=num2 (l.drop (num2 l+2))
 ·exact ⟨by omega,by omega,by omega,by omega,h4⟩
 ·rw [err_sum (by omega) (by omega) (by omega) h4] at h; omega
theorem get_n {l:Bs} (h:err l=0):(get l).n=num2 l+4:=by rw [get_yes h]
theorem get_n5 {l:Bs} (h:err l=0):5≤(get l).n∧(get l).n≤l.length:=by
 obtain ⟨_,h1,h2,h3,_⟩:=err_zero h;rw [get_n h];omega
theorem tells_all (l:Bs):∃ fs r,Tells l fs r:=by
  generalize hn:l.length=n
  induction n using Nat.strongRecOn generalizing l with
  | _ n ih =>
    by_cases h:err l=0
    · have h5:=get_n5 h
      obtain ⟨fs,r,t⟩:=ih (l.drop (get l).n).length (by simp; omega) (l.drop (get l).n) rfl;exact ⟨_,_,.next l h fs r t⟩
    · exact ⟨[],l,.stop l h⟩
def keep (r:Bs):Bs:=if err r=5 then r else []
def broke (r:Bs):Nat:=if err r=5 then 0 else err r
end Fr
end
section
namespace Ms
open Fr
def nu (k:Int):Nat:=if k=1∨k=5∨k=7∨k=8 then 2 else if k=2∨k=6∨k=9∨k=13∨k=15 then 1 else 0
def tx (k:Int):Nat:=if k=1∨k=5 then 20 else if k=2∨k=6 then 2042 else if k=10∨k=11 then 80 else 0
def isK (k:Int):Bool:=decide (1≤k∧k≤15)
def okN (n:Int) (has:Bool):Bool:=if has then decide (0≤n∧n≤1099511627776) else decide (n=0)
def rt (k a b:Int) (n:Nat):Bool:=isK k && okN a (decide (1≤nu k)) && okN b (decide (2≤nu k)) && decide (n≤tx k)
def six (n:Int):Bs:=[BitVec.ofInt 8 (n / 1099511627776),BitVec.ofInt 8 (n / 4294967296),BitVec.ofInt 8 (n / 16777216),BitVec.ofInt 8 (n / 65536),BitVec.ofInt 8 (n / 256),BitVec.ofInt 8 n]
def nat (l:Bs):Nat:=l.foldl (fun n c=>256 * n+c.toNat) 0
def num6 (l:Bs):Nat:=nat (l.take 6)
def hd (k a b:Int):Bs:=(six a ++ six b).take (6 * nu k)
def body (k a b:Int) (t:Bs):Bs:=hd k a b ++ t
def ofA (k:Int) (l:Bs):Nat:=if 1≤nu k then num6 l else 0
def ofB (k:Int) (l:Bs):Nat:=if 2≤nu k then num6 (l.drop 6) else 0
def ofT (k:Int) (l:Bs):Bs:=l.drop (6 * nu k)
def ofOk (k:Int) (l:Bs):Bool:=decide (6 * nu k≤l.length) && rt k (ofA k l) (ofB k l) (ofT k l).length
end Ms
end
section
namespace Lx
abbrev By:=List (BitVec 8)
structure Lx where
 q:Nat
 b:By
def lx0:Lx:=⟨0,[]⟩
def lstep (s:Lx) (c:BitVec 8):Lx:=
 if s.q=0 then (if c.toNat=29 then ⟨1,[]⟩ else s)
 else if s.q=1 then (if c.toNat=58 then ⟨2,[]⟩ else lx0)
 else if c.toNat=10 then lx0 else ⟨2,s.b ++ [c]⟩
def lkey (s:Lx) (c:BitVec 8):By:=
 if s.q=0 then (if c.toNat=29 then [] else [c])
 else if s.q=1 then (if c.toNat=29 then [c] else [])
 else []
def shut (b:By):By:=if 80<b.length then [] else b
def lcmd (s:Lx) (c:BitVec 8):List By:=
 if s.q=0 then [] else if s.q=1 then [] else if c.toNat=10 then [shut s.b] else []
def lrun (s:Lx) (l:By):Lx:=l.foldl lstep s
def lkeys (s:Lx):By→By
 | []=>[]
 | c :: l=>lkey s c ++ lkeys (lstep s c) l
def lcmds (s:Lx):By→List By
 | []=>[]
 | c :: l=>lcmd s c ++ lcmds (lstep s c) l
def at_ (l:By) (k:Nat):BitVec 8:=l[k]?.getD 0#8
def S (l:By) (k:Nat):Lx:=lrun lx0 (l.take k)
def K (l:By) (k:Nat):By:=lkeys lx0 (l.take k)
def C (l:By) (k:Nat):List By:=lcmds lx0 (l.take k)
def cut (l:By) (i j:Nat):By:=(l.drop i).take (j - i)
end Lx
end
section
namespace Sp
structure Sp where
 w:Int
 c:Int
 r:Int
 q:Int
structure Ok (s:Sp) (n:Nat):Prop where
 w0:1≤s.w
 w1:s.w≤500
 c0:0≤s.c
 c1:s.c<s.w
 r0:0≤s.r
 r1:s.r≤n
 q0:s.q=0∨s.q=1∨s.q=2
end Sp
end
section
namespace Sc
abbrev Bs:=List (BitVec 8)
structure Ev where
 k:Int
 i:Int
 n:Int
 t:Bs
def hasI (k:Int):Bool:=decide (k=0∨k=1∨k=2∨k=6)
def hasN (k:Int):Bool:=decide (k=2∨k=4∨k=7)
def hasD (k:Int):Bool:=decide (k=1∨k=3)
def inB (e:Ev):Bool:=decide (0≤e.k) && (decide (e.k≤7) && (decide (0≤e.i) && (decide (e.i≤255) && (decide (0≤e.n) && (decide (e.n≤65536) && decide (e.t.length≤4000))))))
def ownB (e:Ev):Bool:=(hasI e.k || decide (e.i=0)) && ((hasN e.k || decide (e.n=0)) && (hasD e.k || decide (e.t=[])))
def rtE (e:Ev):Bool:=inB e && ownB e
def ownE (e:Ev):Ev:=⟨e.k,if hasI e.k then e.i else 0,if hasN e.k then e.n else 0,if hasD e.k then e.t else []⟩
theorem rtE_in {e:Ev} (h:rtE e=true):0≤e.k∧e.k≤7∧0≤e.i∧e.i≤255∧0≤e.n∧e.n≤65536∧e.t.length≤4000:=by
 unfold rtE inB at h;simp only [Bool.and_eq_true,decide_eq_true_eq] at h;exact h.1
def b8 (x:Nat):BitVec 8:=BitVec.ofNat 8 x
def three (n:Nat):Bs:=[b8 (n / 65536),b8 (n / 256),b8 n]
def two (n:Nat):Bs:=[b8 (n / 256),b8 n]
def evb (e:Ev):Bs:=[b8 e.k.toNat,b8 e.i.toNat] ++ three e.n.toNat ++ two e.t.length ++ e.t
def evs (l:List Ev):Bs:=l.flatMap evb
def nat (l:Bs):Nat:=l.foldl (fun n c=>256 * n+c.toNat) 0
theorem nat_snoc (l:Bs) (c:BitVec 8):nat (l ++ [c])=256 * nat l+c.toNat:=by
 unfold nat;rw [List.foldl_append];rfl
theorem nat_lt:∀ (n:Nat) (l:Bs),l.length=n→nat l<256 ^ n:=by
  intro n
  induction n with
  | zero=>intro l h; rw [List.eq_nil_of_length_eq_zero h]; decide
  | succ n ih =>
    intro l h
    have hne:l≠[]:=by intro e; subst e; simp at h
    have hl:=List.dropLast_concat_getLast hne;have h1:=ih l.dropLast (by simp [h]);have h2:=(l.getLast hne).isLt;have h3:=nat_snoc l.dropLast (l.getLast hne);rw [hl] at h3;rw [h3,Nat.pow_succ];omega
theorem nat_le (n:Nat) (l:Bs) (h:l.length≤n):nat l<256 ^ n:=
 Nat.lt_of_lt_of_le (nat_lt _ l rfl) (Nat.pow_le_pow_right (by omega) h)
theorem three_nat (l:Bs) (h:l.length=3):three (nat l)=l:=by
 rcases l with _ | ⟨a,_ | ⟨b,_ | ⟨c,_ | ⟨d,l⟩⟩⟩⟩ <;> simp at h
 have ha:=a.isLt;have hb:=b.isLt;have hc:=c.isLt;simp only [nat,three,b8,List.foldl]
 congr 1
 ·apply BitVec.eq_of_toNat_eq; simp; omega
 congr 1
 ·apply BitVec.eq_of_toNat_eq; simp; omega
 congr 1
 apply BitVec.eq_of_toNat_eq; simp; omega
theorem two_nat (l:Bs) (h:l.length=2):two (nat l)=l:=by
 rcases l with _ | ⟨a,_ | ⟨b,_ | ⟨d,l⟩⟩⟩ <;> simp at h
 have ha:=a.isLt;have hb:=b.isLt;simp only [nat,two,b8,List.foldl]
 congr 1
 ·apply BitVec.eq_of_toNat_eq; simp; omega
 congr 1
 apply BitVec.eq_of_toNat_eq; simp; omega
def size (l:Bs):Nat:=7+nat ((l.drop 5).take 2)
def evOf (l:Bs):Ev:=⟨((l[0]?.getD 0#8).toNat:Nat),((l[1]?.getD 0#8).toNat:Nat),(nat ((l.drop 2).take 3):Nat),(l.drop 7).take (nat ((l.drop 5).take 2))⟩
def shortB (l:Bs):Prop:=l.length<7∨l.length<size l
def wholeB (l:Bs):Prop:=7≤l.length∧size l≤l.length
theorem evb_evOf (l:Bs) (h:wholeB l):evb (evOf l)=l.take (size l):=by
 obtain ⟨h1,h2⟩:=h;have hs:size l=7+nat ((l.drop 5).take 2):=rfl
 have ht:((evOf l).t).length=nat ((l.drop 5).take 2):=by
  simp [evOf];omega
 unfold evb;rw [ht]
 rcases l with _ | ⟨a0,_ | ⟨a1,_ | ⟨a2,_ | ⟨a3,_ | ⟨a4,_ | ⟨a5,_ | ⟨a6,l⟩⟩⟩⟩⟩⟩⟩ <;> (try (simp at h1; done))
 rw [hs];simp only [evOf,List.drop_succ_cons,List.drop_zero,List.getElem?_cons_zero,List.getElem?_cons_succ,Option.getD_some,Int.toNat_natCast];rw [show List.take 3 (a2 :: a3 :: a4 :: a5 :: a6 :: l)=[a2,a3,a4] from rfl,show List.take 2 (a5 :: a6 :: l)=[a5,a6] from rfl];rw [three_nat _ rfl,two_nat _ rfl];rw [show b8 a0.toNat=a0 by apply BitVec.eq_of_toNat_eq; simp [b8],show b8 a1.toNat=a1 by apply BitVec.eq_of_toNat_eq; simp [b8]];rw [show 7+nat [a5,a6]=nat [a5,a6]+7 by omega];rfl
theorem evs_app (a b:List Ev):evs (a ++ b)=evs a ++ evs b:=by simp [evs]
structure Reads (r:Bs) (L:List Ev) (m e:Nat):Prop where
 le:m≤r.length
 bytes:r.take m=evs L
 right:∀ x∈L,rtE x=true
 many:L.length≤8192
 stop:(e=0∧m=r.length)∨(e=5∧m<r.length∧shortB (r.drop m))∨(e=8∧m<r.length∧wholeB (r.drop m)∧rtE (evOf (r.drop m))=false) ∨
  (e=6∧m<r.length∧wholeB (r.drop m)∧rtE (evOf (r.drop m))=true∧L.length=8192)
end Sc
end
end Go.Proofs.YtecjpkjbgknnnaaGreatDoor
