namespace Go.Proofs.YtdpagmcickkbmaaGreatDoor
set_option maxRecDepth 100000
/- PCrc PFr PFd PMs PLx PSp PAu PSc -/
section
namespace Crc
def K:BitVec 16:=0x1021#16
def E:BitVec 16:=0x8000#16
def T (s:BitVec 16):BitVec 16:=(s <<< 1) ^^^ (if s.msb then K else 0#16)
def B (s:BitVec 16) (b:Bool):BitVec 16:=(s <<< 1) ^^^ (if (b != s.msb) then K else 0#16)
def iter:Nat→BitVec 16→BitVec 16
 | 0,s=>s
 | n+1,s=>T (iter n s)
def run (d:Nat→Bool) (s:BitVec 16):Nat→BitVec 16
 | 0=>s
 | k+1=>B (run d s k) (d k)
def apart:Nat→BitVec 16→Bool
 | 0,_=>true
 | n+1,s=>s != E && apart n (T s)
def hi (c:BitVec 8):BitVec 16:=(BitVec.setWidth 16 c) <<< (8:Nat)
def more (s:BitVec 16) (l:List (BitVec 8)):BitVec 16:=l.foldl (fun s c=>iter 8 (s ^^^ (hi c))) s
theorem more_snoc (s:BitVec 16) (l:List (BitVec 8)) (c:BitVec 8):more s (l ++ [c])=iter 8 (more s l ^^^ (hi c)):=by
 simp [more]
end Crc
end
section
namespace Fr
open Crc
abbrev Bs:=List (BitVec 8)
def num (n:Nat):Bs:=[BitVec.ofNat 8 (n / 256),BitVec.ofNat 8 n]
def sum (l:Bs):Nat:=(more 0xffff#16 l).toNat
theorem sum_lt (l:Bs):sum l<65536:=(more 0xffff#16 l).isLt
def pre (k:BitVec 8) (body:Bs):Bs:=num (body.length+1) ++ (k :: body)
def fr (k:BitVec 8) (body:Bs):Bs:=pre k body ++ num (sum (k :: body))
theorem num_len (n:Nat):(num n).length=2:=rfl
theorem pre_len (k:BitVec 8) (body:Bs):(pre k body).length=body.length+3:=by simp [pre,num_len]; omega
theorem fr_len (k:BitVec 8) (body:Bs):(fr k body).length=body.length+5:=by simp [fr,pre_len,num_len]
def num2 (l:Bs):Nat:=256 * (l[0]?.getD 0#8).toNat+(l[1]?.getD 0#8).toNat
theorem num2_lt (l:Bs):num2 l<65536:=by
 unfold num2;have h1:=(l[0]?.getD 0#8).isLt;have h2:=(l[1]?.getD 0#8).isLt;omega
theorem num2_num (n:Nat) (r:Bs) (h:n<65536):num2 (num n ++ r)=n:=by
 simp [num2,num];omega
theorem num_num2 (l:Bs) (h:2≤l.length):num (num2 l)=l.take 2:=by
 rcases l with _ | ⟨a,_ | ⟨b,l⟩⟩
 ·simp at h
 ·simp at h
 ·have ha:=a.isLt
  have hb:=b.isLt;simp [num,num2];refine ⟨BitVec.eq_of_toNat_eq ?_,BitVec.eq_of_toNat_eq ?_⟩
  ·simp
   omega
  ·simp
   omega
theorem num_inj {m n:Nat} (hm:m<65536) (hn:n<65536) (h:num m=num n):m=n:=by
 have h1:=num2_num m [] hm;have h2:=num2_num n [] hn;rw [h] at h1;omega
structure Got where
 k:BitVec 8
 body:Bs
 n:Nat
 err:Nat
def err (l:Bs):Nat:=
 if l.length<2 then 5
 else if num2 l=0∨2049<num2 l then 6
 else if l.length<num2 l+4 then 5
 else if sum ((l.drop 2).take (num2 l))≠num2 (l.drop (num2 l+2)) then 7
 else 0
def get (l:Bs):Got:=
 if err l=0 then ⟨l[2]?.getD 0#8,(l.drop 3).take (num2 l - 1),num2 l+4,0⟩ else ⟨0#8,[],0,err l⟩
theorem err_short {l:Bs} (h:l.length<2):err l=5:=by unfold err; rw [if_pos h]
theorem err_long {l:Bs} (h:2≤l.length) (h2:num2 l=0∨2049<num2 l):err l=6:=by
 unfold err; rw [if_neg (by omega),if_pos h2]
theorem err_cut {l:Bs} (h:2≤l.length) (h2:0<num2 l) (h3:num2 l≤2049) (h4:l.length<num2 l+4):err l=5:=by
 unfold err; rw [if_neg (by omega),if_neg (by omega),if_pos h4]
theorem err_sum {l:Bs} (h2:0<num2 l) (h3:num2 l≤2049) (h4:num2 l+4≤l.length) (h5:sum ((l.drop 2).take (num2 l))≠num2 (l.drop (num2 l+2))):err l=7:=by
 unfold err; rw [if_neg (by omega),if_neg (by omega),if_neg (by omega),if_pos h5]
theorem err_ok {l:Bs} (h2:0<num2 l) (h3:num2 l≤2049) (h4:num2 l+4≤l.length) (h5:sum ((l.drop 2).take (num2 l))=num2 (l.drop (num2 l+2))):err l=0:=by
 unfold err; rw [if_neg (by omega),if_neg (by omega),if_neg (by omega),if_neg (by omega)]
theorem get_no {l:Bs} {e:Nat} (h:err l=e) (he:e≠0):get l=⟨0#8,[],0,e⟩:=by
 unfold get; rw [h,if_neg he]
theorem get_yes {l:Bs} (h:err l=0):get l=⟨l[2]?.getD 0#8,(l.drop 3).take (num2 l - 1),num2 l+4,0⟩:=by
 unfold get; rw [if_pos h]
theorem num2_fr (k:BitVec 8) (body r:Bs) (hb:body.length≤2048):num2 (fr k body ++ r)=body.length+1:=by
 unfold fr pre;rw [List.append_assoc,List.append_assoc];exact num2_num _ _ (by omega)
theorem fr_take (k:BitVec 8) (body r:Bs):((fr k body ++ r).drop 2).take (body.length+1)=k :: body:=by
 have e:fr k body ++ r=num (body.length+1) ++ ((k :: body) ++ (num (sum (k :: body)) ++ r)):=by simp [fr,pre]
 rw [e,List.drop_left' (num_len _),List.take_left' (by simp)]
theorem fr_drop (k:BitVec 8) (body r:Bs):(fr k body ++ r).drop (body.length+1+2)=num (sum (k :: body)) ++ r:=by
 have e:fr k body ++ r=pre k body ++ (num (sum (k :: body)) ++ r):=by simp [fr]
 rw [e,List.drop_left' (by rw [pre_len])]
theorem get_fr (k:BitVec 8) (body r:Bs) (hb:body.length≤2048):get (fr k body ++ r)=⟨k,body,body.length+5,0⟩:=by
 have h2:=num2_fr k body r hb
 have hl:(fr k body ++ r).length=body.length+5+r.length:=by simp [fr_len]
 have h0:err (fr k body ++ r)=0:=by
  refine err_ok (by omega) (by omega) (by omega) ?_;rw [h2,fr_take,fr_drop,num2_num _ _ (sum_lt _)]
 rw [get_yes h0,h2]
 have e:fr k body ++ r=(num (body.length+1) ++ [k]) ++ (body ++ (num (sum (k :: body)) ++ r)):=by simp [fr,pre]
 have ek:(fr k body ++ r)[2]?.getD 0#8=k:=by rw [e]; simp [num]
 have eb:((fr k body ++ r).drop 3).take body.length=body:=by
  rw [e,List.drop_left' (by simp [num_len]),List.take_left' rfl]
 rw [ek,Nat.add_sub_cancel,eb]
theorem fr_of (l:Bs) (h2:0<num2 l) (h4:num2 l+4≤l.length) :
  (fr (l[2]?.getD 0#8) ((l.drop 3).take (num2 l - 1))=l.take (num2 l+4))↔sum ((l.drop 2).take (num2 l))=num2 (l.drop (num2 l+2)):=by
 have hlen:((l.drop 3).take (num2 l - 1)).length=num2 l - 1:=by simp; omega
 have hk:l[2]?.getD 0#8 :: (l.drop 3).take (num2 l - 1)=(l.drop 2).take (num2 l):=by
  rw [show l.drop 2=l[2]?.getD 0#8 :: l.drop 3 by
   rw [List.getElem?_eq_getElem (show 2<l.length by omega),Option.getD_some]
   exact (List.drop_eq_getElem_cons (show 2<l.length by omega))]
  rw [show num2 l=(num2 l - 1)+1 by omega,List.take_succ_cons,Nat.add_sub_cancel]
 have h0:l.take (num2 l+4)=num (num2 l) ++ ((l.drop 2).take (num2 l)) ++ (l.drop (num2 l+2)).take 2:=by
  rw [num_num2 l (by omega),show num2 l+4=2+num2 l+2 by omega,List.take_add,List.take_add];rw [show 2+num2 l=num2 l+2 by omega]
 unfold fr pre;rw [hk,hlen,show num2 l - 1+1=num2 l by omega,h0,← num_num2 (l.drop (num2 l+2)) (by simp; omega)]
 constructor
 ·intro h
  exact num_inj (sum_lt _) (num2_lt _) (List.append_cancel_left h)
 ·intro h
  rw [h]
end Fr
end
section
namespace Fr
def Tells:Bs→List (BitVec 8×Bs)→Bs→Prop
 | l,[],r=>l=r∧err l≠0
 | l,f :: fs,r=>err l=0∧f=((get l).k,(get l).body)∧Tells (l.drop (get l).n) fs r
theorem Tells.stop (l:Bs) (h:err l≠0):Tells l [] l:=⟨rfl,h⟩
theorem Tells.next (l:Bs) (h:err l=0) (fs:List (BitVec 8×Bs)) (r:Bs) (t:Tells (l.drop (get l).n) fs r):Tells l (((get l).k,(get l).body) :: fs) r:=⟨h,rfl,t⟩
theorem tells_stop {l r:Bs} {fs:List (BitVec 8×Bs)} (h:Tells l fs r) (he:err l≠0):fs=[]∧r=l:=by
 cases fs with
 | nil=>exact ⟨rfl,h.1.symm⟩
 | cons f fs=>exact absurd h.1 he
theorem tells_next {l r:Bs} {fs:List (BitVec 8×Bs)} (h:Tells l fs r) (he:err l=0):∃ gs,fs=((get l).k,(get l).body) :: gs∧Tells (l.drop (get l).n) gs r:=by
 cases fs with
 | nil=>exact absurd he h.2
 | cons f fs=>exact ⟨fs,by rw [h.2.1],h.2.2⟩
theorem err_zero {l:Bs} (h:err l=0):2≤l.length∧0<num2 l∧num2 l≤2049∧num2 l+4≤l.length∧sum ((l.drop 2).take (num2 l))=num2 (l.drop (num2 l+2)):=by
 by_cases h1:l.length<2
 ·rw [err_short h1] at h; omega
 by_cases h2:num2 l=0∨2049<num2 l
 ·rw [err_long (by omega) h2] at h; omega
 by_cases h3:l.length<num2 l+4
 ·rw [err_cut (by omega) (by omega) (by omega) h3] at h; omega
 by_cases h4:sum ((l.drop 2).take (num2 l))=num2 (l.drop (num2 l+2))
 ·exact ⟨by omega,by omega,by omega,by omega,h4⟩
 ·rw [err_sum (by omega) (by omega) (by omega) h4] at h; omega
theorem get_n {l:Bs} (h:err l=0):(get l).n=num2 l+4:=by rw [get_yes h]
theorem get_n5 {l:Bs} (h:err l=0):5≤(get l).n∧(get l).n≤l.length:=by
 obtain ⟨_,h1,h2,h3,_⟩:=err_zero h;rw [get_n h];omega
theorem get_body_len {l:Bs} (h:err l=0):(get l).body.length+5=(get l).n:=by
 obtain ⟨_,h1,h2,h3,_⟩:=err_zero h;rw [get_yes h];simp;omega
theorem Tells.left {r:Bs}:∀ {fs:List (BitVec 8×Bs)} {l:Bs},Tells l fs r→err r≠0
 | [],_,h=>by rw [← h.1]; exact h.2
 | _ :: _,_,h=>Tells.left h.2.2
theorem Tells.short {r:Bs}:∀ {fs:List (BitVec 8×Bs)} {l:Bs},Tells l fs r→r.length+5 * fs.length≤l.length
  | [],_,h=>by rw [h.1]; simp
  | _ :: fs,l,h=>by
    have h1:=Tells.short h.2.2;have h2:=get_n5 h.1;simp at h1 ⊢;omega
theorem Tells.one {r r':Bs}:∀ {fs fs':List (BitVec 8×Bs)} {l:Bs},Tells l fs r→Tells l fs' r'→fs=fs'∧r=r'
  | [],_,_,h,h'=>by
    obtain ⟨h1,h2⟩:=tells_stop h' h.2;exact ⟨h1.symm,by rw [h2,h.1]⟩
  | f :: fs,fs',l,h,h'=>by
    obtain ⟨gs,h1,h2⟩:=tells_next h' h.1;obtain ⟨h3,h4⟩:=Tells.one h.2.2 h2;rw [h1,h3,h.2.1];exact ⟨rfl,h4⟩
theorem tells_all (l:Bs):∃ fs r,Tells l fs r:=by
  generalize hn:l.length=n
  induction n using Nat.strongRecOn generalizing l with
  | _ n ih =>
    by_cases h:err l=0
    · have h5:=get_n5 h
      obtain ⟨fs,r,t⟩:=ih (l.drop (get l).n).length (by simp; omega) (l.drop (get l).n) rfl;exact ⟨_,_,.next l h fs r t⟩
    · exact ⟨[],l,.stop l h⟩
def keep (r:Bs):Bs:=if err r=5 then r else []
def broke (r:Bs):Nat:=if err r=5 then 0 else err r
theorem keep_short {r:Bs} (h:err r=5):keep r=r∧broke r=0:=by unfold keep broke; rw [if_pos h,if_pos h]; exact ⟨rfl,rfl⟩
theorem keep_else {r:Bs} (h:err r≠5):keep r=[]∧broke r=err r:=by unfold keep broke; rw [if_neg h,if_neg h]; exact ⟨rfl,rfl⟩
end Fr
end
section
namespace Ms
open Fr
def nu (k:Int):Nat:=if k=1∨k=5∨k=7∨k=8 then 2 else if k=2∨k=6∨k=9∨k=13∨k=15 then 1 else 0
def tx (k:Int):Nat:=if k=1∨k=5 then 20 else if k=2∨k=6 then 2042 else if k=10∨k=11 then 80 else 0
def isK (k:Int):Bool:=decide (1≤k∧k≤15)
def okN (n:Int) (has:Bool):Bool:=if has then decide (0≤n∧n≤1099511627776) else decide (n=0)
def rt (k a b:Int) (n:Nat):Bool:=isK k && okN a (decide (1≤nu k)) && okN b (decide (2≤nu k)) && decide (n≤tx k)
theorem nu_le (k:Int):nu k≤2:=by unfold nu; split <;> (try split) <;> omega
theorem tx_le (k:Int):tx k≤2042:=by unfold tx; split <;> (try split) <;> (try split) <;> omega
theorem room (k:Int):6 * nu k+tx k≤2048:=by unfold nu tx; (repeat' split) <;> omega
theorem isK_iff {k:Int}:isK k=true↔1≤k∧k≤15:=by unfold isK; simp
theorem okN_range {n:Int} {h:Bool} (k:okN n h=true):0≤n∧n≤1099511627776:=by
 unfold okN at k
 cases h <;> simp at k <;> omega
theorem rt_iff {k a b:Int} {n:Nat}:rt k a b n=true↔isK k=true∧okN a (decide (1≤nu k))=true∧okN b (decide (2≤nu k))=true∧n≤tx k:=by
 unfold rt;simp [and_assoc]
theorem rt_a {k a b:Int} {n:Nat} (h:rt k a b n=true):0≤a∧a≤1099511627776:=okN_range (rt_iff.1 h).2.1
theorem rt_b {k a b:Int} {n:Nat} (h:rt k a b n=true):0≤b∧b≤1099511627776:=okN_range (rt_iff.1 h).2.2.1
theorem rt_k {k a b:Int} {n:Nat} (h:rt k a b n=true):1≤k∧k≤15:=isK_iff.1 (rt_iff.1 h).1
theorem rt_n {k a b:Int} {n:Nat} (h:rt k a b n=true):n≤tx k:=(rt_iff.1 h).2.2.2
theorem rt_a0 {k a b:Int} {n:Nat} (h:rt k a b n=true) (h0:nu k=0):a=0:=by
 have:=(rt_iff.1 h).2.1;unfold okN at this;simp [h0] at this;exact this
theorem rt_b0 {k a b:Int} {n:Nat} (h:rt k a b n=true) (h0:nu k<2):b=0:=by
 have:=(rt_iff.1 h).2.2.1;unfold okN at this;rw [show decide (2≤nu k)=false by simp; omega] at this
 simpa using this
def six (n:Int):Bs:=[BitVec.ofInt 8 (n / 1099511627776),BitVec.ofInt 8 (n / 4294967296),BitVec.ofInt 8 (n / 16777216),BitVec.ofInt 8 (n / 65536),BitVec.ofInt 8 (n / 256),BitVec.ofInt 8 n]
theorem six_len (n:Int):(six n).length=6:=rfl
def nat (l:Bs):Nat:=l.foldl (fun n c=>256 * n+c.toNat) 0
theorem nat_snoc (l:Bs) (c:BitVec 8):nat (l ++ [c])=256 * nat l+c.toNat:=by
 unfold nat;rw [List.foldl_append];rfl
theorem nat_lt (l:Bs) (n:Nat) (h:l.length≤n):nat l<256 ^ n:=by
  induction n generalizing l with
  | zero =>
    obtain rfl:=List.eq_nil_of_length_eq_zero (Nat.le_zero.1 h);simp [nat]
  | succ n ih =>
    rcases List.eq_nil_or_concat l with rfl | ⟨r,c,rfl⟩
    · simp only [nat,List.foldl_nil]
      exact Nat.pow_pos (by omega)
    · rw [List.concat_eq_append,nat_snoc]
      have:=ih r (by simp at h; omega);have hc:=c.isLt;rw [Nat.pow_succ];omega
def num6 (l:Bs):Nat:=nat (l.take 6)
theorem byte_nat (n:Int):(BitVec.ofInt 8 n).toNat=(n % 256).toNat:=by
 rw [BitVec.toNat_ofInt];rfl
theorem horner (x0 x1 x2 x3 x4 x5:Nat):nat [BitVec.ofInt 8 x0,BitVec.ofInt 8 x1,BitVec.ofInt 8 x2,BitVec.ofInt 8 x3,BitVec.ofInt 8 x4,BitVec.ofInt 8 x5]=256 * (256 * (256 * (256 * (256 * (x0 % 256)+x1 % 256)+x2 % 256)+x3 % 256)+x4 % 256)+x5 % 256:=by
 have key:∀ x:Nat,(BitVec.ofInt 8 x).toNat=x % 256:=by
  intro x;rw [byte_nat];omega
 simp only [nat,List.foldl_cons,List.foldl_nil,key];omega
theorem num6_six (n:Int) (r:Bs) (h0:0≤n) (h1:n<281474976710656):(num6 (six n ++ r):Int)=n:=by
 obtain ⟨m,rfl⟩:=Int.eq_ofNat_of_zero_le h0
 have e:(six (m:Int) ++ r).take 6=[BitVec.ofInt 8 (m / 256 / 256 / 256 / 256 / 256:Nat),BitVec.ofInt 8 (m / 256 / 256 / 256 / 256:Nat),BitVec.ofInt 8 (m / 256 / 256 / 256:Nat),BitVec.ofInt 8 (m / 256 / 256:Nat),BitVec.ofInt 8 (m / 256:Nat),BitVec.ofInt 8 (m:Nat)]:=by
  rw [List.take_left' (six_len _)];simp only [Nat.div_div_eq_div_mul];rfl
 have h2:m<281474976710656:=by omega
 have hd:∀ x:Nat,256 * (x / 256)+x % 256=x:=fun x=>Nat.div_add_mod x 256
 unfold num6;rw [e,horner]
 have h5:m / 256 / 256 / 256 / 256 / 256<256:=by omega
 rw [Nat.mod_eq_of_lt h5,hd,hd,hd,hd,hd]
theorem six_num6 (l:Bs) (h:6≤l.length):six (num6 l)=l.take 6:=by
 rcases l with _ | ⟨a,_ | ⟨b,_ | ⟨c,_ | ⟨d,_ | ⟨e,_ | ⟨f,l⟩⟩⟩⟩⟩⟩
 ·simp at h
 ·simp at h
 ·simp at h
 ·simp at h
 ·simp at h
 ·simp at h
 ·have ha:=a.isLt
  have hb:=b.isLt;have hc:=c.isLt;have hd:=d.isLt;have he:=e.isLt;have hf:=f.isLt;unfold num6 six nat;simp only [List.take_succ_cons,List.take_zero,List.foldl_cons,List.foldl_nil]
  have key:∀ (x:BitVec 8) (n:Int),n % 256=x.toNat→BitVec.ofInt 8 n=x:=by
   intro x n h1
   apply BitVec.eq_of_toNat_eq
   rw [byte_nat n,h1];rfl
  rw [key a _ (by omega),key b _ (by omega),key c _ (by omega),key d _ (by omega),key e _ (by omega),key f _ (by omega)]
def hd (k a b:Int):Bs:=(six a ++ six b).take (6 * nu k)
theorem hd_len (k a b:Int):(hd k a b).length=6 * nu k:=by
 have:=nu_le k;unfold hd;rw [List.length_take,List.length_append,six_len,six_len];omega
def body (k a b:Int) (t:Bs):Bs:=hd k a b ++ t
theorem body_len (k a b:Int) (t:Bs):(body k a b t).length=6 * nu k+t.length:=by
 unfold body;rw [List.length_append,hd_len]
theorem body_le {k a b:Int} {t:Bs} (h:rt k a b t.length=true):(body k a b t).length≤2048:=by
 have h1:=rt_n h;have h2:=room k;rw [body_len];omega
def ofA (k:Int) (l:Bs):Nat:=if 1≤nu k then num6 l else 0
def ofB (k:Int) (l:Bs):Nat:=if 2≤nu k then num6 (l.drop 6) else 0
def ofT (k:Int) (l:Bs):Bs:=l.drop (6 * nu k)
def ofOk (k:Int) (l:Bs):Bool:=decide (6 * nu k≤l.length) && rt k (ofA k l) (ofB k l) (ofT k l).length
theorem hd_0 {k a b:Int} (h:nu k=0):hd k a b=[]:=by unfold hd; rw [h]; rfl
theorem hd_1 {k a b:Int} (h:nu k=1):hd k a b=six a:=by unfold hd; rw [h]; rfl
theorem hd_2 {k a b:Int} (h:nu k=2):hd k a b=six a ++ six b:=by unfold hd; rw [h]; rfl
theorem nu_cases (k:Int):nu k=0∨nu k=1∨nu k=2:=by have:=nu_le k; omega
theorem of_body {k a b:Int} {t:Bs} (h:rt k a b t.length=true):(ofA k (body k a b t):Int)=a∧(ofB k (body k a b t):Int)=b∧ofT k (body k a b t)=t∧ofOk k (body k a b t)=true:=by
 have ha:=rt_a h;have hb:=rt_b h;have h0:=rt_a0 h;have h1:=rt_b0 h
 have hT:ofT k (body k a b t)=t:=by
  unfold ofT body;rw [List.drop_left' (hd_len k a b)]
 have hA:(ofA k (body k a b t):Int)=a:=by
  unfold ofA body
  rcases nu_cases k with e | e | e
  ·rw [if_neg (by omega),h0 e]; rfl
  ·rw [if_pos (by omega),hd_1 e,num6_six a t (by omega) (by omega)]
  ·rw [if_pos (by omega),hd_2 e,List.append_assoc,num6_six a _ (by omega) (by omega)]
 have hB:(ofB k (body k a b t):Int)=b:=by
  unfold ofB body
  rcases nu_cases k with e | e | e
  ·rw [if_neg (by omega),h1 (by omega)]; rfl
  ·rw [if_neg (by omega),h1 (by omega)]; rfl
  ·rw [if_pos (by omega),hd_2 e,List.append_assoc,List.drop_left' (six_len a),num6_six b t (by omega) (by omega)]
 refine ⟨hA,hB,hT,?_⟩;unfold ofOk;rw [hT,hA,hB,h,body_len];simp
theorem body_of {k:Int} {l:Bs} (h:ofOk k l=true):body k (ofA k l) (ofB k l) (ofT k l)=l:=by
 unfold ofOk at h;simp only [Bool.and_eq_true,decide_eq_true_eq] at h;obtain ⟨hl,_⟩:=h
 have hdr:∀ n,l=l.take n ++ l.drop n:=fun n=>(List.take_append_drop n l).symm
 unfold body ofT ofA ofB
 rcases nu_cases k with e | e | e
 ·rw [hd_0 e,e]; rfl
 ·rw [hd_1 e,e,if_pos (by omega),six_num6 l (by omega)]
  exact List.take_append_drop 6 l
 ·rw [hd_2 e,e,if_pos (by omega),if_pos (by omega),six_num6 l (by omega),six_num6 _ (by rw [List.length_drop]; omega)]
  rw [show 6 * 2=6+6 from rfl,← List.drop_drop,List.append_assoc,List.take_append_drop,List.take_append_drop]
end Ms
end
section
namespace Lx
abbrev By:=List (BitVec 8)
structure Lx where
 q:Nat
 b:By
def lx0:Lx:=⟨0,[]⟩
def lstep (s:Lx) (c:BitVec 8):Lx:=
 if s.q=0 then (if c.toNat=29 then ⟨1,[]⟩ else s)
 else if s.q=1 then (if c.toNat=58 then ⟨2,[]⟩ else lx0)
 else if c.toNat=10 then lx0 else ⟨2,s.b ++ [c]⟩
def lkey (s:Lx) (c:BitVec 8):By:=
 if s.q=0 then (if c.toNat=29 then [] else [c])
 else if s.q=1 then (if c.toNat=29 then [c] else [])
 else []
def shut (b:By):By:=if 80<b.length then [] else b
def lcmd (s:Lx) (c:BitVec 8):List By:=
 if s.q=0 then [] else if s.q=1 then [] else if c.toNat=10 then [shut s.b] else []
def lrun (s:Lx) (l:By):Lx:=l.foldl lstep s
def lkeys (s:Lx):By→By
 | []=>[]
 | c :: l=>lkey s c ++ lkeys (lstep s c) l
def lcmds (s:Lx):By→List By
 | []=>[]
 | c :: l=>lcmd s c ++ lcmds (lstep s c) l
theorem lrun_app (s:Lx) (l m:By):lrun s (l ++ m)=lrun (lrun s l) m:=by
 unfold lrun;rw [List.foldl_append]
theorem lkeys_app (s:Lx) (l m:By):lkeys s (l ++ m)=lkeys s l ++ lkeys (lrun s l) m:=by
  induction l generalizing s with
  | nil=>rfl
  | cons c l ih =>
    show lkey s c ++ lkeys (lstep s c) (l ++ m)=lkey s c ++ lkeys (lstep s c) l ++ _
    rw [ih,List.append_assoc];rfl
theorem lcmds_app (s:Lx) (l m:By):lcmds s (l ++ m)=lcmds s l ++ lcmds (lrun s l) m:=by
  induction l generalizing s with
  | nil=>rfl
  | cons c l ih =>
    show lcmd s c ++ lcmds (lstep s c) (l ++ m)=lcmd s c ++ lcmds (lstep s c) l ++ _
    rw [ih,List.append_assoc];rfl
def at_ (l:By) (k:Nat):BitVec 8:=l[k]?.getD 0#8
theorem take_at (l:By) (k:Nat) (h:k<l.length):l.take (k+1)=l.take k ++ [at_ l k]:=by
 unfold at_;rw [List.take_add_one,List.getElem?_eq_getElem h];rfl
def S (l:By) (k:Nat):Lx:=lrun lx0 (l.take k)
def K (l:By) (k:Nat):By:=lkeys lx0 (l.take k)
def C (l:By) (k:Nat):List By:=lcmds lx0 (l.take k)
theorem lkey_len (s:Lx) (c:BitVec 8):(lkey s c).length≤1:=by
 unfold lkey
 (repeat' split) <;> simp
theorem lcmd_len (s:Lx) (c:BitVec 8):(lcmd s c).length≤1:=by
 unfold lcmd
 (repeat' split) <;> simp
theorem lkeys_len (s:Lx) (l:By):(lkeys s l).length≤l.length:=by
  induction l generalizing s with
  | nil=>exact Nat.le_refl _
  | cons c l ih =>
    have h1:=lkey_len s c;have h2:=ih (lstep s c);simp only [lkeys,List.length_append,List.length_cons];omega
theorem lcmds_len (s:Lx) (l:By):(lcmds s l).length≤l.length:=by
  induction l generalizing s with
  | nil=>exact Nat.le_refl _
  | cons c l ih =>
    have h1:=lcmd_len s c;have h2:=ih (lstep s c);simp only [lcmds,List.length_append,List.length_cons];omega
def cut (l:By) (i j:Nat):By:=(l.drop i).take (j - i)
end Lx
end
section
namespace Sp
structure Sp where
 w:Int
 c:Int
 r:Int
 q:Int
def way (s:Sp) (x:Nat):Sp:=
 if x=65 then (if 0<s.r then { s with r:=s.r - 1 } else s)
 else if x=66 then { s with r:=s.r+1 }
 else if x=67 then (if s.c<s.w - 1 then { s with c:=s.c+1 } else s)
 else if x=68 then (if 0<s.c then { s with c:=s.c - 1 } else s)
 else s
def lone (s:Sp) (x:Nat):Sp:=
 if x=27 then { s with q:=1 }
 else if x=13 then { s with c:=0 }
 else if x=10 then { s with r:=s.r+1 }
 else if x=8 then (if 0<s.c then { s with c:=s.c - 1 } else s)
 else if x=9 then (if s.w - 1<s.c / 8 * 8+8 then { s with c:=s.w - 1 } else { s with c:=s.c / 8 * 8+8 })
 else if x<32∨x=127 then s
 else if s.c+1<s.w then { s with c:=s.c+1 }
 else { s with c:=0,r:=s.r+1 }
def nxt (s:Sp) (x:Nat):Sp:=
 if s.q=1 then { s with q:=if x=91 then 2 else 0 }
 else if s.q=2 then way { s with q:=0 } x
 else lone s x
def nxts (s:Sp) (l:List (BitVec 8)):Sp:=l.foldl (fun s x=>nxt s x.toNat) s
structure Ok (s:Sp) (n:Nat):Prop where
 w0:1≤s.w
 w1:s.w≤500
 c0:0≤s.c
 c1:s.c<s.w
 r0:0≤s.r
 r1:s.r≤n
 q0:s.q=0∨s.q=1∨s.q=2
theorem Ok.start {w:Int} (h0:1≤w) (h1:w≤500):Ok ⟨w,0,0,0⟩ 0:=
 ⟨h0,h1,Int.le_refl _,by show (0:Int)<w; omega,Int.le_refl _,Int.le_refl _,.inl rfl⟩
theorem Ok.mk' {w c r q:Int} {n:Nat} (w0:1≤w) (w1:w≤500) (c0:0≤c) (c1:c<w) (r0:0≤r) (r1:r≤n) (q0:q=0∨q=1∨q=2):Ok ⟨w,c,r,q⟩ n:=⟨w0,w1,c0,c1,r0,r1,q0⟩
theorem Ok.way {s:Sp} {n:Nat} (h:Ok s n) (x:Nat):Ok (way s x) (n+1):=by
 obtain ⟨w,c,r,q⟩:=s;obtain ⟨w0,w1,c0,c1,r0,r1,q0⟩:=h;simp only at w0 w1 c0 c1 r0 r1 q0;unfold Sp.way;simp only
 (repeat' split) <;> exact Ok.mk' (by omega) (by omega) (by omega) (by omega) (by omega) (by omega) (by omega)
theorem Ok.lone {s:Sp} {n:Nat} (h:Ok s n) (x:Nat):Ok (lone s x) (n+1):=by
 obtain ⟨w,c,r,q⟩:=s;obtain ⟨w0,w1,c0,c1,r0,r1,q0⟩:=h;simp only at w0 w1 c0 c1 r0 r1 q0;unfold Sp.lone;simp only
 (repeat' split) <;> exact Ok.mk' (by omega) (by omega) (by omega) (by omega) (by omega) (by omega) (by omega)
theorem Ok.nxt {s:Sp} {n:Nat} (h:Ok s n) (x:Nat):Ok (nxt s x) (n+1):=by
 unfold Sp.nxt
 split
 ·obtain ⟨w0,w1,c0,c1,r0,r1,q0⟩:=h
  split
  ·exact Ok.mk' w0 w1 c0 c1 r0 (by omega) (by omega)
  ·exact Ok.mk' w0 w1 c0 c1 r0 (by omega) (by omega)
 split
 ·obtain ⟨w0,w1,c0,c1,r0,r1,q0⟩:=h
  exact Ok.way (Ok.mk' w0 w1 c0 c1 r0 r1 (by omega)) x
 ·exact h.lone x
theorem nxts_snoc (s:Sp) (l:List (BitVec 8)) (a:BitVec 8):nxts s (l ++ [a])=nxt (nxts s l) a.toNat:=by
 unfold nxts;rw [List.foldl_append];rfl
theorem Ok.nxts {s:Sp} {n:Nat} (h:Ok s n) (l:List (BitVec 8)):Ok (Sp.nxts s l) (n+l.length):=by
  unfold Sp.nxts
  induction l generalizing s n with
  | nil=>exact h
  | cons a l ih =>
    rw [List.foldl_cons,List.length_cons,show n+(l.length+1)=n+1+l.length by omega];exact ih (h.nxt a.toNat)
end Sp
end
section
namespace Au
open Fr
structure M where
 k:Int
 a:Int
 b:Int
 t:Bs
structure St where
 bg:Bool
 en:Bool
 up:Nat
 gp:Nat
def st0:St:=⟨false,false,0,0⟩
def ok (m:M):Bool:=Ms.rt m.k m.a m.b m.t.length
def begB (o:Bs) (m:M):Bool:=decide (m.k=13) || (decide (m.k=5) && decide (m.b≤o.length))
def dataB (o:Bs) (s:St) (m:M):Bool:=decide (m.a=s.up) && (!decide (m.t=[]) && decide ((o.drop s.up).take m.t.length=m.t))
def gapB (o:Bs) (sk:Int) (s:St) (m:M):Bool:=decide (m.a=s.up) && (decide (m.a<m.b) && (decide (m.b≤o.length) && decide ((s.gp:Int)<sk)))
def mayB (o:Bs) (sk:Int) (s:St) (m:M):Bool:=
 ok m && (!s.en && (if s.bg then (if m.k≤5 then false else if m.k=6 then dataB o s m else if m.k=7 then gapB o sk s m else true) else begB o m))
def takeS (s:St) (m:M):St:=
 ⟨true,s.en || (decide (m.k=12) || decide (m.k=13)),if m.k=5 then m.b.toNat else if m.k=6 then s.up+m.t.length else if m.k=7 then m.b.toNat else s.up,if m.k=7 then s.gp+1 else s.gp⟩
def run (l:List M):St:=l.foldl takeS st0
def good (o:Bs) (sk:Int) (l:List M) (k:Nat):Prop:=∀ j m,j<k→l[j]?=some m→mayB o sk (run (l.take j)) m=true
def IsFirst (o:Bs) (sk:Int) (l:List M) (r:Int):Prop:=
 (∃ k m,l[k]?=some m∧r=(k:Nat)∧good o sk l k∧mayB o sk (run (l.take k)) m=false)∨(r = -1∧good o sk l l.length)
theorem isFirst_one {o:Bs} {sk:Int} {l:List M} {r s:Int} (h:IsFirst o sk l r) (k:IsFirst o sk l s):r=s:=by
 have lt:∀ {j:Nat} {m:M},l[j]?=some m→j<l.length:=fun {j m} h=>by
  rcases Nat.lt_or_ge j l.length with h' | h'
  ·exact h'
  ·rw [List.getElem?_eq_none h'] at h; cases h
 rcases h with ⟨i,m,hm,rfl,hg,hf⟩ | ⟨rfl,hg⟩ <;> rcases k with ⟨j,n,hn,rfl,kg,kf⟩ | ⟨rfl,kg⟩
 ·rcases Nat.lt_trichotomy i j with h | h | h
  ·rw [kg i m h hm] at hf; cases hf
  ·rw [h]
  ·rw [hg j n h hn] at kf; cases kf
 ·rw [kg i m (lt hm) hm] at hf; cases hf
 ·rw [hg j n (lt hn) hn] at kf; cases kf
 ·rfl
theorem run_snoc (l:List M) (k:Nat) (m:M) (h:l[k]?=some m):run (l.take (k+1))=takeS (run (l.take k)) m:=by
 rw [List.take_add_one,h];simp [run]
theorem good_zero (o:Bs) (sk:Int) (l:List M):good o sk l 0:=fun _ _ h=>absurd h (by omega)
theorem good_succ {o:Bs} {sk:Int} {l:List M} {k:Nat} {m:M} (h:good o sk l k) (hm:l[k]?=some m) (hk:mayB o sk (run (l.take k)) m=true):good o sk l (k+1):=by
 intro j n hj hn
 rcases Nat.lt_or_ge j k with h' | h'
 ·exact h j n h' hn
 ·obtain rfl:j=k:=by omega
  rw [hm] at hn;obtain rfl:=Option.some.inj hn;exact hk
theorem good_le {o:Bs} {sk:Int} {l:List M} {j k:Nat} (h:good o sk l k) (hj:j≤k):good o sk l j:=fun i m hi hm=>h i m (by omega) hm
theorem mayB_iff {o:Bs} {sk:Int} {s:St} {m:M}:mayB o sk s m=true↔ok m=true∧s.en=false∧(s.bg=false→begB o m=true)∧(s.bg=true→5<m.k∧(m.k=6→dataB o s m=true)∧(m.k=7→gapB o sk s m=true)):=by
 unfold mayB
 cases s.en <;> cases s.bg <;> simp
 intro _ h5
 by_cases h6:m.k=6
 ·simp [h6]
 ·by_cases h7:m.k=7
  ·simp [h7]
  ·simp [h6,h7]
def Up (o:Bs) (s:St) (k:Nat):Prop:=s.up≤o.length∧s.gp≤k
theorem up_zero (o:Bs):Up o st0 0:=⟨Nat.zero_le _,Nat.le_refl _⟩
theorem data_len {o:Bs} {s:St} {m:M} (h:dataB o s m=true) (hu:s.up≤o.length):s.up+m.t.length≤o.length:=by
 unfold dataB at h;simp at h;have:=congrArg List.length h.2.2;simp at this;omega
theorem up_succ {o:Bs} {sk:Int} {s:St} {m:M} {k:Nat} (h:Up o s k) (hm:mayB o sk s m=true):Up o (takeS s m) (k+1):=by
  obtain ⟨hok,hen,hb,hn⟩:=mayB_iff.1 hm;obtain ⟨hu,hg⟩:=h;have hbb:=Ms.rt_b hok;refine ⟨?_,?_⟩
  · show (if m.k=5 then m.b.toNat else if m.k=6 then s.up+m.t.length else if m.k=7 then m.b.toNat else s.up)≤_
    split
    · rcases hbg:s.bg
      · have:=hb hbg
        unfold begB at this;simp at this;omega
      · have:=(hn hbg).1
        omega
    · split
      · rcases hbg:s.bg
        · have:=hb hbg
          unfold begB at this;simp at this;omega
        · exact data_len ((hn hbg).2.1 ‹_›) hu
      · split
        · rcases hbg:s.bg
          · have:=hb hbg
            unfold begB at this;simp at this;omega
          · have:=(hn hbg).2.2 ‹_›
            unfold gapB at this;simp at this;omega
        · exact hu
  · show (if m.k=7 then s.gp+1 else s.gp)≤_
    split <;> omega
theorem up_good {o:Bs} {sk:Int} {l:List M}:∀ {k:Nat},k≤l.length→good o sk l k→Up o (run (l.take k)) k
  | 0,_,_=>up_zero o
  | k+1,hk,h=>by
    have hm:=List.getElem?_eq_getElem (show k<l.length by omega);rw [run_snoc l k _ hm];exact up_succ (up_good (by omega) (good_le h (by omega))) (h k _ (by omega) hm)
theorem takeS_en {s:St} {m:M} (h:s.en=true):(takeS s m).en=true:=by simp [takeS,h]
theorem en_mono {l:List M} {j:Nat} (h:(run (l.take j)).en=true):∀ {k:Nat},j≤k→(run (l.take k)).en=true
  | 0, hk => by obtain rfl:j=0:=by omega
                exact h
  | k+1,hk=>by
    rcases Nat.lt_or_ge k j with h' | h'
    · obtain rfl:j=k+1:=by omega
      exact h
    · have:=en_mono h h'
      rcases Nat.lt_or_ge k l.length with hl | hl
      · rw [run_snoc l k _ (List.getElem?_eq_getElem hl)]
        exact takeS_en this
      · rw [List.take_of_length_le (by omega)]
        rw [List.take_of_length_le (by omega)] at this;exact this
theorem bg_run {l:List M}:∀ {k:Nat},k<l.length→(run (l.take (k+1))).bg=true:=fun {k} h=>by
 rw [run_snoc l k _ (List.getElem?_eq_getElem h)];rfl
theorem up_eq {o:Bs} {sk:Int} {s:St} {m:M} (hm:mayB o sk s m=true) :
  (m.k=5→s.bg=false∧((takeS s m).up:Int)=m.b)∧(m.k=6→((takeS s m).up:Int)=m.a+m.t.length)∧(m.k=7→((takeS s m).up:Int)=m.b)∧(m.k≠5→m.k≠6→m.k≠7→(takeS s m).up=s.up):=by
 obtain ⟨hok,hen,hb,hn⟩:=mayB_iff.1 hm;have hbb:=Ms.rt_b hok;refine ⟨fun h=>?_,fun h=>?_,fun h=>?_,fun h5 h6 h7=>?_⟩
 ·refine ⟨?_,by simp [takeS,h]; omega⟩
  rcases hbg:s.bg
  ·rfl
  ·have:=(hn hbg).1
   omega
 ·have:s.up=m.a:=by
   rcases hbg:s.bg
   ·have:=hb hbg
    unfold begB at this;simp at this;omega
   ·have:=(hn hbg).2.1 h
    unfold dataB at this;simp at this;omega
  simp [takeS,h];omega
 ·simp [takeS,h]
  omega
 ·simp [takeS,h5,h6,h7]
end Au
end
section
namespace Sc
abbrev Bs:=List (BitVec 8)
structure Ev where
 k:Int
 i:Int
 n:Int
 t:Bs
def hasI (k:Int):Bool:=decide (k=0∨k=1∨k=2∨k=6)
def hasN (k:Int):Bool:=decide (k=2∨k=4∨k=7)
def hasD (k:Int):Bool:=decide (k=1∨k=3)
def inB (e:Ev):Bool:=decide (0≤e.k) && (decide (e.k≤7) && (decide (0≤e.i) && (decide (e.i≤255) && (decide (0≤e.n) && (decide (e.n≤65536) && decide (e.t.length≤4000))))))
def ownB (e:Ev):Bool:=(hasI e.k || decide (e.i=0)) && ((hasN e.k || decide (e.n=0)) && (hasD e.k || decide (e.t=[])))
def rtE (e:Ev):Bool:=inB e && ownB e
def b8 (x:Nat):BitVec 8:=BitVec.ofNat 8 x
def three (n:Nat):Bs:=[b8 (n / 65536),b8 (n / 256),b8 n]
def two (n:Nat):Bs:=[b8 (n / 256),b8 n]
def evb (e:Ev):Bs:=[b8 e.k.toNat,b8 e.i.toNat] ++ three e.n.toNat ++ two e.t.length ++ e.t
def evs (l:List Ev):Bs:=l.flatMap evb
def nat (l:Bs):Nat:=l.foldl (fun n c=>256 * n+c.toNat) 0
def size (l:Bs):Nat:=7+nat ((l.drop 5).take 2)
def evOf (l:Bs):Ev:=⟨((l[0]?.getD 0#8).toNat:Nat),((l[1]?.getD 0#8).toNat:Nat),(nat ((l.drop 2).take 3):Nat),(l.drop 7).take (nat ((l.drop 5).take 2))⟩
def shortB (l:Bs):Prop:=l.length<7∨l.length<size l
def wholeB (l:Bs):Prop:=7≤l.length∧size l≤l.length
structure Reads (r:Bs) (L:List Ev) (m e:Nat):Prop where
 le:m≤r.length
 bytes:r.take m=evs L
 right:∀ x∈L,rtE x=true
 many:L.length≤8192
 stop:(e=0∧m=r.length)∨(e=5∧m<r.length∧shortB (r.drop m))∨(e=8∧m<r.length∧wholeB (r.drop m)∧rtE (evOf (r.drop m))=false) ∨
  (e=6∧m<r.length∧wholeB (r.drop m)∧rtE (evOf (r.drop m))=true∧L.length=8192)
end Sc
end
end Go.Proofs.YtdpagmcickkbmaaGreatDoor
