namespace Go.Proofs.YtalichkdeekdcaaGreatDoor
set_option maxRecDepth 100000
/- PCrc PFr PFd PMs PLx PSp PSc PAu -/
section
namespace Crc
def K:BitVec 16:=0x1021#16
def E:BitVec 16:=0x8000#16
def T (s:BitVec 16):BitVec 16:=(s <<< 1) ^^^ (if s.msb then K else 0#16)
def B (s:BitVec 16) (b:Bool):BitVec 16:=(s <<< 1) ^^^ (if (b != s.msb) then K else 0#16)
def iter:Nat→BitVec 16→BitVec 16
 | 0,s=>s
 | n+1,s=>T (iter n s)
def run (d:Nat→Bool) (s:BitVec 16):Nat→BitVec 16
 | 0=>s
 | k+1=>B (run d s k) (d k)
def apart:Nat→BitVec 16→Bool
 | 0,_=>true
 | n+1,s=>s != E && apart n (T s)
def hi (c:BitVec 8):BitVec 16:=(BitVec.setWidth 16 c) <<< (8:Nat)
def more (s:BitVec 16) (l:List (BitVec 8)):BitVec 16:=l.foldl (fun s c=>iter 8 (s ^^^ (hi c))) s
theorem more_snoc (s:BitVec 16) (l:List (BitVec 8)) (c:BitVec 8):more s (l ++ [c])=iter 8 (more s l ^^^ (hi c)):=by
 simp [more]
end Crc
end
section
namespace Fr
open Crc
abbrev Bs:=List (BitVec 8)
def num (n:Nat):Bs:=[BitVec.ofNat 8 (n / 256),BitVec.ofNat 8 n]
def sum (l:Bs):Nat:=(more 0xffff#16 l).toNat
theorem sum_lt (l:Bs):sum l<65536:=(more 0xffff#16 l).isLt
def pre (k:BitVec 8) (body:Bs):Bs:=num (body.length+1) ++ (k :: body)
def fr (k:BitVec 8) (body:Bs):Bs:=pre k body ++ num (sum (k :: body))
theorem num_len (n:Nat):(num n).length=2:=rfl
theorem pre_len (k:BitVec 8) (body:Bs):(pre k body).length=body.length+3:=by simp [pre,num_len]; omega
theorem fr_len (k:BitVec 8) (body:Bs):(fr k body).length=body.length+5:=by simp [fr,pre_len,num_len]
def num2 (l:Bs):Nat:=256 * (l[0]?.getD 0#8).toNat+(l[1]?.getD 0#8).toNat
theorem num2_lt (l:Bs):num2 l<65536:=by
 unfold num2;have h1:=(l[0]?.getD 0#8).isLt;have h2:=(l[1]?.getD 0#8).isLt;omega
theorem num2_num (n:Nat) (r:Bs) (h:n<65536):num2 (num n ++ r)=n:=by
 simp [num2,num];omega
structure Got where
 k:BitVec 8
 body:Bs
 n:Nat
 err:Nat
def err (l:Bs):Nat:=
 if l.length<2 then 5
 else if num2 l=0∨2049<num2 l then 6
 else if l.length<num2 l+4 then 5
 else if sum ((l.drop 2).take (num2 l))≠num2 (l.drop (num2 l+2)) then 7
 else 0
def get (l:Bs):Got:=
 if err l=0 then ⟨l[2]?.getD 0#8,(l.drop 3).take (num2 l - 1),num2 l+4,0⟩ else ⟨0#8,[],0,err l⟩
theorem err_short {l:Bs} (h:l.length<2):err l=5:=by unfold err; rw [if_pos h]
theorem err_long {l:Bs} (h:2≤l.length) (h2:num2 l=0∨2049<num2 l):err l=6:=by
 unfold err; rw [if_neg (by omega),if_pos h2]
theorem err_cut {l:Bs} (h:2≤l.length) (h2:0<num2 l) (h3:num2 l≤2049) (h4:l.length<num2 l+4):err l=5:=by
 unfold err; rw [if_neg (by omega),if_neg (by omega),if_pos h4]
theorem err_sum {l:Bs} (h2:0<num2 l) (h3:num2 l≤2049) (h4:num2 l+4≤l.length) (h5:sum ((l.drop 2).take (num2 l))≠num2 (l.drop (num2 l+2))):err l=7:=by
 unfold err; rw [if_neg (by omega),if_neg (by omega),if_neg (by omega),if_pos h5]
theorem err_ok {l:Bs} (h2:0<num2 l) (h3:num2 l≤2049) (h4:num2 l+4≤l.length) (h5:sum ((l.drop 2).take (num2 l))=num2 (l.drop (num2 l+2))):err l=0:=by
 unfold err; rw [if_neg (by omega),if_neg (by omega),if_neg (by omega),if_neg (by omega)]
theorem get_no {l:Bs} {e:Nat} (h:err l=e) (he:e≠0):get l=⟨0#8,[],0,e⟩:=by
 unfold get; rw [h,if_neg he]
theorem get_yes {l:Bs} (h:err l=0):get l=⟨l[2]?.getD 0#8,(l.drop 3).take (num2 l - 1),num2 l+4,0⟩:=by
 unfold get; rw [if_pos h]
theorem num2_fr (k:BitVec 8) (body r:Bs) (hb:body.length≤2048):num2 (fr k body ++ r)=body.length+1:=by
 unfold fr pre;rw [List.append_assoc,List.append_assoc];exact num2_num _ _ (by omega)
theorem fr_take (k:BitVec 8) (body r:Bs):((fr k body ++ r).drop 2).take (body.length+1)=k :: body:=by
 have e:fr k body ++ r=num (body.length+1) ++ ((k :: body) ++ (num (sum (k :: body)) ++ r)):=by simp [fr,pre]
 rw [e,List.drop_left' (num_len _),List.take_left' (by simp)]
theorem fr_drop (k:BitVec 8) (body r:Bs):(fr k body ++ r).drop (body.length+1+2)=num (sum (k :: body)) ++ r:=by
 have e:fr k body ++ r=pre k body ++ (num (sum (k :: body)) ++ r):=by simp [fr]
 rw [e,List.drop_left' (by rw [pre_len])]
theorem get_fr (k:BitVec 8) (body r:Bs) (hb:body.length≤2048):get (fr k body ++ r)=⟨k,body,body.length+5,0⟩:=by
 have h2:=num2_fr k body r hb
 have hl:(fr k body ++ r).length=body.length+5+r.length:=by simp [fr_len]
 have h0:err (fr k body ++ r)=0:=by
  refine err_ok (by omega) (by omega) (by omega) ?_;rw [h2,fr_take,fr_drop,num2_num _ _ (sum_lt _)]
 rw [get_yes h0,h2]
 have e:fr k body ++ r=(num (body.length+1) ++ [k]) ++ (body ++ (num (sum (k :: body)) ++ r)):=by simp [fr,pre]
 have ek:(fr k body ++ r)[2]?.getD 0#8=k:=by rw [e]; simp [num]
 have eb:((fr k body ++ r).drop 3).take body.length=body:=by
  rw [e,List.drop_left' (by simp [num_len]),List.take_left' rfl]
 rw [ek,Nat.add_sub_cancel,eb]
end Fr
end
section
namespace Fr
def Tells:Bs→List (BitVec 8×Bs)→Bs→Prop
 | l,[],r=>l=r∧err l≠0
 | l,f :: fs,r=>err l=0∧f=((get l).k,(get l).body)∧Tells (l.drop (get l).n) fs r
theorem Tells.stop (l:Bs) (h:err l≠0):Tells l [] l:=⟨rfl,h⟩
theorem Tells.next (l:Bs) (h:err l=0) (fs:List (BitVec 8×Bs)) (r:Bs) (t:Tells (l.drop (get l).n) fs r):Tells l (((get l).k,(get l).body) :: fs) r:=⟨h,rfl,t⟩
theorem tells_stop {l r:Bs} {fs:List (BitVec 8×Bs)} (h:Tells l fs r) (he:err l≠0):fs=[]∧r=l:=by
 cases fs with
 | nil=>exact ⟨rfl,h.1.symm⟩
 | cons f fs=>exact absurd h.1 he
theorem tells_next {l r:Bs} {fs:List (BitVec 8×Bs)} (h:Tells l fs r) (he:err l=0):∃ gs,fs=((get l).k,(get l).body) :: gs∧Tells (l.drop (get l).n) gs r:=by
 cases fs with
 | nil=>exact absurd he h.2
 | cons f fs=>exact ⟨fs,by rw [h.2.1],h.2.2⟩
theorem err_zero {l:Bs} (h:err l=0):2≤l.length∧0<num2 l∧num2 l≤2049∧num2 l+4≤l.length∧sum ((l.drop 2).take (num2 l))=num2 (l.drop (num2 l+2)):=by
 by_cases h1:l.length<2
 ·rw [err_short h1] at h; omega
 by_cases h2:num2 l=0∨2049<num2 l
 ·rw [err_long (by omega) h2] at h; omega
 by_cases h3:l.length<num2 l+4
 ·rw [err_cut (by omega) (by omega) (by omega) h3] at h; omega
 by_cases h4:sum ((l.drop 2).take (num2 l))=num2 (l.drop (num2 l+2))
 ·exact ⟨by omega,by omega,by omega,by omega,h4⟩
 ·rw [err_sum (by omega) (by omega) (by omega) h4] at h; omega
theorem get_n {l:Bs} (h:err l=0):(get l).n=num2 l+4:=by rw [get_yes h]
theorem get_n5 {l:Bs} (h:err l=0):5≤(get l).n∧(get l).n≤l.length:=by
 obtain ⟨_,h1,h2,h3,_⟩:=err_zero h;rw [get_n h];omega
theorem get_body_len {l:Bs} (h:err l=0):(get l).body.length+5=(get l).n:=by
 obtain ⟨_,h1,h2,h3,_⟩:=err_zero h;rw [get_yes h];simp;omega
theorem Tells.left {r:Bs}:∀ {fs:List (BitVec 8×Bs)} {l:Bs},Tells l fs r→err r≠0
 | [],_,h=>by rw [← h.1]; exact h.2
 | _ :: _,_,h=>Tells.left h.2.2
theorem Tells.short {r:Bs}:∀ {fs:List (BitVec 8×Bs)} {l:Bs},Tells l fs r→r.length+5 * fs.length≤l.length
  | [],_,h=>by rw [h.1]; simp
  | _ :: fs,l,h=>by
    have h1:=Tells.short h.2.2;have h2:=get_n5 h.1;simp at h1 ⊢;omega
theorem Tells.one {r r':Bs}:∀ {fs fs':List (BitVec 8×Bs)} {l:Bs},Tells l fs r→Tells l fs' r'→fs=fs'∧r=r'
  | [],_,_,h,h'=>by
    obtain ⟨h1,h2⟩:=tells_stop h' h.2;exact ⟨h1.symm,by rw [h2,h.1]⟩
  | f :: fs,fs',l,h,h'=>by
    obtain ⟨gs,h1,h2⟩:=tells_next h' h.1;obtain ⟨h3,h4⟩:=Tells.one h.2.2 h2;rw [h1,h3,h.2.1];exact ⟨rfl,h4⟩
theorem tells_all (l:Bs):∃ fs r,Tells l fs r:=by
  generalize hn:l.length=n
  induction n using Nat.strongRecOn generalizing l with
  | _ n ih =>
    by_cases h:err l=0
    · have h5:=get_n5 h
      obtain ⟨fs,r,t⟩:=ih (l.drop (get l).n).length (by simp; omega) (l.drop (get l).n) rfl;exact ⟨_,_,.next l h fs r t⟩
    · exact ⟨[],l,.stop l h⟩
def cats:List (BitVec 8×Bs)→Bs
 | []=>[]
 | f :: fs=>fr f.1 f.2 ++ cats fs
theorem err_fr (k:BitVec 8) (body r:Bs) (hb:body.length≤2048):err (fr k body ++ r)=0:=by
 have hg:=get_fr k body r hb
 by_cases h:err (fr k body ++ r)=0
 ·exact h
 ·rw [get_no rfl h] at hg
  have:=congrArg Got.n hg;simp at this
theorem tells_frames:∀ (fs:List (BitVec 8×Bs)) (m:Bs),(∀ f∈fs,f.2.length≤2048)→err m≠0→Tells (cats fs ++ m) fs m
  | [],m,_,h=>.stop m h
  | f :: fs,m,hb,h=>by
    have h1:=hb f (List.mem_cons_self ..);have hg:=get_fr f.1 f.2 (cats fs ++ m) h1;have ht:=tells_frames fs m (fun f hf=>hb f (List.mem_cons_of_mem _ hf)) h;have he:=err_fr f.1 f.2 (cats fs ++ m) h1
    have hd:(fr f.1 f.2 ++ (cats fs ++ m)).drop (get (fr f.1 f.2 ++ (cats fs ++ m))).n=cats fs ++ m:=by
      rw [hg,List.drop_left' (by rw [fr_len])]
    have hn:=Tells.next _ he fs m (by rw [hd]; exact ht);rw [hg] at hn
    simpa [cats] using hn
theorem err_nil:err []=5:=err_short (by simp)
def keep (r:Bs):Bs:=if err r=5 then r else []
def broke (r:Bs):Nat:=if err r=5 then 0 else err r
theorem keep_short {r:Bs} (h:err r=5):keep r=r∧broke r=0:=by unfold keep broke; rw [if_pos h,if_pos h]; exact ⟨rfl,rfl⟩
theorem keep_else {r:Bs} (h:err r≠5):keep r=[]∧broke r=err r:=by unfold keep broke; rw [if_neg h,if_neg h]; exact ⟨rfl,rfl⟩
end Fr
end
section
namespace Ms
open Fr
def nu (k:Int):Nat:=if k=1∨k=5∨k=7∨k=8 then 2 else if k=2∨k=6∨k=9∨k=13∨k=15 then 1 else 0
def tx (k:Int):Nat:=if k=1∨k=5 then 20 else if k=2∨k=6 then 2042 else if k=10∨k=11 then 80 else 0
def isK (k:Int):Bool:=decide (1≤k∧k≤15)
def okN (n:Int) (has:Bool):Bool:=if has then decide (0≤n∧n≤1099511627776) else decide (n=0)
def rt (k a b:Int) (n:Nat):Bool:=isK k && okN a (decide (1≤nu k)) && okN b (decide (2≤nu k)) && decide (n≤tx k)
theorem nu_le (k:Int):nu k≤2:=by unfold nu; split <;> (try split) <;> omega
theorem tx_le (k:Int):tx k≤2042:=by unfold tx; split <;> (try split) <;> (try split) <;> omega
theorem room (k:Int):6 * nu k+tx k≤2048:=by unfold nu tx; (repeat' split) <;> omega
theorem isK_iff {k:Int}:isK k=true↔1≤k∧k≤15:=by unfold isK; simp
theorem okN_range {n:Int} {h:Bool} (k:okN n h=true):0≤n∧n≤1099511627776:=by
 unfold okN at k
 cases h <;> simp at k <;> omega
theorem rt_iff {k a b:Int} {n:Nat}:rt k a b n=true↔isK k=true∧okN a (decide (1≤nu k))=true∧okN b (decide (2≤nu k))=true∧n≤tx k:=by
 unfold rt;simp [and_assoc]
theorem rt_a {k a b:Int} {n:Nat} (h:rt k a b n=true):0≤a∧a≤1099511627776:=okN_range (rt_iff.1 h).2.1
theorem rt_b {k a b:Int} {n:Nat} (h:rt k a b n=true):0≤b∧b≤1099511627776:=okN_range (rt_iff.1 h).2.2.1
theorem rt_k {k a b:Int} {n:Nat} (h:rt k a b n=true):1≤k∧k≤15:=isK_iff.1 (rt_iff.1 h).1
theorem rt_n {k a b:Int} {n:Nat} (h:rt k a b n=true):n≤tx k:=(rt_iff.1 h).2.2.2
theorem rt_a0 {k a b:Int} {n:Nat} (h:rt k a b n=true) (h0:nu k=0):a=0:=by
 have:=(rt_iff.1 h).2.1;unfold okN at this;simp [h0] at this;exact this
theorem rt_b0 {k a b:Int} {n:Nat} (h:rt k a b n=true) (h0:nu k<2):b=0:=by
 have:=(rt_iff.1 h).2.2.1;unfold okN at this;rw [show decide (2≤nu k)=false by simp; omega] at this
 simpa using this
def six (n:Int):Bs:=[BitVec.ofInt 8 (n / 1099511627776),BitVec.ofInt 8 (n / 4294967296),BitVec.ofInt 8 (n / 16777216),BitVec.ofInt 8 (n / 65536),BitVec.ofInt 8 (n / 256),BitVec.ofInt 8 n]
theorem six_len (n:Int):(six n).length=6:=rfl
def nat (l:Bs):Nat:=l.foldl (fun n c=>256 * n+c.toNat) 0
theorem nat_snoc (l:Bs) (c:BitVec 8):nat (l ++ [c])=256 * nat l+c.toNat:=by
 unfold nat;rw [List.foldl_append];rfl
theorem nat_lt (l:Bs) (n:Nat) (h:l.length≤n):nat l<256 ^ n:=by
  induction n generalizing l with
  | zero =>
    obtain rfl:=List.eq_nil_of_length_eq_zero (Nat.le_zero.1 h);simp [nat]
  | succ n ih =>
    rcases List.eq_nil_or_concat l with rfl | ⟨r,c,rfl⟩
    · simp only [nat,List.foldl_nil]
      exact Nat.pow_pos (by omega)
    · rw [List.concat_eq_append,nat_snoc]
      have:=ih r (by simp at h; omega);have hc:=c.isLt;rw [Nat.pow_succ];omega
def num6 (l:Bs):Nat:=nat (l.take 6)
theorem byte_nat (n:Int):(BitVec.ofInt 8 n).toNat=(n % 256).toNat:=by
 rw [BitVec.toNat_ofInt];rfl
theorem horner (x0 x1 x2 x3 x4 x5:Nat):nat [BitVec.ofInt 8 x0,BitVec.ofInt 8 x1,BitVec.ofInt 8 x2,BitVec.ofInt 8 x3,BitVec.ofInt 8 x4,BitVec.ofInt 8 x5]=256 * (256 * (256 * (256 * (256 * (x0 % 256)+x1 % 256)+x2 % 256)+x3 % 256)+x4 % 256)+x5 % 256:=by
 have key:∀ x:Nat,(BitVec.ofInt 8 x).toNat=x % 256:=by
  intro x;rw [byte_nat];omega
 simp only [nat,List.foldl_cons,List.foldl_nil,key];omega
theorem num6_six (n:Int) (r:Bs) (h0:0≤n) (h1:n<281474976710656):(num6 (six n ++ r):Int)=n:=by
 obtain ⟨m,rfl⟩:=Int.eq_ofNat_of_zero_le h0
 have e:(six (m:Int) ++ r).take 6=[BitVec.ofInt 8 (m / 256 / 256 / 256 / 256 / 256:Nat),BitVec.ofInt 8 (m / 256 / 256 / 256 / 256:Nat),BitVec.ofInt 8 (m / 256 / 256 / 256:Nat),BitVec.ofInt 8 (m / 256 / 256:Nat),BitVec.ofInt 8 (m / 256:Nat),BitVec.ofInt 8 (m:Nat)]:=by
  rw [List.take_left' (six_len _)];simp only [Nat.div_div_eq_div_mul];rfl
 have h2:m<281474976710656:=by omega
 have hd:∀ x:Nat,256 * (x / 256)+x % 256=x:=fun x=>Nat.div_add_mod x 256
 unfold num6;rw [e,horner]
 have h5:m / 256 / 256 / 256 / 256 / 256<256:=by omega
 rw [Nat.mod_eq_of_lt h5,hd,hd,hd,hd,hd]
def hd (k a b:Int):Bs:=(six a ++ six b).take (6 * nu k)
theorem hd_len (k a b:Int):(hd k a b).length=6 * nu k:=by
 have:=nu_le k;unfold hd;rw [List.length_take,List.length_append,six_len,six_len];omega
def body (k a b:Int) (t:Bs):Bs:=hd k a b ++ t
theorem body_len (k a b:Int) (t:Bs):(body k a b t).length=6 * nu k+t.length:=by
 unfold body;rw [List.length_append,hd_len]
theorem body_le {k a b:Int} {t:Bs} (h:rt k a b t.length=true):(body k a b t).length≤2048:=by
 have h1:=rt_n h;have h2:=room k;rw [body_len];omega
def ofA (k:Int) (l:Bs):Nat:=if 1≤nu k then num6 l else 0
def ofB (k:Int) (l:Bs):Nat:=if 2≤nu k then num6 (l.drop 6) else 0
def ofT (k:Int) (l:Bs):Bs:=l.drop (6 * nu k)
def ofOk (k:Int) (l:Bs):Bool:=decide (6 * nu k≤l.length) && rt k (ofA k l) (ofB k l) (ofT k l).length
theorem hd_1 {k a b:Int} (h:nu k=1):hd k a b=six a:=by unfold hd; rw [h]; rfl
theorem hd_2 {k a b:Int} (h:nu k=2):hd k a b=six a ++ six b:=by unfold hd; rw [h]; rfl
theorem nu_cases (k:Int):nu k=0∨nu k=1∨nu k=2:=by have:=nu_le k; omega
theorem of_body {k a b:Int} {t:Bs} (h:rt k a b t.length=true):(ofA k (body k a b t):Int)=a∧(ofB k (body k a b t):Int)=b∧ofT k (body k a b t)=t∧ofOk k (body k a b t)=true:=by
 have ha:=rt_a h;have hb:=rt_b h;have h0:=rt_a0 h;have h1:=rt_b0 h
 have hT:ofT k (body k a b t)=t:=by
  unfold ofT body;rw [List.drop_left' (hd_len k a b)]
 have hA:(ofA k (body k a b t):Int)=a:=by
  unfold ofA body
  rcases nu_cases k with e | e | e
  ·rw [if_neg (by omega),h0 e]; rfl
  ·rw [if_pos (by omega),hd_1 e,num6_six a t (by omega) (by omega)]
  ·rw [if_pos (by omega),hd_2 e,List.append_assoc,num6_six a _ (by omega) (by omega)]
 have hB:(ofB k (body k a b t):Int)=b:=by
  unfold ofB body
  rcases nu_cases k with e | e | e
  ·rw [if_neg (by omega),h1 (by omega)]; rfl
  ·rw [if_neg (by omega),h1 (by omega)]; rfl
  ·rw [if_pos (by omega),hd_2 e,List.append_assoc,List.drop_left' (six_len a),num6_six b t (by omega) (by omega)]
 refine ⟨hA,hB,hT,?_⟩;unfold ofOk;rw [hT,hA,hB,h,body_len];simp
end Ms
end
section
namespace Lx
abbrev By:=List (BitVec 8)
structure Lx where
 q:Nat
 b:By
def lx0:Lx:=⟨0,[]⟩
def lstep (s:Lx) (c:BitVec 8):Lx:=
 if s.q=0 then (if c.toNat=29 then ⟨1,[]⟩ else s)
 else if s.q=1 then (if c.toNat=58 then ⟨2,[]⟩ else lx0)
 else if c.toNat=10 then lx0 else ⟨2,s.b ++ [c]⟩
def lkey (s:Lx) (c:BitVec 8):By:=
 if s.q=0 then (if c.toNat=29 then [] else [c])
 else if s.q=1 then (if c.toNat=29 then [c] else [])
 else []
def shut (b:By):By:=if 80<b.length then [] else b
def lcmd (s:Lx) (c:BitVec 8):List By:=
 if s.q=0 then [] else if s.q=1 then [] else if c.toNat=10 then [shut s.b] else []
def lrun (s:Lx) (l:By):Lx:=l.foldl lstep s
def lkeys (s:Lx):By→By
 | []=>[]
 | c :: l=>lkey s c ++ lkeys (lstep s c) l
def lcmds (s:Lx):By→List By
 | []=>[]
 | c :: l=>lcmd s c ++ lcmds (lstep s c) l
theorem lrun_app (s:Lx) (l m:By):lrun s (l ++ m)=lrun (lrun s l) m:=by
 unfold lrun;rw [List.foldl_append]
theorem lkeys_app (s:Lx) (l m:By):lkeys s (l ++ m)=lkeys s l ++ lkeys (lrun s l) m:=by
  induction l generalizing s with
  | nil=>rfl
  | cons c l ih =>
    show lkey s c ++ lkeys (lstep s c) (l ++ m)=lkey s c ++ lkeys (lstep s c) l ++ _
    rw [ih,List.append_assoc];rfl
theorem lcmds_app (s:Lx) (l m:By):lcmds s (l ++ m)=lcmds s l ++ lcmds (lrun s l) m:=by
  induction l generalizing s with
  | nil=>rfl
  | cons c l ih =>
    show lcmd s c ++ lcmds (lstep s c) (l ++ m)=lcmd s c ++ lcmds (lstep s c) l ++ _
    rw [ih,List.append_assoc];rfl
def at_ (l:By) (k:Nat):BitVec 8:=l[k]?.getD 0#8
theorem take_at (l:By) (k:Nat) (h:k<l.length):l.take (k+1)=l.take k ++ [at_ l k]:=by
 unfold at_;rw [List.take_add_one,List.getElem?_eq_getElem h];rfl
def S (l:By) (k:Nat):Lx:=lrun lx0 (l.take k)
def K (l:By) (k:Nat):By:=lkeys lx0 (l.take k)
def C (l:By) (k:Nat):List By:=lcmds lx0 (l.take k)
theorem lkey_len (s:Lx) (c:BitVec 8):(lkey s c).length≤1:=by
 unfold lkey
 (repeat' split) <;> simp
theorem lcmd_len (s:Lx) (c:BitVec 8):(lcmd s c).length≤1:=by
 unfold lcmd
 (repeat' split) <;> simp
theorem lkeys_len (s:Lx) (l:By):(lkeys s l).length≤l.length:=by
  induction l generalizing s with
  | nil=>exact Nat.le_refl _
  | cons c l ih =>
    have h1:=lkey_len s c;have h2:=ih (lstep s c);simp only [lkeys,List.length_append,List.length_cons];omega
theorem lcmds_len (s:Lx) (l:By):(lcmds s l).length≤l.length:=by
  induction l generalizing s with
  | nil=>exact Nat.le_refl _
  | cons c l ih =>
    have h1:=lcmd_len s c;have h2:=ih (lstep s c);simp only [lcmds,List.length_append,List.length_cons];omega
def cut (l:By) (i j:Nat):By:=(l.drop i).take (j - i)
end Lx
end
section
namespace Sp
structure Sp where
 w:Int
 c:Int
 r:Int
 q:Int
def way (s:Sp) (x:Nat):Sp:=
 if x=65 then (if 0<s.r then { s with r:=s.r - 1 } else s)
 else if x=66 then { s with r:=s.r+1 }
 else if x=67 then (if s.c<s.w - 1 then { s with c:=s.c+1 } else s)
 else if x=68 then (if 0<s.c then { s with c:=s.c - 1 } else s)
 else s
def lone (s:Sp) (x:Nat):Sp:=
 if x=27 then { s with q:=1 }
 else if x=13 then { s with c:=0 }
 else if x=10 then { s with r:=s.r+1 }
 else if x=8 then (if 0<s.c then { s with c:=s.c - 1 } else s)
 else if x=9 then (if s.w - 1<s.c / 8 * 8+8 then { s with c:=s.w - 1 } else { s with c:=s.c / 8 * 8+8 })
 else if x<32∨x=127 then s
 else if s.c+1<s.w then { s with c:=s.c+1 }
 else { s with c:=0,r:=s.r+1 }
def nxt (s:Sp) (x:Nat):Sp:=
 if s.q=1 then { s with q:=if x=91 then 2 else 0 }
 else if s.q=2 then way { s with q:=0 } x
 else lone s x
def nxts (s:Sp) (l:List (BitVec 8)):Sp:=l.foldl (fun s x=>nxt s x.toNat) s
structure Ok (s:Sp) (n:Nat):Prop where
 w0:1≤s.w
 w1:s.w≤500
 c0:0≤s.c
 c1:s.c<s.w
 r0:0≤s.r
 r1:s.r≤n
 q0:s.q=0∨s.q=1∨s.q=2
theorem Ok.start {w:Int} (h0:1≤w) (h1:w≤500):Ok ⟨w,0,0,0⟩ 0:=
 ⟨h0,h1,Int.le_refl _,by show (0:Int)<w; omega,Int.le_refl _,Int.le_refl _,.inl rfl⟩
theorem Ok.mk' {w c r q:Int} {n:Nat} (w0:1≤w) (w1:w≤500) (c0:0≤c) (c1:c<w) (r0:0≤r) (r1:r≤n) (q0:q=0∨q=1∨q=2):Ok ⟨w,c,r,q⟩ n:=⟨w0,w1,c0,c1,r0,r1,q0⟩
theorem Ok.way {s:Sp} {n:Nat} (h:Ok s n) (x:Nat):Ok (way s x) (n+1):=by
 obtain ⟨w,c,r,q⟩:=s;obtain ⟨w0,w1,c0,c1,r0,r1,q0⟩:=h;simp only at w0 w1 c0 c1 r0 r1 q0;unfold Sp.way;simp only
 (repeat' split) <;> exact Ok.mk' (by omega) (by omega) (by omega) (by omega) (by omega) (by omega) (by omega)
theorem Ok.lone {s:Sp} {n:Nat} (h:Ok s n) (x:Nat):Ok (lone s x) (n+1):=by
 obtain ⟨w,c,r,q⟩:=s;obtain ⟨w0,w1,c0,c1,r0,r1,q0⟩:=h;simp only at w0 w1 c0 c1 r0 r1 q0;unfold Sp.lone;simp only
 (repeat' split) <;> exact Ok.mk' (by omega) (by omega) (by omega) (by omega) (by omega) (by omega) (by omega)
theorem Ok.nxt {s:Sp} {n:Nat} (h:Ok s n) (x:Nat):Ok (nxt s x) (n+1):=by
 unfold Sp.nxt
 split
 ·obtain ⟨w0,w1,c0,c1,r0,r1,q0⟩:=h
  split
  ·exact Ok.mk' w0 w1 c0 c1 r0 (by omega) (by omega)
  ·exact Ok.mk' w0 w1 c0 c1 r0 (by omega) (by omega)
 split
 ·obtain ⟨w0,w1,c0,c1,r0,r1,q0⟩:=h
  exact Ok.way (Ok.mk' w0 w1 c0 c1 r0 r1 (by omega)) x
 ·exact h.lone x
theorem nxts_snoc (s:Sp) (l:List (BitVec 8)) (a:BitVec 8):nxts s (l ++ [a])=nxt (nxts s l) a.toNat:=by
 unfold nxts;rw [List.foldl_append];rfl
theorem Ok.nxts {s:Sp} {n:Nat} (h:Ok s n) (l:List (BitVec 8)):Ok (Sp.nxts s l) (n+l.length):=by
  unfold Sp.nxts
  induction l generalizing s n with
  | nil=>exact h
  | cons a l ih =>
    rw [List.foldl_cons,List.length_cons,show n+(l.length+1)=n+1+l.length by omega];exact ih (h.nxt a.toNat)
end Sp
end
section
namespace Sc
abbrev Bs:=List (BitVec 8)
structure Ev where
 k:Int
 i:Int
 n:Int
 t:Bs
def hasI (k:Int):Bool:=decide (k=0∨k=1∨k=2∨k=6)
def hasN (k:Int):Bool:=decide (k=2∨k=4∨k=7)
def hasD (k:Int):Bool:=decide (k=1∨k=3)
def inB (e:Ev):Bool:=decide (0≤e.k) && (decide (e.k≤7) && (decide (0≤e.i) && (decide (e.i≤255) && (decide (0≤e.n) && (decide (e.n≤65536) && decide (e.t.length≤4000))))))
def ownB (e:Ev):Bool:=(hasI e.k || decide (e.i=0)) && ((hasN e.k || decide (e.n=0)) && (hasD e.k || decide (e.t=[])))
def rtE (e:Ev):Bool:=inB e && ownB e
def ownE (e:Ev):Ev:=⟨e.k,if hasI e.k then e.i else 0,if hasN e.k then e.n else 0,if hasD e.k then e.t else []⟩
theorem rtE_in {e:Ev} (h:rtE e=true):0≤e.k∧e.k≤7∧0≤e.i∧e.i≤255∧0≤e.n∧e.n≤65536∧e.t.length≤4000:=by
 unfold rtE inB at h;simp only [Bool.and_eq_true,decide_eq_true_eq] at h;exact h.1
def b8 (x:Nat):BitVec 8:=BitVec.ofNat 8 x
def three (n:Nat):Bs:=[b8 (n / 65536),b8 (n / 256),b8 n]
def two (n:Nat):Bs:=[b8 (n / 256),b8 n]
def evb (e:Ev):Bs:=[b8 e.k.toNat,b8 e.i.toNat] ++ three e.n.toNat ++ two e.t.length ++ e.t
def evs (l:List Ev):Bs:=l.flatMap evb
def cfb (c:List Nat):Bs:=c.flatMap three
def nat (l:Bs):Nat:=l.foldl (fun n c=>256 * n+c.toNat) 0
theorem nat_snoc (l:Bs) (c:BitVec 8):nat (l ++ [c])=256 * nat l+c.toNat:=by
 unfold nat;rw [List.foldl_append];rfl
theorem nat_lt:∀ (n:Nat) (l:Bs),l.length=n→nat l<256 ^ n:=by
  intro n
  induction n with
  | zero=>intro l h; rw [List.eq_nil_of_length_eq_zero h]; decide
  | succ n ih =>
    intro l h
    have hne:l≠[]:=by intro e; subst e; simp at h
    have hl:=List.dropLast_concat_getLast hne;have h1:=ih l.dropLast (by simp [h]);have h2:=(l.getLast hne).isLt;have h3:=nat_snoc l.dropLast (l.getLast hne);rw [hl] at h3;rw [h3,Nat.pow_succ];omega
theorem nat_le (n:Nat) (l:Bs) (h:l.length≤n):nat l<256 ^ n:=
 Nat.lt_of_lt_of_le (nat_lt _ l rfl) (Nat.pow_le_pow_right (by omega) h)
theorem nat_three (n:Nat) (h:n<16777216):nat (three n)=n:=by
 simp [nat,three,b8];omega
theorem nat_two (n:Nat) (h:n<65536):nat (two n)=n:=by
 simp [nat,two,b8];omega
theorem three_len (n:Nat):(three n).length=3:=rfl
theorem two_len (n:Nat):(two n).length=2:=rfl
theorem b8_toNat (x:Nat) (h:x<256):(b8 x).toNat=x:=by
 simp [b8];omega
theorem three_nat (l:Bs) (h:l.length=3):three (nat l)=l:=by
 rcases l with _ | ⟨a,_ | ⟨b,_ | ⟨c,_ | ⟨d,l⟩⟩⟩⟩ <;> simp at h
 have ha:=a.isLt;have hb:=b.isLt;have hc:=c.isLt;simp only [nat,three,b8,List.foldl]
 congr 1
 ·apply BitVec.eq_of_toNat_eq; simp; omega
 congr 1
 ·apply BitVec.eq_of_toNat_eq; simp; omega
 congr 1
 apply BitVec.eq_of_toNat_eq; simp; omega
theorem two_nat (l:Bs) (h:l.length=2):two (nat l)=l:=by
 rcases l with _ | ⟨a,_ | ⟨b,_ | ⟨d,l⟩⟩⟩ <;> simp at h
 have ha:=a.isLt;have hb:=b.isLt;simp only [nat,two,b8,List.foldl]
 congr 1
 ·apply BitVec.eq_of_toNat_eq; simp; omega
 congr 1
 apply BitVec.eq_of_toNat_eq; simp; omega
theorem evb_len (e:Ev):(evb e).length=7+e.t.length:=by simp [evb,three_len,two_len]; omega
def size (l:Bs):Nat:=7+nat ((l.drop 5).take 2)
def evOf (l:Bs):Ev:=⟨((l[0]?.getD 0#8).toNat:Nat),((l[1]?.getD 0#8).toNat:Nat),(nat ((l.drop 2).take 3):Nat),(l.drop 7).take (nat ((l.drop 5).take 2))⟩
def shortB (l:Bs):Prop:=l.length<7∨l.length<size l
def wholeB (l:Bs):Prop:=7≤l.length∧size l≤l.length
theorem size_evb (e:Ev) (r:Bs) (h:e.t.length<65536):size (evb e ++ r)=7+e.t.length:=by
 unfold size evb;simp only [three,two,List.cons_append,List.nil_append,List.drop_succ_cons,List.drop_zero];rw [show List.take 2 (b8 (e.t.length / 256) :: b8 e.t.length :: (e.t ++ r))=two e.t.length from rfl,nat_two _ h]
theorem evOf_evb (e:Ev) (r:Bs) (h:rtE e=true):evOf (evb e ++ r)=e:=by
 obtain ⟨h1,h2,h3,h4,h5,h6,h7⟩:=rtE_in h;obtain ⟨k,i,n,t⟩:=e;simp only at h1 h2 h3 h4 h5 h6 h7;unfold evOf evb;simp only [three,two,List.cons_append,List.nil_append,List.drop_succ_cons,List.drop_zero,List.getElem?_cons_zero,List.getElem?_cons_succ,Option.getD_some];rw [show List.take 2 (b8 (t.length / 256) :: b8 t.length :: (t ++ r))=two t.length from rfl,nat_two _ (by omega)];rw [show List.take 3 (b8 (n.toNat / 65536) :: b8 (n.toNat / 256) :: b8 n.toNat :: b8 (t.length / 256) :: b8 t.length :: (t ++ r))=three n.toNat from rfl,nat_three _ (by omega)];rw [b8_toNat _ (by omega),b8_toNat _ (by omega),List.take_left' rfl]
 congr 1 <;> omega
theorem whole_evb (e:Ev) (r:Bs) (h:rtE e=true):wholeB (evb e ++ r):=by
 have:=rtE_in h;refine ⟨?_,?_⟩
 ·simp [evb_len]; omega
 ·rw [size_evb e r (by omega)]; simp [evb_len]
theorem evb_evOf (l:Bs) (h:wholeB l):evb (evOf l)=l.take (size l):=by
 obtain ⟨h1,h2⟩:=h;have hs:size l=7+nat ((l.drop 5).take 2):=rfl
 have ht:((evOf l).t).length=nat ((l.drop 5).take 2):=by
  simp [evOf];omega
 unfold evb;rw [ht]
 rcases l with _ | ⟨a0,_ | ⟨a1,_ | ⟨a2,_ | ⟨a3,_ | ⟨a4,_ | ⟨a5,_ | ⟨a6,l⟩⟩⟩⟩⟩⟩⟩ <;> (try (simp at h1; done))
 rw [hs];simp only [evOf,List.drop_succ_cons,List.drop_zero,List.getElem?_cons_zero,List.getElem?_cons_succ,Option.getD_some,Int.toNat_natCast];rw [show List.take 3 (a2 :: a3 :: a4 :: a5 :: a6 :: l)=[a2,a3,a4] from rfl,show List.take 2 (a5 :: a6 :: l)=[a5,a6] from rfl];rw [three_nat _ rfl,two_nat _ rfl];rw [show b8 a0.toNat=a0 by apply BitVec.eq_of_toNat_eq; simp [b8],show b8 a1.toNat=a1 by apply BitVec.eq_of_toNat_eq; simp [b8]];rw [show 7+nat [a5,a6]=nat [a5,a6]+7 by omega];rfl
theorem not_short {l:Bs} (h:wholeB l):¬ shortB l:=by
 rintro (k | k)
 ·have:=h.1; omega
 ·have:=h.2; omega
theorem evs_app (a b:List Ev):evs (a ++ b)=evs a ++ evs b:=by simp [evs]
theorem evs_cons (e:Ev) (l:List Ev):evs (e :: l)=evb e ++ evs l:=rfl
theorem evs_len (l:List Ev):(evs l).length=7 * l.length+(l.map fun e=>e.t.length).sum:=by
 induction l with
 | nil=>rfl
 | cons e l ih=>rw [evs_cons]; simp [evb_len,ih]; omega
theorem evs_pre:∀ (a b:List Ev) (r s:Bs),(∀ e∈a,rtE e=true)→(∀ e∈b,rtE e=true)→evs a ++ r=evs b ++ s→a.length≤b.length→b.take a.length=a∧r=evs (b.drop a.length) ++ s
  | [],b,r,s,_,_,h,_=>⟨rfl,by simpa [evs] using h⟩
  | x :: a,[],r,s,_,_,_,hl=>by simp at hl
  | x :: a,y :: b,r,s,ha,hb,h,hl=>by
    have hx:=ha x (by simp);have hy:=hb y (by simp);rw [evs_cons,evs_cons,List.append_assoc,List.append_assoc] at h;have e1:=evOf_evb x (evs a ++ r) hx;rw [h,evOf_evb y _ hy] at e1;subst e1;have h2:=List.append_cancel_left h;obtain ⟨p,q⟩:=evs_pre a b r s (fun e he=>ha e (by simp [he])) (fun e he=>hb e (by simp [he])) h2 (by simpa using hl);exact ⟨by simp [p],by simpa using q⟩
structure Reads (r:Bs) (L:List Ev) (m e:Nat):Prop where
 le:m≤r.length
 bytes:r.take m=evs L
 right:∀ x∈L,rtE x=true
 many:L.length≤8192
 stop:(e=0∧m=r.length)∨(e=5∧m<r.length∧shortB (r.drop m))∨(e=8∧m<r.length∧wholeB (r.drop m)∧rtE (evOf (r.drop m))=false) ∨
  (e=6∧m<r.length∧wholeB (r.drop m)∧rtE (evOf (r.drop m))=true∧L.length=8192)
theorem evOf_app {l:Bs} (s:Bs) (h:wholeB l):evOf (l ++ s)=evOf l:=by
 obtain ⟨h1,h2⟩:=h;have hs:size l=7+nat ((l.drop 5).take 2):=rfl
 rcases l with _ | ⟨a0,_ | ⟨a1,_ | ⟨a2,_ | ⟨a3,_ | ⟨a4,_ | ⟨a5,_ | ⟨a6,l⟩⟩⟩⟩⟩⟩⟩ <;> (try (simp at h1; done))
 rw [hs] at h2;simp only [evOf,List.drop_succ_cons,List.drop_zero,List.getElem?_cons_zero,List.getElem?_cons_succ,Option.getD_some,List.cons_append,List.take_succ_cons,List.take_zero,List.length_cons] at h2 ⊢;rw [List.take_append_of_le_length (by omega)]
theorem reads_pre {L0 L:List Ev} {r s:Bs} {m e:Nat} (h:Reads r L m e) (h0:∀ x∈L0,rtE x=true) (hr:r ++ s=evs L0) :
  L.length≤L0.length∧L0.take L.length=L∧((e=0∧m=r.length)∨(e=5∧s≠[])∨(e=6∧L.length=8192∧L.length<L0.length)):=by
 have hd:evs L ++ (r.drop m ++ s)=evs L0 ++ []:=by
  rw [← h.bytes,← List.append_assoc,List.take_append_drop,hr,List.append_nil]
 have hlen:L.length≤L0.length:=by
  rcases Nat.lt_or_ge L0.length L.length with h' | h'
  ·obtain ⟨_,q⟩:=evs_pre L0 L [] _ h0 h.right hd.symm (Nat.le_of_lt h')
   have:=congrArg List.length q;rw [List.length_append,evs_len] at this;simp at this;omega
  ·exact h'
 obtain ⟨p,q⟩:=evs_pre L L0 _ [] h.right h0 hd hlen;rw [List.append_nil] at q;refine ⟨hlen,p,?_⟩
 rcases hx:L0.drop L.length with _ | ⟨y,ys⟩
 ·rw [hx] at q
  have hz:r.drop m=[]:=(List.append_eq_nil_iff.1 q).1;have hm:=congrArg List.length hz;simp at hm
  rcases h.stop with h' | h' | h' | h'
  ·exact .inl h'
  ·have:=h'.2.1; omega
  ·have:=h'.2.1; omega
  ·have:=h'.2.1; omega
 ·rw [hx,evs_cons] at q
  have hy:rtE y=true:=h0 y (List.mem_of_mem_drop (by rw [hx]; simp))
  have hlt:L.length<L0.length:=by
   have:=congrArg List.length hx;simp at this;omega
  rcases h.stop with h' | h' | h' | h'
  ·exact .inl h'
  ·refine .inr (.inl ⟨h'.1,?_⟩)
   rintro rfl;rw [List.append_nil] at q;rw [q] at h';exact not_short (whole_evb y _ hy) h'.2.2
  ·have e1:=evOf_app s h'.2.2.1
   rw [q,evOf_evb y _ hy] at e1;rw [← e1,hy] at h';exact absurd h'.2.2.2 (by simp)
  ·exact .inr (.inr ⟨h'.1,h'.2.2.2.2,hlt⟩)
theorem reads_all {L0 L:List Ev} {m e:Nat} (h:Reads (evs L0) L m e) (h0:∀ x∈L0,rtE x=true) (hn:L0.length≤8192):L=L0∧m=(evs L0).length∧e=0:=by
 obtain ⟨h1,h2,h3⟩:=reads_pre (s:=[]) h h0 (by simp)
 rcases h3 with ⟨rfl,hm⟩ | ⟨_,h3⟩ | ⟨_,h3,h4⟩
 ·have hb:=h.bytes
  rw [hm,List.take_length] at hb;refine ⟨?_,hm,rfl⟩;have hd:=List.take_append_drop L.length L0;rw [h2] at hd;rw [← hd,evs_app] at hb;have hl:=congrArg List.length hb;rw [List.length_append,evs_len (L0.drop _)] at hl;have hz:L0.drop L.length=[]:=List.eq_nil_of_length_eq_zero (by omega);rw [hz,List.append_nil] at hd;exact hd
 ·exact absurd rfl h3
 ·omega
end Sc
end
section
namespace Au
open Fr
structure M where
 k:Int
 a:Int
 b:Int
 t:Bs
structure St where
 bg:Bool
 en:Bool
 up:Nat
 gp:Nat
def st0:St:=⟨false,false,0,0⟩
def ok (m:M):Bool:=Ms.rt m.k m.a m.b m.t.length
def takeS (s:St) (m:M):St:=
 ⟨true,s.en || (decide (m.k=12) || decide (m.k=13)),if m.k=5 then m.b.toNat else if m.k=6 then s.up+m.t.length else if m.k=7 then m.b.toNat else s.up,if m.k=7 then s.gp+1 else s.gp⟩
def run (l:List M):St:=l.foldl takeS st0
end Au
end
end Go.Proofs.YtalichkdeekdcaaGreatDoor
