/- PFl -/
import Derived.Laws.ComplexArith
namespace Go.Proofs.YtdpagmcickkbmaaGreatDoor
set_option maxRecDepth 100000
section
open Ieee
def Rep (r:Nat) (n:Int):Prop:=
 ∃ (s:Bool) (k:Nat),double.read r = .number s (n.natAbs * 2 ^ k) (-(k:Int))∧(0<n→s=false)∧(n<0→s=true)
theorem dbl_sign:double.signWeight=9223372036854775808:=by decide
theorem dbl_binade:double.binade=4503599627370496:=by decide
theorem dbl_inf:double.infRung=9218868437227405312:=by decide
theorem dbl_least:double.leastPlace = -1074:=by decide
theorem read_rung (neg:Bool) (q fr:Nat) (hq:q<2046) (hf:fr<4503599627370496) :
  double.read (double.word neg ((q+1) * 4503599627370496+fr)) = .number neg (4503599627370496+fr) (-1074+(q:Int)):=by
 have hw:double.word neg ((q+1) * 4503599627370496+fr) / 9223372036854775808 % 2=neg.toNat∧double.word neg ((q+1) * 4503599627370496+fr) % 9223372036854775808=(q+1) * 4503599627370496+fr:=by
  unfold Format.word;rw [dbl_sign];cases neg
  ·simp only [Bool.false_eq_true,if_false,Bool.toNat_false]
   omega
  ·simp only [if_true,Bool.toNat_true]
   omega
 unfold Format.read;rw [dbl_sign,dbl_binade,dbl_inf,dbl_least,hw.1,hw.2];simp only [];rw [if_neg (by omega),if_pos (by omega),show ((q+1) * 4503599627370496+fr) % 4503599627370496=fr by omega,show ((q+1) * 4503599627370496+fr) / 4503599627370496 - 1=q by omega]
 cases neg <;> rfl
theorem read_zero (neg:Bool):double.read (double.word neg 0) = .number neg 0 (-1074):=by
 cases neg <;> decide
theorem cut_exact (s:Bool) (n d:Nat) (hn:0<n):Toward.even.cut s (n * 2 ^ d) d=n:=by
 have hl:d≤(n * 2 ^ d).log2+2:=by
  have h1:2 ^ d≤n * 2 ^ d:=Nat.le_mul_of_pos_left _ hn;have h2:d≤(n * 2 ^ d).log2:=(Nat.le_log2 (by have:=Nat.two_pow_pos d; omega)).2 h1;omega
 unfold Toward.cut;simp only [Nat.min_eq_left hl,Nat.shiftLeft_eq,Nat.one_mul];rw [Nat.mul_div_cancel _ (Nat.two_pow_pos d),Nat.mul_mod_left];simp
theorem rep_write (s:Bool) (n:Int) (k:Nat) (hn:n.natAbs<9007199254740992) (hp:0<n→s=false) (hm:n<0→s=true):Rep (double.write (.number s (n.natAbs * 2 ^ k) (-(k:Int)))) n:=by
 generalize hN:n.natAbs=N at *;unfold Format.write Format.nearest;simp only
 by_cases h0:N=0
 ·subst h0
  rw [Nat.zero_mul,if_pos rfl]
  obtain ⟨K,hK⟩:∃ K:Nat,K=1074:=⟨_,rfl⟩
  refine ⟨s,K,?_,hp,hm⟩;rw [read_zero,hN,Nat.zero_mul,hK];rfl
 ·have hpos:0<N:=Nat.pos_of_ne_zero h0
  have hk:=Nat.two_pow_pos k
  have hne:N * 2 ^ k≠0:=by
   have:=Nat.mul_pos hpos hk;omega
  rw [if_neg hne]
  have hlog:(N * 2 ^ k).log2=N.log2+k:=by
   rw [Nat.log2_eq_iff hne];have h1:=Nat.log2_self_le h0;have h2:=@Nat.lt_log2_self N
   constructor
   ·rw [Nat.pow_add]
    exact Nat.mul_le_mul_right _ h1
   ·rw [show N.log2+k+1=(N.log2+1)+k by omega,Nat.pow_add]
    exact Nat.mul_lt_mul_of_pos_right h2 hk
  have hL:N.log2≤52:=by
   have h1:=Nat.log2_self_le h0
   rcases Nat.lt_or_ge 52 N.log2 with h | h
   ·have h3:2 ^ 53≤2 ^ N.log2:=Nat.pow_le_pow_right (by omega) h
    omega
   ·exact h
  generalize hLL:N.log2=L at *;rw [hlog,dbl_least,dbl_binade,dbl_inf];have hfb:(double.fractionBits:Int)=52:=rfl;rw [hfb]
  have hlast:max (-(k:Int)+((L+k:Nat):Int) - 52) (-1074)=(L:Int) - 52:=by omega
  rw [hlast]
  have hkept:Toward.even.cut s ((N * 2 ^ k) <<< (-(k:Int) - ((L:Int) - 52)).toNat) (((L:Int) - 52) - -(k:Int)).toNat=N * 2 ^ (52 - L):=by
   rw [Nat.shiftLeft_eq]
   rcases Nat.lt_or_ge k (52 - L) with h | h
   ·rw [show (((L:Int) - 52) - -(k:Int)).toNat=0 by omega,show (-(k:Int) - ((L:Int) - 52)).toNat=52 - L - k by omega]
    have:=cut_exact s (N * 2 ^ k * 2 ^ (52 - L - k)) 0 (Nat.mul_pos (Nat.mul_pos hpos hk) (Nat.two_pow_pos _));rw [Nat.pow_zero,Nat.mul_one] at this;rw [this,Nat.mul_assoc,← Nat.pow_add,show k+(52 - L - k)=52 - L by omega]
   ·rw [show (-(k:Int) - ((L:Int) - 52)).toNat=0 by omega,show (((L:Int) - 52) - -(k:Int)).toNat=k - (52 - L) by omega,Nat.pow_zero,Nat.mul_one]
    have:=cut_exact s (N * 2 ^ (52 - L)) (k - (52 - L)) (Nat.mul_pos hpos (Nat.two_pow_pos _));rw [Nat.mul_assoc,← Nat.pow_add,show 52 - L+(k - (52 - L))=k by omega] at this;exact this
  rw [hkept]
  have hlo:2 ^ 52≤N * 2 ^ (52 - L):=by
   have h1:=Nat.log2_self_le h0;rw [hLL] at h1;have h2:=Nat.mul_le_mul_right (2 ^ (52 - L)) h1
   rwa [← Nat.pow_add,show L+(52 - L)=52 by omega] at h2
  have hhi:N * 2 ^ (52 - L)<2 ^ 53:=by
   have h1:=@Nat.lt_log2_self N;rw [hLL] at h1;have h2:=Nat.mul_lt_mul_of_pos_right h1 (Nat.two_pow_pos (52 - L))
   rwa [← Nat.pow_add,show L+1+(52 - L)=53 by omega] at h2
  have hlo':4503599627370496≤N * 2 ^ (52 - L):=hlo;have hhi':N * 2 ^ (52 - L)<9007199254740992:=hhi;refine ⟨s,52 - L,?_,hp,hm⟩;have hr:=read_rung s (L+1022) (N * 2 ^ (52 - L) - 4503599627370496) (by omega) (by omega);rw [hN];generalize N * 2 ^ (52 - L)=M at *
  have e1:min (((L:Int) - 52 - -1074).toNat * 4503599627370496+M) 9218868437227405312=(L+1022+1) * 4503599627370496+(M - 4503599627370496):=by
   have e2:((L:Int) - 52 - -1074).toNat=L+1022:=by omega
   have e3:(L+1022+1) * 4503599627370496+(M - 4503599627370496)=(L+1022) * 4503599627370496+M:=by
    rw [Nat.add_mul (L+1022) 1,Nat.one_mul,Nat.add_assoc,Nat.add_sub_cancel' hlo']
   have e4:(L+1022) * 4503599627370496≤1074 * 4503599627370496:=Nat.mul_le_mul_right _ (by omega);rw [e2,e3];exact Nat.min_eq_left (Nat.le_trans (Nat.add_le_add e4 (Nat.le_of_lt hhi')) (by decide))
  have e5:4503599627370496+(M - 4503599627370496)=M:=Nat.add_sub_cancel' hlo'
  have e6:(-1074:Int)+((L+1022:Nat):Int) = -((52 - L:Nat):Int):=by omega
  rw [e1,hr,e5,e6]
theorem signed_eq (s:Bool) (n:Int) (k up:Nat) (hp:0<n→s=false) (hm:n<0→s=true):signed s (n.natAbs * 2 ^ k) up=n * 2 ^ (k+up):=by
 have e:∀ m:Nat,((m * 2 ^ k * 2 ^ up:Nat):Int)=(m:Int) * 2 ^ (k+up):=by
  intro m;rw [Nat.mul_assoc,← Nat.pow_add];simp
 unfold signed;rw [Nat.shiftLeft_eq,e]
 rcases Int.lt_trichotomy n 0 with h | h | h
 ·rw [hm h,if_pos rfl,show ((n.natAbs:Nat):Int) = -n by omega,Int.neg_mul,Int.neg_neg]
 ·subst h
  cases s <;> simp
 ·rw [hp h]
  simp only [Bool.false_eq_true,if_false];rw [show ((n.natAbs:Nat):Int)=n by omega]
theorem abs_pow (n:Int) (k:Nat):(n * 2 ^ k).natAbs=n.natAbs * 2 ^ k:=by
 rw [Int.natAbs_mul,Int.natAbs_pow];rfl
theorem pow_sign (n:Int) (k:Nat):(n * 2 ^ k=0↔n=0)∧(n * 2 ^ k<0↔n<0):=by
 have hk:(0:Int)<2 ^ k:=Int.pow_pos (by omega)
 constructor
 ·constructor
  ·intro h
   rcases Int.mul_eq_zero.1 h with h | h
   ·exact h
   ·omega
  ·rintro rfl
   simp
 ·constructor
  ·intro h
   rcases (show n<0∨0≤n by omega) with h' | h'
   ·exact h'
   ·have:=Int.mul_nonneg h' (Int.le_of_lt hk)
    omega
  ·intro h
   exact Int.mul_neg_of_neg_of_pos h hk
theorem rep_sum {x y:Nat} {n m:Int} (hx:Rep x n) (hy:Rep y m) (h:(n+m).natAbs<9007199254740992):∃ r,double.add x y=some r∧Rep r (n+m):=by
 obtain ⟨s,k,hr,hp,hm⟩:=hx;obtain ⟨t,j,hr2,hp2,hm2⟩:=hy;unfold Format.add;rw [hr,hr2];unfold Datum.sum;simp only [Option.map_some]
 obtain ⟨K,hK⟩:∃ K:Nat,K=max k j:=⟨_,rfl⟩
 have hb:min (-(k:Int)) (-(j:Int)) = -(K:Int):=by omega
 rw [hb,signed_eq s n k _ hp hm,signed_eq t m j _ hp2 hm2,show k+(-(k:Int) - -(K:Int)).toNat=K by omega,show j+(-(j:Int) - -(K:Int)).toNat=K by omega,← Int.add_mul,abs_pow];refine ⟨_,rfl,rep_write _ _ _ h ?_ ?_⟩
 ·intro hpos
  rw [if_neg (by rw [(pow_sign _ _).1]; omega)];simp only [decide_eq_false_iff_not];rw [(pow_sign _ _).2];omega
 ·intro hneg
  rw [if_neg (by rw [(pow_sign _ _).1]; omega)];simp only [decide_eq_true_eq];rw [(pow_sign _ _).2];omega
theorem opposite_number (s:Bool) (m:Nat) (e:Int):(Datum.number s m e).opposite = .number (!s) m e:=rfl
theorem rep_sub {x y:Nat} {n m:Int} (hx:Rep x n) (hy:Rep y m) (h:(n - m).natAbs<9007199254740992):∃ r,double.sub x y=some r∧Rep r (n - m):=by
 obtain ⟨s,k,hr,hp,hm⟩:=hx;obtain ⟨t,j,hr2,hp2,hm2⟩:=hy;unfold Format.sub;rw [hr,hr2,opposite_number];unfold Datum.sum;simp only [Option.map_some]
 obtain ⟨K,hK⟩:∃ K:Nat,K=max k j:=⟨_,rfl⟩
 have hb:min (-(k:Int)) (-(j:Int)) = -(K:Int):=by omega
 have hs2:=signed_eq (!t) (-m) j (-(j:Int) - -(K:Int)).toNat (fun h=>by rw [hm2 (by omega)]; rfl) (fun h=>by rw [hp2 (by omega)]; rfl);rw [Int.natAbs_neg] at hs2;rw [hb,signed_eq s n k _ hp hm,hs2,show k+(-(k:Int) - -(K:Int)).toNat=K by omega,show j+(-(j:Int) - -(K:Int)).toNat=K by omega,← Int.add_mul,← Int.sub_eq_add_neg,abs_pow];refine ⟨_,rfl,rep_write _ _ _ h ?_ ?_⟩
 ·intro hpos
  rw [if_neg (by rw [(pow_sign _ _).1]; omega)];simp only [decide_eq_false_iff_not];rw [(pow_sign _ _).2];omega
 ·intro hneg
  rw [if_neg (by rw [(pow_sign _ _).1]; omega)];simp only [decide_eq_true_eq];rw [(pow_sign _ _).2];omega
theorem rep_mul {x y:Nat} {n m:Int} (hx:Rep x n) (hy:Rep y m) (h:(n * m).natAbs<9007199254740992):∃ r,double.mul x y=some r∧Rep r (n * m):=by
 obtain ⟨s,k,hr,hp,hm⟩:=hx;obtain ⟨t,j,hr2,hp2,hm2⟩:=hy;unfold Format.mul;rw [hr,hr2];unfold Datum.product;simp only [Option.map_some]
 have e:n.natAbs * 2 ^ k * (m.natAbs * 2 ^ j)=(n * m).natAbs * 2 ^ (k+j):=by
  rw [Int.natAbs_mul,Nat.pow_add];simp only [Nat.mul_assoc,Nat.mul_left_comm]
 rw [e,show -(k:Int) + -(j:Int) = -((k+j:Nat):Int) by omega]
 have sg:∀ a b:Int,(0<a * b→(0<a∧0<b)∨(a<0∧b<0))∧(a * b<0→(0<a∧b<0)∨(a<0∧0<b)):=by
  intro a b
  rcases Int.lt_trichotomy a 0 with ha | ha | ha <;> rcases Int.lt_trichotomy b 0 with hb | hb | hb
  ·have:=Int.mul_pos_of_neg_of_neg ha hb
   exact ⟨fun _=>.inr ⟨ha,hb⟩,fun h=>by omega⟩
  ·subst hb
   exact ⟨fun h=>by simp at h,fun h=>by simp at h⟩
  ·have:=Int.mul_neg_of_neg_of_pos ha hb
   exact ⟨fun h=>by omega,fun _=>.inr ⟨ha,hb⟩⟩
  ·subst ha
   exact ⟨fun h=>by simp at h,fun h=>by simp at h⟩
  ·subst ha
   exact ⟨fun h=>by simp at h,fun h=>by simp at h⟩
  ·subst ha
   exact ⟨fun h=>by simp at h,fun h=>by simp at h⟩
  ·have:=Int.mul_neg_of_pos_of_neg ha hb
   exact ⟨fun h=>by omega,fun _=>.inl ⟨ha,hb⟩⟩
  ·subst hb
   exact ⟨fun h=>by simp at h,fun h=>by simp at h⟩
  ·have:=Int.mul_pos ha hb
   exact ⟨fun _=>.inl ⟨ha,hb⟩,fun h=>by omega⟩
 refine ⟨_,rfl,rep_write _ _ _ h ?_ ?_⟩
 ·intro hpos
  rcases (sg n m).1 hpos with ⟨h1,h2⟩ | ⟨h1,h2⟩
  ·rw [hp h1,hp2 h2]; rfl
  ·rw [hm h1,hm2 h2]; rfl
 ·intro hneg
  rcases (sg n m).2 hneg with ⟨h1,h2⟩ | ⟨h1,h2⟩
  ·rw [hp h1,hm2 h2]; rfl
  ·rw [hm h1,hp2 h2]; rfl
theorem rep_of_int (n:Int) (h:n.natAbs<9007199254740992):Rep (double.write (.number (n<0) n.natAbs 0)) n:=by
 have:=rep_write (decide (n<0)) n 0 h (fun h=>by simp; omega) (fun h=>by simp; exact h);rw [Nat.pow_zero,Nat.mul_one] at this;exact this
theorem compare_pow (n m:Int) (k:Nat):compare (n * 2 ^ k) (m * 2 ^ k)=compare n m:=by
 have hk:(0:Int)<2 ^ k:=Int.pow_pos (by omega)
 rcases Int.lt_trichotomy n m with h | h | h
 ·rw [Int.compare_eq_lt.2 h,Int.compare_eq_lt.2 (Int.mul_lt_mul_of_pos_right h hk)]
 ·subst h
  rw [Int.compare_eq_eq.2 rfl,Int.compare_eq_eq.2 rfl]
 ·rw [Int.compare_eq_gt.2 h,Int.compare_eq_gt.2 (Int.mul_lt_mul_of_pos_right h hk)]
theorem rep_order {x y:Nat} {n m:Int} (hx:Rep x n) (hy:Rep y m):double.order x y=some (compare n m):=by
 obtain ⟨s,k,hr,hp,hm⟩:=hx;obtain ⟨t,j,hr2,hp2,hm2⟩:=hy;unfold Format.order;rw [hr,hr2];unfold Datum.order;simp only
 obtain ⟨K,hK⟩:∃ K:Nat,K=max k j:=⟨_,rfl⟩
 have hb:min (-(k:Int)) (-(j:Int)) = -(K:Int):=by omega
 rw [hb,signed_eq s n k _ hp hm,signed_eq t m j _ hp2 hm2,show k+(-(k:Int) - -(K:Int)).toNat=K by omega,show j+(-(j:Int) - -(K:Int)).toNat=K by omega,compare_pow]
theorem cut_zero (s:Bool) (n d:Nat):Toward.zero.cut s (n * 2 ^ d) d=n:=by
 rcases Nat.eq_zero_or_pos n with h | hn
 ·subst h
  unfold Toward.cut;simp
 ·have hl:d≤(n * 2 ^ d).log2+2:=by
   have h1:2 ^ d≤n * 2 ^ d:=Nat.le_mul_of_pos_left _ hn;have h2:d≤(n * 2 ^ d).log2:=(Nat.le_log2 (by have:=Nat.two_pow_pos d; omega)).2 h1;omega
  unfold Toward.cut;simp only [Nat.min_eq_left hl,Nat.shiftLeft_eq,Nat.one_mul];rw [Nat.mul_div_cancel _ (Nat.two_pow_pos d)];rfl
theorem rep_toInt {x:Nat} {n:Int} (hx:Rep x n):(double.read x).toInt .zero=some n:=by
 obtain ⟨s,k,hr,hp,hm⟩:=hx;rw [hr];unfold Datum.toInt Datum.integral;simp only;rw [show (-(k:Int)).toNat=0 by omega,show (-(-(k:Int))).toNat=k by omega,Nat.shiftLeft_eq,Nat.pow_zero,Nat.mul_one,cut_zero];have:=signed_eq s n 0 0 hp hm;rw [Nat.pow_zero,Nat.mul_one] at this;rw [this];simp
theorem rep_floatBits_add {x y:Nat} {n m:Int} (hx:Rep x n) (hy:Rep y m) (h:(n+m).natAbs<9007199254740992):∃ r,floatBits .add .f64 x y=some r∧Rep r (n+m):=rep_sum hx hy h
theorem rep_floatBits_sub {x y:Nat} {n m:Int} (hx:Rep x n) (hy:Rep y m) (h:(n - m).natAbs<9007199254740992):∃ r,floatBits .sub .f64 x y=some r∧Rep r (n - m):=rep_sub hx hy h
theorem rep_floatBits_mul {x y:Nat} {n m:Int} (hx:Rep x n) (hy:Rep y m) (h:(n * m).natAbs<9007199254740992):∃ r,floatBits .mul .f64 x y=some r∧Rep r (n * m):=rep_mul hx hy h
theorem rep_floatOfInt (n:Int) (h:n.natAbs<9007199254740992):Rep (floatOfInt .f64 n) n:=rep_of_int n h
theorem rep_int (x:Nat) (n:Int) (hx:Rep x n) (h0 : -9223372036854775808≤n) (h1:n≤9223372036854775807):floatToIntVal .f64 x .i64=some n:=by
 unfold floatToIntVal;rw [show FloatKind.f64.decode x=double.read x from rfl,rep_toInt hx];simp only;rw [if_pos ⟨h0,h1⟩]
def RepC (a b:Nat) (n m:Int):Prop:=Rep a n∧Rep b m
theorem repC_add {a b c d:Nat} {n m p q:Int} (hx:RepC a b n m) (hy:RepC c d p q) (h1:(n+p).natAbs<9007199254740992) (h2:(m+q).natAbs<9007199254740992) :
  ∃ re im,cSumBits .add .f64 a b c d=some (re,im)∧RepC re im (n+p) (m+q):=by
 obtain ⟨re,e1,r1⟩:=rep_floatBits_add hx.1 hy.1 h1;obtain ⟨im,e2,r2⟩:=rep_floatBits_add hx.2 hy.2 h2;exact ⟨re,im,by unfold cSumBits; rw [e1,e2]; rfl,r1,r2⟩
theorem repC_mul {a b c d:Nat} {n m p q:Int} (hx:RepC a b n m) (hy:RepC c d p q) (h1:(n * p).natAbs<9007199254740992) (h2:(m * q).natAbs<9007199254740992) (h3:(n * q).natAbs<9007199254740992) (h4:(m * p).natAbs<9007199254740992)
  (h5:(n * p - m * q).natAbs<9007199254740992) (h6:(n * q+m * p).natAbs<9007199254740992) :
  ∃ re im,cMulBits a b c d=some (re,im)∧RepC re im (n * p - m * q) (n * q+m * p):=by
 obtain ⟨ac,e1,r1⟩:=rep_floatBits_mul hx.1 hy.1 h1;obtain ⟨bd,e2,r2⟩:=rep_floatBits_mul hx.2 hy.2 h2;obtain ⟨re,e3,r3⟩:=rep_floatBits_sub r1 r2 h5;obtain ⟨ad,e4,r4⟩:=rep_floatBits_mul hx.1 hy.2 h3;obtain ⟨bc,e5,r5⟩:=rep_floatBits_mul hx.2 hy.1 h4;obtain ⟨im,e6,r6⟩:=rep_floatBits_add r4 r5 h6;refine ⟨re,im,?_,r3,r6⟩;unfold cMulBits;rw [e1,e2];simp only [Option.bind_some];rw [e3,e4,e5];simp only [Option.bind_some];rw [e6];rfl
end
end Go.Proofs.YtdpagmcickkbmaaGreatDoor
