/- PDgs POrm -/
import Derived.Lib.ItoaNum
namespace Go.Proofs.YtdpagmcickkbmaaGreatDoor
set_option maxRecDepth 100000
section
namespace Dgs
abbrev By:=List (BitVec 8)
def dgs (u:Nat):By:=if h:u<10 then [BitVec.ofNat 8 (48+u)] else dgs (u / 10) ++ [BitVec.ofNat 8 (48+u % 10)]
termination_by u
decreasing_by omega
theorem dgs_small {u:Nat} (h:u<10):dgs u=[BitVec.ofNat 8 (48+u)]:=by rw [dgs,dif_pos h]
theorem dgs_big {u:Nat} (h:¬ u<10):dgs u=dgs (u / 10) ++ [BitVec.ofNat 8 (48+u % 10)]:=by rw [dgs,dif_neg h]
theorem dgs_lib (u:Nat):(Lib.decDigits u).map (fun c=>c.toBitVec)=dgs u:=by
  induction u using Nat.strongRecOn with
  | ind u ih =>
    by_cases h:u<10
    · rw [Lib.decDigits_one h,dgs_small h]
      rfl
    · rw [dgs_big h,← ih (u / 10) (by omega),Lib.decDigits,dif_neg h,List.map_append]
      rfl
def val (l:By):Nat:=l.foldl (fun n c=>10 * n+(c.toNat - 48)) 0
theorem val_snoc (l:By) (c:BitVec 8):val (l ++ [c])=10 * val l+(c.toNat - 48):=by
 unfold val;rw [List.foldl_append];rfl
theorem d_nat {x:Nat} (h:x<10):(BitVec.ofNat 8 (48+x)).toNat=48+x:=by
 rw [BitVec.toNat_ofNat];omega
theorem val_dgs (u:Nat):val (dgs u)=u:=by
  induction u using Nat.strongRecOn with
  | ind u ih =>
    by_cases h:u<10
    · rw [dgs_small h,show [BitVec.ofNat 8 (48+u)]=[] ++ [BitVec.ofNat 8 (48+u)] from rfl,val_snoc,d_nat h]
      simp [val]
    · rw [dgs_big h,val_snoc,ih (u / 10) (by omega),d_nat (by omega)]
      omega
theorem dgs_inj {u v:Nat} (h:dgs u=dgs v):u=v:=by rw [← val_dgs u,h,val_dgs]
def IsD (c:BitVec 8):Prop:=48≤c.toNat∧c.toNat≤57
theorem dgs_are (u:Nat):∀ c∈dgs u,IsD c:=by
  induction u using Nat.strongRecOn with
  | ind u ih =>
    intro c hc
    by_cases h:u<10
    · rw [dgs_small h,List.mem_singleton] at hc
      subst hc;unfold IsD;rw [d_nat h];omega
    · rw [dgs_big h,List.mem_append,List.mem_singleton] at hc
      rcases hc with hc | rfl
      · exact ih (u / 10) (by omega) c hc
      · unfold IsD
        rw [d_nat (by omega)];omega
theorem dgs_ne (u:Nat):dgs u≠[]:=by
 by_cases h:u<10
 ·rw [dgs_small h]; simp
 ·rw [dgs_big h]; simp
theorem dgs_len (u k:Nat) (h:u<10 ^ (k+1)):(dgs u).length≤k+1:=by
  induction k generalizing u with
  | zero=>rw [dgs_small (by simpa using h)]; simp
  | succ k ih =>
    by_cases h10:u<10
    · rw [dgs_small h10]; simp
    · rw [dgs_big h10,List.length_append]
      have:=ih (u / 10) (by rw [Nat.pow_succ] at h; omega);simp;omega
end Dgs
end
section
namespace Orm
open Dgs
def wd:Nat→By
 | 1=>[102#8,108#8,111#8,111#8,114#8]
 | 2=>[100#8,114#8,111#8,112#8]
 | 3=>[108#8,105#8,115#8,116#8]
 | 4=>[100#8,101#8,116#8,97#8,99#8,104#8]
 | 5=>[114#8,101#8,118#8,111#8,107#8,101#8]
 | 6=>[103#8,105#8,118#8,101#8]
 | 7=>[107#8,105#8,99#8,107#8]
 | 8=>[119#8,114#8,105#8,116#8,101#8]
 | 9=>[119#8,97#8,116#8,99#8,104#8]
 | 10=>[114#8,101#8,112#8,108#8,97#8,121#8]
 | 11=>[108#8,105#8,109#8,105#8,116#8]
 | _=>[]
structure Rt (k n:Int):Prop where
 k0:1≤k
 k1:k≤11
 n0:0≤n
 n1:n≤1099511627776
 z:k≤5→n=0
instance (k n:Int):Decidable (Rt k n):=
 if h:1≤k∧k≤11∧0≤n∧n≤1099511627776∧(k≤5→n=0) then .isTrue ⟨h.1,h.2.1,h.2.2.1,h.2.2.2.1,h.2.2.2.2⟩ else .isFalse fun r=>h ⟨r.k0,r.k1,r.n0,r.n1,r.z⟩
def tx (k n:Int):By:=if k≤5 then wd k.toNat else wd k.toNat ++ [32#8] ++ dgs n.toNat
def text (k n:Int):By:=if Rt k n then tx k n else []
theorem wd_plain (k:Nat):∀ c∈wd k,c≠32#8:=by
 unfold wd
 split <;> decide
theorem wd_len (k:Nat):(wd k).length≤6:=by
 unfold wd
 split <;> decide
theorem wd_inj (k j:Nat) (hk0:1≤k) (hk1:k≤11) (hj0:1≤j) (hj1:j≤11) (h:wd k=wd j):k=j:=by
 have hall:∀ a b:Fin 12,1≤a.val→1≤b.val→wd a.val=wd b.val→a.val=b.val:=by decide
 exact hall ⟨k,by omega⟩ ⟨j,by omega⟩ hk0 hj0 h
def word (s:By):By:=s.takeWhile (fun c=>c != 32#8)
theorem word_app (a b:By) (h:∀ c∈a,c≠32#8):word (a ++ 32#8 :: b)=a:=by
 unfold word;rw [List.takeWhile_append_of_pos (by intro c hc; simp [h c hc]),List.takeWhile_cons_of_neg (by simp),List.append_nil]
theorem word_all (a:By) (h:∀ c∈a,c≠32#8):word a=a:=by
 unfold word;have h2:=List.takeWhile_append_of_pos (p:=fun c=>c != 32#8) (l₁:=a) (l₂:=[]) (by intro c hc; simp [h c hc])
 simpa using h2
theorem word_tx (k n:Int):word (tx k n)=wd k.toNat:=by
 unfold tx
 split
 ·exact word_all _ (wd_plain _)
 ·rw [List.append_assoc]
  exact word_app _ _ (wd_plain _)
theorem tx_inj {k n j m:Int} (h1:Rt k n) (h2:Rt j m) (h:tx k n=tx j m):k=j∧n=m:=by
 have hw:wd k.toNat=wd j.toNat:=by rw [← word_tx k n,h,word_tx]
 have hk:=wd_inj _ _ (by have:=h1.k0; omega) (by have:=h1.k1; omega) (by have:=h2.k0; omega) (by have:=h2.k1; omega) hw
 have hkj:k=j:=by have:=h1.k0; have:=h2.k0; omega
 subst hkj;refine ⟨rfl,?_⟩
 by_cases h5:k≤5
 ·rw [h1.z h5,h2.z h5]
 ·unfold tx at h
  rw [if_neg h5,if_neg h5] at h;have:=dgs_inj (List.append_cancel_left h);have:=h1.n0;have:=h2.n0;omega
def Is (s:By) (k n:Int):Prop:=Rt k n∧tx k n=s
theorem Is.one {s:By} {k n j m:Int} (h1:Is s k n) (h2:Is s j m):k=j∧n=m:=tx_inj h1.1 h2.1 (h1.2.trans h2.2.symm)
theorem Is.word {s:By} {k n:Int} (h:Is s k n):Orm.word s=wd k.toNat:=by rw [← h.2,word_tx]
theorem text_of {k n:Int} (h:Rt k n):text k n=tx k n:=by unfold text; rw [if_pos h]
theorem text_none {k n:Int} (h:¬ Rt k n):text k n=[]:=by unfold text; rw [if_neg h]
theorem tx_len {k n:Int} (h:Rt k n):(tx k n).length≤20:=by
 have h1:=wd_len k.toNat;unfold tx
 split
 ·omega
 ·have:=dgs_len n.toNat 12 (by have:=h.n1; have:=h.n0; omega)
  simp only [List.length_append,List.length_cons,List.length_nil];omega
def pre (k:Nat):By:=wd k ++ [32#8]
theorem tx_pre {k:Nat} {n:Int} (h:6≤k):tx k n=pre k ++ dgs n.toNat:=by
 unfold tx pre;rw [if_neg (by omega)];rfl
theorem tx_word {k:Nat} {n:Int} (h:k≤5):tx k n=wd k:=by
 unfold tx;rw [if_pos (by omega)];rfl
end Orm
end
end Go.Proofs.YtdpagmcickkbmaaGreatDoor
