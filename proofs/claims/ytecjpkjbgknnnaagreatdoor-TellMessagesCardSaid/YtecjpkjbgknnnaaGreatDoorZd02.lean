/- PDgs POrm -/
import Derived.Lib.ItoaNum
namespace Go.Proofs.YtecjpkjbgknnnaaGreatDoor
set_option maxRecDepth 100000
section
namespace Dgs
abbrev By:=List (BitVec 8)
def dgs (u:Nat):By:=if h:u<10 then [BitVec.ofNat 8 (48+u)] else dgs (u / 10) ++ [BitVec.ofNat 8 (48+u % 10)]
termination_by u
decreasing_by omega
theorem dgs_small {u:Nat} (h:u<10):dgs u=[BitVec.ofNat 8 (48+u)]:=by rw [dgs,dif_pos h]
theorem dgs_big {u:Nat} (h:¬ u<10):dgs u=dgs (u / 10) ++ [BitVec.ofNat 8 (48+u % 10)]:=by rw [dgs,dif_neg h]
theorem dgs_lib (u:Nat):(Lib.decDigits u).map (fun c=>c.toBitVec)=dgs u:=by
  induction u using Nat.strongRecOn with
  | ind u ih =>
    by_cases h:u<10
    · rw [Lib.decDigits_one h,dgs_small h]
      rfl
    · rw [dgs_big h,← ih (u / 10) (by omega),Lib.decDigits,dif_neg h,List.map_append]
      rfl
def val (l:By):Nat:=l.foldl (fun n c=>10 * n+(c.toNat - 48)) 0
theorem dgs_len (u k:Nat) (h:u<10 ^ (k+1)):(dgs u).length≤k+1:=by
  induction k generalizing u with
  | zero=>rw [dgs_small (by simpa using h)]; simp
  | succ k ih =>
    by_cases h10:u<10
    · rw [dgs_small h10]; simp
    · rw [dgs_big h10,List.length_append]
      have:=ih (u / 10) (by rw [Nat.pow_succ] at h; omega);simp;omega
end Dgs
end
section
namespace Orm
open Dgs
def wd:Nat→By
 | 1=>[102#8,108#8,111#8,111#8,114#8]
 | 2=>[100#8,114#8,111#8,112#8]
 | 3=>[108#8,105#8,115#8,116#8]
 | 4=>[100#8,101#8,116#8,97#8,99#8,104#8]
 | 5=>[114#8,101#8,118#8,111#8,107#8,101#8]
 | 6=>[103#8,105#8,118#8,101#8]
 | 7=>[107#8,105#8,99#8,107#8]
 | 8=>[119#8,114#8,105#8,116#8,101#8]
 | 9=>[119#8,97#8,116#8,99#8,104#8]
 | 10=>[114#8,101#8,112#8,108#8,97#8,121#8]
 | 11=>[108#8,105#8,109#8,105#8,116#8]
 | _=>[]
structure Rt (k n:Int):Prop where
 k0:1≤k
 k1:k≤11
 n0:0≤n
 n1:n≤1099511627776
 z:k≤5→n=0
instance (k n:Int):Decidable (Rt k n):=
 if h:1≤k∧k≤11∧0≤n∧n≤1099511627776∧(k≤5→n=0) then .isTrue ⟨h.1,h.2.1,h.2.2.1,h.2.2.2.1,h.2.2.2.2⟩ else .isFalse fun r=>h ⟨r.k0,r.k1,r.n0,r.n1,r.z⟩
def tx (k n:Int):By:=if k≤5 then wd k.toNat else wd k.toNat ++ [32#8] ++ dgs n.toNat
def text (k n:Int):By:=if Rt k n then tx k n else []
def word (s:By):By:=s.takeWhile (fun c=>c != 32#8)
def Is (s:By) (k n:Int):Prop:=Rt k n∧tx k n=s
def pre (k:Nat):By:=wd k ++ [32#8]
end Orm
end
end Go.Proofs.YtecjpkjbgknnnaaGreatDoor
