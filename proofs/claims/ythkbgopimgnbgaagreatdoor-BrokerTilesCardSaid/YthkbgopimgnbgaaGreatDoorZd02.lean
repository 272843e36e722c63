/- PDgs POrm -/
import Derived.Lib.ItoaNum

section
namespace Go.Proofs.YthkbgopimgnbgaaGreatDoor.Dgs
abbrev By:=List (BitVec 8)
def dgs (u : Nat) : By:=if h : u < 10 then [BitVec.ofNat 8 (48 + u)] else dgs (u / 10) ++ [BitVec.ofNat 8 (48 + u % 10)]
termination_by u
decreasing_by omega
theorem dgs_small {u : Nat} (h : u < 10) : dgs u = [BitVec.ofNat 8 (48 + u)]:=by rw [dgs,dif_pos h]
theorem dgs_big {u : Nat} (h : ¬ u < 10) : dgs u = dgs (u / 10) ++ [BitVec.ofNat 8 (48 + u % 10)]:=by rw [dgs,dif_neg h]
theorem dgs_lib (u : Nat) : (Lib.decDigits u).map (fun c=>c.toBitVec) = dgs u:=by
  induction u using Nat.strongRecOn with
  | ind u ih =>
    by_cases h : u < 10
    · rw [Lib.decDigits_one h,dgs_small h]
      rfl
    · rw [dgs_big h,← ih (u / 10) (by omega),Lib.decDigits,dif_neg h,List.map_append]
      rfl
def val (l : By) : Nat:=l.foldl (fun n c=>10 * n + (c.toNat - 48)) 0
theorem val_snoc (l : By) (c : BitVec 8) : val (l ++ [c]) = 10 * val l + (c.toNat - 48):=by
  unfold val
  rw [List.foldl_append]
  rfl
theorem d_nat {x : Nat} (h : x < 10) : (BitVec.ofNat 8 (48 + x)).toNat = 48 + x:=by
  rw [BitVec.toNat_ofNat]
  omega
theorem val_dgs (u : Nat) : val (dgs u) = u:=by
  induction u using Nat.strongRecOn with
  | ind u ih =>
    by_cases h : u < 10
    · rw [dgs_small h,show [BitVec.ofNat 8 (48 + u)] = [] ++ [BitVec.ofNat 8 (48 + u)] from rfl,val_snoc,d_nat h]
      simp [val]
    · rw [dgs_big h,val_snoc,ih (u / 10) (by omega),d_nat (by omega)]
      omega
theorem dgs_inj {u v : Nat} (h : dgs u = dgs v) : u = v:=by rw [← val_dgs u,h,val_dgs]
def IsD (c : BitVec 8) : Prop:=48≤c.toNat∧c.toNat≤57
theorem dgs_are (u : Nat) : ∀ c∈dgs u,IsD c:=by
  induction u using Nat.strongRecOn with
  | ind u ih =>
    intro c hc
    by_cases h : u < 10
    · rw [dgs_small h,List.mem_singleton] at hc
      subst hc
      unfold IsD
      rw [d_nat h]
      omega
    · rw [dgs_big h,List.mem_append,List.mem_singleton] at hc
      rcases hc with hc | rfl
      · exact ih (u / 10) (by omega) c hc
      · unfold IsD
        rw [d_nat (by omega)]
        omega
theorem dgs_ne (u : Nat) : dgs u≠[]:=by
  by_cases h : u < 10
  · rw [dgs_small h]; simp
  · rw [dgs_big h]; simp
theorem dgs_head (u : Nat) (h : 0 < u) : ∃ c l,dgs u = c :: l∧c.toNat≠48:=by
  induction u using Nat.strongRecOn with
  | ind u ih =>
    by_cases h10 : u < 10
    · exact ⟨_,[],dgs_small h10,by rw [d_nat h10]; omega⟩
    · obtain ⟨c,l,e,hc⟩:=ih (u / 10) (by omega) (by omega)
      exact ⟨c,l ++ [BitVec.ofNat 8 (48 + u % 10)],by rw [dgs_big h10,e]; rfl,hc⟩
theorem d_back (c : BitVec 8) (h : IsD c) : BitVec.ofNat 8 (48 + (c.toNat - 48)) = c:=by
  have:=h.1
  rw [show 48 + (c.toNat - 48) = c.toNat by omega]
  apply BitVec.eq_of_toNat_eq
  rw [BitVec.toNat_ofNat]
  have:=c.isLt
  omega
theorem dgs_val (l : By) (h : ∀ c∈l,IsD c) (hne : l≠[]) (hh : (l.headD 0#8).toNat≠48) : dgs (val l) = l∧0 < val l:=by
  induction hn : l.length using Nat.strongRecOn generalizing l with
  | ind n ih =>
    obtain ⟨m,c,rfl⟩ : ∃ m c,l = m ++ [c]:=⟨l.dropLast,l.getLast hne,(List.dropLast_concat_getLast hne).symm⟩
    have hc:=h c (by simp)
    have hc1:=hc.1
    have hc2:=hc.2
    rw [val_snoc]
    cases m with
    | nil =>
      simp at hh
      rw [show val [] = 0 from rfl,Nat.mul_zero,Nat.zero_add]
      refine ⟨?_,by omega⟩
      rw [dgs_small (by omega),d_back c hc]
      rfl
    | cons a m =>
      have hl : (a :: m).length < n:=by rw [← hn]; simp
      obtain ⟨e1,e2⟩:=ih (a :: m).length hl (a :: m) (fun x hx=>h x (List.mem_append_left _ hx)) (by simp) (by simpa using hh) rfl
      refine ⟨?_,by omega⟩
      rw [dgs_big (by omega),show (10 * val (a :: m) + (c.toNat - 48)) / 10 = val (a :: m) by omega,show (10 * val (a :: m) + (c.toNat - 48)) % 10 = c.toNat - 48 by omega,e1,d_back c hc]
theorem dgs_len (u k : Nat) (h : u < 10 ^ (k + 1)) : (dgs u).length≤k + 1:=by
  induction k generalizing u with
  | zero=>rw [dgs_small (by simpa using h)]; simp
  | succ k ih =>
    by_cases h10 : u < 10
    · rw [dgs_small h10]; simp
    · rw [dgs_big h10,List.length_append]
      have:=ih (u / 10) (by rw [Nat.pow_succ] at h; omega)
      simp
      omega
theorem val_lt (l : By) (h : ∀ c∈l,IsD c) : val l < 10 ^ l.length:=by
  induction hn : l.length using Nat.strongRecOn generalizing l with
  | ind n ih =>
    rcases List.eq_nil_or_concat l with rfl | ⟨m,c,rfl⟩
    · subst hn
      decide
    · have hc:=h c (by simp)
      have hl : m.length < n:=by rw [← hn]; simp
      have:=ih m.length hl m (fun x hx=>h x (by simp [hx])) rfl
      have hn' : n = m.length + 1:=by rw [← hn]; simp
      rw [List.concat_eq_append,val_snoc,hn',Nat.pow_succ]
      have h1:=hc.1
      have h2:=hc.2
      omega
end Go.Proofs.YthkbgopimgnbgaaGreatDoor.Dgs
end

section
namespace Go.Proofs.YthkbgopimgnbgaaGreatDoor.Orm
open Dgs
def wd : Nat→By
  | 1=>[102#8,108#8,111#8,111#8,114#8]
  | 2=>[100#8,114#8,111#8,112#8]
  | 3=>[108#8,105#8,115#8,116#8]
  | 4=>[100#8,101#8,116#8,97#8,99#8,104#8]
  | 5=>[114#8,101#8,118#8,111#8,107#8,101#8]
  | 6=>[103#8,105#8,118#8,101#8]
  | 7=>[107#8,105#8,99#8,107#8]
  | 8=>[119#8,114#8,105#8,116#8,101#8]
  | 9=>[119#8,97#8,116#8,99#8,104#8]
  | 10=>[114#8,101#8,112#8,108#8,97#8,121#8]
  | 11=>[108#8,105#8,109#8,105#8,116#8]
  | _=>[]
structure Rt (k n : Int) : Prop where
  k0 : 1≤k
  k1 : k≤11
  n0 : 0≤n
  n1 : n≤1099511627776
  z : k≤5→n = 0
instance (k n : Int) : Decidable (Rt k n):=
  if h : 1≤k∧k≤11∧0≤n∧n≤1099511627776∧(k≤5→n = 0) then .isTrue ⟨h.1,h.2.1,h.2.2.1,h.2.2.2.1,h.2.2.2.2⟩ else .isFalse fun r=>h ⟨r.k0,r.k1,r.n0,r.n1,r.z⟩
def tx (k n : Int) : By:=if k≤5 then wd k.toNat else wd k.toNat ++ [32#8] ++ dgs n.toNat
def text (k n : Int) : By:=if Rt k n then tx k n else []
theorem wd_plain (k : Nat) : ∀ c∈wd k,c≠32#8:=by
  unfold wd
  split <;> decide
theorem wd_len (k : Nat) : (wd k).length≤6:=by
  unfold wd
  split <;> decide
theorem wd_inj (k j : Nat) (hk0 : 1≤k) (hk1 : k≤11) (hj0 : 1≤j) (hj1 : j≤11) (h : wd k = wd j) : k = j:=by
  have hall : ∀ a b : Fin 12,1≤a.val→1≤b.val→wd a.val = wd b.val→a.val = b.val:=by decide
  exact hall ⟨k,by omega⟩ ⟨j,by omega⟩ hk0 hj0 h
def word (s : By) : By:=s.takeWhile (fun c=>c != 32#8)
theorem word_app (a b : By) (h : ∀ c∈a,c≠32#8) : word (a ++ 32#8 :: b) = a:=by
  unfold word
  rw [List.takeWhile_append_of_pos (by intro c hc; simp [h c hc]),List.takeWhile_cons_of_neg (by simp),List.append_nil]
theorem word_all (a : By) (h : ∀ c∈a,c≠32#8) : word a = a:=by
  unfold word
  have h2:=List.takeWhile_append_of_pos (p:=fun c=>c != 32#8) (l₁:=a) (l₂:=[]) (by intro c hc; simp [h c hc])
  simpa using h2
theorem word_tx (k n : Int) : word (tx k n) = wd k.toNat:=by
  unfold tx
  split
  · exact word_all _ (wd_plain _)
  · rw [List.append_assoc]
    exact word_app _ _ (wd_plain _)
theorem tx_inj {k n j m : Int} (h1 : Rt k n) (h2 : Rt j m) (h : tx k n = tx j m) : k = j∧n = m:=by
  have hw : wd k.toNat = wd j.toNat:=by rw [← word_tx k n,h,word_tx]
  have hk:=wd_inj _ _ (by have:=h1.k0; omega) (by have:=h1.k1; omega) (by have:=h2.k0; omega) (by have:=h2.k1; omega) hw
  have hkj : k = j:=by have:=h1.k0; have:=h2.k0; omega
  subst hkj
  refine ⟨rfl,?_⟩
  by_cases h5 : k≤5
  · rw [h1.z h5,h2.z h5]
  · unfold tx at h
    rw [if_neg h5,if_neg h5] at h
    have:=dgs_inj (List.append_cancel_left h)
    have:=h1.n0
    have:=h2.n0
    omega
def Is (s : By) (k n : Int) : Prop:=Rt k n∧tx k n = s
theorem Is.one {s : By} {k n j m : Int} (h1 : Is s k n) (h2 : Is s j m) : k = j∧n = m:=tx_inj h1.1 h2.1 (h1.2.trans h2.2.symm)
theorem Is.word {s : By} {k n : Int} (h : Is s k n) : Orm.word s = wd k.toNat:=by rw [← h.2,word_tx]
theorem text_of {k n : Int} (h : Rt k n) : text k n = tx k n:=by unfold text; rw [if_pos h]
theorem text_none {k n : Int} (h : ¬ Rt k n) : text k n = []:=by unfold text; rw [if_neg h]
theorem tx_len {k n : Int} (h : Rt k n) : (tx k n).length≤20:=by
  have h1:=wd_len k.toNat
  unfold tx
  split
  · omega
  · have:=dgs_len n.toNat 12 (by have:=h.n1; have:=h.n0; omega)
    simp only [List.length_append,List.length_cons,List.length_nil]
    omega
def pre (k : Nat) : By:=wd k ++ [32#8]
theorem tx_pre {k : Nat} {n : Int} (h : 6≤k) : tx k n = pre k ++ dgs n.toNat:=by
  unfold tx pre
  rw [if_neg (by omega)]
  rfl
theorem tx_word {k : Nat} {n : Int} (h : k≤5) : tx k n = wd k:=by
  unfold tx
  rw [if_pos (by omega)]
  rfl
theorem word_pre (k : Nat) (l : By) : word (pre k ++ l) = wd k:=by
  unfold pre
  rw [List.append_assoc]
  exact word_app _ _ (wd_plain _)
theorem only_kind {k : Nat} (h0 : 1≤k) (h1 : k≤11) {l : By} {j n : Int} (h : Is (pre k ++ l) j n) : j = k:=by
  have hw:=h.word
  rw [word_pre] at hw
  have:=wd_inj _ _ h0 h1 (by have:=h.1.k0; omega) (by have:=h.1.k1; omega) hw
  have:=h.1.k0
  omega
theorem only_digits {k : Nat} (h0 : 6≤k) (h1 : k≤11) {l : By} {j n : Int} (h : Is (pre k ++ l) j n) : l = dgs n.toNat∧0≤n∧n≤1099511627776∧j = k:=by
  have hj:=only_kind (by omega) h1 h
  subst hj
  refine ⟨?_,h.1.n0,h.1.n1,rfl⟩
  have:=h.2
  rw [tx_pre h0] at this
  exact (List.append_cancel_left this).symm
theorem rt_of {k : Nat} (h0 : 6≤k) (h1 : k≤11) {n : Nat} (hn : n≤1099511627776) : Rt k n:=⟨by omega,by omega,by omega,by omega,by omega⟩
end Go.Proofs.YthkbgopimgnbgaaGreatDoor.Orm
end
