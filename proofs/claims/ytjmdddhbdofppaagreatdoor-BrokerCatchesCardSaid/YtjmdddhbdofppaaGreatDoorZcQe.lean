/- The broker's mathematics: the program ends. No program is named here. -/
import Derived.Test.YtjmdddhbdofppaaGreatDoorZc07

namespace Go.Proofs.YtjmdddhbdofppaaGreatDoor.Bk
open Fr Lx
noncomputable def exB : Br:={ setFl (setFl (bnew cfd) (firstFl 100 1)) { (firstFl 100 1) with line:=[1],left:=100 } with told:=1 }
theorem exB_fl : exB.fl = ⟨100,100,[(1,2)],[1]⟩:=by
  have h:=first_roles 100 (k:=1) (by decide)
  show ({ (firstFl 100 1) with line:=[1],left:=100 } : Fl) = _
  rfl
noncomputable def exC : Cn:=plus (mfloor 1) { firstC 1 [97#8] with idle:=0 }
theorem exC_len : exC.out.length = 44:=by
  show ((enc (welcome 1 0 2) ++ enc (mfloor 0)) ++ enc (mfloor 1)).length = 44
  rw [List.length_append,List.length_append,floor_len,floor_len,enc_len5]
  rfl
theorem ex2 : hd3 = lone exB 1 exC:=by
  have a1:=hd1_is.1
  have a2:=lone_hello (b:=bnew cfd) (k:=1) (t:=[97#8]) (by decide) (by decide) (by decide) rfl rfl rfl rfl (by decide) (by decide)
  have a3 : hd2 = lone (setFl (bnew cfd) (firstFl 100 1)) 1 (firstC 1 [97#8]):=by
    unfold hd2
    rw [a1]
    exact a2.1
  have hr:=first_roles 100 (k:=1) (by decide)
  have hlen : (firstC 1 [97#8]).out.length = 33:=by
    show (enc (welcome 1 0 2) ++ enc (mfloor 0)).length = 33
    rw [List.length_append,floor_len,enc_len5]
    rfl
  have a4:=lone_floor (b:=setFl (bnew cfd) (firstFl 100 1)) (k:=1) (c:=firstC 1 [97#8]) (seq:=1) (by decide) (by decide) (by decide) (by decide) rfl rfl rfl rfl (by rw [hlen]; decide) hr.1 hr.2.1 rfl
  have a5:=a4.1
  rw [← a3] at a5
  exact a5
noncomputable def exB3 : Br:={ exB with inp:=[108#8,115#8],tot:=2 }
noncomputable def exB4 (t : Bs) : Br:={ exB3 with L:=t,sp:=Sp.nxts exB3.sp t }
noncomputable def exB6 (t : Bs) (code : Nat) : Br:={ exB4 t with ended:=true,code:=code,inp:=[] }
noncomputable def ex3 : Br:=bytesB hd3 1 (enc (keys 2 [108#8,115#8]))
noncomputable def ex4 (t : Bs) : Br:=outputB ex3 t
noncomputable def ex5 (t : Bs) : Br:=writeB (ex4 t) 1 5000
noncomputable def ex6 (t : Bs) (code : Nat) : Br:=endB (ex5 t) code
noncomputable def ex7 (t : Bs) (code : Nat) : Br:=drainB (ex6 t code) 9
noncomputable def ex8 (t : Bs) (code : Nat) : Br:=bytesB (ex7 t code) 1 (enc (keys 3 [120#8]))
noncomputable def ex9 (t : Bs) (code : Nat) : Br:=connectB (ex8 t code) 2
def watchM : M:=⟨1,4,1000,[98#8]⟩
theorem watch_ok : watchM.ok = true:=by decide
noncomputable def ex10 (t : Bs) (code : Nat) : Br:=bytesB (ex9 t code) 2 (enc watchM)
noncomputable def ex11 (t : Bs) (code : Nat) : Br:=writeB (ex10 t code) 1 5000
theorem ex3_is : ex3 = lone exB3 1 exC∧bytesE hd3 1 = 0:=by
  have h:=lone_cw (b:=exB) (k:=1) (c:=exC) (n:=44) (by decide) (by decide) ⟨rfl,rfl,rfl,rfl,Nat.le_of_eq exC_len⟩
  obtain ⟨e1,e2,_⟩:=h.typed rfl (lone_cs _ _ _) (seq:=2) (t:=[108#8,115#8]) (by decide) (by decide) (by decide) (by decide) (by decide) (by
    show (if false = true then 1 else if rhas exB.fl.roles 1 = false then 2 else if rrole exB.fl.roles 1 = 0 then 3 else if fhold exB.fl≠1 then 4 else if 256 < 0 + 2 then 5 else 0) = 0
    rw [exB_fl]
    decide)
  unfold ex3
  rw [ex2]
  refine ⟨e1.trans ?_,e2⟩
  show ({ setc (lone exB 1 exC) 1 (some { exC with idle:=0 }) with inp:=_,tot:=_ } : Br) = _
  rw [lone_setc]
  rfl
theorem ex4_is {t : Bs} (ht : t.length≤300) : ex4 t = lone (exB4 t) 1 (sv t exC)∧outputE ex3 = 0:=by
  have h:=lone_output (b:=exB3) (k:=1) (c:=exC) (t:=t) (by decide) (by decide) rfl rfl rfl rfl (by show t.length≤4096; omega) (by show t.length≤512; omega) (by omega) (by rw [exC_len]; show 44 + t.length + 211≤2048; omega)
  unfold ex4
  rw [ex3_is.1]
  exact ⟨h,rfl⟩
theorem sv_same (t : Bs) (c : Cn) (h : c.p = 0) : (sv t c).st = c.st∧(sv t c).fd = c.fd∧(sv t c).lx = c.lx∧(sv t c).p = t.length∧(sv t c).idle = c.idle∧(sv t c).out = c.out ++ (if t = [] then [] else enc (dataM 0 t)):=by
  unfold sv
  by_cases ht : t = []
  · subst ht
    rw [if_pos (show c.p = ([] : Bs).length from h),if_pos rfl,List.append_nil]
    exact ⟨rfl,rfl,rfl,h,rfl,rfl⟩
  · have hl : t.length≠0:=fun e=>ht (List.eq_nil_of_length_eq_zero e)
    rw [if_neg (by omega),if_neg ht,h]
    exact ⟨rfl,rfl,rfl,rfl,rfl,rfl⟩
theorem ex5_is {t : Bs} (ht : t.length≤300) : ex5 t = lone (exB4 t) 1 { sv t exC with out:=[] }∧writeE (ex4 t) 1 = 0:=by
  obtain ⟨s1,s2,s3,s4,s5,s6⟩:=sv_same t exC rfl
  have hl : (sv t exC).out.length≤400:=by
    rw [s6,List.length_append,exC_len]
    split
    · show 44 + 0≤400; decide
    · rw [data_len]; omega
  have h:=lone_write (b:=exB4 t) (k:=1) (c:=sv t exC) (n:=5000) (by decide) (by decide) (by omega) rfl s4 (by rw [s1]; show (1 : Nat)≠2; decide)
  unfold ex5
  rw [(ex4_is ht).1]
  exact ⟨h.2.2,h.2.1⟩
noncomputable def exC5 (t : Bs) : Cn:={ sv t exC with out:=[] }
theorem exC5_is (t : Bs) : (exC5 t).st = 1∧(exC5 t).fd = fd0∧(exC5 t).lx = lx0∧(exC5 t).p = t.length∧(exC5 t).idle = 0∧(exC5 t).out = []:=by
  obtain ⟨s1,s2,s3,s4,s5,s6⟩:=sv_same t exC rfl
  exact ⟨s1,s2,s3,s4,s5,rfl⟩
theorem end_big (b : Br) (he : b.ended = false) : endE b 256 = 1∧endB b 256 = b:=by
  have h : endE b 256 = 1:=by unfold endE; rw [he]; rfl
  refine ⟨h,?_⟩
  unfold endB
  rw [h]
  rfl
theorem ex6_is {t : Bs} (ht : t.length≤300) {code : Nat} (hc : code≤255) : ex6 t code = lone (exB6 t code) 1 (plus (mexit code) (exC5 t))∧endE (ex5 t) code = 0∧endE (ex5 t) 256 = 1∧endB (ex5 t) 256 = ex5 t:=by
  obtain ⟨s1,s2,s3,s4,s5,s6⟩:=exC5_is t
  have h5 : ex5 t = lone (exB4 t) 1 (exC5 t):=(ex5_is ht).1
  have he : (ex5 t).ended = false:=by rw [h5]; rfl
  have hE : endE (ex5 t) code = 0:=by
    unfold endE
    rw [he,if_neg (by decide),if_neg (by omega)]
  refine ⟨?_,hE,(end_big _ he).1,(end_big _ he).2⟩
  unfold ex6 endB
  rw [if_pos hE,h5,show ((code : Nat) : Int).toNat = code by omega]
  show settle (tell (mexit code) (lone (exB6 t code) 1 (exC5 t))) = _
  have hw : CW (lone (exB6 t code) 1 (exC5 t)) 0:=lone_cw (by decide) (by decide) ⟨s1,s2,s3,s4,by rw [s6]; exact Nat.zero_le _⟩
  rw [(hw.tell (m:=mexit code) (by rw [exit_len]; show 0 + 11≤2048; decide)).1,lone_mapc,if_pos s1]
  exact settle_rest (lone_rest rfl s4 (by show (exC5 t).st≠2; rw [s1]; decide))
theorem ex7_is {t : Bs} (ht : t.length≤300) {code : Nat} (hc : code≤255) : ex7 t code = lone (exB6 t code) 1 (plus (mexit code) (exC5 t))∧drainT (ex6 t code) 9 = []∧endE (ex6 t code) 0 = 3∧endB (ex6 t code) 0 = ex6 t code∧outputE (ex6 t code) = 3∧outputB (ex6 t code) t = ex6 t code:=by
  unfold ex7
  rw [(ex6_is ht hc).1]
  exact ⟨rfl,rfl,rfl,rfl,rfl,rfl⟩
noncomputable def exC8 (t : Bs) (code : Nat) : Cn:=plus (rejectM 3 1) { plus (mexit code) (exC5 t) with idle:=0 }
theorem exC8_is (t : Bs) (code : Nat) : (exC8 t code).st = 1∧(exC8 t code).fd = fd0∧(exC8 t code).lx = lx0∧(exC8 t code).p = t.length∧(exC8 t code).out = enc (mexit code) ++ enc (rejectM 3 1):=by
  obtain ⟨s1,s2,s3,s4,s5,s6⟩:=exC5_is t
  refine ⟨s1,s2,s3,s4,?_⟩
  show ((exC5 t).out ++ enc (mexit code)) ++ enc (rejectM 3 1) = _
  rw [s6]
  rfl
theorem ex8_is {t : Bs} (ht : t.length≤300) {code : Nat} (hc : code≤255) : ex8 t code = lone (exB6 t code) 1 (exC8 t code)∧bytesE (ex7 t code) 1 = 0:=by
  obtain ⟨s1,s2,s3,s4,s5,s6⟩:=exC5_is t
  unfold ex8
  rw [(ex7_is ht hc).1]
  have hw : CW (lone (exB6 t code) 1 (plus (mexit code) (exC5 t))) 11:=lone_cw (by decide) (by decide) ⟨s1,s2,s3,s4,by show ((exC5 t).out ++ enc (mexit code)).length≤11; rw [s6,List.nil_append,exit_len]; exact Nat.le_refl _⟩
  have hwy : whyB (lone (exB6 t code) 1 (plus (mexit code) (exC5 t))) 1 [120#8].length = 1:=rfl
  obtain ⟨e1,e2,_⟩:=hw.rejected rfl (lone_cs _ _ _) (seq:=3) (t:=[120#8]) (by decide) (by decide) (by decide) (by decide) (by decide) (by rw [hwy]; decide) (by show 11 + 17≤2048; decide)
  rw [hwy,lone_setc] at e1
  exact ⟨e1,e2⟩
noncomputable def exC10 (t : Bs) (code : Nat) : Cn:=sv t (plus (mexit code) (plus (mfloor 1) (plus (welcome 2 0 0) (opened cnew [98#8] 0))))
noncomputable def exC9 (t : Bs) (code : Nat) : Cn:=plus (joined 2 [98#8]) (exC8 t code)
noncomputable def exB10 (t : Bs) (code : Nat) : Br:=setFl (exB6 t code) (fjoin (exB6 t code).fl 2 0)
theorem exC10_is (t : Bs) (code : Nat) : (exC10 t code).st = 1∧(exC10 t code).p = t.length∧(exC10 t code).out = encs ([welcome 2 0 0,mfloor 1,mexit code] ++ if t = [] then [] else [dataM 0 t]):=by
  obtain ⟨s1,s2,s3,s4,s5,s6⟩:=sv_same t (plus (mexit code) (plus (mfloor 1) (plus (welcome 2 0 0) (opened cnew [98#8] 0)))) rfl
  refine ⟨s1,s4,?_⟩
  unfold exC10
  rw [s6]
  show ((([] ++ enc (welcome 2 0 0)) ++ enc (mfloor 1)) ++ enc (mexit code)) ++ (if t = [] then [] else enc (dataM 0 t)) = _
  unfold encs
  by_cases h : t = []
  · simp [h]
  · simp [h]
theorem two_cs {b : Br} {c d : Cn} {j : Nat} {x : Cn} (h : (setc (lone b 1 c) 2 (some d)).cs j = some x) : (j = 1∧x = c)∨(j = 2∧x = d):=by
  by_cases e : j = 2
  · subst e
    rw [setc_cs] at h
    injection h with h
    exact .inr ⟨rfl,h.symm⟩
  · rw [setc_ne _ 2 _ e] at h
    exact .inl (lone_one h)
theorem two_map (b : Br) (c d : Cn) (f : Cn→Cn) : mapc (setc (lone b 1 c) 2 (some d)) f = setc (lone b 1 (f c)) 2 (some (f d)):=by
  unfold mapc lone setc
  congr 1
  funext j
  by_cases e : j = 2
  · simp [e]
  · by_cases e1 : j = 1 <;> simp [e,e1]
end Go.Proofs.YtjmdddhbdofppaaGreatDoor.Bk
