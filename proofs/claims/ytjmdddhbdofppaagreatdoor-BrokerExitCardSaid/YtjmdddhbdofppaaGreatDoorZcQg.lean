/- The broker's mathematics: the program ends: who comes then. No program is named here. -/
import Derived.Test.YtjmdddhbdofppaaGreatDoorZcQe

namespace Go.Proofs.YtjmdddhbdofppaaGreatDoor.Bk
open Fr Lx
theorem plus_st (m : M) (c : Cn) : (plus m c).st = c.st:=rfl
theorem plus_p (m : M) (c : Cn) : (plus m c).p = c.p:=rfl
theorem exC9_is (t : Bs) (code : Nat) : (exC9 t code).st = 1∧(exC9 t code).p = t.length:=by
  obtain ⟨s1,s2,s3,s4,s5⟩:=exC8_is t code
  unfold exC9
  rw [plus_st,plus_p]
  exact ⟨s1,s4⟩
theorem svok_of {b : Br} {c : Cn} {t : Bs} {p : Nat} (hL : b.L = t) (hcf : b.cf = cfd) (hp : c.p = p) (hpl : p≤t.length) (ht : t.length≤300) (ho : c.out.length≤64) : SvOk b c:=by
  unfold SvOk
  rw [hL,hcf,hp]
  have e1 : cfd.log = 4096:=rfl
  have e2 : cfd.data = 512:=rfl
  have e3 : cfd.queue = 2048:=rfl
  rw [e1,e2,e3]
  omega
theorem ex10_is {t : Bs} (ht : t.length≤300) {code : Nat} (hc : code≤255) : connectE (ex8 t code) 2 = 0∧bytesE (ex9 t code) 2 = 0∧ex10 t code = setc (lone (exB10 t code) 1 (exC9 t code)) 2 (some (exC10 t code)):=by
  obtain ⟨s1,s2,s3,s4,s5⟩:=exC8_is t code
  have h8:=(ex8_is ht hc).1
  have h9:=connect_new (b:=lone (exB6 t code) 1 (exC8 t code)) (k:=2) (by decide) (by decide) (lone_no _ _ _ (by decide))
  have e9 : ex9 t code = setc (lone (exB6 t code) 1 (exC8 t code)) 2 (some cnew):=by unfold ex9; rw [h8]; exact h9.2
  refine ⟨by rw [h8]; exact h9.1,?_⟩
  unfold ex10
  rw [e9]
  have hlen8 : (exC8 t code).out.length = 28:=by rw [s5,List.length_append,exit_len,reject_len]
  obtain ⟨e1,e2⟩:=bytes_one (b:=setc (lone (exB6 t code) 1 (exC8 t code)) 2 (some cnew)) (k:=2) (c:=cnew) (m:=watchM) (by decide) (by decide) (setc_cs _ _ _) rfl (by decide) watch_ok
  refine ⟨e2,?_⟩
  refine e1.trans ?_
  rw [setc_two,show ({ cnew with idle:=0 } : Cn) = cnew from rfl]
  have hI : In16 (setc (lone (exB6 t code) 1 (exC8 t code)) 2 (some cnew)):=fun j hj=>by
    obtain ⟨x,hx⟩:=Option.isSome_iff_exists.1 hj
    rcases two_cs hx with ⟨rfl,_⟩ | ⟨rfl,_⟩ <;> decide
  rw [hello_fits hI (setc_cs _ _ _) rfl (by decide) watch_ok rfl (by decide) (show isName [98#8] = true by decide) (fun j c hj=>by
    show c.out.length + 60≤2048
    rcases two_cs hj with ⟨_,rfl⟩ | ⟨_,rfl⟩
    · omega
    · show 0 + 60≤2048; decide)]
  have hat : comeAt (setc (lone (exB6 t code) 1 (exC8 t code)) 2 (some cnew)) watchM = 0:=by
    show viewAt t 4096 1000 (decide ((4 : Int) % 4 = 2∨(4 : Int) % 4 = 3)) = 0
    unfold viewAt startOf
    rw [if_neg (by decide)]
    omega
  have hro : comeRole (setc (lone (exB6 t code) 1 (exC8 t code)) 2 (some cnew)) watchM = 0:=rfl
  have hcm : come (setc (lone (exB6 t code) 1 (exC8 t code)) 2 (some cnew)) 2 cnew watchM = plus (mexit code) (plus (mfloor 1) (plus (welcome 2 0 0) (opened cnew [98#8] 0))):=by
    unfold come
    rw [hat,hro]
    rfl
  rw [hcm,hro,two_map]
  have hh1 : hear (joined 2 watchM.t) (exC8 t code) = exC9 t code:=by unfold hear; rw [if_pos s1]; rfl
  rw [hh1,setc_two]
  obtain ⟨d,hd⟩ : ∃ d,plus (mexit code) (plus (mfloor 1) (plus (welcome 2 0 0) (opened cnew [98#8] 0))) = d:=⟨_,rfl⟩
  have hd1 : d.st = 1:=by rw [← hd]; rfl
  have hd2 : d.p = 0:=by rw [← hd]; rfl
  have hd3 : d.out.length≤50:=by
    have:=welcome_len 2 0 0
    rw [← hd]
    show ((([] ++ enc (welcome 2 0 0)) ++ enc (mfloor 1)) ++ enc (mexit code)).length≤50
    rw [List.length_append,List.length_append,List.nil_append,floor_len,exit_len]
    omega
  have hx : exC10 t code = sv t d:=by unfold exC10; rw [hd]
  rw [hd,hx]
  show settle (holder (setc (lone (exB10 t code) 1 (exC9 t code)) 2 (some d))) = _
  have hjl:=joined_len (k:=2) (t:=[98#8]) (by decide) (by decide)
  have hl9 : (exC9 t code).out.length≤64:=by
    show ((exC8 t code).out ++ enc (joined 2 [98#8])).length≤64
    rw [List.length_append]
    omega
  have hto : fhold (setc (lone (exB10 t code) 1 (exC9 t code)) 2 (some d)).fl = (setc (lone (exB10 t code) 1 (exC9 t code)) 2 (some d)).told:=by
    show fhold (fjoin (exB6 t code).fl 2 0) = 1
    show fhold (fjoin exB.fl 2 0) = 1
    rw [exB_fl]
    rfl
  rw [holder_same hto]
  obtain ⟨B,hB⟩ : ∃ B,exB10 t code = B:=⟨_,rfl⟩
  have hBL : B.L = t:=by rw [← hB]; rfl
  have hBc : B.cf = cfd:=by rw [← hB]; rfl
  rw [hB] at hto ⊢
  obtain ⟨c9,hc9⟩ : ∃ c9,exC9 t code = c9:=⟨_,rfl⟩
  have h91 : c9.st = 1:=by rw [← hc9]; exact (exC9_is t code).1
  have h92 : c9.p = t.length:=by rw [← hc9]; exact (exC9_is t code).2
  rw [hc9] at hto hl9 ⊢
  have hII : In16 (setc (lone B 1 c9) 2 (some d)):=fun j hj=>by
    obtain ⟨x,hx⟩:=Option.isSome_iff_exists.1 hj
    rcases two_cs hx with ⟨rfl,_⟩ | ⟨rfl,_⟩ <;> decide
  rw [settle_sv hII hto (fun j c hj=>by
    rcases two_cs hj with ⟨_,rfl⟩ | ⟨_,rfl⟩
    · exact ⟨h91,svok_of hBL hBc h92 (Nat.le_refl _) ht hl9⟩
    · exact ⟨hd1,svok_of hBL hBc hd2 (Nat.zero_le _) ht (by omega)⟩)]
  rw [two_map]
  show setc (lone B 1 (sv B.L c9)) 2 (some (sv B.L d)) = _
  rw [hBL]
  have hs9 : sv t c9 = c9:=by unfold sv; rw [if_pos h92]
  rw [hs9]
theorem ex11_is {t : Bs} (ht : t.length≤300) {code : Nat} (hc : code≤255) :
    writeT (ex10 t code) 1 5000 = encs [mexit code,rejectM 3 1,joined 2 [98#8]]∧writeE (ex10 t code) 1 = 0∧ex11 t code = setc (lone (exB10 t code) 1 { exC9 t code with out:=[] }) 2 (some (exC10 t code)) ∧
      writeT (ex11 t code) 2 5000 = encs ([welcome 2 0 0,mfloor 1,mexit code] ++ if t = [] then [] else [dataM 0 t])∧writeE (ex11 t code) 2 = 0:=by
  obtain ⟨s1,s2,s3,s4,s5⟩:=exC8_is t code
  obtain ⟨r1,r2,r3⟩:=exC10_is t code
  have h10:=(ex10_is ht hc).2.2
  have hc1 : (ex10 t code).cs 1 = some (exC9 t code):=by rw [h10,setc_ne _ 2 _ (by decide),lone_cs]
  have hjl:=joined_len (k:=2) (t:=[98#8]) (by decide) (by decide)
  have ho9 : (exC9 t code).out = encs [mexit code,rejectM 3 1,joined 2 [98#8]]:=by
    show (exC8 t code).out ++ enc (joined 2 [98#8]) = _
    rw [s5]
    unfold encs
    simp
  have hl9 : (exC9 t code).out.length≤64:=by
    show ((exC8 t code).out ++ enc (joined 2 [98#8])).length≤64
    rw [s5,List.length_append,List.length_append,exit_len,reject_len]
    omega
  obtain ⟨e1,e2,e3⟩:=write_all (b:=ex10 t code) (k:=1) (n:=5000) (by decide) (by decide) hc1 (by omega)
  have hto : fhold (exB10 t code).fl = (exB10 t code).told:=by
    show fhold (fjoin exB.fl 2 0) = 1
    rw [exB_fl]
    rfl
  have e11 : ex11 t code = setc (lone (exB10 t code) 1 { exC9 t code with out:=[] }) 2 (some (exC10 t code)):=by
    refine (show ex11 t code = _ from e3).trans ?_
    have hs : setc (ex10 t code) 1 (some { exC9 t code with out:=[] }) = setc (lone (exB10 t code) 1 { exC9 t code with out:=[] }) 2 (some (exC10 t code)):=by
      rw [h10]
      unfold lone setc
      congr 1
      funext j
      by_cases e : j = 2
      · simp [e]
      · by_cases e1 : j = 1 <;> simp [e,e1]
    rw [hs]
    refine settle_rest ⟨hto,fun j c hj _=>next_end ?_,fun j c hj h2=>?_⟩
    · rcases two_cs hj with ⟨_,rfl⟩ | ⟨_,rfl⟩
      · exact (exC9_is t code).2
      · exact r2
    · rcases two_cs hj with ⟨_,rfl⟩ | ⟨_,rfl⟩
      · have h3 : (exC9 t code).st = 2:=h2
        rw [(exC9_is t code).1] at h3
        cases h3
      · rw [r1] at h2
        cases h2
  have hc2 : (ex11 t code).cs 2 = some (exC10 t code):=by rw [e11,setc_cs]
  have hl10 : (exC10 t code).out.length≤5000:=by
    rw [r3]
    unfold encs
    have:=welcome_len 2 0 0
    by_cases h : t = []
    · simp [h,floor_len,exit_len]; omega
    · simp [h,floor_len,exit_len,data_len]; omega
  obtain ⟨g1,g2,_⟩:=write_all (b:=ex11 t code) (k:=2) (n:=5000) (by decide) (by decide) hc2 (by omega)
  exact ⟨e1.trans ho9,e2,e11,g1.trans r3,g2⟩
end Go.Proofs.YtjmdddhbdofppaaGreatDoor.Bk
