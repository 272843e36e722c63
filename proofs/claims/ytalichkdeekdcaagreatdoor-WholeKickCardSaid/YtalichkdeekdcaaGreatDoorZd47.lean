/- PTw PKk PTb PTx -/
import Derived.BigQuiet
import Derived.Test.YtalichkdeekdcaaGreatDoorZd10
import Derived.Test.YtalichkdeekdcaaGreatDoorZd32
import Derived.Test.YtalichkdeekdcaaGreatDoorZd44
import Derived.Test.YtalichkdeekdcaaGreatDoorZd46
section
namespace Go.Proofs.YtalichkdeekdcaaGreatDoor
open Go.RowKit
open Fr Bk
theorem enc_small {m:M} (hm:m.ok=true):(enc m).length≤2053:=by
 have:=ok_len hm
 rw [enc_fr,fr_len]
 omega
theorem rt_say {id:Int} (h0:0≤id) (h1:id≤255) {m:M} (hm:m.ok=true):Sc.rtE (sayE id m)=true:=by
 have:=enc_small hm
 unfold Sc.rtE Sc.inB Sc.ownB sayE Sc.hasI Sc.hasN Sc.hasD
 simp
 omega
theorem rt_con {id:Int} (h0:0≤id) (h1:id≤255):Sc.rtE (conE id)=true:=by
 unfold Sc.rtE Sc.inB Sc.ownB conE Sc.hasI Sc.hasN Sc.hasD
 simp
 omega
theorem rt_all {id:Int} (h0:0≤id) (h1:id≤255):Sc.rtE (allE id)=true:=by
 unfold Sc.rtE Sc.inB Sc.ownB allE Sc.hasI Sc.hasN Sc.hasD
 simp
 omega
def outE (t:Bs):Sc.Ev:=⟨3,0,0,t⟩
def draE (n:Int):Sc.Ev:=⟨4,0,n,[]⟩
theorem rt_out {t:Bs} (h:t.length≤4000):Sc.rtE (outE t)=true:=by
 unfold Sc.rtE Sc.inB Sc.ownB outE Sc.hasI Sc.hasN Sc.hasD
 simp
 omega
theorem rt_dra {n:Int} (h0:0≤n) (h1:n≤65536):Sc.rtE (draE n)=true:=by
 unfold Sc.rtE Sc.inB Sc.ownB draE Sc.hasI Sc.hasN Sc.hasD
 simp
 omega
section
variable {b:Br}
theorem p_say {id:Int} (h0:0≤id) (h1:id≤255) {m:M} (hm:m.ok=true):pEv b (sayE id m)=bytesB b id (enc m)∧pE b (sayE id m)=bytesE b id∧pT b (sayE id m)=[]:=by
 unfold pEv pE pT
 rw [rt_say h0 h1 hm]
 exact ⟨rfl,rfl,rfl⟩
theorem p_con {id:Int} (h0:0≤id) (h1:id≤255):pEv b (conE id)=connectB b id∧pE b (conE id)=connectE b id∧pT b (conE id)=[]:=by
 unfold pEv pE pT
 rw [rt_con h0 h1]
 exact ⟨rfl,rfl,rfl⟩
theorem p_all {id:Int} (h0:0≤id) (h1:id≤255):pEv b (allE id)=writeB b id 65536∧pE b (allE id)=writeE b id∧pT b (allE id)=writeT b id 65536:=by
 unfold pEv pE pT
 rw [rt_all h0 h1]
 exact ⟨rfl,rfl,rfl⟩
theorem p_out {t:Bs} (h:t.length≤4000):pEv b (outE t)=outputB b t∧pE b (outE t)=outputE b∧pT b (outE t)=[]:=by
 unfold pEv pE pT
 rw [rt_out h]
 exact ⟨rfl,rfl,rfl⟩
theorem p_dra {n:Int} (h0:0≤n) (h1:n≤65536):pEv b (draE n)=drainB b n∧pE b (draE n)=0∧pT b (draE n)=drainT b n:=by
 unfold pEv pE pT
 rw [rt_dra h0 h1]
 exact ⟨rfl,rfl,rfl⟩
end
def alive6:List Sc.Ev:=[cmdE 1 wFloor,outE [36#8,32#8],sayE 1 (keys 9 [108#8,115#8,10#8]),sayE 2 (keys 3 [120#8]),allE 2,draE 99]
def aliveL:List Sc.Ev:=comesL 1 true 0 ++ comesL 2 false 0 ++ alive6
theorem al_ok:(uM true 0).ok=true∧(uM false 0).ok=true∧(keys 1 (esc wFloor)).ok=true∧(keys 9 [108#8,115#8,10#8]).ok=true∧(keys 3 [120#8]).ok=true:=
 ⟨uM_ok true (by decide) (by decide),uM_ok false (by decide) (by decide),keys_ok (by decide) (by decide) (by decide),keys_ok (by decide) (by decide) (by decide),keys_ok (by decide) (by decide) (by decide)⟩
theorem alive_right:∀ x∈aliveL,Sc.rtE x=true:=by
 obtain ⟨h1,h2,h3,h4,h5⟩:=al_ok
 intro x hx
 unfold aliveL comesL alive6 cmdE at hx
 simp only [List.cons_append,List.nil_append,List.mem_cons,List.not_mem_nil,or_false] at hx
 rcases hx with rfl | rfl | rfl | rfl | rfl | rfl | rfl | rfl | rfl | rfl
 ·exact rt_con (by decide) (by decide)
 ·exact rt_say (by decide) (by decide) h1
 ·exact rt_con (by decide) (by decide)
 ·exact rt_say (by decide) (by decide) h2
 ·exact rt_say (by decide) (by decide) h3
 ·exact rt_out (by decide)
 ·exact rt_say (by decide) (by decide) h4
 ·exact rt_say (by decide) (by decide) h5
 ·exact rt_all (by decide) (by decide)
 ·exact rt_dra (by decide) (by decide)
theorem alive_run:pouts (bnew cfd) aliveL=[⟨0,[]⟩,⟨0,[]⟩,⟨0,[]⟩,⟨0,[]⟩,⟨0,[]⟩,⟨0,[]⟩,⟨0,[]⟩,⟨0,[]⟩,⟨0,encs avOut⟩,⟨0,[108#8,115#8,10#8]⟩]:=by
 obtain ⟨h1,h2,h3,h4,h5⟩:=al_ok
 obtain ⟨_,_,_,_,_,e1,e2⟩:=av_first
 obtain ⟨_,_,_,_,_,e3,e4,_⟩:=av_second false
 obtain ⟨e5,e6,e7,e8,e9,e10,e11⟩:=av_is
 have a0:=p_con (b:=bnew cfd) (id:=1) (by decide) (by decide)
 have a1:=p_say (b:=connectB (bnew cfd) 1) (id:=1) (by decide) (by decide) h1
 have a2:=p_con (b:=av1) (id:=2) (by decide) (by decide)
 have a3:=p_say (b:=connectB av1 2) (id:=2) (by decide) (by decide) h2
 have a4:=p_say (b:=av2 false) (id:=1) (by decide) (by decide) h3
 have a5:=p_out (b:=av3) (t:=[36#8,32#8]) (by decide)
 have a6:=p_say (b:=av4) (id:=1) (by decide) (by decide) h4
 have a7:=p_say (b:=av5) (id:=2) (by decide) (by decide) h5
 have a8:=p_all (b:=av6) (id:=2) (by decide) (by decide)
 have a9:=p_dra (b:=writeB av6 2 65536) (n:=99) (by decide) (by decide)
 rw [e1] at a0
 rw [e2] at a1
 rw [e3] at a2
 rw [e4] at a3
 rw [e5] at a4
 rw [e6] at a5
 rw [e7] at a6
 rw [e8] at a7
 rw [e9,e10] at a8
 rw [e11] at a9
 have d1:bytesB (connectB (bnew cfd) 1) 1 (enc (uM true 0))=av1:=rfl
 have d2:bytesB (connectB av1 2) 2 (enc (uM false 0))=av2 false:=rfl
 have d3:bytesB (av2 false) 1 (enc (keys 1 (esc wFloor)))=av3:=rfl
 have d4:outputB av3 [36#8,32#8]=av4:=rfl
 have d5:bytesB av4 1 (enc (keys 9 [108#8,115#8,10#8]))=av5:=rfl
 have d6:bytesB av5 2 (enc (keys 3 [120#8]))=av6:=rfl
 rw [d1] at a1
 rw [d2] at a3
 rw [d3] at a4
 rw [d4] at a5
 rw [d5] at a6
 rw [d6] at a7
 unfold aliveL comesL alive6 cmdE
 simp only [List.cons_append,List.nil_append,pouts]
 rw [a0.1,a0.2.1,a0.2.2,a1.1,a1.2.1,a1.2.2,a2.1,a2.2.1,a2.2.2,a3.1,a3.2.1,a3.2.2,a4.1,a4.2.1,a4.2.2,a5.1,a5.2.1,a5.2.2,a6.1,a6.2.1,a6.2.2,a7.1,a7.2.1,a7.2.2,a8.1,a8.2.1,a8.2.2,a9.2.1,a9.2.2]
end Go.Proofs.YtalichkdeekdcaaGreatDoor
end
section
namespace Go.Proofs.YtalichkdeekdcaaGreatDoor
open Go.RowKit
open Fr Bk
section
variable {b:Br} {n:Nat}
theorem CW.kick (h:CW b n) {u w:Nat} {c1 cw:Cn} (hc1:b.cs u=some c1) (huw:w≠u) (hcw:b.cs w=some cw) {seq:Int} {s:Bs} (h0:0≤seq) (hs1:seq≤1099511627776) (hs:∀ x∈s,x≠10#8) (hn:s.length≤80)
    (hd:doB (setc b u (some { c1 with idle:=0 })) u (parse s)=(Bk.shut (setc b u (some { c1 with idle:=0 })) w 5,true)) (hto:fhold (fleave b.fl w)≠b.told) (hq:n+34≤b.cf.queue) :
    bytesE b (u:Nat)=0∧∃ b',bytesB b (u:Nat) (enc (keys seq (esc s)))=b'∧Bk.Rest b'∧b'.fl=fleave b.fl w∧b'.cf=b.cf∧b'.cs w=some { cw with st:=2,out:=cw.out ++ enc (closed 5) }∧(∀ j d,j≠w→b'.cs j=some d→d.st=1)∧∀ j,(b'.cs j).isSome=(b.cs j).isSome:=by
  obtain ⟨h1,h2⟩:=h.in16 u (by rw [hc1]; rfl)
  obtain ⟨w1,w2⟩:=h.in16 w (by rw [hcw]; rfl)
  obtain ⟨p1,p2,p3,p4,p5⟩:=h.cn u c1 hc1
  obtain ⟨q1,q2,q3,q4,q5⟩:=h.cn w cw hcw
  have hok:=keys_ok (seq:=seq) (t:=esc s) h0 hs1 (by unfold esc; simp; omega)
  obtain ⟨e1,e2⟩:=bytes_one (c:=c1) (m:=keys seq (esc s)) h1 h2 hc1 p2 (by omega) hok
  have hb1:CW (setc b u (some { c1 with idle:=0 })) n:=h.set h1 h2 ⟨p1,p2,p3,p4,p5⟩
  obtain ⟨b1,hbe⟩:∃ b1,setc b u (some { c1 with idle:=0 })=b1:=⟨_,rfl⟩
  have hcw1:b1.cs w=some cw:=by rw [← hbe,setc_ne _ _ _ huw,hcw]
  have hcf1:b1.cf=b.cf:=by rw [← hbe]; rfl
  have hfl1:b1.fl=b.fl:=by rw [← hbe]; rfl
  have hto1:b1.told=b.told:=by rw [← hbe]; rfl
  have hL1:b1.L=b.L:=by rw [← hbe]; rfl
  have his1:∀ j,(b1.cs j).isSome=(b.cs j).isSome:=fun j=>by
    rw [← hbe]
    by_cases e:j=u
    · rw [e,setc_cs,hc1]; rfl
    · rw [setc_ne _ _ _ e]
  rw [hbe] at hb1 hd
  have hll:=left_len w2
  obtain ⟨cz,hcz⟩:∃ cz:Cn,({ cw with st:=2,out:=cw.out ++ enc (closed 5) }:Cn)=cz:=⟨_,rfl⟩
  have hsh:Bk.shut b1 w 5=Bk.mapc (setFl (setc b1 w (some cz)) (fleave b1.fl w)) (hear (left w)):=by
    show leaveW (tellN 16) (Bk.send (closed 5) b1 w) w=_
    rw [send_fits hcw1 (by omega) (by rw [closed_len,hcf1]; omega)]
    unfold leaveW
    rw [setc_cs]
    show (if cw.st=1 then tellN 16 (left w) (setFl (setc (setc b1 w (some (plus (closed 5) cw))) w (some { plus (closed 5) cw with st:=2 })) (fleave b1.fl w)) else _)=_
    rw [if_pos q1,setc_two,show ({ plus (closed 5) cw with st:=2 }:Cn)=cz from hcz]
    refine goes_mapc (sendN 15 (left w)) (plus (left w)) (setFl (setc b1 w (some cz)) (fleave b1.fl w)) (fun j hj=>?_) fun cs' j d _ _ hd hst hd'=>?_
    · by_cases e:j=w
      · omega
      · replace hj:((setc b1 w (some cz)).cs j).isSome=true:=hj
        rw [setc_ne b1 w _ e] at hj; exact hb1.in16 j hj
    · refine sendN_fits hd' (by omega) ?_
      replace hd:(setc b1 w (some cz)).cs j=some d:=hd
      show d.out.length+_≤b1.cf.queue
      by_cases e:j=w
      · subst e
        rw [setc_cs] at hd
        injection hd with hd
        subst hd
        rw [← hcz] at hst
        exact absurd hst (by show ¬ (2:Nat)=1; decide)
      · rw [setc_ne b1 w _ e] at hd
        have:=(hb1.cn j d hd).2.2.2.2
        rw [hcf1]
        omega
  obtain ⟨b2,hb2⟩:∃ b2,Bk.mapc (setFl (setc b1 w (some cz)) (fleave b1.fl w)) (hear (left w))=b2:=⟨_,rfl⟩
  have z2:b2.cs w=some cz:=by
    rw [← hb2]
    show ((setc b1 w (some cz)).cs w).map (hear (left w))=some cz
    rw [setc_cs]
    show some (hear (left w) cz)=some cz
    unfold hear
    rw [if_neg (by rw [← hcz]; show ¬ (2:Nat)=1; decide)]
  have o2:∀ j d,j≠w→b2.cs j=some d→d.st=1∧d.p=b.L.length∧d.out.length≤n+12:=fun j d hj hd=>by
    rw [← hb2] at hd
    replace hd:((setc b1 w (some cz)).cs j).map (hear (left w))=some d:=hd
    rw [setc_ne _ _ _ hj] at hd
    obtain ⟨d0,hd0,rfl⟩:=Option.map_eq_some_iff.1 hd
    obtain ⟨f1,f2,f3,f4,f5⟩:=hb1.cn j d0 hd0
    unfold hear
    rw [if_pos f1]
    exact ⟨f1,f4.trans (by rw [hL1]),by show (d0.out ++ enc (left w)).length≤_; rw [List.length_append]; omega⟩
  have i2:∀ j,(b2.cs j).isSome=(b.cs j).isSome:=fun j=>by
    rw [← hb2]
    show (((setc b1 w (some cz)).cs j).map _).isSome=_
    rw [Option.isSome_map]
    by_cases e:j=w
    · rw [e,setc_cs,hcw]; rfl
    · rw [setc_ne _ _ _ e]; exact his1 j
  have f2:b2.fl=fleave b.fl w:=by rw [← hb2]; show fleave b1.fl w=_; rw [hfl1]
  have t2:b2.told=b.told:=by rw [← hb2]; exact hto1
  have c2:b2.cf=b.cf:=by rw [← hb2]; exact hcf1
  have l2:b2.L=b.L:=by rw [← hb2]; exact hL1
  have in2:In16 b2:=fun j hj=>h.in16 j (by rw [← i2]; exact hj)
  obtain ⟨b3,hb3⟩:∃ b3,Bk.mapc (toldB b2) (hear (mfloor (fhold b2.fl)))=b3:=⟨_,rfl⟩
  have htl:Bk.tell (mfloor (fhold b2.fl)) (toldB b2)=b3:=by
    rw [← hb3]
    refine hear_tell in2 fun j d hx hst=>?_
    replace hx:b2.cs j=some d:=hx
    by_cases e:j=w
    · rw [e,z2] at hx
      injection hx with hx
      rw [← hx,← hcz] at hst
      exact absurd hst (by show ¬ (2:Nat)=1; decide)
    · have:=(o2 j d e hx).2.2
      rw [floor_len]
      show _≤b2.cf.queue
      rw [c2]
      omega
  have z3:b3.cs w=some cz:=by
    rw [← hb3]
    show (b2.cs w).map (hear (mfloor (fhold b2.fl)))=some cz
    rw [z2]
    show some (hear _ cz)=some cz
    unfold hear
    rw [if_neg (by rw [← hcz]; show ¬ (2:Nat)=1; decide)]
  have o3:∀ j d,j≠w→b3.cs j=some d→d.st=1∧d.p=b.L.length:=fun j d hj hd=>by
    rw [← hb3] at hd
    replace hd:(b2.cs j).map (hear (mfloor (fhold b2.fl)))=some d:=hd
    obtain ⟨d0,hd0,rfl⟩:=Option.map_eq_some_iff.1 hd
    obtain ⟨f1,f4,_⟩:=o2 j d0 hj hd0
    unfold hear
    rw [if_pos f1]
    exact ⟨f1,f4⟩
  have f3:b3.fl=fleave b.fl w:=by rw [← hb3]; exact f2
  have t3:fhold b3.fl=b3.told:=by rw [← hb3]; rfl
  have l3:b3.L=b.L:=by rw [← hb3]; exact l2
  have hr3:Bk.Rest b3:=⟨t3,fun j d hx h9=>by
    by_cases e:j=w
    · rw [e,z3] at hx
      injection hx with hx
      rw [← hx,← hcz] at h9
      exact absurd h9 (by show ¬ (2:Nat)=1; decide)
    · exact next_end ((o3 j d e hx).2.trans (by rw [l3])),fun j d hx h9=>by
    by_cases e:j=w
    · rw [e,z3] at hx
      injection hx with hx
      rw [← hx,← hcz]
      intro hy
      have hy:cw.out ++ enc (closed 5)=[]:=hy
      exact enc_ne _ (List.append_eq_nil_iff.1 hy).2
    · have:=(o3 j d e hx).1; omega⟩
  have hcm:takeB b1 u (some (keys seq (esc s)))=b3:=by
    have hcu:b1.cs u=some { c1 with idle:=0 }:=by rw [← hbe,setc_cs]
    rw [keys_cmd (c:={ c1 with idle:=0 }) hcu p1 p3 hs hn]
    unfold cmd1
    rw [hd]
    show Bk.holder (Bk.shut b1 w 5)=_
    rw [hsh,hb2,holder_step (by rw [f2,t2]; exact hto),htl,holder_same t3]
  refine ⟨e2,b3,?_,hr3,f3,by rw [← hb3]; exact c2,by rw [z3,hcz],fun j d hj hd=>(o3 j d hj hd).1,fun j=>?_⟩
  · rw [e1,hbe,hcm,holder_same t3,settle_rest hr3]
  · rw [← hb3]
    show ((b2.cs j).map _).isSome=_
    rw [Option.isSome_map]
    exact i2 j
set_option maxHeartbeats 2000000 in
theorem kick_write {b:Br} {w:Nat} {cz:Cn} (h:Bk.Rest b) (hI:In16 b) (hcw:b.cs w=some cz) (hst:cz.st=2) (ho:∀ j d,j≠w→b.cs j=some d→d.st=1) (hl:cz.out.length≤65536) :
  writeE b (w:Nat)=0∧writeT b (w:Nat) 65536=cz.out∧(writeB b (w:Nat) 65536).fl=b.fl∧∀ j,((writeB b (w:Nat) 65536).cs j).isSome=(!decide (j=w) && (b.cs j).isSome):=by
 obtain ⟨w1,w2⟩:=hI w (by rw [hcw]; rfl)
 obtain ⟨e1,e2,e3⟩:=write_all (n:=65536) w1 w2 hcw (by omega)
 refine ⟨e2,e1,?_,?_⟩
 all_goals
  rw [e3]
  have hso:goes Bk.serve (setc b w (some { cz with out:=[] })) ids=setc b w (some { cz with out:=[] }):=served_rest fun j d hd h9=>by
   by_cases e:j=w
   ·subst e
    rw [setc_cs] at hd
    injection hd with hd
    subst hd
    exact absurd h9 (by show ¬ cz.st=1; omega)
   ·rw [setc_ne _ _ _ e] at hd
    exact h.seen j d hd h9
  have hse:Bk.settle (setc b w (some { cz with out:=[] }))=Bk.reap (setc b w (some { cz with out:=[] })):=by
   unfold Bk.settle
   rw [holder_same (show fhold (setc b w (some { cz with out:=[] })).fl=_ from h.told),hso,holder_same (show fhold (setc b w (some { cz with out:=[] })).fl=_ from h.told)]
  rw [hse]
 ·rfl
 ·intro j
  show (if 1≤j∧j≤16∧done (setc b w (some { cz with out:=[] })) j=true then none else (setc b w (some { cz with out:=[] })).cs j).isSome=_
  by_cases e:j=w
  ·subst e
   have hdn:done (setc b j (some { cz with out:=[] })) j=true:=by
    unfold done
    rw [setc_cs]
    simp [hst]
   rw [if_pos ⟨w1,w2,hdn⟩]
   simp
  ·have hdn:done (setc b w (some { cz with out:=[] })) j=false:=by
    unfold done
    rw [setc_ne _ _ _ e]
    rcases hd:b.cs j with _ | d
    ·rfl
    ·have:=ho j d e hd
     simp; omega
   rw [if_neg (by rw [hdn]; simp),setc_ne _ _ _ e]
   simp [e]
end
def rolesK (m:Nat):List (Int×Int):=(List.range m).map fun j=>(((j+1:Nat):Int),if j=0 then 2 else 1)
def flK (m:Nat):Fl:=⟨100,0,rolesK m,[]⟩
noncomputable def comeB (b:Br) (i:Nat):Br:=bytesB (connectB b (i:Nat)) (i:Nat) (enc (uM true 0))
structure KickAt (b:Br) (m:Nat):Prop where
 cw:CW b (m * 107)
 fl:b.fl=flK m
 told:b.told=0
 sm:Sm b (bnew cfd)
 is:∀ j,(b.cs j).isSome=decide (1≤j∧j≤m)
theorem kick_begin:KickAt (bnew cfd) 0:=⟨roles_begin.cw,rfl,rfl,Sm.refl _,fun j=>by
 show (none:Option Cn).isSome=_
 have:¬ (1≤j∧j≤0):=by omega
 rw [decide_eq_false this]
 rfl⟩
theorem roleK (m:Nat) (hm:m<9):firstRole (flK m) true=(if m=0 then 2 else 1)∧fjoin (flK m) ((m+1:Nat):Int) (if m=0 then 2 else 1)=flK (m+1):=by
 rcases (by omega:m=0∨m=1∨m=2∨m=3∨m=4∨m=5∨m=6∨m=7∨m=8) with rfl | rfl | rfl | rfl | rfl | rfl | rfl | rfl | rfl <;> exact ⟨rfl,rfl⟩
theorem KickAt.next {b:Br} {m:Nat} (h:KickAt b m) (hm:m<9):connectE b ((m+1:Nat):Int)=0∧bytesE (connectB b ((m+1:Nat):Int)) ((m+1:Nat):Int)=0∧KickAt (comeB b (m+1)) (m+1):=by
 obtain ⟨h1,h2,h3,h4,h5⟩:=h
 have hL:b.L=[]:=h4.L
 have hno:b.cs (m+1)=none:=by
  rcases e:b.cs (m+1) with _ | c
  ·rfl
  ·have:=h5 (m+1)
   have h9:¬ (1≤m+1∧m+1≤m):=by omega
   rw [e,decide_eq_false h9] at this
   cases this
 have hat:comeAt b (uM true 0)=b.L.length:=by
  have:comeAt b (uM true 0)≤b.L.length:=viewAt_le _ _ _ _
  rw [hL] at this ⊢
  exact Nat.le_zero.1 this
 obtain ⟨r1,r2⟩:=roleK m hm
 have hro:comeRole b (uM true 0)=if m=0 then 2 else 1:=by
  unfold comeRole
  rw [h2]
  exact r1
 obtain ⟨e1,e2,e3,e4,e5,e6,e7⟩:=h1.come (k:=m+1) (by omega) (by omega) hno al_ok.1 rfl (by decide) (show isName [117#8]=true by decide) hat (by rw [h4.cf]; show m * 107+60+47≤2048; omega)
 rw [hro,h2,r2] at e4 e5
 refine ⟨e1,e2,e3.mono (by omega),e4,e5.trans rfl,e6.trans h4,fun j=>?_⟩
 show ((bytesB (connectB b ((m+1:Nat):Int)) ((m+1:Nat):Int) (enc (uM true 0))).cs j).isSome=_
 rw [e7,h5]
 by_cases e:j=m+1
 ·subst e; simp
 ·have:(1≤j∧j≤m+1)↔(1≤j∧j≤m):=by omega
  simp [e,this]
def flH (m w:Nat):Fl:=⟨100,100,rolesK m,[((w:Nat):Int)]⟩
theorem kick_fl (m w:Nat) (hm:m≤9) (h2:2≤w) (hw:w≤m):askE (flK m) ((w:Nat):Int)=0∧fask (flK m) ((w:Nat):Int)=flH m w∧fhold (fleave (flH m w) ((w:Nat):Int))=0∧rhas (fleave (flH m w) ((w:Nat):Int)).roles ((w:Nat):Int)=false∧(fleave (flH m w) ((w:Nat):Int)).roles.length=m - 1∧rrole (flH m w).roles ((1:Nat):Int)=2:=by
 have hf:∀ m,m≤9→∀ w,w≤m→2≤w→askE (flK m) ((w:Nat):Int)=0∧(fask (flK m) ((w:Nat):Int)).line=[((w:Nat):Int)]∧fhold (fleave (flH m w) ((w:Nat):Int))=0∧rhas (fleave (flH m w) ((w:Nat):Int)).roles ((w:Nat):Int)=false∧(fleave (flH m w) ((w:Nat):Int)).roles.length=m - 1∧rrole (flH m w).roles ((1:Nat):Int)=2:=by
  intro m hm
  rcases (by omega:m=0∨m=1∨m=2∨m=3∨m=4∨m=5∨m=6∨m=7∨m=8∨m=9) with rfl | rfl | rfl | rfl | rfl | rfl | rfl | rfl | rfl | rfl <;> decide
 obtain ⟨g1,g2,g3,g4,g5,g6⟩:=hf m hm w hw h2
 refine ⟨g1,?_,g3,g4,g5,g6⟩
 unfold fask
 rw [if_pos g1]
 rfl
def kickS (w:Nat):Bs:=Orm.tx 7 (w:Nat)
theorem kickS_is (w:Nat) (hw:w≤9):kickS w=[107#8,105#8,99#8,107#8,32#8,BitVec.ofNat 8 (48+w)]:=by
 unfold kickS Orm.tx
 rw [if_neg (by decide),show ((w:Nat):Int).toNat=w by omega,Dgs.dgs_small (by omega)]
 rfl
theorem kick_parse (w:Nat) (hw:w≤9):parse (kickS w)=some (7,((w:Nat):Int)):=parse_is ⟨by decide,by decide,by omega,by omega,fun h=>absurd h (by decide)⟩ rfl
noncomputable def kb1 (b:Br) (w:Nat):Br:=bytesB b (w:Nat) (enc (keys 1 (esc wFloor)))
noncomputable def kb2 (b:Br) (w:Nat):Br:=writeB (kb1 b w) (w:Nat) 65536
noncomputable def kb3 (b:Br) (w:Nat):Br:=bytesB (kb2 b w) 1 (enc (keys 1 (esc (kickS w))))
noncomputable def kb4 (b:Br) (w:Nat):Br:=writeB (kb3 b w) (w:Nat) 65536
theorem kick_is {b:Br} {m w:Nat} (h:KickAt b m) (hm:m≤9) (h2:2≤w) (hw:w≤m) :
  bytesE b (w:Nat)=0∧writeE (kb1 b w) (w:Nat)=0∧bytesE (kb2 b w) 1=0∧writeE (kb3 b w) (w:Nat)=0∧writeT (kb3 b w) (w:Nat) 65536=enc (closed 5)∧fhold (kb4 b w).fl=0∧rhas (kb4 b w).fl.roles (w:Nat)=false∧(kb4 b w).fl.roles.length=m - 1∧(connsB (kb4 b w)).length=m - 1:=by
 obtain ⟨f1,f2,f3,f4,f5,f6⟩:=kick_fl m w hm h2 hw
 obtain ⟨a1,a2,a3,a4,a5⟩:=h
 obtain ⟨cw,hcw⟩:=Option.isSome_iff_exists.1 (show (b.cs w).isSome=true by rw [a5]; simp; omega)
 have hcf:b.cf=cfd:=a4.cf
 obtain ⟨d1,d2,d3,d4,d5,d6⟩:=a1.cmd hcw (seq:=1) (s:=wFloor) (by decide) (by decide) (by decide) (by decide) (fun b' hb=>fask_floor (show askE b.fl w=0 by rw [a2]; exact f1) b' hb) (by rw [hcf]; show m * 107+22≤2048; omega)
 rw [a2,f2] at d3 d4
 have d2:CW (kb1 b w) (m * 107+22):=d2
 have d3:(kb1 b w).fl=flH m w:=d3
 have d4:(kb1 b w).told=(w:Nat):=d4.trans rfl
 have d5:Sm (kb1 b w) (bnew cfd):=Sm.trans d5 a4
 have d6:∀ j,((kb1 b w).cs j).isSome=decide (1≤j∧j≤m):=fun j=>(d6 j).trans (a5 j)
 obtain ⟨cw1,hcw1⟩:=Option.isSome_iff_exists.1 (show ((kb1 b w).cs w).isSome=true by rw [d6]; simp; omega)
 have t1:fhold (kb1 b w).fl=(kb1 b w).told:=by rw [d3,d4]; rfl
 obtain ⟨g1,g2,g3,g4⟩:=d2.flush t1 hcw1 (w:=65536) (by have:=(d2.cn w cw1 hcw1).2.2.2.2; omega)
 have e2:kb2 b w=setc (kb1 b w) w (some { cw1 with out:=[] }):=g3
 rw [← e2] at g4
 have l2:(kb2 b w).fl=flH m w:=by rw [e2]; exact d3
 have t2:(kb2 b w).told=(w:Nat):=by rw [e2]; exact d4
 have q2:(kb2 b w).cf=cfd:=by rw [e2]; exact d5.cf
 have hcw2:(kb2 b w).cs w=some { cw1 with out:=[] }:=by rw [e2,setc_cs]
 have i2:∀ j,((kb2 b w).cs j).isSome=decide (1≤j∧j≤m):=fun j=>by
  rw [e2]
  by_cases e:j=w
  ·rw [e,setc_cs]
   simp
   omega
  ·rw [setc_ne _ _ _ e]; exact d6 j
 obtain ⟨c1,hc1⟩:=Option.isSome_iff_exists.1 (show ((kb2 b w).cs 1).isSome=true by rw [i2]; simp; omega)
 have s2:=g4.cn w _ hcw2
 have hs10:∀ x∈kickS w,x≠10#8:=tx_no10 _ _
 have hsl:(kickS w).length≤80:=by rw [kickS_is w (by omega)]; show 6≤80; decide
 have hd:doB (setc (kb2 b w) 1 (some { c1 with idle:=0 })) 1 (parse (kickS w))=(Bk.shut (setc (kb2 b w) 1 (some { c1 with idle:=0 })) w 5,true):=by
  rw [kick_parse w (by omega)]
  unfold doB
  show (if isOwners 7=true∧rrole (kb2 b w).fl.roles ((1:Nat):Int)≠2 then _ else _)=_
  rw [l2,f6,if_neg (by simp)]
  have hop:opn (setc (kb2 b w) 1 (some { c1 with idle:=0 })) w=true:=by
   unfold opn
   rw [setc_ne _ _ _ (by omega),hcw2]
   simpa using s2.1
  have hu:userB (setc (kb2 b w) 1 (some { c1 with idle:=0 })) ((w:Nat):Int)=some w:=by
   unfold userB
   rw [if_pos ⟨by omega,by omega,by rw [show ((w:Nat):Int).toNat=w by omega]; exact hop⟩]
   rw [show ((w:Nat):Int).toNat=w by omega]
  show (match userB (setc (kb2 b w) 1 (some { c1 with idle:=0 })) ((w:Nat):Int) with | none=>_ | some j=>_)=_
  rw [hu]
  rfl
 obtain ⟨k1,b',k2,k3,k4,k5,k6,k7,k8⟩:=CW.kick g4 (u:=1) hc1 (by omega) hcw2 (seq:=1) (s:=kickS w) (by decide) (by decide) hs10 hsl hd (by rw [l2,f3,t2]; omega) (by rw [q2]; show m * 107+22+34≤2048; omega)
 have k2:kb3 b w=b':=k2
 have hI:In16 b':=fun j hj=>by
  rw [k8,i2] at hj
  simp at hj
  omega
 obtain ⟨w1,w2,w3,w4⟩:=kick_write k3 hI k6 rfl k7 (by show (([]:Bs) ++ enc (closed 5)).length≤_; rw [List.nil_append,closed_len]; decide)
 refine ⟨d1,g2,k1,by rw [k2]; exact w1,by rw [k2,w2]; exact List.nil_append _,?_,?_,?_,?_⟩
 ·show fhold (writeB (kb3 b w) (w:Nat) 65536).fl=0
  rw [k2,w3,k4,l2]
  exact f3
 ·show rhas (writeB (kb3 b w) (w:Nat) 65536).fl.roles _=false
  rw [k2,w3,k4,l2]
  exact f4
 ·show (writeB (kb3 b w) (w:Nat) 65536).fl.roles.length=_
  rw [k2,w3,k4,l2]
  exact f5
 ·show (connsB (writeB (kb3 b w) (w:Nat) 65536)).length=_
  rw [k2]
  have his:isSome (writeB b' (w:Nat) 65536)=fun j=>!decide (j=w) && decide (1≤j∧j≤m):=by
   funext j
   unfold isSome
   rw [w4,k8,i2]
  unfold connsB connsTo
  rw [his,List.length_map]
  have hc:∀ m,m≤9→∀ w,w≤m→2≤w→((ids.take 16).filter fun j=>!decide (j=w) && decide (1≤j∧j≤m)).length=m - 1:=by
   intro m hm
   rcases (by omega:m=0∨m=1∨m=2∨m=3∨m=4∨m=5∨m=6∨m=7∨m=8∨m=9) with rfl | rfl | rfl | rfl | rfl | rfl | rfl | rfl | rfl | rfl <;> decide
  exact hc m hm w hw h2
def kickL:Nat→List Sc.Ev
 | 0=>[]
 | m+1=>kickL m ++ comesL ((m+1:Nat):Int) true 0
def kick4 (w:Nat):List Sc.Ev:=[cmdE (w:Nat) wFloor,allE (w:Nat),cmdE 1 (kickS w),allE (w:Nat)]
theorem kickL_len:∀ m,(kickL m).length=2 * m
  | 0=>rfl
  | m+1=>by
    show (kickL m ++ comesL ((m+1:Nat):Int) true 0).length=_
    rw [List.length_append,kickL_len m]
    show 2 * m+2=_
    omega
theorem kickL_right:∀ m,m≤9→∀ x∈kickL m,Sc.rtE x=true
  | 0,_,x,h=>by cases h
  | m+1,hm,x,h=>by
    rcases List.mem_append.1 h with h | h
    · exact kickL_right m (by omega) x h
    · unfold comesL at h
      simp only [List.mem_cons,List.not_mem_nil,or_false] at h
      rcases h with rfl | rfl
      · exact rt_con (by omega) (by omega)
      · exact rt_say (by omega) (by omega) al_ok.1
theorem kickS_ok {w:Nat} (hw:w≤9):(keys 1 (esc (kickS w))).ok=true:=keys_ok (by decide) (by decide) (by rw [kickS_is w hw]; show 9≤2042; decide)
theorem kick4_right {w:Nat} (hw:w≤9):∀ x∈kick4 w,Sc.rtE x=true:=by
 intro x hx
 unfold kick4 cmdE at hx
 simp only [List.mem_cons,List.not_mem_nil,or_false] at hx
 rcases hx with rfl | rfl | rfl | rfl
 ·exact rt_say (by omega) (by omega) al_ok.2.2.1
 ·exact rt_all (by omega) (by omega)
 ·exact rt_say (by decide) (by decide) (kickS_ok hw)
 ·exact rt_all (by omega) (by omega)
theorem kick_at:∀ m,m≤9→KickAt (prun (bnew cfd) (kickL m)) m
  | 0,_=>kick_begin
  | m+1,hm=>by
    have ih:=kick_at m (by omega)
    obtain ⟨h1,h2,h3⟩:=ih.next (by omega)
    have e:prun (bnew cfd) (kickL (m+1))=comeB (prun (bnew cfd) (kickL m)) (m+1):=by
      show prun (bnew cfd) (kickL m ++ comesL ((m+1:Nat):Int) true 0)=_
      rw [prun_app]
      show pEv (pEv (prun (bnew cfd) (kickL m)) (conE ((m+1:Nat):Int))) (sayE ((m+1:Nat):Int) (uM true 0))=_
      rw [(p_con (by omega) (by omega)).1,(p_say (by omega) (by omega) al_ok.1).1]
      rfl
    rw [e]
    exact h3
theorem kick_run {m w:Nat} (hm:m≤9) (h2:2≤w) (hw:w≤m):prun (bnew cfd) (kickL m ++ kick4 w)=kb4 (prun (bnew cfd) (kickL m)) w∧(pouts (bnew cfd) (kickL m ++ kick4 w))[2 * m+3]?=some ⟨0,enc (closed 5)⟩:=by
 obtain ⟨e1,e2,e3,e4,e5,_⟩:=kick_is (kick_at m hm) hm h2 hw
 obtain ⟨b,hb⟩:∃ b,prun (bnew cfd) (kickL m)=b:=⟨_,rfl⟩
 rw [hb] at e1 e2 e3 e4 e5
 have a1:=p_say (b:=b) (id:=(w:Nat)) (by omega) (by omega) al_ok.2.2.1
 have a2:=p_all (b:=kb1 b w) (id:=(w:Nat)) (by omega) (by omega)
 have a3:=p_say (b:=kb2 b w) (id:=1) (by decide) (by decide) (kickS_ok (w:=w) (by omega))
 have a4:=p_all (b:=kb3 b w) (id:=(w:Nat)) (by omega) (by omega)
 have d1:bytesB b (w:Nat) (enc (keys 1 (esc wFloor)))=kb1 b w:=rfl
 have d2:writeB (kb1 b w) (w:Nat) 65536=kb2 b w:=rfl
 have d3:bytesB (kb2 b w) 1 (enc (keys 1 (esc (kickS w))))=kb3 b w:=rfl
 have d4:writeB (kb3 b w) (w:Nat) 65536=kb4 b w:=rfl
 rw [d1] at a1
 rw [d2] at a2
 rw [d3] at a3
 rw [d4,e4,e5] at a4
 refine ⟨?_,?_⟩
 ·rw [prun_app,hb]
  unfold kick4 cmdE
  simp only [prun]
  rw [a1.1,a2.1,a3.1,a4.1]
 ·rw [pouts_app,hb,List.getElem?_append_right (by rw [pouts_len,kickL_len]; omega),pouts_len,kickL_len,show 2 * m+3 - 2 * m=3 by omega]
  unfold kick4 cmdE
  simp only [pouts]
  rw [a1.1,a2.1,a3.1]
  show some (⟨pE (kb3 b w) (allE (w:Nat)),pT (kb3 b w) (allE (w:Nat))⟩:Ot)=_
  rw [a4.2.1,a4.2.2]
end Go.Proofs.YtalichkdeekdcaaGreatDoor
end
section
namespace Go.Proofs.YtalichkdeekdcaaGreatDoor
open Go.RowKit
section
open Sc
theorem cbs_len (a b c d e f g h:Int):(cbs a b c d e f g h).length=24:=by simp [cbs,cfb,three_len]
theorem cof_three (a:Nat) (ha:a<16777216) (p r:Bs) (i:Nat) (hp:p.length=3 * i):cof (p ++ (three a ++ r)) i=a:=by
 unfold cof
 rw [← hp,List.drop_left' rfl,List.take_left' (three_len a),nat_three a ha]
theorem cof_cbs {a b c d e f g h:Int} (k:rt a b c d e f g h=true) (r:Bs):cf8 (cof (cbs a b c d e f g h ++ r))=cv a b c d e f g h∧rtc (cbs a b c d e f g h ++ r)=true:=by
 obtain ⟨⟨a0,a1⟩,⟨b0,b1⟩,⟨c0,c1⟩,⟨d0,d1⟩,⟨e0,e1⟩,⟨f0,f1⟩,⟨g0,g1⟩,⟨h0,h1⟩⟩:=rt_bounds k
 obtain ⟨ai,rfl⟩:=Int.eq_ofNat_of_zero_le (show 0≤a by omega)
 obtain ⟨bi,rfl⟩:=Int.eq_ofNat_of_zero_le (show 0≤b by omega)
 obtain ⟨ci,rfl⟩:=Int.eq_ofNat_of_zero_le (show 0≤c by omega)
 obtain ⟨di,rfl⟩:=Int.eq_ofNat_of_zero_le (show 0≤d by omega)
 obtain ⟨ei,rfl⟩:=Int.eq_ofNat_of_zero_le (show 0≤e by omega)
 obtain ⟨fi,rfl⟩:=Int.eq_ofNat_of_zero_le (show 0≤f by omega)
 obtain ⟨gi,rfl⟩:=Int.eq_ofNat_of_zero_le (show 0≤g by omega)
 obtain ⟨hi,rfl⟩:=Int.eq_ofNat_of_zero_le (show 0≤h by omega)
 have q0:cof (cbs ai bi ci di ei fi gi hi ++ r) 0=ai:=by
  rw [show cbs ai bi ci di ei fi gi hi ++ r=([]) ++ (three ai ++ (three bi ++ (three ci ++ (three di ++ (three ei ++ (three fi ++ (three gi ++ (three hi ++ (r))))))))) by simp [cbs,cfb]]
  exact cof_three _ (by omega) _ _ 0 rfl
 have q1:cof (cbs ai bi ci di ei fi gi hi ++ r) 1=bi:=by
  rw [show cbs ai bi ci di ei fi gi hi ++ r=(three ai) ++ (three bi ++ (three ci ++ (three di ++ (three ei ++ (three fi ++ (three gi ++ (three hi ++ (r)))))))) by simp [cbs,cfb]]
  exact cof_three _ (by omega) _ _ 1 rfl
 have q2:cof (cbs ai bi ci di ei fi gi hi ++ r) 2=ci:=by
  rw [show cbs ai bi ci di ei fi gi hi ++ r=(three ai ++ three bi) ++ (three ci ++ (three di ++ (three ei ++ (three fi ++ (three gi ++ (three hi ++ (r))))))) by simp [cbs,cfb]]
  exact cof_three _ (by omega) _ _ 2 rfl
 have q3:cof (cbs ai bi ci di ei fi gi hi ++ r) 3=di:=by
  rw [show cbs ai bi ci di ei fi gi hi ++ r=(three ai ++ three bi ++ three ci) ++ (three di ++ (three ei ++ (three fi ++ (three gi ++ (three hi ++ (r)))))) by simp [cbs,cfb]]
  exact cof_three _ (by omega) _ _ 3 rfl
 have q4:cof (cbs ai bi ci di ei fi gi hi ++ r) 4=ei:=by
  rw [show cbs ai bi ci di ei fi gi hi ++ r=(three ai ++ three bi ++ three ci ++ three di) ++ (three ei ++ (three fi ++ (three gi ++ (three hi ++ (r))))) by simp [cbs,cfb]]
  exact cof_three _ (by omega) _ _ 4 rfl
 have q5:cof (cbs ai bi ci di ei fi gi hi ++ r) 5=fi:=by
  rw [show cbs ai bi ci di ei fi gi hi ++ r=(three ai ++ three bi ++ three ci ++ three di ++ three ei) ++ (three fi ++ (three gi ++ (three hi ++ (r)))) by simp [cbs,cfb]]
  exact cof_three _ (by omega) _ _ 5 rfl
 have q6:cof (cbs ai bi ci di ei fi gi hi ++ r) 6=gi:=by
  rw [show cbs ai bi ci di ei fi gi hi ++ r=(three ai ++ three bi ++ three ci ++ three di ++ three ei ++ three fi) ++ (three gi ++ (three hi ++ (r))) by simp [cbs,cfb]]
  exact cof_three _ (by omega) _ _ 6 rfl
 have q7:cof (cbs ai bi ci di ei fi gi hi ++ r) 7=hi:=by
  rw [show cbs ai bi ci di ei fi gi hi ++ r=(three ai ++ three bi ++ three ci ++ three di ++ three ei ++ three fi ++ three gi) ++ (three hi ++ (r)) by simp [cbs,cfb]]
  exact cof_three _ (by omega) _ _ 7 rfl
 unfold rtc cf8 cv
 rw [q0,q1,q2,q3,q4,q5,q6,q7]
 exact ⟨rfl,k⟩
def CGives (a b c d e f g h:Int) (r:Bs) (w:World) (x:Ending) (w':World):Prop:=
 Below w.heap.size w w'∧∃ (L:List Ev) (m er:Nat) (A:Option Addr) (n cp:Nat),x = .returned (.tuple #[.agg (cv a b c d e f g h),.slice A n cp,.int .i64 (24+m:Nat),.int .i64 er]) ∧
  EvRow w.heap.size w' A n cp L∧Reads r L m er
theorem decode_cbs {a b c d e f g h:Int} (k:rt a b c d e f g h=true) (A:Option Addr) (n cap:Nat) (r:Bs) (w:World) (hl:Bytes w w.heap.size A n (cbs a b c d e f g h ++ r)) (hcap:n≤cap) (hm:cap≤9223372036854775807) (hn:n≤262144) :
  Calls Tryz.prog 71 #[.slice A n cap] w (CGives a b c d e f g h r w):=by
 refine (decode_any A n cap _ w hl hcap hm).mono ?_
 rintro x w' ⟨hb,hg⟩
 have hlen:=hl.1
 have hlr:(cbs a b c d e f g h ++ r).length=24+r.length:=by rw [List.length_append,cbs_len]
 obtain ⟨p1,p2⟩:=cof_cbs k r
 rcases hg with ⟨h1,_⟩ | ⟨h1,_⟩ | ⟨_,_,h1,_⟩ | ⟨_,_,_,L,m,er,A',n',c',rfl,hrow,hrd⟩
 ·omega
 ·omega
 ·rw [p2] at h1; cases h1
 ·rw [p1]
  rw [List.drop_left' (cbs_len ..)] at hrd
  exact ⟨hb,L,m,er,A',n',c',rfl,hrow,hrd⟩
theorem Own.capmax {base n c:Nat} {w:World} {a:Option Addr} {l:Bs} (h:Own base w a n c l):c≤9223372036854775807:=by
 rcases h.row.2 with ⟨h0,_⟩ | ⟨g,cap,cur,e,_,_,_,hm,_⟩
 ·injection h0 with _ _ h2
  omega
 ·injection e with _ _ h2
  unfold maxLen at hm
  omega
end
open Fr Bk
theorem cf_rt {cf:Cf} (h:CfOk cf):rt (cf.log:Nat) (cf.data:Nat) (cf.queue:Nat) (cf.input:Nat) (cf.strikes:Nat) (cf.lease:Nat) (cf.idle:Nat) (cf.width:Nat)=true:=by
 obtain ⟨h1,h2,h3,h4,h5,h6,h7,h8⟩:=h
 simp [rt,bw]
 omega
def cfBytes (cf:Cf):Bs:=cbs (cf.log:Nat) (cf.data:Nat) (cf.queue:Nat) (cf.input:Nat) (cf.strikes:Nat) (cf.lease:Nat) (cf.idle:Nat) (cf.width:Nat)
def scBytes (cf:Cf) (L:List Sc.Ev):Bs:=cfBytes cf ++ Sc.evs L
theorem scBytes_len (cf:Cf) (L:List Sc.Ev):(scBytes cf L).length=24+(Sc.evs L).length:=by
 unfold scBytes cfBytes
 rw [List.length_append,cbs_len]
def PBGives (cf:Cf) (L:List Sc.Ev) (n:Nat) (w:World) (r:Ending) (w':World):Prop:=
 ∃ g n0 a c,r = .returned (.tuple #[.pointer (some (at0 g)),.slice a L.length c,.int .i64 (n:Nat),.int .i64 0])∧w.heap.size≤n0∧LS n0 (In a) g w' (prun (bnew cf) L)∧OtRow w.heap.size w' a L.length c (pouts (bnew cf) L)∧(∀ x,In a x→g<x)∧Below w.heap.size w w'
set_option maxRecDepth 100000 in
theorem pbytes_any {cf:Cf} (ho:CfOk cf) (hev:EvOk (bnew cf) 0 0 0) (L:List Sc.Ev) (hr:∀ x∈L,Sc.rtE x=true) (h8:L.length≤8192) (hs:tsum L≤1000000) (A:Option Addr) (n cap:Nat) (w:World) (ht:TI w) (hl:Bytes w w.heap.size A n (scBytes cf L)) (hcap:n≤cap) (hm:cap≤9223372036854775807) (hn:n≤262144) :
  Calls Tryz.prog 37 #[.slice A n cap] w (PBGives cf L n w):=by
 have hlen:=hl.1
 rw [scBytes_len] at hlen
 have HD:=Lib.hid (decode_cbs (cf_rt ho) A n cap (Sc.evs L) w hl hcap hm hn)
 have HT:=Lib.hid ht
 have HO:=Lib.hid (And.intro ho hev)
 have HR:=Lib.hid hr
 have HLen:=Lib.hid hlen
 clear ht hl ho hev hr hlen
 go_enter Tryz.func37,Tryz.ntmps37
 go_wp2_with fail
 refine HD.out.mono ?_
 rintro x w1 ⟨hb1,L1,m,er,A1,n1,c1,rfl,hrow,hrd⟩
 obtain ⟨rfl,hme,rfl⟩:=Sc.reads_all hrd HR.out h8
 have hn1:=hrow.len
 obtain rfl:24+m=n:=by rw [hme]; exact HLen.out
 have HEv:=Lib.hid (show EvIn w1 w1.heap.size A1 L1 from hrow.evin)
 have HB1:=Lib.hid hb1
 have HT1:=Lib.hid (HT.out.below hb1)
 clear hrow hrd hb1 hme HD HLen
 unfold cv
 have hx2:=Bx.new w1 _ rfl #[.int .i64 (cf.log:Nat),.int .i64 (cf.data:Nat),.int .i64 (cf.queue:Nat),.int .i64 (cf.input:Nat),.int .i64 (cf.strikes:Nat),.int .i64 (cf.lease:Nat),.int .i64 (cf.idle:Nat),.int .i64 (cf.width:Nat)] 23
 have hb2:Below w1.heap.size w1 (w1.alloc (.cells #[.int .i64 (cf.log:Nat),.int .i64 (cf.data:Nat),.int .i64 (cf.queue:Nat),.int .i64 (cf.input:Nat),.int .i64 (cf.strikes:Nat),.int .i64 (cf.lease:Nat),.int .i64 (cf.idle:Nat),.int .i64 (cf.width:Nat)] 23)):=(Below.refl _ _).alloc (Nat.le_refl _) _
 go_upto_region 2 with fail
 generalize w1.alloc (.cells #[.int .i64 (cf.log:Nat),.int .i64 (cf.data:Nat),.int .i64 (cf.queue:Nat),.int .i64 (cf.input:Nat),.int .i64 (cf.strikes:Nat),.int .i64 (cf.lease:Nat),.int .i64 (cf.idle:Nat),.int .i64 (cf.width:Nat)] 23)=w2 at *
 have HX2:=Lib.hid hx2
 have HB2:=Lib.hid (HB1.out.trans (hb2.mono HB1.out.size))
 have HP:=Lib.hid (show Calls Tryz.prog 26 #[.agg #[.int .i64 (cf.log:Nat),.int .i64 (cf.data:Nat),.int .i64 (cf.queue:Nat),.int .i64 (cf.input:Nat),.int .i64 (cf.strikes:Nat),.int .i64 (cf.lease:Nat),.int .i64 (cf.idle:Nat),.int .i64 (cf.width:Nat)],.slice A1 n1 c1] w2 (PGives cf L1 w2) from pevents_any HO.out.1 HO.out.2 A1 n1 c1 L1 w2 (HT1.out.below hb2) ((HEv.out.below hb2).more hb2.size) hn1 (by omega) hs)
 clear hx2 hb2 HEv HB1 HT1
 have z0:=HX2.out.cell 0 (.int .i64 (cf.log:Nat)) rfl
 have z1:=HX2.out.cell 1 (.int .i64 (cf.data:Nat)) rfl
 have z2:=HX2.out.cell 2 (.int .i64 (cf.queue:Nat)) rfl
 have z3:=HX2.out.cell 3 (.int .i64 (cf.input:Nat)) rfl
 have z4:=HX2.out.cell 4 (.int .i64 (cf.strikes:Nat)) rfl
 have z5:=HX2.out.cell 5 (.int .i64 (cf.lease:Nat)) rfl
 have z6:=HX2.out.cell 6 (.int .i64 (cf.idle:Nat)) rfl
 have z7:=HX2.out.cell 7 (.int .i64 (cf.width:Nat)) rfl
 go_wp2_with fail
 refine HP.out.mono ?_
 rintro r w3 ⟨g,n0,a,c,rfl,hn0,hls,hrow,hag,hb3⟩
 have HF:=Lib.hid (show PBGives cf L1 (24+m) w (.returned (.tuple #[.pointer (some (at0 g)),.slice a L1.length c,.int .i64 ((24+m:Nat):Nat),.int .i64 0])) w3 from ⟨g,n0,a,c,rfl,Nat.le_trans HB2.out.size hn0,hls,hrow.mono HB2.out.size,hag,HB2.out.trans (hb3.mono HB2.out.size)⟩)
 clear hls hrow hag hb3 HP z0 z1 z2 z3 z4 z5 z6 z7
 go_wp2
 exact bodyPost_ret (v:=.tuple #[.pointer (some (at0 g)),.slice a L1.length c,.int .i64 ((24+m:Nat):Nat),.int .i64 0]) (by simp [results,Tryz.results37,go_sem,hn1]) rfl HF.out
def PLGives (cf:Cf) (L:List Sc.Ev) (w:World) (r:Ending) (w':World):Prop:=
 ∃ g n0 a c,r = .returned (.tuple #[.pointer (some (at0 g)),.slice a L.length c,.bool true])∧w.heap.size≤n0∧LS n0 (In a) g w' (prun (bnew cf) L)∧OtRow w.heap.size w' a L.length c (pouts (bnew cf) L)∧(∀ x,In a x→g<x)∧Below w.heap.size w w'
set_option maxRecDepth 100000 in
theorem played_any {cf:Cf} (ho:CfOk cf) (hev:EvOk (bnew cf) 0 0 0) (L:List Sc.Ev) (hr:∀ x∈L,Sc.rtE x=true) (h8:L.length≤8192) (hs:tsum L≤1000000) (he:(Sc.evs L).length≤262000) (A:Option Addr) (n cap:Nat) (w:World) (ht:TI w) (hl:EvIn w w.heap.size A L) (hn:L.length=n) :
  Calls Tryz.prog 16 #[.agg (cfRow cf),.slice A n cap] w (PLGives cf L w):=by
 have HT:=Lib.hid ht
 have HO:=Lib.hid (And.intro ho hev)
 have HR:=Lib.hid hr
 have HL:=Lib.hid hl
 have HN:=Lib.hid hn
 have HE:=Lib.hid he
 have h8n:n≤8192:=by omega
 clear ht hl ho hev hr he
 have hx1:=Bx.new w _ rfl #[.int .i64 (cf.log:Nat),.int .i64 (cf.data:Nat),.int .i64 (cf.queue:Nat),.int .i64 (cf.input:Nat),.int .i64 (cf.strikes:Nat),.int .i64 (cf.lease:Nat),.int .i64 (cf.idle:Nat),.int .i64 (cf.width:Nat)] 23
 have hb1:Below w.heap.size w (w.alloc (.cells #[.int .i64 (cf.log:Nat),.int .i64 (cf.data:Nat),.int .i64 (cf.queue:Nat),.int .i64 (cf.input:Nat),.int .i64 (cf.strikes:Nat),.int .i64 (cf.lease:Nat),.int .i64 (cf.idle:Nat),.int .i64 (cf.width:Nat)] 23)):=(Below.refl _ _).alloc (Nat.le_refl _) _
 show Calls Tryz.prog 16 #[.agg #[.int .i64 (cf.log:Nat),.int .i64 (cf.data:Nat),.int .i64 (cf.queue:Nat),.int .i64 (cf.input:Nat),.int .i64 (cf.strikes:Nat),.int .i64 (cf.lease:Nat),.int .i64 (cf.idle:Nat),.int .i64 (cf.width:Nat)],.slice A n cap] w (PLGives cf L w)
 go_enter Tryz.func16,Tryz.ntmps16
 go_upto_region 1 with fail
 generalize w.alloc (.cells #[.int .i64 (cf.log:Nat),.int .i64 (cf.data:Nat),.int .i64 (cf.queue:Nat),.int .i64 (cf.input:Nat),.int .i64 (cf.strikes:Nat),.int .i64 (cf.lease:Nat),.int .i64 (cf.idle:Nat),.int .i64 (cf.width:Nat)] 23)=w1 at *
 obtain ⟨gc,hgc⟩:∃ gc,w.heap.size=gc:=⟨_,rfl⟩
 rw [hgc] at hx1 hb1 ⊢
 have HX1:=Lib.hid hx1
 have HB1:=Lib.hid hb1
 have HG:=Lib.hid hgc
 have HP:=Lib.hid (show Calls Tryz.prog 36 #[.agg #[.int .i64 (cf.log:Nat),.int .i64 (cf.data:Nat),.int .i64 (cf.queue:Nat),.int .i64 (cf.input:Nat),.int .i64 (cf.strikes:Nat),.int .i64 (cf.lease:Nat),.int .i64 (cf.idle:Nat),.int .i64 (cf.width:Nat)],.slice A n cap] w1 (EGivesS (cf.log:Nat) (cf.data:Nat) (cf.queue:Nat) (cf.input:Nat) (cf.strikes:Nat) (cf.lease:Nat) (cf.idle:Nat) (cf.width:Nat) L w1) from encode_any _ _ _ _ _ _ _ _ A n cap L w1 ((HL.out.below (hgc ▸ hb1)).more hb1.size) HN.out (by omega))
 clear hx1 hb1 hgc
 have z0:=HX1.out.cell 0 (.int .i64 (cf.log:Nat)) rfl
 have z1:=HX1.out.cell 1 (.int .i64 (cf.data:Nat)) rfl
 have z2:=HX1.out.cell 2 (.int .i64 (cf.queue:Nat)) rfl
 have z3:=HX1.out.cell 3 (.int .i64 (cf.input:Nat)) rfl
 have z4:=HX1.out.cell 4 (.int .i64 (cf.strikes:Nat)) rfl
 have z5:=HX1.out.cell 5 (.int .i64 (cf.lease:Nat)) rfl
 have z6:=HX1.out.cell 6 (.int .i64 (cf.idle:Nat)) rfl
 have z7:=HX1.out.cell 7 (.int .i64 (cf.width:Nat)) rfl
 go_wp2_with fail
 refine HP.out.mono ?_
 rintro r w2 ⟨hb2,hg⟩
 rcases hg with ⟨h1,_⟩ | ⟨_,h1,_⟩ | ⟨_,_,_,A2,cp,rfl,hown⟩
 ·exact absurd h1 (by omega)
 ·rcases h1 with h1 | ⟨x,hx,h1⟩
  ·rw [cf_rt HO.out.1] at h1; cases h1
  ·rw [HR.out x hx] at h1; cases h1
 have HB2:=Lib.hid (HB1.out.trans (hb2.mono (show gc≤w1.heap.size from by rw [← HG.out]; exact HB1.out.size)))
 have hm:24+(Sc.evs L).length≤cp:=hown.cap
 have HBy:=Lib.hid (pbytes_any HO.out.1 HO.out.2 L HR.out h8 hs A2 (24+(Sc.evs L).length) cp w2 (HT.out.below (by rw [HG.out]; exact HB2.out)) (show Bytes w2 w2.heap.size A2 (24+(Sc.evs L).length) (scBytes cf L) from hown.bytes) hm hown.capmax (by have:=HE.out; omega))
 have hel:=HE.out
 obtain ⟨N,hN⟩:∃ N,24+(Sc.evs L).length=N:=⟨_,rfl⟩
 rw [hN] at HBy ⊢
 clear hown hm hb2 HP z0 z1 z2 z3 z4 z5 z6 z7 hN hel
 go_wp2_with fail
 refine HBy.out.mono ?_
 rintro r w3 ⟨g,n0,a,c,rfl,hn0,hls,hrow,hag,hb3⟩
 have hdn:decide ((L.length:Int)=(n:Int))=true:=decide_eq_true (by rw [hn])
 have HF:=Lib.hid (show PLGives cf L w (.returned (.tuple #[.pointer (some (at0 g)),.slice a L.length c,.bool true])) w3 from ⟨g,n0,a,c,rfl,Nat.le_trans HB2.out.size hn0,hls,hrow.mono HB2.out.size,hag,by rw [HG.out]; exact HB2.out.trans (hb3.mono (show gc≤w2.heap.size from by rw [← HG.out]; exact HB2.out.size))⟩)
 clear hls hrow hag hb3 HBy
 go_wp2
 exact bodyPost_ret (v:=.tuple #[.pointer (some (at0 g)),.slice a L.length c,.bool true]) (by simp [results,Tryz.results16,go_sem,hn]) rfl HF.out
end Go.Proofs.YtalichkdeekdcaaGreatDoor
end
section
namespace Go.Proofs.YtalichkdeekdcaaGreatDoor
open Go.RowKit
open Fr Bk
theorem cfd_rt8:CfOk cfd:=⟨by decide,by decide,by decide,by decide,by decide,by decide,by decide,by decide⟩
theorem avOut_ok:∀ m∈avOut,m.ok=true:=by
 have h:(avOut.all fun m=>m.ok)=true:=by decide
 exact fun m hm=>List.all_eq_true.1 h m hm
theorem avOut_len:(encs avOut).length≤20000:=by
 unfold encs avOut
 simp only [List.flatMap_cons,List.flatMap_nil,List.length_append,List.length_nil,enc_len5]
 decide
theorem alive_len:(Sc.evs aliveL).length≤262000∧tsum aliveL≤1000000∧aliveL.length=10:=by
 have h10:aliveL.length=10:=rfl
 have h1:=evs_le alive_right
 have h2:=tsum_le aliveL
 rw [h10] at h1 h2
 exact ⟨by omega,by omega,h10⟩
set_option maxRecDepth 100000 in
set_option maxHeartbeats 4000000 in
theorem alive_any (w:World) (ht:TI w):Calls Tryz.prog 12 #[] w fun r w'=>r = .returned (.bool true)∧Below w.heap.size w w':=by
  have HTI:=Lib.hid ht
  have HC1:=Lib.hid (comes_any 1 true 0 (by decide) (by decide) w)
  clear ht
  go_enter Tryz.func12,Tryz.ntmps12
  go_wp2_with fail
  refine HC1.out.mono ?_
  rintro r w1 ⟨A1,c1,rfl,hr1,hb1⟩
  have HB1:=Lib.hid hb1
  have HR1:=Lib.hid hr1
  have HC2:=Lib.hid (comes_any 2 false 0 (by decide) (by decide) w1)
  clear hr1 hb1 HC1
  go_wp2_with fail
  refine HC2.out.mono ?_
  rintro r w2 ⟨A2,c2,rfl,hr2,hb2⟩
  have HB2:=Lib.hid (HB1.out.trans (hb2.mono HB1.out.size))
  have HR2:=Lib.hid hr2.evin
  have HR1b:=Lib.hid (HR1.out.below hb2)
  have hz2:=HB2.out.size
  clear hr2 hb2 HC2 HR1
  go_wp2_with (first
    | (at_builtin
       refine wpList_eapp rfl (.tmp 10) (.tmp 11) rfl rfl HR1b.out rfl HR2.out rfl (by decide) hz2 ?_
       intro A3 c3 w3 hr3 hb3
       have HR3:=Lib.hid (show EvRow w.heap.size w3 A3 4 c3 (comesL 1 true 0 ++ comesL 2 false 0) from hr3)
       have HB3:=Lib.hid (HB2.out.trans hb3)
       clear hr3 hb3
       go_upto_region 2 with fail))
  have HK:=Lib.hid (show Calls Tryz.prog 20 #[.int .i64 1,.string ⟨#[102,108,111,111,114]⟩] w3 fun r w'=>r = .returned (evv (cmdE 1 wFloor))∧Below w3.heap.size w3 w' from command_any 1 wFloor (by decide) w3)
  refine HK.out.mono ?_
  rintro r w4 ⟨rfl,hb4⟩
  have HB4:=Lib.hid (HB3.out.trans (hb4.mono HB3.out.size))
  have HR4:=Lib.hid (HR3.out.below hb4)
  have HS:=Lib.hid (show Calls Tryz.prog 22 #[.int .i64 1,.agg #[.int .i64 2,.int .i64 9,.int .i64 0,.string ⟨#[108,115,10]⟩]] w4 fun r w'=>r = .returned (evv (sayE 1 (keys 9 [108#8,115#8,10#8])))∧Below w4.heap.size w4 w' from said_any 1 (keys 9 [108#8,115#8,10#8]) al_ok.2.2.2.1 w4)
  obtain ⟨x1,hx1⟩:∃ x1,enc (keys 1 (esc wFloor))=x1:=⟨_,rfl⟩
  have hv1:evv (cmdE 1 wFloor) = .agg #[.int .i64 1,.int .i64 1,.int .i64 0,.string (str x1)]:=by rw [← hx1]; rfl
  rw [hv1]
  have HX1:=Lib.hid hx1
  clear hb4 HK HB3 HR3 hv1 hx1
  go_wp2_with fail
  refine HS.out.mono ?_
  rintro r w5 ⟨rfl,hb5⟩
  have HB5:=Lib.hid (HB4.out.trans (hb5.mono HB4.out.size))
  have HR5:=Lib.hid (HR4.out.below hb5)
  have HS2:=Lib.hid (show Calls Tryz.prog 22 #[.int .i64 2,.agg #[.int .i64 2,.int .i64 3,.int .i64 0,.string ⟨#[120]⟩]] w5 fun r w'=>r = .returned (evv (sayE 2 (keys 3 [120#8])))∧Below w5.heap.size w5 w' from said_any 2 (keys 3 [120#8]) al_ok.2.2.2.2 w5)
  obtain ⟨x2,hx2⟩:∃ x2,enc (keys 9 [108#8,115#8,10#8])=x2:=⟨_,rfl⟩
  have hv2:evv (sayE 1 (keys 9 [108#8,115#8,10#8])) = .agg #[.int .i64 1,.int .i64 1,.int .i64 0,.string (str x2)]:=by rw [← hx2]; rfl
  rw [hv2]
  have HX2:=Lib.hid hx2
  clear hb5 HS HB4 HR4 hv2 hx2
  go_wp2_with fail
  refine HS2.out.mono ?_
  rintro r w6 ⟨rfl,hb6⟩
  have HB6:=Lib.hid (HB5.out.trans (hb6.mono HB5.out.size))
  have HR6:=Lib.hid (HR5.out.below hb6)
  have HS3:=Lib.hid (all_any 2 w6)
  obtain ⟨x3,hx3⟩:∃ x3,enc (keys 3 [120#8])=x3:=⟨_,rfl⟩
  have hv3:evv (sayE 2 (keys 3 [120#8])) = .agg #[.int .i64 1,.int .i64 2,.int .i64 0,.string (str x3)]:=by rw [← hx3]; rfl
  rw [hv3]
  have HX3:=Lib.hid hx3
  clear hb6 HS2 HB5 HR5 hv3 hx3
  go_wp2_with fail
  refine HS3.out.mono ?_
  rintro r w7 ⟨rfl,hb7⟩
  have hv4:evv (allE 2) = .agg #[.int .i64 2,.int .i64 2,.int .i64 65536,.string ⟨#[]⟩]:=rfl
  rw [hv4]
  have HB7:=Lib.hid (HB6.out.trans (hb7.mono HB6.out.size))
  have hb8:Below w7.heap.size w7 (w7.alloc (.cells #[.int .i64 1,.int .i64 1,.int .i64 0,.string (str x1),.int .i64 3,.int .i64 0,.int .i64 0,.string ⟨#[36,32]⟩,.int .i64 1,.int .i64 1,.int .i64 0,.string (str x2),.int .i64 1,.int .i64 2,.int .i64 0,.string (str x3),.int .i64 2,.int .i64 2,.int .i64 65536,.string ⟨#[]⟩,.int .i64 4,.int .i64 0,.int .i64 99,.string ⟨#[]⟩] 30)):=(Below.refl _ _).alloc (Nat.le_refl _) _
  have HR8:=Lib.hid ((HR6.out.below hb7).below hb8)
  have HN8:=Lib.hid (show EvIn (w7.alloc (.cells #[.int .i64 1,.int .i64 1,.int .i64 0,.string (str x1),.int .i64 3,.int .i64 0,.int .i64 0,.string ⟨#[36,32]⟩,.int .i64 1,.int .i64 1,.int .i64 0,.string (str x2),.int .i64 1,.int .i64 2,.int .i64 0,.string (str x3),.int .i64 2,.int .i64 2,.int .i64 65536,.string ⟨#[]⟩,.int .i64 4,.int .i64 0,.int .i64 99,.string ⟨#[]⟩] 30)) _ (some ⟨w7.heap.size,0,none⟩) alive6 from (evrow_new (base:=0) w7 (Nat.zero_le _) alive6 #[.int .i64 1,.int .i64 1,.int .i64 0,.string (str x1),.int .i64 3,.int .i64 0,.int .i64 0,.string ⟨#[36,32]⟩,.int .i64 1,.int .i64 1,.int .i64 0,.string (str x2),.int .i64 1,.int .i64 2,.int .i64 0,.string (str x3),.int .i64 2,.int .i64 2,.int .i64 65536,.string ⟨#[]⟩,.int .i64 4,.int .i64 0,.int .i64 99,.string ⟨#[]⟩] (by rw [← HX1.out,← HX2.out,← HX3.out]; rfl) (by decide) (fun e he=>by
    have h9:=alive_right e (List.mem_append_right _ he)
    have:=(Sc.rtE_in h9).2.2.2.2.2.2
    unfold maxLen
    omega)).evin)
  have HB8:=Lib.hid (HB7.out.trans (hb8.mono HB7.out.size))
  have hz8:w.heap.size≤(w7.alloc (.cells #[.int .i64 1,.int .i64 1,.int .i64 0,.string (str x1),.int .i64 3,.int .i64 0,.int .i64 0,.string ⟨#[36,32]⟩,.int .i64 1,.int .i64 1,.int .i64 0,.string (str x2),.int .i64 1,.int .i64 2,.int .i64 0,.string (str x3),.int .i64 2,.int .i64 2,.int .i64 65536,.string ⟨#[]⟩,.int .i64 4,.int .i64 0,.int .i64 99,.string ⟨#[]⟩] 30)).heap.size:=HB8.out.size
  clear hb7 HS3 HB6 HR6 hv4 hb8 HB7
  go_wp2_with (first
    | (at_builtin
       refine wpList_eapp rfl (.tmp 13) (.tmp 22) rfl rfl HR8.out rfl HN8.out rfl (by decide) hz8 ?_
       intro A9 c9 w9 hr9 hb9
       have HR9:=Lib.hid (show EvRow w.heap.size w9 A9 10 c9 aliveL from hr9)
       have HB9:=Lib.hid (HB8.out.trans hb9)
       clear hr9 hb9 HR8 HN8 HB8 hz8))
  refine (default_any w9).mono ?_
  rintro r w10 ⟨rfl,hb10⟩
  have HB10:=Lib.hid (HB9.out.trans (hb10.mono HB9.out.size))
  have HE:=Lib.hid (show Calls Tryz.prog 36 #[.agg #[.int .i64 4096,.int .i64 512,.int .i64 2048,.int .i64 256,.int .i64 3,.int .i64 100,.int .i64 0,.int .i64 80],.slice A9 10 c9] w10 (EGivesS 4096 512 2048 256 3 100 0 80 aliveL w10) from encode_any 4096 512 2048 256 3 100 0 80 A9 10 c9 aliveL w10 ((HR9.out.below hb10).evin) rfl (by decide))
  clear hb10 HR9 HB9
  unfold cv
  go_wp2_with fail
  refine HE.out.mono ?_
  rintro r w11 ⟨hb11,hg⟩
  rcases hg with ⟨h1,_⟩ | ⟨_,h1,_⟩ | ⟨_,_,_,A2,cp,rfl,hown⟩
  · exact absurd h1 (by rw [alive_len.2.2]; decide)
  · rcases h1 with h1 | ⟨x,hx,h1⟩
    · exact absurd h1 (by decide)
    · rw [alive_right x hx] at h1; cases h1
  have HB11:=Lib.hid (HB10.out.trans (hb11.mono HB10.out.size))
  have hm:24+(Sc.evs aliveL).length≤cp:=hown.cap
  have HBy:=Lib.hid (pbytes_any cfd_rt8 cfd_ok aliveL alive_right (by rw [alive_len.2.2]; decide) alive_len.2.1 A2 (24+(Sc.evs aliveL).length) cp w11 (HTI.out.below HB11.out) (show Bytes w11 w11.heap.size A2 (24+(Sc.evs aliveL).length) (scBytes cfd aliveL) from hown.bytes) hm hown.capmax (by have:=alive_len.1; omega))
  obtain ⟨N,hN⟩:∃ N,24+(Sc.evs aliveL).length=N:=⟨_,rfl⟩
  rw [hN] at HBy ⊢
  clear hown hm hb11 HE hN HB10
  go_wp2_with fail
  refine HBy.out.mono ?_
  rintro r w12 ⟨g,n0,a,c,rfl,hn0,hls,hrow,hag,hb12⟩
  rw [alive_run,alive_len.2.2] at hrow
  rw [alive_len.2.2]
  obtain ⟨bb,off,rfl,hlt,hc⟩:=hrow.otin (by decide)
  have k8:=(hc 8 ⟨0,encs avOut⟩ rfl).2
  have k9:=(hc 9 ⟨0,[108#8,115#8,10#8]⟩ rfl).2
  obtain ⟨xo,hxo⟩:∃ xo,encs avOut=xo:=⟨_,rfl⟩
  rw [hxo] at k8
  have HXo:=Lib.hid hxo
  have HB12:=Lib.hid (HB11.out.trans (hb12.mono HB11.out.size))
  have HK9:=Lib.hid (show w12.cell? ⟨bb,off+9 * 2+1,none⟩=some (.string ⟨#[108,115,10]⟩) from k9)
  have HLT:=Lib.hid hlt
  clear hls hrow hag hb12 hc hn0 HBy hxo k9 hlt HB11
  go_upto_region 7 with fail
  obtain ⟨cb,wb,hcb,hyb,hbb,hlb,hsb⟩:=conv_tob w12 xo
  have HBb:=Lib.hid (HB12.out.trans (hbb.mono HB12.out.size))
  have hxl:xo.length≤20000:=by rw [← HXo.out]; exact avOut_len
  have HM:=Lib.hid (lmessages_any avOut avOut_ok wb (show Bytes wb (w12.heap.size+1) (some ⟨w12.heap.size,0,none⟩) xo.length (encs avOut) from by rw [HXo.out]; exact hyb) hsb hlb (by omega))
  have hk9b:wb.cell? ⟨bb,off+9 * 2+1,none⟩=some (.string ⟨#[108,115,10]⟩):=(hbb.cell (p:=⟨bb,off+9 * 2+1,none⟩) HLT.out).trans HK9.out
  have HK9b:=Lib.hid hk9b
  have HLTb:=Lib.hid (Nat.lt_of_lt_of_le HLT.out hbb.size)
  clear hyb hbb hlb hsb hk9b HB12 HK9 HLT
  go_wp2_with fail
  refine HM.out.mono ?_
  rintro r w13 ⟨R,rc,rfl,hrow,hb13⟩
  rw [show avOut.length=5 from rfl] at hrow ⊢
  have HB13:=Lib.hid (HBb.out.trans (hb13.mono HBb.out.size))
  have k9:w13.cell? ⟨bb,off+9 * 2+1,none⟩=some (.string ⟨#[108,115,10]⟩):=(hb13.cell (p:=⟨bb,off+9 * 2+1,none⟩) HLTb.out).trans HK9b.out
  obtain ⟨mb,mo,rfl,_,hmc⟩:=hrow.msin.outer (by decide)
  obtain ⟨a0,a1,a2,a3⟩:=hmc 3 (dataM 0 [36#8,32#8]) rfl
  obtain ⟨b0,b1,b2,b3⟩:=hmc 4 (rejectM 3 3) rfl
  replace a0:w13.cell? ⟨mb,mo+3 * 4,none⟩=some (.int .i64 6):=a0
  replace a1:w13.cell? ⟨mb,mo+3 * 4+1,none⟩=some (.int .i64 0):=a1
  replace a2:w13.cell? ⟨mb,mo+3 * 4+2,none⟩=some (.int .i64 0):=a2
  replace a3:w13.cell? ⟨mb,mo+3 * 4+3,none⟩=some (.string ⟨#[36,32]⟩):=a3
  replace b0:w13.cell? ⟨mb,mo+4 * 4,none⟩=some (.int .i64 8):=b0
  replace b1:w13.cell? ⟨mb,mo+4 * 4+1,none⟩=some (.int .i64 3):=b1
  replace b2:w13.cell? ⟨mb,mo+4 * 4+2,none⟩=some (.int .i64 3):=b2
  replace b3:w13.cell? ⟨mb,mo+4 * 4+3,none⟩=some (.string ⟨#[]⟩):=b3
  clear hrow hb13 hmc HM HK9b HLTb HBb
  go_wp2
  go_ret
  exact ⟨rfl,HB13.out⟩
end Go.Proofs.YtalichkdeekdcaaGreatDoor
end
