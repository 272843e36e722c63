/- The broker's mathematics: who is idle; what is sent again. No program is named here. -/
import Derived.Test.YtjmdddhbdofppaaGreatDoorZcQe
import Derived.Test.YtjmdddhbdofppaaGreatDoorZcQw

namespace Go.Proofs.YtjmdddhbdofppaaGreatDoor.Bk
open Fr Lx
def cfI (i : Nat) : Cf:=⟨4096,512,2048,256,3,100,i,80⟩
theorem cfI_ok {i : Nat} (h : i≤1000) : EvOk (bnew (cfI i)) 0 0 0:=
  bnew_ev (c:=cfI i) (show 1≤4096∧4096≤65536 by decide) (show 1≤512∧512≤2042 by decide) (show 220≤2048∧2048≤65536 by decide) (show 1≤256∧256≤65536 by decide) h (show 3≤9 by decide) (show 1≤80∧80≤500 by decide)
def idB (i : Nat) : Br:=setFl (bnew (cfI i)) (firstFl 100 1)
theorem idB_fl (i : Nat) : (idB i).fl = ⟨100,0,[(1,2)],[]⟩:=rfl
theorem first_len (t : Bs) : (firstC 1 t).out.length = 33:=by
  show (enc (welcome 1 0 2) ++ enc (mfloor 0)).length = 33
  rw [List.length_append,floor_len,enc_len5]
  rfl
noncomputable def idC (p : Bool) (j : Nat) : Cn:={ (if p then plus pong (firstC 1 [97#8]) else firstC 1 [97#8]) with idle:=j }
theorem idC_is (p : Bool) (j : Nat) : (idC p j).st = 1∧(idC p j).fd = fd0∧(idC p j).p = 0∧(idC p j).idle = j∧(idC p j).out = encs ([welcome 1 0 2,mfloor 0] ++ if p then [pong] else [])∧(idC p j).out.length≤38:=by
  cases p
  · refine ⟨rfl,rfl,rfl,rfl,?_,?_⟩
    · show enc (welcome 1 0 2) ++ enc (mfloor 0) = _
      unfold encs
      simp
    · show (firstC 1 [97#8]).out.length≤38
      rw [first_len]; decide
  · refine ⟨rfl,rfl,rfl,rfl,?_,?_⟩
    · show (enc (welcome 1 0 2) ++ enc (mfloor 0)) ++ enc pong = _
      unfold encs
      simp
    · show ((firstC 1 [97#8]).out ++ enc pong).length≤38
      rw [List.length_append,first_len,show (enc pong).length = 5 by rw [enc_len5]; rfl]
      decide
noncomputable def idS (i : Nat) (p : Bool) (j : Nat) : Br:=lone (idB i) 1 (idC p j)
theorem idle_hello (i : Nat) : bytesB (connectB (bnew (cfI i)) 1) 1 (enc (helloM [97#8])) = idS i false 0∧connectE (bnew (cfI i)) 1 = 0∧bytesE (connectB (bnew (cfI i)) 1) 1 = 0:=by
  obtain ⟨h1,h2⟩:=connect_new (b:=bnew (cfI i)) (k:=1) (by decide) (by decide) rfl
  have a2:=lone_hello (b:=bnew (cfI i)) (k:=1) (t:=[97#8]) (by decide) (by decide) (by show 220≤2048; decide) rfl rfl rfl rfl (by decide) (by decide)
  have e : connectB (bnew (cfI i)) 1 = lone (bnew (cfI i)) 1 cnew:=h2
  rw [e]
  exact ⟨a2.1,h1,a2.2⟩
theorem idle_tick {i : Nat} (p : Bool) {j : Nat} (hj : j + 1 < i) : tickB (idS i p j) = idS i p (j + 1):=by
  obtain ⟨s1,s2,s3,s4,s5,s6⟩:=idC_is p j
  have h:=lone_tick (b:=idB i) (k:=1) (c:=idC p j) (by decide) (by decide) s1 s3 (.inr (by rw [s4]; exact hj)) rfl rfl
  exact h
theorem idle_ping (i j : Nat) : bytesB (idS i false j) 1 (enc ping) = idS i true 0∧bytesE (idS i false j) 1 = 0:=by
  obtain ⟨s1,s2,s3,s4,s5,s6⟩:=idC_is false j
  exact lone_ping (b:=idB i) (k:=1) (c:=idC false j) (by decide) (by decide) s1 s2 s3 (by show _ + 5≤2048; omega) rfl
noncomputable def idE (i : Nat) : Br:=lone (setFl (idB i) (fleave (idB i).fl 1)) 1 { idC true (i - 1) with st:=2,idle:=i - 1 + 1,out:=(idC true (i - 1)).out ++ enc (closed 6) }
theorem idle_late {i : Nat} (hi : 1≤i) : tickB (idS i true (i - 1)) = idE i:=by
  obtain ⟨s1,s2,s3,s4,s5,s6⟩:=idC_is true (i - 1)
  have h:=lone_late (b:=idB i) (k:=1) (c:=idC true (i - 1)) (by decide) (by decide) s1 (by show _ + 11≤2048; omega) (by rw [s4]; show i≠0∧i≤i - 1 + 1; omega) rfl rfl
  rw [s4] at h
  exact h
theorem idle_end (i : Nat) : writeT (idE i) 1 5000 = encs [welcome 1 0 2,mfloor 0,pong,closed 6]∧writeE (idE i) 1 = 0∧writeB (idE i) 1 5000 = bare (setFl (idB i) (fleave (idB i).fl 1))∧(setFl (idB i) (fleave (idB i).fl 1)).fl.roles = []:=by
  obtain ⟨s1,s2,s3,s4,s5,s6⟩:=idC_is true (i - 1)
  have h:=lone_gone (b:=setFl (idB i) (fleave (idB i).fl 1)) (k:=1) (c:={ idC true (i - 1) with st:=2,idle:=i - 1 + 1,out:=(idC true (i - 1)).out ++ enc (closed 6) }) (n:=5000) (by decide) (by decide) (by
    have : ((idC true (i - 1)).out ++ enc (closed 6)).length≤49:=by rw [List.length_append,closed_len]; omega
    show (((idC true (i - 1)).out ++ enc (closed 6)).length : Int)≤5000
    omega) rfl rfl
  refine ⟨h.1.trans ?_,h.2.1,h.2.2,rfl⟩
  show (idC true (i - 1)).out ++ enc (closed 6) = _
  rw [s5]
  unfold encs
  simp
noncomputable def rp1 : Br:=lone (idB 0) 1 (firstC 1 [97#8])
theorem rp1_is : dn1 = rp1:=(idle_hello 0).1
noncomputable def rpB (t : Bs) : Br:={ idB 0 with L:=t,sp:=Sp.nxts (idB 0).sp t }
noncomputable def rpC (t : Bs) : Cn:={ sv t (firstC 1 [97#8]) with out:=[] }
theorem rpC_is (t : Bs) : (rpC t).st = 1∧(rpC t).fd = fd0∧(rpC t).lx = lx0∧(rpC t).p = t.length∧(rpC t).out = []:=by
  obtain ⟨s1,s2,s3,s4,s5,s6⟩:=sv_same t (firstC 1 [97#8]) rfl
  exact ⟨s1,s2,s3,s4,rfl⟩
theorem rp2 {t : Bs} (ht : t.length≤400) : outputB rp1 t = lone (rpB t) 1 (sv t (firstC 1 [97#8]))∧outputE rp1 = 0:=
  ⟨lone_output (b:=idB 0) (k:=1) (c:=firstC 1 [97#8]) (t:=t) (by decide) (by decide) rfl rfl rfl rfl (by show t.length≤4096; omega) (by show t.length≤512; omega) (by omega) (by rw [first_len]; show 33 + t.length + 211≤2048; omega),rfl⟩
theorem rp3 {t : Bs} (ht : t.length≤400) : writeB (outputB rp1 t) 1 5000 = lone (rpB t) 1 (rpC t)∧writeE (outputB rp1 t) 1 = 0:=by
  obtain ⟨s1,s2,s3,s4,s5,s6⟩:=sv_same t (firstC 1 [97#8]) rfl
  have hl : (sv t (firstC 1 [97#8])).out.length≤500:=by
    rw [s6,List.length_append,first_len]
    split
    · show 33 + 0≤500; decide
    · rw [data_len]; omega
  have h:=lone_write (b:=rpB t) (k:=1) (c:=sv t (firstC 1 [97#8])) (n:=5000) (by decide) (by decide) (by omega) rfl s4 (by rw [s1]; show (1 : Nat)≠2; decide)
  rw [(rp2 ht).1]
  exact ⟨h.2.2,h.2.1⟩
noncomputable def rp4 (t : Bs) (back : Nat) : Br:=bytesB (lone (rpB t) 1 (rpC t)) 1 (enc (keys 1 (esc (Orm.tx 10 back))))
theorem rp4_is {t : Bs} (ht : t.length≤400) {back : Nat} (hb : back≤1000) : bytesE (lone (rpB t) 1 (rpC t)) 1 = 0∧rp4 t back = lone (rpB t) 1 (sv t { rpC t with idle:=0,p:=t.length - min back t.length }):=by
  obtain ⟨s1,s2,s3,s4,s5⟩:=rpC_is t
  have hr : Orm.Rt 10 (back : Nat):=⟨by decide,by decide,by omega,by omega,fun h=>absurd h (by decide)⟩
  have h:=lone_again (b:=rpB t) (k:=1) (c:=rpC t) (seq:=1) (s:=Orm.tx 10 back) (back:=back) (by decide) (by decide) (by decide) (by decide) s1 s2 s3 (tx_no10 _ _) (by have:=Orm.tx_len hr; omega) (parse_is hr rfl) rfl
    (by show t.length≤4096; omega) (by show t.length≤512; omega) (by show t.length≤2042; omega) (by rw [s5]; show 0 + t.length + 211≤2048; omega)
  refine ⟨h.2,?_⟩
  refine (show rp4 t back = _ from h.1).trans ?_
  have hs : startOf (rpB t).L.length (rpB t).cf.log (back : Nat) = t.length - min back t.length:=by
    show startOf t.length 4096 (back : Nat) = _
    unfold startOf
    omega
  rw [hs]
  rfl
theorem rp5 {t : Bs} (ht : t.length≤400) {back : Nat} (hb : back≤1000) : writeT (rp4 t back) 1 5000 = encs (if min back t.length = 0 then [] else [dataM (t.length - min back t.length) (t.drop (t.length - min back t.length))])∧writeE (rp4 t back) 1 = 0:=by
  obtain ⟨s1,s2,s3,s4,s5⟩:=rpC_is t
  rw [(rp4_is ht hb).2]
  obtain ⟨d,hd⟩ : ∃ d,sv t { rpC t with idle:=0,p:=t.length - min back t.length } = d:=⟨_,rfl⟩
  have ho : d.out = encs (if min back t.length = 0 then [] else [dataM (t.length - min back t.length) (t.drop (t.length - min back t.length))]):=by
    rw [← hd]
    unfold sv
    by_cases h : min back t.length = 0
    · rw [if_pos h,if_pos (show t.length - min back t.length = t.length by omega)]
      exact s5
    · rw [if_neg h,if_neg (show ¬ t.length - min back t.length = t.length by omega)]
      show (rpC t).out ++ _ = _
      rw [s5,List.nil_append,encs_one]
  have hl : d.out.length≤5000:=by
    rw [ho]
    split
    · exact Nat.zero_le _
    · rw [encs_one,data_len,List.length_drop]; omega
  rw [hd]
  obtain ⟨e1,e2,_⟩:=write_all (b:=lone (rpB t) 1 d) (k:=1) (n:=5000) (by decide) (by decide) (lone_cs _ _ _) (by omega)
  exact ⟨e1.trans ho,e2⟩
end Go.Proofs.YtjmdddhbdofppaaGreatDoor.Bk
