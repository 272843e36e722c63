/- PTw PVh PVi PVm PTg PVn PVo PTb PTx PKk -/
import Derived.Test.YtalichkdeekdcaaGreatDoorZd30
import Derived.Test.YtalichkdeekdcaaGreatDoorZd34
import Derived.Test.YtalichkdeekdcaaGreatDoorZd48
namespace Go.Proofs.YtalichkdeekdcaaGreatDoor
set_option maxRecDepth 100000
open Go.Lib renaming hid → lj
section
open Go.RowKit
open Fr Bk
theorem enc_small {m:M} (hm:m.ok=true):(enc m).length≤2053:=by
 have:=ok_len hm;rw [enc_fr,fr_len];omega
theorem rt_say {id:Int} (h0:0≤id) (h1:id≤255) {m:M} (hm:m.ok=true):Sc.rtE (sayE id m)=true:=by
 have:=enc_small hm;unfold Sc.rtE Sc.inB Sc.ownB sayE Sc.hasI Sc.hasN Sc.hasD;simp;omega
theorem rt_con {id:Int} (h0:0≤id) (h1:id≤255):Sc.rtE (conE id)=true:=by
 unfold Sc.rtE Sc.inB Sc.ownB conE Sc.hasI Sc.hasN Sc.hasD;simp;omega
theorem rt_all {id:Int} (h0:0≤id) (h1:id≤255):Sc.rtE (allE id)=true:=by
 unfold Sc.rtE Sc.inB Sc.ownB allE Sc.hasI Sc.hasN Sc.hasD;simp;omega
def outE (t:Bs):Sc.Ev:=⟨3,0,0,t⟩
def draE (n:Int):Sc.Ev:=⟨4,0,n,[]⟩
def ticE:Sc.Ev:=⟨5,0,0,[]⟩
theorem rt_out {t:Bs} (h:t.length≤4000):Sc.rtE (outE t)=true:=by
 unfold Sc.rtE Sc.inB Sc.ownB outE Sc.hasI Sc.hasN Sc.hasD;simp;omega
theorem rt_dra {n:Int} (h0:0≤n) (h1:n≤65536):Sc.rtE (draE n)=true:=by
 unfold Sc.rtE Sc.inB Sc.ownB draE Sc.hasI Sc.hasN Sc.hasD;simp;omega
section
variable {b:Br}
theorem p_say {id:Int} (h0:0≤id) (h1:id≤255) {m:M} (hm:m.ok=true):pEv b (sayE id m)=bytesB b id (enc m)∧pE b (sayE id m)=bytesE b id∧pT b (sayE id m)=[]:=by
 unfold pEv pE pT;rw [rt_say h0 h1 hm];exact ⟨rfl,rfl,rfl⟩
theorem p_con {id:Int} (h0:0≤id) (h1:id≤255):pEv b (conE id)=connectB b id∧pE b (conE id)=connectE b id∧pT b (conE id)=[]:=by
 unfold pEv pE pT;rw [rt_con h0 h1];exact ⟨rfl,rfl,rfl⟩
theorem p_all {id:Int} (h0:0≤id) (h1:id≤255):pEv b (allE id)=writeB b id 65536∧pE b (allE id)=writeE b id∧pT b (allE id)=writeT b id 65536:=by
 unfold pEv pE pT;rw [rt_all h0 h1];exact ⟨rfl,rfl,rfl⟩
theorem p_out {t:Bs} (h:t.length≤4000):pEv b (outE t)=outputB b t∧pE b (outE t)=outputE b∧pT b (outE t)=[]:=by
 unfold pEv pE pT;rw [rt_out h];exact ⟨rfl,rfl,rfl⟩
theorem p_dra {n:Int} (h0:0≤n) (h1:n≤65536):pEv b (draE n)=drainB b n∧pE b (draE n)=0∧pT b (draE n)=drainT b n:=by
 unfold pEv pE pT;rw [rt_dra h0 h1];exact ⟨rfl,rfl,rfl⟩
end
def alive6:List Sc.Ev:=[cmdE 1 wFloor,outE [36#8,32#8],sayE 1 (keys 9 [108#8,115#8,10#8]),sayE 2 (keys 3 [120#8]),allE 2,draE 99]
def aliveL:List Sc.Ev:=comesL 1 true 0 ++ comesL 2 false 0 ++ alive6
theorem al_ok:(uM true 0).ok=true∧(uM false 0).ok=true∧(keys 1 (esc wFloor)).ok=true∧(keys 9 [108#8,115#8,10#8]).ok=true∧(keys 3 [120#8]).ok=true:=
 ⟨uM_ok true (by decide) (by decide),uM_ok false (by decide) (by decide),keys_ok (by decide) (by decide) (by decide),keys_ok (by decide) (by decide) (by decide),keys_ok (by decide) (by decide) (by decide)⟩
theorem alive_right:∀ x∈aliveL,Sc.rtE x=true:=by
 obtain ⟨h1,h2,h3,h4,h5⟩:=al_ok;intro x hx;unfold aliveL comesL alive6 cmdE at hx;simp only [List.cons_append,List.nil_append,List.mem_cons,List.not_mem_nil,or_false] at hx
 rcases hx with rfl | rfl | rfl | rfl | rfl | rfl | rfl | rfl | rfl | rfl
 ·exact rt_con (by decide) (by decide)
 ·exact rt_say (by decide) (by decide) h1
 ·exact rt_con (by decide) (by decide)
 ·exact rt_say (by decide) (by decide) h2
 ·exact rt_say (by decide) (by decide) h3
 ·exact rt_out (by decide)
 ·exact rt_say (by decide) (by decide) h4
 ·exact rt_say (by decide) (by decide) h5
 ·exact rt_all (by decide) (by decide)
 ·exact rt_dra (by decide) (by decide)
theorem alive_run:pouts (bnew cfd) aliveL=[⟨0,[]⟩,⟨0,[]⟩,⟨0,[]⟩,⟨0,[]⟩,⟨0,[]⟩,⟨0,[]⟩,⟨0,[]⟩,⟨0,[]⟩,⟨0,encs avOut⟩,⟨0,[108#8,115#8,10#8]⟩]:=by
 obtain ⟨h1,h2,h3,h4,h5⟩:=al_ok;obtain ⟨_,_,_,_,_,e1,e2⟩:=av_first;obtain ⟨_,_,_,_,_,e3,e4,_⟩:=av_second false;obtain ⟨e5,e6,e7,e8,e9,e10,e11⟩:=av_is;have a0:=p_con (b:=bnew cfd) (id:=1) (by decide) (by decide);have a1:=p_say (b:=connectB (bnew cfd) 1) (id:=1) (by decide) (by decide) h1;have a2:=p_con (b:=av1) (id:=2) (by decide) (by decide);have a3:=p_say (b:=connectB av1 2) (id:=2) (by decide) (by decide) h2;have a4:=p_say (b:=av2 false) (id:=1) (by decide) (by decide) h3;have a5:=p_out (b:=av3) (t:=[36#8,32#8]) (by decide);have a6:=p_say (b:=av4) (id:=1) (by decide) (by decide) h4;have a7:=p_say (b:=av5) (id:=2) (by decide) (by decide) h5;have a8:=p_all (b:=av6) (id:=2) (by decide) (by decide);have a9:=p_dra (b:=writeB av6 2 65536) (n:=99) (by decide) (by decide);rw [e1] at a0;rw [e2] at a1;rw [e3] at a2;rw [e4] at a3;rw [e5] at a4;rw [e6] at a5;rw [e7] at a6;rw [e8] at a7;rw [e9,e10] at a8;rw [e11] at a9;have d1:bytesB (connectB (bnew cfd) 1) 1 (enc (uM true 0))=av1:=rfl;have d2:bytesB (connectB av1 2) 2 (enc (uM false 0))=av2 false:=rfl;have d3:bytesB (av2 false) 1 (enc (keys 1 (esc wFloor)))=av3:=rfl;have d4:outputB av3 [36#8,32#8]=av4:=rfl;have d5:bytesB av4 1 (enc (keys 9 [108#8,115#8,10#8]))=av5:=rfl;have d6:bytesB av5 2 (enc (keys 3 [120#8]))=av6:=rfl;rw [d1] at a1;rw [d2] at a3;rw [d3] at a4;rw [d4] at a5;rw [d5] at a6;rw [d6] at a7;unfold aliveL comesL alive6 cmdE;simp only [List.cons_append,List.nil_append,pouts];rw [a0.1,a0.2.1,a0.2.2,a1.1,a1.2.1,a1.2.2,a2.1,a2.2.1,a2.2.2,a3.1,a3.2.1,a3.2.2,a4.1,a4.2.1,a4.2.2,a5.1,a5.2.1,a5.2.2,a6.1,a6.2.1,a6.2.2,a7.1,a7.2.1,a7.2.2,a8.1,a8.2.1,a8.2.2,a9.2.1,a9.2.2]
end
section
open Go.RowKit
open Fr Bk
end
section
open Go.RowKit
open Fr Bk
theorem pT_len {b:Br} {e:Sc.Ev}:(pT b e).length≤65536:=by
 have hx:∀ (n:Int) (l:Bs),n≤65536→(l.take (takeN n l.length)).length≤65536:=fun n l h=>by
  rw [List.length_take];unfold takeN;omega
 unfold pT
 split
 ·next hr =>
  have hk:=Sc.rtE_in hr;unfold doTx
  split
  ·unfold writeT
   split
   ·split
    ·exact hx _ _ hk.2.2.2.2.2.1
    ·exact Nat.zero_le _
   ·exact Nat.zero_le _
  ·unfold drainT
   exact hx _ _ hk.2.2.2.2.2.1
  ·exact Nat.zero_le _
 ·exact Nat.zero_le _
theorem pouts_t:∀ (L:List Sc.Ev) (b:Br),∀ x∈pouts b L,x.t.length≤65536
  | [],_,x,h=>by cases h
  | e :: L,b,x,h=>by
    rcases List.mem_cons.1 h with rfl | h
    · exact pT_len
    · exact pouts_t L _ x h
def cf0 (cf:Cf):Cf:={ cf with idle:=0 }
end
section
open Go.RowKit
open Fr Bk Lx
def gstep (s:Bs) (p:Sc.Ev×Ot):Bs:=if p.1.k=4 then s ++ p.2.t else s
def gvn (s:Bs) (l:List (Sc.Ev×Ot)):Bs:=l.foldl gstep s
theorem gvn_app (s:Bs) (l r:List (Sc.Ev×Ot)):gvn s (l ++ r)=gvn (gvn s l) r:=List.foldl_append ..
theorem gvn_next (s:Bs) (l:List (Sc.Ev×Ot)) (k:Nat) (p:Sc.Ev×Ot) (h:l[k]?=some p):gvn s (l.take (k+1))=gstep (gvn s (l.take k)) p:=by
 rw [List.take_add_one,h,gvn_app];rfl
theorem gvn_len:∀ (l:List (Sc.Ev×Ot)) (s:Bs),(∀ p∈l,p.2.t.length≤65536)→(gvn s l).length≤s.length+65536 * l.length
  | [],_,_=>Nat.le_refl _
  | p :: l,s,h=>by
    have h1:(gstep s p).length≤s.length+65536:=by
      have:=h p List.mem_cons_self;unfold gstep
      split
      · rw [List.length_append]; omega
      · omega
    have h2:=gvn_len l (gstep s p) fun q hq=>h q (List.mem_cons_of_mem _ hq)
    show (gvn (gstep s p) l).length≤s.length+65536 * (l.length+1)
    omega
structure An where
 id:Nat
 seq:Nat
 t:Bs
 w:Option Nat
def kd:Option An→Int
 | none=>0
 | some a=>a.id
def wx:Option An→Bs
  | none=>[]
  | some a=>match a.w with
    | none=>a.t
    | some _=>[]
def wvn (X:List (Option An)):Bs:=X.flatMap wx
theorem wvn_app (X Y:List (Option An)):wvn (X ++ Y)=wvn X ++ wvn Y:=by unfold wvn; rw [List.flatMap_append]
theorem wvn_next (X:List (Option An)) (k:Nat) (x:Option An) (h:X[k]?=some x):wvn (X.take (k+1))=wvn (X.take k) ++ wx x:=by
 rw [List.take_add_one,h,wvn_app]
 congr 1
 show wx x ++ []=wx x
 rw [List.append_nil]
def rjs (a:An):List M:=match a.w with
 | none=>[]
 | some y=>[rejectM a.seq y]
structure AnOk (a:An):Prop where
 id1:1≤a.id
 id3:a.id≤3
 seq:a.seq≤40
 len:a.t.length≤60
 free:a.w=none→a.id≠3
 why:∀ y,a.w=some y→3≤y∧y≤5∧(a.id=3→y=3)
theorem AnOk.keys {a:An} (h:AnOk a):(keys a.seq a.t).ok=true:=keys_ok (by omega) (by have:=h.seq; omega) (by have:=h.len; omega)
theorem AnOk.rjs {a:An} (h:AnOk a):∀ m∈rjs a,m.ok=true:=by
 intro m hm;unfold Go.Proofs.YtalichkdeekdcaaGreatDoor.rjs at hm
 rcases e:a.w with _ | y
 ·rw [e] at hm; cases hm
 ·rw [e] at hm
  rw [List.mem_singleton.1 hm];have h1:=h.why y e;have h2:=h.seq;exact reject_ok (show Ms.okN (a.seq:Int) true=true by unfold Ms.okN; simp; omega) (by omega)
structure IX (cf:Cf) (E:List Sc.Ev) (X:List (Option An)) (n:Nat):Prop where
 iw:IW cf (prun (bnew (cf4 cf)) E) n
 len:X.length=E.length
 rt:∀ e∈E,Sc.rtE e=true
 small:∀ e∈E,e.t.length≤100
 given:gvn [] (E.zip (pouts (bnew (cf4 cf)) E)) ++ (prun (bnew (cf4 cf)) E).inp=wvn X
 ann:∀ k a,X[k]?=some (some a)→AnOk a∧E[k]?=some (allE a.id)∧E[k+1]?=some (sayE a.id (keys a.seq a.t))∧∃ e,(pouts (bnew (cf4 cf)) E)[k+2]?=some ⟨e,encs (rjs a)⟩
section
variable {cf:Cf} {E:List Sc.Ev} {X:List (Option An)} {n n':Nat}
theorem gvn_snoc (b0:Br) (E:List Sc.Ev) (e:Sc.Ev):gvn [] ((E ++ [e]).zip (pouts b0 (E ++ [e])))=gvn [] (E.zip (pouts b0 E)) ++ (if e.k=4 then pT (prun b0 E) e else []):=by
 rw [pouts_app,List.zip_append (pouts_len _ _).symm,gvn_app]
 show gstep _ (e,⟨pE (prun b0 E) e,pT (prun b0 E) e⟩)=_
 unfold gstep
 show (if e.k=4 then _ else _)=_
 by_cases h:e.k=4
 ·rw [if_pos h,if_pos h]
 ·rw [if_neg h,if_neg h,List.append_nil]
theorem get_snoc {α:Type} {l:List α} {k:Nat} {y:α} (h:l[k]?=some y) (r:List α):(l ++ r)[k]?=some y:=by
 have hk:k<l.length:=by
  rcases Nat.lt_or_ge k l.length with h' | h'
  ·exact h'
  ·rw [List.getElem?_eq_none h'] at h; cases h
 rw [List.getElem?_append_left hk,h]
theorem IX.one (h:IX cf E X n) (e:Sc.Ev) (hr:Sc.rtE e=true) (hs:e.t.length≤100) (hi:IW cf (pEv (prun (bnew (cf4 cf)) E) e) n') (hg:(if e.k=4 then pT (prun (bnew (cf4 cf)) E) e else []) ++ (pEv (prun (bnew (cf4 cf)) E) e).inp=(prun (bnew (cf4 cf)) E).inp):IX cf (E ++ [e]) (X ++ [none]) n':=by
 have e1:prun (bnew (cf4 cf)) (E ++ [e])=pEv (prun (bnew (cf4 cf)) E) e:=prun_app _ _ _;refine ⟨by rw [e1]; exact hi,by rw [List.length_append,List.length_append,h.len]; rfl,fun x hx=>?_,fun x hx=>?_,?_,fun k a hk=>?_⟩
 ·rcases List.mem_append.1 hx with hx | hx
  ·exact h.rt x hx
  ·rw [List.mem_singleton.1 hx]; exact hr
 ·rcases List.mem_append.1 hx with hx | hx
  ·exact h.small x hx
  ·rw [List.mem_singleton.1 hx]; exact hs
 ·rw [gvn_snoc,e1,List.append_assoc,hg,h.given,wvn_app]
  show wvn X=wvn X ++ ([] ++ [])
  rw [List.append_nil,List.append_nil]
 ·have hk':X[k]?=some (some a):=by
   rcases Nat.lt_or_ge k X.length with h' | h'
   ·rwa [List.getElem?_append_left h'] at hk
   ·rw [List.getElem?_append_right h'] at hk
    rcases hz:k - X.length with _ | z
    ·rw [hz] at hk; injection hk with hk; cases hk
    ·rw [hz] at hk; cases hk
  obtain ⟨a1,a0,a2,q,a3⟩:=h.ann k a hk';refine ⟨a1,get_snoc a0 _,get_snoc a2 _,q,?_⟩;rw [pouts_app];exact get_snoc a3 _
theorem IX.floor (h:IX cf E X n) {k:Nat} (h1:1≤k) (h3:k≤3) (hq:n≤3900):IX cf (E ++ [cmdE (k:Nat) wFloor]) (X ++ [none]) (n+22):=by
 have hm:(keys 1 (esc wFloor)).ok=true:=al_ok.2.2.1;obtain ⟨d1,d2⟩:=h.iw.floor h1 h3 hq;obtain ⟨q1,_,q3⟩:=p_say (b:=prun (bnew (cf4 cf)) E) (id:=(k:Nat)) (by omega) (by omega) hm;refine h.one (cmdE (k:Nat) wFloor) (rt_say (by omega) (by omega) hm) (show (enc (keys 1 (esc wFloor))).length≤100 by decide) (by unfold cmdE; rw [q1]; exact d1) ?_;unfold cmdE;rw [q1,d2,if_neg (show ¬ (sayE (k:Nat) _).k=4 from fun h=>absurd (show (1:Int)=4 from h) (by decide)),List.nil_append]
theorem drop_ok:(keys 1 (esc wDrop)).ok=true:=keys_ok (by decide) (by decide) (by decide)
theorem IX.drop (h:IX cf E X n) {k:Nat} (h1:1≤k) (h3:k≤3) (hq:n≤3900):IX cf (E ++ [cmdE (k:Nat) wDrop]) (X ++ [none]) (n+22):=by
 obtain ⟨d1,d2⟩:=h.iw.drop h1 h3 hq;obtain ⟨q1,_,q3⟩:=p_say (b:=prun (bnew (cf4 cf)) E) (id:=(k:Nat)) (by omega) (by omega) drop_ok;refine h.one (cmdE (k:Nat) wDrop) (rt_say (by omega) (by omega) drop_ok) (show (enc (keys 1 (esc wDrop))).length≤100 by decide) (by unfold cmdE; rw [q1]; exact d1) ?_;unfold cmdE;rw [q1,d2,if_neg (show ¬ (sayE (k:Nat) _).k=4 from fun h=>absurd (show (1:Int)=4 from h) (by decide)),List.nil_append]
theorem IX.drain (h:IX cf E X n) {m:Int} (h0:0≤m) (h1:m≤65536):IX cf (E ++ [draE m]) (X ++ [none]) n:=by
 obtain ⟨d1,d2⟩:=h.iw.drain m;obtain ⟨q1,_,q3⟩:=p_dra (b:=prun (bnew (cf4 cf)) E) h0 h1;refine h.one (draE m) (rt_dra h0 h1) (show 0≤100 by decide) (by rw [q1]; exact d1) ?_;rw [q1,q3,if_pos (show (draE m).k=4 from rfl),d2]
theorem rt_tic:Sc.rtE ticE=true:=by decide
theorem IX.tick (h:IX cf E X n) (hq:n≤3900):IX cf (E ++ [ticE]) (X ++ [none]) (n+11):=by
 obtain ⟨d1,d2⟩:=h.iw.tick hq;have hp:pEv (prun (bnew (cf4 cf)) E) ticE=tickB (prun (bnew (cf4 cf)) E):=rfl;refine h.one ticE rt_tic (show 0≤100 by decide) (by rw [hp]; exact d1) ?_;rw [hp,d2,if_neg (by show ¬ (5:Int)=4; decide),List.nil_append]
theorem IX.typed (h:IX cf E X n) {k:Nat} (h1:1≤k) (h3:k≤3) {seq:Nat} {t:Bs} (hs1:seq≤40) (ht:∀ x∈t,x≠29#8) (hl:t.length≤60) (hne:t≠[]) (hq:n≤3900) :
  ∃ w:Option Nat,IX cf (E ++ [allE (k:Nat),sayE (k:Nat) (keys (seq:Nat) t),allE (k:Nat)]) (X ++ [some ⟨k,seq,t,w⟩,none,none]) (n+17):=by
 obtain ⟨w,d1,d2,d3,d4,d5⟩:=h.iw.typed h1 h3 (seq:=(seq:Nat)) (t:=t) (by omega) (by omega) ht hl hne hq;have hok:AnOk ⟨k,seq,t,w⟩:=⟨h1,h3,hs1,hl,d4,d5⟩
 obtain ⟨b,hb⟩:∃ b,prun (bnew (cf4 cf)) E=b:=⟨_,rfl⟩
 have q1:∀ b',pEv b' (allE (k:Nat))=writeB b' (k:Nat) 65536∧pE b' (allE (k:Nat))=writeE b' (k:Nat)∧pT b' (allE (k:Nat))=writeT b' (k:Nat) 65536:=fun b'=>p_all (by omega) (by omega)
 have q2:=fun b'=>p_say (b:=b') (id:=(k:Nat)) (by omega) (by omega) hok.keys
 have hgiven:=h.given;rw [hb] at d1 d2 d3 hgiven
 have er:∀ b',prun b' [allE (k:Nat),sayE (k:Nat) (keys (seq:Nat) t),allE (k:Nat)]=writeB (bytesB (writeB b' (k:Nat) 65536) (k:Nat) (enc (keys (seq:Nat) t))) (k:Nat) 65536:=fun b'=>by
  show pEv (pEv (pEv b' (allE (k:Nat))) (sayE (k:Nat) (keys (seq:Nat) t))) (allE (k:Nat))=_
  rw [(q1 _).1,(q2 _).1,(q1 _).1]
 have eo:∀ b',pouts b' [allE (k:Nat),sayE (k:Nat) (keys (seq:Nat) t),allE (k:Nat)]=[⟨writeE b' (k:Nat),writeT b' (k:Nat) 65536⟩,⟨bytesE (writeB b' (k:Nat) 65536) (k:Nat),[]⟩,⟨writeE (bytesB (writeB b' (k:Nat) 65536) (k:Nat) (enc (keys (seq:Nat) t))) (k:Nat),writeT (bytesB (writeB b' (k:Nat) 65536) (k:Nat) (enc (keys (seq:Nat) t))) (k:Nat) 65536⟩]:=fun b'=>by
  show [(⟨pE b' (allE (k:Nat)),pT b' (allE (k:Nat))⟩:Ot),⟨pE (pEv b' (allE (k:Nat))) (sayE (k:Nat) (keys (seq:Nat) t)),pT (pEv b' (allE (k:Nat))) (sayE (k:Nat) (keys (seq:Nat) t))⟩,⟨pE (pEv (pEv b' (allE (k:Nat))) (sayE (k:Nat) (keys (seq:Nat) t))) (allE (k:Nat)),pT (pEv (pEv b' (allE (k:Nat))) (sayE (k:Nat) (keys (seq:Nat) t))) (allE (k:Nat))⟩]=_
  rw [(q1 _).1,(q1 _).2.1,(q1 _).2.2,(q2 _).1,(q2 _).2.1,(q2 _).2.2,(q1 _).2.1,(q1 _).2.2]
 have hel:(enc (keys (seq:Nat) t)).length≤100:=by rw [enc_len5]; show 6 * 1+t.length+5≤100; omega
 refine ⟨w,?_,?_,fun x hx=>?_,fun x hx=>?_,?_,fun j a hj=>?_⟩
 ·rw [prun_app,hb,er]; exact d1
 ·rw [List.length_append,List.length_append,h.len]; rfl
 ·rcases List.mem_append.1 hx with hx | hx
  ·exact h.rt x hx
  ·simp only [List.mem_cons,List.not_mem_nil,or_false] at hx
   rcases hx with rfl | rfl | rfl
   ·exact rt_all (by omega) (by omega)
   ·exact rt_say (by omega) (by omega) hok.keys
   ·exact rt_all (by omega) (by omega)
 ·rcases List.mem_append.1 hx with hx | hx
  ·exact h.small x hx
  ·simp only [List.mem_cons,List.not_mem_nil,or_false] at hx
   rcases hx with rfl | rfl | rfl
   ·exact Nat.zero_le _
   ·exact hel
   ·exact Nat.zero_le _
 ·rw [pouts_app,List.zip_append (pouts_len _ _).symm,gvn_app,prun_app,hb,er,eo,d3,wvn_app,← hgiven,← List.append_assoc]
  have e:∀ s:Bs,gvn s ([allE (k:Nat),sayE (k:Nat) (keys (seq:Nat) t),allE (k:Nat)].zip [(⟨writeE b (k:Nat),writeT b (k:Nat) 65536⟩:Ot),⟨bytesE (writeB b (k:Nat) 65536) (k:Nat),[]⟩,⟨writeE (bytesB (writeB b (k:Nat) 65536) (k:Nat) (enc (keys (seq:Nat) t))) (k:Nat),writeT (bytesB (writeB b (k:Nat) 65536) (k:Nat) (enc (keys (seq:Nat) t))) (k:Nat) 65536⟩])=s:=fun s=>rfl
  rw [e]
  congr 1
  show _=wx (some ⟨k,seq,t,w⟩) ++ ([] ++ ([] ++ []))
  rw [List.append_nil,List.append_nil,List.append_nil]
  cases w <;> rfl
 ·rcases Nat.lt_or_ge j X.length with h' | h'
  ·rw [List.getElem?_append_left h'] at hj
   obtain ⟨a1,a0,a2,q,a3⟩:=h.ann j a hj;refine ⟨a1,get_snoc a0 _,get_snoc a2 _,q,?_⟩;rw [pouts_app];exact get_snoc a3 _
  ·rw [List.getElem?_append_right h'] at hj
   rcases hz:j - X.length with _ | _ | _ | z
   ·rw [hz] at hj
    injection hj with hj
    injection hj with hj
    subst hj
    obtain rfl:j=E.length:=by have:=h.len; omega
    refine ⟨hok,(by rw [List.getElem?_append_right (Nat.le_refl _),Nat.sub_self]; rfl),?_,writeE (bytesB (writeB b (k:Nat) 65536) (k:Nat) (enc (keys (seq:Nat) t))) (k:Nat),?_⟩
    ·rw [List.getElem?_append_right (by omega),show E.length+1 - E.length=1 by omega]
     rfl
    ·rw [pouts_app,List.getElem?_append_right (by rw [pouts_len]; omega),pouts_len,show E.length+2 - E.length=2 by omega,hb,eo]
     show some (⟨_,writeT _ _ _⟩:Ot)=_
     rw [d2];unfold rjs;cases w
     ·rfl
     ·rw [show encs [rejectM (seq:Nat) _]=enc _ ++ [] from rfl,List.append_nil]
   ·rw [hz] at hj; injection hj with hj; cases hj
   ·rw [hz] at hj; injection hj with hj; cases hj
   ·rw [hz] at hj; cases hj
end
theorem fjr {s:Fl} {rs:List (Int×Int)} (h:s.roles=rs) {id r:Int} (hj:(!rhas rs id && (decide (0<id) && isRole r))=true):(fjoin s id r).roles=rput rs id r:=by
 subst h;unfold fjoin joins;rw [hj,if_pos rfl]
theorem come_one {b:Br} {n:Nat} (h:CW b n) {k:Nat} (h1:1≤k) (h2:k≤16) (hno:b.cs k=none) (hL:b.L=[]) (w:Bool) (hq:n+107≤b.cf.queue) :
  CW (prun b (comesL (k:Nat) w 0)) (n+107)∧(prun b (comesL (k:Nat) w 0)).fl=fjoin b.fl k (firstRole b.fl w)∧(prun b (comesL (k:Nat) w 0)).told=fhold (prun b (comesL (k:Nat) w 0)).fl∧Sm (prun b (comesL (k:Nat) w 0)) b∧∀ j,((prun b (comesL (k:Nat) w 0)).cs j).isSome=(decide (j=k) || (b.cs j).isSome):=by
 have hm:=uM_ok w (back:=0) (by decide) (by decide)
 have e:prun b (comesL (k:Nat) w 0)=bytesB (connectB b (k:Nat)) (k:Nat) (enc (uM w 0)):=by
  show pEv (pEv b (conE (k:Nat))) (sayE (k:Nat) (uM w 0))=_
  rw [(p_con (by omega) (by omega)).1,(p_say (by omega) (by omega) hm).1]
 rw [e];have hat:comeAt b (uM w 0)≤b.L.length:=viewAt_le _ _ _ _
 have hro:comeRole b (uM w 0)=firstRole b.fl w:=by unfold comeRole; cases w <;> rfl
 obtain ⟨e1,e2,e3,e4,e5,e6,e7⟩:=h.come (k:=k) (m:=uM w 0) h1 h2 hno hm rfl (by cases w <;> decide) (show isName [117#8]=true by decide) (by rw [hL] at hat ⊢; exact Nat.le_zero.1 hat) (by omega);rw [hro] at e4 e5;exact ⟨e3,e4,e5.trans (congrArg fhold e4).symm,e6,e7⟩
def inL:List Sc.Ev:=(comesL 1 true 0 ++ comesL 2 true 0) ++ comesL 3 false 0
theorem iw_begin (cf:Cf):IW cf (prun (bnew (cf4 cf)) inL) 321∧(prun (bnew (cf4 cf)) inL).inp=[]:=by
 have hr0:(bnew (cf4 cf)).fl.roles=[]:=rfl;obtain ⟨a1,a2,a3,a4,a5⟩:=come_one (b:=bnew (cf4 cf)) (n:=0) ⟨fun k hk=>(by cases hk),fun k c hc=>(by cases hc)⟩ (k:=1) (by decide) (by decide) rfl rfl true (show 0+107≤4000 by decide)
 obtain ⟨b1,hb1⟩:∃ b1,prun (bnew (cf4 cf)) (comesL 1 true 0)=b1:=⟨_,rfl⟩
 replace a1:CW b1 107:=by rw [← hb1]; exact a1
 replace a2:b1.fl=fjoin (bnew (cf4 cf)).fl 1 (firstRole (bnew (cf4 cf)).fl true):=by rw [← hb1]; exact a2
 replace a4:Sm b1 (bnew (cf4 cf)):=by rw [← hb1]; exact a4
 replace a5:∀ j,(b1.cs j).isSome=(decide (j=1) || false):=by rw [← hb1]; exact a5
 have r1:b1.fl.roles=[(1,2)]:=by rw [a2]; rfl
 have hno:b1.cs 2=none:=by
  rcases e:b1.cs 2 with _ | c
  ·rfl
  ·have:=a5 2; rw [e] at this; cases this
 obtain ⟨c1,c2,c3,c4,c5⟩:=come_one a1 (k:=2) (by decide) (by decide) hno a4.L true (by rw [a4.cf]; show 107+107≤4000; decide)
 obtain ⟨b2,hb2⟩:∃ b2,prun b1 (comesL 2 true 0)=b2:=⟨_,rfl⟩
 replace c1:CW b2 214:=by rw [← hb2]; exact c1
 replace c2:b2.fl=fjoin b1.fl 2 (firstRole b1.fl true):=by rw [← hb2]; exact c2
 replace c4:Sm b2 b1:=by rw [← hb2]; exact c4
 replace c5:∀ j,(b2.cs j).isSome=(decide (j=2) || (b1.cs j).isSome):=by rw [← hb2]; exact c5
 have f1:firstRole b1.fl true=1:=by unfold firstRole anyOwner; rw [r1]; rfl
 have r2:b2.fl.roles=[(1,2),(2,1)]:=by rw [c2,f1,fjr r1 (by decide)]; rfl
 have hno3:b2.cs 3=none:=by
  rcases e:b2.cs 3 with _ | c
  ·rfl
  ·have:=c5 3; rw [e,a5] at this; cases this
 have s2:=c4.trans a4;obtain ⟨d1,d2,d3,d4,d5⟩:=come_one c1 (k:=3) (by decide) (by decide) hno3 s2.L false (by rw [s2.cf]; show 214+107≤4000; decide)
 have er:prun (bnew (cf4 cf)) inL=prun b2 (comesL 3 false 0):=by
  unfold inL;rw [prun_app,prun_app,hb1,hb2]
 rw [er]
 obtain ⟨b3,hb3⟩:∃ b3,prun b2 (comesL 3 false 0)=b3:=⟨_,rfl⟩
 rw [hb3]
 replace d1:CW b3 321:=by rw [← hb3]; exact d1
 replace d2:b3.fl=fjoin b2.fl 3 0:=by rw [← hb3]; exact d2
 replace d3:b3.told=fhold b3.fl:=by rw [← hb3]; exact d3
 replace d4:Sm b3 b2:=by rw [← hb3]; exact d4
 replace d5:∀ j,(b3.cs j).isSome=(decide (j=3) || (b2.cs j).isSome):=by rw [← hb3]; exact d5
 have s3:=d4.trans s2;have hi:b3.inp=[]:=s3.inp;refine ⟨⟨d1,s3.cf,s3.ended,d3.symm,by rw [d2,fjr r2 (by decide)]; rfl,fun k k1 k3=>?_,by rw [hi]; exact Nat.zero_le _⟩,hi⟩;rw [d5,c5,a5]
 rcases (by omega:k=1∨k=2∨k=3) with rfl | rfl | rfl <;> rfl
theorem inL_in {e:Sc.Ev} (h:e∈inL):∃ (k:Nat) (w:Bool),1≤k∧k≤3∧(e=conE (k:Nat)∨e=sayE (k:Nat) (uM w 0)):=by
 unfold inL comesL at h;simp only [List.cons_append,List.nil_append,List.mem_cons,List.not_mem_nil,or_false] at h
 rcases h with rfl | rfl | rfl | rfl | rfl | rfl
 ·exact ⟨1,true,by decide,by decide,.inl rfl⟩
 ·exact ⟨1,true,by decide,by decide,.inr rfl⟩
 ·exact ⟨2,true,by decide,by decide,.inl rfl⟩
 ·exact ⟨2,true,by decide,by decide,.inr rfl⟩
 ·exact ⟨3,true,by decide,by decide,.inl rfl⟩
 ·exact ⟨3,false,by decide,by decide,.inr rfl⟩
theorem ix_begin (cf:Cf):IX cf inL [none,none,none,none,none,none] 321:=by
  obtain ⟨h1,h2⟩:=iw_begin cf;refine ⟨h1,rfl,fun e he=>?_,fun e he=>?_,?_,fun k a hk=>?_⟩
  · obtain ⟨k,w,k1,k3,rfl | rfl⟩:=inL_in he
    · exact rt_con (by omega) (by omega)
    · exact rt_say (by omega) (by omega) (uM_ok w (by decide) (by decide))
  · obtain ⟨k,w,k1,k3,rfl | rfl⟩:=inL_in he
    · exact Nat.zero_le _
    · show (enc (uM w 0)).length≤100
      cases w <;> decide
  · rw [h2,List.append_nil]
    have hg:∀ (E:List Sc.Ev) (b:Br) (s:Bs),(∀ e∈E,e.k≠4)→gvn s (E.zip (pouts b E))=s:=by
      intro E
      induction E with
      | nil=>intro b s _; rfl
      | cons e E ih =>
        intro b s h
        show gvn (gstep s (e,⟨pE b e,pT b e⟩)) (E.zip (pouts (pEv b e) E))=s
        unfold gstep;rw [if_neg (h e List.mem_cons_self)]
        exact ih _ _ fun x hx=>h x (List.mem_cons_of_mem _ hx)
    rw [hg _ _ _ fun e he=>?_]
    · rfl
    · obtain ⟨k,w,k1,k3,rfl | rfl⟩:=inL_in he
      · exact fun h=>absurd (show (0:Int)=4 from h) (by decide)
      · exact fun h=>absurd (show (1:Int)=4 from h) (by decide)
  · rcases k with _ | _ | _ | _ | _ | _ | k
    all_goals first | (injection hk with hk; cases hk) | cases hk
theorem IX.last {cf:Cf} {E:List Sc.Ev} {X:List (Option An)} {n:Nat} (h:IX cf E X n) (hi:cf.input≤65536):IX cf (E ++ [draE 65536]) (X ++ [none]) n∧gvn [] ((E ++ [draE 65536]).zip (pouts (bnew (cf4 cf)) (E ++ [draE 65536])))=wvn (X ++ [none]):=by
 have h1:=h.drain (m:=65536) (by decide) (by decide);refine ⟨h1,?_⟩;have h2:=h1.given
 have e:(prun (bnew (cf4 cf)) (E ++ [draE 65536])).inp=[]:=by
  rw [prun_app]
  show (pEv _ (draE 65536)).inp=[]
  rw [(p_dra (by decide) (by decide)).1];exact h.iw.drains hi
 rw [e,List.append_nil] at h2;exact h2
theorem IX.list {cf:Cf} {E:List Sc.Ev} {X:List (Option An)} {n:Nat} (h:IX cf E X n) (hl:E.length≤200):tsum E≤1000000∧(Sc.evs E).length≤262000:=by
  refine ⟨by have:=tsum_le E; omega,?_⟩
  have hs:∀ l:List Sc.Ev,(∀ e∈l,e.t.length≤100)→(l.map fun (e:Sc.Ev)=>e.t.length).sum≤100 * l.length:=by
    intro l
    induction l with
    | nil=>intro _; exact Nat.le_refl _
    | cons x l ih =>
      intro hx;have h1:=hx x List.mem_cons_self
      have h2:=ih fun y hy=>hx y (List.mem_cons_of_mem _ hy)
      rw [List.map_cons,List.sum_cons,List.length_cons];omega
  have h3:=hs E h.small;rw [Sc.evs_len];omega
end
section
open Go.RowKit
section
open Sc
theorem EvRow.only {base n c:Nat} {w w':World} {a:Option Addr} {L:List Ev} {S:Nat→Prop} (h:EvRow base w a n c L) (hO:Only S w w') (ha:∀ p,a=some p→¬ S p.block):EvRow base w' a n c L:=by
 refine ⟨⟨h.row.1,?_⟩,h.cap,h.inner⟩
 rcases h.row.2 with h0 | ⟨g,cap,cur,e,h1,h2,h3⟩
 ·exact .inl h0
 ·refine .inr ⟨g,cap,cur,e,h1,?_,h3⟩
  have hlt:g<w.heap.size:=by
   rcases Nat.lt_or_ge g w.heap.size with h' | h'
   ·exact h'
   ·rw [Array.getElem?_eq_none h'] at h2; cases h2
  have e2:a=some ⟨g,0,none⟩:=by injection e
  exact (hO.block g hlt (ha _ e2)).trans h2
theorem EvRow.lt {base n c:Nat} {w:World} {a:Option Addr} {L:List Ev} (h:EvRow base w a n c L) {p:Addr} (hp:a=some p):base≤p.block∧p.block<w.heap.size:=h.row.lt p.block (by subst hp; rfl)
theorem run_eappg (ty:TypeId) {base n c:Nat} {w:World} {a:Option Addr} {L:List Ev} (h:EvRow base w a n c L) {B:Nat} {A:Option Addr} {m c2:Nat} {M:List Ev} (hs:EvIn w B A M) (hm:M.length=m)
  (hroom:n+m≤3000000000000) (hbase:base≤w.heap.size) :
  ∃ A2 c3 w',(Builtin.append_ #[25,25] ty #[.slice a n c,.slice A m c2]).run Tryz.prog w = .ok (.slice A2 (n+m) c3) w'∧EvRow base w' A2 (n+m) c3 (L ++ M)∧Grew w w' a A2:=by
 obtain ⟨i0,hi0,hi1,hi2,hi3⟩:=ev_info
 by_cases h0:m=0
 ·subst h0
  have hM:M=[]:=List.eq_nil_of_length_eq_zero hm;subst hM;refine ⟨a,c,w,?_,by simpa using h,Grew.refl _ _⟩;have hcap:=h.cap;refine run_append_nothing w 25 25 ty 30 i0 Tryz.underlying25 hi0 a n c hcap _ ?_
  rcases A with _ | ad
  ·exact Src.ofNil w Tryz.underlying25 c2
  ·exact Src.ofSlice w Tryz.underlying25 ad 0 c2 [] (by simp) (by intro j u hu; simp at hu) (by intro u hu; cases hu)
 ·obtain ⟨ad,rfl,_,hc⟩:=hs.src (by omega)
  obtain ⟨v',w',hrun,h1,h2,_,h4⟩:=run_append_own_at (P:=Tryz.prog) (w:=w) base 25 ty 30 i0 _ 4 40 Tryz.underlying25 hi0 hi1 hi2 hi3 rfl (by omega) (.slice a n c) n (ecells L) h.row ad m c2 (ecells M)
   (by rw [ecells_len,hm]) hc (ecells_one M) (by unfold maxLen; omega) (by omega) hbase
  have hform:∃ A2 c3,v' = .slice A2 (n+m) c3∧n+m≤c3:=by
   rcases h1.2 with ⟨rfl,h0⟩ | ⟨g,cap,cur,rfl,_,_,h5,_⟩
   ·omega
   ·exact ⟨_,cap,rfl,h5⟩
  obtain ⟨A2,c3,rfl,hc3⟩:=hform;refine ⟨A2,c3,w',hrun,⟨by rw [ecells_app]; exact h1,hc3,fun e he=>?_⟩,grew_of h2 h4⟩
  rcases List.mem_append.1 he with h' | h'
  ·exact h.inner e h'
  ·exact hs.inner e h'
theorem wpList_eappg {w:World} {ops:Array Oper} {rest:List Oper} {o:Oper} {act:Act} {Q:Exit→Act→World→Prop} (hgd:o.guard=none) (s x:Operand)
  (hop:o.op = .call { callee:=.builtin .append,args:=#[s,x],argTypes:=#[25,25] })
  {base n c:Nat} {a:Option Addr} {L:List Ev} (hv:act.eval s = .slice a n c) (h:EvRow base w a n c L) {B:Nat} {A:Option Addr} {m c2:Nat} {M:List Ev} (hx:act.eval x = .slice A m c2) (hs:EvIn w B A M) (hm:M.length=m)
  (hroom:n+m≤3000000000000) (hbase:base≤w.heap.size)
  (hk:∀ A2 c3 w',EvRow base w' A2 (n+m) c3 (L ++ M)→Only (In a) w w'→(∀ p,A2=some p→In a p.block∨w.heap.size≤p.block)→wpList Tryz.prog ops Q rest (act.put o.dst (.slice A2 (n+m) c3)) w') :
  wpList Tryz.prog ops Q (o :: rest) act w:=by
 obtain ⟨A2,c3,w',hrun,h1,h2⟩:=run_eappg o.type h (c2:=c2) hs hm hroom hbase
 refine wpList_plain hgd fun K hK=>?_
 unfold Oper.wp execOp;simp only [hop,resolve,invoke,builtin,Sem.run_bind,Sem.run_pure,Result.andThen_ok,List.map_toArray,List.map_cons,List.map_nil,hv,hx,hrun];exact hK _ _ (hk A2 c3 w' h1 h2.only h2.place)
end
open Fr Bk
end
section
open Go.RowKit
open Fr Bk
theorem frameof_any (m:M) (hm:m.ok=true) (w:World) :
  Calls Tryz.prog 24 #[.string (str (enc m))] w fun r w'=>∃ A c,r = .returned (.agg #[.int .u8 (fm m).1.toNat,.slice A (fm m).2.length c])∧Bytes w' w'.heap.size A (fm m).2.length (fm m).2∧(fm m).2.length≤c∧Below w.heap.size w w':=by
 have hol:=ok_len hm
 have hg:get (enc m)=⟨(fm m).1,(fm m).2,(fm m).2.length+5,0⟩:=by
  have:=get_fr (fm m).1 (fm m).2 [] hol;rw [List.append_nil] at this;rw [enc_fr];exact this
 have hel:(enc m).length≤2053:=by rw [enc_fr,fr_len]; omega
 have hx1:=Bx.new w _ rfl #[.int .u8 0,.slice none 0 0] 57;have hb1:Below w.heap.size w (w.alloc (.cells #[.int .u8 0,.slice none 0 0] 57)):=(Below.refl _ _).alloc (Nat.le_refl _) _
 obtain ⟨f,hf⟩:∃ f,fm m=f:=⟨_,rfl⟩
 obtain ⟨s,hs⟩:∃ s,enc m=s:=⟨_,rfl⟩
 rw [hf] at hg hol ⊢;rw [hs] at hg hel ⊢;have HGe:=lj hg;clear hf hs hg hm
 go_enter Tryz.func24,Tryz.ntmps24
 go_upto_region 1 with fail
 generalize w.alloc (.cells #[.int .u8 0,.slice none 0 0] 57)=w1 at *
 obtain ⟨g,hgm⟩:∃ g,w.heap.size=g:=⟨_,rfl⟩
 rw [hgm] at hx1 hb1 ⊢;have HGm:=lj hgm;clear hgm;obtain ⟨cy,wy,hcy,hyy,hby,hly,hsy⟩:=conv_tob w1 s;have HX1:=lj (hx1.go hby hx1.room);have HB1:=lj (hb1.trans (hby.mono (by have:=hx1.room; omega)));have HG:=lj (get_anyF _ s.length cy _ s wy hyy hsy hly (by omega));clear hx1 hb1 hyy hby hsy
 go_wp2_with fail
 refine HG.out.mono ?_;rintro e w3 ⟨A3,c3,rfl,hby3,hb3,hfr3,hcp⟩;rw [HGe.out] at hby3 hcp ⊢;replace hcp:f.2.length≤c3:=hcp;have HX3:=lj (HX1.out.go hb3 HX1.out.room);have HB3:=lj (HB1.out.trans (hb3.mono (by have:=HX1.out.room; omega)));have HBy:=lj (show Bytes w3 w3.heap.size A3 f.2.length f.2 from hby3)
 have HNe:=lj (show 0<f.2.length→∀ p,A3=some p→¬ p.block=g from fun hn p hp e=>by
  have:=hfr3 (by rw [HGe.out]; exact hn) p hp;have:=HX1.out.room
  omega)
 clear hby3 hb3 HX1 HB1 HG hfr3;have hal:=(Below.refl w3.heap.size w3).alloc (Nat.le_refl _) (.cells #[.int .u8 f.1.toNat,.slice A3 f.2.length c3] 57);have hx4:=Bx.new w3 _ rfl #[.int .u8 f.1.toNat,.slice A3 f.2.length c3] 57;have x0:=hx4.cell 0 _ rfl;have x1:=hx4.cell 1 _ rfl;have HX4:=lj (HX3.out.go hal HX3.out.room);have HB4:=lj (HB3.out.trans (hal.mono (by have:=HX3.out.room; omega)));have HY4:=lj (HBy.out.below hal);have HS4:=lj (show w3.heap.size≤(w3.alloc (.cells #[.int .u8 f.1.toNat,.slice A3 f.2.length c3] 57)).heap.size from hal.size);clear hx4 hal HX3 HB3 HBy
 go_upto_region 2 with fail
 generalize w3.alloc (.cells #[.int .u8 f.1.toNat,.slice A3 f.2.length c3] 57)=w4 at *;have f0:=HX4.out.free 0;have f1:=HX4.out.free 1;have c0:=HX4.out.cell 0 _ rfl;have c1:=HX4.out.cell 1 _ rfl;have hfx:=(HX4.out.set 0 (.int .u8 f.1.toNat)).set 1 (.slice A3 f.2.length c3);have hfb:=(HB4.out.setCell (p:=⟨g,0,none⟩) (Nat.le_refl g) (.int .u8 f.1.toNat)).setCell (p:=⟨g,1,none⟩) (Nat.le_refl g) (.slice A3 f.2.length c3);have ho:=(Bx.only g w4 0 (.int .u8 f.1.toNat)).trans (Bx.only g _ 1 (.slice A3 f.2.length c3));have hfy:=(HY4.out.onlyo ho HNe.out).more (show w3.heap.size≤((w4.setCell ⟨g,0,none⟩ (.int .u8 f.1.toNat)).setCell ⟨g,1,none⟩ (.slice A3 f.2.length c3)).heap.size by have:=HS4.out; simp; omega);go_wp2;generalize World.setCell _ _ _=W at hfx hfb hfy ⊢;have r0:=hfx.cell 0 _ rfl;have r1:=hfx.cell 1 _ rfl;refine bodyPost_ret (by simp [results,go_sem,r0,r1]) rfl ⟨A3,c3,rfl,hfy,hcp,?_⟩;rw [HGm.out];exact hfb
theorem Rw.put {base n c:Nat} {w:World} {a:Option Addr} {vs:List Value} (h:Rw base w a n c vs) {g off:Nat} (ha:a=some ⟨g,off,none⟩) (j:Nat) (v:Value) (hv:v.oneCell'=true):Rw base (w.setCell ⟨g,off+j,none⟩ v) a n c (vs.set j v):=by
  refine ⟨by rw [List.length_set]; exact h.len,h.cap,h.max,fun x hx=>?_,?_⟩
  · rcases List.mem_or_eq_of_mem_set hx with hx | rfl
    · exact h.one x hx
    · exact hv
  · rcases h.lies with ⟨e,_⟩ | ⟨g2,o2,e,h1,h2,h3,h4⟩
    · rw [e] at ha; cases ha
    · rw [e] at ha
      injection ha with ha
      injection ha with ha ho
      subst ha;subst ho;refine .inr ⟨g2,o2,e,h1,by simpa using h2,fun i x hx=>?_,fun i hi=>?_⟩
      · by_cases hij:i=j
        · subst hij
          have hl:i<vs.length:=by
            rcases Nat.lt_or_ge i vs.length with h' | h'
            · exact h'
            · rw [List.getElem?_eq_none (by rw [List.length_set]; exact h')] at hx; cases hx
          rw [List.getElem?_set_self hl] at hx
          injection hx with hx
          subst hx;obtain ⟨u,hu⟩:=Option.isSome_iff_exists.1 (h4 i (by have:=h.cap; have:=h.len; omega)).1;exact World.cell?_setCell_same _ _ _ hu
        · rw [List.getElem?_set_ne (by omega)] at hx
          rw [World.cell?_setCell_other _ _ _ _ (by intro e2; injection e2 with _ e2; omega)];exact h3 i x hx
      · refine ⟨?_,by rw [World.frozen?_setCell]; exact (h4 i hi).2⟩
        obtain ⟨u,hu⟩:=Option.isSome_iff_exists.1 (h4 i hi).1
        by_cases hij:i=j
        · subst hij
          rw [World.cell?_setCell_same _ _ _ hu]; rfl
        · rw [World.cell?_setCell_other _ _ _ _ (by intro e2; injection e2 with _ e2; omega),hu]; rfl
theorem Rw.put_only {w:World} {g off:Nat} (j:Nat) (v:Value):Only (In (some ⟨g,off,none⟩)) w (w.setCell ⟨g,off+j,none⟩ v):=(Only.refl _ w).setCell (p:=⟨g,off+j,none⟩) ⟨_,rfl,rfl⟩ v
end
section
open Go.RowKit
open Fr Bk
def cfR (cf:Cf):Array Value:=#[.int .i64 cf.log,.int .i64 cf.data,.int .i64 4000,.int .i64 cf.input,.int .i64 cf.strikes,.int .i64 cf.lease,.int .i64 0,.int .i64 cf.width]
structure InM (cf:Cf) (gm N:Nat) (w0 wr:World) (A K:Option Addr) (en c kl ck:Nat) (E:List Sc.Ev) (V:List Int):Prop where
 el:E.length=en
 ev:EvRow N wr A en c E
 nr:Rw N wr K kl ck (ints V)
 ne:∀ p q,A=some p→K=some q→p.block≠q.block
 bx:Bx gm wr (cfR cf)
 below:Below gm w0 wr
 big:N≤wr.heap.size
 lt:gm<N
section
variable {cf:Cf} {gm N en c kl ck:Nat} {w0 wr w':World} {A K:Option Addr} {E:List Sc.Ev} {V:List Int}
theorem InM.sz (h:InM cf gm N w0 wr A K en c kl ck E V):gm<wr.heap.size:=Nat.lt_of_lt_of_le h.lt h.big
theorem InM.go (h:InM cf gm N w0 wr A K en c kl ck E V) (hb:Below wr.heap.size wr w'):InM cf gm N w0 w' A K en c kl ck E V:=
 ⟨h.el,h.ev.below hb,h.nr.below hb,h.ne,h.bx.go hb h.sz,h.below.trans (hb.mono (Nat.le_of_lt h.sz)),Nat.le_trans h.big hb.size,h.lt⟩
theorem InM.grow (h:InM cf gm N w0 wr A K en c kl ck E V) {A2:Option Addr} {m c2:Nat} {M:List Sc.Ev} (hm:M.length=m) (hr:EvRow N w' A2 (en+m) c2 (E ++ M)) (hO:Only (In A) wr w') (hA:∀ p,A2=some p→In A p.block∨wr.heap.size≤p.block):InM cf gm N w0 w' A2 K (en+m) c2 kl ck (E ++ M) V:=by
 have hlt:=fun p hp=>h.ev.lt (p:=p) hp
 have hN:=h.lt;have hs:=h.sz;refine ⟨by rw [List.length_append,h.el,hm],hr,h.nr.only hO fun b hb hx=>?_,fun p q hp hq e=>?_,h.bx.keep hO fun hx=>?_,h.below.trans (hO.below (B:=gm) (Nat.le_of_lt hs) fun y hy hx=>?_),Nat.le_trans h.big hO.size,h.lt⟩
 ·obtain ⟨q,hq,rfl⟩:=hb
  obtain ⟨p,hp,hx⟩:=hx;exact h.ne p q hp hq hx
 ·rcases hA p hp with ⟨p',hp',hx⟩ | hx
  ·exact h.ne p' q hp' hq (hx.trans e)
  ·have:=(h.nr.lt hq).2; omega
 ·obtain ⟨p,hp,hx⟩:=hx
  have:=(hlt p hp).1; omega
 ·obtain ⟨p,hp,hx⟩:=hx
  have:=(hlt p hp).1; omega
theorem InM.turn (h:InM cf gm N w0 wr A K en c kl ck E V) {K2:Option Addr} {kl2 ck2:Nat} {V2:List Int} (hr:Rw N w' K2 kl2 ck2 (ints V2)) (hO:Only (In K) wr w') (hK:∀ b,In K2 b→In K b∨wr.heap.size≤b):InM cf gm N w0 w' A K2 en c kl2 ck2 E V2:=by
 have hlt:=fun p hp=>h.nr.lt (p:=p) hp
 have hN:=h.lt;have hs:=h.sz;refine ⟨h.el,h.ev.only hO fun p hp hx=>?_,hr,fun p q hp hq e=>?_,h.bx.keep hO fun hx=>?_,h.below.trans (hO.below (B:=gm) (Nat.le_of_lt hs) fun y hy hx=>?_),Nat.le_trans h.big hO.size,h.lt⟩
 ·obtain ⟨q,hq,hx⟩:=hx
  exact h.ne p q hp hq hx.symm
 ·rcases hK q.block ⟨q,hq,rfl⟩ with ⟨q',hq',hx⟩ | hx
  ·exact h.ne p q' hp hq' (e.trans hx.symm)
  ·have:=(h.ev.lt hp).2; omega
 ·obtain ⟨p,hp,hx⟩:=hx
  have:=(hlt p hp).1; omega
 ·obtain ⟨p,hp,hx⟩:=hx
  have:=(hlt p hp).1; omega
theorem InM.put (h:InM cf gm N w0 wr A K en c kl ck E V) {g off:Nat} (ha:K=some ⟨g,off,none⟩) (j:Nat) (x:Int):InM cf gm N w0 (wr.setCell ⟨g,off+j,none⟩ (.int .i64 x)) A K en c kl ck E (V.set j x):=by
 have h1:=h.nr.put ha j (.int .i64 x) rfl
 have e:(ints V).set j (.int .i64 x)=ints (V.set j x):=by unfold ints; rw [List.map_set]
 rw [e] at h1;subst ha
 exact h.turn h1 (Rw.put_only j _) fun b hb=>.inl hb
theorem IX.mono {X:List (Option An)} {n n':Nat} (h:IX cf E X n) (hn:n≤n'):IX cf E X n':=⟨h.iw.mono hn,h.len,h.rt,h.small,h.given,h.ann⟩
theorem InM.old {X:List (Option An)} (h:InM cf gm N w0 wr A K en c kl ck E ((X.take kl).map kd)) (hk:kl≤X.length) (Y:List (Option An)):InM cf gm N w0 wr A K en c kl ck E (((X ++ Y).take kl).map kd):=by
 rw [List.take_append_of_le_length hk];exact h
end
theorem kd_pad (X:List (Option An)) (m:Nat) (h:X[m]?=some none):(X.take (m+1)).map kd=(X.take m).map kd ++ [0]:=by
 rw [List.take_add_one,h,List.map_append];rfl
theorem old_next {X:List (Option An)} {k:Nat} (hk:k≤X.length) (h:∀ x∈X.drop k,x=none):∀ x∈(X ++ [none]).drop k,x=none:=by
 intro x hx;rw [List.drop_append_of_le_length hk] at hx
 rcases List.mem_append.1 hx with hx | hx
 ·exact h x hx
 ·exact List.mem_singleton.1 hx
theorem old_get {X:List (Option An)} {k j:Nat} (h:∀ x∈X.drop k,x=none) (hj:k≤j) (hl:j<X.length):X[j]?=some none:=by
 have e:X[j]?=some X[j]:=List.getElem?_eq_getElem hl;rw [e]
 have h2:(X.drop k)[j - k]?=some X[j]:=by rw [List.getElem?_drop,show k+(j - k)=j by omega,e]
 rw [h X[j] (List.mem_of_getElem? h2)]
theorem wvn_pre (X:List (Option An)) (k:Nat):(wvn (X.take k)).length≤(wvn X).length:=by
 have h:=congrArg List.length (wvn_app (X.take k) (X.drop k));rw [List.take_append_drop,List.length_append] at h;omega
theorem rjs_is {a:An} (h:AnOk a):(∀ m∈rjs a,∃ y:Nat,m=rejectM (a.seq:Nat) y∧3≤y∧y≤5∧(a.id=3→y=3))∧(rjs a).length≤1∧((rjs a).length=0→a.id≠3∧wx (some a)=a.t)∧((rjs a).length≠0→wx (some a)=[]):=by
 unfold rjs wx
 rcases e:a.w with _ | y
 ·refine ⟨fun m hm=>(by cases hm),Nat.zero_le _,fun _=>⟨h.free e,?_⟩,fun h0=>absurd rfl h0⟩
  show (match a.w with | none=>a.t | some _=>[])=a.t
  rw [e]
 ·refine ⟨fun m hm=>?_,Nat.le_refl _,fun h0=>absurd (show (1:Nat)=0 from h0) (by decide),fun _=>?_⟩
  ·rw [List.mem_singleton.1 hm]
   exact ⟨y,rfl,h.why y e⟩
  ·show (match a.w with | none=>a.t | some _=>[])=[]
   rw [e]
theorem set_last (V:List Int) (x y:Int) {n:Nat} (hn:V.length=n):(V ++ [x]).set n y=V ++ [y]:=by
 subst hn;rw [List.set_append_right _ _ (Nat.le_refl _),Nat.sub_self];rfl
end
section
open Go.RowKit
section
open Sc
theorem cbs_len (a b c d e f g h:Int):(cbs a b c d e f g h).length=24:=by simp [cbs,cfb,three_len]
theorem cof_three (a:Nat) (ha:a<16777216) (p r:Bs) (i:Nat) (hp:p.length=3 * i):cof (p ++ (three a ++ r)) i=a:=by
 unfold cof;rw [← hp,List.drop_left' rfl,List.take_left' (three_len a),nat_three a ha]
theorem cof_cbs {a b c d e f g h:Int} (k:rt a b c d e f g h=true) (r:Bs):cf8 (cof (cbs a b c d e f g h ++ r))=cv a b c d e f g h∧rtc (cbs a b c d e f g h ++ r)=true:=by
 obtain ⟨⟨a0,a1⟩,⟨b0,b1⟩,⟨c0,c1⟩,⟨d0,d1⟩,⟨e0,e1⟩,⟨f0,f1⟩,⟨g0,g1⟩,⟨h0,h1⟩⟩:=rt_bounds k;obtain ⟨ai,rfl⟩:=Int.eq_ofNat_of_zero_le (show 0≤a by omega);obtain ⟨bi,rfl⟩:=Int.eq_ofNat_of_zero_le (show 0≤b by omega);obtain ⟨ci,rfl⟩:=Int.eq_ofNat_of_zero_le (show 0≤c by omega);obtain ⟨di,rfl⟩:=Int.eq_ofNat_of_zero_le (show 0≤d by omega);obtain ⟨ei,rfl⟩:=Int.eq_ofNat_of_zero_le (show 0≤e by omega);obtain ⟨fi,rfl⟩:=Int.eq_ofNat_of_zero_le (show 0≤f by omega);obtain ⟨gi,rfl⟩:=Int.eq_ofNat_of_zero_le (show 0≤g by omega);obtain ⟨hi,rfl⟩:=Int.eq_ofNat_of_zero_le (show 0≤h by omega)
 have q0:cof (cbs ai bi ci di ei fi gi hi ++ r) 0=ai:=by
  rw [show cbs ai bi ci di ei fi gi hi ++ r=([]) ++ (three ai ++ (three bi ++ (three ci ++ (three di ++ (three ei ++ (three fi ++ (three gi ++ (three hi ++ (r))))))))) by simp [cbs,cfb]];exact cof_three _ (by omega) _ _ 0 rfl
 have q1:cof (cbs ai bi ci di ei fi gi hi ++ r) 1=bi:=by
  rw [show cbs ai bi ci di ei fi gi hi ++ r=(three ai) ++ (three bi ++ (three ci ++ (three di ++ (three ei ++ (three fi ++ (three gi ++ (three hi ++ (r)))))))) by simp [cbs,cfb]];exact cof_three _ (by omega) _ _ 1 rfl
 have q2:cof (cbs ai bi ci di ei fi gi hi ++ r) 2=ci:=by
  rw [show cbs ai bi ci di ei fi gi hi ++ r=(three ai ++ three bi) ++ (three ci ++ (three di ++ (three ei ++ (three fi ++ (three gi ++ (three hi ++ (r))))))) by simp [cbs,cfb]];exact cof_three _ (by omega) _ _ 2 rfl
 have q3:cof (cbs ai bi ci di ei fi gi hi ++ r) 3=di:=by
  rw [show cbs ai bi ci di ei fi gi hi ++ r=(three ai ++ three bi ++ three ci) ++ (three di ++ (three ei ++ (three fi ++ (three gi ++ (three hi ++ (r)))))) by simp [cbs,cfb]];exact cof_three _ (by omega) _ _ 3 rfl
 have q4:cof (cbs ai bi ci di ei fi gi hi ++ r) 4=ei:=by
  rw [show cbs ai bi ci di ei fi gi hi ++ r=(three ai ++ three bi ++ three ci ++ three di) ++ (three ei ++ (three fi ++ (three gi ++ (three hi ++ (r))))) by simp [cbs,cfb]];exact cof_three _ (by omega) _ _ 4 rfl
 have q5:cof (cbs ai bi ci di ei fi gi hi ++ r) 5=fi:=by
  rw [show cbs ai bi ci di ei fi gi hi ++ r=(three ai ++ three bi ++ three ci ++ three di ++ three ei) ++ (three fi ++ (three gi ++ (three hi ++ (r)))) by simp [cbs,cfb]];exact cof_three _ (by omega) _ _ 5 rfl
 have q6:cof (cbs ai bi ci di ei fi gi hi ++ r) 6=gi:=by
  rw [show cbs ai bi ci di ei fi gi hi ++ r=(three ai ++ three bi ++ three ci ++ three di ++ three ei ++ three fi) ++ (three gi ++ (three hi ++ (r))) by simp [cbs,cfb]];exact cof_three _ (by omega) _ _ 6 rfl
 have q7:cof (cbs ai bi ci di ei fi gi hi ++ r) 7=hi:=by
  rw [show cbs ai bi ci di ei fi gi hi ++ r=(three ai ++ three bi ++ three ci ++ three di ++ three ei ++ three fi ++ three gi) ++ (three hi ++ (r)) by simp [cbs,cfb]];exact cof_three _ (by omega) _ _ 7 rfl
 unfold rtc cf8 cv;rw [q0,q1,q2,q3,q4,q5,q6,q7];exact ⟨rfl,k⟩
def CGives (a b c d e f g h:Int) (r:Bs) (w:World) (x:Ending) (w':World):Prop:=
 Below w.heap.size w w'∧∃ (L:List Ev) (m er:Nat) (A:Option Addr) (n cp:Nat),x = .returned (.tuple #[.agg (cv a b c d e f g h),.slice A n cp,.int .i64 (24+m:Nat),.int .i64 er]) ∧
  EvRow w.heap.size w' A n cp L∧Reads r L m er
theorem decode_cbs {a b c d e f g h:Int} (k:rt a b c d e f g h=true) (A:Option Addr) (n cap:Nat) (r:Bs) (w:World) (hl:Bytes w w.heap.size A n (cbs a b c d e f g h ++ r)) (hcap:n≤cap) (hm:cap≤9223372036854775807) (hn:n≤262144) :
  Calls Tryz.prog 71 #[.slice A n cap] w (CGives a b c d e f g h r w):=by
 refine (decode_any A n cap _ w hl hcap hm).mono ?_;rintro x w' ⟨hb,hg⟩;have hlen:=hl.1
 have hlr:(cbs a b c d e f g h ++ r).length=24+r.length:=by rw [List.length_append,cbs_len]
 obtain ⟨p1,p2⟩:=cof_cbs k r
 rcases hg with ⟨h1,_⟩ | ⟨h1,_⟩ | ⟨_,_,h1,_⟩ | ⟨_,_,_,L,m,er,A',n',c',rfl,hrow,hrd⟩
 ·omega
 ·omega
 ·rw [p2] at h1; cases h1
 ·rw [p1]
  rw [List.drop_left' (cbs_len ..)] at hrd;exact ⟨hb,L,m,er,A',n',c',rfl,hrow,hrd⟩
theorem Own.capmax {base n c:Nat} {w:World} {a:Option Addr} {l:Bs} (h:Own base w a n c l):c≤9223372036854775807:=by
 rcases h.row.2 with ⟨h0,_⟩ | ⟨g,cap,cur,e,_,_,_,hm,_⟩
 ·injection h0 with _ _ h2
  omega
 ·injection e with _ _ h2
  unfold maxLen at hm;omega
end
open Fr Bk
theorem cf_rt {cf:Cf} (h:CfOk cf):rt (cf.log:Nat) (cf.data:Nat) (cf.queue:Nat) (cf.input:Nat) (cf.strikes:Nat) (cf.lease:Nat) (cf.idle:Nat) (cf.width:Nat)=true:=by
 obtain ⟨h1,h2,h3,h4,h5,h6,h7,h8⟩:=h;simp [rt,bw];omega
def cfBytes (cf:Cf):Bs:=cbs (cf.log:Nat) (cf.data:Nat) (cf.queue:Nat) (cf.input:Nat) (cf.strikes:Nat) (cf.lease:Nat) (cf.idle:Nat) (cf.width:Nat)
def scBytes (cf:Cf) (L:List Sc.Ev):Bs:=cfBytes cf ++ Sc.evs L
theorem scBytes_len (cf:Cf) (L:List Sc.Ev):(scBytes cf L).length=24+(Sc.evs L).length:=by
 unfold scBytes cfBytes;rw [List.length_append,cbs_len]
def PBGives (cf:Cf) (L:List Sc.Ev) (n:Nat) (w:World) (r:Ending) (w':World):Prop:=
 ∃ g n0 a c,r = .returned (.tuple #[.pointer (some (at0 g)),.slice a L.length c,.int .i64 (n:Nat),.int .i64 0])∧w.heap.size≤n0∧LS n0 (In a) g w' (prun (bnew cf) L)∧OtRow w.heap.size w' a L.length c (pouts (bnew cf) L)∧(∀ x,In a x→g<x)∧Below w.heap.size w w'
theorem pbytes_any {cf:Cf} (ho:CfOk cf) (hev:EvOk (bnew cf) 0 0 0) (L:List Sc.Ev) (hr:∀ x∈L,Sc.rtE x=true) (h8:L.length≤8192) (hs:tsum L≤1000000) (A:Option Addr) (n cap:Nat) (w:World) (ht:TI w) (hl:Bytes w w.heap.size A n (scBytes cf L)) (hcap:n≤cap) (hm:cap≤9223372036854775807) (hn:n≤262144) :
  Calls Tryz.prog 37 #[.slice A n cap] w (PBGives cf L n w):=by
 have hlen:=hl.1;rw [scBytes_len] at hlen;have HD:=lj (decode_cbs (cf_rt ho) A n cap (Sc.evs L) w hl hcap hm hn);have HT:=lj ht;have HO:=lj (And.intro ho hev);have HR:=lj hr;have HLen:=lj hlen;clear ht hl ho hev hr hlen
 go_enter Tryz.func37,Tryz.ntmps37
 go_wp2_with fail
 refine HD.out.mono ?_;rintro x w1 ⟨hb1,L1,m,er,A1,n1,c1,rfl,hrow,hrd⟩;obtain ⟨rfl,hme,rfl⟩:=Sc.reads_all hrd HR.out h8;have hn1:=hrow.len
 obtain rfl:24+m=n:=by rw [hme]; exact HLen.out
 have HEv:=lj (show EvIn w1 w1.heap.size A1 L1 from hrow.evin);have HB1:=lj hb1;have HT1:=lj (HT.out.below hb1);clear hrow hrd hb1 hme HD HLen;unfold cv;have hx2:=Bx.new w1 _ rfl #[.int .i64 cf.log,.int .i64 cf.data,.int .i64 cf.queue,.int .i64 cf.input,.int .i64 cf.strikes,.int .i64 cf.lease,.int .i64 cf.idle,.int .i64 cf.width] 23;have hb2:Below w1.heap.size w1 (w1.alloc (.cells #[.int .i64 cf.log,.int .i64 cf.data,.int .i64 cf.queue,.int .i64 cf.input,.int .i64 cf.strikes,.int .i64 cf.lease,.int .i64 cf.idle,.int .i64 cf.width] 23)):=(Below.refl _ _).alloc (Nat.le_refl _) _
 go_upto_region 2 with fail
 generalize w1.alloc (.cells #[.int .i64 cf.log,.int .i64 cf.data,.int .i64 cf.queue,.int .i64 cf.input,.int .i64 cf.strikes,.int .i64 cf.lease,.int .i64 cf.idle,.int .i64 cf.width] 23)=w2 at *;have HX2:=lj hx2;have HB2:=lj (HB1.out.trans (hb2.mono HB1.out.size));have HP:=lj (show Calls Tryz.prog 26 #[.agg #[.int .i64 cf.log,.int .i64 cf.data,.int .i64 cf.queue,.int .i64 cf.input,.int .i64 cf.strikes,.int .i64 cf.lease,.int .i64 cf.idle,.int .i64 cf.width],.slice A1 n1 c1] w2 (PGives cf L1 w2) from pevents_any HO.out.1 HO.out.2 A1 n1 c1 L1 w2 (HT1.out.below hb2) ((HEv.out.below hb2).more hb2.size) hn1 (by omega) hs);clear hx2 hb2 HEv HB1 HT1;have z0:=HX2.out.cell 0 (.int .i64 cf.log) rfl;have z1:=HX2.out.cell 1 (.int .i64 cf.data) rfl;have z2:=HX2.out.cell 2 (.int .i64 cf.queue) rfl;have z3:=HX2.out.cell 3 (.int .i64 cf.input) rfl;have z4:=HX2.out.cell 4 (.int .i64 cf.strikes) rfl;have z5:=HX2.out.cell 5 (.int .i64 cf.lease) rfl;have z6:=HX2.out.cell 6 (.int .i64 cf.idle) rfl;have z7:=HX2.out.cell 7 (.int .i64 cf.width) rfl
 go_wp2_with fail
 refine HP.out.mono ?_;rintro r w3 ⟨g,n0,a,c,rfl,hn0,hls,hrow,hag,hb3⟩;have HF:=lj (show PBGives cf L1 (24+m) w (.returned (.tuple #[.pointer (some (at0 g)),.slice a L1.length c,.int .i64 ((24+m:Nat):Nat),.int .i64 0])) w3 from ⟨g,n0,a,c,rfl,Nat.le_trans HB2.out.size hn0,hls,hrow.mono HB2.out.size,hag,HB2.out.trans (hb3.mono HB2.out.size)⟩);clear hls hrow hag hb3 HP z0 z1 z2 z3 z4 z5 z6 z7;go_wp2;exact bodyPost_ret (v:=.tuple #[.pointer (some (at0 g)),.slice a L1.length c,.int .i64 ((24+m:Nat):Nat),.int .i64 0]) (by simp [results,Tryz.results37,go_sem,hn1]) rfl HF.out
def PLGives (cf:Cf) (L:List Sc.Ev) (w:World) (r:Ending) (w':World):Prop:=
 ∃ g n0 a c,r = .returned (.tuple #[.pointer (some (at0 g)),.slice a L.length c,.bool true])∧w.heap.size≤n0∧LS n0 (In a) g w' (prun (bnew cf) L)∧OtRow w.heap.size w' a L.length c (pouts (bnew cf) L)∧(∀ x,In a x→g<x)∧Below w.heap.size w w'
theorem played_any {cf:Cf} (ho:CfOk cf) (hev:EvOk (bnew cf) 0 0 0) (L:List Sc.Ev) (hr:∀ x∈L,Sc.rtE x=true) (h8:L.length≤8192) (hs:tsum L≤1000000) (he:(Sc.evs L).length≤262000) (A:Option Addr) (n cap:Nat) (w:World) (ht:TI w) (hl:EvIn w w.heap.size A L) (hn:L.length=n) :
  Calls Tryz.prog 16 #[.agg (cfRow cf),.slice A n cap] w (PLGives cf L w):=by
 have HT:=lj ht;have HO:=lj (And.intro ho hev);have HR:=lj hr;have HL:=lj hl;have HN:=lj hn;have HE:=lj he
 have h8n:n≤8192:=by omega
 clear ht hl ho hev hr he;have hx1:=Bx.new w _ rfl #[.int .i64 cf.log,.int .i64 cf.data,.int .i64 cf.queue,.int .i64 cf.input,.int .i64 cf.strikes,.int .i64 cf.lease,.int .i64 cf.idle,.int .i64 cf.width] 23;have hb1:Below w.heap.size w (w.alloc (.cells #[.int .i64 cf.log,.int .i64 cf.data,.int .i64 cf.queue,.int .i64 cf.input,.int .i64 cf.strikes,.int .i64 cf.lease,.int .i64 cf.idle,.int .i64 cf.width] 23)):=(Below.refl _ _).alloc (Nat.le_refl _) _
 show Calls Tryz.prog 16 #[.agg #[.int .i64 cf.log,.int .i64 cf.data,.int .i64 cf.queue,.int .i64 cf.input,.int .i64 cf.strikes,.int .i64 cf.lease,.int .i64 cf.idle,.int .i64 cf.width],.slice A n cap] w (PLGives cf L w)
 go_enter Tryz.func16,Tryz.ntmps16
 go_upto_region 1 with fail
 generalize w.alloc (.cells #[.int .i64 cf.log,.int .i64 cf.data,.int .i64 cf.queue,.int .i64 cf.input,.int .i64 cf.strikes,.int .i64 cf.lease,.int .i64 cf.idle,.int .i64 cf.width] 23)=w1 at *
 obtain ⟨gc,hgc⟩:∃ gc,w.heap.size=gc:=⟨_,rfl⟩
 rw [hgc] at hx1 hb1 ⊢;have HX1:=lj hx1;have HB1:=lj hb1;have HG:=lj hgc;have HP:=lj (show Calls Tryz.prog 36 #[.agg #[.int .i64 cf.log,.int .i64 cf.data,.int .i64 cf.queue,.int .i64 cf.input,.int .i64 cf.strikes,.int .i64 cf.lease,.int .i64 cf.idle,.int .i64 cf.width],.slice A n cap] w1 (EGivesS (cf.log:Nat) (cf.data:Nat) (cf.queue:Nat) (cf.input:Nat) (cf.strikes:Nat) (cf.lease:Nat) (cf.idle:Nat) (cf.width:Nat) L w1) from encode_any _ _ _ _ _ _ _ _ A n cap L w1 ((HL.out.below (hgc ▸ hb1)).more hb1.size) HN.out (by omega));clear hx1 hb1 hgc;have z0:=HX1.out.cell 0 (.int .i64 cf.log) rfl;have z1:=HX1.out.cell 1 (.int .i64 cf.data) rfl;have z2:=HX1.out.cell 2 (.int .i64 cf.queue) rfl;have z3:=HX1.out.cell 3 (.int .i64 cf.input) rfl;have z4:=HX1.out.cell 4 (.int .i64 cf.strikes) rfl;have z5:=HX1.out.cell 5 (.int .i64 cf.lease) rfl;have z6:=HX1.out.cell 6 (.int .i64 cf.idle) rfl;have z7:=HX1.out.cell 7 (.int .i64 cf.width) rfl
 go_wp2_with fail
 refine HP.out.mono ?_;rintro r w2 ⟨hb2,hg⟩
 rcases hg with ⟨h1,_⟩ | ⟨_,h1,_⟩ | ⟨_,_,_,A2,cp,rfl,hown⟩
 ·exact absurd h1 (by omega)
 ·rcases h1 with h1 | ⟨x,hx,h1⟩
  ·rw [cf_rt HO.out.1] at h1; cases h1
  ·rw [HR.out x hx] at h1; cases h1
 have HB2:=lj (HB1.out.trans (hb2.mono (show gc≤w1.heap.size from by rw [← HG.out]; exact HB1.out.size)));have hm:24+(Sc.evs L).length≤cp:=hown.cap;have HBy:=lj (pbytes_any HO.out.1 HO.out.2 L HR.out h8 hs A2 (24+(Sc.evs L).length) cp w2 (HT.out.below (by rw [HG.out]; exact HB2.out)) (show Bytes w2 w2.heap.size A2 (24+(Sc.evs L).length) (scBytes cf L) from hown.bytes) hm hown.capmax (by have:=HE.out; omega));have hel:=HE.out
 obtain ⟨N,hN⟩:∃ N,24+(Sc.evs L).length=N:=⟨_,rfl⟩
 rw [hN] at HBy ⊢;clear hown hm hb2 HP z0 z1 z2 z3 z4 z5 z6 z7 hN hel
 go_wp2_with fail
 refine HBy.out.mono ?_;rintro r w3 ⟨g,n0,a,c,rfl,hn0,hls,hrow,hag,hb3⟩;have hdn:decide ((L.length:Int)=(n:Int))=true:=decide_eq_true (by rw [hn]);have HF:=lj (show PLGives cf L w (.returned (.tuple #[.pointer (some (at0 g)),.slice a L.length c,.bool true])) w3 from ⟨g,n0,a,c,rfl,Nat.le_trans HB2.out.size hn0,hls,hrow.mono HB2.out.size,hag,by rw [HG.out]; exact HB2.out.trans (hb3.mono (show gc≤w2.heap.size from by rw [← HG.out]; exact HB2.out.size))⟩);clear hls hrow hag hb3 HBy;go_wp2;exact bodyPost_ret (v:=.tuple #[.pointer (some (at0 g)),.slice a L.length c,.bool true]) (by simp [results,Tryz.results16,go_sem,hn]) rfl HF.out
end
section
open Go.RowKit
open Fr Bk
theorem cfd_rt8:CfOk cfd:=⟨by decide,by decide,by decide,by decide,by decide,by decide,by decide,by decide⟩
theorem avOut_ok:∀ m∈avOut,m.ok=true:=by
 have h:(avOut.all fun m=>m.ok)=true:=by decide
 exact fun m hm=>List.all_eq_true.1 h m hm
theorem avOut_len:(encs avOut).length≤20000:=by
 unfold encs avOut;simp only [List.flatMap_cons,List.flatMap_nil,List.length_append,List.length_nil,enc_len5]
 decide
theorem alive_len:(Sc.evs aliveL).length≤262000∧tsum aliveL≤1000000∧aliveL.length=10:=by
 have h10:aliveL.length=10:=rfl;have h1:=evs_le alive_right;have h2:=tsum_le aliveL;rw [h10] at h1 h2;exact ⟨by omega,by omega,h10⟩
set_option maxHeartbeats 4000000 in
theorem alive_any (w:World) (ht:TI w):Calls Tryz.prog 12 #[] w fun r w'=>r = .returned (.bool true)∧Below w.heap.size w w':=by
  have HTI:=lj ht;have HC1:=lj (comes_any 1 true 0 (by decide) (by decide) w);clear ht
  go_enter Tryz.func12,Tryz.ntmps12
  go_wp2_with fail
  refine HC1.out.mono ?_;rintro r w1 ⟨A1,c1,rfl,hr1,hb1⟩;have HB1:=lj hb1;have HR1:=lj hr1;have HC2:=lj (comes_any 2 false 0 (by decide) (by decide) w1);clear hr1 hb1 HC1
  go_wp2_with fail
  refine HC2.out.mono ?_;rintro r w2 ⟨A2,c2,rfl,hr2,hb2⟩;have HB2:=lj (HB1.out.trans (hb2.mono HB1.out.size));have HR2:=lj hr2.evin;have HR1b:=lj (HR1.out.below hb2);have hz2:=HB2.out.size;clear hr2 hb2 HC2 HR1
  go_wp2_with (first
    | (at_builtin
       refine wpList_eapp rfl (.tmp 10) (.tmp 11) rfl rfl HR1b.out rfl HR2.out rfl (by decide) hz2 ?_;intro A3 c3 w3 hr3 hb3;have HR3:=lj (show EvRow w.heap.size w3 A3 4 c3 (comesL 1 true 0 ++ comesL 2 false 0) from hr3);have HB3:=lj (HB2.out.trans hb3);clear hr3 hb3
       go_upto_region 2 with fail))
  have HK:=lj (show Calls Tryz.prog 20 #[.int .i64 1,.string ⟨#[102,108,111,111,114]⟩] w3 fun r w'=>r = .returned (evv (cmdE 1 wFloor))∧Below w3.heap.size w3 w' from command_any 1 wFloor (by decide) w3);refine HK.out.mono ?_;rintro r w4 ⟨rfl,hb4⟩;have HB4:=lj (HB3.out.trans (hb4.mono HB3.out.size));have HR4:=lj (HR3.out.below hb4);have HS:=lj (show Calls Tryz.prog 22 #[.int .i64 1,.agg #[.int .i64 2,.int .i64 9,.int .i64 0,.string ⟨#[108,115,10]⟩]] w4 fun r w'=>r = .returned (evv (sayE 1 (keys 9 [108#8,115#8,10#8])))∧Below w4.heap.size w4 w' from said_any 1 (keys 9 [108#8,115#8,10#8]) al_ok.2.2.2.1 w4)
  obtain ⟨x1,hx1⟩:∃ x1,enc (keys 1 (esc wFloor))=x1:=⟨_,rfl⟩
  have hv1:evv (cmdE 1 wFloor) = .agg #[.int .i64 1,.int .i64 1,.int .i64 0,.string (str x1)]:=by rw [← hx1]; rfl
  rw [hv1];have HX1:=lj hx1;clear hb4 HK HB3 HR3 hv1 hx1
  go_wp2_with fail
  refine HS.out.mono ?_;rintro r w5 ⟨rfl,hb5⟩;have HB5:=lj (HB4.out.trans (hb5.mono HB4.out.size));have HR5:=lj (HR4.out.below hb5);have HS2:=lj (show Calls Tryz.prog 22 #[.int .i64 2,.agg #[.int .i64 2,.int .i64 3,.int .i64 0,.string ⟨#[120]⟩]] w5 fun r w'=>r = .returned (evv (sayE 2 (keys 3 [120#8])))∧Below w5.heap.size w5 w' from said_any 2 (keys 3 [120#8]) al_ok.2.2.2.2 w5)
  obtain ⟨x2,hx2⟩:∃ x2,enc (keys 9 [108#8,115#8,10#8])=x2:=⟨_,rfl⟩
  have hv2:evv (sayE 1 (keys 9 [108#8,115#8,10#8])) = .agg #[.int .i64 1,.int .i64 1,.int .i64 0,.string (str x2)]:=by rw [← hx2]; rfl
  rw [hv2];have HX2:=lj hx2;clear hb5 HS HB4 HR4 hv2 hx2
  go_wp2_with fail
  refine HS2.out.mono ?_;rintro r w6 ⟨rfl,hb6⟩;have HB6:=lj (HB5.out.trans (hb6.mono HB5.out.size));have HR6:=lj (HR5.out.below hb6);have HS3:=lj (all_any 2 w6)
  obtain ⟨x3,hx3⟩:∃ x3,enc (keys 3 [120#8])=x3:=⟨_,rfl⟩
  have hv3:evv (sayE 2 (keys 3 [120#8])) = .agg #[.int .i64 1,.int .i64 2,.int .i64 0,.string (str x3)]:=by rw [← hx3]; rfl
  rw [hv3];have HX3:=lj hx3;clear hb6 HS2 HB5 HR5 hv3 hx3
  go_wp2_with fail
  refine HS3.out.mono ?_;rintro r w7 ⟨rfl,hb7⟩;have hv4:evv (allE 2) = .agg #[.int .i64 2,.int .i64 2,.int .i64 65536,.string ⟨#[]⟩]:=rfl;rw [hv4];have HB7:=lj (HB6.out.trans (hb7.mono HB6.out.size));have hb8:Below w7.heap.size w7 (w7.alloc (.cells #[.int .i64 1,.int .i64 1,.int .i64 0,.string (str x1),.int .i64 3,.int .i64 0,.int .i64 0,.string ⟨#[36,32]⟩,.int .i64 1,.int .i64 1,.int .i64 0,.string (str x2),.int .i64 1,.int .i64 2,.int .i64 0,.string (str x3),.int .i64 2,.int .i64 2,.int .i64 65536,.string ⟨#[]⟩,.int .i64 4,.int .i64 0,.int .i64 99,.string ⟨#[]⟩] 30)):=(Below.refl _ _).alloc (Nat.le_refl _) _;have HR8:=lj ((HR6.out.below hb7).below hb8)
  have HN8:=lj (show EvIn (w7.alloc (.cells #[.int .i64 1,.int .i64 1,.int .i64 0,.string (str x1),.int .i64 3,.int .i64 0,.int .i64 0,.string ⟨#[36,32]⟩,.int .i64 1,.int .i64 1,.int .i64 0,.string (str x2),.int .i64 1,.int .i64 2,.int .i64 0,.string (str x3),.int .i64 2,.int .i64 2,.int .i64 65536,.string ⟨#[]⟩,.int .i64 4,.int .i64 0,.int .i64 99,.string ⟨#[]⟩] 30)) _ (some ⟨w7.heap.size,0,none⟩) alive6 from (evrow_new (base:=0) w7 (Nat.zero_le _) alive6 #[.int .i64 1,.int .i64 1,.int .i64 0,.string (str x1),.int .i64 3,.int .i64 0,.int .i64 0,.string ⟨#[36,32]⟩,.int .i64 1,.int .i64 1,.int .i64 0,.string (str x2),.int .i64 1,.int .i64 2,.int .i64 0,.string (str x3),.int .i64 2,.int .i64 2,.int .i64 65536,.string ⟨#[]⟩,.int .i64 4,.int .i64 0,.int .i64 99,.string ⟨#[]⟩] (by rw [← HX1.out,← HX2.out,← HX3.out]; rfl) (by decide) (fun e he=>by
    have h9:=alive_right e (List.mem_append_right _ he);have:=(Sc.rtE_in h9).2.2.2.2.2.2;unfold maxLen
    omega)).evin)
  have HB8:=lj (HB7.out.trans (hb8.mono HB7.out.size));have hz8:w.heap.size≤(w7.alloc (.cells #[.int .i64 1,.int .i64 1,.int .i64 0,.string (str x1),.int .i64 3,.int .i64 0,.int .i64 0,.string ⟨#[36,32]⟩,.int .i64 1,.int .i64 1,.int .i64 0,.string (str x2),.int .i64 1,.int .i64 2,.int .i64 0,.string (str x3),.int .i64 2,.int .i64 2,.int .i64 65536,.string ⟨#[]⟩,.int .i64 4,.int .i64 0,.int .i64 99,.string ⟨#[]⟩] 30)).heap.size:=HB8.out.size;clear hb7 HS3 HB6 HR6 hv4 hb8 HB7
  go_wp2_with (first
    | (at_builtin
       refine wpList_eapp rfl (.tmp 13) (.tmp 22) rfl rfl HR8.out rfl HN8.out rfl (by decide) hz8 ?_;intro A9 c9 w9 hr9 hb9;have HR9:=lj (show EvRow w.heap.size w9 A9 10 c9 aliveL from hr9);have HB9:=lj (HB8.out.trans hb9)
       clear hr9 hb9 HR8 HN8 HB8 hz8))
  refine (default_any w9).mono ?_;rintro r w10 ⟨rfl,hb10⟩;have HB10:=lj (HB9.out.trans (hb10.mono HB9.out.size));have HE:=lj (show Calls Tryz.prog 36 #[.agg #[.int .i64 4096,.int .i64 512,.int .i64 2048,.int .i64 256,.int .i64 3,.int .i64 100,.int .i64 0,.int .i64 80],.slice A9 10 c9] w10 (EGivesS 4096 512 2048 256 3 100 0 80 aliveL w10) from encode_any 4096 512 2048 256 3 100 0 80 A9 10 c9 aliveL w10 ((HR9.out.below hb10).evin) rfl (by decide));clear hb10 HR9 HB9;unfold cv
  go_wp2_with fail
  refine HE.out.mono ?_;rintro r w11 ⟨hb11,hg⟩
  rcases hg with ⟨h1,_⟩ | ⟨_,h1,_⟩ | ⟨_,_,_,A2,cp,rfl,hown⟩
  · exact absurd h1 (by rw [alive_len.2.2]; decide)
  · rcases h1 with h1 | ⟨x,hx,h1⟩
    · exact absurd h1 (by decide)
    · rw [alive_right x hx] at h1; cases h1
  have HB11:=lj (HB10.out.trans (hb11.mono HB10.out.size));have hm:24+(Sc.evs aliveL).length≤cp:=hown.cap;have HBy:=lj (pbytes_any cfd_rt8 cfd_ok aliveL alive_right (by rw [alive_len.2.2]; decide) alive_len.2.1 A2 (24+(Sc.evs aliveL).length) cp w11 (HTI.out.below HB11.out) (show Bytes w11 w11.heap.size A2 (24+(Sc.evs aliveL).length) (scBytes cfd aliveL) from hown.bytes) hm hown.capmax (by have:=alive_len.1; omega))
  obtain ⟨N,hN⟩:∃ N,24+(Sc.evs aliveL).length=N:=⟨_,rfl⟩
  rw [hN] at HBy ⊢;clear hown hm hb11 HE hN HB10
  go_wp2_with fail
  refine HBy.out.mono ?_;rintro r w12 ⟨g,n0,a,c,rfl,hn0,hls,hrow,hag,hb12⟩;rw [alive_run,alive_len.2.2] at hrow;rw [alive_len.2.2];obtain ⟨bb,off,rfl,hlt,hc⟩:=hrow.otin (by decide);have k8:=(hc 8 ⟨0,encs avOut⟩ rfl).2;have k9:=(hc 9 ⟨0,[108#8,115#8,10#8]⟩ rfl).2
  obtain ⟨xo,hxo⟩:∃ xo,encs avOut=xo:=⟨_,rfl⟩
  rw [hxo] at k8;have HXo:=lj hxo;have HB12:=lj (HB11.out.trans (hb12.mono HB11.out.size));have HK9:=lj (show w12.cell? ⟨bb,off+9 * 2+1,none⟩=some (.string ⟨#[108,115,10]⟩) from k9);have HLT:=lj hlt;clear hls hrow hag hb12 hc hn0 HBy hxo k9 hlt HB11
  go_upto_region 7 with fail
  obtain ⟨cb,wb,hcb,hyb,hbb,hlb,hsb⟩:=conv_tob w12 xo;have HBb:=lj (HB12.out.trans (hbb.mono HB12.out.size))
  have hxl:xo.length≤20000:=by rw [← HXo.out]; exact avOut_len
  have HM:=lj (lmessages_any avOut avOut_ok wb (show Bytes wb (w12.heap.size+1) (some ⟨w12.heap.size,0,none⟩) xo.length (encs avOut) from by rw [HXo.out]; exact hyb) hsb hlb (by omega));have hk9b:wb.cell? ⟨bb,off+9 * 2+1,none⟩=some (.string ⟨#[108,115,10]⟩):=(hbb.cell (p:=⟨bb,off+9 * 2+1,none⟩) HLT.out).trans HK9.out;have HK9b:=lj hk9b;have HLTb:=lj (Nat.lt_of_lt_of_le HLT.out hbb.size);clear hyb hbb hlb hsb hk9b HB12 HK9 HLT
  go_wp2_with fail
  refine HM.out.mono ?_;rintro r w13 ⟨R,rc,rfl,hrow,hb13⟩;rw [show avOut.length=5 from rfl] at hrow ⊢;have HB13:=lj (HBb.out.trans (hb13.mono HBb.out.size));have k9:w13.cell? ⟨bb,off+9 * 2+1,none⟩=some (.string ⟨#[108,115,10]⟩):=(hb13.cell (p:=⟨bb,off+9 * 2+1,none⟩) HLTb.out).trans HK9b.out;obtain ⟨mb,mo,rfl,_,hmc⟩:=hrow.msin.outer (by decide);obtain ⟨a0,a1,a2,a3⟩:=hmc 3 (dataM 0 [36#8,32#8]) rfl;obtain ⟨b0,b1,b2,b3⟩:=hmc 4 (rejectM 3 3) rfl;replace a0:w13.cell? ⟨mb,mo+3 * 4,none⟩=some (.int .i64 6):=a0;replace a1:w13.cell? ⟨mb,mo+3 * 4+1,none⟩=some (.int .i64 0):=a1;replace a2:w13.cell? ⟨mb,mo+3 * 4+2,none⟩=some (.int .i64 0):=a2;replace a3:w13.cell? ⟨mb,mo+3 * 4+3,none⟩=some (.string ⟨#[36,32]⟩):=a3;replace b0:w13.cell? ⟨mb,mo+4 * 4,none⟩=some (.int .i64 8):=b0;replace b1:w13.cell? ⟨mb,mo+4 * 4+1,none⟩=some (.int .i64 3):=b1;replace b2:w13.cell? ⟨mb,mo+4 * 4+2,none⟩=some (.int .i64 3):=b2;replace b3:w13.cell? ⟨mb,mo+4 * 4+3,none⟩=some (.string ⟨#[]⟩):=b3;clear hrow hb13 hmc HM HK9b HLTb HBb;go_wp2;go_ret;exact ⟨rfl,HB13.out⟩
end
section
open Go.RowKit
open Fr Bk
def rolesK (m:Nat):List (Int×Int):=(List.range m).map fun j=>(((j+1:Nat):Int),if j=0 then 2 else 1)
def flK (m:Nat):Fl:=⟨100,0,rolesK m,[]⟩
structure KickAt (b:Br) (m:Nat):Prop where
 cw:CW b (m * 107)
 fl:b.fl=flK m
 told:b.told=0
 sm:Sm b (bnew cfd)
 is:∀ j,(b.cs j).isSome=decide (1≤j∧j≤m)
end
end Go.Proofs.YtalichkdeekdcaaGreatDoor
