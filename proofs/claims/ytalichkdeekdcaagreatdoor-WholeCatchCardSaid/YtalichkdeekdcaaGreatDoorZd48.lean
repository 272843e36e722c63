/- PTw PVh PVi PVj PVk PTb PTx PKk -/
import Derived.Test.YtalichkdeekdcaaGreatDoorZd29
import Derived.Test.YtalichkdeekdcaaGreatDoorZd33
import Derived.Test.YtalichkdeekdcaaGreatDoorZd47
namespace Go.Proofs.YtalichkdeekdcaaGreatDoor
set_option maxRecDepth 100000
open Go.Lib renaming hid → lj
section
open Go.RowKit
open Fr Bk
theorem enc_small {m:M} (hm:m.ok=true):(enc m).length≤2053:=by
 have:=ok_len hm;rw [enc_fr,fr_len];omega
theorem rt_say {id:Int} (h0:0≤id) (h1:id≤255) {m:M} (hm:m.ok=true):Sc.rtE (sayE id m)=true:=by
 have:=enc_small hm;unfold Sc.rtE Sc.inB Sc.ownB sayE Sc.hasI Sc.hasN Sc.hasD;simp;omega
theorem rt_con {id:Int} (h0:0≤id) (h1:id≤255):Sc.rtE (conE id)=true:=by
 unfold Sc.rtE Sc.inB Sc.ownB conE Sc.hasI Sc.hasN Sc.hasD;simp;omega
theorem rt_all {id:Int} (h0:0≤id) (h1:id≤255):Sc.rtE (allE id)=true:=by
 unfold Sc.rtE Sc.inB Sc.ownB allE Sc.hasI Sc.hasN Sc.hasD;simp;omega
def outE (t:Bs):Sc.Ev:=⟨3,0,0,t⟩
def draE (n:Int):Sc.Ev:=⟨4,0,n,[]⟩
theorem rt_out {t:Bs} (h:t.length≤4000):Sc.rtE (outE t)=true:=by
 unfold Sc.rtE Sc.inB Sc.ownB outE Sc.hasI Sc.hasN Sc.hasD;simp;omega
theorem rt_dra {n:Int} (h0:0≤n) (h1:n≤65536):Sc.rtE (draE n)=true:=by
 unfold Sc.rtE Sc.inB Sc.ownB draE Sc.hasI Sc.hasN Sc.hasD;simp;omega
section
variable {b:Br}
theorem p_say {id:Int} (h0:0≤id) (h1:id≤255) {m:M} (hm:m.ok=true):pEv b (sayE id m)=bytesB b id (enc m)∧pE b (sayE id m)=bytesE b id∧pT b (sayE id m)=[]:=by
 unfold pEv pE pT;rw [rt_say h0 h1 hm];exact ⟨rfl,rfl,rfl⟩
theorem p_con {id:Int} (h0:0≤id) (h1:id≤255):pEv b (conE id)=connectB b id∧pE b (conE id)=connectE b id∧pT b (conE id)=[]:=by
 unfold pEv pE pT;rw [rt_con h0 h1];exact ⟨rfl,rfl,rfl⟩
theorem p_all {id:Int} (h0:0≤id) (h1:id≤255):pEv b (allE id)=writeB b id 65536∧pE b (allE id)=writeE b id∧pT b (allE id)=writeT b id 65536:=by
 unfold pEv pE pT;rw [rt_all h0 h1];exact ⟨rfl,rfl,rfl⟩
theorem p_out {t:Bs} (h:t.length≤4000):pEv b (outE t)=outputB b t∧pE b (outE t)=outputE b∧pT b (outE t)=[]:=by
 unfold pEv pE pT;rw [rt_out h];exact ⟨rfl,rfl,rfl⟩
theorem p_dra {n:Int} (h0:0≤n) (h1:n≤65536):pEv b (draE n)=drainB b n∧pE b (draE n)=0∧pT b (draE n)=drainT b n:=by
 unfold pEv pE pT;rw [rt_dra h0 h1];exact ⟨rfl,rfl,rfl⟩
end
def alive6:List Sc.Ev:=[cmdE 1 wFloor,outE [36#8,32#8],sayE 1 (keys 9 [108#8,115#8,10#8]),sayE 2 (keys 3 [120#8]),allE 2,draE 99]
def aliveL:List Sc.Ev:=comesL 1 true 0 ++ comesL 2 false 0 ++ alive6
theorem al_ok:(uM true 0).ok=true∧(uM false 0).ok=true∧(keys 1 (esc wFloor)).ok=true∧(keys 9 [108#8,115#8,10#8]).ok=true∧(keys 3 [120#8]).ok=true:=
 ⟨uM_ok true (by decide) (by decide),uM_ok false (by decide) (by decide),keys_ok (by decide) (by decide) (by decide),keys_ok (by decide) (by decide) (by decide),keys_ok (by decide) (by decide) (by decide)⟩
theorem alive_right:∀ x∈aliveL,Sc.rtE x=true:=by
 obtain ⟨h1,h2,h3,h4,h5⟩:=al_ok;intro x hx;unfold aliveL comesL alive6 cmdE at hx;simp only [List.cons_append,List.nil_append,List.mem_cons,List.not_mem_nil,or_false] at hx
 rcases hx with rfl | rfl | rfl | rfl | rfl | rfl | rfl | rfl | rfl | rfl
 ·exact rt_con (by decide) (by decide)
 ·exact rt_say (by decide) (by decide) h1
 ·exact rt_con (by decide) (by decide)
 ·exact rt_say (by decide) (by decide) h2
 ·exact rt_say (by decide) (by decide) h3
 ·exact rt_out (by decide)
 ·exact rt_say (by decide) (by decide) h4
 ·exact rt_say (by decide) (by decide) h5
 ·exact rt_all (by decide) (by decide)
 ·exact rt_dra (by decide) (by decide)
theorem alive_run:pouts (bnew cfd) aliveL=[⟨0,[]⟩,⟨0,[]⟩,⟨0,[]⟩,⟨0,[]⟩,⟨0,[]⟩,⟨0,[]⟩,⟨0,[]⟩,⟨0,[]⟩,⟨0,encs avOut⟩,⟨0,[108#8,115#8,10#8]⟩]:=by
 obtain ⟨h1,h2,h3,h4,h5⟩:=al_ok;obtain ⟨_,_,_,_,_,e1,e2⟩:=av_first;obtain ⟨_,_,_,_,_,e3,e4,_⟩:=av_second false;obtain ⟨e5,e6,e7,e8,e9,e10,e11⟩:=av_is;have a0:=p_con (b:=bnew cfd) (id:=1) (by decide) (by decide);have a1:=p_say (b:=connectB (bnew cfd) 1) (id:=1) (by decide) (by decide) h1;have a2:=p_con (b:=av1) (id:=2) (by decide) (by decide);have a3:=p_say (b:=connectB av1 2) (id:=2) (by decide) (by decide) h2;have a4:=p_say (b:=av2 false) (id:=1) (by decide) (by decide) h3;have a5:=p_out (b:=av3) (t:=[36#8,32#8]) (by decide);have a6:=p_say (b:=av4) (id:=1) (by decide) (by decide) h4;have a7:=p_say (b:=av5) (id:=2) (by decide) (by decide) h5;have a8:=p_all (b:=av6) (id:=2) (by decide) (by decide);have a9:=p_dra (b:=writeB av6 2 65536) (n:=99) (by decide) (by decide);rw [e1] at a0;rw [e2] at a1;rw [e3] at a2;rw [e4] at a3;rw [e5] at a4;rw [e6] at a5;rw [e7] at a6;rw [e8] at a7;rw [e9,e10] at a8;rw [e11] at a9;have d1:bytesB (connectB (bnew cfd) 1) 1 (enc (uM true 0))=av1:=rfl;have d2:bytesB (connectB av1 2) 2 (enc (uM false 0))=av2 false:=rfl;have d3:bytesB (av2 false) 1 (enc (keys 1 (esc wFloor)))=av3:=rfl;have d4:outputB av3 [36#8,32#8]=av4:=rfl;have d5:bytesB av4 1 (enc (keys 9 [108#8,115#8,10#8]))=av5:=rfl;have d6:bytesB av5 2 (enc (keys 3 [120#8]))=av6:=rfl;rw [d1] at a1;rw [d2] at a3;rw [d3] at a4;rw [d4] at a5;rw [d5] at a6;rw [d6] at a7;unfold aliveL comesL alive6 cmdE;simp only [List.cons_append,List.nil_append,pouts];rw [a0.1,a0.2.1,a0.2.2,a1.1,a1.2.1,a1.2.2,a2.1,a2.2.1,a2.2.2,a3.1,a3.2.1,a3.2.2,a4.1,a4.2.1,a4.2.2,a5.1,a5.2.1,a5.2.2,a6.1,a6.2.1,a6.2.2,a7.1,a7.2.1,a7.2.2,a8.1,a8.2.1,a8.2.2,a9.2.1,a9.2.2]
end
section
open Go.RowKit
open Fr Bk
def wrE (n:Int):Sc.Ev:=⟨2,1,n,[]⟩
theorem rt_wr {n:Int} (h0:0≤n) (h1:n≤65536):Sc.rtE (wrE n)=true:=by
 unfold Sc.rtE Sc.inB Sc.ownB wrE Sc.hasI Sc.hasN Sc.hasD;simp;omega
theorem write_none {b:Br} {id n:Int} (h:writeE b id≠0):writeT b id n=[]:=by
 unfold writeE at h;unfold writeT
 by_cases x:isThere b id=true
 ·rw [if_pos x] at h; exact absurd rfl h
 ·rw [if_neg x]
def viewHd (t:Bs) (back:Int):List Sc.Ev:=outE t :: comesL 1 false back
theorem viewHd_right {t:Bs} (ht:t.length≤4000) {back:Int} (h0:0≤back) (hb:back≤1099511627776):∀ x∈viewHd t back,Sc.rtE x=true:=by
 intro x hx;unfold viewHd comesL at hx;simp only [List.mem_cons,List.not_mem_nil,or_false] at hx
 rcases hx with rfl | rfl | rfl
 ·exact rt_out ht
 ·exact rt_con (by decide) (by decide)
 ·exact rt_say (by decide) (by decide) (uM_ok false h0 hb)
theorem view_head {cf:Cf} (hc:CfOk cf) {t:Bs} (ht:t.length≤4000) {back:Int} (h0:0≤back) (hb:back≤1099511627776) :
  ∃ B2 c,VB cf t B2∧c.st=1∧c.out=enc (welcome 1 (startOf t.length cf.log back) 0) ++ enc (mfloor 0)∧c.p=startOf t.length cf.log back∧c.s=0 ∧
   prun (bnew cf) (viewHd t back)=Bk.settle (Bk.lone B2 1 c)∧wrt 1 [] ((viewHd t back).zip (pouts (bnew cf) (viewHd t back)))=[]∧otp [] ((viewHd t back).zip (pouts (bnew cf) (viewHd t back)))=t:=by
 have hm:t.length≤1099511627776:=by omega
 obtain ⟨o1,o2⟩:=bnew_out cf hm;have a0:=p_out (b:=bnew cf) ht;have a1:=p_con (b:=outputB (bnew cf) t) (id:=1) (by decide) (by decide);have a2:=p_say (b:=connectB (outputB (bnew cf) t) 1) (id:=1) (by decide) (by decide) (uM_ok false h0 hb);obtain ⟨v1,v2,B2,c,v3,v4,v5,v6,v7,v8⟩:=view_come (ahead_vb cf hm) hc.queue.1 (k:=1) (by decide) (by decide) h0 hb;rw [o1] at a1 a2;replace v1:connectE (bare (Bk.ahead cf t)) 1=0:=v1;replace v2:bytesE (connectB (bare (Bk.ahead cf t)) 1) 1=0:=v2;replace v8:bytesB (connectB (bare (Bk.ahead cf t)) 1) 1 (enc (uM false back))=Bk.settle (Bk.lone B2 1 c):=v8
 have ho:pouts (bnew cf) (viewHd t back)=[⟨0,[]⟩,⟨0,[]⟩,⟨0,[]⟩]:=by
  unfold viewHd comesL;simp only [pouts];rw [a0.1,o1,a1.1,a0.2.1,a0.2.2,a1.2.1,a1.2.2,a2.2.1,a2.2.2,o2,v1,v2]
 refine ⟨B2,c,v3,v4,v5,v6,v7,?_,?_,?_⟩
 ·unfold viewHd comesL
  simp only [prun];rw [a0.1,o1,a1.1,a2.1,v8]
 ·rw [ho]; rfl
 ·rw [ho]; exact List.nil_append _
end
section
open Go.RowKit
open Fr Bk
theorem pT_len {b:Br} {e:Sc.Ev}:(pT b e).length≤65536:=by
 have hx:∀ (n:Int) (l:Bs),n≤65536→(l.take (takeN n l.length)).length≤65536:=fun n l h=>by
  rw [List.length_take];unfold takeN;omega
 unfold pT
 split
 ·next hr =>
  have hk:=Sc.rtE_in hr;unfold doTx
  split
  ·unfold writeT
   split
   ·split
    ·exact hx _ _ hk.2.2.2.2.2.1
    ·exact Nat.zero_le _
   ·exact Nat.zero_le _
  ·unfold drainT
   exact hx _ _ hk.2.2.2.2.2.1
  ·exact Nat.zero_le _
 ·exact Nat.zero_le _
theorem pouts_t:∀ (L:List Sc.Ev) (b:Br),∀ x∈pouts b L,x.t.length≤65536
  | [],_,x,h=>by cases h
  | e :: L,b,x,h=>by
    rcases List.mem_cons.1 h with rfl | h
    · exact pT_len
    · exact pouts_t L _ x h
def cf0 (cf:Cf):Cf:={ cf with idle:=0 }
theorem cf0_ok {cf:Cf} (h:CfOk cf):CfOk (cf0 cf)∧EvOk (bnew (cf0 cf)) 0 0 0:=by
 have ho:CfOk (cf0 cf):=⟨h.log,h.data,h.queue,h.input,h.strikes,h.lease,Nat.zero_le _,h.width⟩;exact ⟨ho,conf_ev ho⟩
end
section
open Go.RowKit
open Fr Bk
theorem write_run {cf:Cf} {P Q:Bs→Bs→Cn→Prop} (K:VK cf P Q) {L:Bs}:∀ (N:List Sc.Ev) {G:Bs} {b:Br},VAt cf P Q 1 G L b→(∀ e∈N,∃ n:Int,e=wrE n∧0≤n∧n≤65536)→VAt cf P Q 1 (wrt 1 G (N.zip (pouts b N))) L (prun b N)
  | [],_,_,h,_=>h
  | e :: N,G,b,h,hN=>by
    obtain ⟨n,rfl,h0,h1⟩:=hN e List.mem_cons_self;have hw:=h.write K (by decide) (by decide) n
    have e1:pE b (wrE n)=writeE b 1∧pT b (wrE n)=writeT b 1 n∧pEv b (wrE n)=writeB b 1 n:=by
      unfold pE pT pEv;rw [rt_wr h0 h1];exact ⟨rfl,rfl,rfl⟩
    have e2:wstep 1 G (wrE n,⟨pE b (wrE n),pT b (wrE n)⟩)=G ++ writeT b 1 n:=by
      rw [e1.1,e1.2.1];unfold wstep
      by_cases hx:writeE b 1=0
      · rw [if_pos ⟨rfl,hx⟩,if_neg (by show ¬ (2:Int)=0; decide),if_pos (by rfl)]
      · rw [if_neg (fun x=>hx x.2),write_none hx,List.append_nil]
    have ih:=write_run K N (G:=G ++ writeT b 1 n) (b:=writeB b 1 n) hw fun x hx=>hN x (List.mem_cons_of_mem _ hx)
    show VAt cf P Q 1 (wrt 1 (wstep 1 G (wrE n,⟨pE b (wrE n),pT b (wrE n)⟩)) (N.zip (pouts (pEv b (wrE n)) N))) L (prun (pEv b (wrE n)) N)
    rw [e2,e1.2.2];exact ih
def datas (ms:List M):Bs:=ms.flatMap fun m=>if m.k=6 then m.t else []
theorem datas_texts:∀ ms:List M,(∀ m∈ms,m.k=6)→datas ms=texts ms
  | [],_=>rfl
  | m :: ms,h=>by
    show (if m.k=6 then m.t else []) ++ datas ms=m.t ++ texts ms
    rw [if_pos (h m List.mem_cons_self),datas_texts ms fun x hx=>h x (List.mem_cons_of_mem _ hx)]
theorem datas_app (a b:List M):datas (a ++ b)=datas a ++ datas b:=by unfold datas; rw [List.flatMap_append]
theorem catch_end {cf:Cf} (hc:CfOk cf) (hev:EvOk (bnew cf) 0 0 0) {t:Bs} (ht:t.length≤2000) (N:List Sc.Ev) (hN:∀ e∈N,∃ n:Int,e=wrE n∧0≤n∧n≤65536) {n:Int} (h0:0≤n) (h1:n≤65536) {ms:List M} {rest:Bs}
    (h:Msgs (wrt 1 [] ((viewHd t 5000 ++ (N ++ [wrE n])).zip (pouts (bnew cf) (viewHd t 5000 ++ (N ++ [wrE n]))))) ms rest) :
    (∀ m∈ms,m.k≠7∧m.k≠12∧m.k≠13)∧(seenB (prun (bnew cf) (viewHd t 5000 ++ (N ++ [wrE n]))) 1).2=true ∧
      (0<waitB (prun (bnew cf) (viewHd t 5000 ++ (N ++ [wrE n]))) 1∨(waitB (prun (bnew cf) (viewHd t 5000 ++ (N ++ [wrE n]))) 1=0∧rest=[]∧datas ms=t.drop (t.length - min t.length cf.log)∧(seenB (prun (bnew cf) (viewHd t 5000 ++ (N ++ [wrE n]))) 1).1=t.length)):=by
  obtain ⟨p,hp⟩:∃ p,startOf t.length cf.log 5000=p:=⟨_,rfl⟩
  have hpe:p=t.length - min t.length cf.log:=by rw [← hp]; unfold startOf; omega
  obtain ⟨B2,c,v3,v4,v5,v6,v7,v8,v9,v10⟩:=view_head hc (show t.length≤4000 by omega) (back:=5000) (by decide) (by decide);rw [hp] at v5 v6;have K:=Bk.cv cf (welcome 1 p 0) p hc.strikes;have hV:=v3.settle1 (k:=1) K (by decide) (by decide) v4 (cp_begin cf (by decide) (show t.length≤1099511627776 by omega) (by omega) (by omega) v5 v6 v7);rw [← v8] at hV;have hV1:=write_run K N hV hN
  obtain ⟨G1,hG1⟩:∃ G1,wrt 1 [] (N.zip (pouts (prun (bnew cf) (viewHd t 5000)) N))=G1:=⟨_,rfl⟩
  rw [hG1,← prun_app] at hV1
  have hts:tsum (viewHd t 5000 ++ N)≤1000000:=by
    rw [tsum_app]
    have h2:tsum (viewHd t 5000)≤12000:=by have:=tsum_le (viewHd t 5000); exact this
    have h3:∀ l:List Sc.Ev,(∀ e∈l,∃ n:Int,e=wrE n∧0≤n∧n≤65536)→tsum l=0:=fun l=>by
      induction l with
      | nil=>intro _; rfl
      | cons x l ih =>
        intro hx;obtain ⟨m,rfl,_,_⟩:=hx x List.mem_cons_self
        have h4:ewt (wrE m)=0:=by unfold ewt; split <;> rfl
        show ewt (wrE m)+tsum l=0
        rw [h4,ih fun y hy=>hx y (List.mem_cons_of_mem _ hy)]
    rw [h3 N hN];omega
  have hok:=(ev_from hev (viewHd t 5000 ++ N) hts).ok
  obtain ⟨b1,hb1⟩:∃ b1,prun (bnew cf) (viewHd t 5000 ++ N)=b1:=⟨_,rfl⟩
  rw [hb1] at hV1 hok
  have e1:pEv b1 (wrE n)=writeB b1 1 n:=by unfold pEv; rw [rt_wr h0 h1]; rfl
  have hfin:prun (bnew cf) (viewHd t 5000 ++ (N ++ [wrE n]))=writeB b1 1 n:=by
    rw [← List.append_assoc,prun_app,hb1];exact e1
  have hV2:=write_run K [wrE n] hV1 fun e he=>⟨n,List.mem_singleton.1 he,h0,h1⟩
  have hGf:wrt 1 [] ((viewHd t 5000 ++ (N ++ [wrE n])).zip (pouts (bnew cf) (viewHd t 5000 ++ (N ++ [wrE n]))))=wrt 1 G1 ([wrE n].zip (pouts b1 [wrE n])):=by
    rw [pouts_app,List.zip_append (pouts_len _ _).symm,wrt_app,v9,pouts_app,List.zip_append (pouts_len _ _).symm,wrt_app,hG1,← prun_app,hb1]
  rw [hGf] at h;rw [hfin]
  obtain ⟨G,hG⟩:∃ G,wrt 1 G1 ([wrE n].zip (pouts b1 [wrE n]))=G:=⟨_,rfl⟩
  rw [hG] at h hV2;have hV2:VAt cf (CP cf (welcome 1 p 0) p) (fun _ _ _=>False) 1 G t (pEv b1 (wrE n)):=hV2;rw [e1] at hV2
  have hrest:Bk.Rest (writeB b1 1 n):=by
    obtain ⟨B,hB,hx⟩:=hV1
    rcases hx with ⟨d,rfl,hst,hp⟩ | ⟨d,_,_,hq⟩ | ⟨d,_,_,hq⟩
    rotate_left
    · exact hq.elim
    · exact hq.elim
    have e2:writeB (Bk.lone B 1 d) 1 n=Bk.settle (setc (Bk.lone B 1 d) 1 (some { d with out:=d.out.drop (takeN n d.out.length) })):=by
      have:=there_lone (k:=1) (by decide) (by decide) B d;unfold writeB;rw [show Bk.isThere (Bk.lone B 1 d) 1=true from this,if_pos rfl]
      show (match (Bk.lone B 1 d).cs 1 with | some c=>Bk.settle (setc (Bk.lone B 1 d) 1 (some { c with out:=c.out.drop (takeN n c.out.length) })) | none=>Bk.lone B 1 d)=_
      rw [lone_cs]
    rw [e2];have hk:=hok.cn 1 d (lone_cs B 1 d);refine rest_settle (hok.setc 1 ⟨hk.p,hk.s,hk.name,hk.st⟩) ?_;rw [lone_setc];exact lone_in (by decide) (by decide)
  obtain ⟨B,hB,hx⟩:=hV2
  rcases hx with ⟨d,hd,hst,hcp⟩ | ⟨d,_,_,hq⟩ | ⟨d,_,_,hq⟩
  rotate_left
  · exact hq.elim
  · exact hq.elim
  rw [hd] at hrest ⊢;obtain ⟨q1,q2,q3,all,q4,q5,q6,q7,q8⟩:=hcp
  have hsn:seenB (Bk.lone B 1 d) 1=(d.p,true):=by
    unfold seenB userB
    have ho:opn (Bk.lone B 1 d) 1=true:=by unfold opn; rw [lone_cs]; simpa using hst
    rw [if_pos (show 1≤(1:Int)∧(1:Int)≤16∧opn (Bk.lone B 1 d) (1:Int).toNat=true from ⟨by decide,by decide,ho⟩)]
    show (match (Bk.lone B 1 d).cs 1 with | some c=>(c.p,true) | none=>(0,false))=_
    rw [lone_cs]
  have hwt:waitB (Bk.lone B 1 d) 1=d.out.length:=by
    have:=there_lone (k:=1) (by decide) (by decide) B d;unfold waitB;rw [show Bk.isThere (Bk.lone B 1 d) 1=true from this,if_pos rfl]
    show (match (Bk.lone B 1 d).cs 1 with | some c=>c.out.length | none=>0)=_
    rw [lone_cs]
  rw [hsn,hwt];have hpre:=h.pre q5 q4;refine ⟨fun m hm=>?_,rfl,?_⟩
  · rw [hpre] at hm
    have hm:=List.mem_of_mem_take hm
    rcases List.mem_cons.1 hm with rfl | hm
    · exact ⟨by show (5:Int)≠7; decide,by show (5:Int)≠12; decide,by show (5:Int)≠13; decide⟩
    rcases List.mem_cons.1 hm with rfl | hm
    · exact ⟨by show (9:Int)≠7; decide,by show (9:Int)≠12; decide,by show (9:Int)≠13; decide⟩
    · rw [q6 m hm]; exact ⟨by decide,by decide,by decide⟩
  · by_cases ho:d.out=[]
    · refine .inr ⟨by rw [ho]; rfl,?_⟩
      rw [ho,List.append_nil] at q4;obtain ⟨a1,a2⟩:=msgs_all ms h.all h.ok q5 q4 h.stop;have hn:=hrest.seen 1 d (lone_cs B 1 d) hst
      have hpt:d.p=t.length:=by
        have e:nextB (Bk.lone B 1 d) d=nextOf B.L B.cf.log d.p d.s ((B.cf.queue:Int) - d.out.length - 200) B.cf.data B.strikes:=rfl;rw [e,hB.L,hB.cf,ho] at hn;unfold nextOf at hn;rw [if_neg (by omega)] at hn
        split at hn
        · next hz =>
          unfold Bk.countOf at hz;have h5:=hc.data.1;have h6:=hc.queue.1;replace hz:(min (min (min (cf.data:Int) (max ((cf.queue:Int) - 0 - 200) 11 - 11)) 2042) ((t.length:Int) - d.p)).toNat=0:=hz;omega
        · cases hn
      refine ⟨a2,?_,hpt⟩;rw [a1]
      show datas ([welcome 1 p 0,mfloor 0] ++ all)=_
      rw [datas_app,datas_texts all q6,q8,hpt,show datas [welcome 1 p 0,mfloor 0]=[] from rfl,List.nil_append,← hpe];rw [List.take_of_length_le (by rw [List.length_drop]; exact Nat.le_refl _)]
    · refine .inl ?_
      rcases hl:d.out with _ | ⟨x,l⟩
      · exact absurd hl ho
      · exact Nat.succ_pos _
end
section
open Go.RowKit
open Fr Bk
def boundN (lag data:Nat):Nat:=lag+11 * (lag / data+1)+11 * (lag / 9+1)
theorem boundN_le {lag data:Nat} (h:lag≤2000):boundN lag data≤30000:=by
 unfold boundN;have:=Nat.div_le_self lag data;omega
theorem tdiv_nat (a b:Nat):(a:Int).tdiv (b:Int)=((a / b:Nat):Int):=rfl
theorem bound_any {lag data:Nat} (h:lag≤2000) (h1:1≤data) (h2:data≤2042) (w:World) :
  Calls Tryz.prog 32 #[.int .i64 (lag:Nat),.int .i64 (data:Nat)] w fun r w'=>r = .returned (.int .i64 (boundN lag data:Nat))∧w'=w:=by
 obtain ⟨q,hq⟩:∃ q,lag / data=q:=⟨_,rfl⟩
 have hql:q≤2000:=by rw [← hq]; have:=Nat.div_le_self lag data; omega
 obtain ⟨r,hr⟩:∃ r,lag / 9=r:=⟨_,rfl⟩
 have hrl:r≤2000:=by rw [← hr]; have:=Nat.div_le_self lag 9; omega
 have e1:(lag:Int).tdiv (data:Int)=(q:Int):=by rw [tdiv_nat,hq]
 have e2:(lag:Int).tdiv 9=(r:Int):=by rw [show (9:Int)=((9:Nat):Int) from rfl,tdiv_nat,hr]
 have d0:((data:Int) == 0)=false:=by simp; omega
 have d1:((data:Int)=0)=False:=by simp; omega
 have hF:(boundN lag data:Int)=(lag:Int)+11 * ((q:Int)+1)+11 * ((r:Int)+1):=by unfold boundN; rw [hq,hr]; omega
 rw [hF]
 go_enter Tryz.func32,Tryz.ntmps32
 go_wp2;go_ret;exact ⟨rfl,rfl⟩
end
section
open Go.RowKit
section
open Sc
theorem cbs_len (a b c d e f g h:Int):(cbs a b c d e f g h).length=24:=by simp [cbs,cfb,three_len]
theorem cof_three (a:Nat) (ha:a<16777216) (p r:Bs) (i:Nat) (hp:p.length=3 * i):cof (p ++ (three a ++ r)) i=a:=by
 unfold cof;rw [← hp,List.drop_left' rfl,List.take_left' (three_len a),nat_three a ha]
theorem cof_cbs {a b c d e f g h:Int} (k:rt a b c d e f g h=true) (r:Bs):cf8 (cof (cbs a b c d e f g h ++ r))=cv a b c d e f g h∧rtc (cbs a b c d e f g h ++ r)=true:=by
 obtain ⟨⟨a0,a1⟩,⟨b0,b1⟩,⟨c0,c1⟩,⟨d0,d1⟩,⟨e0,e1⟩,⟨f0,f1⟩,⟨g0,g1⟩,⟨h0,h1⟩⟩:=rt_bounds k;obtain ⟨ai,rfl⟩:=Int.eq_ofNat_of_zero_le (show 0≤a by omega);obtain ⟨bi,rfl⟩:=Int.eq_ofNat_of_zero_le (show 0≤b by omega);obtain ⟨ci,rfl⟩:=Int.eq_ofNat_of_zero_le (show 0≤c by omega);obtain ⟨di,rfl⟩:=Int.eq_ofNat_of_zero_le (show 0≤d by omega);obtain ⟨ei,rfl⟩:=Int.eq_ofNat_of_zero_le (show 0≤e by omega);obtain ⟨fi,rfl⟩:=Int.eq_ofNat_of_zero_le (show 0≤f by omega);obtain ⟨gi,rfl⟩:=Int.eq_ofNat_of_zero_le (show 0≤g by omega);obtain ⟨hi,rfl⟩:=Int.eq_ofNat_of_zero_le (show 0≤h by omega)
 have q0:cof (cbs ai bi ci di ei fi gi hi ++ r) 0=ai:=by
  rw [show cbs ai bi ci di ei fi gi hi ++ r=([]) ++ (three ai ++ (three bi ++ (three ci ++ (three di ++ (three ei ++ (three fi ++ (three gi ++ (three hi ++ (r))))))))) by simp [cbs,cfb]];exact cof_three _ (by omega) _ _ 0 rfl
 have q1:cof (cbs ai bi ci di ei fi gi hi ++ r) 1=bi:=by
  rw [show cbs ai bi ci di ei fi gi hi ++ r=(three ai) ++ (three bi ++ (three ci ++ (three di ++ (three ei ++ (three fi ++ (three gi ++ (three hi ++ (r)))))))) by simp [cbs,cfb]];exact cof_three _ (by omega) _ _ 1 rfl
 have q2:cof (cbs ai bi ci di ei fi gi hi ++ r) 2=ci:=by
  rw [show cbs ai bi ci di ei fi gi hi ++ r=(three ai ++ three bi) ++ (three ci ++ (three di ++ (three ei ++ (three fi ++ (three gi ++ (three hi ++ (r))))))) by simp [cbs,cfb]];exact cof_three _ (by omega) _ _ 2 rfl
 have q3:cof (cbs ai bi ci di ei fi gi hi ++ r) 3=di:=by
  rw [show cbs ai bi ci di ei fi gi hi ++ r=(three ai ++ three bi ++ three ci) ++ (three di ++ (three ei ++ (three fi ++ (three gi ++ (three hi ++ (r)))))) by simp [cbs,cfb]];exact cof_three _ (by omega) _ _ 3 rfl
 have q4:cof (cbs ai bi ci di ei fi gi hi ++ r) 4=ei:=by
  rw [show cbs ai bi ci di ei fi gi hi ++ r=(three ai ++ three bi ++ three ci ++ three di) ++ (three ei ++ (three fi ++ (three gi ++ (three hi ++ (r))))) by simp [cbs,cfb]];exact cof_three _ (by omega) _ _ 4 rfl
 have q5:cof (cbs ai bi ci di ei fi gi hi ++ r) 5=fi:=by
  rw [show cbs ai bi ci di ei fi gi hi ++ r=(three ai ++ three bi ++ three ci ++ three di ++ three ei) ++ (three fi ++ (three gi ++ (three hi ++ (r)))) by simp [cbs,cfb]];exact cof_three _ (by omega) _ _ 5 rfl
 have q6:cof (cbs ai bi ci di ei fi gi hi ++ r) 6=gi:=by
  rw [show cbs ai bi ci di ei fi gi hi ++ r=(three ai ++ three bi ++ three ci ++ three di ++ three ei ++ three fi) ++ (three gi ++ (three hi ++ (r))) by simp [cbs,cfb]];exact cof_three _ (by omega) _ _ 6 rfl
 have q7:cof (cbs ai bi ci di ei fi gi hi ++ r) 7=hi:=by
  rw [show cbs ai bi ci di ei fi gi hi ++ r=(three ai ++ three bi ++ three ci ++ three di ++ three ei ++ three fi ++ three gi) ++ (three hi ++ (r)) by simp [cbs,cfb]];exact cof_three _ (by omega) _ _ 7 rfl
 unfold rtc cf8 cv;rw [q0,q1,q2,q3,q4,q5,q6,q7];exact ⟨rfl,k⟩
def CGives (a b c d e f g h:Int) (r:Bs) (w:World) (x:Ending) (w':World):Prop:=
 Below w.heap.size w w'∧∃ (L:List Ev) (m er:Nat) (A:Option Addr) (n cp:Nat),x = .returned (.tuple #[.agg (cv a b c d e f g h),.slice A n cp,.int .i64 (24+m:Nat),.int .i64 er]) ∧
  EvRow w.heap.size w' A n cp L∧Reads r L m er
theorem decode_cbs {a b c d e f g h:Int} (k:rt a b c d e f g h=true) (A:Option Addr) (n cap:Nat) (r:Bs) (w:World) (hl:Bytes w w.heap.size A n (cbs a b c d e f g h ++ r)) (hcap:n≤cap) (hm:cap≤9223372036854775807) (hn:n≤262144) :
  Calls Tryz.prog 71 #[.slice A n cap] w (CGives a b c d e f g h r w):=by
 refine (decode_any A n cap _ w hl hcap hm).mono ?_;rintro x w' ⟨hb,hg⟩;have hlen:=hl.1
 have hlr:(cbs a b c d e f g h ++ r).length=24+r.length:=by rw [List.length_append,cbs_len]
 obtain ⟨p1,p2⟩:=cof_cbs k r
 rcases hg with ⟨h1,_⟩ | ⟨h1,_⟩ | ⟨_,_,h1,_⟩ | ⟨_,_,_,L,m,er,A',n',c',rfl,hrow,hrd⟩
 ·omega
 ·omega
 ·rw [p2] at h1; cases h1
 ·rw [p1]
  rw [List.drop_left' (cbs_len ..)] at hrd;exact ⟨hb,L,m,er,A',n',c',rfl,hrow,hrd⟩
theorem Own.capmax {base n c:Nat} {w:World} {a:Option Addr} {l:Bs} (h:Own base w a n c l):c≤9223372036854775807:=by
 rcases h.row.2 with ⟨h0,_⟩ | ⟨g,cap,cur,e,_,_,_,hm,_⟩
 ·injection h0 with _ _ h2
  omega
 ·injection e with _ _ h2
  unfold maxLen at hm;omega
end
open Fr Bk
theorem cf_rt {cf:Cf} (h:CfOk cf):rt (cf.log:Nat) (cf.data:Nat) (cf.queue:Nat) (cf.input:Nat) (cf.strikes:Nat) (cf.lease:Nat) (cf.idle:Nat) (cf.width:Nat)=true:=by
 obtain ⟨h1,h2,h3,h4,h5,h6,h7,h8⟩:=h;simp [rt,bw];omega
def cfBytes (cf:Cf):Bs:=cbs (cf.log:Nat) (cf.data:Nat) (cf.queue:Nat) (cf.input:Nat) (cf.strikes:Nat) (cf.lease:Nat) (cf.idle:Nat) (cf.width:Nat)
def scBytes (cf:Cf) (L:List Sc.Ev):Bs:=cfBytes cf ++ Sc.evs L
theorem scBytes_len (cf:Cf) (L:List Sc.Ev):(scBytes cf L).length=24+(Sc.evs L).length:=by
 unfold scBytes cfBytes;rw [List.length_append,cbs_len]
def PBGives (cf:Cf) (L:List Sc.Ev) (n:Nat) (w:World) (r:Ending) (w':World):Prop:=
 ∃ g n0 a c,r = .returned (.tuple #[.pointer (some (at0 g)),.slice a L.length c,.int .i64 (n:Nat),.int .i64 0])∧w.heap.size≤n0∧LS n0 (In a) g w' (prun (bnew cf) L)∧OtRow w.heap.size w' a L.length c (pouts (bnew cf) L)∧(∀ x,In a x→g<x)∧Below w.heap.size w w'
theorem pbytes_any {cf:Cf} (ho:CfOk cf) (hev:EvOk (bnew cf) 0 0 0) (L:List Sc.Ev) (hr:∀ x∈L,Sc.rtE x=true) (h8:L.length≤8192) (hs:tsum L≤1000000) (A:Option Addr) (n cap:Nat) (w:World) (ht:TI w) (hl:Bytes w w.heap.size A n (scBytes cf L)) (hcap:n≤cap) (hm:cap≤9223372036854775807) (hn:n≤262144) :
  Calls Tryz.prog 37 #[.slice A n cap] w (PBGives cf L n w):=by
 have hlen:=hl.1;rw [scBytes_len] at hlen;have HD:=lj (decode_cbs (cf_rt ho) A n cap (Sc.evs L) w hl hcap hm hn);have HT:=lj ht;have HO:=lj (And.intro ho hev);have HR:=lj hr;have HLen:=lj hlen;clear ht hl ho hev hr hlen
 go_enter Tryz.func37,Tryz.ntmps37
 go_wp2_with fail
 refine HD.out.mono ?_;rintro x w1 ⟨hb1,L1,m,er,A1,n1,c1,rfl,hrow,hrd⟩;obtain ⟨rfl,hme,rfl⟩:=Sc.reads_all hrd HR.out h8;have hn1:=hrow.len
 obtain rfl:24+m=n:=by rw [hme]; exact HLen.out
 have HEv:=lj (show EvIn w1 w1.heap.size A1 L1 from hrow.evin);have HB1:=lj hb1;have HT1:=lj (HT.out.below hb1);clear hrow hrd hb1 hme HD HLen;unfold cv;have hx2:=Bx.new w1 _ rfl #[.int .i64 cf.log,.int .i64 cf.data,.int .i64 cf.queue,.int .i64 cf.input,.int .i64 cf.strikes,.int .i64 cf.lease,.int .i64 cf.idle,.int .i64 cf.width] 23;have hb2:Below w1.heap.size w1 (w1.alloc (.cells #[.int .i64 cf.log,.int .i64 cf.data,.int .i64 cf.queue,.int .i64 cf.input,.int .i64 cf.strikes,.int .i64 cf.lease,.int .i64 cf.idle,.int .i64 cf.width] 23)):=(Below.refl _ _).alloc (Nat.le_refl _) _
 go_upto_region 2 with fail
 generalize w1.alloc (.cells #[.int .i64 cf.log,.int .i64 cf.data,.int .i64 cf.queue,.int .i64 cf.input,.int .i64 cf.strikes,.int .i64 cf.lease,.int .i64 cf.idle,.int .i64 cf.width] 23)=w2 at *;have HX2:=lj hx2;have HB2:=lj (HB1.out.trans (hb2.mono HB1.out.size));have HP:=lj (show Calls Tryz.prog 26 #[.agg #[.int .i64 cf.log,.int .i64 cf.data,.int .i64 cf.queue,.int .i64 cf.input,.int .i64 cf.strikes,.int .i64 cf.lease,.int .i64 cf.idle,.int .i64 cf.width],.slice A1 n1 c1] w2 (PGives cf L1 w2) from pevents_any HO.out.1 HO.out.2 A1 n1 c1 L1 w2 (HT1.out.below hb2) ((HEv.out.below hb2).more hb2.size) hn1 (by omega) hs);clear hx2 hb2 HEv HB1 HT1;have z0:=HX2.out.cell 0 (.int .i64 cf.log) rfl;have z1:=HX2.out.cell 1 (.int .i64 cf.data) rfl;have z2:=HX2.out.cell 2 (.int .i64 cf.queue) rfl;have z3:=HX2.out.cell 3 (.int .i64 cf.input) rfl;have z4:=HX2.out.cell 4 (.int .i64 cf.strikes) rfl;have z5:=HX2.out.cell 5 (.int .i64 cf.lease) rfl;have z6:=HX2.out.cell 6 (.int .i64 cf.idle) rfl;have z7:=HX2.out.cell 7 (.int .i64 cf.width) rfl
 go_wp2_with fail
 refine HP.out.mono ?_;rintro r w3 ⟨g,n0,a,c,rfl,hn0,hls,hrow,hag,hb3⟩;have HF:=lj (show PBGives cf L1 (24+m) w (.returned (.tuple #[.pointer (some (at0 g)),.slice a L1.length c,.int .i64 ((24+m:Nat):Nat),.int .i64 0])) w3 from ⟨g,n0,a,c,rfl,Nat.le_trans HB2.out.size hn0,hls,hrow.mono HB2.out.size,hag,HB2.out.trans (hb3.mono HB2.out.size)⟩);clear hls hrow hag hb3 HP z0 z1 z2 z3 z4 z5 z6 z7;go_wp2;exact bodyPost_ret (v:=.tuple #[.pointer (some (at0 g)),.slice a L1.length c,.int .i64 ((24+m:Nat):Nat),.int .i64 0]) (by simp [results,Tryz.results37,go_sem,hn1]) rfl HF.out
def PLGives (cf:Cf) (L:List Sc.Ev) (w:World) (r:Ending) (w':World):Prop:=
 ∃ g n0 a c,r = .returned (.tuple #[.pointer (some (at0 g)),.slice a L.length c,.bool true])∧w.heap.size≤n0∧LS n0 (In a) g w' (prun (bnew cf) L)∧OtRow w.heap.size w' a L.length c (pouts (bnew cf) L)∧(∀ x,In a x→g<x)∧Below w.heap.size w w'
theorem played_any {cf:Cf} (ho:CfOk cf) (hev:EvOk (bnew cf) 0 0 0) (L:List Sc.Ev) (hr:∀ x∈L,Sc.rtE x=true) (h8:L.length≤8192) (hs:tsum L≤1000000) (he:(Sc.evs L).length≤262000) (A:Option Addr) (n cap:Nat) (w:World) (ht:TI w) (hl:EvIn w w.heap.size A L) (hn:L.length=n) :
  Calls Tryz.prog 16 #[.agg (cfRow cf),.slice A n cap] w (PLGives cf L w):=by
 have HT:=lj ht;have HO:=lj (And.intro ho hev);have HR:=lj hr;have HL:=lj hl;have HN:=lj hn;have HE:=lj he
 have h8n:n≤8192:=by omega
 clear ht hl ho hev hr he;have hx1:=Bx.new w _ rfl #[.int .i64 cf.log,.int .i64 cf.data,.int .i64 cf.queue,.int .i64 cf.input,.int .i64 cf.strikes,.int .i64 cf.lease,.int .i64 cf.idle,.int .i64 cf.width] 23;have hb1:Below w.heap.size w (w.alloc (.cells #[.int .i64 cf.log,.int .i64 cf.data,.int .i64 cf.queue,.int .i64 cf.input,.int .i64 cf.strikes,.int .i64 cf.lease,.int .i64 cf.idle,.int .i64 cf.width] 23)):=(Below.refl _ _).alloc (Nat.le_refl _) _
 show Calls Tryz.prog 16 #[.agg #[.int .i64 cf.log,.int .i64 cf.data,.int .i64 cf.queue,.int .i64 cf.input,.int .i64 cf.strikes,.int .i64 cf.lease,.int .i64 cf.idle,.int .i64 cf.width],.slice A n cap] w (PLGives cf L w)
 go_enter Tryz.func16,Tryz.ntmps16
 go_upto_region 1 with fail
 generalize w.alloc (.cells #[.int .i64 cf.log,.int .i64 cf.data,.int .i64 cf.queue,.int .i64 cf.input,.int .i64 cf.strikes,.int .i64 cf.lease,.int .i64 cf.idle,.int .i64 cf.width] 23)=w1 at *
 obtain ⟨gc,hgc⟩:∃ gc,w.heap.size=gc:=⟨_,rfl⟩
 rw [hgc] at hx1 hb1 ⊢;have HX1:=lj hx1;have HB1:=lj hb1;have HG:=lj hgc;have HP:=lj (show Calls Tryz.prog 36 #[.agg #[.int .i64 cf.log,.int .i64 cf.data,.int .i64 cf.queue,.int .i64 cf.input,.int .i64 cf.strikes,.int .i64 cf.lease,.int .i64 cf.idle,.int .i64 cf.width],.slice A n cap] w1 (EGivesS (cf.log:Nat) (cf.data:Nat) (cf.queue:Nat) (cf.input:Nat) (cf.strikes:Nat) (cf.lease:Nat) (cf.idle:Nat) (cf.width:Nat) L w1) from encode_any _ _ _ _ _ _ _ _ A n cap L w1 ((HL.out.below (hgc ▸ hb1)).more hb1.size) HN.out (by omega));clear hx1 hb1 hgc;have z0:=HX1.out.cell 0 (.int .i64 cf.log) rfl;have z1:=HX1.out.cell 1 (.int .i64 cf.data) rfl;have z2:=HX1.out.cell 2 (.int .i64 cf.queue) rfl;have z3:=HX1.out.cell 3 (.int .i64 cf.input) rfl;have z4:=HX1.out.cell 4 (.int .i64 cf.strikes) rfl;have z5:=HX1.out.cell 5 (.int .i64 cf.lease) rfl;have z6:=HX1.out.cell 6 (.int .i64 cf.idle) rfl;have z7:=HX1.out.cell 7 (.int .i64 cf.width) rfl
 go_wp2_with fail
 refine HP.out.mono ?_;rintro r w2 ⟨hb2,hg⟩
 rcases hg with ⟨h1,_⟩ | ⟨_,h1,_⟩ | ⟨_,_,_,A2,cp,rfl,hown⟩
 ·exact absurd h1 (by omega)
 ·rcases h1 with h1 | ⟨x,hx,h1⟩
  ·rw [cf_rt HO.out.1] at h1; cases h1
  ·rw [HR.out x hx] at h1; cases h1
 have HB2:=lj (HB1.out.trans (hb2.mono (show gc≤w1.heap.size from by rw [← HG.out]; exact HB1.out.size)));have hm:24+(Sc.evs L).length≤cp:=hown.cap;have HBy:=lj (pbytes_any HO.out.1 HO.out.2 L HR.out h8 hs A2 (24+(Sc.evs L).length) cp w2 (HT.out.below (by rw [HG.out]; exact HB2.out)) (show Bytes w2 w2.heap.size A2 (24+(Sc.evs L).length) (scBytes cf L) from hown.bytes) hm hown.capmax (by have:=HE.out; omega));have hel:=HE.out
 obtain ⟨N,hN⟩:∃ N,24+(Sc.evs L).length=N:=⟨_,rfl⟩
 rw [hN] at HBy ⊢;clear hown hm hb2 HP z0 z1 z2 z3 z4 z5 z6 z7 hN hel
 go_wp2_with fail
 refine HBy.out.mono ?_;rintro r w3 ⟨g,n0,a,c,rfl,hn0,hls,hrow,hag,hb3⟩;have hdn:decide ((L.length:Int)=(n:Int))=true:=decide_eq_true (by rw [hn]);have HF:=lj (show PLGives cf L w (.returned (.tuple #[.pointer (some (at0 g)),.slice a L.length c,.bool true])) w3 from ⟨g,n0,a,c,rfl,Nat.le_trans HB2.out.size hn0,hls,hrow.mono HB2.out.size,hag,by rw [HG.out]; exact HB2.out.trans (hb3.mono (show gc≤w2.heap.size from by rw [← HG.out]; exact HB2.out.size))⟩);clear hls hrow hag hb3 HBy;go_wp2;exact bodyPost_ret (v:=.tuple #[.pointer (some (at0 g)),.slice a L.length c,.bool true]) (by simp [results,Tryz.results16,go_sem,hn]) rfl HF.out
end
section
open Go.RowKit
open Fr Bk
theorem cfd_rt8:CfOk cfd:=⟨by decide,by decide,by decide,by decide,by decide,by decide,by decide,by decide⟩
theorem avOut_ok:∀ m∈avOut,m.ok=true:=by
 have h:(avOut.all fun m=>m.ok)=true:=by decide
 exact fun m hm=>List.all_eq_true.1 h m hm
theorem avOut_len:(encs avOut).length≤20000:=by
 unfold encs avOut;simp only [List.flatMap_cons,List.flatMap_nil,List.length_append,List.length_nil,enc_len5]
 decide
theorem alive_len:(Sc.evs aliveL).length≤262000∧tsum aliveL≤1000000∧aliveL.length=10:=by
 have h10:aliveL.length=10:=rfl;have h1:=evs_le alive_right;have h2:=tsum_le aliveL;rw [h10] at h1 h2;exact ⟨by omega,by omega,h10⟩
set_option maxHeartbeats 4000000 in
theorem alive_any (w:World) (ht:TI w):Calls Tryz.prog 12 #[] w fun r w'=>r = .returned (.bool true)∧Below w.heap.size w w':=by
  have HTI:=lj ht;have HC1:=lj (comes_any 1 true 0 (by decide) (by decide) w);clear ht
  go_enter Tryz.func12,Tryz.ntmps12
  go_wp2_with fail
  refine HC1.out.mono ?_;rintro r w1 ⟨A1,c1,rfl,hr1,hb1⟩;have HB1:=lj hb1;have HR1:=lj hr1;have HC2:=lj (comes_any 2 false 0 (by decide) (by decide) w1);clear hr1 hb1 HC1
  go_wp2_with fail
  refine HC2.out.mono ?_;rintro r w2 ⟨A2,c2,rfl,hr2,hb2⟩;have HB2:=lj (HB1.out.trans (hb2.mono HB1.out.size));have HR2:=lj hr2.evin;have HR1b:=lj (HR1.out.below hb2);have hz2:=HB2.out.size;clear hr2 hb2 HC2 HR1
  go_wp2_with (first
    | (at_builtin
       refine wpList_eapp rfl (.tmp 10) (.tmp 11) rfl rfl HR1b.out rfl HR2.out rfl (by decide) hz2 ?_;intro A3 c3 w3 hr3 hb3;have HR3:=lj (show EvRow w.heap.size w3 A3 4 c3 (comesL 1 true 0 ++ comesL 2 false 0) from hr3);have HB3:=lj (HB2.out.trans hb3);clear hr3 hb3
       go_upto_region 2 with fail))
  have HK:=lj (show Calls Tryz.prog 20 #[.int .i64 1,.string ⟨#[102,108,111,111,114]⟩] w3 fun r w'=>r = .returned (evv (cmdE 1 wFloor))∧Below w3.heap.size w3 w' from command_any 1 wFloor (by decide) w3);refine HK.out.mono ?_;rintro r w4 ⟨rfl,hb4⟩;have HB4:=lj (HB3.out.trans (hb4.mono HB3.out.size));have HR4:=lj (HR3.out.below hb4);have HS:=lj (show Calls Tryz.prog 22 #[.int .i64 1,.agg #[.int .i64 2,.int .i64 9,.int .i64 0,.string ⟨#[108,115,10]⟩]] w4 fun r w'=>r = .returned (evv (sayE 1 (keys 9 [108#8,115#8,10#8])))∧Below w4.heap.size w4 w' from said_any 1 (keys 9 [108#8,115#8,10#8]) al_ok.2.2.2.1 w4)
  obtain ⟨x1,hx1⟩:∃ x1,enc (keys 1 (esc wFloor))=x1:=⟨_,rfl⟩
  have hv1:evv (cmdE 1 wFloor) = .agg #[.int .i64 1,.int .i64 1,.int .i64 0,.string (str x1)]:=by rw [← hx1]; rfl
  rw [hv1];have HX1:=lj hx1;clear hb4 HK HB3 HR3 hv1 hx1
  go_wp2_with fail
  refine HS.out.mono ?_;rintro r w5 ⟨rfl,hb5⟩;have HB5:=lj (HB4.out.trans (hb5.mono HB4.out.size));have HR5:=lj (HR4.out.below hb5);have HS2:=lj (show Calls Tryz.prog 22 #[.int .i64 2,.agg #[.int .i64 2,.int .i64 3,.int .i64 0,.string ⟨#[120]⟩]] w5 fun r w'=>r = .returned (evv (sayE 2 (keys 3 [120#8])))∧Below w5.heap.size w5 w' from said_any 2 (keys 3 [120#8]) al_ok.2.2.2.2 w5)
  obtain ⟨x2,hx2⟩:∃ x2,enc (keys 9 [108#8,115#8,10#8])=x2:=⟨_,rfl⟩
  have hv2:evv (sayE 1 (keys 9 [108#8,115#8,10#8])) = .agg #[.int .i64 1,.int .i64 1,.int .i64 0,.string (str x2)]:=by rw [← hx2]; rfl
  rw [hv2];have HX2:=lj hx2;clear hb5 HS HB4 HR4 hv2 hx2
  go_wp2_with fail
  refine HS2.out.mono ?_;rintro r w6 ⟨rfl,hb6⟩;have HB6:=lj (HB5.out.trans (hb6.mono HB5.out.size));have HR6:=lj (HR5.out.below hb6);have HS3:=lj (all_any 2 w6)
  obtain ⟨x3,hx3⟩:∃ x3,enc (keys 3 [120#8])=x3:=⟨_,rfl⟩
  have hv3:evv (sayE 2 (keys 3 [120#8])) = .agg #[.int .i64 1,.int .i64 2,.int .i64 0,.string (str x3)]:=by rw [← hx3]; rfl
  rw [hv3];have HX3:=lj hx3;clear hb6 HS2 HB5 HR5 hv3 hx3
  go_wp2_with fail
  refine HS3.out.mono ?_;rintro r w7 ⟨rfl,hb7⟩;have hv4:evv (allE 2) = .agg #[.int .i64 2,.int .i64 2,.int .i64 65536,.string ⟨#[]⟩]:=rfl;rw [hv4];have HB7:=lj (HB6.out.trans (hb7.mono HB6.out.size));have hb8:Below w7.heap.size w7 (w7.alloc (.cells #[.int .i64 1,.int .i64 1,.int .i64 0,.string (str x1),.int .i64 3,.int .i64 0,.int .i64 0,.string ⟨#[36,32]⟩,.int .i64 1,.int .i64 1,.int .i64 0,.string (str x2),.int .i64 1,.int .i64 2,.int .i64 0,.string (str x3),.int .i64 2,.int .i64 2,.int .i64 65536,.string ⟨#[]⟩,.int .i64 4,.int .i64 0,.int .i64 99,.string ⟨#[]⟩] 30)):=(Below.refl _ _).alloc (Nat.le_refl _) _;have HR8:=lj ((HR6.out.below hb7).below hb8)
  have HN8:=lj (show EvIn (w7.alloc (.cells #[.int .i64 1,.int .i64 1,.int .i64 0,.string (str x1),.int .i64 3,.int .i64 0,.int .i64 0,.string ⟨#[36,32]⟩,.int .i64 1,.int .i64 1,.int .i64 0,.string (str x2),.int .i64 1,.int .i64 2,.int .i64 0,.string (str x3),.int .i64 2,.int .i64 2,.int .i64 65536,.string ⟨#[]⟩,.int .i64 4,.int .i64 0,.int .i64 99,.string ⟨#[]⟩] 30)) _ (some ⟨w7.heap.size,0,none⟩) alive6 from (evrow_new (base:=0) w7 (Nat.zero_le _) alive6 #[.int .i64 1,.int .i64 1,.int .i64 0,.string (str x1),.int .i64 3,.int .i64 0,.int .i64 0,.string ⟨#[36,32]⟩,.int .i64 1,.int .i64 1,.int .i64 0,.string (str x2),.int .i64 1,.int .i64 2,.int .i64 0,.string (str x3),.int .i64 2,.int .i64 2,.int .i64 65536,.string ⟨#[]⟩,.int .i64 4,.int .i64 0,.int .i64 99,.string ⟨#[]⟩] (by rw [← HX1.out,← HX2.out,← HX3.out]; rfl) (by decide) (fun e he=>by
    have h9:=alive_right e (List.mem_append_right _ he);have:=(Sc.rtE_in h9).2.2.2.2.2.2;unfold maxLen
    omega)).evin)
  have HB8:=lj (HB7.out.trans (hb8.mono HB7.out.size));have hz8:w.heap.size≤(w7.alloc (.cells #[.int .i64 1,.int .i64 1,.int .i64 0,.string (str x1),.int .i64 3,.int .i64 0,.int .i64 0,.string ⟨#[36,32]⟩,.int .i64 1,.int .i64 1,.int .i64 0,.string (str x2),.int .i64 1,.int .i64 2,.int .i64 0,.string (str x3),.int .i64 2,.int .i64 2,.int .i64 65536,.string ⟨#[]⟩,.int .i64 4,.int .i64 0,.int .i64 99,.string ⟨#[]⟩] 30)).heap.size:=HB8.out.size;clear hb7 HS3 HB6 HR6 hv4 hb8 HB7
  go_wp2_with (first
    | (at_builtin
       refine wpList_eapp rfl (.tmp 13) (.tmp 22) rfl rfl HR8.out rfl HN8.out rfl (by decide) hz8 ?_;intro A9 c9 w9 hr9 hb9;have HR9:=lj (show EvRow w.heap.size w9 A9 10 c9 aliveL from hr9);have HB9:=lj (HB8.out.trans hb9)
       clear hr9 hb9 HR8 HN8 HB8 hz8))
  refine (default_any w9).mono ?_;rintro r w10 ⟨rfl,hb10⟩;have HB10:=lj (HB9.out.trans (hb10.mono HB9.out.size));have HE:=lj (show Calls Tryz.prog 36 #[.agg #[.int .i64 4096,.int .i64 512,.int .i64 2048,.int .i64 256,.int .i64 3,.int .i64 100,.int .i64 0,.int .i64 80],.slice A9 10 c9] w10 (EGivesS 4096 512 2048 256 3 100 0 80 aliveL w10) from encode_any 4096 512 2048 256 3 100 0 80 A9 10 c9 aliveL w10 ((HR9.out.below hb10).evin) rfl (by decide));clear hb10 HR9 HB9;unfold cv
  go_wp2_with fail
  refine HE.out.mono ?_;rintro r w11 ⟨hb11,hg⟩
  rcases hg with ⟨h1,_⟩ | ⟨_,h1,_⟩ | ⟨_,_,_,A2,cp,rfl,hown⟩
  · exact absurd h1 (by rw [alive_len.2.2]; decide)
  · rcases h1 with h1 | ⟨x,hx,h1⟩
    · exact absurd h1 (by decide)
    · rw [alive_right x hx] at h1; cases h1
  have HB11:=lj (HB10.out.trans (hb11.mono HB10.out.size));have hm:24+(Sc.evs aliveL).length≤cp:=hown.cap;have HBy:=lj (pbytes_any cfd_rt8 cfd_ok aliveL alive_right (by rw [alive_len.2.2]; decide) alive_len.2.1 A2 (24+(Sc.evs aliveL).length) cp w11 (HTI.out.below HB11.out) (show Bytes w11 w11.heap.size A2 (24+(Sc.evs aliveL).length) (scBytes cfd aliveL) from hown.bytes) hm hown.capmax (by have:=alive_len.1; omega))
  obtain ⟨N,hN⟩:∃ N,24+(Sc.evs aliveL).length=N:=⟨_,rfl⟩
  rw [hN] at HBy ⊢;clear hown hm hb11 HE hN HB10
  go_wp2_with fail
  refine HBy.out.mono ?_;rintro r w12 ⟨g,n0,a,c,rfl,hn0,hls,hrow,hag,hb12⟩;rw [alive_run,alive_len.2.2] at hrow;rw [alive_len.2.2];obtain ⟨bb,off,rfl,hlt,hc⟩:=hrow.otin (by decide);have k8:=(hc 8 ⟨0,encs avOut⟩ rfl).2;have k9:=(hc 9 ⟨0,[108#8,115#8,10#8]⟩ rfl).2
  obtain ⟨xo,hxo⟩:∃ xo,encs avOut=xo:=⟨_,rfl⟩
  rw [hxo] at k8;have HXo:=lj hxo;have HB12:=lj (HB11.out.trans (hb12.mono HB11.out.size));have HK9:=lj (show w12.cell? ⟨bb,off+9 * 2+1,none⟩=some (.string ⟨#[108,115,10]⟩) from k9);have HLT:=lj hlt;clear hls hrow hag hb12 hc hn0 HBy hxo k9 hlt HB11
  go_upto_region 7 with fail
  obtain ⟨cb,wb,hcb,hyb,hbb,hlb,hsb⟩:=conv_tob w12 xo;have HBb:=lj (HB12.out.trans (hbb.mono HB12.out.size))
  have hxl:xo.length≤20000:=by rw [← HXo.out]; exact avOut_len
  have HM:=lj (lmessages_any avOut avOut_ok wb (show Bytes wb (w12.heap.size+1) (some ⟨w12.heap.size,0,none⟩) xo.length (encs avOut) from by rw [HXo.out]; exact hyb) hsb hlb (by omega));have hk9b:wb.cell? ⟨bb,off+9 * 2+1,none⟩=some (.string ⟨#[108,115,10]⟩):=(hbb.cell (p:=⟨bb,off+9 * 2+1,none⟩) HLT.out).trans HK9.out;have HK9b:=lj hk9b;have HLTb:=lj (Nat.lt_of_lt_of_le HLT.out hbb.size);clear hyb hbb hlb hsb hk9b HB12 HK9 HLT
  go_wp2_with fail
  refine HM.out.mono ?_;rintro r w13 ⟨R,rc,rfl,hrow,hb13⟩;rw [show avOut.length=5 from rfl] at hrow ⊢;have HB13:=lj (HBb.out.trans (hb13.mono HBb.out.size));have k9:w13.cell? ⟨bb,off+9 * 2+1,none⟩=some (.string ⟨#[108,115,10]⟩):=(hb13.cell (p:=⟨bb,off+9 * 2+1,none⟩) HLTb.out).trans HK9b.out;obtain ⟨mb,mo,rfl,_,hmc⟩:=hrow.msin.outer (by decide);obtain ⟨a0,a1,a2,a3⟩:=hmc 3 (dataM 0 [36#8,32#8]) rfl;obtain ⟨b0,b1,b2,b3⟩:=hmc 4 (rejectM 3 3) rfl;replace a0:w13.cell? ⟨mb,mo+3 * 4,none⟩=some (.int .i64 6):=a0;replace a1:w13.cell? ⟨mb,mo+3 * 4+1,none⟩=some (.int .i64 0):=a1;replace a2:w13.cell? ⟨mb,mo+3 * 4+2,none⟩=some (.int .i64 0):=a2;replace a3:w13.cell? ⟨mb,mo+3 * 4+3,none⟩=some (.string ⟨#[36,32]⟩):=a3;replace b0:w13.cell? ⟨mb,mo+4 * 4,none⟩=some (.int .i64 8):=b0;replace b1:w13.cell? ⟨mb,mo+4 * 4+1,none⟩=some (.int .i64 3):=b1;replace b2:w13.cell? ⟨mb,mo+4 * 4+2,none⟩=some (.int .i64 3):=b2;replace b3:w13.cell? ⟨mb,mo+4 * 4+3,none⟩=some (.string ⟨#[]⟩):=b3;clear hrow hb13 hmc HM HK9b HLTb HBb;go_wp2;go_ret;exact ⟨rfl,HB13.out⟩
end
section
open Go.RowKit
open Fr Bk
def rolesK (m:Nat):List (Int×Int):=(List.range m).map fun j=>(((j+1:Nat):Int),if j=0 then 2 else 1)
def flK (m:Nat):Fl:=⟨100,0,rolesK m,[]⟩
structure KickAt (b:Br) (m:Nat):Prop where
 cw:CW b (m * 107)
 fl:b.fl=flK m
 told:b.told=0
 sm:Sm b (bnew cfd)
 is:∀ j,(b.cs j).isSome=decide (1≤j∧j≤m)
end
end Go.Proofs.YtalichkdeekdcaaGreatDoor
