/- PKm PWm PKn PTa PQr PVa PVb PWn PWo PWp PWq -/
import Derived.Test.YtdpagmcickkbmaaGreatDoorZd06
namespace Go.Proofs.YtdpagmcickkbmaaGreatDoor
set_option maxRecDepth 100000
section
namespace Bk
open Fr Lx
def Plain (m:M):Prop:=m.ok=true∧m.k≠5∧m.k≠6∧m.k≠7∧m.k≠12∧m.k≠13
theorem ok_text {k:Int} {t:Bs} (hk:k=10∨k=11) (ht:t.length≤80):(⟨k,0,0,t⟩:M).ok=true:=by
 unfold M.ok;rw [Ms.rt_iff]
 rcases hk with rfl | rfl
 ·exact ⟨rfl,rfl,rfl,ht⟩
 ·exact ⟨rfl,rfl,rfl,ht⟩
theorem ok_one {k a:Int} (hk:k=9∨k=13∨k=15) (h0:0≤a) (h1:a≤1099511627776):(⟨k,a,0,[]⟩:M).ok=true:=by
 unfold M.ok;rw [Ms.rt_iff]
 have:Ms.okN a true=true:=by unfold Ms.okN; simp; omega
 rcases hk with rfl | rfl | rfl
 ·exact ⟨rfl,this,rfl,Nat.zero_le _⟩
 ·exact ⟨rfl,this,rfl,Nat.zero_le _⟩
 ·exact ⟨rfl,this,rfl,Nat.zero_le _⟩
theorem plain_notice {t:Bs} (ht:t.length≤80):Plain (notice t):=⟨ok_text (.inl rfl) ht,by show (10:Int)≠5; decide,by show (10:Int)≠6; decide,by show (10:Int)≠7; decide,by show (10:Int)≠12; decide,by show (10:Int)≠13; decide⟩
theorem plain_denied {t:Bs} (ht:t.length≤80):Plain ⟨11,0,0,t⟩:=⟨ok_text (.inr rfl) ht,by show (11:Int)≠5; decide,by show (11:Int)≠6; decide,by show (11:Int)≠7; decide,by show (11:Int)≠12; decide,by show (11:Int)≠13; decide⟩
theorem plain_floor {h:Int} (h0:0≤h) (h1:h≤16):Plain (mfloor h):=⟨ok_one (.inl rfl) h0 (by omega),by show (9:Int)≠5; decide,by show (9:Int)≠6; decide,by show (9:Int)≠7; decide,by show (9:Int)≠12; decide,by show (9:Int)≠13; decide⟩
theorem plain_exit {c:Nat} (h:c≤255):Plain (mexit c):=⟨ok_one (.inr (.inr rfl)) (by omega) (by omega),by show (15:Int)≠5; decide,by show (15:Int)≠6; decide,by show (15:Int)≠7; decide,by show (15:Int)≠12; decide,by show (15:Int)≠13; decide⟩
theorem plain_reject {seq:Int} (h0:0≤seq) (h1:seq≤1099511627776) {w:Nat} (hw:w≤5):Plain (rejectM seq w):=⟨reject_ok h0 h1 hw,by show (8:Int)≠5; decide,by show (8:Int)≠6; decide,by show (8:Int)≠7; decide,by show (8:Int)≠12; decide,by show (8:Int)≠13; decide⟩
theorem plain_pong:Plain ⟨14,0,0,[]⟩:=⟨by decide,by decide,by decide,by decide,by decide,by decide⟩
theorem closed_ok {w:Nat} (h:w≤6):(closed w).ok=true:=ok_one (.inr (.inl rfl)) (by omega) (by omega)
theorem plain_left {k:Nat} (h:k≤16):Plain (left k):=by
 refine plain_notice ?_;have:=Dgs.dgs_len k 2 (by omega);rw [List.length_append]
 show 5+_≤80
 omega
theorem plain_joined {k:Nat} {t:Bs} (h:k≤16) (ht:t.length≤20):Plain (joined k t):=by
 refine plain_notice ?_;have:=Dgs.dgs_len k 2 (by omega);simp only [List.length_append]
 show 7+_+1+_≤80
 omega
structure KMsg (P:Br→Prop):Prop where
 ok:∀ b,P b→BOk b
 gone:∀ b k c,P b→b.cs k=some c→1≤k→k≤16→P (gone b k c)
 plus:∀ b k c m,P b→b.cs k=some c→c.st≠2→Plain m→c.out.length+(enc m).length≤b.cf.queue→P (setc b k (some (plus m c)))
 closed:∀ b k c why,P b→b.cs k=some c→c.st≠2→why≤6→c.out.length+11≤b.cf.queue→1≤k→k≤16→P (Bk.gone (setc b k (some (Bk.plus (Bk.closed why) c))) k (Bk.plus (Bk.closed why) c))
 told:∀ b,P b→P (toldB b)
 served:∀ b k c m p s,P b→b.cs k=some c→c.st=1→nextB b c=some (m,p,s)→m.k≠12→P (served b k c m p s)
 evict:∀ b k c m p s,P b→b.cs k=some c→c.st=1→nextB b c=some (m,p,s)→m.k=12→1≤k→k≤16→P (Bk.gone (Bk.served b k c m p s) k (putc b.cf.queue { c with p:=p,s:=s } (enc m)))
 reap:∀ b,P b→P (reap b)
section
variable {P:Br→Prop} (K:KMsg P)
include K
theorem KMsg.leaveW {tl:M→Br→Br} (ht:∀ m b,Plain m→P b→P (tl m b)) {b:Br} (h:P b) {k:Nat} (h1:1≤k) (h2:k≤16):P (leaveW tl b k):=by
 unfold Bk.leaveW
 rcases hc:b.cs k with _ | c
 ·exact h
 ·have hg:=K.gone b k c h hc h1 h2
  unfold Bk.gone at hg
  show P (if c.st=1 then tl (left k) (setFl (setc b k (some { c with st:=2 })) (fleave b.fl k)) else setc b k (some { c with st:=2 }))
  by_cases hst:c.st=1
  ·rw [if_pos hst] at hg ⊢
   exact ht _ _ (plain_left h2) hg
  ·rw [if_neg hst] at hg ⊢
   exact hg
theorem KMsg.sendW {lv:Br→Nat→Br} (hl:∀ b k,P b→1≤k→k≤16→P (lv b k)) {m:M} (hm:Plain m) {b:Br} (h:P b) {k:Nat} (h1:1≤k) (h2:k≤16):P (sendW lv m b k):=by
 unfold Bk.sendW
 rcases hc:b.cs k with _ | c
 ·exact h
 ·show P (if c.st=2 then b else if c.out.length+(enc m).length≤b.cf.queue then setc b k (some (Bk.plus m c)) else lv b k)
  split
  ·exact h
  ·next hst =>
   split
   ·next hf=>exact K.plus b k c m h hc hst hm hf
   ·exact hl b k h h1 h2
theorem KMsg.tellN:∀ (n:Nat) (m:M) (b:Br),Plain m→P b→P (tellN n m b)
 | 0,_,_,_,h=>h
 | n+1,_,_,hm,h=>keep_goes (P:=P) (fun _ _ hb h1 h2 _=>K.sendW (fun _ _ hb h1 h2=>K.leaveW (KMsg.tellN n) hb h1 h2) hm hb h1 h2) ids ids_in h
theorem KMsg.tell {m:M} (hm:Plain m) {b:Br} (h:P b):P (tell m b):=K.tellN 17 m b hm h
theorem KMsg.leave {b:Br} (h:P b) {k:Nat} (h1:1≤k) (h2:k≤16):P (leave b k):=K.leaveW (K.tellN 16) h h1 h2
theorem KMsg.send {m:M} (hm:Plain m) {b:Br} (h:P b) {k:Nat} (h1:1≤k) (h2:k≤16):P (send m b k):=K.sendW (fun _ _ hb h1 h2=>K.leaveW (K.tellN 16) hb h1 h2) hm h h1 h2
theorem KMsg.left {b:Br} {k:Nat} {c:Cn} (h:P (Bk.gone (setc b k (some c)) k c)) (h2:k≤16):P (Bk.leave (setc b k (some c)) k):=by
 show P (Bk.leaveW (Bk.tellN 16) (setc b k (some c)) k)
 unfold Bk.leaveW;rw [setc_cs];unfold Bk.gone at h
 show P (if c.st=1 then Bk.tellN 16 (Bk.left k) (setFl (setc (setc b k (some c)) k (some { c with st:=2 })) (fleave (setc b k (some c)).fl k)) else setc (setc b k (some c)) k (some { c with st:=2 }))
 by_cases hst:c.st=1
 ·rw [if_pos hst] at h ⊢
  exact K.tellN 16 _ _ (plain_left h2) h
 ·rw [if_neg hst] at h ⊢
  exact h
theorem KMsg.shut {b:Br} (h:P b) {k:Nat} (h1:1≤k) (h2:k≤16) {why:Nat} (hw:why≤6):P (shut b k why):=by
  rcases hc:b.cs k with _ | c
  · have:Bk.shut b k why=b:=by
      have e1:Bk.send (Bk.closed why) b k=b:=by
        show Bk.sendW (leaveN 16) _ b k=b
        unfold Bk.sendW;rw [hc]
      unfold Bk.shut;rw [e1]
      show Bk.leaveW (Bk.tellN 16) b k=b
      unfold Bk.leaveW;rw [hc]
    rw [this];exact h
  · by_cases hst:c.st=2
    · rw [shut_closing hc hst]; exact h
    · unfold Bk.shut
      by_cases hf:c.out.length+11≤b.cf.queue
      · rw [send_fits hc hst (by rw [closed_len]; exact hf)]
        exact K.left (K.closed b k c why h hc hst hw hf h1 h2) h2
      · have:Bk.send (Bk.closed why) b k=Bk.leave b k:=by
          show Bk.sendW (leaveN 16) _ b k=_
          unfold Bk.sendW;rw [hc]
          show (if c.st=2 then b else if c.out.length+(enc (Bk.closed why)).length≤b.cf.queue then _ else leaveN 16 b k)=_
          rw [if_neg hst,if_neg (by rw [closed_len]; exact hf)];rfl
        rw [this];exact K.leave (K.leave h h1 h2) h1 h2
theorem KMsg.holderN:∀ (n:Nat) {b:Br},P b→P (holderN n b)
  | 0,_,h=>h
  | n+1,b,h=>by
    show P (if _ then b else Bk.holderN n (Bk.tell (mfloor (fhold b.fl)) (toldB b)))
    split
    · exact h
    · have hb:=K.ok b h
      have hh:=hold_in hb.fok hb.rin;exact KMsg.holderN n (K.tell (plain_floor hh.1 hh.2) (K.told b h))
theorem KMsg.holder {b:Br} (h:P b):P (holder b):=K.holderN 18 h
theorem KMsg.serveN:∀ (n:Nat) {b:Br} {k:Nat},P b→1≤k→k≤16→opn b k=true→P (serveN n b k)
  | 0,_,_,h,_,_,_=>h
  | n+1,b,k,h,h1,h2,ho=>by
    obtain ⟨c,hc,hst⟩:=opn_cs ho;rw [serveN_succ n b k hc]
    rcases hn:nextB b c with _ | ⟨m,p,s⟩
    · exact h
    · show P (if m.k=12 then Bk.leave (Bk.served b k c m p s) k else Bk.serveN n (Bk.served b k c m p s) k)
      split
      · next h12=>exact K.left (K.evict b k c m p s h hc hst hn h12 h1 h2) h2
      · next h12 =>
        refine KMsg.serveN n (K.served b k c m p s h hc hst hn h12) h1 h2 ?_;unfold Bk.served;rw [opn_setc,if_pos rfl]
        show decide ((putc b.cf.queue { c with p:=p,s:=s } (enc m)).st=1)=true
        rw [(putc_same b.cf.queue { c with p:=p,s:=s } (enc m)).1]
        simpa using hst
theorem KMsg.settle {b:Br} (h:P b):P (settle b):=
 K.reap _ (K.holder (keep_goes (P:=P) (fun _ _ hb h1 h2 ho=>K.serveN _ hb h1 h2 ho) ids ids_in (K.holder h)))
end
structure KCmd (k:Nat) (P:Br→Prop):Prop extends KMsg P where
 join:∀ b c t p r,P b→b.cs k=some c→1≤k→k≤16→c.st=0→t.length≤20→isName t=true→p≤b.L.length→0≤r→r≤2→P (send (welcome k p r) (setFl (setc b k (some (opened c t p))) (fjoin b.fl k r)) k)
 fl:∀ b s,P b→FlStep b.fl s→P (setFl b s)
 typed:∀ b ks,P b→b.ended=false→b.inp.length+ks.length≤b.cf.input→P { b with inp:=b.inp ++ ks,tot:=b.tot+ks.length }
structure KSay (k:Nat) (P:Br→Prop):Prop extends KCmd k P where
 lx:∀ b c t,P b→b.cs k=some c→P (setc b k (some { c with lx:=lrun c.lx t }))
 idle0:∀ b c,P b→b.cs k=some c→P (setc b k (some { c with idle:=0 }))
 fd:∀ b c t,P b→b.cs k=some c→P (setc b k (some { c with fd:=fpush c.fd t }))
def Tame (s:Bs):Prop:=s.length≤80∧∀ k n,parse s=some (k,n)→k≠10∧k≠11
section
variable {P:Br→Prop} {k:Nat} (K:KCmd k P)
include K
theorem KCmd.listB {b:Br} (h:P b) (h1:1≤k) (h2:k≤16):P (Bk.listB b k):=by
 unfold Bk.listB;refine keep_goes (P:=P) (f:=fun b j=>Bk.send (notice (listLine b j)) b k) (fun b j hb j1 j2 ho=>K.send (plain_notice ?_) hb h1 h2) ids ids_in h;obtain ⟨c,hc,_⟩:=opn_cs ho;have hn:=((K.ok b hb).cn j c hc).name;have hd:=Dgs.dgs_len j 2 (by omega);have hr:=role_len (rrole b.fl.roles j)
 have he:(if fhold b.fl=(j:Int) then ([32#8,42#8]:Bs) else []).length≤2:=by split <;> decide
 unfold listLine;rw [hc];simp only [List.length_append]
 show _+1+_+1+c.name.length+_≤80
 omega
theorem KCmd.doB {b:Br} (h:P b) (h1:1≤k) (h2:k≤16) (o:Option (Int×Int)) (ht:∀ x n,o=some (x,n)→x≠10∧x≠11):P (Bk.doB b k o).1:=by
 rcases o with _ | ⟨kind,n⟩
 ·exact h
 obtain ⟨t1,t2⟩:=ht kind n rfl;unfold Bk.doB
 refine p_ite (P:=fun x:Br×Bool=>P x.1) (fun _=>h) fun hn=>?_
 refine p_ite (P:=fun x:Br×Bool=>P x.1) (fun _=>K.fl b (fask b.fl k) h (.inl ⟨_,rfl⟩)) fun hn=>?_
 refine p_ite (P:=fun x:Br×Bool=>P x.1) (fun _=>K.fl b (fdrop b.fl k) h (.inr (.inl ⟨_,rfl⟩))) fun hn=>?_
 refine p_ite (P:=fun x:Br×Bool=>P x.1) (fun _=>K.listB h h1 h2) fun hn=>?_
 refine p_ite (P:=fun x:Br×Bool=>P x.1) (fun _=>K.shut h h1 h2 (by decide)) fun hn=>?_
 refine p_ite (P:=fun x:Br×Bool=>P x.1) (fun _=>K.fl b (frev b.fl) h (.inr (.inr (.inr (.inl rfl))))) fun hn=>?_
 refine p_ite (P:=fun x:Br×Bool=>P x.1) (fun h9=>absurd h9 t1) fun hn=>?_
 refine p_ite (P:=fun x:Br×Bool=>P x.1) (fun h9=>absurd h9 t2) fun hn=>?_
 rcases hj:userB b n with _ | j
 ·exact h
 ·have hj2:1≤j∧j≤16:=by
   unfold userB at hj
   split at hj
   ·injection hj with hj; omega
   ·cases hj
  refine p_ite (P:=fun x:Br×Bool=>P x.1) (fun _=>K.fl b (fgive b.fl j) h (.inr (.inr (.inl ⟨_,rfl⟩)))) fun hn=>?_
  refine p_ite (P:=fun x:Br×Bool=>P x.1) (fun _=>K.shut h hj2.1 hj2.2 (by decide)) fun hn=>?_
  refine p_ite (P:=fun x:Br×Bool=>P x.1) (fun _=>K.fl b (fset b.fl j 1) h (.inr (.inr (.inr (.inr (.inl ⟨_,_,rfl⟩)))))) fun hn=>?_
  refine p_ite (P:=fun x:Br×Bool=>P x.1) (fun _=>K.fl b (fset b.fl j 0) h (.inr (.inr (.inr (.inr (.inl ⟨_,_,rfl⟩)))))) fun hn=>?_
  exact h
theorem KCmd.stepC {b:Br} (h:P b) (h1:1≤k) (h2:k≤16) {s:Bs} (hs:Tame s):P (Bk.stepC b k s):=by
 unfold Bk.stepC;refine K.holder ?_
 split
 ·exact K.doB h h1 h2 _ hs.2
 ·exact K.send (plain_denied hs.1) (K.doB h h1 h2 _ hs.2) h1 h2
theorem KCmd.cmds (h1:1≤k) (h2:k≤16):∀ (l:List Bs) {b:Br},(∀ s∈l,Tame s)→P b→P (Bk.cmds b k l)
  | [],_,_,h=>h
  | s :: l,b,hl,h=>by
    show P (if opn b k then Bk.cmds (Bk.stepC b k s) k l else b)
    split
    · exact KCmd.cmds h1 h2 l (fun x hx=>hl x (List.mem_cons_of_mem _ hx)) (K.stepC h h1 h2 (hl s List.mem_cons_self))
    · exact h
theorem KCmd.joinB {b:Br} (h:P b) {c:Cn} {m:M} (hc:b.cs k=some c) (hst:c.st=0) (h1:1≤k) (h2:k≤16) (hm:m.ok=true) (hm1:m.k=1) (hn:isName m.t=true):P (Bk.joinB b k m):=by
 have ho:opn b k=false:=by unfold opn; rw [hc]; simp [hst]
 have hc1:=(tell_shut (joined k m.t) ho).trans hc
 have ht:m.t.length≤20:=by have:=Ms.rt_n hm; rw [hm1] at this; exact this
 have hP1:=K.tell (plain_joined h2 ht) h;rw [joinB_eq,hc1];have hr:=firstRole_in (Bk.tell (joined k m.t) b).fl (decide (m.a % 2=1));have hX:=K.join _ c m.t (comeAt (Bk.tell (joined k m.t) b) m) (comeRole (Bk.tell (joined k m.t) b) m) hP1 hc1 h1 h2 hst ht hn (viewAt_le _ _ _ _) hr.1 hr.2
 show P (joinX (Bk.send (welcome k (comeAt (Bk.tell (joined k m.t) b) m) (comeRole (Bk.tell (joined k m.t) b) m)) (setFl (setc (Bk.tell (joined k m.t) b) k (some (opened c m.t (comeAt (Bk.tell (joined k m.t) b) m)))) (fjoin (Bk.tell (joined k m.t) b).fl k (comeRole (Bk.tell (joined k m.t) b) m))) k) k)
 obtain ⟨x,hx⟩:∃ x,Bk.send (welcome k (comeAt (Bk.tell (joined k m.t) b) m) (comeRole (Bk.tell (joined k m.t) b) m)) (setFl (setc (Bk.tell (joined k m.t) b) k (some (opened c m.t (comeAt (Bk.tell (joined k m.t) b) m)))) (fjoin (Bk.tell (joined k m.t) b).fl k (comeRole (Bk.tell (joined k m.t) b) m))) k=x:=⟨_,rfl⟩
 rw [hx] at hX ⊢;have hxo:=K.ok x hX;have hY:=K.send (plain_floor hxo.told.1 hxo.told.2) hX h1 h2;unfold joinX
 obtain ⟨y,hy⟩:∃ y,Bk.send (mfloor x.told) x k=y:=⟨_,rfl⟩
 rw [hy] at hY ⊢;unfold joinY
 split
 ·exact K.send (plain_exit (K.ok y hY).code) hY h1 h2
 ·exact hY
theorem KCmd.hello {b:Br} (h:P b) {c:Cn} {m:M} (hc:b.cs k=some c) (hst:c.st=0) (h1:1≤k) (h2:k≤16) (hm:m.ok=true):P (Bk.hello b k m):=by
 unfold Bk.hello
 split
 ·exact K.shut h h1 h2 (by decide)
 ·next hk1 =>
  split
  ·exact K.shut h h1 h2 (by decide)
  ·split
   ·exact K.shut h h1 h2 (by decide)
   ·next hn=>exact K.joinB h hc hst h1 h2 hm (by omega) (by simpa using hn)
theorem KCmd.offered {b:Br} (h:P b) (h1:1≤k) (h2:k≤16) {a:Int} (ha:0≤a∧a≤1099511627776) (ks:Bs):P (Bk.offered b k a ks):=by
 unfold Bk.offered
 split
 ·exact h
 split
 ·next hw =>
  unfold whyB at hw
  split at hw
  ·cases hw
  ·next he =>
   split at hw
   ·cases hw
   split at hw
   ·cases hw
   split at hw
   ·cases hw
   split at hw
   ·cases hw
   ·next hi=>exact K.typed b ks h (by simpa using he) (by omega)
 ·exact K.send (plain_reject ha.1 ha.2 (whyB_le _ _ _)) h h1 h2
theorem KCmd.keysB {b:Br} (h:P b) (h1:1≤k) (h2:k≤16) {m:M} (hm:m.ok=true) (hlx:∀ c,b.cs k=some c→P (setc b k (some { c with lx:=lrun c.lx m.t }))) (ht:∀ c,b.cs k=some c→∀ s∈lcmds c.lx m.t,Tame s):P (Bk.keysB b k m):=by
 rcases hc:b.cs k with _ | c
 ·unfold Bk.keysB; rw [hc]; exact h
 ·rw [keysB_eq hc]
  exact K.cmds h1 h2 _ (ht c hc) (K.offered (hlx c hc) h1 h2 (Ms.rt_a hm) _)
theorem KCmd.takeB {b:Br} (h:P b) (h1:1≤k) (h2:k≤16) {mo:Option M} (hm:∀ m,mo=some m→m.ok=true) (hlx:∀ m,mo=some m→m.k=2→∀ c,b.cs k=some c→c.st≠0→P (setc b k (some { c with lx:=lrun c.lx m.t }))) (ht:∀ m,mo=some m→m.k=2→∀ c,b.cs k=some c→c.st≠0→∀ s∈lcmds c.lx m.t,Tame s):P (Bk.takeB b k mo):=by
 unfold Bk.takeB
 rcases mo with _ | m
 ·exact K.shut h h1 h2 (by decide)
 ·show P (if (match b.cs k with | some c=>decide (c.st=0) | none=>false)=true then Bk.hello b k m else if m.k=2 then Bk.keysB b k m else if m.k=3 then Bk.send ⟨14,0,0,[]⟩ b k else if m.k=4 then Bk.shut b k 0 else Bk.shut b k 4)
  rcases hc:b.cs k with _ | c
  ·dsimp only
   rw [if_neg (by decide)]
   split
   ·next h2k=>exact K.keysB h h1 h2 (hm m rfl) (fun d hd=>by rw [hc] at hd; cases hd) fun d hd=>by rw [hc] at hd; cases hd
   split
   ·exact K.send plain_pong h h1 h2
   split
   ·exact K.shut h h1 h2 (by decide)
   ·exact K.shut h h1 h2 (by decide)
  ·dsimp only
   by_cases hst:c.st=0
   ·rw [if_pos (by simpa using hst)]
    exact K.hello h hc hst h1 h2 (hm m rfl)
   ·rw [if_neg (by simpa using hst)]
    split
    ·next h2k=>exact K.keysB h h1 h2 (hm m rfl) (fun d hd=>hlx m rfl h2k d hd (by rw [hc] at hd; injection hd with hd; rw [← hd]; exact hst)) fun d hd=>ht m rfl h2k d hd (by rw [hc] at hd; injection hd with hd; rw [← hd]; exact hst)
    split
    ·exact K.send plain_pong h h1 h2
    split
    ·exact K.shut h h1 h2 (by decide)
    ·exact K.shut h h1 h2 (by decide)
end
theorem KCore.msg {P:Br→Prop} (K:KCore P) (hok:∀ b,P b→BOk b):KMsg P where
 ok:=hok
 gone:=K.gone
 plus:=fun b k c m h hc hst _ hf=>K.plus b k c m h hc hst hf
 closed:=fun b k c why h hc hst _ hf h1 h2=>K.gone _ k _ (K.plus b k c _ h hc hst (by rw [closed_len]; exact hf)) (setc_cs _ _ _) h1 h2
 told:=K.told
 served:=fun b k c m p s h hc hst hn _=>K.served b k c m p s h hc hst hn
 evict:=fun b k c m p s h hc hst hn _ h1 h2=>K.gone _ k _ (K.served b k c m p s h hc hst hn) (setc_cs _ _ _) h1 h2
 reap:=K.reap
def earLines (X:Lx.Lx):List (BitVec 8×Bs)→List Bs
  | []=>[]
  | f :: fs=>match mof f with
    | some m=>if m.k=2 then lcmds X m.t ++ earLines (lrun X m.t) fs else earLines X fs
    | none=>earLines X fs
def earLx (X:Lx.Lx):List (BitVec 8×Bs)→Lx.Lx
  | []=>X
  | f :: fs=>match mof f with
    | some m=>if m.k=2 then earLx (lrun X m.t) fs else earLx X fs
    | none=>earLx X fs
def EarJ (k:Nat) (F:Fs) (X:Lx.Lx) (b:Br):Prop:=BOk b∧∀ c,b.cs k=some c→c.st≠2→c.fd=F∧c.lx=X
theorem EarJ.set {k j:Nat} {F:Fs} {X:Lx.Lx} {b:Br} (h:EarJ k F X b) {c c':Cn} (hc:b.cs j=some c) (hst:c'.st≠2→c.st≠2) (hf:c'.fd=c.fd) (hl:c'.lx=c.lx):∀ d,(setc b j (some c')).cs k=some d→d.st≠2→d.fd=F∧d.lx=X:=fun d hd h2=>by
 by_cases e:k=j
 ·subst e
  rw [setc_cs] at hd
  injection hd with hd
  subst hd;rw [hf,hl];exact h.2 c hc (hst h2)
 ·rw [setc_ne _ _ _ e] at hd
  exact h.2 d hd h2
theorem ear_core (k:Nat) (F:Fs) (X:Lx.Lx):KCore (EarJ k F X) where
 gone:=fun b j c h hc h1 h2=>by
  have:=h.set (c':={ c with st:=2 }) hc (fun e=>absurd rfl e) rfl rfl;refine ⟨bok_all.gone b j c h.1 hc h1 h2,?_⟩;unfold gone
  split
  ·exact this
  ·exact this
 plus:=fun b j c m h hc hst hf=>⟨bok_all.plus b j c m h.1 hc hst hf,h.set hc id rfl rfl⟩
 told:=fun b h=>⟨bok_all.told b h.1,h.2⟩
 served:=fun b j c m p s h hc hst hn=>by
  have hp:=putc_same b.cf.queue { c with p:=p,s:=s } (enc m);exact ⟨bok_all.served b j c m p s h.1 hc hst hn,h.set hc (by rw [hp.1]; exact id) hp.2.2.2.2.2.1 hp.2.2.2.2.2.2⟩
 reap:=fun b h=>⟨bok_all.reap b h.1,fun c hc h2=>by
  replace hc:(if 1≤k∧k≤16∧done b k=true then none else b.cs k)=some c:=hc
  split at hc
  ·cases hc
  ·exact h.2 c hc h2⟩
theorem ear_cmd (j k:Nat) (F:Fs) (X:Lx.Lx):KCmd j (EarJ k F X) where
 toKMsg:=(ear_core k F X).msg fun _ h=>h.1
 join:=fun b c t p r h hc h1 h2 h0 ht hn hp hr0 hr2=>(ear_core k F X).send _ ⟨bok_all.join b j c t p r h.1 hc h1 h2 h0 ht hn hp hr0 hr2,h.set (c':=opened c t p) hc (fun _=>by omega) rfl rfl⟩ h1 h2
 fl:=fun b s h hs=>⟨bok_all.fl b s h.1 hs,h.2⟩
 typed:=fun b ks h he hi=>⟨bok_all.typed b ks h.1 he hi,h.2⟩
section
variable {P:Br→Prop} {k:Nat} (K:KSay k P)
include K
theorem KSay.takes (h1:1≤k) (h2:k≤16) {F:Fs}:∀ (l:List (BitVec 8×Bs)) {b:Br} {X:Lx.Lx},P b→EarJ k F X b→(∀ s∈earLines X l,Tame s)→P (takes b k l)∧EarJ k F (earLx X l) (takes b k l)
  | [],_,_,h,he,_=>⟨h,he⟩
  | f :: l,b,X,h,he,ht=>by
    by_cases hcl:closing b k=true
    · rw [takes_shut hcl]
      refine ⟨h,he.1,fun c hc hst=>?_⟩;unfold closing at hcl;rw [hc] at hcl;simp at hcl;exact absurd hcl hst
    · obtain ⟨c,hc,hst⟩:∃ c,b.cs k=some c∧c.st≠2:=by
        rcases hx:b.cs k with _ | c
        · unfold closing at hcl; rw [hx] at hcl; exact absurd rfl hcl
        · exact ⟨c,rfl,fun e=>by unfold closing at hcl; rw [hx] at hcl; simp [e] at hcl⟩
      obtain ⟨hF,hX⟩:=he.2 c hc hst
      have e1:Bk.takes b k (f :: l)=Bk.takes (holder (takeB b k (mof f))) k l:=by
        show (if closing b k then b else _)=_
        rw [if_neg hcl]
      rw [e1]
      have hmok:∀ m,mof f=some m→m.ok=true:=fun m hm=>(mof_ok hm).1
      have key:(∀ m,mof f=some m→m.k=2→∀ s∈lcmds X m.t,Tame s)∧∃ X',(∀ s∈earLines X' l,Tame s)∧earLx X (f :: l)=earLx X' l∧X'=(match mof f with | some m=>if m.k=2 then lrun X m.t else X | none=>X):=by
        have ht':∀ s∈(match mof f with | some m=>if m.k=2 then lcmds X m.t ++ earLines (lrun X m.t) l else earLines X l | none=>earLines X l),Tame s:=ht
        have he':earLx X (f :: l)=(match mof f with | some m=>if m.k=2 then earLx (lrun X m.t) l else earLx X l | none=>earLx X l):=rfl;rw [he']
        rcases hm:mof f with _ | m
        · rw [hm] at ht'
          exact ⟨fun m h=>(by cases h),X,ht',rfl,rfl⟩
        · rw [hm] at ht'
          by_cases hk:m.k=2
          · have ht'':∀ s∈lcmds X m.t ++ earLines (lrun X m.t) l,Tame s:=by
              replace ht':∀ s∈(if m.k=2 then lcmds X m.t ++ earLines (lrun X m.t) l else earLines X l),Tame s:=ht'
              rw [if_pos hk] at ht';exact ht'
            refine ⟨fun m2 h2 _ s hs=>?_,lrun X m.t,fun s hs=>ht'' s (List.mem_append_right _ hs),?_,?_⟩
            · injection h2 with h2
              subst h2;exact ht'' s (List.mem_append_left _ hs)
            · show (if m.k=2 then _ else _)=_
              rw [if_pos hk]
            · show _=(if m.k=2 then _ else _)
              rw [if_pos hk]
          · replace ht':∀ s∈(if m.k=2 then lcmds X m.t ++ earLines (lrun X m.t) l else earLines X l),Tame s:=ht'
            rw [if_neg hk] at ht';refine ⟨fun m2 h2 hk2=>?_,X,ht',?_,?_⟩
            · injection h2 with h2
              subst h2;exact absurd hk2 hk
            · show (if m.k=2 then _ else _)=_
              rw [if_neg hk]
            · show _=(if m.k=2 then _ else _)
              rw [if_neg hk]
      obtain ⟨k1,X',k2,k3,k4⟩:=key;rw [k3]
      have hP:P (takeB b k (mof f)):=K.toKCmd.takeB h h1 h2 hmok (fun m _ _ d hd _=>K.lx b d m.t h hd) fun m hm hk2 d hd _=>by
        rw [hc] at hd
        injection hd with hd
        rw [← hd,hX];exact k1 m hm hk2
      have hE:EarJ k F X' (takeB b k (mof f)):=by
        rcases hm:mof f with _ | m
        · rw [hm] at k4
          replace k4:X'=X:=k4;rw [k4];exact (ear_core k F X).shut he h1 h2 4
        · rw [hm] at k4
          replace k4:X'=if m.k=2 then lrun X m.t else X:=k4
          by_cases hk2:m.k=2
          · rw [if_pos hk2] at k4
            by_cases hs0:c.st=0
            · have e2:takeB b k (some m)=shut b k 4:=by
                unfold takeB;rw [hc]
                show (if decide (c.st=0)=true then hello b k m else _)=_
                rw [if_pos (by simpa using hs0)];unfold hello;rw [if_pos (by omega)]
              rw [e2];refine ⟨bok_all.shut he.1 h1 h2 4,fun d hd hd2=>?_⟩;have:=shut_closes (b:=b) (k:=k) 4;unfold closing at this;rw [hd] at this;simp at this;exact absurd this hd2
            · have e2:takeB b k (some m)=keysB b k m:=by
                unfold takeB;rw [hc]
                show (if decide (c.st=0)=true then hello b k m else if m.k=2 then keysB b k m else _)=_
                rw [if_neg (by simpa using hs0),if_pos hk2]
              rw [e2,keysB_eq hc]
              have hE1:EarJ k F X' (setc b k (some { c with lx:=lrun c.lx m.t })):=by
                refine ⟨bok_all.lx b k c m.t he.1 hc,fun d hd _=>?_⟩;rw [setc_cs] at hd
                injection hd with hd
                subst hd;exact ⟨hF,by show lrun c.lx m.t=X'; rw [hX,k4]⟩
              have hE2:=(ear_cmd k k F X').offered hE1 h1 h2 (Ms.rt_a (hmok m hm)) (lkeys c.lx m.t);exact (ear_cmd k k F X').cmds h1 h2 _ (fun s hs=>k1 m hm hk2 s (by rw [← hX]; exact hs)) hE2
          · rw [if_neg hk2] at k4
            rw [k4]
            exact (ear_cmd k k F X).takeB he h1 h2 (fun m' hm'=>by injection hm' with hm'; rw [← hm']; exact hmok m hm) (fun m' hm' hk'=>by injection hm' with hm'; subst hm'; exact absurd hk' hk2) fun m' hm' hk'=>by injection hm' with hm'; subst hm'; exact absurd hk' hk2
      exact KSay.takes h1 h2 l (K.holder hP) ((ear_core k F X').holder hE) k2
theorem KSay.bytes {b:Br} (h:P b) (h1:1≤k) (h2:k≤16) {F:Fs} {X:Lx.Lx} (he:EarJ k F X b) (h0:bytesE b (k:Nat)=0) (t:Bs) (ht:∀ s∈earLines X (fgot F t),Tame s) :
  P (bytesB b (k:Nat) t)∧EarJ k (fpush F t) (earLx X (fgot F t)) (bytesB b (k:Nat) t):=by
 have hth:isThere b (k:Nat)=true:=by
  unfold bytesE at h0
  split at h0
  ·next hi=>exact hi
  ·cases h0
 have hkk:((k:Nat):Int).toNat=k:=by omega
 obtain ⟨c,hc⟩:∃ c,b.cs k=some c:=by
  unfold isThere at hth;rw [hkk] at hth;simp at hth;exact Option.isSome_iff_exists.1 hth.2
 have hst:c.st≠2:=fun e=>by
  unfold bytesE at h0;rw [if_pos hth,hkk] at h0;unfold closing at h0;rw [hc] at h0;simp [e] at h0
 obtain ⟨hF,hX⟩:=he.2 c hc hst
 obtain ⟨b1,hb1,c1,hc1,hst1,hF1,hX1,hP1,hB1⟩:∃ b1,bytesB b (k:Nat) t=settle (recvB b1 k t)∧∃ c1,b1.cs k=some c1∧c1.st≠2∧c1.fd=F∧c1.lx=X∧P b1∧BOk b1:=by
  refine ⟨if t=[] then b else setc b k (some { c with idle:=0 }),?_,?_⟩
  ·unfold bytesB
   rw [if_pos h0,hkk]
   show settle (recvB (match b.cs k with | some c=>(if t=[] then b else setc b k (some { c with idle:=0 })) | none=>b) k t)=_
   rw [hc]
  ·split
   ·exact ⟨c,hc,hst,hF,hX,h,he.1⟩
   ·exact ⟨_,setc_cs _ _ _,hst,hF,hX,K.idle0 b c h hc,bok_all.idle0 b k c he.1 hc⟩
 rw [hb1,recvB_eq hc1];have hP2:=K.fd b1 c1 t hP1 hc1
 have hE2:EarJ k (fpush F t) X (setc b1 k (some { c1 with fd:=fpush c1.fd t })):=⟨bok_all.fd b1 k c1 t hB1 hc1,fun d hd _=>by
  rw [setc_cs] at hd
  injection hd with hd
  subst hd
  exact ⟨by show fpush c1.fd t=_; rw [hF1],hX1⟩⟩
 rw [hF1] at hP2 hE2 ⊢;obtain ⟨hP3,hE3⟩:=K.takes h1 h2 (fgot F t) hP2 hE2 ht;unfold recvX
 split
 ·exact ⟨K.settle hP3,(ear_core k _ _).settle hE3⟩
 ·exact ⟨K.settle (K.shut hP3 h1 h2 (by decide)),(ear_core k _ _).settle ((ear_core k _ _).shut hE3 h1 h2 1)⟩
end
end Bk
end
section
namespace Bk
open Fr Lx
def Plain1 (m:M):Prop:=Plain m∧7<m.k
theorem plain1_notice {t:Bs} (ht:t.length≤80):Plain1 (notice t):=⟨plain_notice ht,show (7:Int)<10 by decide⟩
theorem plain1_denied {t:Bs} (ht:t.length≤80):Plain1 ⟨11,0,0,t⟩:=⟨plain_denied ht,show (7:Int)<11 by decide⟩
theorem plain1_floor {h:Int} (h0:0≤h) (h1:h≤16):Plain1 (mfloor h):=⟨plain_floor h0 h1,show (7:Int)<9 by decide⟩
theorem plain1_exit {c:Nat} (h:c≤255):Plain1 (mexit c):=⟨plain_exit h,show (7:Int)<15 by decide⟩
theorem plain1_reject {seq:Int} (h0:0≤seq) (h1:seq≤1099511627776) {w:Nat} (hw:w≤5):Plain1 (rejectM seq w):=⟨plain_reject h0 h1 hw,show (7:Int)<8 by decide⟩
theorem plain1_pong:Plain1 ⟨14,0,0,[]⟩:=⟨plain_pong,show (7:Int)<14 by decide⟩
theorem plain1_left {k:Nat} (h:k≤16):Plain1 (left k):=⟨plain_left h,show (7:Int)<10 by decide⟩
theorem plain1_joined {k:Nat} {t:Bs} (h:k≤16) (ht:t.length≤20):Plain1 (joined k t):=⟨plain_joined h ht,show (7:Int)<10 by decide⟩
def NZ (k:Nat) (b:Br):Prop:=∀ c,b.cs k=some c→c.st≠0
theorem nz_opn {b:Br} {k:Nat} (h:opn b k=true):NZ k b:=fun c hc=>by
 obtain ⟨d,hd,hst⟩:=opn_cs h;rw [hc] at hd
 injection hd with hd
 rw [hd,hst]
 decide
theorem NZ.set {k j:Nat} {b:Br} (h:NZ k b) {c c':Cn} (hc:b.cs j=some c) (hst:c.st≠0→c'.st≠0):NZ k (setc b j (some c')):=fun d hd=>by
 by_cases e:k=j
 ·subst e
  rw [setc_cs] at hd
  injection hd with hd
  subst hd;exact hst (h c hc)
 ·rw [setc_ne _ _ _ e] at hd
  exact h d hd
theorem nz_core (k:Nat):KCore (fun b=>BOk b∧NZ k b) where
 gone:=fun b j c h hc h1 h2=>by
  have:=h.2.set (c':={ c with st:=2 }) hc (fun _=>by show (2:Nat)≠0; decide);refine ⟨bok_all.gone b j c h.1 hc h1 h2,?_⟩;unfold gone
  split
  ·exact this
  ·exact this
 plus:=fun b j c m h hc hst hf=>⟨bok_all.plus b j c m h.1 hc hst hf,h.2.set hc id⟩
 told:=fun b h=>⟨bok_all.told b h.1,h.2⟩
 served:=fun b j c m p s h hc hst hn=>⟨bok_all.served b j c m p s h.1 hc hst hn,h.2.set hc (by rw [(putc_same b.cf.queue { c with p:=p,s:=s } (enc m)).1]; exact id)⟩
 reap:=fun b h=>⟨bok_all.reap b h.1,fun c hc=>by
  replace hc:(if 1≤k∧k≤16∧done b k=true then none else b.cs k)=some c:=hc
  split at hc
  ·cases hc
  ·exact h.2 c hc⟩
theorem nz_cmd (k:Nat):KCmd k (fun b=>BOk b∧NZ k b) where
 toKMsg:=(nz_core k).msg fun _ h=>h.1
 join:=fun _ c _ _ _ h hc _ _ h0 _ _ _ _ _=>absurd h0 (h.2 c hc)
 fl:=fun b s h hs=>⟨bok_all.fl b s h.1 hs,h.2⟩
 typed:=fun b ks h he hi=>⟨bok_all.typed b ks h.1 he hi,h.2⟩
structure KMs1 (P:Br→Prop):Prop where
 ok:∀ b,P b→BOk b
 gone:∀ b k c,P b→b.cs k=some c→1≤k→k≤16→P (gone b k c)
 plus:∀ b k c m,P b→b.cs k=some c→c.st=1→Plain1 m→c.out.length+(enc m).length≤b.cf.queue→P (setc b k (some (plus m c)))
 closed:∀ b k c why,P b→b.cs k=some c→c.st≠2→why≤6→c.out.length+11≤b.cf.queue→1≤k→k≤16→P (Bk.gone (setc b k (some (Bk.plus (Bk.closed why) c))) k (Bk.plus (Bk.closed why) c))
 told:∀ b,P b→P (toldB b)
 served:∀ b k c m p s,P b→b.cs k=some c→c.st=1→nextB b c=some (m,p,s)→m.k≠12→P (served b k c m p s)
 evict:∀ b k c m p s,P b→b.cs k=some c→c.st=1→nextB b c=some (m,p,s)→m.k=12→1≤k→k≤16→P (Bk.gone (Bk.served b k c m p s) k (putc b.cf.queue { c with p:=p,s:=s } (enc m)))
 reap:∀ b,P b→P (reap b)
section
variable {P:Br→Prop} (K:KMs1 P)
include K
theorem KMs1.leaveW {tl:M→Br→Br} (ht:∀ m b,Plain1 m→P b→P (tl m b)) {b:Br} (h:P b) {k:Nat} (h1:1≤k) (h2:k≤16):P (leaveW tl b k):=by
 unfold Bk.leaveW
 rcases hc:b.cs k with _ | c
 ·exact h
 ·have hg:=K.gone b k c h hc h1 h2
  unfold Bk.gone at hg
  show P (if c.st=1 then tl (left k) (setFl (setc b k (some { c with st:=2 })) (fleave b.fl k)) else setc b k (some { c with st:=2 }))
  by_cases hst:c.st=1
  ·rw [if_pos hst] at hg ⊢
   exact ht _ _ (plain1_left h2) hg
  ·rw [if_neg hst] at hg ⊢
   exact hg
theorem KMs1.sendW {lv:Br→Nat→Br} (hl:∀ b k,P b→1≤k→k≤16→P (lv b k)) {m:M} (hm:Plain1 m) {b:Br} (h:P b) {k:Nat} (h1:1≤k) (h2:k≤16) (hz:NZ k b):P (sendW lv m b k):=by
 unfold Bk.sendW
 rcases hc:b.cs k with _ | c
 ·exact h
 ·show P (if c.st=2 then b else if c.out.length+(enc m).length≤b.cf.queue then setc b k (some (Bk.plus m c)) else lv b k)
  split
  ·exact h
  ·next hst =>
   split
   ·next hf=>exact K.plus b k c m h hc (by have h7:=((K.ok b h).cn k c hc).st; have h8:=hz c hc; omega) hm hf
   ·exact hl b k h h1 h2
theorem KMs1.tellN:∀ (n:Nat) (m:M) (b:Br),Plain1 m→P b→P (tellN n m b)
 | 0,_,_,_,h=>h
 | n+1,_,_,hm,h=>keep_goes (P:=P) (fun _ _ hb h1 h2 ho=>K.sendW (fun _ _ hb h1 h2=>K.leaveW (KMs1.tellN n) hb h1 h2) hm hb h1 h2 (nz_opn ho)) ids ids_in h
theorem KMs1.tell {m:M} (hm:Plain1 m) {b:Br} (h:P b):P (tell m b):=K.tellN 17 m b hm h
theorem KMs1.leave {b:Br} (h:P b) {k:Nat} (h1:1≤k) (h2:k≤16):P (leave b k):=K.leaveW (K.tellN 16) h h1 h2
theorem KMs1.send {m:M} (hm:Plain1 m) {b:Br} (h:P b) {k:Nat} (h1:1≤k) (h2:k≤16) (hz:NZ k b):P (send m b k):=K.sendW (fun _ _ hb h1 h2=>K.leaveW (K.tellN 16) hb h1 h2) hm h h1 h2 hz
theorem KMs1.left {b:Br} {k:Nat} {c:Cn} (h:P (Bk.gone (setc b k (some c)) k c)) (h2:k≤16):P (Bk.leave (setc b k (some c)) k):=by
 show P (Bk.leaveW (Bk.tellN 16) (setc b k (some c)) k)
 unfold Bk.leaveW;rw [setc_cs];unfold Bk.gone at h
 show P (if c.st=1 then Bk.tellN 16 (Bk.left k) (setFl (setc (setc b k (some c)) k (some { c with st:=2 })) (fleave (setc b k (some c)).fl k)) else setc (setc b k (some c)) k (some { c with st:=2 }))
 by_cases hst:c.st=1
 ·rw [if_pos hst] at h ⊢
  exact K.tellN 16 _ _ (plain1_left h2) h
 ·rw [if_neg hst] at h ⊢
  exact h
theorem KMs1.shut {b:Br} (h:P b) {k:Nat} (h1:1≤k) (h2:k≤16) {why:Nat} (hw:why≤6):P (shut b k why):=by
  rcases hc:b.cs k with _ | c
  · have:Bk.shut b k why=b:=by
      have e1:Bk.send (Bk.closed why) b k=b:=by
        show Bk.sendW (leaveN 16) _ b k=b
        unfold Bk.sendW;rw [hc]
      unfold Bk.shut;rw [e1]
      show Bk.leaveW (Bk.tellN 16) b k=b
      unfold Bk.leaveW;rw [hc]
    rw [this];exact h
  · by_cases hst:c.st=2
    · rw [shut_closing hc hst]; exact h
    · unfold Bk.shut
      by_cases hf:c.out.length+11≤b.cf.queue
      · rw [send_fits hc hst (by rw [closed_len]; exact hf)]
        exact K.left (K.closed b k c why h hc hst hw hf h1 h2) h2
      · have:Bk.send (Bk.closed why) b k=Bk.leave b k:=by
          show Bk.sendW (leaveN 16) _ b k=_
          unfold Bk.sendW;rw [hc]
          show (if c.st=2 then b else if c.out.length+(enc (Bk.closed why)).length≤b.cf.queue then _ else leaveN 16 b k)=_
          rw [if_neg hst,if_neg (by rw [closed_len]; exact hf)];rfl
        rw [this];exact K.leave (K.leave h h1 h2) h1 h2
theorem KMs1.holderN:∀ (n:Nat) {b:Br},P b→P (holderN n b)
  | 0,_,h=>h
  | n+1,b,h=>by
    show P (if _ then b else Bk.holderN n (Bk.tell (mfloor (fhold b.fl)) (toldB b)))
    split
    · exact h
    · have hb:=K.ok b h
      have hh:=hold_in hb.fok hb.rin;exact KMs1.holderN n (K.tell (plain1_floor hh.1 hh.2) (K.told b h))
theorem KMs1.holder {b:Br} (h:P b):P (holder b):=K.holderN 18 h
theorem KMs1.serveN:∀ (n:Nat) {b:Br} {k:Nat},P b→1≤k→k≤16→opn b k=true→P (serveN n b k)
  | 0,_,_,h,_,_,_=>h
  | n+1,b,k,h,h1,h2,ho=>by
    obtain ⟨c,hc,hst⟩:=opn_cs ho;rw [serveN_succ n b k hc]
    rcases hn:nextB b c with _ | ⟨m,p,s⟩
    · exact h
    · show P (if m.k=12 then Bk.leave (Bk.served b k c m p s) k else Bk.serveN n (Bk.served b k c m p s) k)
      split
      · next h12=>exact K.left (K.evict b k c m p s h hc hst hn h12 h1 h2) h2
      · next h12 =>
        refine KMs1.serveN n (K.served b k c m p s h hc hst hn h12) h1 h2 ?_;unfold Bk.served;rw [opn_setc,if_pos rfl]
        show decide ((putc b.cf.queue { c with p:=p,s:=s } (enc m)).st=1)=true
        rw [(putc_same b.cf.queue { c with p:=p,s:=s } (enc m)).1]
        simpa using hst
theorem KMs1.settle {b:Br} (h:P b):P (settle b):=
 K.reap _ (K.holder (keep_goes (P:=P) (fun _ _ hb h1 h2 ho=>K.serveN _ hb h1 h2 ho) ids ids_in (K.holder h)))
theorem KMs1.write {b:Br} (h:P b) (id n:Int) (ho:∀ k c,1≤k→k≤16→id=(k:Nat)→b.cs k=some c→P (setc b k (some { c with out:=c.out.drop (takeN n c.out.length) }))):P (writeB b id n):=by
 unfold writeB
 by_cases ht:isThere b id=true
 ·rw [if_pos ht]
  have h0:1≤id∧id≤16:=by unfold isThere at ht; simp at ht; exact ht.1
  rcases hc:b.cs id.toNat with _ | c
  ·exact h
  ·exact K.settle (ho id.toNat c (by omega) (by omega) (by omega) hc)
 ·rw [if_neg ht]; exact h
theorem KMs1.ends {b:Br} (h:P b) (code:Int) (hE:∀ n:Nat,n≤255→b.ended=false→P { b with ended:=true,code:=n,inp:=[] }):P (endB b code):=by
 unfold endB
 by_cases he:endE b code=0
 ·rw [if_pos he]
  have h0:b.ended=false∧¬ (code<0∨255<code):=by
   unfold endE at he
   split at he
   ·cases he
   ·next hn =>
    split at he
    ·cases he
    ·next hc=>exact ⟨by simpa using hn,hc⟩
  exact K.settle (K.tell (plain1_exit (by omega)) (hE code.toNat (by omega) h0.1))
 ·rw [if_neg he]; exact h
theorem KMs1.tick {b:Br} (hf:P { b with fl:=ftick b.fl }) (hi:∀ b k c,P b→b.cs k=some c→P (setc b k (some { c with idle:=c.idle+1 }))):P (tickB b):=by
  unfold tickB;refine K.settle ?_
  have key:∀ (l:List Nat) (b:Br),(∀ k∈l,1≤k∧k≤16)→P b→P (l.foldl tickC b):=by
    intro l
    induction l with
    | nil=>exact fun _ _ h=>h
    | cons k l ih =>
      intro b hl hb;refine ih _ (fun j hj=>hl j (List.mem_cons_of_mem _ hj)) ?_;obtain ⟨h1,h2⟩:=hl k List.mem_cons_self;unfold tickC
      rcases hc:b.cs k with _ | c
      · exact hb
      · have:=hi b k c hb hc
        show P (if _ then Bk.shut (setc b k (some { c with idle:=c.idle+1 })) k 6 else setc b k (some { c with idle:=c.idle+1 }))
        split
        · exact K.shut this h1 h2 (by decide)
        · exact this
  exact key ids _ ids_in hf
end
structure KCm1 (k:Nat) (P:Br→Prop):Prop extends KMs1 P where
 join:∀ b c t p r,P b→b.cs k=some c→1≤k→k≤16→c.st=0→t.length≤20→isName t=true→p≤b.L.length→0≤r→r≤2→P (send (welcome k p r) (setFl (setc b k (some (opened c t p))) (fjoin b.fl k r)) k)
 fl:∀ b s,P b→FlStep b.fl s→P (setFl b s)
 typed:∀ b ks,P b→b.ended=false→b.inp.length+ks.length≤b.cf.input→P { b with inp:=b.inp ++ ks,tot:=b.tot+ks.length }
structure KSy1 (k:Nat) (P:Br→Prop):Prop extends KCm1 k P where
 lx:∀ b c t,P b→b.cs k=some c→P (setc b k (some { c with lx:=lrun c.lx t }))
 idle0:∀ b c,P b→b.cs k=some c→P (setc b k (some { c with idle:=0 }))
 fd:∀ b c t,P b→b.cs k=some c→P (setc b k (some { c with fd:=fpush c.fd t }))
section
variable {P:Br→Prop} {k:Nat} (K:KCm1 k P)
include K
theorem KCm1.listB {b:Br} (h:P b) (h1:1≤k) (h2:k≤16) (hz:NZ k b):P (Bk.listB b k):=by
 unfold Bk.listB;refine (keep_goes (P:=fun b=>P b∧(BOk b∧NZ k b)) (f:=fun b j=>Bk.send (notice (listLine b j)) b k) (fun b j hb j1 j2 ho=>⟨K.send (plain1_notice ?_) hb.1 h1 h2 hb.2.2,(nz_core k).send _ hb.2 h1 h2⟩) ids ids_in ⟨h,K.ok b h,hz⟩).1;obtain ⟨c,hc,_⟩:=opn_cs ho;have hn:=((K.ok b hb.1).cn j c hc).name;have hd:=Dgs.dgs_len j 2 (by omega);have hr:=role_len (rrole b.fl.roles j)
 have he:(if fhold b.fl=(j:Int) then ([32#8,42#8]:Bs) else []).length≤2:=by split <;> decide
 unfold listLine;rw [hc];simp only [List.length_append]
 show _+1+_+1+c.name.length+_≤80
 omega
theorem KCm1.doB {b:Br} (h:P b) (h1:1≤k) (h2:k≤16) (o:Option (Int×Int)) (ht:∀ x n,o=some (x,n)→x≠10∧x≠11) (hz:NZ k b):P (Bk.doB b k o).1:=by
 rcases o with _ | ⟨kind,n⟩
 ·exact h
 obtain ⟨t1,t2⟩:=ht kind n rfl;unfold Bk.doB
 refine p_ite (P:=fun x:Br×Bool=>P x.1) (fun _=>h) fun hn=>?_
 refine p_ite (P:=fun x:Br×Bool=>P x.1) (fun _=>K.fl b (fask b.fl k) h (.inl ⟨_,rfl⟩)) fun hn=>?_
 refine p_ite (P:=fun x:Br×Bool=>P x.1) (fun _=>K.fl b (fdrop b.fl k) h (.inr (.inl ⟨_,rfl⟩))) fun hn=>?_
 refine p_ite (P:=fun x:Br×Bool=>P x.1) (fun _=>K.listB h h1 h2 hz) fun hn=>?_
 refine p_ite (P:=fun x:Br×Bool=>P x.1) (fun _=>K.shut h h1 h2 (by decide)) fun hn=>?_
 refine p_ite (P:=fun x:Br×Bool=>P x.1) (fun _=>K.fl b (frev b.fl) h (.inr (.inr (.inr (.inl rfl))))) fun hn=>?_
 refine p_ite (P:=fun x:Br×Bool=>P x.1) (fun h9=>absurd h9 t1) fun hn=>?_
 refine p_ite (P:=fun x:Br×Bool=>P x.1) (fun h9=>absurd h9 t2) fun hn=>?_
 rcases hj:userB b n with _ | j
 ·exact h
 ·have hj2:1≤j∧j≤16:=by
   unfold userB at hj
   split at hj
   ·injection hj with hj; omega
   ·cases hj
  refine p_ite (P:=fun x:Br×Bool=>P x.1) (fun _=>K.fl b (fgive b.fl j) h (.inr (.inr (.inl ⟨_,rfl⟩)))) fun hn=>?_
  refine p_ite (P:=fun x:Br×Bool=>P x.1) (fun _=>K.shut h hj2.1 hj2.2 (by decide)) fun hn=>?_
  refine p_ite (P:=fun x:Br×Bool=>P x.1) (fun _=>K.fl b (fset b.fl j 1) h (.inr (.inr (.inr (.inr (.inl ⟨_,_,rfl⟩)))))) fun hn=>?_
  refine p_ite (P:=fun x:Br×Bool=>P x.1) (fun _=>K.fl b (fset b.fl j 0) h (.inr (.inr (.inr (.inr (.inl ⟨_,_,rfl⟩)))))) fun hn=>?_
  exact h
theorem KCm1.stepC {b:Br} (h:P b) (h1:1≤k) (h2:k≤16) {s:Bs} (hs:Tame s) (hz:NZ k b):P (Bk.stepC b k s):=by
 unfold Bk.stepC;refine K.holder ?_
 split
 ·exact K.doB h h1 h2 _ hs.2 hz
 ·exact K.send (plain1_denied hs.1) (K.doB h h1 h2 _ hs.2 hz) h1 h2 ((nz_cmd k).doB ⟨K.ok b h,hz⟩ h1 h2 _ hs.2).2
theorem KCm1.cmds (h1:1≤k) (h2:k≤16):∀ (l:List Bs) {b:Br},(∀ s∈l,Tame s)→P b→P (Bk.cmds b k l)
  | [],_,_,h=>h
  | s :: l,b,hl,h=>by
    show P (if opn b k then Bk.cmds (Bk.stepC b k s) k l else b)
    split
    · next ho=>exact KCm1.cmds h1 h2 l (fun x hx=>hl x (List.mem_cons_of_mem _ hx)) (K.stepC h h1 h2 (hl s List.mem_cons_self) (nz_opn ho))
    · exact h
theorem KCm1.joinB {b:Br} (h:P b) {c:Cn} {m:M} (hc:b.cs k=some c) (hst:c.st=0) (h1:1≤k) (h2:k≤16) (hm:m.ok=true) (hm1:m.k=1) (hn:isName m.t=true):P (Bk.joinB b k m):=by
 have ho:opn b k=false:=by unfold opn; rw [hc]; simp [hst]
 have hc1:=(tell_shut (joined k m.t) ho).trans hc
 have ht:m.t.length≤20:=by have:=Ms.rt_n hm; rw [hm1] at this; exact this
 have hP1:=K.tell (plain1_joined h2 ht) h;rw [joinB_eq,hc1];have hr:=firstRole_in (Bk.tell (joined k m.t) b).fl (decide (m.a % 2=1));have hX:=K.join _ c m.t (comeAt (Bk.tell (joined k m.t) b) m) (comeRole (Bk.tell (joined k m.t) b) m) hP1 hc1 h1 h2 hst ht hn (viewAt_le _ _ _ _) hr.1 hr.2
 show P (joinX (Bk.send (welcome k (comeAt (Bk.tell (joined k m.t) b) m) (comeRole (Bk.tell (joined k m.t) b) m)) (setFl (setc (Bk.tell (joined k m.t) b) k (some (opened c m.t (comeAt (Bk.tell (joined k m.t) b) m)))) (fjoin (Bk.tell (joined k m.t) b).fl k (comeRole (Bk.tell (joined k m.t) b) m))) k) k)
 have hZ:=(nz_core k).send (welcome k (comeAt (Bk.tell (joined k m.t) b) m) (comeRole (Bk.tell (joined k m.t) b) m)) (b:=setFl (setc (Bk.tell (joined k m.t) b) k (some (opened c m.t (comeAt (Bk.tell (joined k m.t) b) m)))) (fjoin (Bk.tell (joined k m.t) b).fl k (comeRole (Bk.tell (joined k m.t) b) m))) ⟨bok_all.join _ k c m.t _ _ (K.ok _ hP1) hc1 h1 h2 hst ht hn (viewAt_le _ _ _ _) hr.1 hr.2,fun d hd=>by
  replace hd:(setc (Bk.tell (joined k m.t) b) k (some (opened c m.t (comeAt (Bk.tell (joined k m.t) b) m)))).cs k=some d:=hd;rw [setc_cs] at hd
  injection hd with hd
  subst hd
  show (1:Nat)≠0
  decide⟩ h1 h2
 obtain ⟨x,hx⟩:∃ x,Bk.send (welcome k (comeAt (Bk.tell (joined k m.t) b) m) (comeRole (Bk.tell (joined k m.t) b) m)) (setFl (setc (Bk.tell (joined k m.t) b) k (some (opened c m.t (comeAt (Bk.tell (joined k m.t) b) m)))) (fjoin (Bk.tell (joined k m.t) b).fl k (comeRole (Bk.tell (joined k m.t) b) m))) k=x:=⟨_,rfl⟩
 rw [hx] at hX hZ ⊢;have hxo:=K.ok x hX;have hY:=K.send (plain1_floor hxo.told.1 hxo.told.2) hX h1 h2 hZ.2;have hZ2:=(nz_core k).send (mfloor x.told) hZ h1 h2;unfold joinX
 obtain ⟨y,hy⟩:∃ y,Bk.send (mfloor x.told) x k=y:=⟨_,rfl⟩
 rw [hy] at hY hZ2 ⊢;unfold joinY
 split
 ·exact K.send (plain1_exit (K.ok y hY).code) hY h1 h2 hZ2.2
 ·exact hY
theorem KCm1.hello {b:Br} (h:P b) {c:Cn} {m:M} (hc:b.cs k=some c) (hst:c.st=0) (h1:1≤k) (h2:k≤16) (hm:m.ok=true):P (Bk.hello b k m):=by
 unfold Bk.hello
 split
 ·exact K.shut h h1 h2 (by decide)
 ·next hk1 =>
  split
  ·exact K.shut h h1 h2 (by decide)
  ·split
   ·exact K.shut h h1 h2 (by decide)
   ·next hn=>exact K.joinB h hc hst h1 h2 hm (by omega) (by simpa using hn)
theorem KCm1.offered {b:Br} (h:P b) (h1:1≤k) (h2:k≤16) {a:Int} (ha:0≤a∧a≤1099511627776) (ks:Bs) (hz:NZ k b):P (Bk.offered b k a ks):=by
 unfold Bk.offered
 split
 ·exact h
 split
 ·next hw =>
  unfold whyB at hw
  split at hw
  ·cases hw
  ·next he =>
   split at hw
   ·cases hw
   split at hw
   ·cases hw
   split at hw
   ·cases hw
   split at hw
   ·cases hw
   ·next hi=>exact K.typed b ks h (by simpa using he) (by omega)
 ·exact K.send (plain1_reject ha.1 ha.2 (whyB_le _ _ _)) h h1 h2 hz
theorem KCm1.keysB {b:Br} (h:P b) (h1:1≤k) (h2:k≤16) {m:M} (hm:m.ok=true) (hlx:∀ c,b.cs k=some c→P (setc b k (some { c with lx:=lrun c.lx m.t }))) (ht:∀ c,b.cs k=some c→∀ s∈lcmds c.lx m.t,Tame s) (hz:NZ k b):P (Bk.keysB b k m):=by
 rcases hc:b.cs k with _ | c
 ·unfold Bk.keysB; rw [hc]; exact h
 ·rw [keysB_eq hc]
  exact K.cmds h1 h2 _ (ht c hc) (K.offered (hlx c hc) h1 h2 (Ms.rt_a hm) _ (hz.set hc id))
theorem KCm1.takeB {b:Br} (h:P b) (h1:1≤k) (h2:k≤16) {mo:Option M} (hm:∀ m,mo=some m→m.ok=true) (hlx:∀ m,mo=some m→m.k=2→∀ c,b.cs k=some c→c.st≠0→P (setc b k (some { c with lx:=lrun c.lx m.t }))) (ht:∀ m,mo=some m→m.k=2→∀ c,b.cs k=some c→c.st≠0→∀ s∈lcmds c.lx m.t,Tame s):P (Bk.takeB b k mo):=by
 unfold Bk.takeB
 rcases mo with _ | m
 ·exact K.shut h h1 h2 (by decide)
 ·show P (if (match b.cs k with | some c=>decide (c.st=0) | none=>false)=true then Bk.hello b k m else if m.k=2 then Bk.keysB b k m else if m.k=3 then Bk.send ⟨14,0,0,[]⟩ b k else if m.k=4 then Bk.shut b k 0 else Bk.shut b k 4)
  rcases hc:b.cs k with _ | c
  ·dsimp only
   rw [if_neg (by decide)]
   split
   ·next h2k=>exact K.keysB h h1 h2 (hm m rfl) (fun d hd=>by rw [hc] at hd; cases hd) (fun d hd=>by rw [hc] at hd; cases hd) fun d hd=>by rw [hc] at hd; cases hd
   split
   ·exact K.send plain1_pong h h1 h2 fun d hd=>by rw [hc] at hd; cases hd
   split
   ·exact K.shut h h1 h2 (by decide)
   ·exact K.shut h h1 h2 (by decide)
  ·dsimp only
   by_cases hst:c.st=0
   ·rw [if_pos (by simpa using hst)]
    exact K.hello h hc hst h1 h2 (hm m rfl)
   ·rw [if_neg (by simpa using hst)]
    have hz:NZ k b:=fun d hd=>by rw [hc] at hd; injection hd with hd; rw [← hd]; exact hst
    split
    ·next h2k=>exact K.keysB h h1 h2 (hm m rfl) (fun d hd=>hlx m rfl h2k d hd (by rw [hc] at hd; injection hd with hd; rw [← hd]; exact hst)) (fun d hd=>ht m rfl h2k d hd (by rw [hc] at hd; injection hd with hd; rw [← hd]; exact hst)) hz
    split
    ·exact K.send plain1_pong h h1 h2 hz
    split
    ·exact K.shut h h1 h2 (by decide)
    ·exact K.shut h h1 h2 (by decide)
end
section
variable {P:Br→Prop} {k:Nat} (K:KSy1 k P)
include K
theorem KSy1.takes (h1:1≤k) (h2:k≤16) {F:Fs}:∀ (l:List (BitVec 8×Bs)) {b:Br} {X:Lx.Lx},P b→EarJ k F X b→(∀ s∈earLines X l,Tame s)→P (takes b k l)∧EarJ k F (earLx X l) (takes b k l)
  | [],_,_,h,he,_=>⟨h,he⟩
  | f :: l,b,X,h,he,ht=>by
    by_cases hcl:closing b k=true
    · rw [takes_shut hcl]
      refine ⟨h,he.1,fun c hc hst=>?_⟩;unfold closing at hcl;rw [hc] at hcl;simp at hcl;exact absurd hcl hst
    · obtain ⟨c,hc,hst⟩:∃ c,b.cs k=some c∧c.st≠2:=by
        rcases hx:b.cs k with _ | c
        · unfold closing at hcl; rw [hx] at hcl; exact absurd rfl hcl
        · exact ⟨c,rfl,fun e=>by unfold closing at hcl; rw [hx] at hcl; simp [e] at hcl⟩
      obtain ⟨hF,hX⟩:=he.2 c hc hst
      have e1:Bk.takes b k (f :: l)=Bk.takes (holder (takeB b k (mof f))) k l:=by
        show (if closing b k then b else _)=_
        rw [if_neg hcl]
      rw [e1]
      have hmok:∀ m,mof f=some m→m.ok=true:=fun m hm=>(mof_ok hm).1
      have key:(∀ m,mof f=some m→m.k=2→∀ s∈lcmds X m.t,Tame s)∧∃ X',(∀ s∈earLines X' l,Tame s)∧earLx X (f :: l)=earLx X' l∧X'=(match mof f with | some m=>if m.k=2 then lrun X m.t else X | none=>X):=by
        have ht':∀ s∈(match mof f with | some m=>if m.k=2 then lcmds X m.t ++ earLines (lrun X m.t) l else earLines X l | none=>earLines X l),Tame s:=ht
        have he':earLx X (f :: l)=(match mof f with | some m=>if m.k=2 then earLx (lrun X m.t) l else earLx X l | none=>earLx X l):=rfl;rw [he']
        rcases hm:mof f with _ | m
        · rw [hm] at ht'
          exact ⟨fun m h=>(by cases h),X,ht',rfl,rfl⟩
        · rw [hm] at ht'
          by_cases hk:m.k=2
          · have ht'':∀ s∈lcmds X m.t ++ earLines (lrun X m.t) l,Tame s:=by
              replace ht':∀ s∈(if m.k=2 then lcmds X m.t ++ earLines (lrun X m.t) l else earLines X l),Tame s:=ht'
              rw [if_pos hk] at ht';exact ht'
            refine ⟨fun m2 h2 _ s hs=>?_,lrun X m.t,fun s hs=>ht'' s (List.mem_append_right _ hs),?_,?_⟩
            · injection h2 with h2
              subst h2;exact ht'' s (List.mem_append_left _ hs)
            · show (if m.k=2 then _ else _)=_
              rw [if_pos hk]
            · show _=(if m.k=2 then _ else _)
              rw [if_pos hk]
          · replace ht':∀ s∈(if m.k=2 then lcmds X m.t ++ earLines (lrun X m.t) l else earLines X l),Tame s:=ht'
            rw [if_neg hk] at ht';refine ⟨fun m2 h2 hk2=>?_,X,ht',?_,?_⟩
            · injection h2 with h2
              subst h2;exact absurd hk2 hk
            · show (if m.k=2 then _ else _)=_
              rw [if_neg hk]
            · show _=(if m.k=2 then _ else _)
              rw [if_neg hk]
      obtain ⟨k1,X',k2,k3,k4⟩:=key;rw [k3]
      have hP:P (takeB b k (mof f)):=K.toKCm1.takeB h h1 h2 hmok (fun m _ _ d hd _=>K.lx b d m.t h hd) fun m hm hk2 d hd _=>by
        rw [hc] at hd
        injection hd with hd
        rw [← hd,hX];exact k1 m hm hk2
      have hE:EarJ k F X' (takeB b k (mof f)):=by
        rcases hm:mof f with _ | m
        · rw [hm] at k4
          replace k4:X'=X:=k4;rw [k4];exact (ear_core k F X).shut he h1 h2 4
        · rw [hm] at k4
          replace k4:X'=if m.k=2 then lrun X m.t else X:=k4
          by_cases hk2:m.k=2
          · rw [if_pos hk2] at k4
            by_cases hs0:c.st=0
            · have e2:takeB b k (some m)=shut b k 4:=by
                unfold takeB;rw [hc]
                show (if decide (c.st=0)=true then hello b k m else _)=_
                rw [if_pos (by simpa using hs0)];unfold hello;rw [if_pos (by omega)]
              rw [e2];refine ⟨bok_all.shut he.1 h1 h2 4,fun d hd hd2=>?_⟩;have:=shut_closes (b:=b) (k:=k) 4;unfold closing at this;rw [hd] at this;simp at this;exact absurd this hd2
            · have e2:takeB b k (some m)=keysB b k m:=by
                unfold takeB;rw [hc]
                show (if decide (c.st=0)=true then hello b k m else if m.k=2 then keysB b k m else _)=_
                rw [if_neg (by simpa using hs0),if_pos hk2]
              rw [e2,keysB_eq hc]
              have hE1:EarJ k F X' (setc b k (some { c with lx:=lrun c.lx m.t })):=by
                refine ⟨bok_all.lx b k c m.t he.1 hc,fun d hd _=>?_⟩;rw [setc_cs] at hd
                injection hd with hd
                subst hd;exact ⟨hF,by show lrun c.lx m.t=X'; rw [hX,k4]⟩
              have hE2:=(ear_cmd k k F X').offered hE1 h1 h2 (Ms.rt_a (hmok m hm)) (lkeys c.lx m.t);exact (ear_cmd k k F X').cmds h1 h2 _ (fun s hs=>k1 m hm hk2 s (by rw [← hX]; exact hs)) hE2
          · rw [if_neg hk2] at k4
            rw [k4]
            exact (ear_cmd k k F X).takeB he h1 h2 (fun m' hm'=>by injection hm' with hm'; rw [← hm']; exact hmok m hm) (fun m' hm' hk'=>by injection hm' with hm'; subst hm'; exact absurd hk' hk2) fun m' hm' hk'=>by injection hm' with hm'; subst hm'; exact absurd hk' hk2
      exact KSy1.takes h1 h2 l (K.holder hP) ((ear_core k F X').holder hE) k2
theorem KSy1.bytes {b:Br} (h:P b) (h1:1≤k) (h2:k≤16) {F:Fs} {X:Lx.Lx} (he:EarJ k F X b) (h0:bytesE b (k:Nat)=0) (t:Bs) (ht:∀ s∈earLines X (fgot F t),Tame s) :
  P (bytesB b (k:Nat) t)∧EarJ k (fpush F t) (earLx X (fgot F t)) (bytesB b (k:Nat) t):=by
 have hth:isThere b (k:Nat)=true:=by
  unfold bytesE at h0
  split at h0
  ·next hi=>exact hi
  ·cases h0
 have hkk:((k:Nat):Int).toNat=k:=by omega
 obtain ⟨c,hc⟩:∃ c,b.cs k=some c:=by
  unfold isThere at hth;rw [hkk] at hth;simp at hth;exact Option.isSome_iff_exists.1 hth.2
 have hst:c.st≠2:=fun e=>by
  unfold bytesE at h0;rw [if_pos hth,hkk] at h0;unfold closing at h0;rw [hc] at h0;simp [e] at h0
 obtain ⟨hF,hX⟩:=he.2 c hc hst
 obtain ⟨b1,hb1,c1,hc1,hst1,hF1,hX1,hP1,hB1⟩:∃ b1,bytesB b (k:Nat) t=settle (recvB b1 k t)∧∃ c1,b1.cs k=some c1∧c1.st≠2∧c1.fd=F∧c1.lx=X∧P b1∧BOk b1:=by
  refine ⟨if t=[] then b else setc b k (some { c with idle:=0 }),?_,?_⟩
  ·unfold bytesB
   rw [if_pos h0,hkk]
   show settle (recvB (match b.cs k with | some c=>(if t=[] then b else setc b k (some { c with idle:=0 })) | none=>b) k t)=_
   rw [hc]
  ·split
   ·exact ⟨c,hc,hst,hF,hX,h,he.1⟩
   ·exact ⟨_,setc_cs _ _ _,hst,hF,hX,K.idle0 b c h hc,bok_all.idle0 b k c he.1 hc⟩
 rw [hb1,recvB_eq hc1];have hP2:=K.fd b1 c1 t hP1 hc1
 have hE2:EarJ k (fpush F t) X (setc b1 k (some { c1 with fd:=fpush c1.fd t })):=⟨bok_all.fd b1 k c1 t hB1 hc1,fun d hd _=>by
  rw [setc_cs] at hd
  injection hd with hd
  subst hd
  exact ⟨by show fpush c1.fd t=_; rw [hF1],hX1⟩⟩
 rw [hF1] at hP2 hE2 ⊢;obtain ⟨hP3,hE3⟩:=K.takes h1 h2 (fgot F t) hP2 hE2 ht;unfold recvX
 split
 ·exact ⟨K.settle hP3,(ear_core k _ _).settle hE3⟩
 ·exact ⟨K.settle (K.shut hP3 h1 h2 (by decide)),(ear_core k _ _).settle ((ear_core k _ _).shut hE3 h1 h2 1)⟩
end
end Bk
end
section
namespace Bk
open Fr Lx
structure Ts where
 at_:Int
 gaps:Nat
 last:Bool
end Bk
end
section
namespace Bk
open Fr Lx
end Bk
end
section
namespace Bk
open Fr Lx
structure FlOwn (s:Fl) (ow i:Nat):Prop where
 rising:Rising s.roles
 own:∀ j,rget s.roles j=some 2→j=ow
 is:ow≠0→rget s.roles ow=some 2
 lo:∀ j v,rget s.roles j=some v→1≤j∧j≤i
structure RolesAt (b:Br) (i ow:Nat):Prop where
 cw:CW b (i * 130)
 ev:EvOk b 0 (i * 2200) 0
 cf:b.cf=cfd
 ended:b.ended=false
 told:fhold b.fl=b.told
 few:∀ j,(b.cs j).isSome=true→j≤i
 own:FlOwn b.fl ow i
end Bk
end
section
namespace Bk
open Fr Lx
structure VB (cf0:Cf) (L0:Bs) (B:Br):Prop where
 cf:B.cf=cf0
 L:B.L=L0
 st:B.strikes=cf0.strikes
 ended:B.ended=false
 told:B.told=0
 line:B.fl.line=[]
 len:L0.length≤1099511627776
structure VK (cf:Cf) (P Q:Bs→Bs→Cn→Prop):Prop where
 go:∀ G L c m p s,L.length≤1099511627776→P G L c→c.st=1→nextOf L cf.log c.p c.s ((cf.queue:Int) - c.out.length - 200) cf.data cf.strikes=some (m,p,s)→m.k≠12→P G L (putc cf.queue { c with p:=p,s:=s } (enc m))
 end_:∀ G L c m p s,L.length≤1099511627776→P G L c→c.st=1→nextOf L cf.log c.p c.s ((cf.queue:Int) - c.out.length - 200) cf.data cf.strikes=some (m,p,s)→m.k=12→Q G L { putc cf.queue { c with p:=p,s:=s } (enc m) with st:=2 }
 wr:∀ G L c q,P G L c→P (G ++ c.out.take q) L { c with out:=c.out.drop q }
 wr2:∀ G L c q,Q G L c→Q (G ++ c.out.take q) L { c with out:=c.out.drop q }
structure VM (P Q:Bs→Bs→Cn→Prop):Prop where
 more:∀ G L t c,P G L c→P G (L ++ t) c
 more2:∀ G L t c,Q G L c→Q G (L ++ t) c
def ahead (cf:Cf) (t:Bs):Br:={ bnew cf with L:=t,sp:=Sp.nxts (bnew cf).sp t }
end Bk
end
section
namespace Bk
open Fr Lx
def am (m:M):Au.M:=⟨m.k,m.a,m.b,m.t⟩
theorem am_get (l:List M) (j:Nat):(l.map am)[j]?=(l[j]?).map am:=by rw [List.getElem?_map]
theorem good_snoc {o:Bs} {sk:Int} {l:List M} {m:M} (h:Au.good o sk (l.map am) l.length) (hm:Au.mayB o sk (Au.run (l.map am)) (am m)=true):Au.good o sk ((l ++ [m]).map am) (l ++ [m]).length:=by
 intro j x hj hx;rw [List.length_append] at hj;replace hj:j<l.length+1:=hj;rw [am_get] at hx
 by_cases e:j<l.length
 ·rw [List.getElem?_append_left e,← am_get] at hx
  have:=h j x e hx
  rwa [List.map_append,List.take_append_of_le_length (by rw [List.length_map]; omega)]
 ·have e2:j=l.length:=by omega
  subst e2;rw [List.getElem?_append_right (Nat.le_refl _),Nat.sub_self] at hx;replace hx:some (am m)=some x:=hx
  injection hx with hx
  subst hx
  rwa [List.map_append,List.take_left' (by rw [List.length_map])]
theorem run_snoc1 (l:List M) (m:M):Au.run ((l ++ [m]).map am)=Au.takeS (Au.run (l.map am)) (am m):=by
 rw [List.map_append];unfold Au.run;rw [List.foldl_append];rfl
theorem may_more {o:Bs} {sk:Int} {s:Au.St} {m:Au.M} (t:Bs) (hu:s.up≤o.length) (h:Au.mayB o sk s m=true):Au.mayB (o ++ t) sk s m=true:=by
 rw [Au.mayB_iff] at h ⊢;obtain ⟨h1,h2,h3,h4⟩:=h;refine ⟨h1,h2,fun hb=>?_,fun hb=>⟨(h4 hb).1,fun h6=>?_,fun h7=>?_⟩⟩
 ·have:=h3 hb
  unfold Au.begB at this ⊢;rw [List.length_append];simp only [Bool.or_eq_true,Bool.and_eq_true,decide_eq_true_eq] at this ⊢;omega
 ·have h6:=(h4 hb).2.1 h6
  have hl:=Au.data_len h6 hu;unfold Au.dataB at h6 ⊢;simp only [Bool.and_eq_true,decide_eq_true_eq] at h6 ⊢;refine ⟨h6.1,h6.2.1,?_⟩;rw [List.drop_append_of_le_length hu,List.take_append_of_le_length (by rw [List.length_drop]; omega)];exact h6.2.2
 ·have h7:=(h4 hb).2.2 h7
  unfold Au.gapB at h7 ⊢;rw [List.length_append];simp only [Bool.and_eq_true,decide_eq_true_eq] at h7 ⊢;omega
theorem good_more {o:Bs} {sk:Int} {l:List Au.M} {n:Nat} (t:Bs) (hn:n≤l.length) (h:Au.good o sk l n):Au.good (o ++ t) sk l n:=fun j m hj hm =>
 may_more t (Au.up_good (k:=j) (by omega) (Au.good_le h (by omega))).1 (h j m hj hm)
theorem good_take {o:Bs} {sk:Int} {l:List M} (h:Au.good o sk (l.map am) l.length) (j:Nat):Au.good o sk ((l.take j).map am) (l.take j).length:=by
 intro i x hi hx;rw [List.length_take] at hi;rw [am_get,List.getElem?_take_of_lt (by omega),← am_get] at hx;have:=h i x (by omega) hx
 rwa [List.map_take,List.take_take,show min i j=i by omega]
theorem serve_may {L:Bs} {log p s:Nat} {room:Int} {data strikes:Nat} {m:M} {p' s':Nat} {st:Au.St} (hp:p≤L.length) (hs:s≤9) (hst:strikes≤9) (hL:L.length≤1099511627776) (h:nextOf L log p s room data strikes=some (m,p',s'))
  (h1:st.bg=true) (h2:st.en=false) (h3:st.up=p) (h4:st.gp=s):Au.mayB L (strikes:Nat) st (am m)=true∧(m.k≠12→Au.takeS st (am m)=⟨true,false,p',s'⟩):=by
 have hok:=(next_ok hp hs hst hL h).2.2.1
 have hmay:∀ {a:Prop},(m.k=6→Au.dataB L st (am m)=true)→(m.k=7→Au.gapB L (strikes:Nat) st (am m)=true)→5<m.k→a→Au.mayB L (strikes:Nat) st (am m)=true∧a:=fun h6 h7 h5 ha =>
  ⟨Au.mayB_iff.2 ⟨hok,h2,(fun e=>by rw [h1] at e; cases e),fun _=>⟨h5,h6,h7⟩⟩,ha⟩
 unfold nextOf at h
 split at h
 ·next g1 =>
  split at h
  ·injection h with h; injection h with e1 h; injection h with e2 e3
   subst e1
   exact hmay (fun e=>absurd e (by show ¬ (12:Int)=6; decide)) (fun e=>absurd e (by show ¬ (12:Int)=7; decide)) (by show (5:Int)<12; decide) fun e=>absurd rfl e
  ·next g2 =>
   injection h with h; injection h with e1 h; injection h with e2 e3
   subst e1
   refine hmay (fun e=>absurd e (by show ¬ (7:Int)=6; decide)) (fun _=>?_) (by show (5:Int)<7; decide) fun _=>?_
   ·unfold Au.gapB am
    simp only [Bool.and_eq_true,decide_eq_true_eq];rw [h3,h4];omega
   ·unfold Au.takeS am
    rw [h2,h4];simp;omega
 ·split at h
  ·cases h
  ·next g1 g2 =>
   have hc:=count_pos g2
   injection h with h; injection h with e1 h; injection h with e2 e3
   subst e1
   have hlen:((L.drop p).take (countOf L.length p room data)).length=countOf L.length p room data:=by simp; omega
   refine hmay (fun _=>?_) (fun e=>absurd e (by show ¬ (6:Int)=7; decide)) (by show (5:Int)<6; decide) fun _=>?_
   ·unfold Au.dataB am
    simp only [Bool.and_eq_true,decide_eq_true_eq,Bool.not_eq_true',decide_eq_false_iff_not];rw [h3,hlen];refine ⟨rfl,fun e=>?_,rfl⟩;have:=congrArg List.length e;rw [hlen] at this;exact g2 this
   ·unfold Au.takeS am
    rw [h2,h3,h4,hlen,e2,e3];simp
end Bk
end
section
namespace Bk
open Fr Lx
def Sent (sk:Nat) (L T:Bs) (ms:List M):Prop:=T=encs ms∧(∀ m∈ms,m.ok=true)∧Au.good L (sk:Nat) (ms.map am) ms.length
theorem Sent.snoc {sk:Nat} {L T:Bs} {ms:List M} {m:M} (h:Sent sk L T ms) (hm:m.ok=true) (hy:Au.mayB L (sk:Nat) (Au.run (ms.map am)) (am m)=true):Sent sk L (T ++ enc m) (ms ++ [m]):=by
 obtain ⟨h1,h2,h3⟩:=h;refine ⟨by rw [h1,encs_app,encs_one],fun x hx=>?_,good_snoc h3 hy⟩
 rcases List.mem_append.1 hx with hx | hx
 ·exact h2 x hx
 ·rw [List.mem_singleton.1 hx]; exact hm
theorem Sent.more {sk:Nat} {L T:Bs} {ms:List M} (h:Sent sk L T ms) (t:Bs):Sent sk (L ++ t) T ms:=⟨h.1,h.2.1,good_more t (by rw [List.length_map]; exact Nat.le_refl _) h.2.2⟩
theorem Sent.nil (sk:Nat) (L:Bs):Sent sk L [] []:=⟨rfl,fun m hm=>(by cases hm),Au.good_zero _ _ _⟩
def GC (sk:Nat) (L G:Bs) (c:Cn):Prop:=∃ ms,Sent sk L (G ++ c.out) ms∧(c.st=0→ms=[])∧(c.st=1→Au.run (ms.map am)=⟨true,false,c.p,c.s⟩)
structure GA (i sk:Nat) (A G:Bs) (b:Br):Prop where
 lim:b.strikes=sk
 at_:∀ c,b.cs i=some c→GC sk b.L G c
 no:b.cs i=none→∃ ms,Sent sk b.L G ms
 log:b.L=A
def GB (i sk:Nat) (A G:Bs) (b:Br):Prop:=BOk b∧GA i sk A G b
theorem GA.same {i sk:Nat} {A G:Bs} {b b':Br} (h:GA i sk A G b) (h1:b'.strikes=b.strikes) (h2:b'.L=b.L) (h3:b'.cs i=b.cs i):GA i sk A G b':=
 ⟨h1.trans h.lim,fun c hc=>by rw [h2]; exact h.at_ c (h3 ▸ hc),fun hc=>by rw [h2]; exact h.no (h3 ▸ hc),h2.trans h.log⟩
theorem GA.set {i sk:Nat} {A G:Bs} {b:Br} (h:GA i sk A G b) {k:Nat} {c c':Cn} (hc:b.cs k=some c) (hg:i=k→GC sk b.L G c→GC sk b.L G c'):GA i sk A G (setc b k (some c')):=by
 by_cases e:i=k
 ·subst e
  refine ⟨h.lim,fun d hd=>?_,fun hn=>?_,h.log⟩
  ·rw [setc_cs] at hd
   injection hd with hd
   subst hd;exact hg rfl (h.at_ c hc)
  ·rw [setc_cs] at hn; cases hn
 ·exact h.same rfl rfl (setc_ne _ _ _ e)
section
variable {i sk:Nat} {G L:Bs} {c:Cn}
theorem GC.shut (h:GC sk L G c):GC sk L G { c with st:=2 }:=by
 obtain ⟨ms,h1,_,_⟩:=h;exact ⟨ms,h1,fun e=>absurd (show (2:Nat)=0 from e) (by decide),fun e=>absurd (show (2:Nat)=1 from e) (by decide)⟩
theorem plain_may {s:Au.St} {m:M} (hm:Plain1 m) (hb:s.bg=true) (he:s.en=false):Au.mayB L (sk:Nat) s (am m)=true∧Au.takeS s (am m)=s:=by
 obtain ⟨⟨h1,h5,h6,h7,h12,h13⟩,h8⟩:=hm;refine ⟨Au.mayB_iff.2 ⟨h1,he,(fun e=>by rw [hb] at e; cases e),fun _=>⟨by show (5:Int)<m.k; omega,fun e=>absurd e h6,fun e=>absurd e h7⟩⟩,?_⟩;obtain ⟨bg,en,up,gp⟩:=s;replace hb:bg=true:=hb;replace he:en=false:=he;subst hb;subst he;unfold Au.takeS am;simp [h5,h6,h7,h12,h13]
theorem GC.plus (h:GC sk L G c) (hst:c.st=1) {m:M} (hm:Plain1 m):GC sk L G (Bk.plus m c):=by
 obtain ⟨ms,h1,_,h3⟩:=h;have hr:=h3 hst;obtain ⟨g1,g2⟩:=plain_may (L:=L) (sk:=sk) (s:=Au.run (ms.map am)) hm (by rw [hr]) (by rw [hr]);refine ⟨ms ++ [m],?_,fun e=>absurd (show c.st=0 from e) (by omega),fun _=>?_⟩
 ·show Sent sk L (G ++ (c.out ++ enc m)) _
  rw [← List.append_assoc];exact h1.snoc hm.1.1 g1
 ·rw [run_snoc1,g2,hr]
  rfl
theorem GC.closed (h:GC sk L G c) (hst:c.st≠2) (hs2:c.st≤2) {why:Nat} (hw:why≤6):GC sk L G { Bk.plus (Bk.closed why) c with st:=2 }:=by
 obtain ⟨ms,h1,h2,h3⟩:=h;refine ⟨ms ++ [Bk.closed why],?_,fun e=>absurd (show (2:Nat)=0 from e) (by decide),fun e=>absurd (show (2:Nat)=1 from e) (by decide)⟩
 show Sent sk L (G ++ (c.out ++ enc (Bk.closed why))) _
 rw [← List.append_assoc];refine h1.snoc (closed_ok hw) ?_
 rcases (by omega:c.st=0∨c.st=1) with e | e
 ·rw [h2 e]
  exact Au.mayB_iff.2 ⟨closed_ok hw,rfl,fun _=>rfl,fun e=>by cases e⟩
 ·rw [h3 e]
  exact Au.mayB_iff.2 ⟨closed_ok hw,rfl,(fun e=>by cases e),fun _=>⟨show (5:Int)<13 by decide,fun e=>absurd (show (13:Int)=6 from e) (by decide),fun e=>absurd (show (13:Int)=7 from e) (by decide)⟩⟩
theorem GC.served {b:Br} (hb:BOk b) (hk:CnOk b c) (h:GC sk b.L G c) (hs:b.strikes=sk) (hst:c.st=1) {m:M} {p s:Nat} (hn:nextB b c=some (m,p,s)) :
    (m.k≠12→GC sk b.L G (putc b.cf.queue { c with p:=p,s:=s } (enc m)))∧(m.k=12→GC sk b.L G { putc b.cf.queue { c with p:=p,s:=s } (enc m) with st:=2 }):=by
  obtain ⟨ms,h1,_,h3⟩:=h;have hr:=h3 hst;subst hs;obtain ⟨o1,o2,o3,o4,o5⟩:=next_ok hk.p hk.s hb.strikes hb.len hn;obtain ⟨g1,g2⟩:=serve_may hk.p hk.s hb.strikes hb.len hn (st:=Au.run (ms.map am)) (by rw [hr]) (by rw [hr]) (by rw [hr]) (by rw [hr]);refine ⟨fun h12=>?_,fun h12=>?_⟩
  · have hfit:c.out.length+(enc m).length≤b.cf.queue:=by
      have h8:=(o5 h12).2
      have h9:0<(enc m).length:=by rw [enc_len5]; omega
      omega
    have hput:putc b.cf.queue { c with p:=p,s:=s } (enc m)={ c with p:=p,s:=s,out:=c.out ++ enc m }:=by
      unfold putc;rw [if_pos hfit]
    rw [hput];refine ⟨ms ++ [m],?_,fun e=>absurd (show c.st=0 from e) (by omega),fun _=>?_⟩
    · show Sent b.strikes b.L (G ++ (c.out ++ enc m)) _
      rw [← List.append_assoc];exact h1.snoc o3 g1
    · rw [run_snoc1,g2 h12]
  · by_cases hfit:c.out.length+(enc m).length≤b.cf.queue
    · have hput:putc b.cf.queue { c with p:=p,s:=s } (enc m)={ c with p:=p,s:=s,out:=c.out ++ enc m }:=by
        unfold putc;rw [if_pos hfit]
      rw [hput];refine ⟨ms ++ [m],?_,fun e=>absurd (show (2:Nat)=0 from e) (by decide),fun e=>absurd (show (2:Nat)=1 from e) (by decide)⟩
      show Sent b.strikes b.L (G ++ (c.out ++ enc m)) _
      rw [← List.append_assoc];exact h1.snoc o3 g1
    · have hput:putc b.cf.queue { c with p:=p,s:=s } (enc m)={ c with p:=p,s:=s }:=by
        unfold putc;rw [if_neg hfit]
      rw [hput];exact ⟨ms,h1,fun e=>absurd (show (2:Nat)=0 from e) (by decide),fun e=>absurd (show (2:Nat)=1 from e) (by decide)⟩
end
theorem gone_ga {i sk:Nat} {A G:Bs} {b:Br} {k:Nat} {c:Cn} (h:GA i sk A G (setc b k (some { c with st:=2 }))):GA i sk A G (gone b k c):=by
 unfold Bk.gone
 split
 ·exact h.same rfl rfl rfl
 ·exact h
theorem gb_msg (i sk:Nat) (A G:Bs):KMs1 (GB i sk A G) where
 ok:=fun b h=>h.1
 gone:=fun b k c h hc h1 h2=>⟨bok_all.gone b k c h.1 hc h1 h2,gone_ga (h.2.set hc fun _ hg=>hg.shut)⟩
 plus:=fun b k c m h hc hst hm hf=>⟨bok_all.plus b k c m h.1 hc (by omega) hf,h.2.set hc fun _ hg=>hg.plus hst hm⟩
 closed:=fun b k c why h hc hst hw hf h1 h2=>by
  have hb1:=bok_all.plus b k c (Bk.closed why) h.1 hc hst (by rw [closed_len]; exact hf);refine ⟨bok_all.gone _ k _ hb1 (setc_cs _ _ _) h1 h2,gone_ga ?_⟩;rw [setc_two]
  exact h.2.set hc fun _ hg=>hg.closed hst (h.1.cn k c hc).st hw
 told:=fun b h=>⟨bok_all.told b h.1,h.2.same rfl rfl rfl⟩
 served:=fun b k c m p s h hc hst hn h12=>⟨bok_all.served b k c m p s h.1 hc hst hn,h.2.set hc fun _ hg=>(hg.served h.1 (h.1.cn k c hc) h.2.lim hst hn).1 h12⟩
 evict:=fun b k c m p s h hc hst hn h12 h1 h2=>by
  have hb1:=bok_all.served b k c m p s h.1 hc hst hn;refine ⟨bok_all.gone _ k _ hb1 (setc_cs _ _ _) h1 h2,gone_ga ?_⟩;unfold Bk.served;rw [setc_two]
  exact h.2.set hc fun _ hg=>(hg.served h.1 (h.1.cn k c hc) h.2.lim hst hn).2 h12
 reap:=fun b h=>⟨bok_all.reap b h.1,by
  refine ⟨h.2.lim,fun c hc=>?_,fun hn=>?_,h.2.log⟩
  ·replace hc:(if 1≤i∧i≤16∧done b i=true then none else b.cs i)=some c:=hc
   split at hc
   ·cases hc
   ·exact h.2.at_ c hc
  ·rcases e:b.cs i with _ | c
   ·exact h.2.no e
   ·replace hn:(if 1≤i∧i≤16∧done b i=true then none else b.cs i)=none:=hn
    rw [e] at hn
    split at hn
    ·next hd =>
     have hd:=hd.2.2;unfold done at hd;rw [e] at hd;simp at hd;obtain ⟨ms,h1,_⟩:=h.2.at_ c e;rw [hd.2,List.append_nil] at h1;exact ⟨ms,h1⟩
    ·cases hn⟩
end Bk
end
section
namespace Bk
open Fr Lx
theorem welcome_ok {k p:Nat} (hk:k≤16) (hp:p≤1099511627776) (r:Int):(welcome k p r).ok=true:=by
 unfold M.ok welcome;rw [Ms.rt_iff];refine ⟨rfl,?_,?_,?_⟩
 ·show Ms.okN ((k:Nat):Int) true=true
  unfold Ms.okN; simp; omega
 ·show Ms.okN ((p:Nat):Int) true=true
  unfold Ms.okN; simp; omega
 ·show (roleWord r).length≤Ms.tx 5
  exact Nat.le_trans (role_len r) (by decide)
theorem gb_join {i sk:Nat} {A G:Bs} {b:Br} {k:Nat} {c:Cn} {t:Bs} {p:Nat} {r:Int} (h:GB i sk A G b) (hc:b.cs k=some c) (h1:1≤k) (h2:k≤16) (h0:c.st=0) (ht:t.length≤20) (hn:isName t=true) (hp:p≤b.L.length) (hr0:0≤r) (hr2:r≤2) :
  GB i sk A G (send (welcome k p r) (setFl (setc b k (some (opened c t p))) (fjoin b.fl k r)) k):=by
 have hb:=bok_all.join b k c t p r h.1 hc h1 h2 h0 ht hn hp hr0 hr2;have hcs:(setFl (setc b k (some (opened c t p))) (fjoin b.fl k r)).cs k=some (opened c t p):=setc_cs _ _ _
 by_cases e:i=k
 ·subst e
  obtain ⟨ms,hs,hm,_⟩:=h.2.at_ c hc;have hm:=hm h0;subst hm;have hG:G ++ c.out=[]:=hs.1;obtain ⟨hG0,hco⟩:=List.append_eq_nil_iff.1 hG;have hwl:=welcome_len i p r;have hq:=h.1.queue
  have hf:(opened c t p).out.length+(enc (welcome i p r)).length≤(setFl (setc b i (some (opened c t p))) (fjoin b.fl i r)).cf.queue:=by
   show c.out.length+_≤b.cf.queue
   rw [hco]
   show 0+_≤_
   omega
  rw [send_fits hcs (show (1:Nat)≠2 by decide) hf];refine ⟨bok_all.plus _ i _ _ hb hcs (show (1:Nat)≠2 by decide) hf,?_⟩;refine ⟨h.2.lim,fun d hd=>?_,fun hn=>?_,h.2.log⟩
  ·rw [setc_cs] at hd
   injection hd with hd
   subst hd;refine ⟨[welcome i p r],?_,fun e=>absurd (show (1:Nat)=0 from e) (by decide),fun _=>?_⟩
   ·show Sent sk b.L (G ++ (c.out ++ enc (welcome i p r))) ([] ++ [welcome i p r])
    rw [← List.append_assoc,hG];refine (Sent.nil sk b.L).snoc (welcome_ok h2 (by have:=h.1.len; omega) r) (Au.mayB_iff.2 ⟨welcome_ok h2 (by have:=h.1.len; omega) r,rfl,fun _=>?_,fun e=>by cases e⟩);unfold Au.begB am welcome;simp;omega
   ·rfl
  ·rw [setc_cs] at hn; cases hn
 ·have hga:GA i sk A G (setFl (setc b k (some (opened c t p))) (fjoin b.fl k r)):=(h.2.set (c':=opened c t p) hc fun e2=>absurd e2 e).same rfl rfl rfl
  show GB i sk A G (sendW (leaveN 16) (welcome k p r) (setFl (setc b k (some (opened c t p))) (fjoin b.fl k r)) k)
  unfold sendW;rw [hcs]
  show GB i sk A G (if (opened c t p).st=2 then _ else if (opened c t p).out.length+(enc (welcome k p r)).length≤_ then setc _ k (some (Bk.plus (welcome k p r) (opened c t p))) else leaveN 16 _ k)
  rw [if_neg (show ¬ (opened c t p).st=2 from fun h=>absurd (show (1:Nat)=2 from h) (by decide))]
  split
  ·next hf=>exact ⟨bok_all.plus _ k _ _ hb hcs (show (1:Nat)≠2 by decide) hf,hga.set hcs fun e2=>absurd e2 e⟩
  ·exact (gb_msg i sk A G).leave ⟨hb,hga⟩ h1 h2
theorem gb_say (i sk:Nat) (A G:Bs) (k:Nat):KSy1 k (GB i sk A G) where
 toKMs1:=gb_msg i sk A G
 join:=fun _ _ _ _ _ h hc h1 h2 h0 ht hn hp hr0 hr2=>gb_join h hc h1 h2 h0 ht hn hp hr0 hr2
 fl:=fun b s h hs=>⟨bok_all.fl b s h.1 hs,h.2.same rfl rfl rfl⟩
 typed:=fun b ks h he hi=>⟨bok_all.typed b ks h.1 he hi,h.2.same rfl rfl rfl⟩
 lx:=fun b c t h hc=>⟨bok_all.lx b k c t h.1 hc,h.2.set hc fun _ hg=>hg⟩
 idle0:=fun b c h hc=>⟨bok_all.idle0 b k c h.1 hc,h.2.set hc fun _ hg=>hg⟩
 fd:=fun b c t h hc=>⟨bok_all.fd b k c t h.1 hc,h.2.set hc fun _ hg=>hg⟩
section
variable {i sk:Nat} {A G:Bs} {b:Br}
theorem bok_out {b:Br} (h:BOk b) {k:Nat} {c:Cn} (hc:b.cs k=some c) (o:Bs):BOk (setc b k (some { c with out:=o })):=by
 have hk:=h.cn k c hc;exact h.setc k ⟨hk.p,hk.s,hk.name,hk.st⟩
theorem GB.write (h:GB i sk A G b) (n:Int):GB i sk A (G ++ writeT b (i:Nat) n) (writeB b (i:Nat) n):=by
 unfold writeB writeT
 by_cases ht:isThere b (i:Nat)=true
 ·rw [if_pos ht,if_pos ht,show ((i:Nat):Int).toNat=i from rfl]
  rcases hc:b.cs i with _ | c
  ·show GB i sk A (G ++ []) b
   rw [List.append_nil]; exact h
  ·show GB i sk A (G ++ c.out.take (takeN n c.out.length)) (settle (setc b i (some { c with out:=c.out.drop (takeN n c.out.length) })))
   refine (gb_msg i sk A _).settle ⟨bok_out h.1 hc _,h.2.lim,fun d hd=>?_,fun hn=>?_,h.2.log⟩
   ·rw [setc_cs] at hd
    injection hd with hd
    subst hd;obtain ⟨ms,hs,h3⟩:=h.2.at_ c hc;refine ⟨ms,?_,h3⟩
    show Sent sk b.L (G ++ c.out.take _ ++ c.out.drop _) ms
    rw [List.append_assoc,List.take_append_drop];exact hs
   ·rw [setc_cs] at hn; cases hn
 ·rw [if_neg ht,if_neg ht,List.append_nil]; exact h
theorem GB.write' (h:GB i sk A G b) {id:Int} (hne:id≠(i:Nat)) (n:Int):GB i sk A G (writeB b id n):=
 (gb_msg i sk A G).write h id n fun k c _ _ hk hc=>⟨bok_out h.1 hc _,h.2.set hc fun e=>absurd (by rw [hk,e]) hne⟩
theorem GB.output (h:GB i sk A G b) (t:Bs) (hm:b.ended=false→(b.L ++ t).length≤1099511627776):GB i sk (if outputE b=0 then A ++ t else A) G (outputB b t):=by
 unfold outputB outputE
 by_cases he:b.ended=true
 ·rw [if_pos he,if_pos he,if_neg (by decide)]; exact h
 ·rw [if_neg he,if_neg he,if_pos rfl]
  refine (gb_msg i sk (A ++ t) G).settle ⟨⟨h.1.log,h.1.data,h.1.queue,h.1.input,h.1.idle,h.1.strikes,h.1.fok,h.1.rin,hm (by simpa using he),h.1.told,h.1.code,fun k c hc=>?_⟩,h.2.lim,fun c hc=>?_,fun hn=>?_,?_⟩
  ·have hk:=h.1.cn k c hc
   exact ⟨by show c.p≤(b.L ++ t).length; rw [List.length_append]; have:=hk.p; omega,hk.s,hk.name,hk.st⟩
  ·obtain ⟨ms,hs,h3⟩:=h.2.at_ c hc
   exact ⟨ms,hs.more t,h3⟩
  ·obtain ⟨ms,hs⟩:=h.2.no hn
   exact ⟨ms,hs.more t⟩
  ·show b.L ++ t=A ++ t
   rw [h.2.log]
theorem GB.ends (h:GB i sk A G b) (code:Int):GB i sk A G (endB b code):=
 (gb_msg i sk A G).ends h code fun n hn _=>⟨⟨h.1.log,h.1.data,h.1.queue,h.1.input,h.1.idle,h.1.strikes,h.1.fok,h.1.rin,h.1.len,h.1.told,hn,fun k c hc=>by
  have hk:=h.1.cn k c hc
  exact ⟨hk.p,hk.s,hk.name,hk.st⟩⟩,h.2.same rfl rfl rfl⟩
theorem GB.drain (h:GB i sk A G b) (n:Int):GB i sk A G (drainB b n):=
  ⟨⟨h.1.log,h.1.data,h.1.queue,h.1.input,h.1.idle,h.1.strikes,h.1.fok,h.1.rin,h.1.len,h.1.told,h.1.code,fun k c hc=>by
    have hk:=h.1.cn k c hc
    exact ⟨hk.p,hk.s,hk.name,hk.st⟩⟩,h.2.same rfl rfl rfl⟩
theorem GB.tick (h:GB i sk A G b):GB i sk A G (tickB b):=
 (gb_msg i sk A G).tick ⟨h.1.fl (.inr (.inr (.inr (.inr (.inr rfl))))),h.2.same rfl rfl rfl⟩ fun x k c hx hc=>⟨by
  have hk:=hx.1.cn k c hc
  exact hx.1.setc k ⟨hk.p,hk.s,hk.name,hk.st⟩,hx.2.set hc fun _ hg=>hg⟩
theorem GB.connect (h:GB i sk A G b) (id:Int):GB i sk A (if id=(i:Nat)∧connectE b id=0 then [] else G) (connectB b id):=by
 unfold connectB
 by_cases he:connectE b id=0
 ·rw [if_pos he]
  have hb:BOk (setc b id.toNat (some cnew)):=h.1.setc _ ⟨Nat.zero_le _,Nat.zero_le _,Nat.zero_le _,Nat.zero_le _⟩
  by_cases e:id=(i:Nat)
  ·rw [if_pos ⟨e,he⟩,e,show ((i:Nat):Int).toNat=i from rfl]
   rw [e,show ((i:Nat):Int).toNat=i from rfl] at hb;refine ⟨hb,h.2.lim,fun d hd=>?_,fun hn=>?_,h.2.log⟩
   ·rw [setc_cs] at hd
    injection hd with hd
    subst hd;exact ⟨[],Sent.nil sk b.L,fun _=>rfl,fun e=>absurd (show (0:Nat)=1 from e) (by decide)⟩
   ·rw [setc_cs] at hn; cases hn
  ·rw [if_neg fun x=>e x.1]
   have hid:1≤id∧id≤16:=by
    unfold connectE at he
    split at he
    ·cases he
    ·omega
   exact ⟨hb,h.2.same rfl rfl (setc_ne _ _ _ (by omega))⟩
 ·rw [if_neg he,if_neg fun x=>he x.2]
  exact h
theorem gb_new {c:Cf} {i:Nat} (hb:BOk (bnew c)):GB i c.strikes [] [] (bnew c):=⟨hb,rfl,fun d hd=>(by cases hd),fun _=>⟨[],Sent.nil _ _⟩,rfl⟩
theorem GB.all (h:GB i sk A G b) (hw:∀ c,b.cs i=some c→c.out=[]):∃ ms,Sent sk b.L G ms:=by
 rcases e:b.cs i with _ | c
 ·exact h.2.no e
 ·obtain ⟨ms,hs,_⟩:=h.2.at_ c e
  rw [hw c e,List.append_nil] at hs;exact ⟨ms,hs⟩
end
end Bk
end
section
namespace Bk
open Fr Lx
def No29 (l:Bs):Prop:=∀ x∈l,x≠29#8
theorem tells_mem {r:Bs}:∀ {fs:List (BitVec 8×Bs)} {l:Bs},Tells l fs r→(∀ f∈fs,∀ x∈f.2,x∈l)∧∀ x∈r,x∈l
  | [],l,h=>⟨fun f hf=>(by cases hf),fun x hx=>h.1 ▸ hx⟩
  | f :: fs,l,h=>by
    obtain ⟨h1,h2,h3⟩:=h;obtain ⟨a,b⟩:=tells_mem h3;refine ⟨fun g hg x hx=>?_,fun x hx=>List.mem_of_mem_drop (b x hx)⟩
    rcases List.mem_cons.1 hg with rfl | hg
    · rw [h2] at hx
      replace hx:x∈(Fr.get l).body:=hx;unfold Fr.get at hx;rw [if_pos h1] at hx;exact List.mem_of_mem_drop (List.mem_of_mem_take hx)
    · exact List.mem_of_mem_drop (a g hg x hx)
theorem no29_app {a b:Bs} (ha:No29 a) (hb:No29 b):No29 (a ++ b):=fun x hx=>(List.mem_append.1 hx).elim (ha x) (hb x)
theorem no29_push {F:Fs} {t:Bs} (hF:No29 F.l) (ht:No29 t):No29 (fpush F t).l∧∀ f∈fgot F t,No29 f.2:=by
 obtain ⟨h1,h2⟩:=tells_mem (tells_tfs (F.l ++ t));have ha:=no29_app hF ht;unfold fpush fgot
 by_cases he:F.e=0
 ·rw [if_pos he,if_pos he]
  refine ⟨fun x hx=>?_,fun f hf x hx=>ha x (h1 f hf x hx)⟩;replace hx:x∈keep (trest (F.l ++ t)):=hx;unfold keep at hx
  split at hx
  ·exact ha x (h2 x hx)
  ·cases hx
 ·rw [if_neg he,if_neg he]
  exact ⟨hF,fun f hf=>by cases hf⟩
theorem no29_of {f:BitVec 8×Bs} {m:M} (h:mof f=some m) (hf:No29 f.2):No29 m.t:=by
 unfold mof at h
 split at h
 ·injection h with h
  subst h
  exact fun x hx=>hf x (List.mem_of_mem_drop hx)
 ·cases h
theorem ear_plain:∀ (l:List (BitVec 8×Bs)),(∀ f∈l,No29 f.2)→earLines lx0 l=[]∧earLx lx0 l=lx0
  | [],_=>⟨rfl,rfl⟩
  | f :: l,h=>by
    obtain ⟨h1,h2⟩:=ear_plain l fun g hg=>h g (List.mem_cons_of_mem _ hg)
    show (match mof f with | some m=>if m.k=2 then lcmds lx0 m.t ++ earLines (lrun lx0 m.t) l else earLines lx0 l | none=>earLines lx0 l)=[]∧(match mof f with | some m=>if m.k=2 then earLx (lrun lx0 m.t) l else earLx lx0 l | none=>earLx lx0 l)=lx0
    rcases hm:mof f with _ | m
    · exact ⟨h1,h2⟩
    · obtain ⟨p1,_,p3⟩:=lx_plain m.t (no29_of hm (h f List.mem_cons_self))
      show (if m.k=2 then lcmds lx0 m.t ++ earLines (lrun lx0 m.t) l else earLines lx0 l)=[]∧(if m.k=2 then earLx (lrun lx0 m.t) l else earLx lx0 l)=lx0
      rw [p1,p3]
      split
      · exact ⟨h1,h2⟩
      · exact ⟨h1,h2⟩
def EarP (k:Nat) (b:Br):Prop:=∃ F:Fs,EarJ k F lx0 b∧No29 F.l
theorem GB.bytes {i sk:Nat} {A G:Bs} {b:Br} (h:GB i sk A G b) {k:Nat} (h1:1≤k) (h2:k≤16) (he:EarP k b) {t:Bs} (ht:No29 t):GB i sk A G (bytesB b (k:Nat) t)∧EarP k (bytesB b (k:Nat) t):=by
 by_cases h0:bytesE b (k:Nat)=0
 ·obtain ⟨F,hE,hF⟩:=he
  obtain ⟨p1,p2⟩:=no29_push hF ht;obtain ⟨e1,e2⟩:=ear_plain (fgot F t) p2;obtain ⟨q1,q2⟩:=(gb_say i sk A G k).bytes h h1 h2 hE h0 t (by rw [e1]; intro s hs; cases hs);rw [e2] at q2;exact ⟨q1,_,q2,p1⟩
 ·have e:bytesB b (k:Nat) t=b:=by unfold bytesB; rw [if_neg h0]
  rw [e];exact ⟨h,he⟩
theorem EarJ.other {k j:Nat} {F:Fs} {X:Lx.Lx} {b:Br} (h:EarJ k F X b) (hj:j≠k) {c:Option Cn} (hb:BOk (setc b j c)):EarJ k F X (setc b j c):=
 ⟨hb,fun d hd=>h.2 d (by rw [setc_ne _ _ _ (fun e=>hj e.symm)] at hd; exact hd)⟩
theorem ear_say {k j:Nat} (hj:j≠k) (F:Fs) (X:Lx.Lx):KSay j (EarJ k F X) where
 toKCmd:=ear_cmd j k F X
 lx:=fun b c t h hc=>h.other hj (bok_all.lx b j c t h.1 hc)
 idle0:=fun b c h hc=>h.other hj (bok_all.idle0 b j c h.1 hc)
 fd:=fun b c t h hc=>h.other hj (bok_all.fd b j c t h.1 hc)
theorem EarP.bytes {k j:Nat} {b:Br} (h:EarP k b) (hj:j≠k) (h1:1≤j) (h2:j≤16) (he:EarP j b) {t:Bs} (ht:No29 t):EarP k (bytesB b (j:Nat) t):=by
 by_cases h0:bytesE b (j:Nat)=0
 ·obtain ⟨F,hE,hF⟩:=he
  obtain ⟨F2,hE2,hF2⟩:=h;obtain ⟨p1,p2⟩:=no29_push hF ht;obtain ⟨e1,e2⟩:=ear_plain (fgot F t) p2;exact ⟨F2,((ear_say hj F2 lx0).bytes hE2 h1 h2 hE h0 t (by rw [e1]; intro s hs; cases hs)).1,hF2⟩
 ·have e:bytesB b (j:Nat) t=b:=by unfold bytesB; rw [if_neg h0]
  rw [e];exact h
section
variable {k:Nat} {b:Br}
theorem EarP.write (h:EarP k b) (id n:Int):EarP k (writeB b id n):=by
 obtain ⟨F,hE,hF⟩:=h;exact ⟨F,(ear_core k F lx0).write hE id n fun j c _ _ _ hc=>⟨bok_out hE.1 hc _,hE.set hc (fun h=>h) rfl rfl⟩,hF⟩
theorem EarP.output (h:EarP k b) (t:Bs) (hm:b.ended=false→(b.L ++ t).length≤1099511627776):EarP k (outputB b t):=by
 obtain ⟨F,hE,hF⟩:=h;have hb:=hE.1
 exact ⟨F,(ear_core k F lx0).output hE t fun he=>⟨⟨hb.log,hb.data,hb.queue,hb.input,hb.idle,hb.strikes,hb.fok,hb.rin,hm he,hb.told,hb.code,fun j c hc=>by
  have hk:=hb.cn j c hc
  exact ⟨by show c.p≤(b.L ++ t).length; rw [List.length_append]; have:=hk.p; omega,hk.s,hk.name,hk.st⟩⟩,hE.2⟩,hF⟩
theorem EarP.ends (h:EarP k b) (code:Int):EarP k (endB b code):=by
 obtain ⟨F,hE,hF⟩:=h;have hb:=hE.1
 exact ⟨F,(ear_core k F lx0).ends hE code fun n hn _=>⟨⟨hb.log,hb.data,hb.queue,hb.input,hb.idle,hb.strikes,hb.fok,hb.rin,hb.len,hb.told,hn,fun j c hc=>by
  have hk:=hb.cn j c hc
  exact ⟨hk.p,hk.s,hk.name,hk.st⟩⟩,hE.2⟩,hF⟩
theorem EarP.drain (h:EarP k b) (n:Int):EarP k (drainB b n):=by
 obtain ⟨F,hE,hF⟩:=h;have hb:=hE.1
 exact ⟨F,⟨⟨hb.log,hb.data,hb.queue,hb.input,hb.idle,hb.strikes,hb.fok,hb.rin,hb.len,hb.told,hb.code,fun j c hc=>by
  have hk:=hb.cn j c hc
  exact ⟨hk.p,hk.s,hk.name,hk.st⟩⟩,hE.2⟩,hF⟩
theorem EarP.tick (h:EarP k b):EarP k (tickB b):=by
 obtain ⟨F,hE,hF⟩:=h
 exact ⟨F,(ear_core k F lx0).tick ⟨hE.1.fl (.inr (.inr (.inr (.inr (.inr rfl))))),hE.2⟩ fun x j c hx hc=>⟨by
  have hk:=hx.1.cn j c hc
  exact hx.1.setc j ⟨hk.p,hk.s,hk.name,hk.st⟩,hx.set hc (fun h=>h) rfl rfl⟩,hF⟩
theorem EarP.connect (h:EarP k b) (id:Int):EarP k (connectB b id):=by
 unfold connectB
 by_cases he:connectE b id=0
 ·rw [if_pos he]
  obtain ⟨F,hE,hF⟩:=h;have hb:BOk (setc b id.toNat (some cnew)):=hE.1.setc _ ⟨Nat.zero_le _,Nat.zero_le _,Nat.zero_le _,Nat.zero_le _⟩
  by_cases e:id.toNat=k
  ·subst e
   refine ⟨⟨[],0⟩,⟨hb,fun d hd _=>?_⟩,fun x hx=>by cases hx⟩;rw [setc_cs] at hd
   injection hd with hd
   subst hd;exact ⟨rfl,rfl⟩
  ·exact ⟨F,hE.other e hb,hF⟩
 ·rw [if_neg he]; exact h
theorem ear_new {c:Cf} (hb:BOk (bnew c)) (k:Nat):EarP k (bnew c):=⟨⟨[],0⟩,⟨hb,fun d hd=>by cases hd⟩,fun x hx=>by cases hx⟩
end
end Bk
end
section
namespace Bk
open Fr Lx
def SI (i sk:Nat) (A G:Bs) (b:Br):Prop:=GB i sk A G b∧∀ k,1≤k→k≤16→EarP k b
section
variable {i sk:Nat} {A G:Bs} {b:Br}
theorem si_new {c:Cf} {i:Nat} (hb:BOk (bnew c)):SI i c.strikes [] [] (bnew c):=⟨gb_new hb,fun k _ _=>ear_new hb k⟩
theorem SI.connect (h:SI i sk A G b) (id:Int):SI i sk A (if id=(i:Nat)∧connectE b id=0 then [] else G) (connectB b id):=⟨h.1.connect id,fun k h1 h2=>(h.2 k h1 h2).connect id⟩
theorem SI.bytes (h:SI i sk A G b) (id:Int) {t:Bs} (ht:No29 t):SI i sk A G (bytesB b id t):=by
 by_cases h0:bytesE b id=0
 ·have hi:1≤id∧id≤16:=by
   unfold bytesE at h0
   split at h0
   ·next hi=>unfold isThere at hi; simp at hi; exact hi.1
   ·cases h0
  obtain ⟨j,rfl⟩:∃ j:Nat,id=(j:Nat):=⟨id.toNat,by omega⟩
  refine ⟨(h.1.bytes (by omega) (by omega) (h.2 j (by omega) (by omega)) ht).1,fun k h1 h2=>?_⟩
  by_cases e:j=k
  ·subst e
   exact (h.1.bytes h1 h2 (h.2 j h1 h2) ht).2
  ·exact (h.2 k h1 h2).bytes e (by omega) (by omega) (h.2 j (by omega) (by omega)) ht
 ·have e:bytesB b id t=b:=by unfold bytesB; rw [if_neg h0]
  rw [e];exact h
theorem SI.write (h:SI i sk A G b) (id n:Int):SI i sk A (if id=(i:Nat) then G ++ writeT b id n else G) (writeB b id n):=by
 refine ⟨?_,fun k h1 h2=>(h.2 k h1 h2).write id n⟩
 by_cases e:id=(i:Nat)
 ·rw [if_pos e,e]; exact h.1.write n
 ·rw [if_neg e]; exact h.1.write' e n
theorem SI.output (h:SI i sk A G b) (t:Bs) (hm:b.ended=false→(b.L ++ t).length≤1099511627776):SI i sk (if outputE b=0 then A ++ t else A) G (outputB b t):=⟨h.1.output t hm,fun k h1 h2=>(h.2 k h1 h2).output t hm⟩
theorem SI.drain (h:SI i sk A G b) (n:Int):SI i sk A G (drainB b n):=⟨h.1.drain n,fun k h1 h2=>(h.2 k h1 h2).drain n⟩
theorem SI.tick (h:SI i sk A G b):SI i sk A G (tickB b):=⟨h.1.tick,fun k h1 h2=>(h.2 k h1 h2).tick⟩
theorem SI.ends (h:SI i sk A G b) (code:Int):SI i sk A G (endB b code):=⟨h.1.ends code,fun k h1 h2=>(h.2 k h1 h2).ends code⟩
theorem write_empty {b:Br} {i:Nat} (h1:1≤i) (h2:i≤16) {n:Int} (hn:1≤n) (h:writeT b (i:Nat) n=[]):∀ c,b.cs i=some c→c.out=[]:=by
 intro c hc
 have ht:isThere b (i:Nat)=true:=by
  unfold isThere;rw [show ((i:Nat):Int).toNat=i from rfl,hc];simp;omega
 unfold writeT at h;rw [if_pos ht,show ((i:Nat):Int).toNat=i from rfl,hc] at h;replace h:c.out.take (takeN n c.out.length)=[]:=h
 rcases ho:c.out with _ | ⟨x,l⟩
 ·rfl
 ·rw [ho] at h
  have h3:takeN n (x :: l).length≠0:=by unfold takeN; simp only [List.length_cons]; omega
  obtain ⟨q,hq⟩:∃ q,takeN n (x :: l).length=q+1:=⟨takeN n (x :: l).length - 1,by omega⟩
  rw [hq] at h;cases h
theorem SI.end_ (h:SI i sk A G b) (h1:1≤i) (h2:i≤16) {n:Int} (hn:1≤n) (hw:writeT b (i:Nat) n=[]):∃ ms,Sent sk A G ms:=by
 have:=h.1.all (write_empty h1 h2 hn hw)
 rwa [h.1.2.log] at this
theorem Sent.first {L T:Bs} {ms:List M} (h:Sent sk L T ms):Au.IsFirst L (sk:Nat) (ms.map am) (-1):=.inr ⟨rfl,by rw [List.length_map]; exact h.2.2⟩
theorem Sent.take {L T:Bs} {ms:List M} (h:Sent sk L T ms) (j:Nat):Au.IsFirst L (sk:Nat) ((ms.take j).map am) (-1):=.inr ⟨rfl,by rw [List.length_map]; exact good_take h.2.2 j⟩
theorem Sent.twice {L T:Bs} {ms:List M} (h:Sent sk L T ms) {k:Nat} (hk:k≤ms.length):Au.IsFirst L (sk:Nat) ((ms.take k).map am ++ [⟨5,1,0,[111#8,119#8,110#8,101#8,114#8]⟩]) (if k=0 then -1 else (k:Nat)):=by
 have hg:=good_take h.2.2 k
 have hl:((ms.take k).map am).length=k:=by rw [List.length_map,List.length_take]; omega
 have hok:(⟨5,1,0,[111#8,119#8,110#8,101#8,114#8]⟩:M).ok=true:=by decide
 have hget:((ms.take k).map am ++ [(⟨5,1,0,[111#8,119#8,110#8,101#8,114#8]⟩:Au.M)])[k]?=some ⟨5,1,0,[111#8,119#8,110#8,101#8,114#8]⟩:=by
  rw [List.getElem?_append_right (by omega),hl,Nat.sub_self]; rfl
 have hgood:Au.good L (sk:Nat) ((ms.take k).map am ++ [⟨5,1,0,[111#8,119#8,110#8,101#8,114#8]⟩]) k:=by
  intro j m hj hm;rw [List.getElem?_append_left (by omega)] at hm;have:=hg j m (by rw [List.length_take]; omega) hm
  rwa [List.take_append_of_le_length (by omega)]
 have htk:((ms.take k).map am ++ [(⟨5,1,0,[111#8,119#8,110#8,101#8,114#8]⟩:Au.M)]).take k=(ms.take k).map am:=by rw [List.take_append_of_le_length (by omega),List.take_of_length_le (by omega)]
 by_cases e:k=0
 ·rw [if_pos e]
  subst e;refine .inr ⟨rfl,?_⟩;have h0:(ms.take 0).map am=[]:=rfl;rw [h0];exact good_snoc (l:=[]) (m:=⟨5,1,0,[111#8,119#8,110#8,101#8,114#8]⟩) (Au.good_zero _ _ _) (Au.mayB_iff.2 ⟨hok,rfl,fun _=>(by unfold Au.begB am; simp),fun e=>by cases e⟩)
 ·rw [if_neg e]
  refine .inl ⟨k,_,hget,rfl,hgood,?_⟩;rw [htk]
  rcases hz:Au.mayB L (sk:Nat) (Au.run ((ms.take k).map am)) ⟨5,1,0,[111#8,119#8,110#8,101#8,114#8]⟩ with _ | _
  ·rfl
  ·obtain ⟨_,_,_,h4⟩:=Au.mayB_iff.1 hz
   have hbg:(Au.run ((ms.take k).map am)).bg=true:=by
    obtain ⟨q,rfl⟩:∃ q,k=q+1:=⟨k - 1,by omega⟩
    obtain ⟨m,hm⟩:∃ m,((ms.take (q+1)).map am)[q]?=some m:=⟨_,List.getElem?_eq_getElem (by omega)⟩
    have:=Au.run_snoc _ q m hm;rw [List.take_of_length_le (by omega)] at this;rw [this];rfl
   exact absurd (h4 hbg).1 (show ¬ (5:Int)<5 by decide)
end
end Bk
end
end Go.Proofs.YtdpagmcickkbmaaGreatDoor
