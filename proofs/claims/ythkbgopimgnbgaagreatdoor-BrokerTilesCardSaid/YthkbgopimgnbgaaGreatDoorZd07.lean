/- PKm PKn PAk -/
import Derived.Test.YthkbgopimgnbgaaGreatDoorZd06

section
namespace Go.Proofs.YthkbgopimgnbgaaGreatDoor.Bk
open Fr Lx
def Plain (m : M) : Prop:=m.ok = true∧m.k≠5∧m.k≠6∧m.k≠7∧m.k≠12∧m.k≠13
theorem ok_text {k : Int} {t : Bs} (hk : k = 10∨k = 11) (ht : t.length≤80) : (⟨k,0,0,t⟩ : M).ok = true:=by
  unfold M.ok
  rw [Ms.rt_iff]
  rcases hk with rfl | rfl
  · exact ⟨rfl,rfl,rfl,ht⟩
  · exact ⟨rfl,rfl,rfl,ht⟩
theorem ok_one {k a : Int} (hk : k = 9∨k = 13∨k = 15) (h0 : 0≤a) (h1 : a≤1099511627776) : (⟨k,a,0,[]⟩ : M).ok = true:=by
  unfold M.ok
  rw [Ms.rt_iff]
  have : Ms.okN a true = true:=by unfold Ms.okN; simp; omega
  rcases hk with rfl | rfl | rfl
  · exact ⟨rfl,this,rfl,Nat.zero_le _⟩
  · exact ⟨rfl,this,rfl,Nat.zero_le _⟩
  · exact ⟨rfl,this,rfl,Nat.zero_le _⟩
theorem plain_notice {t : Bs} (ht : t.length≤80) : Plain (notice t):=⟨ok_text (.inl rfl) ht,by show (10 : Int)≠5; decide,by show (10 : Int)≠6; decide,by show (10 : Int)≠7; decide,by show (10 : Int)≠12; decide,by show (10 : Int)≠13; decide⟩
theorem plain_denied {t : Bs} (ht : t.length≤80) : Plain ⟨11,0,0,t⟩:=⟨ok_text (.inr rfl) ht,by show (11 : Int)≠5; decide,by show (11 : Int)≠6; decide,by show (11 : Int)≠7; decide,by show (11 : Int)≠12; decide,by show (11 : Int)≠13; decide⟩
theorem plain_floor {h : Int} (h0 : 0≤h) (h1 : h≤16) : Plain (mfloor h):=⟨ok_one (.inl rfl) h0 (by omega),by show (9 : Int)≠5; decide,by show (9 : Int)≠6; decide,by show (9 : Int)≠7; decide,by show (9 : Int)≠12; decide,by show (9 : Int)≠13; decide⟩
theorem plain_exit {c : Nat} (h : c≤255) : Plain (mexit c):=⟨ok_one (.inr (.inr rfl)) (by omega) (by omega),by show (15 : Int)≠5; decide,by show (15 : Int)≠6; decide,by show (15 : Int)≠7; decide,by show (15 : Int)≠12; decide,by show (15 : Int)≠13; decide⟩
theorem plain_reject {seq : Int} (h0 : 0≤seq) (h1 : seq≤1099511627776) {w : Nat} (hw : w≤5) : Plain (rejectM seq w):=⟨reject_ok h0 h1 hw,by show (8 : Int)≠5; decide,by show (8 : Int)≠6; decide,by show (8 : Int)≠7; decide,by show (8 : Int)≠12; decide,by show (8 : Int)≠13; decide⟩
theorem plain_pong : Plain ⟨14,0,0,[]⟩:=⟨by decide,by decide,by decide,by decide,by decide,by decide⟩
theorem closed_ok {w : Nat} (h : w≤6) : (closed w).ok = true:=ok_one (.inr (.inl rfl)) (by omega) (by omega)
theorem plain_left {k : Nat} (h : k≤16) : Plain (left k):=by
  refine plain_notice ?_
  have:=Dgs.dgs_len k 2 (by omega)
  rw [List.length_append]
  show 5 + _≤80
  omega
theorem plain_joined {k : Nat} {t : Bs} (h : k≤16) (ht : t.length≤20) : Plain (joined k t):=by
  refine plain_notice ?_
  have:=Dgs.dgs_len k 2 (by omega)
  simp only [List.length_append]
  show 7 + _ + 1 + _≤80
  omega
theorem leave_closing {b : Br} {k : Nat} {c : Cn} (hc : (Bk.leave b k).cs k = some c) : c.st = 2:=by
  have this : ((leaveN 16 b k).cs k) = some c:=hc
  unfold leaveN Bk.leaveW at this
  rcases hc0 : b.cs k with _ | c0
  · rw [hc0] at this; cases (hc0.symm.trans this)
  · rw [hc0] at this
    by_cases hst : c0.st = 1
    · simp only [hst,if_true] at this
      obtain ⟨c1,h3,h4⟩:=(tellN_le 16 (Bk.left k) _).cn k c this
      replace h3 : (setc b k (some { c0 with st:=2 })).cs k = some c1:=h3
      rw [setc_cs] at h3
      injection h3 with h3
      rcases h4.st with e | e
      · rw [e,← h3]
      · exact e
    · simp only [hst,if_false] at this
      rw [setc_cs] at this
      injection this with this
      rw [← this]
structure KMsg (P : Br→Prop) : Prop where
  ok : ∀ b,P b→BOk b
  gone : ∀ b k c,P b→b.cs k = some c→1≤k→k≤16→P (gone b k c)
  plus : ∀ b k c m,P b→b.cs k = some c→c.st≠2→Plain m→c.out.length + (enc m).length≤b.cf.queue→P (setc b k (some (plus m c)))
  closed : ∀ b k c why,P b→b.cs k = some c→c.st≠2→why≤6→c.out.length + 11≤b.cf.queue→1≤k→k≤16→P (Bk.gone (setc b k (some (Bk.plus (Bk.closed why) c))) k (Bk.plus (Bk.closed why) c))
  told : ∀ b,P b→P (toldB b)
  served : ∀ b k c m p s,P b→b.cs k = some c→c.st = 1→nextB b c = some (m,p,s)→m.k≠12→P (served b k c m p s)
  evict : ∀ b k c m p s,P b→b.cs k = some c→c.st = 1→nextB b c = some (m,p,s)→m.k = 12→1≤k→k≤16→P (Bk.gone (Bk.served b k c m p s) k (putc b.cf.queue { c with p:=p,s:=s } (enc m)))
  reap : ∀ b,P b→P (reap b)
section
variable {P : Br→Prop} (K : KMsg P)
include K
theorem KMsg.leaveW {tl : M→Br→Br} (ht : ∀ m b,Plain m→P b→P (tl m b)) {b : Br} (h : P b) {k : Nat} (h1 : 1≤k) (h2 : k≤16) : P (leaveW tl b k):=by
  unfold Bk.leaveW
  rcases hc : b.cs k with _ | c
  · exact h
  · have hg:=K.gone b k c h hc h1 h2
    unfold Bk.gone at hg
    show P (if c.st = 1 then tl (left k) (setFl (setc b k (some { c with st:=2 })) (fleave b.fl k)) else setc b k (some { c with st:=2 }))
    by_cases hst : c.st = 1
    · rw [if_pos hst] at hg ⊢
      exact ht _ _ (plain_left h2) hg
    · rw [if_neg hst] at hg ⊢
      exact hg
theorem KMsg.sendW {lv : Br→Nat→Br} (hl : ∀ b k,P b→1≤k→k≤16→P (lv b k)) {m : M} (hm : Plain m) {b : Br} (h : P b) {k : Nat} (h1 : 1≤k) (h2 : k≤16) : P (sendW lv m b k):=by
  unfold Bk.sendW
  rcases hc : b.cs k with _ | c
  · exact h
  · show P (if c.st = 2 then b else if c.out.length + (enc m).length≤b.cf.queue then setc b k (some (Bk.plus m c)) else lv b k)
    split
    · exact h
    · next hst =>
      split
      · next hf=>exact K.plus b k c m h hc hst hm hf
      · exact hl b k h h1 h2
theorem KMsg.tellN : ∀ (n : Nat) (m : M) (b : Br),Plain m→P b→P (tellN n m b)
  | 0,_,_,_,h=>h
  | n + 1,_,_,hm,h=>keep_goes (P:=P) (fun _ _ hb h1 h2 _=>K.sendW (fun _ _ hb h1 h2=>K.leaveW (KMsg.tellN n) hb h1 h2) hm hb h1 h2) ids ids_in h
theorem KMsg.tell {m : M} (hm : Plain m) {b : Br} (h : P b) : P (tell m b):=K.tellN 17 m b hm h
theorem KMsg.leave {b : Br} (h : P b) {k : Nat} (h1 : 1≤k) (h2 : k≤16) : P (leave b k):=K.leaveW (K.tellN 16) h h1 h2
theorem KMsg.send {m : M} (hm : Plain m) {b : Br} (h : P b) {k : Nat} (h1 : 1≤k) (h2 : k≤16) : P (send m b k):=K.sendW (fun _ _ hb h1 h2=>K.leaveW (K.tellN 16) hb h1 h2) hm h h1 h2
theorem KMsg.left {b : Br} {k : Nat} {c : Cn} (h : P (Bk.gone (setc b k (some c)) k c)) (h2 : k≤16) : P (Bk.leave (setc b k (some c)) k):=by
  show P (Bk.leaveW (Bk.tellN 16) (setc b k (some c)) k)
  unfold Bk.leaveW
  rw [setc_cs]
  unfold Bk.gone at h
  show P (if c.st = 1 then Bk.tellN 16 (Bk.left k) (setFl (setc (setc b k (some c)) k (some { c with st:=2 })) (fleave (setc b k (some c)).fl k)) else setc (setc b k (some c)) k (some { c with st:=2 }))
  by_cases hst : c.st = 1
  · rw [if_pos hst] at h ⊢
    exact K.tellN 16 _ _ (plain_left h2) h
  · rw [if_neg hst] at h ⊢
    exact h
theorem KMsg.shut {b : Br} (h : P b) {k : Nat} (h1 : 1≤k) (h2 : k≤16) {why : Nat} (hw : why≤6) : P (shut b k why):=by
  rcases hc : b.cs k with _ | c
  · have : Bk.shut b k why = b:=by
      have e1 : Bk.send (Bk.closed why) b k = b:=by
        show Bk.sendW (leaveN 16) _ b k = b
        unfold Bk.sendW
        rw [hc]
      unfold Bk.shut
      rw [e1]
      show Bk.leaveW (Bk.tellN 16) b k = b
      unfold Bk.leaveW
      rw [hc]
    rw [this]
    exact h
  · by_cases hst : c.st = 2
    · rw [shut_closing hc hst]; exact h
    · unfold Bk.shut
      by_cases hf : c.out.length + 11≤b.cf.queue
      · rw [send_fits hc hst (by rw [closed_len]; exact hf)]
        exact K.left (K.closed b k c why h hc hst hw hf h1 h2) h2
      · have : Bk.send (Bk.closed why) b k = Bk.leave b k:=by
          show Bk.sendW (leaveN 16) _ b k = _
          unfold Bk.sendW
          rw [hc]
          show (if c.st = 2 then b else if c.out.length + (enc (Bk.closed why)).length≤b.cf.queue then _ else leaveN 16 b k) = _
          rw [if_neg hst,if_neg (by rw [closed_len]; exact hf)]
          rfl
        rw [this]
        exact K.leave (K.leave h h1 h2) h1 h2
theorem KMsg.holderN : ∀ (n : Nat) {b : Br},P b→P (holderN n b)
  | 0,_,h=>h
  | n + 1,b,h=>by
    show P (if _ then b else Bk.holderN n (Bk.tell (mfloor (fhold b.fl)) (toldB b)))
    split
    · exact h
    · have hb:=K.ok b h
      have hh:=hold_in hb.fok hb.rin
      exact KMsg.holderN n (K.tell (plain_floor hh.1 hh.2) (K.told b h))
theorem KMsg.holder {b : Br} (h : P b) : P (holder b):=K.holderN 18 h
theorem KMsg.serveN : ∀ (n : Nat) {b : Br} {k : Nat},P b→1≤k→k≤16→opn b k = true→P (serveN n b k)
  | 0,_,_,h,_,_,_=>h
  | n + 1,b,k,h,h1,h2,ho=>by
    obtain ⟨c,hc,hst⟩:=opn_cs ho
    rw [serveN_succ n b k hc]
    rcases hn : nextB b c with _ | ⟨m,p,s⟩
    · exact h
    · show P (if m.k = 12 then Bk.leave (Bk.served b k c m p s) k else Bk.serveN n (Bk.served b k c m p s) k)
      split
      · next h12=>exact K.left (K.evict b k c m p s h hc hst hn h12 h1 h2) h2
      · next h12 =>
        refine KMsg.serveN n (K.served b k c m p s h hc hst hn h12) h1 h2 ?_
        unfold Bk.served
        rw [opn_setc,if_pos rfl]
        show decide ((putc b.cf.queue { c with p:=p,s:=s } (enc m)).st = 1) = true
        rw [(putc_same b.cf.queue { c with p:=p,s:=s } (enc m)).1]
        simpa using hst
theorem KMsg.settle {b : Br} (h : P b) : P (settle b):=
  K.reap _ (K.holder (keep_goes (P:=P) (fun _ _ hb h1 h2 ho=>K.serveN _ hb h1 h2 ho) ids ids_in (K.holder h)))
theorem KMsg.cut {b : Br} (h : P b) (id : Int) (hcut : ∀ b k c,P b→b.cs k = some c→c.st = 2→1≤k→k≤16→id = (k : Nat)→P (setc b k none)) : P (cutB b id):=by
  unfold cutB
  by_cases ht : isThere b id = true
  · rw [if_pos ht]
    have h0 : 1≤id∧id≤16:=by unfold isThere at ht; simp at ht; exact ht.1
    obtain ⟨k,hk⟩ : ∃ k,id.toNat = k:=⟨_,rfl⟩
    rw [hk]
    have h1 : 1≤k:=by omega
    have h2 : k≤16:=by omega
    have hl:=K.leave h h1 h2
    refine K.settle ?_
    have hs : ((Bk.leave b k).cs k).isSome = true:=by
      show ((leaveN 16 b k).cs k).isSome = true
      rw [(leaveN_le 16 b k).some k]
      unfold isThere at ht
      rw [hk] at ht
      simp at ht
      exact ht.2
    obtain ⟨c,hc⟩:=Option.isSome_iff_exists.1 hs
    exact hcut _ k c hl hc (leave_closing hc) h1 h2 (by omega)
  · rw [if_neg ht]; exact h
theorem KMsg.output {b : Br} (h : P b) (t : Bs) (hL : b.ended = false→P { b with L:=b.L ++ t,sp:=Sp.nxts b.sp t }) : P (outputB b t):=by
  unfold outputB
  by_cases he : b.ended = true
  · rw [if_pos he]; exact h
  · rw [if_neg he]; exact K.settle (hL (by simpa using he))
theorem KMsg.ends {b : Br} (h : P b) (code : Int) (hE : ∀ n : Nat,n≤255→b.ended = false→P { b with ended:=true,code:=n,inp:=[] }) : P (endB b code):=by
  unfold endB
  by_cases he : endE b code = 0
  · rw [if_pos he]
    have h0 : b.ended = false∧¬ (code < 0∨255 < code):=by
      unfold endE at he
      split at he
      · cases he
      · next hn =>
        split at he
        · cases he
        · next hc=>exact ⟨by simpa using hn,hc⟩
    exact K.settle (K.tell (plain_exit (by omega)) (hE code.toNat (by omega) h0.1))
  · rw [if_neg he]; exact h
theorem KMsg.tick {b : Br} (hf : P { b with fl:=ftick b.fl }) (hi : ∀ b k c,P b→b.cs k = some c→P (setc b k (some { c with idle:=c.idle + 1 }))) : P (tickB b):=by
  unfold tickB
  refine K.settle ?_
  have key : ∀ (l : List Nat) (b : Br),(∀ k∈l,1≤k∧k≤16)→P b→P (l.foldl tickC b):=by
    intro l
    induction l with
    | nil=>exact fun _ _ h=>h
    | cons k l ih =>
      intro b hl hb
      refine ih _ (fun j hj=>hl j (List.mem_cons_of_mem _ hj)) ?_
      obtain ⟨h1,h2⟩:=hl k List.mem_cons_self
      unfold tickC
      rcases hc : b.cs k with _ | c
      · exact hb
      · have:=hi b k c hb hc
        show P (if _ then Bk.shut (setc b k (some { c with idle:=c.idle + 1 })) k 6 else setc b k (some { c with idle:=c.idle + 1 }))
        split
        · exact K.shut this h1 h2 (by decide)
        · exact this
  exact key ids _ ids_in hf
end
structure KCmd (k : Nat) (P : Br→Prop) : Prop extends KMsg P where
  join : ∀ b c t p r,P b→b.cs k = some c→1≤k→k≤16→c.st = 0→t.length≤20→isName t = true→p≤b.L.length→0≤r→r≤2→P (send (welcome k p r) (setFl (setc b k (some (opened c t p))) (fjoin b.fl k r)) k)
  fl : ∀ b s,P b→FlStep b.fl s→P (setFl b s)
  typed : ∀ b ks,P b→b.ended = false→b.inp.length + ks.length≤b.cf.input→P { b with inp:=b.inp ++ ks,tot:=b.tot + ks.length }
structure KSay (k : Nat) (P : Br→Prop) : Prop extends KCmd k P where
  lx : ∀ b c t,P b→b.cs k = some c→P (setc b k (some { c with lx:=lrun c.lx t }))
  idle0 : ∀ b c,P b→b.cs k = some c→P (setc b k (some { c with idle:=0 }))
  fd : ∀ b c t,P b→b.cs k = some c→P (setc b k (some { c with fd:=fpush c.fd t }))
def Tame (s : Bs) : Prop:=s.length≤80∧∀ k n,parse s = some (k,n)→k≠10∧k≠11
section
variable {P : Br→Prop} {k : Nat} (K : KCmd k P)
include K
theorem KCmd.listB {b : Br} (h : P b) (h1 : 1≤k) (h2 : k≤16) : P (Bk.listB b k):=by
  unfold Bk.listB
  refine keep_goes (P:=P) (f:=fun b j=>Bk.send (notice (listLine b j)) b k) (fun b j hb j1 j2 ho=>K.send (plain_notice ?_) hb h1 h2) ids ids_in h
  obtain ⟨c,hc,_⟩:=opn_cs ho
  have hn:=((K.ok b hb).cn j c hc).name
  have hd:=Dgs.dgs_len j 2 (by omega)
  have hr:=role_len (rrole b.fl.roles j)
  have he : (if fhold b.fl = (j : Int) then ([32#8,42#8] : Bs) else []).length≤2:=by split <;> decide
  unfold listLine
  rw [hc]
  simp only [List.length_append]
  show _ + 1 + _ + 1 + c.name.length + _≤80
  omega
theorem KCmd.doB {b : Br} (h : P b) (h1 : 1≤k) (h2 : k≤16) (o : Option (Int×Int)) (ht : ∀ x n,o = some (x,n)→x≠10∧x≠11) : P (Bk.doB b k o).1:=by
  rcases o with _ | ⟨kind,n⟩
  · exact h
  obtain ⟨t1,t2⟩:=ht kind n rfl
  unfold Bk.doB
  refine p_ite (P:=fun x : Br×Bool=>P x.1) (fun _=>h) fun hn=>?_
  refine p_ite (P:=fun x : Br×Bool=>P x.1) (fun _=>K.fl b (fask b.fl k) h (.inl ⟨_,rfl⟩)) fun hn=>?_
  refine p_ite (P:=fun x : Br×Bool=>P x.1) (fun _=>K.fl b (fdrop b.fl k) h (.inr (.inl ⟨_,rfl⟩))) fun hn=>?_
  refine p_ite (P:=fun x : Br×Bool=>P x.1) (fun _=>K.listB h h1 h2) fun hn=>?_
  refine p_ite (P:=fun x : Br×Bool=>P x.1) (fun _=>K.shut h h1 h2 (by decide)) fun hn=>?_
  refine p_ite (P:=fun x : Br×Bool=>P x.1) (fun _=>K.fl b (frev b.fl) h (.inr (.inr (.inr (.inl rfl))))) fun hn=>?_
  refine p_ite (P:=fun x : Br×Bool=>P x.1) (fun h9=>absurd h9 t1) fun hn=>?_
  refine p_ite (P:=fun x : Br×Bool=>P x.1) (fun h9=>absurd h9 t2) fun hn=>?_
  rcases hj : userB b n with _ | j
  · exact h
  · have hj2 : 1≤j∧j≤16:=by
      unfold userB at hj
      split at hj
      · injection hj with hj; omega
      · cases hj
    refine p_ite (P:=fun x : Br×Bool=>P x.1) (fun _=>K.fl b (fgive b.fl j) h (.inr (.inr (.inl ⟨_,rfl⟩)))) fun hn=>?_
    refine p_ite (P:=fun x : Br×Bool=>P x.1) (fun _=>K.shut h hj2.1 hj2.2 (by decide)) fun hn=>?_
    refine p_ite (P:=fun x : Br×Bool=>P x.1) (fun _=>K.fl b (fset b.fl j 1) h (.inr (.inr (.inr (.inr (.inl ⟨_,_,rfl⟩)))))) fun hn=>?_
    refine p_ite (P:=fun x : Br×Bool=>P x.1) (fun _=>K.fl b (fset b.fl j 0) h (.inr (.inr (.inr (.inr (.inl ⟨_,_,rfl⟩)))))) fun hn=>?_
    exact h
theorem KCmd.stepC {b : Br} (h : P b) (h1 : 1≤k) (h2 : k≤16) {s : Bs} (hs : Tame s) : P (Bk.stepC b k s):=by
  unfold Bk.stepC
  refine K.holder ?_
  split
  · exact K.doB h h1 h2 _ hs.2
  · exact K.send (plain_denied hs.1) (K.doB h h1 h2 _ hs.2) h1 h2
theorem KCmd.cmds (h1 : 1≤k) (h2 : k≤16) : ∀ (l : List Bs) {b : Br},(∀ s∈l,Tame s)→P b→P (Bk.cmds b k l)
  | [],_,_,h=>h
  | s :: l,b,hl,h=>by
    show P (if opn b k then Bk.cmds (Bk.stepC b k s) k l else b)
    split
    · exact KCmd.cmds h1 h2 l (fun x hx=>hl x (List.mem_cons_of_mem _ hx)) (K.stepC h h1 h2 (hl s List.mem_cons_self))
    · exact h
theorem KCmd.joinB {b : Br} (h : P b) {c : Cn} {m : M} (hc : b.cs k = some c) (hst : c.st = 0) (h1 : 1≤k) (h2 : k≤16) (hm : m.ok = true) (hm1 : m.k = 1) (hn : isName m.t = true) : P (Bk.joinB b k m):=by
  have ho : opn b k = false:=by unfold opn; rw [hc]; simp [hst]
  have hc1:=(tell_shut (joined k m.t) ho).trans hc
  have ht : m.t.length≤20:=by have:=Ms.rt_n hm; rw [hm1] at this; exact this
  have hP1:=K.tell (plain_joined h2 ht) h
  rw [joinB_eq,hc1]
  have hr:=firstRole_in (Bk.tell (joined k m.t) b).fl (decide (m.a % 2 = 1))
  have hX:=K.join _ c m.t (comeAt (Bk.tell (joined k m.t) b) m) (comeRole (Bk.tell (joined k m.t) b) m) hP1 hc1 h1 h2 hst ht hn (viewAt_le _ _ _ _) hr.1 hr.2
  show P (joinX (Bk.send (welcome k (comeAt (Bk.tell (joined k m.t) b) m) (comeRole (Bk.tell (joined k m.t) b) m)) (setFl (setc (Bk.tell (joined k m.t) b) k (some (opened c m.t (comeAt (Bk.tell (joined k m.t) b) m)))) (fjoin (Bk.tell (joined k m.t) b).fl k (comeRole (Bk.tell (joined k m.t) b) m))) k) k)
  obtain ⟨x,hx⟩ : ∃ x,Bk.send (welcome k (comeAt (Bk.tell (joined k m.t) b) m) (comeRole (Bk.tell (joined k m.t) b) m)) (setFl (setc (Bk.tell (joined k m.t) b) k (some (opened c m.t (comeAt (Bk.tell (joined k m.t) b) m)))) (fjoin (Bk.tell (joined k m.t) b).fl k (comeRole (Bk.tell (joined k m.t) b) m))) k = x:=⟨_,rfl⟩
  rw [hx] at hX ⊢
  have hxo:=K.ok x hX
  have hY:=K.send (plain_floor hxo.told.1 hxo.told.2) hX h1 h2
  unfold joinX
  obtain ⟨y,hy⟩ : ∃ y,Bk.send (mfloor x.told) x k = y:=⟨_,rfl⟩
  rw [hy] at hY ⊢
  unfold joinY
  split
  · exact K.send (plain_exit (K.ok y hY).code) hY h1 h2
  · exact hY
theorem KCmd.hello {b : Br} (h : P b) {c : Cn} {m : M} (hc : b.cs k = some c) (hst : c.st = 0) (h1 : 1≤k) (h2 : k≤16) (hm : m.ok = true) : P (Bk.hello b k m):=by
  unfold Bk.hello
  split
  · exact K.shut h h1 h2 (by decide)
  · next hk1 =>
    split
    · exact K.shut h h1 h2 (by decide)
    · split
      · exact K.shut h h1 h2 (by decide)
      · next hn=>exact K.joinB h hc hst h1 h2 hm (by omega) (by simpa using hn)
theorem KCmd.offered {b : Br} (h : P b) (h1 : 1≤k) (h2 : k≤16) {a : Int} (ha : 0≤a∧a≤1099511627776) (ks : Bs) : P (Bk.offered b k a ks):=by
  unfold Bk.offered
  split
  · exact h
  split
  · next hw =>
    unfold whyB at hw
    split at hw
    · cases hw
    · next he =>
      split at hw
      · cases hw
      split at hw
      · cases hw
      split at hw
      · cases hw
      split at hw
      · cases hw
      · next hi=>exact K.typed b ks h (by simpa using he) (by omega)
  · exact K.send (plain_reject ha.1 ha.2 (whyB_le _ _ _)) h h1 h2
theorem KCmd.keysB {b : Br} (h : P b) (h1 : 1≤k) (h2 : k≤16) {m : M} (hm : m.ok = true) (hlx : ∀ c,b.cs k = some c→P (setc b k (some { c with lx:=lrun c.lx m.t }))) (ht : ∀ c,b.cs k = some c→∀ s∈lcmds c.lx m.t,Tame s) : P (Bk.keysB b k m):=by
  rcases hc : b.cs k with _ | c
  · unfold Bk.keysB; rw [hc]; exact h
  · rw [keysB_eq hc]
    exact K.cmds h1 h2 _ (ht c hc) (K.offered (hlx c hc) h1 h2 (Ms.rt_a hm) _)
theorem KCmd.takeB {b : Br} (h : P b) (h1 : 1≤k) (h2 : k≤16) {mo : Option M} (hm : ∀ m,mo = some m→m.ok = true) (hlx : ∀ m,mo = some m→m.k = 2→∀ c,b.cs k = some c→c.st≠0→P (setc b k (some { c with lx:=lrun c.lx m.t }))) (ht : ∀ m,mo = some m→m.k = 2→∀ c,b.cs k = some c→c.st≠0→∀ s∈lcmds c.lx m.t,Tame s) : P (Bk.takeB b k mo):=by
  unfold Bk.takeB
  rcases mo with _ | m
  · exact K.shut h h1 h2 (by decide)
  · show P (if (match b.cs k with | some c=>decide (c.st = 0) | none=>false) = true then Bk.hello b k m else if m.k = 2 then Bk.keysB b k m else if m.k = 3 then Bk.send ⟨14,0,0,[]⟩ b k else if m.k = 4 then Bk.shut b k 0 else Bk.shut b k 4)
    rcases hc : b.cs k with _ | c
    · dsimp only
      rw [if_neg (by decide)]
      split
      · next h2k=>exact K.keysB h h1 h2 (hm m rfl) (fun d hd=>by rw [hc] at hd; cases hd) fun d hd=>by rw [hc] at hd; cases hd
      split
      · exact K.send plain_pong h h1 h2
      split
      · exact K.shut h h1 h2 (by decide)
      · exact K.shut h h1 h2 (by decide)
    · dsimp only
      by_cases hst : c.st = 0
      · rw [if_pos (by simpa using hst)]
        exact K.hello h hc hst h1 h2 (hm m rfl)
      · rw [if_neg (by simpa using hst)]
        split
        · next h2k=>exact K.keysB h h1 h2 (hm m rfl) (fun d hd=>hlx m rfl h2k d hd (by rw [hc] at hd; injection hd with hd; rw [← hd]; exact hst)) fun d hd=>ht m rfl h2k d hd (by rw [hc] at hd; injection hd with hd; rw [← hd]; exact hst)
        split
        · exact K.send plain_pong h h1 h2
        split
        · exact K.shut h h1 h2 (by decide)
        · exact K.shut h h1 h2 (by decide)
end
theorem KCore.msg {P : Br→Prop} (K : KCore P) (hok : ∀ b,P b→BOk b) : KMsg P where
  ok:=hok
  gone:=K.gone
  plus:=fun b k c m h hc hst _ hf=>K.plus b k c m h hc hst hf
  closed:=fun b k c why h hc hst _ hf h1 h2=>K.gone _ k _ (K.plus b k c _ h hc hst (by rw [closed_len]; exact hf)) (setc_cs _ _ _) h1 h2
  told:=K.told
  served:=fun b k c m p s h hc hst hn _=>K.served b k c m p s h hc hst hn
  evict:=fun b k c m p s h hc hst hn _ h1 h2=>K.gone _ k _ (K.served b k c m p s h hc hst hn) (setc_cs _ _ _) h1 h2
  reap:=K.reap
def earLines (X : Lx.Lx) : List (BitVec 8×Bs)→List Bs
  | []=>[]
  | f :: fs=>match mof f with
    | some m=>if m.k = 2 then lcmds X m.t ++ earLines (lrun X m.t) fs else earLines X fs
    | none=>earLines X fs
def earLx (X : Lx.Lx) : List (BitVec 8×Bs)→Lx.Lx
  | []=>X
  | f :: fs=>match mof f with
    | some m=>if m.k = 2 then earLx (lrun X m.t) fs else earLx X fs
    | none=>earLx X fs
def EarJ (k : Nat) (F : Fs) (X : Lx.Lx) (b : Br) : Prop:=BOk b∧∀ c,b.cs k = some c→c.st≠2→c.fd = F∧c.lx = X
theorem EarJ.set {k j : Nat} {F : Fs} {X : Lx.Lx} {b : Br} (h : EarJ k F X b) {c c' : Cn} (hc : b.cs j = some c) (hst : c'.st≠2→c.st≠2) (hf : c'.fd = c.fd) (hl : c'.lx = c.lx) : ∀ d,(setc b j (some c')).cs k = some d→d.st≠2→d.fd = F∧d.lx = X:=fun d hd h2=>by
  by_cases e : k = j
  · subst e
    rw [setc_cs] at hd
    injection hd with hd
    subst hd
    rw [hf,hl]
    exact h.2 c hc (hst h2)
  · rw [setc_ne _ _ _ e] at hd
    exact h.2 d hd h2
theorem ear_core (k : Nat) (F : Fs) (X : Lx.Lx) : KCore (EarJ k F X) where
  gone:=fun b j c h hc h1 h2=>by
    have:=h.set (c':={ c with st:=2 }) hc (fun e=>absurd rfl e) rfl rfl
    refine ⟨bok_all.gone b j c h.1 hc h1 h2,?_⟩
    unfold gone
    split
    · exact this
    · exact this
  plus:=fun b j c m h hc hst hf=>⟨bok_all.plus b j c m h.1 hc hst hf,h.set hc id rfl rfl⟩
  told:=fun b h=>⟨bok_all.told b h.1,h.2⟩
  served:=fun b j c m p s h hc hst hn=>by
    have hp:=putc_same b.cf.queue { c with p:=p,s:=s } (enc m)
    exact ⟨bok_all.served b j c m p s h.1 hc hst hn,h.set hc (by rw [hp.1]; exact id) hp.2.2.2.2.2.1 hp.2.2.2.2.2.2⟩
  reap:=fun b h=>⟨bok_all.reap b h.1,fun c hc h2=>by
    replace hc : (if 1≤k∧k≤16∧done b k = true then none else b.cs k) = some c:=hc
    split at hc
    · cases hc
    · exact h.2 c hc h2⟩
theorem ear_cmd (j k : Nat) (F : Fs) (X : Lx.Lx) : KCmd j (EarJ k F X) where
  toKMsg:=(ear_core k F X).msg fun _ h=>h.1
  join:=fun b c t p r h hc h1 h2 h0 ht hn hp hr0 hr2=>(ear_core k F X).send _ ⟨bok_all.join b j c t p r h.1 hc h1 h2 h0 ht hn hp hr0 hr2,h.set (c':=opened c t p) hc (fun _=>by omega) rfl rfl⟩ h1 h2
  fl:=fun b s h hs=>⟨bok_all.fl b s h.1 hs,h.2⟩
  typed:=fun b ks h he hi=>⟨bok_all.typed b ks h.1 he hi,h.2⟩
section
variable {P : Br→Prop} {k : Nat} (K : KSay k P)
include K
theorem KSay.takes (h1 : 1≤k) (h2 : k≤16) {F : Fs} : ∀ (l : List (BitVec 8×Bs)) {b : Br} {X : Lx.Lx},P b→EarJ k F X b→(∀ s∈earLines X l,Tame s)→P (takes b k l)∧EarJ k F (earLx X l) (takes b k l)
  | [],_,_,h,he,_=>⟨h,he⟩
  | f :: l,b,X,h,he,ht=>by
    by_cases hcl : closing b k = true
    · rw [takes_shut hcl]
      refine ⟨h,he.1,fun c hc hst=>?_⟩
      unfold closing at hcl
      rw [hc] at hcl
      simp at hcl
      exact absurd hcl hst
    · obtain ⟨c,hc,hst⟩ : ∃ c,b.cs k = some c∧c.st≠2:=by
        rcases hx : b.cs k with _ | c
        · unfold closing at hcl; rw [hx] at hcl; exact absurd rfl hcl
        · exact ⟨c,rfl,fun e=>by unfold closing at hcl; rw [hx] at hcl; simp [e] at hcl⟩
      obtain ⟨hF,hX⟩:=he.2 c hc hst
      have e1 : Bk.takes b k (f :: l) = Bk.takes (holder (takeB b k (mof f))) k l:=by
        show (if closing b k then b else _) = _
        rw [if_neg hcl]
      rw [e1]
      have hmok : ∀ m,mof f = some m→m.ok = true:=fun m hm=>(mof_ok hm).1
      have key : (∀ m,mof f = some m→m.k = 2→∀ s∈lcmds X m.t,Tame s)∧∃ X',(∀ s∈earLines X' l,Tame s)∧earLx X (f :: l) = earLx X' l∧X' = (match mof f with | some m=>if m.k = 2 then lrun X m.t else X | none=>X):=by
        have ht' : ∀ s∈(match mof f with | some m=>if m.k = 2 then lcmds X m.t ++ earLines (lrun X m.t) l else earLines X l | none=>earLines X l),Tame s:=ht
        have he' : earLx X (f :: l) = (match mof f with | some m=>if m.k = 2 then earLx (lrun X m.t) l else earLx X l | none=>earLx X l):=rfl
        rw [he']
        rcases hm : mof f with _ | m
        · rw [hm] at ht'
          exact ⟨fun m h=>(by cases h),X,ht',rfl,rfl⟩
        · rw [hm] at ht'
          by_cases hk : m.k = 2
          · have ht'' : ∀ s∈lcmds X m.t ++ earLines (lrun X m.t) l,Tame s:=by
              replace ht' : ∀ s∈(if m.k = 2 then lcmds X m.t ++ earLines (lrun X m.t) l else earLines X l),Tame s:=ht'
              rw [if_pos hk] at ht'
              exact ht'
            refine ⟨fun m2 h2 _ s hs=>?_,lrun X m.t,fun s hs=>ht'' s (List.mem_append_right _ hs),?_,?_⟩
            · injection h2 with h2
              subst h2
              exact ht'' s (List.mem_append_left _ hs)
            · show (if m.k = 2 then _ else _) = _
              rw [if_pos hk]
            · show _ = (if m.k = 2 then _ else _)
              rw [if_pos hk]
          · replace ht' : ∀ s∈(if m.k = 2 then lcmds X m.t ++ earLines (lrun X m.t) l else earLines X l),Tame s:=ht'
            rw [if_neg hk] at ht'
            refine ⟨fun m2 h2 hk2=>?_,X,ht',?_,?_⟩
            · injection h2 with h2
              subst h2
              exact absurd hk2 hk
            · show (if m.k = 2 then _ else _) = _
              rw [if_neg hk]
            · show _ = (if m.k = 2 then _ else _)
              rw [if_neg hk]
      obtain ⟨k1,X',k2,k3,k4⟩:=key
      rw [k3]
      have hP : P (takeB b k (mof f)):=K.toKCmd.takeB h h1 h2 hmok (fun m _ _ d hd _=>K.lx b d m.t h hd) fun m hm hk2 d hd _=>by
        rw [hc] at hd
        injection hd with hd
        rw [← hd,hX]
        exact k1 m hm hk2
      have hE : EarJ k F X' (takeB b k (mof f)):=by
        rcases hm : mof f with _ | m
        · rw [hm] at k4
          replace k4 : X' = X:=k4
          rw [k4]
          exact (ear_core k F X).shut he h1 h2 4
        · rw [hm] at k4
          replace k4 : X' = if m.k = 2 then lrun X m.t else X:=k4
          by_cases hk2 : m.k = 2
          · rw [if_pos hk2] at k4
            by_cases hs0 : c.st = 0
            · have e2 : takeB b k (some m) = shut b k 4:=by
                unfold takeB
                rw [hc]
                show (if decide (c.st = 0) = true then hello b k m else _) = _
                rw [if_pos (by simpa using hs0)]
                unfold hello
                rw [if_pos (by omega)]
              rw [e2]
              refine ⟨bok_all.shut he.1 h1 h2 4,fun d hd hd2=>?_⟩
              have:=shut_closes (b:=b) (k:=k) 4
              unfold closing at this
              rw [hd] at this
              simp at this
              exact absurd this hd2
            · have e2 : takeB b k (some m) = keysB b k m:=by
                unfold takeB
                rw [hc]
                show (if decide (c.st = 0) = true then hello b k m else if m.k = 2 then keysB b k m else _) = _
                rw [if_neg (by simpa using hs0),if_pos hk2]
              rw [e2,keysB_eq hc]
              have hE1 : EarJ k F X' (setc b k (some { c with lx:=lrun c.lx m.t })):=by
                refine ⟨bok_all.lx b k c m.t he.1 hc,fun d hd _=>?_⟩
                rw [setc_cs] at hd
                injection hd with hd
                subst hd
                exact ⟨hF,by show lrun c.lx m.t = X'; rw [hX,k4]⟩
              have hE2:=(ear_cmd k k F X').offered hE1 h1 h2 (Ms.rt_a (hmok m hm)) (lkeys c.lx m.t)
              exact (ear_cmd k k F X').cmds h1 h2 _ (fun s hs=>k1 m hm hk2 s (by rw [← hX]; exact hs)) hE2
          · rw [if_neg hk2] at k4
            rw [k4]
            exact (ear_cmd k k F X).takeB he h1 h2 (fun m' hm'=>by injection hm' with hm'; rw [← hm']; exact hmok m hm) (fun m' hm' hk'=>by injection hm' with hm'; subst hm'; exact absurd hk' hk2) fun m' hm' hk'=>by injection hm' with hm'; subst hm'; exact absurd hk' hk2
      exact KSay.takes h1 h2 l (K.holder hP) ((ear_core k F X').holder hE) k2
theorem KSay.bytes {b : Br} (h : P b) (h1 : 1≤k) (h2 : k≤16) {F : Fs} {X : Lx.Lx} (he : EarJ k F X b) (h0 : bytesE b (k : Nat) = 0) (t : Bs) (ht : ∀ s∈earLines X (fgot F t),Tame s) :
    P (bytesB b (k : Nat) t)∧EarJ k (fpush F t) (earLx X (fgot F t)) (bytesB b (k : Nat) t):=by
  have hth : isThere b (k : Nat) = true:=by
    unfold bytesE at h0
    split at h0
    · next hi=>exact hi
    · cases h0
  have hkk : ((k : Nat) : Int).toNat = k:=by omega
  obtain ⟨c,hc⟩ : ∃ c,b.cs k = some c:=by
    unfold isThere at hth
    rw [hkk] at hth
    simp at hth
    exact Option.isSome_iff_exists.1 hth.2
  have hst : c.st≠2:=fun e=>by
    unfold bytesE at h0
    rw [if_pos hth,hkk] at h0
    unfold closing at h0
    rw [hc] at h0
    simp [e] at h0
  obtain ⟨hF,hX⟩:=he.2 c hc hst
  obtain ⟨b1,hb1,c1,hc1,hst1,hF1,hX1,hP1,hB1⟩ : ∃ b1,bytesB b (k : Nat) t = settle (recvB b1 k t)∧∃ c1,b1.cs k = some c1∧c1.st≠2∧c1.fd = F∧c1.lx = X∧P b1∧BOk b1:=by
    refine ⟨if t = [] then b else setc b k (some { c with idle:=0 }),?_,?_⟩
    · unfold bytesB
      rw [if_pos h0,hkk]
      show settle (recvB (match b.cs k with | some c=>(if t = [] then b else setc b k (some { c with idle:=0 })) | none=>b) k t) = _
      rw [hc]
    · split
      · exact ⟨c,hc,hst,hF,hX,h,he.1⟩
      · exact ⟨_,setc_cs _ _ _,hst,hF,hX,K.idle0 b c h hc,bok_all.idle0 b k c he.1 hc⟩
  rw [hb1,recvB_eq hc1]
  have hP2:=K.fd b1 c1 t hP1 hc1
  have hE2 : EarJ k (fpush F t) X (setc b1 k (some { c1 with fd:=fpush c1.fd t })):=⟨bok_all.fd b1 k c1 t hB1 hc1,fun d hd _=>by
    rw [setc_cs] at hd
    injection hd with hd
    subst hd
    exact ⟨by show fpush c1.fd t = _; rw [hF1],hX1⟩⟩
  rw [hF1] at hP2 hE2 ⊢
  obtain ⟨hP3,hE3⟩:=K.takes h1 h2 (fgot F t) hP2 hE2 ht
  unfold recvX
  split
  · exact ⟨K.settle hP3,(ear_core k _ _).settle hE3⟩
  · exact ⟨K.settle (K.shut hP3 h1 h2 (by decide)),(ear_core k _ _).settle ((ear_core k _ _).shut hE3 h1 h2 1)⟩
end
end Go.Proofs.YthkbgopimgnbgaaGreatDoor.Bk
end

section
namespace Go.Proofs.YthkbgopimgnbgaaGreatDoor.Bk
open Fr Lx
structure Ts where
  at_ : Int
  gaps : Nat
  last : Bool
def ts0 : Ts:=⟨-1,0,false⟩
def tstep (L : Bs) (st : Nat) (s : Ts) (m : M) : Option Ts:=
  if s.last = true then none
  else if m.k = 5 then (if 0≤s.at_∨(L.length : Int) < m.b then none else some { s with at_:=m.b })
  else if m.k = 6 then (if m.a≠s.at_∨(L.length : Int) < m.a + m.t.length∨(L.drop m.a.toNat).take m.t.length≠m.t∨m.t = [] then none else some { s with at_:=m.a + m.t.length })
  else if m.k = 7 then (if m.a≠s.at_∨m.b≤m.a∨(L.length : Int) < m.b∨st < s.gaps + 1 then none else some ⟨m.b,s.gaps + 1,false⟩)
  else if m.k = 12∨m.k = 13 then some { s with last:=true }
  else some s
def trun (L : Bs) (st : Nat) : Ts→List M→Option Ts
  | s,[]=>some s
  | s,m :: ms=>match tstep L st s m with | some r=>trun L st r ms | none=>none
theorem trun_app (L : Bs) (st : Nat) : ∀ (ms : List M) (s : Ts) (ns : List M),trun L st s (ms ++ ns) = match trun L st s ms with | some r=>trun L st r ns | none=>none
  | [],_,_=>rfl
  | m :: ms,s,ns=>by
    show (match tstep L st s m with | some r=>trun L st r (ms ++ ns) | none=>none) = _
    show _ = match (match tstep L st s m with | some r=>trun L st r ms | none=>none) with | some r=>trun L st r ns | none=>none
    rcases tstep L st s m with _ | r
    · rfl
    · exact trun_app L st ms r ns
theorem trun_one {L : Bs} {st : Nat} {ms : List M} {r r' : Ts} {m : M} (h : trun L st ts0 ms = some r) (h2 : tstep L st r m = some r') : trun L st ts0 (ms ++ [m]) = some r':=by
  rw [trun_app,h]
  show (match tstep L st r m with | some r=>trun L st r [] | none=>none) = _
  rw [h2]
  rfl
theorem tstep_more {L : Bs} {st : Nat} {s r : Ts} {m : M} (hm : m.ok = true) (h : tstep L st s m = some r) (t : Bs) : tstep (L ++ t) st s m = some r:=by
  have hr:=Ms.rt_a hm
  unfold tstep at h ⊢
  split at h
  · cases h
  · next h0 =>
    rw [if_neg h0]
    split at h
    · next h5 =>
      rw [if_pos h5]
      split at h
      · cases h
      · next h1=>rw [if_neg (by rw [List.length_append]; omega)]; exact h
    · next h5 =>
      rw [if_neg h5]
      split at h
      · next h6 =>
        rw [if_pos h6]
        split at h
        · cases h
        · next h1 =>
          have h2 : m.a = s.at_∧m.a + m.t.length≤(L.length : Int)∧(L.drop m.a.toNat).take m.t.length = m.t∧m.t≠[]:=by
            refine ⟨Decidable.byContradiction fun e=>h1 (.inl e),Decidable.byContradiction fun e=>h1 (.inr (.inl (by omega))),Decidable.byContradiction fun e=>h1 (.inr (.inr (.inl e))),fun e=>h1 (.inr (.inr (.inr e)))⟩
          rw [if_neg (by
            rintro (e | e | e | e)
            · exact e h2.1
            · rw [List.length_append] at e; omega
            · refine e ?_
              rw [List.drop_append_of_le_length (by omega),List.take_append_of_le_length (by rw [List.length_drop]; omega)]
              exact h2.2.2.1
            · exact h2.2.2.2 e)]
          exact h
      · next h6 =>
        rw [if_neg h6]
        split at h
        · next h7 =>
          rw [if_pos h7]
          split at h
          · cases h
          · next h1=>rw [if_neg (by rw [List.length_append]; omega)]; exact h
        · next h7=>rw [if_neg h7]; exact h
theorem trun_more {L : Bs} {st : Nat} (t : Bs) : ∀ (ms : List M) {s r : Ts},(∀ m∈ms,m.ok = true)→trun L st s ms = some r→trun (L ++ t) st s ms = some r
  | [],_,_,_,h=>h
  | m :: ms,s,r,hm,h=>by
    replace h : (match tstep L st s m with | some r=>trun L st r ms | none=>none) = some r:=h
    show (match tstep (L ++ t) st s m with | some r=>trun (L ++ t) st r ms | none=>none) = some r
    rcases h1 : tstep L st s m with _ | q
    · rw [h1] at h; cases h
    · rw [h1] at h
      rw [tstep_more (hm m List.mem_cons_self) h1 t]
      exact trun_more t ms (fun x hx=>hm x (List.mem_cons_of_mem _ hx)) h
theorem tstep_plain {L : Bs} {st : Nat} {s : Ts} {m : M} (hm : Plain m) (h : s.last = false) : tstep L st s m = some s:=by
  obtain ⟨_,h5,h6,h7,h12,h13⟩:=hm
  unfold tstep
  rw [if_neg (by rw [h]; decide),if_neg h5,if_neg h6,if_neg h7,if_neg (by omega)]
def TAt (k st : Nat) (hist : Bs) (b : Br) : Prop:=BOk b∧b.strikes = st∧∃ ms r tail,hist ++ tail = encs ms∧(∀ m∈ms,m.ok = true)∧trun b.L st ts0 ms = some r∧∀ c,b.cs k = some c→tail = c.out∧(c.st = 0→r = ts0)∧(c.st = 1→r = ⟨(c.p : Int),c.s,false⟩)
theorem TAt.same {k st j : Nat} {hist : Bs} {b b' : Br} (h : TAt k st hist b) (hb : BOk b') (hs : b'.strikes = b.strikes) (hL : b'.L = b.L) {c c' : Cn} (hc : b.cs j = some c) (hcs : ∀ i,b'.cs i = if i = j then some c' else b.cs i) (ho : c'.out = c.out) (h0 : c'.st = 0→c.st = 0) (h1 : c'.st = 1→c.st = 1∧c'.p = c.p∧c'.s = c.s) : TAt k st hist b':=by
  obtain ⟨_,h2,ms,r,tail,h3,h4,h5,h6⟩:=h
  refine ⟨hb,by rw [hs]; exact h2,ms,r,tail,h3,h4,by rw [hL]; exact h5,fun d hd=>?_⟩
  rw [hcs] at hd
  by_cases e : k = j
  · subst e
    rw [if_pos rfl] at hd
    injection hd with hd
    subst hd
    obtain ⟨q1,q2,q3⟩:=h6 c hc
    refine ⟨by rw [ho]; exact q1,fun e=>q2 (h0 e),fun e=>?_⟩
    obtain ⟨e1,e2,e3⟩:=h1 e
    rw [q3 e1,e2,e3]
  · rw [if_neg e] at hd
    exact h6 d hd
theorem TAt.more {k st j : Nat} {hist : Bs} {b b' : Br} (h : TAt k st hist b) (hb : BOk b') (hs : b'.strikes = b.strikes) (hL : b'.L = b.L) {c c' : Cn} {m : M} (hc : b.cs j = some c) (hcs : ∀ i,b'.cs i = if i = j then some c' else b.cs i) (ho : c'.out = c.out ++ enc m) (hm : m.ok = true)
    (hr : ∀ r,(c.st = 0→r = ts0)→(c.st = 1→r = ⟨(c.p : Int),c.s,false⟩)→∃ r',tstep b.L st r m = some r'∧(c'.st = 0→r' = ts0)∧(c'.st = 1→r' = ⟨(c'.p : Int),c'.s,false⟩)) : TAt k st hist b':=by
  obtain ⟨_,h2,ms,r,tail,h3,h4,h5,h6⟩:=h
  by_cases e : k = j
  · subst e
    obtain ⟨q1,q2,q3⟩:=h6 c hc
    obtain ⟨r',g1,g2,g3⟩:=hr r q2 q3
    refine ⟨hb,by rw [hs]; exact h2,ms ++ [m],r',tail ++ enc m,?_,fun x hx=>?_,by rw [hL]; exact trun_one h5 g1,fun d hd=>?_⟩
    · rw [encs_app,← h3,encs_one,List.append_assoc]
    · rcases List.mem_append.1 hx with hx | hx
      · exact h4 x hx
      · rw [List.mem_singleton.1 hx]; exact hm
    · rw [hcs,if_pos rfl] at hd
      injection hd with hd
      subst hd
      exact ⟨by rw [ho,q1],g2,g3⟩
  · refine ⟨hb,by rw [hs]; exact h2,ms,r,tail,h3,h4,by rw [hL]; exact h5,fun d hd=>?_⟩
    rw [hcs,if_neg e] at hd
    exact h6 d hd
theorem gone_cs (b : Br) (k : Nat) (c : Cn) (i : Nat) : (gone b k c).cs i = if i = k then some { c with st:=2 } else b.cs i:=by
  unfold gone
  split <;> rfl
theorem gone_L (b : Br) (k : Nat) (c : Cn) : (gone b k c).L = b.L∧(gone b k c).strikes = b.strikes:=by
  unfold gone
  split <;> exact ⟨rfl,rfl⟩
theorem next_kind {b : Br} {c : Cn} {m : M} {p s : Nat} (hn : nextB b c = some (m,p,s)) :
    (m = ⟨12,0,0,[]⟩∧p = c.p∧s = c.s)∨(m = ⟨7,c.p,(p : Nat),[]⟩∧c.p < p∧p≤b.L.length∧s = c.s + 1∧s≤b.strikes) ∨
      (m = ⟨6,c.p,0,(b.L.drop c.p).take (p - c.p)⟩∧c.p < p∧p≤b.L.length∧s = c.s):=by
  unfold nextB nextOf at hn
  split at hn
  · split at hn
    · injection hn with hn; injection hn with e1 hn; injection hn with e2 e3
      exact .inl ⟨e1.symm,e2.symm,e3.symm⟩
    · injection hn with hn; injection hn with e1 hn; injection hn with e2 e3
      exact .inr (.inl ⟨by rw [← e1,← e2],by omega,by omega,by omega,by omega⟩)
  · split at hn
    · cases hn
    · next h2 =>
      have hc:=count_pos h2
      injection hn with hn; injection hn with e1 hn; injection hn with e2 e3
      refine .inr (.inr ⟨?_,by omega,by omega,e3.symm⟩)
      rw [← e1]
      show (⟨6,_,0,_⟩ : M) = ⟨6,_,0,_⟩
      rw [show p - c.p = countOf b.L.length c.p ((b.cf.queue : Int) - c.out.length - 200) b.cf.data by omega]
theorem t_msg (k st : Nat) (hist : Bs) : KMsg (TAt k st hist) where
  ok:=fun b h=>h.1
  gone:=fun b j c h hc h1 h2=>h.same (c':={ c with st:=2 }) (bok_all.gone b j c h.1 hc h1 h2) (gone_L b j c).2 (gone_L b j c).1 hc (gone_cs b j c) rfl (fun e=>by cases e) (fun e=>by cases e)
  plus:=fun b j c m h hc hst hm hf=>h.more (c':=plus m c) (m:=m) (bok_all.plus b j c m h.1 hc hst hf) rfl rfl hc (fun i=>rfl) rfl hm.1 fun r r0 r1=>by
    have hk:=(h.1.cn j c hc).st
    have hl : r.last = false:=by
      rcases (by omega : c.st = 0∨c.st = 1) with e | e
      · rw [r0 e]; rfl
      · rw [r1 e]
    exact ⟨r,tstep_plain hm hl,r0,r1⟩
  closed:=fun b j c why h hc hst hw hf h1 h2=>h.more (c':={ plus (Bk.closed why) c with st:=2 }) (m:=Bk.closed why) (bok_all.gone _ j _ (bok_all.plus b j c _ h.1 hc hst (by rw [closed_len]; exact hf)) (setc_cs _ _ _) h1 h2) (gone_L _ _ _).2 (gone_L _ _ _).1 hc (fun i=>by
      rw [gone_cs]
      by_cases e : i = j
      · rw [if_pos e,if_pos e]
      · rw [if_neg e,if_neg e,setc_ne _ _ _ e]) rfl (closed_ok hw) fun r r0 r1=>by
    have hk:=(h.1.cn j c hc).st
    have hl : r.last = false:=by
      rcases (by omega : c.st = 0∨c.st = 1) with e | e
      · rw [r0 e]; rfl
      · rw [r1 e]
    refine ⟨{ r with last:=true },?_,fun e=>(by cases e),fun e=>(by cases e)⟩
    unfold tstep
    rw [if_neg (by rw [hl]; decide)]
    rfl
  told:=fun b h=>⟨bok_all.told b h.1,h.2⟩
  served:=fun b j c m p s h hc hst hn h12=>by
    have hk:=h.1.cn j c hc
    have hno:=next_ok hk.p hk.s h.1.strikes h.1.len hn
    have hfit : c.out.length + (enc m).length≤b.cf.queue:=by have:=(hno.2.2.2.2 h12).2; have:=fr_len (BitVec.ofInt 8 m.k) (Ms.body m.k m.a m.b m.t); have h3 : (enc m).length = _:=this; omega
    have hput : putc b.cf.queue { c with p:=p,s:=s } (enc m) = { c with p:=p,s:=s,out:=c.out ++ enc m }:=by
      unfold putc
      rw [if_pos hfit]
    have hst2:=h.2.1
    refine h.more (c':={ c with p:=p,s:=s,out:=c.out ++ enc m }) (m:=m) (bok_all.served b j c m p s h.1 hc hst hn) rfl rfl hc (fun i=>?_) rfl hno.2.2.1 fun r _ r1=>?_
    · show (setc b j (some (putc b.cf.queue { c with p:=p,s:=s } (enc m)))).cs i = _
      rw [hput]
      rfl
    · rw [r1 hst]
      refine ⟨⟨(p : Int),s,false⟩,?_,fun e=>?_,fun _=>rfl⟩
      · unfold tstep
        rw [if_neg (show ¬ (false = true) by decide)]
        rcases next_kind hn with ⟨e,_⟩ | ⟨e,e1,e2,e3,e4⟩ | ⟨e,e1,e2,e3⟩
        · rw [e] at h12; exact absurd rfl h12
        · subst e
          show (if (7 : Int) = 5 then _ else if (7 : Int) = 6 then _ else if (7 : Int) = 7 then (if (c.p : Int)≠(c.p : Int)∨(p : Int)≤(c.p : Int)∨(b.L.length : Int) < (p : Int)∨st < c.s + 1 then none else some (⟨(p : Int),c.s + 1,false⟩ : Ts)) else _) = _
          rw [if_neg (by decide),if_neg (by decide),if_pos rfl,if_neg (by omega),e3]
        · subst e
          have hl : ((b.L.drop c.p).take (p - c.p)).length = p - c.p:=by rw [List.length_take,List.length_drop]; omega
          show (if (6 : Int) = 5 then _ else if (6 : Int) = 6 then (if (c.p : Int)≠(c.p : Int)∨(b.L.length : Int) < (c.p : Int) + (((b.L.drop c.p).take (p - c.p)).length : Nat)∨(b.L.drop ((c.p : Int)).toNat).take ((b.L.drop c.p).take (p - c.p)).length≠(b.L.drop c.p).take (p - c.p)∨(b.L.drop c.p).take (p - c.p) = [] then none else some (⟨(c.p : Int) + (((b.L.drop c.p).take (p - c.p)).length : Nat),c.s,false⟩ : Ts)) else _) = _
          rw [if_neg (by decide),if_pos rfl,hl,if_neg,e3]
          · congr 2
            omega
          · rintro (q | q | q | q)
            · exact q rfl
            · omega
            · exact q (by rw [show ((c.p : Int)).toNat = c.p by omega])
            · have:=congrArg List.length q
              rw [hl] at this
              simp at this
              omega
      · replace e : c.st = 0:=e
        omega
  evict:=fun b j c m p s h hc hst hn h12 h1 h2=>by
    have hk:=h.1.cn j c hc
    have hno:=next_ok hk.p hk.s h.1.strikes h.1.len hn
    have hb:=bok_all.gone _ j _ (bok_all.served b j c m p s h.1 hc hst hn) (setc_cs _ _ _) h1 h2
    have hcs : ∀ i,(gone (Bk.served b j c m p s) j (putc b.cf.queue { c with p:=p,s:=s } (enc m))).cs i = if i = j then some { putc b.cf.queue { c with p:=p,s:=s } (enc m) with st:=2 } else b.cs i:=fun i=>by
      rw [gone_cs]
      by_cases e : i = j
      · rw [if_pos e,if_pos e]
      · rw [if_neg e,if_neg e]
        exact setc_ne _ _ _ e
    by_cases hfit : c.out.length + (enc m).length≤b.cf.queue
    · refine h.more (c':={ putc b.cf.queue { c with p:=p,s:=s } (enc m) with st:=2 }) (m:=m) hb (gone_L _ _ _).2 (gone_L _ _ _).1 hc hcs (by unfold putc; rw [if_pos hfit]) hno.2.2.1 fun r _ r1=>?_
      refine ⟨⟨(c.p : Int),c.s,true⟩,?_,fun e=>(by cases e),fun e=>(by cases e)⟩
      rw [r1 hst]
      unfold tstep
      rw [if_neg (show ¬ (false = true) by decide),if_neg (by omega),if_neg (by omega),if_neg (by omega),if_pos (.inl h12)]
    · exact h.same (c':={ putc b.cf.queue { c with p:=p,s:=s } (enc m) with st:=2 }) hb (gone_L _ _ _).2 (gone_L _ _ _).1 hc hcs (by unfold putc; rw [if_neg hfit]) (fun e=>by cases e) (fun e=>by cases e)
  reap:=fun b h=>by
    obtain ⟨h1,h2,ms,r,tail,h3,h4,h5,h6⟩:=h
    refine ⟨bok_all.reap b h1,h2,ms,r,tail,h3,h4,h5,fun c hc=>?_⟩
    replace hc : (if 1≤k∧k≤16∧done b k = true then none else b.cs k) = some c:=hc
    split at hc
    · cases hc
    · exact h6 c hc
theorem welcome_okk {k p : Nat} {r : Int} (hk : k≤16) (hp : p≤1099511627776) : (welcome k p r).ok = true:=by
  unfold M.ok welcome
  rw [Ms.rt_iff]
  refine ⟨rfl,?_,?_,?_⟩
  · show Ms.okN (k : Int) true = true
    unfold Ms.okN; simp; omega
  · show Ms.okN (p : Int) true = true
    unfold Ms.okN; simp; omega
  · show (roleWord r).length≤20
    have:=role_len r
    omega
theorem t_say (j k st : Nat) (hist : Bs) : KSay j (TAt k st hist) where
  toKMsg:=t_msg k st hist
  join:=fun b c t p r h hc h1 h2 h0 ht hn hp hr0 hr2=>by
    have hb1:=bok_all.join b j c t p r h.1 hc h1 h2 h0 ht hn hp hr0 hr2
    have hw:=welcome_okk (r:=r) h2 (show p≤1099511627776 from Nat.le_trans hp h.1.len)
    by_cases hf : (opened c t p).out.length + (enc (welcome j p r)).length≤b.cf.queue
    · rw [send_on (by show (1 : Nat)≠2; decide) hf]
      have hb2:=bok_all.plus _ j _ (welcome j p r) hb1 (setc_cs b j _) (by show (1 : Nat)≠2; decide) hf
      have e : setc (setFl (setc b j (some (opened c t p))) (fjoin b.fl j r)) j (some (plus (welcome j p r) (opened c t p))) = setFl (setc b j (some (plus (welcome j p r) (opened c t p)))) (fjoin b.fl j r):=congrArg (fun x=>setFl x (fjoin b.fl j r)) (setc_two b j _ _)
      rw [e] at hb2
      refine h.more (c':=plus (welcome j p r) (opened c t p)) (m:=welcome j p r) hb2 rfl rfl hc (fun i=>rfl) rfl hw fun q q0 _=>?_
      rw [q0 h0]
      refine ⟨⟨(p : Int),0,false⟩,?_,fun e=>(by cases e),fun _=>rfl⟩
      unfold tstep
      show (if false = true then none else if (5 : Int) = 5 then (if (0 : Int)≤-1∨(b.L.length : Int) < (p : Int) then none else some (⟨(p : Int),0,false⟩ : Ts)) else _) = _
      rw [if_neg (by decide),if_pos rfl,if_neg (by omega)]
    · have e : send (welcome j p r) (setFl (setc b j (some (opened c t p))) (fjoin b.fl j r)) j = leave (setFl (setc b j (some (opened c t p))) (fjoin b.fl j r)) j:=by
        show sendW (leaveN 16) _ _ j = _
        unfold sendW
        rw [show (setFl (setc b j (some (opened c t p))) (fjoin b.fl j r)).cs j = some (opened c t p) from setc_cs b j _]
        show (if (1 : Nat) = 2 then _ else if (opened c t p).out.length + (enc (welcome j p r)).length≤b.cf.queue then _ else leaveN 16 _ j) = _
        rw [if_neg (by decide),if_neg hf]
        rfl
      rw [e]
      show TAt k st hist (leaveW (tellN 16) (setFl (setc b j (some (opened c t p))) (fjoin b.fl j r)) j)
      unfold leaveW
      rw [show (setFl (setc b j (some (opened c t p))) (fjoin b.fl j r)).cs j = some (opened c t p) from setc_cs b j _]
      have hb2:=bok_all.gone _ j _ hb1 (setc_cs b j _) h1 h2
      have hg : gone (setFl (setc b j (some (opened c t p))) (fjoin b.fl j r)) j (opened c t p) = setFl (setc (setFl (setc b j (some (opened c t p))) (fjoin b.fl j r)) j (some { opened c t p with st:=2 })) (fleave (fjoin b.fl j r) j):=by
        unfold gone
        exact if_pos rfl
      show TAt k st hist (if (1 : Nat) = 1 then tellN 16 (left j) (setFl (setc (setFl (setc b j (some (opened c t p))) (fjoin b.fl j r)) j (some { opened c t p with st:=2 })) (fleave (fjoin b.fl j r) j)) else _)
      rw [if_pos rfl,← hg]
      refine (t_msg k st hist).tellN 16 _ _ (plain_left h2) ?_
      refine h.same (c':={ opened c t p with st:=2 }) hb2 (gone_L _ _ _).2 (gone_L _ _ _).1 hc (fun i=>?_) rfl (fun e=>by cases e) (fun e=>by cases e)
      rw [gone_cs]
      by_cases e : i = j
      · rw [if_pos e,if_pos e]
      · rw [if_neg e,if_neg e]
        exact setc_ne _ _ _ e
  fl:=fun b s h hs=>⟨bok_all.fl b s h.1 hs,h.2⟩
  typed:=fun b ks h he hi=>⟨bok_all.typed b ks h.1 he hi,h.2⟩
  lx:=fun b c t h hc=>h.same (c':={ c with lx:=lrun c.lx t }) (bok_all.lx b j c t h.1 hc) rfl rfl hc (fun _=>rfl) rfl id fun e=>⟨e,rfl,rfl⟩
  idle0:=fun b c h hc=>h.same (c':={ c with idle:=0 }) (bok_all.idle0 b j c h.1 hc) rfl rfl hc (fun _=>rfl) rfl id fun e=>⟨e,rfl,rfl⟩
  fd:=fun b c t h hc=>h.same (c':={ c with fd:=fpush c.fd t }) (bok_all.fd b j c t h.1 hc) rfl rfl hc (fun _=>rfl) rfl id fun e=>⟨e,rfl,rfl⟩
section
variable {k st : Nat} {hist : Bs} {b : Br}
theorem TAt.connect (h : TAt k st hist b) (id : Int) : ((id≠(k : Nat)∨connectE b id≠0)→TAt k st hist (connectB b id))∧(id = (k : Nat)→connectE b id = 0→TAt k st [] (connectB b id)):=by
  unfold connectB
  by_cases he : connectE b id = 0
  · rw [if_pos he]
    have h0 : 1≤id∧id≤16:=by
      unfold connectE at he
      split at he
      · cases he
      · omega
    have hb : BOk (setc b id.toNat (some cnew)):=h.1.setc _ ⟨Nat.zero_le _,Nat.zero_le _,Nat.zero_le _,Nat.zero_le _⟩
    refine ⟨fun hne=>?_,fun e _=>?_⟩
    · have hk : k≠id.toNat:=by rcases hne with e | e <;> omega
      obtain ⟨h1,h2,ms,r,tail,h3,h4,h5,h6⟩:=h
      exact ⟨hb,h2,ms,r,tail,h3,h4,h5,fun c hc=>h6 c (by rw [setc_ne _ _ _ hk] at hc; exact hc)⟩
    · have hk : id.toNat = k:=by omega
      refine ⟨hb,h.2.1,[],ts0,[],rfl,fun m hm=>(by cases hm),rfl,fun c hc=>?_⟩
      rw [hk,setc_cs] at hc
      injection hc with hc
      subst hc
      exact ⟨rfl,fun _=>rfl,fun e=>(by cases e)⟩
  · rw [if_neg he]
    exact ⟨fun _=>h,fun _ e=>absurd e he⟩
theorem TAt.write (h : TAt k st hist b) (id n : Int) : (id≠(k : Nat)→TAt k st hist (writeB b id n))∧(id = (k : Nat)→TAt k st (hist ++ writeT b id n) (writeB b id n)):=by
  unfold writeB writeT
  by_cases ht : isThere b id = true
  · rw [if_pos ht,if_pos ht]
    have h0 : 1≤id∧id≤16:=by unfold isThere at ht; simp at ht; exact ht.1
    rcases hc : b.cs id.toNat with _ | c
    · exact ⟨fun _=>h,fun _=>by rw [List.append_nil]; exact h⟩
    · have hkc:=h.1.cn _ c hc
      obtain ⟨q,hq⟩ : ∃ q,takeN n c.out.length = q:=⟨_,rfl⟩
      have hb : BOk (setc b id.toNat (some { c with out:=c.out.drop q })):=h.1.setc _ ⟨hkc.p,hkc.s,hkc.name,hkc.st⟩
      refine ⟨fun hne=>?_,fun e=>?_⟩
      · have hk : k≠id.toNat:=by omega
        show TAt k st hist (settle (setc b id.toNat (some { c with out:=c.out.drop (takeN n c.out.length) })))
        rw [hq]
        refine (t_msg k st hist).settle ?_
        obtain ⟨h1,h2,ms,r,tail,h3,h4,h5,h6⟩:=h
        exact ⟨hb,h2,ms,r,tail,h3,h4,h5,fun d hd=>h6 d (by rw [setc_ne _ _ _ hk] at hd; exact hd)⟩
      · have hk : id.toNat = k:=by omega
        show TAt k st (hist ++ c.out.take (takeN n c.out.length)) (settle (setc b id.toNat (some { c with out:=c.out.drop (takeN n c.out.length) })))
        rw [hq]
        refine (t_msg k st _).settle ?_
        obtain ⟨h1,h2,ms,r,tail,h3,h4,h5,h6⟩:=h
        rw [hk] at hb hc ⊢
        obtain ⟨q1,q2,q3⟩:=h6 c hc
        refine ⟨hb,h2,ms,r,c.out.drop q,?_,h4,h5,fun d hd=>?_⟩
        · rw [List.append_assoc,List.take_append_drop,← q1]; exact h3
        · rw [setc_cs] at hd
          injection hd with hd
          subst hd
          exact ⟨rfl,q2,q3⟩
  · rw [if_neg ht,if_neg ht]
    exact ⟨fun _=>h,fun _=>by rw [List.append_nil]; exact h⟩
theorem TAt.output (h : TAt k st hist b) (t : Bs) (hm : b.L.length + t.length≤1099511627776) : TAt k st hist (outputB b t):=by
  refine (t_msg k st hist).output h t fun _=>?_
  obtain ⟨h1,h2,ms,r,tail,h3,h4,h5,h6⟩:=h
  refine ⟨⟨h1.log,h1.data,h1.queue,h1.input,h1.idle,h1.strikes,h1.fok,h1.rin,by show (b.L ++ t).length≤_; rw [List.length_append]; exact hm,h1.told,h1.code,fun j d hd=>?_⟩,h2,ms,r,tail,h3,h4,trun_more t ms h4 h5,h6⟩
  have:=h1.cn j d hd
  exact ⟨Nat.le_trans this.p (by show b.L.length≤(b.L ++ t).length; rw [List.length_append]; omega),this.s,this.name,this.st⟩
theorem TAt.cut (h : TAt k st hist b) (id : Int) : TAt k st hist (cutB b id):=by
  refine (t_msg k st hist).cut h id fun x j c hx hc hst _ _ _=>?_
  obtain ⟨h1,h2,ms,r,tail,h3,h4,h5,h6⟩:=hx
  have hk : ∀ i d,(setc x j none).cs i = some d→x.cs i = some d:=fun i d hd=>by
    by_cases e : i = j
    · subst e; rw [setc_cs] at hd; cases hd
    · rwa [setc_ne _ _ _ e] at hd
  exact ⟨⟨h1.log,h1.data,h1.queue,h1.input,h1.idle,h1.strikes,h1.fok,h1.rin,h1.len,h1.told,h1.code,fun i d hd=>by have:=h1.cn i d (hk i d hd); exact ⟨this.p,this.s,this.name,this.st⟩⟩,h2,ms,r,tail,h3,h4,h5,fun d hd=>h6 d (hk k d hd)⟩
theorem TAt.ends (h : TAt k st hist b) (code : Int) : TAt k st hist (endB b code):=by
  refine (t_msg k st hist).ends h code fun n hn _=>?_
  obtain ⟨h1,h2,h3⟩:=h
  exact ⟨⟨h1.log,h1.data,h1.queue,h1.input,h1.idle,h1.strikes,h1.fok,h1.rin,h1.len,h1.told,hn,fun j d hd=>by have:=h1.cn j d hd; exact ⟨this.p,this.s,this.name,this.st⟩⟩,h2,h3⟩
theorem TAt.tick (h : TAt k st hist b) : TAt k st hist (tickB b):=
  (t_msg k st hist).tick ⟨bok_all.fl b (ftick b.fl) h.1 (.inr (.inr (.inr (.inr (.inr rfl))))),h.2⟩ fun x j c hx hc=>hx.same (c':={ c with idle:=c.idle + 1 }) (by have hk:=hx.1.cn j c hc; exact hx.1.setc j ⟨hk.p,hk.s,hk.name,hk.st⟩) rfl rfl hc (fun _=>rfl) rfl id fun e=>⟨e,rfl,rfl⟩
theorem TAt.drain (h : TAt k st hist b) (n : Int) : TAt k st hist (drainB b n):=by
  obtain ⟨h1,h2,h3⟩:=h
  exact ⟨⟨h1.log,h1.data,h1.queue,h1.input,h1.idle,h1.strikes,h1.fok,h1.rin,h1.len,h1.told,h1.code,fun j d hd=>by have:=h1.cn j d hd; exact ⟨this.p,this.s,this.name,this.st⟩⟩,h2,h3⟩
theorem TAt.begin (c : Cf) (h : BOk (bnew c)) : TAt k c.strikes [] (bnew c):=⟨h,rfl,[],ts0,[],rfl,fun m hm=>(by cases hm),rfl,fun d hd=>(by cases hd)⟩
end
end Go.Proofs.YthkbgopimgnbgaaGreatDoor.Bk
end

section
namespace Go.Proofs.YthkbgopimgnbgaaGreatDoor.Bk
open Fr Lx
theorem ear_say {j k : Nat} (hjk : k≠j) (F : Fs) (X : Lx.Lx) : KSay j (EarJ k F X) where
  toKCmd:=ear_cmd j k F X
  lx:=fun b c t h hc=>⟨bok_all.lx b j c t h.1 hc,fun d hd=>h.2 d (by rw [setc_ne _ _ _ hjk] at hd; exact hd)⟩
  idle0:=fun b c h hc=>⟨bok_all.idle0 b j c h.1 hc,fun d hd=>h.2 d (by rw [setc_ne _ _ _ hjk] at hd; exact hd)⟩
  fd:=fun b c t h hc=>⟨bok_all.fd b j c t h.1 hc,fun d hd=>h.2 d (by rw [setc_ne _ _ _ hjk] at hd; exact hd)⟩
section
variable {k : Nat} {F : Fs} {X : Lx.Lx} {b : Br}
theorem ear_msg (k : Nat) (F : Fs) (X : Lx.Lx) : KMsg (EarJ k F X):=(ear_core k F X).msg fun _ h=>h.1
theorem EarJ.connect (h : EarJ k F X b) (id : Int) : ((id≠(k : Nat)∨connectE b id≠0)→EarJ k F X (connectB b id))∧(id = (k : Nat)→connectE b id = 0→EarJ k cnew.fd cnew.lx (connectB b id)):=by
  unfold connectB
  by_cases he : connectE b id = 0
  · rw [if_pos he]
    have h0 : 1≤id∧id≤16:=by
      unfold connectE at he
      split at he
      · cases he
      · omega
    have hb : BOk (setc b id.toNat (some cnew)):=h.1.setc _ ⟨Nat.zero_le _,Nat.zero_le _,Nat.zero_le _,Nat.zero_le _⟩
    refine ⟨fun hne=>?_,fun e _=>?_⟩
    · have hk : k≠id.toNat:=by rcases hne with e | e <;> omega
      exact ⟨hb,fun c hc=>h.2 c (by rw [setc_ne _ _ _ hk] at hc; exact hc)⟩
    · have hk : id.toNat = k:=by omega
      refine ⟨hb,fun c hc _=>?_⟩
      rw [hk,setc_cs] at hc
      injection hc with hc
      subst hc
      exact ⟨rfl,rfl⟩
  · rw [if_neg he]
    exact ⟨fun _=>h,fun _ e=>absurd e he⟩
theorem EarJ.write (h : EarJ k F X b) (id n : Int) : EarJ k F X (writeB b id n):=by
  unfold writeB
  by_cases ht : isThere b id = true
  · rw [if_pos ht]
    rcases hc : b.cs id.toNat with _ | c
    · exact h
    · have hkc:=h.1.cn _ c hc
      obtain ⟨q,hq⟩ : ∃ q,takeN n c.out.length = q:=⟨_,rfl⟩
      have hb : BOk (setc b id.toNat (some { c with out:=c.out.drop q })):=h.1.setc _ ⟨hkc.p,hkc.s,hkc.name,hkc.st⟩
      show EarJ k F X (settle (setc b id.toNat (some { c with out:=c.out.drop (takeN n c.out.length) })))
      rw [hq]
      exact (ear_msg k F X).settle ⟨hb,h.set (c':={ c with out:=c.out.drop q }) hc (fun e=>e) rfl rfl⟩
  · rw [if_neg ht]
    exact h
theorem EarJ.output (h : EarJ k F X b) (t : Bs) (hm : b.L.length + t.length≤1099511627776) : EarJ k F X (outputB b t):=by
  refine (ear_msg k F X).output h t fun _=>?_
  obtain ⟨h1,h2⟩:=h
  refine ⟨⟨h1.log,h1.data,h1.queue,h1.input,h1.idle,h1.strikes,h1.fok,h1.rin,by show (b.L ++ t).length≤_; rw [List.length_append]; exact hm,h1.told,h1.code,fun j d hd=>?_⟩,h2⟩
  have:=h1.cn j d hd
  exact ⟨Nat.le_trans this.p (by show b.L.length≤(b.L ++ t).length; rw [List.length_append]; omega),this.s,this.name,this.st⟩
theorem EarJ.cut (h : EarJ k F X b) (id : Int) : EarJ k F X (cutB b id):=by
  refine (ear_msg k F X).cut h id fun x j c hx hc hst _ _ _=>?_
  obtain ⟨h1,h2⟩:=hx
  have hk : ∀ i d,(setc x j none).cs i = some d→x.cs i = some d:=fun i d hd=>by
    by_cases e : i = j
    · subst e; rw [setc_cs] at hd; cases hd
    · rwa [setc_ne _ _ _ e] at hd
  exact ⟨⟨h1.log,h1.data,h1.queue,h1.input,h1.idle,h1.strikes,h1.fok,h1.rin,h1.len,h1.told,h1.code,fun i d hd=>by have:=h1.cn i d (hk i d hd); exact ⟨this.p,this.s,this.name,this.st⟩⟩,fun d hd=>h2 d (hk k d hd)⟩
theorem EarJ.ends (h : EarJ k F X b) (code : Int) : EarJ k F X (endB b code):=by
  refine (ear_msg k F X).ends h code fun n hn _=>?_
  obtain ⟨h1,h2⟩:=h
  exact ⟨⟨h1.log,h1.data,h1.queue,h1.input,h1.idle,h1.strikes,h1.fok,h1.rin,h1.len,h1.told,hn,fun j d hd=>by have:=h1.cn j d hd; exact ⟨this.p,this.s,this.name,this.st⟩⟩,h2⟩
theorem EarJ.tick (h : EarJ k F X b) : EarJ k F X (tickB b):=
  (ear_msg k F X).tick ⟨bok_all.fl b (ftick b.fl) h.1 (.inr (.inr (.inr (.inr (.inr rfl))))),h.2⟩ fun x j c hx hc=>⟨by have hk:=hx.1.cn j c hc; exact hx.1.setc j ⟨hk.p,hk.s,hk.name,hk.st⟩,hx.set (c':={ c with idle:=c.idle + 1 }) hc id rfl rfl⟩
theorem EarJ.drain (h : EarJ k F X b) (n : Int) : EarJ k F X (drainB b n):=by
  obtain ⟨h1,h2⟩:=h
  exact ⟨⟨h1.log,h1.data,h1.queue,h1.input,h1.idle,h1.strikes,h1.fok,h1.rin,h1.len,h1.told,h1.code,fun j d hd=>by have:=h1.cn j d hd; exact ⟨this.p,this.s,this.name,this.st⟩⟩,h2⟩
end
def NoC (k : Nat) (b : Br) : Prop:=BOk b∧b.cs k = none
theorem NoC.ne {k j : Nat} {b : Br} (h : NoC k b) {c : Cn} (hc : b.cs j = some c) : k≠j:=fun e=>by
  subst e
  rw [h.2] at hc
  cases hc
theorem NoC.set {k j : Nat} {b : Br} (h : NoC k b) {c : Cn} (hc : b.cs j = some c) (c' : Option Cn) : (setc b j c').cs k = none:=by
  rw [setc_ne _ _ _ (h.ne hc)]
  exact h.2
theorem noc_core (k : Nat) : KCore (NoC k) where
  gone:=fun b j c h hc h1 h2=>by
    have:=h.set hc (some { c with st:=2 })
    refine ⟨bok_all.gone b j c h.1 hc h1 h2,?_⟩
    unfold gone
    split
    · exact this
    · exact this
  plus:=fun b j c m h hc hst hf=>⟨bok_all.plus b j c m h.1 hc hst hf,h.set hc _⟩
  told:=fun b h=>⟨bok_all.told b h.1,h.2⟩
  served:=fun b j c m p s h hc hst hn=>⟨bok_all.served b j c m p s h.1 hc hst hn,h.set hc _⟩
  reap:=fun b h=>⟨bok_all.reap b h.1,by
    show (if 1≤k∧k≤16∧done b k = true then none else b.cs k) = none
    split
    · rfl
    · exact h.2⟩
theorem noc_msg (k : Nat) : KMsg (NoC k):=(noc_core k).msg fun _ h=>h.1
theorem noc_say (j k : Nat) : KSay j (NoC k) where
  toKMsg:=noc_msg k
  join:=fun b c t p r h hc h1 h2 h0 ht hn hp hr0 hr2=>(noc_core k).send _ ⟨bok_all.join b j c t p r h.1 hc h1 h2 h0 ht hn hp hr0 hr2,h.set hc _⟩ h1 h2
  fl:=fun b s h hs=>⟨bok_all.fl b s h.1 hs,h.2⟩
  typed:=fun b ks h he hi=>⟨bok_all.typed b ks h.1 he hi,h.2⟩
  lx:=fun b c t h hc=>⟨bok_all.lx b j c t h.1 hc,h.set hc _⟩
  idle0:=fun b c h hc=>⟨bok_all.idle0 b j c h.1 hc,h.set hc _⟩
  fd:=fun b c t h hc=>⟨bok_all.fd b j c t h.1 hc,h.set hc _⟩
section
variable {k : Nat} {b : Br}
theorem NoC.connect (h : NoC k b) (id : Int) (hne : id≠(k : Nat)∨connectE b id≠0) : NoC k (connectB b id):=by
  unfold connectB
  by_cases he : connectE b id = 0
  · rw [if_pos he]
    have h0 : 1≤id∧id≤16:=by
      unfold connectE at he
      split at he
      · cases he
      · omega
    have hk : k≠id.toNat:=by rcases hne with e | e <;> omega
    exact ⟨h.1.setc _ ⟨Nat.zero_le _,Nat.zero_le _,Nat.zero_le _,Nat.zero_le _⟩,by rw [setc_ne _ _ _ hk]; exact h.2⟩
  · rw [if_neg he]
    exact h
theorem NoC.write (h : NoC k b) (id n : Int) : NoC k (writeB b id n):=by
  unfold writeB
  by_cases ht : isThere b id = true
  · rw [if_pos ht]
    rcases hc : b.cs id.toNat with _ | c
    · exact h
    · have hkc:=h.1.cn _ c hc
      obtain ⟨q,hq⟩ : ∃ q,takeN n c.out.length = q:=⟨_,rfl⟩
      have hb : BOk (setc b id.toNat (some { c with out:=c.out.drop q })):=h.1.setc _ ⟨hkc.p,hkc.s,hkc.name,hkc.st⟩
      show NoC k (settle (setc b id.toNat (some { c with out:=c.out.drop (takeN n c.out.length) })))
      rw [hq]
      exact (noc_msg k).settle ⟨hb,h.set hc _⟩
  · rw [if_neg ht]
    exact h
theorem NoC.output (h : NoC k b) (t : Bs) (hm : b.L.length + t.length≤1099511627776) : NoC k (outputB b t):=by
  refine (noc_msg k).output h t fun _=>?_
  obtain ⟨h1,h2⟩:=h
  refine ⟨⟨h1.log,h1.data,h1.queue,h1.input,h1.idle,h1.strikes,h1.fok,h1.rin,by show (b.L ++ t).length≤_; rw [List.length_append]; exact hm,h1.told,h1.code,fun j d hd=>?_⟩,h2⟩
  have:=h1.cn j d hd
  exact ⟨Nat.le_trans this.p (by show b.L.length≤(b.L ++ t).length; rw [List.length_append]; omega),this.s,this.name,this.st⟩
theorem NoC.cut (h : NoC k b) (id : Int) : NoC k (cutB b id):=by
  refine (noc_msg k).cut h id fun x j c hx hc hst _ _ _=>?_
  have hs:=hx.set hc none
  obtain ⟨h1,h2⟩:=hx
  have hk : ∀ i d,(setc x j none).cs i = some d→x.cs i = some d:=fun i d hd=>by
    by_cases e : i = j
    · subst e; rw [setc_cs] at hd; cases hd
    · rwa [setc_ne _ _ _ e] at hd
  exact ⟨⟨h1.log,h1.data,h1.queue,h1.input,h1.idle,h1.strikes,h1.fok,h1.rin,h1.len,h1.told,h1.code,fun i d hd=>by have:=h1.cn i d (hk i d hd); exact ⟨this.p,this.s,this.name,this.st⟩⟩,hs⟩
theorem NoC.ends (h : NoC k b) (code : Int) : NoC k (endB b code):=by
  refine (noc_msg k).ends h code fun n hn _=>?_
  obtain ⟨h1,h2⟩:=h
  exact ⟨⟨h1.log,h1.data,h1.queue,h1.input,h1.idle,h1.strikes,h1.fok,h1.rin,h1.len,h1.told,hn,fun j d hd=>by have:=h1.cn j d hd; exact ⟨this.p,this.s,this.name,this.st⟩⟩,h2⟩
theorem NoC.tick (h : NoC k b) : NoC k (tickB b):=
  (noc_msg k).tick ⟨bok_all.fl b (ftick b.fl) h.1 (.inr (.inr (.inr (.inr (.inr rfl))))),h.2⟩ fun x j c hx hc=>⟨by have hk:=hx.1.cn j c hc; exact hx.1.setc j ⟨hk.p,hk.s,hk.name,hk.st⟩,hx.set hc _⟩
theorem NoC.drain (h : NoC k b) (n : Int) : NoC k (drainB b n):=by
  obtain ⟨h1,h2⟩:=h
  exact ⟨⟨h1.log,h1.data,h1.queue,h1.input,h1.idle,h1.strikes,h1.fok,h1.rin,h1.len,h1.told,h1.code,fun j d hd=>by have:=h1.cn j d hd; exact ⟨this.p,this.s,this.name,this.st⟩⟩,h2⟩
end
structure TJ (st : Nat) (b : Br) (hist : Nat→Bs) (P : Nat→Option (Fs×Lx)) : Prop where
  at_ : ∀ i,1≤i→i≤16→TAt i st (hist i) b
  ear : ∀ i p,1≤i→i≤16→P i = some p→EarJ i p.1 p.2 b
  noc : ∀ i,1≤i→i≤16→P i = none→NoC i b
section
variable {st : Nat} {b b' : Br} {hist : Nat→Bs} {P : Nat→Option (Fs×Lx)}
theorem TJ.same (h : TJ st b hist P) (ht : ∀ i hi,TAt i st hi b→TAt i st hi b') (he : ∀ i F X,EarJ i F X b→EarJ i F X b') (hn : ∀ i,NoC i b→NoC i b') : TJ st b' hist P:=
  ⟨fun i h1 h2=>ht i _ (h.at_ i h1 h2),fun i p h1 h2 hp=>he i _ _ (h.ear i p h1 h2 hp),fun i h1 h2 hp=>hn i (h.noc i h1 h2 hp)⟩
theorem TJ.conn (h : TJ st b hist P) (id : Int) (he : connectE b id = 0) : TJ st (connectB b id) (fun i=>if (i : Int) = id then [] else hist i) (fun i=>if (i : Int) = id then some (⟨[],0⟩,lx0) else P i):=by
  refine ⟨fun i h1 h2=>?_,fun i p h1 h2 hp=>?_,fun i h1 h2 hp=>?_⟩
  · by_cases e : (i : Int) = id
    · rw [if_pos e]
      exact ((h.at_ i h1 h2).connect id).2 e.symm he
    · rw [if_neg e]
      exact ((h.at_ i h1 h2).connect id).1 (.inl fun x=>e x.symm)
  · by_cases e : (i : Int) = id
    · rw [if_pos e] at hp
      injection hp with hp
      subst hp
      rcases hq : P i with _ | q
      · have hc:=h.noc i h1 h2 hq
        exact ((show EarJ i ⟨[],0⟩ lx0 b from ⟨hc.1,fun c hcc=>by rw [hc.2] at hcc; cases hcc⟩).connect id).2 e.symm he
      · exact ((h.ear i q h1 h2 hq).connect id).2 e.symm he
    · rw [if_neg e] at hp
      exact ((h.ear i p h1 h2 hp).connect id).1 (.inl fun x=>e x.symm)
  · by_cases e : (i : Int) = id
    · rw [if_pos e] at hp
      cases hp
    · rw [if_neg e] at hp
      exact (h.noc i h1 h2 hp).connect id (.inl fun x=>e x.symm)
theorem TJ.wrote (h : TJ st b hist P) (id n : Int) : TJ st (writeB b id n) (fun i=>if (i : Int) = id then hist i ++ writeT b id n else hist i) P:=by
  refine ⟨fun i h1 h2=>?_,fun i p h1 h2 hp=>(h.ear i p h1 h2 hp).write id n,fun i h1 h2 hp=>(h.noc i h1 h2 hp).write id n⟩
  by_cases e : (i : Int) = id
  · rw [if_pos e]
    exact ((h.at_ i h1 h2).write id n).2 e.symm
  · rw [if_neg e]
    exact ((h.at_ i h1 h2).write id n).1 fun x=>e x.symm
theorem TJ.said (h : TJ st b hist P) (k : Nat) (h0 : bytesE b (k : Nat) = 0) (hk1 : 1≤k) (hk2 : k≤16) (t : Bs) {F : Fs} {X : Lx} (hP : P k = some (F,X)) (ht : ∀ s∈earLines X (fgot F t),Tame s) :
    TJ st (bytesB b (k : Nat) t) hist (fun i=>if i = k then some (fpush F t,earLx X (fgot F t)) else P i):=by
  have hE:=h.ear k _ hk1 hk2 hP
  refine ⟨fun i h1 h2=>?_,fun i p h1 h2 hp=>?_,fun i h1 h2 hp=>?_⟩
  · exact ((t_say k i st (hist i)).bytes (h.at_ i h1 h2) hk1 hk2 hE h0 t ht).1
  · by_cases e : i = k
    · rw [if_pos e] at hp
      injection hp with hp
      subst hp
      subst e
      exact ((t_say i i st (hist i)).bytes (h.at_ i h1 h2) hk1 hk2 hE h0 t ht).2
    · rw [if_neg e] at hp
      exact ((ear_say e p.1 p.2).bytes (h.ear i p h1 h2 hp) hk1 hk2 hE h0 t ht).1
  · by_cases e : i = k
    · rw [if_pos e] at hp
      cases hp
    · rw [if_neg e] at hp
      exact ((noc_say k i).bytes (h.noc i h1 h2 hp) hk1 hk2 hE h0 t ht).1
theorem TJ.begin (c : Cf) (h : BOk (bnew c)) : TJ c.strikes (bnew c) (fun _=>[]) (fun _=>none):=
  ⟨fun _ _ _=>TAt.begin c h,fun _ _ _ _ hp=>(by cases hp),fun _ _ _ _=>⟨h,rfl⟩⟩
theorem TJ.output (h : TJ st b hist P) (t : Bs) (hm : b.L.length + t.length≤1099511627776) : TJ st (outputB b t) hist P:=h.same (fun _ _ x=>x.output t hm) (fun _ _ _ x=>x.output t hm) (fun _ x=>x.output t hm)
theorem TJ.cut (h : TJ st b hist P) (id : Int) : TJ st (cutB b id) hist P:=h.same (fun _ _ x=>x.cut id) (fun _ _ _ x=>x.cut id) (fun _ x=>x.cut id)
theorem TJ.ends (h : TJ st b hist P) (code : Int) : TJ st (endB b code) hist P:=h.same (fun _ _ x=>x.ends code) (fun _ _ _ x=>x.ends code) (fun _ x=>x.ends code)
theorem TJ.tick (h : TJ st b hist P) : TJ st (tickB b) hist P:=h.same (fun _ _ x=>x.tick) (fun _ _ _ x=>x.tick) (fun _ x=>x.tick)
theorem TJ.drain (h : TJ st b hist P) (n : Int) : TJ st (drainB b n) hist P:=h.same (fun _ _ x=>x.drain n) (fun _ _ _ x=>x.drain n) (fun _ x=>x.drain n)
end
def LIs (L : Bs) (b : Br) : Prop:=BOk b∧b.L = L
theorem lis_core (L : Bs) : KCore (LIs L) where
  gone:=fun b j c h hc h1 h2=>⟨bok_all.gone b j c h.1 hc h1 h2,(gone_L b j c).1.trans h.2⟩
  plus:=fun b j c m h hc hst hf=>⟨bok_all.plus b j c m h.1 hc hst hf,h.2⟩
  told:=fun b h=>⟨bok_all.told b h.1,h.2⟩
  served:=fun b j c m p s h hc hst hn=>⟨bok_all.served b j c m p s h.1 hc hst hn,h.2⟩
  reap:=fun b h=>⟨bok_all.reap b h.1,h.2⟩
theorem lis_msg (L : Bs) : KMsg (LIs L):=(lis_core L).msg fun _ h=>h.1
theorem lis_say (j : Nat) (L : Bs) : KSay j (LIs L) where
  toKMsg:=lis_msg L
  join:=fun b c t p r h hc h1 h2 h0 ht hn hp hr0 hr2=>(lis_core L).send _ ⟨bok_all.join b j c t p r h.1 hc h1 h2 h0 ht hn hp hr0 hr2,h.2⟩ h1 h2
  fl:=fun b s h hs=>⟨bok_all.fl b s h.1 hs,h.2⟩
  typed:=fun b ks h he hi=>⟨bok_all.typed b ks h.1 he hi,h.2⟩
  lx:=fun b c t h hc=>⟨bok_all.lx b j c t h.1 hc,h.2⟩
  idle0:=fun b c h hc=>⟨bok_all.idle0 b j c h.1 hc,h.2⟩
  fd:=fun b c t h hc=>⟨bok_all.fd b j c t h.1 hc,h.2⟩
section
variable {L : Bs} {b : Br}
theorem LIs.connect (h : LIs L b) (id : Int) : LIs L (connectB b id):=by
  unfold connectB
  by_cases he : connectE b id = 0
  · rw [if_pos he]
    exact ⟨h.1.setc _ ⟨Nat.zero_le _,Nat.zero_le _,Nat.zero_le _,Nat.zero_le _⟩,h.2⟩
  · rw [if_neg he]
    exact h
theorem LIs.write (h : LIs L b) (id n : Int) : LIs L (writeB b id n):=by
  unfold writeB
  by_cases ht : isThere b id = true
  · rw [if_pos ht]
    rcases hc : b.cs id.toNat with _ | c
    · exact h
    · have hkc:=h.1.cn _ c hc
      obtain ⟨q,hq⟩ : ∃ q,takeN n c.out.length = q:=⟨_,rfl⟩
      have hb : BOk (setc b id.toNat (some { c with out:=c.out.drop q })):=h.1.setc _ ⟨hkc.p,hkc.s,hkc.name,hkc.st⟩
      show LIs L (settle (setc b id.toNat (some { c with out:=c.out.drop (takeN n c.out.length) })))
      rw [hq]
      exact (lis_msg L).settle ⟨hb,h.2⟩
  · rw [if_neg ht]
    exact h
theorem LIs.cut (h : LIs L b) (id : Int) : LIs L (cutB b id):=by
  refine (lis_msg L).cut h id fun x j c hx hc hst _ _ _=>?_
  obtain ⟨h1,h2⟩:=hx
  have hk : ∀ i d,(setc x j none).cs i = some d→x.cs i = some d:=fun i d hd=>by
    by_cases e : i = j
    · subst e; rw [setc_cs] at hd; cases hd
    · rwa [setc_ne _ _ _ e] at hd
  exact ⟨⟨h1.log,h1.data,h1.queue,h1.input,h1.idle,h1.strikes,h1.fok,h1.rin,h1.len,h1.told,h1.code,fun i d hd=>by have:=h1.cn i d (hk i d hd); exact ⟨this.p,this.s,this.name,this.st⟩⟩,h2⟩
theorem LIs.ends (h : LIs L b) (code : Int) : LIs L (endB b code):=by
  refine (lis_msg L).ends h code fun n hn _=>?_
  obtain ⟨h1,h2⟩:=h
  exact ⟨⟨h1.log,h1.data,h1.queue,h1.input,h1.idle,h1.strikes,h1.fok,h1.rin,h1.len,h1.told,hn,fun j d hd=>by have:=h1.cn j d hd; exact ⟨this.p,this.s,this.name,this.st⟩⟩,h2⟩
theorem LIs.tick (h : LIs L b) : LIs L (tickB b):=
  (lis_msg L).tick ⟨bok_all.fl b (ftick b.fl) h.1 (.inr (.inr (.inr (.inr (.inr rfl))))),h.2⟩ fun x j c hx hc=>⟨by have hk:=hx.1.cn j c hc; exact hx.1.setc j ⟨hk.p,hk.s,hk.name,hk.st⟩,hx.2⟩
theorem LIs.drain (h : LIs L b) (n : Int) : LIs L (drainB b n):=by
  obtain ⟨h1,h2⟩:=h
  exact ⟨⟨h1.log,h1.data,h1.queue,h1.input,h1.idle,h1.strikes,h1.fok,h1.rin,h1.len,h1.told,h1.code,fun j d hd=>by have:=h1.cn j d hd; exact ⟨this.p,this.s,this.name,this.st⟩⟩,h2⟩
end
end Go.Proofs.YthkbgopimgnbgaaGreatDoor.Bk
end
