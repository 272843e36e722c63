/- The broker's mathematics: users are those who are open; what waits fits. No program is named here. -/
import Derived.Test.YtjmdddhbdofppaaGreatDoorZi06
namespace Go.Proofs.YtjmdddhbdofppaaGreatDoor.Bk
open Fr Lx
structure KEv (P : Br→Prop) : Prop extends KAll P where
  cut0 : ∀ b k c,P b→b.cs k = some c→c.st = 2→P (setc b k none)
  new : ∀ b k,P b→1≤k→k≤16→b.cs k = none→P (setc b k (some cnew))
  idle1 : ∀ b k c,P b→b.cs k = some c→P (setc b k (some { c with idle:=c.idle + 1 }))
  wrote : ∀ b k c n,P b→b.cs k = some c→P (setc b k (some { c with out:=c.out.drop n }))
  out : ∀ b t,P b→b.ended = false→P { b with L:=b.L ++ t,sp:=Sp.nxts b.sp t }
  ended : ∀ b n,P b→n≤255→b.ended = false→P { b with ended:=true,code:=n,inp:=[] }
  drained : ∀ b n,P b→P { b with inp:=b.inp.drop n }
section
variable {P : Br→Prop} (K : KEv P) {b : Br}
include K
theorem KEv.connectB (h : P b) (id : Int) : P (connectB b id):=keep_connect h id fun k h1 h2 hn=>K.new b k h h1 h2 hn
theorem KEv.bytesB (h : P b) (id : Int) (t : Bs) : P (bytesB b id t):=K.toKAll.bytes h id t
theorem KEv.writeB (h : P b) (id n : Int) : P (writeB b id n):=K.toKCore.write h id n fun k c _ _ _ hc=>K.wrote b k c _ h hc
theorem KEv.cutB (h : P b) (id : Int) : P (cutB b id):=K.toKCore.cut h id K.cut0
theorem KEv.outputB (h : P b) (t : Bs) : P (outputB b t):=K.toKCore.output h t (K.out b t h)
theorem KEv.drainB (h : P b) (n : Int) : P (drainB b n):=K.drained b _ h
theorem KEv.tickB (h : P b) : P (tickB b):=K.toKCore.tick (K.fl b _ h (.inr (.inr (.inr (.inr (.inr rfl)))))) K.idle1
end
theorem fstep_roles {s s' : Fl} (h : FlStep s s') (hr : Rising s.roles) : Rising s'.roles∧∀ j,rhas s'.roles j = rhas s.roles j:=by
  have hout : ∀ id,(fout s id).roles = s.roles:=fun id=>by unfold fout; split <;> rfl
  rcases h with ⟨id,rfl⟩ | ⟨id,rfl⟩ | ⟨id,rfl⟩ | rfl | ⟨id,r,rfl⟩ | rfl
  · have e : (fask s id).roles = s.roles:=by unfold fask; split <;> rfl
    rw [e]; exact ⟨hr,fun _=>rfl⟩
  · have e : (fdrop s id).roles = s.roles:=by unfold fdrop; split; exact hout id; rfl
    rw [e]; exact ⟨hr,fun _=>rfl⟩
  · have e : (fgive s id).roles = s.roles:=by unfold fgive; split <;> rfl
    rw [e]; exact ⟨hr,fun _=>rfl⟩
  · have e : (frev s).roles = s.roles:=by unfold frev; split <;> rfl
    rw [e]; exact ⟨hr,fun _=>rfl⟩
  · by_cases hs : sets s id r = true
    · have hi : rhas s.roles id = true:=by unfold sets at hs; simp at hs; exact hs.1
      have e : (fset s id r).roles = rput s.roles id r:=by
        unfold fset
        rw [if_pos hs]
        have h2 : ∀ t : Fl,(fout t id).roles = t.roles:=fun t=>by unfold fout; split <;> rfl
        split
        · rw [h2]; rfl
        · rfl
      rw [e]
      refine ⟨hr.put _ _,fun j=>?_⟩
      rw [rhas_put hr]
      by_cases ej : j = id
      · subst ej; simp [hi]
      · simp [ej]
    · have e : fset s id r = s:=by unfold fset; rw [if_neg hs]
      rw [e]; exact ⟨hr,fun _=>rfl⟩
  · have e : (ftick s).roles = s.roles:=by unfold ftick; (repeat' split) <;> rfl
    rw [e]; exact ⟨hr,fun _=>rfl⟩
structure R3 (b : Br) : Prop where
  rising : Rising b.fl.roles
  ro : ∀ k : Nat,rhas b.fl.roles k = true→opn b k = true
  out : ∀ k c,b.cs k = some c→c.out.length≤b.cf.queue
theorem R3.same {b : Br} (h : R3 b) {k : Nat} {c c' : Cn} (hc : b.cs k = some c) (hs : c'.st = c.st) (ho : c'.out.length≤b.cf.queue) : R3 (setc b k (some c')):=by
  refine ⟨h.rising,fun j hj=>?_,fun j d hd=>?_⟩
  · have:=h.ro j hj
    rw [opn_setc]
    by_cases e : j = k
    · rw [if_pos e]
      subst e
      unfold opn at this
      rw [hc] at this
      show decide (c'.st = 1) = true
      rw [hs]
      exact this
    · rw [if_neg e]; exact this
  · by_cases e : j = k
    · subst e
      rw [setc_cs] at hd
      injection hd with hd
      subst hd
      exact ho
    · rw [setc_ne b k _ e] at hd
      exact h.out j d hd
theorem r3_all : KEv R3 where
  gone:=fun b k c h hc _ _=>by
    unfold gone
    by_cases hst : c.st = 1
    · rw [if_pos hst]
      have hrl : (fleave b.fl k).roles = rdel b.fl.roles k:=by
        unfold fleave
        split
        · rfl
        · next hn=>exact (rdel_none (by unfold rhas at hn; simpa using hn)).symm
      refine ⟨?_,fun j hj=>?_,fun j d hd=>?_⟩
      · show Rising (fleave b.fl k).roles
        rw [hrl]; exact h.rising.del _
      · replace hj : rhas (fleave b.fl k).roles j = true:=hj
        rw [hrl] at hj
        unfold rhas at hj
        rw [rget_del h.rising] at hj
        split at hj
        · cases hj
        · next e =>
          have:=h.ro j hj
          show opn (setc b k (some { c with st:=2 })) j = true
          rw [opn_setc,if_neg (fun e2=>e (by rw [e2]))]
          exact this
      · replace hd : (setc b k (some { c with st:=2 })).cs j = some d:=hd
        show d.out.length≤b.cf.queue
        by_cases e : j = k
        · subst e
          rw [setc_cs] at hd
          injection hd with hd
          subst hd
          exact h.out j c hc
        · rw [setc_ne b k _ e] at hd
          exact h.out j d hd
    · rw [if_neg hst]
      refine ⟨h.rising,fun j hj=>?_,fun j d hd=>?_⟩
      · have:=h.ro j hj
        rw [opn_setc]
        by_cases e : j = k
        · subst e
          unfold opn at this
          rw [hc] at this
          simp at this
          exact absurd this hst
        · rw [if_neg e]; exact this
      · by_cases e : j = k
        · subst e
          rw [setc_cs] at hd
          injection hd with hd
          subst hd
          exact h.out j c hc
        · rw [setc_ne b k _ e] at hd
          exact h.out j d hd
  plus:=fun b k c m h hc _ hf=>h.same hc rfl (by show (c.out ++ enc m).length≤_; rw [List.length_append]; exact hf)
  told:=fun b h=>⟨h.rising,h.ro,h.out⟩
  served:=fun b k c m p s h hc _ _=>h.same hc (putc_same b.cf.queue { c with p:=p,s:=s } (enc m)).1 (by
    have:=h.out k c hc
    unfold putc
    split
    · next hq=>show (c.out ++ enc m).length≤_; rw [List.length_append]; exact hq
    · exact this)
  reap:=fun b h=>by
    have hcs : ∀ k c,(reap b).cs k = some c→b.cs k = some c:=fun k c hc=>by
      replace hc : (if 1≤k∧k≤16∧done b k = true then none else b.cs k) = some c:=hc
      split at hc
      · cases hc
      · exact hc
    refine ⟨h.rising,fun k hk=>?_,fun k c hc=>h.out k c (hcs k c hc)⟩
    have:=h.ro k hk
    obtain ⟨c,hc,hst⟩:=opn_cs this
    have hd : done b k = false:=by unfold done; rw [hc]; simp; omega
    unfold opn
    show (match (if 1≤k∧k≤16∧done b k = true then none else b.cs k) with | some c=>decide (c.st = 1) | none=>false) = true
    rw [if_neg (by rw [hd]; simp),hc]
    simpa using hst
  lx:=fun b k c t h hc=>h.same hc rfl (h.out k c hc)
  join:=fun b k c t p r h hc _ _ _ _ _ _ _ _=>by
    refine ⟨?_,fun j hj=>?_,fun j d hd=>?_⟩
    · show Rising (fjoin b.fl k r).roles
      unfold fjoin
      split
      · exact h.rising.put _ _
      · exact h.rising
    · replace hj : rhas (fjoin b.fl k r).roles j = true:=hj
      show opn (setc b k (some (opened c t p))) j = true
      rw [opn_setc]
      by_cases e : j = k
      · rw [if_pos e]; rfl
      · rw [if_neg e]
        refine h.ro j ?_
        unfold fjoin at hj
        split at hj
        · replace hj : rhas (rput b.fl.roles k r) j = true:=hj
          rw [rhas_put h.rising] at hj
          simp only [Bool.or_eq_true,decide_eq_true_eq] at hj
          rcases hj with hj | hj
          · omega
          · exact hj
        · exact hj
    · replace hd : (setc b k (some (opened c t p))).cs j = some d:=hd
      show d.out.length≤b.cf.queue
      by_cases e : j = k
      · subst e
        rw [setc_cs] at hd
        injection hd with hd
        subst hd
        exact h.out j c hc
      · rw [setc_ne b k _ e] at hd
        exact h.out j d hd
  fl:=fun b s h hs=>by
    obtain ⟨h1,h2⟩:=fstep_roles hs h.rising
    exact ⟨h1,fun k hk=>h.ro k (by rw [← h2]; exact hk),h.out⟩
  again:=fun b k c p h hc _=>h.same hc rfl (h.out k c hc)
  strikes:=fun b n h _=>⟨h.rising,h.ro,h.out⟩
  typed:=fun b ks h _ _=>⟨h.rising,h.ro,h.out⟩
  idle0:=fun b k c h hc=>h.same hc rfl (h.out k c hc)
  fd:=fun b k c t h hc=>h.same hc rfl (h.out k c hc)
  cut0:=fun b k c h hc hst=>by
    refine ⟨h.rising,fun j hj=>?_,fun j d hd=>?_⟩
    · have:=h.ro j hj
      rw [opn_setc]
      by_cases e : j = k
      · subst e
        unfold opn at this
        rw [hc] at this
        simp at this
        omega
      · rw [if_neg e]; exact this
    · by_cases e : j = k
      · subst e; rw [setc_cs] at hd; cases hd
      · rw [setc_ne b k _ e] at hd
        exact h.out j d hd
  new:=fun b k h _ _ hn=>by
    refine ⟨h.rising,fun j hj=>?_,fun j d hd=>?_⟩
    · have:=h.ro j hj
      rw [opn_setc]
      by_cases e : j = k
      · subst e
        unfold opn at this
        rw [hn] at this
        cases this
      · rw [if_neg e]; exact this
    · by_cases e : j = k
      · subst e
        rw [setc_cs] at hd
        injection hd with hd
        subst hd
        exact Nat.zero_le _
      · rw [setc_ne b k _ e] at hd
        exact h.out j d hd
  idle1:=fun b k c h hc=>h.same hc rfl (h.out k c hc)
  wrote:=fun b k c n h hc=>h.same hc rfl (by show (c.out.drop n).length≤_; rw [List.length_drop]; have:=h.out k c hc; omega)
  out:=fun b t h _=>⟨h.rising,h.ro,h.out⟩
  ended:=fun b n h _ _=>⟨h.rising,h.ro,h.out⟩
  drained:=fun b n h=>⟨h.rising,h.ro,h.out⟩
end Go.Proofs.YtjmdddhbdofppaaGreatDoor.Bk
