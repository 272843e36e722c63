/- PTv PQb -/
import Derived.Test.YtalichkdeekdcaaGreatDoorZd06
section
namespace Go.Proofs.YtalichkdeekdcaaGreatDoor.Bk
open Fr Lx
def uM (w:Bool) (back:Int):M:=⟨1,if w then 5 else 4,back,[117#8]⟩
theorem uM_ok (w:Bool) {back:Int} (h0:0≤back) (h1:back≤1099511627776):(uM w back).ok=true:=by
 unfold M.ok uM
 rw [Ms.rt_iff]
 have:Ms.okN back true=true:=by unfold Ms.okN; simp; omega
 cases w
 ·exact ⟨rfl,rfl,this,show 1≤20 by decide⟩
 ·exact ⟨rfl,rfl,this,show 1≤20 by decide⟩
noncomputable def av1:Br:=bytesB (connectB (bnew cfd) 1) 1 (enc (uM true 0))
noncomputable def av2 (w:Bool):Br:=bytesB (connectB av1 2) 2 (enc (uM w 0))
theorem av_first:CW av1 107∧av1.fl=⟨100,0,[(1,2)],[]⟩∧av1.told=0∧Sm av1 (bnew cfd)∧(∀ j,(av1.cs j).isSome=(decide (j=1) || false))∧connectE (bnew cfd) 1=0∧bytesE (connectB (bnew cfd) 1) 1=0:=by
 have h0:=roles_begin
 obtain ⟨e1,e2,e3,e4,e5,e6,e7⟩:=h0.cw.come (k:=1) (m:=uM true 0) (by decide) (by decide) rfl (uM_ok true (by decide) (by decide)) rfl (by decide) (show isName [117#8]=true by decide) (Nat.le_zero.1 (viewAt_le _ _ _ _)) (by decide)
 exact ⟨e3,e4,e5,e6,fun j=>(e7 j).trans rfl,e1,e2⟩
theorem av_second (w:Bool):CW (av2 w) 214∧(av2 w).fl=⟨100,0,[(1,2),(2,if w then 1 else 0)],[]⟩∧(av2 w).told=0∧Sm (av2 w) (bnew cfd)∧(∀ j,((av2 w).cs j).isSome=(decide (j=2) || (decide (j=1) || false)))∧connectE av1 2=0∧bytesE (connectB av1 2) 2=0 ∧
  ∃ c,(av2 w).cs 2=some c∧c.out=enc (welcome 2 0 (if w then 1 else 0)) ++ enc (mfloor 0):=by
 obtain ⟨a1,a2,a3,a4,a5,_,_⟩:=av_first
 have hL:av1.L=[]:=a4.L
 have hno:av1.cs 2=none:=by
  rcases e:av1.cs 2 with _ | c
  ·rfl
  ·have:=a5 2; rw [e] at this; cases this
 have hat:comeAt av1 (uM w 0)=0:=by
  have:comeAt av1 (uM w 0)≤av1.L.length:=viewAt_le _ _ _ _
  rw [hL] at this
  exact Nat.le_zero.1 this
 have hro:comeRole av1 (uM w 0)=if w then 1 else 0:=by
  unfold comeRole
  rw [a2]
  cases w <;> rfl
 have hf:fjoin av1.fl ((2:Nat):Int) (comeRole av1 (uM w 0))=⟨100,0,[(1,2),(2,if w then 1 else 0)],[]⟩:=by
  rw [hro,a2]
  cases w <;> rfl
 have ho:=uM_ok w (back:=0) (by decide) (by decide)
 have hk4:(uM w 0).a / 4=1:=by cases w <;> decide
 have hnm:isName (uM w 0).t=true:=show isName [117#8]=true by decide
 have hq:107+60+47≤av1.cf.queue:=by rw [a4.cf]; decide
 obtain ⟨e1,e2,e3,e4,e5,e6,e7⟩:=a1.come (k:=2) (by decide) (by decide) hno ho rfl hk4 hnm (by rw [hat,hL]; rfl) hq
 have hX:=a1.comeX (k:=2) (by decide) (by decide) hno ho rfl hk4 hnm (by rw [hat,hL]; rfl) hq (by rw [hf,a3]; rfl)
 rw [hf] at e4 e5
 refine ⟨e3,e4,e5,e6.trans a4,fun j=>(e7 j).trans (by rw [a5 j]),e1,e2,Bk.come (setc av1 2 (some cnew)) 2 cnew (uM w 0),?_,?_⟩
 ·show (bytesB (connectB av1 ((2:Nat):Int)) ((2:Nat):Int) (enc (uM w 0))).cs 2=_
  rw [hX]
  show (setc (Bk.mapc av1 (hear (joined 2 (uM w 0).t))) 2 (some (Bk.come (setc av1 2 (some cnew)) 2 cnew (uM w 0)))).cs 2=_
  exact setc_cs _ _ _
 ·rw [(come_is (setc av1 2 (some cnew)) 2 cnew (uM w 0)).1]
  show [] ++ greet (setc av1 2 (some cnew)) 2 (comeAt av1 (uM w 0)) (comeRole av1 (uM w 0))=_
  rw [hat,hro]
  unfold greet
  have hend:(setc av1 2 (some cnew)).ended=false:=a4.ended
  have hto:(setc av1 2 (some cnew)).told=0:=a3
  rw [hend,hto]
  simp
noncomputable def av3:Br:=bytesB (av2 false) 1 (enc (keys 1 (esc wFloor)))
noncomputable def av4:Br:=outputB av3 [36#8,32#8]
noncomputable def av5:Br:=bytesB av4 1 (enc (keys 9 [108#8,115#8,10#8]))
noncomputable def av6:Br:=bytesB av5 2 (enc (keys 3 [120#8]))
def avOut:List M:=[welcome 2 0 0,mfloor 0,mfloor 1,dataM 0 [36#8,32#8],rejectM 3 3]
theorem av_is:bytesE (av2 false) 1=0∧outputE av3=0∧bytesE av4 1=0∧bytesE av5 2=0∧writeE av6 2=0∧writeT av6 2 65536=encs avOut∧drainT (writeB av6 2 65536) 99=[108#8,115#8,10#8]:=by
 obtain ⟨a1,a2,a3,a4,a5,_,_,c2,hc2,ho2⟩:=av_second false
 obtain ⟨c1,hc1⟩:=Option.isSome_iff_exists.1 (show ((av2 false).cs 1).isSome=true by rw [a5]; rfl)
 have ha:askE (av2 false).fl ((1:Nat):Int)=0:=by rw [a2]; decide
 have hd:=fun (b':Br) (hb:b'.fl=(av2 false).fl)=>fask_floor ha b' hb
 have hq2:214+22≤(av2 false).cf.queue:=by rw [a4.cf]; decide
 obtain ⟨b1,b2,b3,b4,b5,b6⟩:=a1.cmd hc1 (seq:=1) (s:=wFloor) (by decide) (by decide) (by decide) (by decide) hd hq2
 have hX:=(a1.cmdX hc1 (seq:=1) (s:=wFloor) (by decide) (by decide) (by decide) (by decide) hd hq2).2
 have hf:fask (av2 false).fl ((1:Nat):Int)=flD true:=by rw [a2]; rfl
 rw [hf] at b3 b4 hX
 replace hX:av3=_:=hX (by rw [a3]; decide)
 have b2:CW av3 236:=b2
 have b3:av3.fl=flD true:=b3
 have b4:av3.told=1:=b4.trans rfl
 have b5:Sm av3 (bnew cfd):=Sm.trans b5 a4
 have s2:=a1.cn 2 c2 hc2
 have hc3:av3.cs 2=some (plus (mfloor 1) c2):=by
  rw [hX]
  show ((setc (av2 false) 1 (some { c1 with idle:=0 })).cs 2).map (hear (mfloor (fhold (flD true))))=_
  rw [setc_ne _ 1 _ (by decide),hc2]
  show some (hear (mfloor 1) c2)=_
  unfold hear
  rw [if_pos s2.1]
 have hL3:av3.L=[]:=b5.L
 obtain ⟨d1,d2,d3⟩:=b2.outX (t:=[36#8,32#8]) (by rw [b3,b4]; rfl) (b5.ended) (by rw [b5.cf]; decide) (by rw [b5.cf]; decide) (by decide) (by rw [b5.cf]; decide)
 replace d1:av4=_:=d1
 rw [← d1] at d3
 have f4:av4.fl=flD true:=by rw [d1]; exact b3
 have t4:av4.told=1:=by rw [d1]; exact b4
 have q4:av4.cf=cfd:=by rw [d1]; exact b5.cf
 have i4:av4.inp=[]:=by rw [d1]; exact b5.inp
 have n4:av4.ended=false:=by rw [d1]; exact b5.ended
 have hc4:∃ c,av4.cs 2=some c∧c.out=c2.out ++ enc (mfloor 1) ++ enc (dataM 0 [36#8,32#8]):=by
  refine ⟨_,by rw [d1]; show (av3.cs 2).map (sv (av3.L ++ [36#8,32#8]))=_; rw [hc3]; rfl,?_⟩
  have hp:(plus (mfloor 1) c2).p=0:=by show c2.p=0; rw [s2.2.2.2.1,a4.L]; rfl
  unfold sv
  rw [hL3,hp,if_neg (by decide)]
  rfl
 obtain ⟨c4,hc4,ho4⟩:=hc4
 obtain ⟨k1,hk1⟩:=Option.isSome_iff_exists.1 (show (av4.cs 1).isSome=true by
  rw [d1]
  show ((av3.cs 1).map _).isSome=true
  rw [Option.isSome_map,show (av3.cs 1).isSome=_ from b6 1,a5]; rfl)
 obtain ⟨g1,g2,g3⟩:=d3.typed (by rw [f4,t4]; rfl) hk1 (seq:=9) (t:=[108#8,115#8,10#8]) (by decide) (by decide) (by decide) (by decide) (by decide) (by
  unfold whyB
  rw [n4,f4,i4,q4]
  decide)
 replace g1:av5=_:=g1
 rw [← g1] at g3
 have f5:av5.fl=flD true:=by rw [g1]; exact f4
 have t5:av5.told=1:=by rw [g1]; exact t4
 have q5:av5.cf=cfd:=by rw [g1]; exact q4
 have n5:av5.ended=false:=by rw [g1]; exact n4
 have i5:av5.inp=[108#8,115#8,10#8]:=by rw [g1]; show av4.inp ++ _=_; rw [i4]; rfl
 have hc5:av5.cs 2=some c4:=by
  rw [g1]
  show (setc av4 1 (some { k1 with idle:=0 })).cs 2=_
  rw [setc_ne _ 1 _ (by decide),hc4]
 have hw:whyB av5 ((2:Nat)) [120#8].length=3:=by
  unfold whyB
  rw [n5,f5]
  decide
 obtain ⟨h1,h2,h3⟩:=g3.rejected (by rw [f5,t5]; rfl) hc5 (seq:=3) (t:=[120#8]) (by decide) (by decide) (by decide) (by decide) (by decide) (by rw [hw]; decide) (by rw [q5]; decide)
 rw [hw] at h1 h3
 replace h1:av6=_:=h1
 rw [← h1] at h3
 have hc6:av6.cs 2=some (plus (rejectM 3 3) { c4 with idle:=0 }):=by rw [h1]; exact setc_cs _ _ _
 have f6:av6.fl=flD true:=by rw [h1]; exact f5
 have t6:av6.told=1:=by rw [h1]; exact t5
 have i6:av6.inp=[108#8,115#8,10#8]:=by rw [h1]; exact i5
 have hlen:(plus (rejectM 3 3) { c4 with idle:=0 }).out.length≤236+2+11+17:=(h3.cn 2 _ hc6).2.2.2.2
 obtain ⟨j1,j2,j3,j4⟩:=h3.flush (by rw [f6,t6]; rfl) hc6 (w:=65536) (by omega)
 refine ⟨b1,d2,g2,h2,j2,?_,?_⟩
 ·refine j1.trans ?_
  show c4.out ++ enc (rejectM 3 3)=_
  rw [ho4,ho2]
  unfold encs avOut
  simp
 ·have:(writeB av6 2 65536).inp=[108#8,115#8,10#8]:=by
   have h:writeB av6 2 65536=setc av6 2 _:=j3
   rw [h]
   exact i6
  unfold drainT
  rw [this]
  decide
end Go.Proofs.YtalichkdeekdcaaGreatDoor.Bk
end
section
namespace Go.Proofs.YtalichkdeekdcaaGreatDoor.Bk
open Fr Lx
structure KEv (P:Br→Prop):Prop extends KAll P where
 cut0:∀ b k c,P b→b.cs k=some c→c.st=2→P (setc b k none)
 new:∀ b k,P b→1≤k→k≤16→b.cs k=none→P (setc b k (some cnew))
 idle1:∀ b k c,P b→b.cs k=some c→P (setc b k (some { c with idle:=c.idle+1 }))
 wrote:∀ b k c n,P b→b.cs k=some c→P (setc b k (some { c with out:=c.out.drop n }))
 out:∀ b t,P b→b.ended=false→P { b with L:=b.L ++ t,sp:=Sp.nxts b.sp t }
 ended:∀ b n,P b→n≤255→b.ended=false→P { b with ended:=true,code:=n,inp:=[] }
 drained:∀ b n,P b→P { b with inp:=b.inp.drop n }
section
variable {P:Br→Prop} (K:KEv P) {b:Br}
include K
theorem KEv.connectB (h:P b) (id:Int):P (connectB b id):=keep_connect h id fun k h1 h2 hn=>K.new b k h h1 h2 hn
theorem KEv.bytesB (h:P b) (id:Int) (t:Bs):P (bytesB b id t):=K.toKAll.bytes h id t
theorem KEv.writeB (h:P b) (id n:Int):P (writeB b id n):=K.toKCore.write h id n fun k c _ _ _ hc=>K.wrote b k c _ h hc
theorem KEv.cutB (h:P b) (id:Int):P (cutB b id):=K.toKCore.cut h id K.cut0
theorem KEv.outputB (h:P b) (t:Bs):P (outputB b t):=K.toKCore.output h t (K.out b t h)
theorem KEv.drainB (h:P b) (n:Int):P (drainB b n):=K.drained b _ h
theorem KEv.endB (h:P b) (code:Int):P (endB b code):=K.toKCore.ends h code fun n hn he=>K.ended b n h hn he
theorem KEv.tickB (h:P b):P (tickB b):=K.toKCore.tick (K.fl b _ h (.inr (.inr (.inr (.inr (.inr rfl)))))) K.idle1
end
theorem fstep_roles {s s':Fl} (h:FlStep s s') (hr:Rising s.roles):Rising s'.roles∧∀ j,rhas s'.roles j=rhas s.roles j:=by
  have hout:∀ id,(fout s id).roles=s.roles:=fun id=>by unfold fout; split <;> rfl
  rcases h with ⟨id,rfl⟩ | ⟨id,rfl⟩ | ⟨id,rfl⟩ | rfl | ⟨id,r,rfl⟩ | rfl
  · have e:(fask s id).roles=s.roles:=by unfold fask; split <;> rfl
    rw [e]; exact ⟨hr,fun _=>rfl⟩
  · have e:(fdrop s id).roles=s.roles:=by unfold fdrop; split; exact hout id; rfl
    rw [e]; exact ⟨hr,fun _=>rfl⟩
  · have e:(fgive s id).roles=s.roles:=by unfold fgive; split <;> rfl
    rw [e]; exact ⟨hr,fun _=>rfl⟩
  · have e:(frev s).roles=s.roles:=by unfold frev; split <;> rfl
    rw [e]; exact ⟨hr,fun _=>rfl⟩
  · by_cases hs:sets s id r=true
    · have hi:rhas s.roles id=true:=by unfold sets at hs; simp at hs; exact hs.1
      have e:(fset s id r).roles=rput s.roles id r:=by
        unfold fset
        rw [if_pos hs]
        have h2:∀ t:Fl,(fout t id).roles=t.roles:=fun t=>by unfold fout; split <;> rfl
        split
        · rw [h2]; rfl
        · rfl
      rw [e]
      refine ⟨hr.put _ _,fun j=>?_⟩
      rw [rhas_put hr]
      by_cases ej:j=id
      · subst ej; simp [hi]
      · simp [ej]
    · have e:fset s id r=s:=by unfold fset; rw [if_neg hs]
      rw [e]; exact ⟨hr,fun _=>rfl⟩
  · have e:(ftick s).roles=s.roles:=by unfold ftick; (repeat' split) <;> rfl
    rw [e]; exact ⟨hr,fun _=>rfl⟩
structure R3 (b:Br):Prop where
 rising:Rising b.fl.roles
 ro:∀ k:Nat,rhas b.fl.roles k=true→opn b k=true
 out:∀ k c,b.cs k=some c→c.out.length≤b.cf.queue
theorem R3.same {b:Br} (h:R3 b) {k:Nat} {c c':Cn} (hc:b.cs k=some c) (hs:c'.st=c.st) (ho:c'.out.length≤b.cf.queue):R3 (setc b k (some c')):=by
  refine ⟨h.rising,fun j hj=>?_,fun j d hd=>?_⟩
  · have:=h.ro j hj
    rw [opn_setc]
    by_cases e:j=k
    · rw [if_pos e]
      subst e
      unfold opn at this
      rw [hc] at this
      show decide (c'.st=1)=true
      rw [hs]
      exact this
    · rw [if_neg e]; exact this
  · by_cases e:j=k
    · subst e
      rw [setc_cs] at hd
      injection hd with hd
      subst hd
      exact ho
    · rw [setc_ne b k _ e] at hd
      exact h.out j d hd
theorem r3_all:KEv R3 where
  gone:=fun b k c h hc _ _=>by
    unfold gone
    by_cases hst:c.st=1
    · rw [if_pos hst]
      have hrl:(fleave b.fl k).roles=rdel b.fl.roles k:=by
        unfold fleave
        split
        · rfl
        · next hn=>exact (rdel_none (by unfold rhas at hn; simpa using hn)).symm
      refine ⟨?_,fun j hj=>?_,fun j d hd=>?_⟩
      · show Rising (fleave b.fl k).roles
        rw [hrl]; exact h.rising.del _
      · replace hj:rhas (fleave b.fl k).roles j=true:=hj
        rw [hrl] at hj
        unfold rhas at hj
        rw [rget_del h.rising] at hj
        split at hj
        · cases hj
        · next e =>
          have:=h.ro j hj
          show opn (setc b k (some { c with st:=2 })) j=true
          rw [opn_setc,if_neg (fun e2=>e (by rw [e2]))]
          exact this
      · replace hd:(setc b k (some { c with st:=2 })).cs j=some d:=hd
        show d.out.length≤b.cf.queue
        by_cases e:j=k
        · subst e
          rw [setc_cs] at hd
          injection hd with hd
          subst hd
          exact h.out j c hc
        · rw [setc_ne b k _ e] at hd
          exact h.out j d hd
    · rw [if_neg hst]
      refine ⟨h.rising,fun j hj=>?_,fun j d hd=>?_⟩
      · have:=h.ro j hj
        rw [opn_setc]
        by_cases e:j=k
        · subst e
          unfold opn at this
          rw [hc] at this
          simp at this
          exact absurd this hst
        · rw [if_neg e]; exact this
      · by_cases e:j=k
        · subst e
          rw [setc_cs] at hd
          injection hd with hd
          subst hd
          exact h.out j c hc
        · rw [setc_ne b k _ e] at hd
          exact h.out j d hd
  plus:=fun b k c m h hc _ hf=>h.same hc rfl (by show (c.out ++ enc m).length≤_; rw [List.length_append]; exact hf)
  told:=fun b h=>⟨h.rising,h.ro,h.out⟩
  served:=fun b k c m p s h hc _ _=>h.same hc (putc_same b.cf.queue { c with p:=p,s:=s } (enc m)).1 (by
    have:=h.out k c hc
    unfold putc
    split
    · next hq=>show (c.out ++ enc m).length≤_; rw [List.length_append]; exact hq
    · exact this)
  reap:=fun b h=>by
    have hcs:∀ k c,(reap b).cs k=some c→b.cs k=some c:=fun k c hc=>by
      replace hc:(if 1≤k∧k≤16∧done b k=true then none else b.cs k)=some c:=hc
      split at hc
      · cases hc
      · exact hc
    refine ⟨h.rising,fun k hk=>?_,fun k c hc=>h.out k c (hcs k c hc)⟩
    have:=h.ro k hk
    obtain ⟨c,hc,hst⟩:=opn_cs this
    have hd:done b k=false:=by unfold done; rw [hc]; simp; omega
    unfold opn
    show (match (if 1≤k∧k≤16∧done b k=true then none else b.cs k) with | some c=>decide (c.st=1) | none=>false)=true
    rw [if_neg (by rw [hd]; simp),hc]
    simpa using hst
  lx:=fun b k c t h hc=>h.same hc rfl (h.out k c hc)
  join:=fun b k c t p r h hc _ _ _ _ _ _ _ _=>by
    refine ⟨?_,fun j hj=>?_,fun j d hd=>?_⟩
    · show Rising (fjoin b.fl k r).roles
      unfold fjoin
      split
      · exact h.rising.put _ _
      · exact h.rising
    · replace hj:rhas (fjoin b.fl k r).roles j=true:=hj
      show opn (setc b k (some (opened c t p))) j=true
      rw [opn_setc]
      by_cases e:j=k
      · rw [if_pos e]; rfl
      · rw [if_neg e]
        refine h.ro j ?_
        unfold fjoin at hj
        split at hj
        · replace hj:rhas (rput b.fl.roles k r) j=true:=hj
          rw [rhas_put h.rising] at hj
          simp only [Bool.or_eq_true,decide_eq_true_eq] at hj
          rcases hj with hj | hj
          · omega
          · exact hj
        · exact hj
    · replace hd:(setc b k (some (opened c t p))).cs j=some d:=hd
      show d.out.length≤b.cf.queue
      by_cases e:j=k
      · subst e
        rw [setc_cs] at hd
        injection hd with hd
        subst hd
        exact h.out j c hc
      · rw [setc_ne b k _ e] at hd
        exact h.out j d hd
  fl:=fun b s h hs=>by
    obtain ⟨h1,h2⟩:=fstep_roles hs h.rising
    exact ⟨h1,fun k hk=>h.ro k (by rw [← h2]; exact hk),h.out⟩
  again:=fun b k c p h hc _=>h.same hc rfl (h.out k c hc)
  strikes:=fun b n h _=>⟨h.rising,h.ro,h.out⟩
  typed:=fun b ks h _ _=>⟨h.rising,h.ro,h.out⟩
  idle0:=fun b k c h hc=>h.same hc rfl (h.out k c hc)
  fd:=fun b k c t h hc=>h.same hc rfl (h.out k c hc)
  cut0:=fun b k c h hc hst=>by
    refine ⟨h.rising,fun j hj=>?_,fun j d hd=>?_⟩
    · have:=h.ro j hj
      rw [opn_setc]
      by_cases e:j=k
      · subst e
        unfold opn at this
        rw [hc] at this
        simp at this
        omega
      · rw [if_neg e]; exact this
    · by_cases e:j=k
      · subst e; rw [setc_cs] at hd; cases hd
      · rw [setc_ne b k _ e] at hd
        exact h.out j d hd
  new:=fun b k h _ _ hn=>by
    refine ⟨h.rising,fun j hj=>?_,fun j d hd=>?_⟩
    · have:=h.ro j hj
      rw [opn_setc]
      by_cases e:j=k
      · subst e
        unfold opn at this
        rw [hn] at this
        cases this
      · rw [if_neg e]; exact this
    · by_cases e:j=k
      · subst e
        rw [setc_cs] at hd
        injection hd with hd
        subst hd
        exact Nat.zero_le _
      · rw [setc_ne b k _ e] at hd
        exact h.out j d hd
  idle1:=fun b k c h hc=>h.same hc rfl (h.out k c hc)
  wrote:=fun b k c n h hc=>h.same hc rfl (by show (c.out.drop n).length≤_; rw [List.length_drop]; have:=h.out k c hc; omega)
  out:=fun b t h _=>⟨h.rising,h.ro,h.out⟩
  ended:=fun b n h _ _=>⟨h.rising,h.ro,h.out⟩
  drained:=fun b n h=>⟨h.rising,h.ro,h.out⟩
end Go.Proofs.YtalichkdeekdcaaGreatDoor.Bk
end
