/- PTv PQb PQu PQa PQy PKm PKn PVa PVb PVc -/
import Derived.Test.YtalichkdeekdcaaGreatDoorZd06
namespace Go.Proofs.YtalichkdeekdcaaGreatDoor
set_option maxRecDepth 100000
section
namespace Bk
open Fr Lx
def uM (w:Bool) (back:Int):M:=⟨1,if w then 5 else 4,back,[117#8]⟩
theorem uM_ok (w:Bool) {back:Int} (h0:0≤back) (h1:back≤1099511627776):(uM w back).ok=true:=by
 unfold M.ok uM;rw [Ms.rt_iff]
 have:Ms.okN back true=true:=by unfold Ms.okN; simp; omega
 cases w
 ·exact ⟨rfl,rfl,this,show 1≤20 by decide⟩
 ·exact ⟨rfl,rfl,this,show 1≤20 by decide⟩
noncomputable def av1:Br:=bytesB (connectB (bnew cfd) 1) 1 (enc (uM true 0))
noncomputable def av2 (w:Bool):Br:=bytesB (connectB av1 2) 2 (enc (uM w 0))
theorem av_first:CW av1 107∧av1.fl=⟨100,0,[(1,2)],[]⟩∧av1.told=0∧Sm av1 (bnew cfd)∧(∀ j,(av1.cs j).isSome=(decide (j=1) || false))∧connectE (bnew cfd) 1=0∧bytesE (connectB (bnew cfd) 1) 1=0:=by
 have h0:=roles_begin;obtain ⟨e1,e2,e3,e4,e5,e6,e7⟩:=h0.cw.come (k:=1) (m:=uM true 0) (by decide) (by decide) rfl (uM_ok true (by decide) (by decide)) rfl (by decide) (show isName [117#8]=true by decide) (Nat.le_zero.1 (viewAt_le _ _ _ _)) (by decide);exact ⟨e3,e4,e5,e6,fun j=>(e7 j).trans rfl,e1,e2⟩
theorem av_second (w:Bool):CW (av2 w) 214∧(av2 w).fl=⟨100,0,[(1,2),(2,if w then 1 else 0)],[]⟩∧(av2 w).told=0∧Sm (av2 w) (bnew cfd)∧(∀ j,((av2 w).cs j).isSome=(decide (j=2) || (decide (j=1) || false)))∧connectE av1 2=0∧bytesE (connectB av1 2) 2=0 ∧
  ∃ c,(av2 w).cs 2=some c∧c.out=enc (welcome 2 0 (if w then 1 else 0)) ++ enc (mfloor 0):=by
 obtain ⟨a1,a2,a3,a4,a5,_,_⟩:=av_first;have hL:av1.L=[]:=a4.L
 have hno:av1.cs 2=none:=by
  rcases e:av1.cs 2 with _ | c
  ·rfl
  ·have:=a5 2; rw [e] at this; cases this
 have hat:comeAt av1 (uM w 0)=0:=by
  have:comeAt av1 (uM w 0)≤av1.L.length:=viewAt_le _ _ _ _;rw [hL] at this;exact Nat.le_zero.1 this
 have hro:comeRole av1 (uM w 0)=if w then 1 else 0:=by
  unfold comeRole;rw [a2]
  cases w <;> rfl
 have hf:fjoin av1.fl ((2:Nat):Int) (comeRole av1 (uM w 0))=⟨100,0,[(1,2),(2,if w then 1 else 0)],[]⟩:=by
  rw [hro,a2]
  cases w <;> rfl
 have ho:=uM_ok w (back:=0) (by decide) (by decide)
 have hk4:(uM w 0).a / 4=1:=by cases w <;> decide
 have hnm:isName (uM w 0).t=true:=show isName [117#8]=true by decide
 have hq:107+60+47≤av1.cf.queue:=by rw [a4.cf]; decide
 obtain ⟨e1,e2,e3,e4,e5,e6,e7⟩:=a1.come (k:=2) (by decide) (by decide) hno ho rfl hk4 hnm (by rw [hat,hL]; rfl) hq;have hX:=a1.comeX (k:=2) (by decide) (by decide) hno ho rfl hk4 hnm (by rw [hat,hL]; rfl) hq (by rw [hf,a3]; rfl);rw [hf] at e4 e5;refine ⟨e3,e4,e5,e6.trans a4,fun j=>(e7 j).trans (by rw [a5 j]),e1,e2,Bk.come (setc av1 2 (some cnew)) 2 cnew (uM w 0),?_,?_⟩
 ·show (bytesB (connectB av1 ((2:Nat):Int)) ((2:Nat):Int) (enc (uM w 0))).cs 2=_
  rw [hX]
  show (setc (Bk.mapc av1 (hear (joined 2 (uM w 0).t))) 2 (some (Bk.come (setc av1 2 (some cnew)) 2 cnew (uM w 0)))).cs 2=_
  exact setc_cs _ _ _
 ·rw [(come_is (setc av1 2 (some cnew)) 2 cnew (uM w 0)).1]
  show [] ++ greet (setc av1 2 (some cnew)) 2 (comeAt av1 (uM w 0)) (comeRole av1 (uM w 0))=_
  rw [hat,hro];unfold greet;have hend:(setc av1 2 (some cnew)).ended=false:=a4.ended;have hto:(setc av1 2 (some cnew)).told=0:=a3;rw [hend,hto];simp
noncomputable def av3:Br:=bytesB (av2 false) 1 (enc (keys 1 (esc wFloor)))
noncomputable def av4:Br:=outputB av3 [36#8,32#8]
noncomputable def av5:Br:=bytesB av4 1 (enc (keys 9 [108#8,115#8,10#8]))
noncomputable def av6:Br:=bytesB av5 2 (enc (keys 3 [120#8]))
def avOut:List M:=[welcome 2 0 0,mfloor 0,mfloor 1,dataM 0 [36#8,32#8],rejectM 3 3]
theorem av_is:bytesE (av2 false) 1=0∧outputE av3=0∧bytesE av4 1=0∧bytesE av5 2=0∧writeE av6 2=0∧writeT av6 2 65536=encs avOut∧drainT (writeB av6 2 65536) 99=[108#8,115#8,10#8]:=by
 obtain ⟨a1,a2,a3,a4,a5,_,_,c2,hc2,ho2⟩:=av_second false;obtain ⟨c1,hc1⟩:=Option.isSome_iff_exists.1 (show ((av2 false).cs 1).isSome=true by rw [a5]; rfl)
 have ha:askE (av2 false).fl ((1:Nat):Int)=0:=by rw [a2]; decide
 have hd:=fun (b':Br) (hb:b'.fl=(av2 false).fl)=>fask_floor ha b' hb
 have hq2:214+22≤(av2 false).cf.queue:=by rw [a4.cf]; decide
 obtain ⟨b1,b2,b3,b4,b5,b6⟩:=a1.cmd hc1 (seq:=1) (s:=wFloor) (by decide) (by decide) (by decide) (by decide) hd hq2;have hX:=(a1.cmdX hc1 (seq:=1) (s:=wFloor) (by decide) (by decide) (by decide) (by decide) hd hq2).2
 have hf:fask (av2 false).fl ((1:Nat):Int)=flD true:=by rw [a2]; rfl
 rw [hf] at b3 b4 hX;replace hX:av3=_:=hX (by rw [a3]; decide);have b2:CW av3 236:=b2;have b3:av3.fl=flD true:=b3;have b4:av3.told=1:=b4.trans rfl;have b5:Sm av3 (bnew cfd):=Sm.trans b5 a4;have s2:=a1.cn 2 c2 hc2
 have hc3:av3.cs 2=some (plus (mfloor 1) c2):=by
  rw [hX]
  show ((setc (av2 false) 1 (some { c1 with idle:=0 })).cs 2).map (hear (mfloor (fhold (flD true))))=_
  rw [setc_ne _ 1 _ (by decide),hc2]
  show some (hear (mfloor 1) c2)=_
  unfold hear;rw [if_pos s2.1]
 have hL3:av3.L=[]:=b5.L;obtain ⟨d1,d2,d3⟩:=b2.outX (t:=[36#8,32#8]) (by rw [b3,b4]; rfl) (b5.ended) (by rw [b5.cf]; decide) (by rw [b5.cf]; decide) (by decide) (by rw [b5.cf]; decide);replace d1:av4=_:=d1;rw [← d1] at d3
 have f4:av4.fl=flD true:=by rw [d1]; exact b3
 have t4:av4.told=1:=by rw [d1]; exact b4
 have q4:av4.cf=cfd:=by rw [d1]; exact b5.cf
 have i4:av4.inp=[]:=by rw [d1]; exact b5.inp
 have n4:av4.ended=false:=by rw [d1]; exact b5.ended
 have hc4:∃ c,av4.cs 2=some c∧c.out=c2.out ++ enc (mfloor 1) ++ enc (dataM 0 [36#8,32#8]):=by
  refine ⟨_,by rw [d1]; show (av3.cs 2).map (sv (av3.L ++ [36#8,32#8]))=_; rw [hc3]; rfl,?_⟩
  have hp:(plus (mfloor 1) c2).p=0:=by show c2.p=0; rw [s2.2.2.2.1,a4.L]; rfl
  unfold sv;rw [hL3,hp,if_neg (by decide)];rfl
 obtain ⟨c4,hc4,ho4⟩:=hc4
 obtain ⟨k1,hk1⟩:=Option.isSome_iff_exists.1 (show (av4.cs 1).isSome=true by
  rw [d1]
  show ((av3.cs 1).map _).isSome=true
  rw [Option.isSome_map,show (av3.cs 1).isSome=_ from b6 1,a5]; rfl)
 obtain ⟨g1,g2,g3⟩:=d3.typed (by rw [f4,t4]; rfl) hk1 (seq:=9) (t:=[108#8,115#8,10#8]) (by decide) (by decide) (by decide) (by decide) (by decide) (by
  unfold whyB;rw [n4,f4,i4,q4]
  decide)
 replace g1:av5=_:=g1;rw [← g1] at g3
 have f5:av5.fl=flD true:=by rw [g1]; exact f4
 have t5:av5.told=1:=by rw [g1]; exact t4
 have q5:av5.cf=cfd:=by rw [g1]; exact q4
 have n5:av5.ended=false:=by rw [g1]; exact n4
 have i5:av5.inp=[108#8,115#8,10#8]:=by rw [g1]; show av4.inp ++ _=_; rw [i4]; rfl
 have hc5:av5.cs 2=some c4:=by
  rw [g1]
  show (setc av4 1 (some { k1 with idle:=0 })).cs 2=_
  rw [setc_ne _ 1 _ (by decide),hc4]
 have hw:whyB av5 ((2:Nat)) [120#8].length=3:=by
  unfold whyB;rw [n5,f5]
  decide
 obtain ⟨h1,h2,h3⟩:=g3.rejected (by rw [f5,t5]; rfl) hc5 (seq:=3) (t:=[120#8]) (by decide) (by decide) (by decide) (by decide) (by decide) (by rw [hw]; decide) (by rw [q5]; decide);rw [hw] at h1 h3;replace h1:av6=_:=h1;rw [← h1] at h3
 have hc6:av6.cs 2=some (plus (rejectM 3 3) { c4 with idle:=0 }):=by rw [h1]; exact setc_cs _ _ _
 have f6:av6.fl=flD true:=by rw [h1]; exact f5
 have t6:av6.told=1:=by rw [h1]; exact t5
 have i6:av6.inp=[108#8,115#8,10#8]:=by rw [h1]; exact i5
 have hlen:(plus (rejectM 3 3) { c4 with idle:=0 }).out.length≤236+2+11+17:=(h3.cn 2 _ hc6).2.2.2.2;obtain ⟨j1,j2,j3,j4⟩:=h3.flush (by rw [f6,t6]; rfl) hc6 (w:=65536) (by omega);refine ⟨b1,d2,g2,h2,j2,?_,?_⟩
 ·refine j1.trans ?_
  show c4.out ++ enc (rejectM 3 3)=_
  rw [ho4,ho2];unfold encs avOut;simp
 ·have:(writeB av6 2 65536).inp=[108#8,115#8,10#8]:=by
   have h:writeB av6 2 65536=setc av6 2 _:=j3;rw [h];exact i6
  unfold drainT;rw [this]
  decide
end Bk
end
section
namespace Bk
open Fr Lx
structure KEv (P:Br→Prop):Prop extends KAll P where
 cut0:∀ b k c,P b→b.cs k=some c→c.st=2→P (setc b k none)
 new:∀ b k,P b→1≤k→k≤16→b.cs k=none→P (setc b k (some cnew))
 idle1:∀ b k c,P b→b.cs k=some c→P (setc b k (some { c with idle:=c.idle+1 }))
 wrote:∀ b k c n,P b→b.cs k=some c→P (setc b k (some { c with out:=c.out.drop n }))
 out:∀ b t,P b→b.ended=false→P { b with L:=b.L ++ t,sp:=Sp.nxts b.sp t }
 ended:∀ b n,P b→n≤255→b.ended=false→P { b with ended:=true,code:=n,inp:=[] }
 drained:∀ b n,P b→P { b with inp:=b.inp.drop n }
section
variable {P:Br→Prop} (K:KEv P) {b:Br}
include K
end
structure R3 (b:Br):Prop where
 rising:Rising b.fl.roles
 ro:∀ k:Nat,rhas b.fl.roles k=true→opn b k=true
 out:∀ k c,b.cs k=some c→c.out.length≤b.cf.queue
end Bk
end
section
namespace Bk
open Fr Lx
theorem holder_told:∀ (n:Nat) (b:Br),mu b≤n→fhold (holder b).fl=(holder b).told
  | n,b,hn=>by
    by_cases h:fhold b.fl=b.told
    · rw [holder_same h]; exact h
    · rw [holder_step h]
      have:=mu_step (mfloor (fhold b.fl)) h
      match n,hn with
      | 0,hn=>omega
      | n+1,hn=>exact holder_told n _ (by omega)
section
variable {k:Nat} {b b':Br}
theorem shut_core (k:Nat):KCore (fun b=>opn b k=false) where
 gone:=fun b j c h hc _ _=>by
  have:opn (setc b j (some { c with st:=2 })) k=false:=by
   rw [opn_setc]
   split
   ·rfl
   ·exact h
  unfold gone
  split
  ·exact this
  ·exact this
 plus:=fun b j c m h hc _ _=>by
  show opn (setc b j (some (plus m c))) k=false
  rw [opn_setc]
  split
  ·next e =>
   subst e;unfold opn at h;rw [hc] at h;exact h
  ·exact h
 told:=fun b h=>h
 served:=fun b j c m p s h hc _ _=>by
  show opn (setc b j (some _)) k=false
  rw [opn_setc]
  split
  ·next e =>
   subst e;unfold opn at h;rw [hc] at h
   show decide ((putc b.cf.queue { c with p:=p,s:=s } (enc m)).st=1)=false
   rw [(putc_same _ _ _).1];exact h
  ·exact h
 reap:=fun b h=>by
  unfold opn at h ⊢
  show (match (if 1≤k∧k≤16∧done b k=true then none else b.cs k) with | some c=>decide (c.st=1) | none=>false)=false
  split
  ·next hx =>
   split at hx
   ·cases hx
   ·rw [hx] at h; exact h
  ·rfl
end
end Bk
end
section
namespace Bk
open Fr Lx
theorem encs_app (a b:List M):encs (a ++ b)=encs a ++ encs b:=by unfold encs; simp
end Bk
end
section
namespace Bk
open Fr Lx
def NoneAt (k:Nat) (b:Br):Prop:=∀ c,b.cs k=some c→c.st=1→nextB b c=none
theorem next_none {b:Br} {c c':Cn} (h:nextB b c=none) (hp:c'.p=c.p) (_hs:c'.s=c.s) (ho:c.out.length≤c'.out.length):nextB b c'=none:=by
 unfold nextB nextOf at h ⊢;rw [hp]
 split at h
 ·split at h <;> cases h
 ·next hn =>
  rw [if_neg hn]
  split at h
  ·next h0 =>
   have:countOf b.L.length c.p ((b.cf.queue:Int) - c'.out.length - 200) b.cf.data=0:=by unfold countOf at h0 ⊢; omega
   rw [if_pos this]
  ·cases h
theorem NoneAt.set {k j:Nat} {b:Br} (h:NoneAt k b) {c c':Cn} (hc:b.cs j=some c) (hst:c'.st=1→c.st=1) (hp:c'.p=c.p) (hs:c'.s=c.s) (ho:c.out.length≤c'.out.length):NoneAt k (setc b j (some c')):=fun d hd h1=>by
 by_cases e:k=j
 ·subst e
  rw [setc_cs] at hd
  injection hd with hd
  subst hd;exact next_none (b:=b) (h c hc (hst h1)) hp hs ho
 ·rw [setc_ne _ _ _ e] at hd
  exact h d hd h1
theorem none_core (k:Nat):KCore (NoneAt k) where
 gone:=fun b j c h hc _ _=>by
  have:=h.set (c':={ c with st:=2 }) hc (fun e=>by cases e) rfl rfl (Nat.le_refl _);unfold gone
  split
  ·exact this
  ·exact this
 plus:=fun b j c m h hc _ _=>h.set hc id rfl rfl (by show c.out.length≤(c.out ++ enc m).length; rw [List.length_append]; omega)
 told:=fun b h=>h
 served:=fun b j c m p s h hc hst hn=>by
  by_cases e:k=j
  ·subst e
   rw [h c hc hst] at hn;cases hn
  ·intro d hd h1
   replace hd:(setc b j (some (putc b.cf.queue { c with p:=p,s:=s } (enc m)))).cs k=some d:=hd;rw [setc_ne _ _ _ e] at hd;exact h d hd h1
 reap:=fun b h d hd h1=>by
  replace hd:(if 1≤k∧k≤16∧done b k=true then none else b.cs k)=some d:=hd
  split at hd
  ·cases hd
  ·exact h d hd h1
theorem NoneAt.shut {k:Nat} {b:Br} (h:opn b k=false):NoneAt k b:=fun c hc h1=>by
 unfold opn at h;rw [hc] at h;simp [h1] at h
theorem leave_shut (b:Br) (k:Nat):opn (leave b k) k=false:=by
 show opn (leaveW (tellN 16) b k) k=false
 unfold leaveW
 rcases hc:b.cs k with _ | c
 ·show opn b k=false
  unfold opn; rw [hc]
 ·have h:opn (setc b k (some { c with st:=2 })) k=false:=by unfold opn; rw [setc_cs]; rfl
  show opn (if c.st=1 then tellN 16 (left k) (setFl (setc b k (some { c with st:=2 })) (fleave b.fl k)) else setc b k (some { c with st:=2 })) k=false
  split
  ·exact (shut_core k).tellN 16 _ _ h
  ·exact h
theorem serve_none_at:∀ (n:Nat) (b:Br) (k:Nat) (c:Cn),BOk b→b.cs k=some c→b.L.length - c.p≤n→NoneAt k (serve b k)
  | n,b,k,c,hb,hc,hn=>by
    have hk:=hb.cn k c hc
    rcases hx:nextB b c with _ | ⟨m,p,s⟩
    · rw [serve_none hc hx]
      exact fun d hd _=>by rw [hc] at hd; injection hd with hd; rw [← hd]; exact hx
    · have hno:=next_ok hk.p hk.s hb.strikes hb.len hx
      by_cases h12:m.k=12
      · rw [serve_gone hc hx h12]
        exact NoneAt.shut (leave_shut _ _)
      · rw [serve_more hb hc hx h12]
        have hlt:=(hno.2.2.2.2 h12).1
        match n,hn with
        | 0,hn=>have:=hno.1; omega
        | n+1,hn=>exact serve_none_at n _ k _ (hb.served hc hx) (setc_cs _ _ _) (by
            rw [(putc_same _ _ _).2.1]
            show b.L.length - p≤n
            omega)
theorem goes_none_at:∀ (l:List Nat) (D:Nat→Prop) (b:Br),(∀ k∈l,1≤k∧k≤16)→BOk b→(∀ k,D k→NoneAt k b)→∀ k,(D k∨k∈l)→NoneAt k (goes serve b l)
  | [],D,b,_,_,h=>fun k hk=>h k (hk.resolve_right (by simp))
  | j :: l,D,b,hl,hb,h=>by
    intro k hk;have hj:=hl j List.mem_cons_self
    show NoneAt k (goes serve (if opn b j then serve b j else b) l)
    have hb2:BOk (if opn b j then serve b j else b):=by
      split
      · next ho=>exact bok_all.serveN _ hb hj.1 hj.2 ho
      · exact hb
    refine goes_none_at l (fun i=>D i∨i=j) _ (fun i hi=>hl i (List.mem_cons_of_mem _ hi)) hb2 (fun i hi=>?_) k ?_
    · rcases hi with hi | rfl
      · split
        · next ho=>exact (none_core i).serveN _ (h i hi) hj.1 hj.2 ho
        · exact h i hi
      · by_cases ho:opn b i=true
        · rw [if_pos ho]
          obtain ⟨c,hc,_⟩:=opn_cs ho;exact serve_none_at _ b i c hb hc (Nat.le_refl _)
        · rw [if_neg ho]
          exact NoneAt.shut (by simpa using ho)
    · rcases hk with hk | hk
      · exact .inl (.inl hk)
      · rcases List.mem_cons.1 hk with e | hk
        · exact .inl (.inr e)
        · exact .inr hk
theorem in16_core:KCore In16 where
 gone:=fun b k c h hc h1 h2=>by
  have:In16 (setc b k (some { c with st:=2 })):=fun j hj=>by
   by_cases e:j=k
   ·omega
   ·rw [setc_ne _ _ _ e] at hj; exact h j hj
  unfold gone
  split
  ·exact this
  ·exact this
 plus:=fun b k c m h hc _ _ j hj=>by
  by_cases e:j=k
  ·rw [e]; exact h k (by rw [hc]; rfl)
  ·rw [setc_ne _ _ _ e] at hj; exact h j hj
 told:=fun b h=>h
 served:=fun b k c m p s h hc _ _ j hj=>by
  by_cases e:j=k
  ·rw [e]; exact h k (by rw [hc]; rfl)
  ·replace hj:((setc b k (some _)).cs j).isSome=true:=hj
   rw [setc_ne _ _ _ e] at hj; exact h j hj
 reap:=fun b h j hj=>by
  obtain ⟨c,hc⟩:=Option.isSome_iff_exists.1 hj;replace hc:(if 1≤j∧j≤16∧done b j=true then none else b.cs j)=some c:=hc
  split at hc
  ·cases hc
  ·exact h j (by rw [hc]; rfl)
theorem rest_settle {b:Br} (hb:BOk b) (hI:In16 b):Rest (settle b):=by
 have h1:=bok_all.holder hb;have hI2:In16 (settle b):=in16_core.settle hI
 have hn:∀ k,1≤k∧k≤16→NoneAt k (settle b):=fun k hk =>
  (none_core k).reap _ ((none_core k).holder (goes_none_at ids (fun _=>False) (holder b) ids_in h1 (fun _ h=>h.elim) k (.inr (mem_ids.2 hk))))
 refine ⟨?_,fun k c hc hst=>hn k (hI2 k (by rw [hc]; rfl)) c hc hst,fun k c hc h2 e=>?_⟩
 ·show fhold (holder _).fl=(holder _).told
  exact holder_told _ _ (Nat.le_refl _)
 ·have hk:=hI2 k (by rw [hc]; rfl)
  unfold settle at hc;replace hc:(if 1≤k∧k≤16∧done (holder (goes serve (holder b) ids)) k=true then none else (holder (goes serve (holder b) ids)).cs k)=some c:=hc
  split at hc
  ·cases hc
  ·next hd =>
   refine hd ⟨hk.1,hk.2,?_⟩;unfold done;rw [hc];simp [h2,e]
def QC (b:Br):Prop:=∀ k c,b.cs k=some c→c.fd=fd0∧c.lx=lx0
structure KJoin (P:Br→Prop):Prop extends KCore P where
 join:∀ b k c t p r,P b→b.cs k=some c→1≤k→k≤16→c.st=0→t.length≤20→isName t=true→p≤b.L.length→0≤r→r≤2→P (setFl (setc b k (some (opened c t p))) (fjoin b.fl k r))
 fl:∀ b s,P b→P (setFl b s)
section
variable {P:Br→Prop} (K:KJoin P)
include K
end
structure InAt (b:Br) (i T m:Nat):Prop where
 ev:EvOk b i T m
 in16:In16 b
 rest:Rest b
 qc:QC b
 ended:b.ended=false
 queue:b.cf.queue=60000
 inp:b.inp.length≤b.cf.input
 r3:R3 b
end Bk
end
section
namespace Bk
open Fr Lx
def Plain (m:M):Prop:=m.ok=true∧m.k≠5∧m.k≠6∧m.k≠7∧m.k≠12∧m.k≠13
structure KMsg (P:Br→Prop):Prop where
 ok:∀ b,P b→BOk b
 gone:∀ b k c,P b→b.cs k=some c→1≤k→k≤16→P (gone b k c)
 plus:∀ b k c m,P b→b.cs k=some c→c.st≠2→Plain m→c.out.length+(enc m).length≤b.cf.queue→P (setc b k (some (plus m c)))
 closed:∀ b k c why,P b→b.cs k=some c→c.st≠2→why≤6→c.out.length+11≤b.cf.queue→1≤k→k≤16→P (Bk.gone (setc b k (some (Bk.plus (Bk.closed why) c))) k (Bk.plus (Bk.closed why) c))
 told:∀ b,P b→P (toldB b)
 served:∀ b k c m p s,P b→b.cs k=some c→c.st=1→nextB b c=some (m,p,s)→m.k≠12→P (served b k c m p s)
 evict:∀ b k c m p s,P b→b.cs k=some c→c.st=1→nextB b c=some (m,p,s)→m.k=12→1≤k→k≤16→P (Bk.gone (Bk.served b k c m p s) k (putc b.cf.queue { c with p:=p,s:=s } (enc m)))
 reap:∀ b,P b→P (reap b)
section
variable {P:Br→Prop} (K:KMsg P)
include K
end
structure KCmd (k:Nat) (P:Br→Prop):Prop extends KMsg P where
 join:∀ b c t p r,P b→b.cs k=some c→1≤k→k≤16→c.st=0→t.length≤20→isName t=true→p≤b.L.length→0≤r→r≤2→P (send (welcome k p r) (setFl (setc b k (some (opened c t p))) (fjoin b.fl k r)) k)
 fl:∀ b s,P b→FlStep b.fl s→P (setFl b s)
 typed:∀ b ks,P b→b.ended=false→b.inp.length+ks.length≤b.cf.input→P { b with inp:=b.inp ++ ks,tot:=b.tot+ks.length }
structure KSay (k:Nat) (P:Br→Prop):Prop extends KCmd k P where
 lx:∀ b c t,P b→b.cs k=some c→P (setc b k (some { c with lx:=lrun c.lx t }))
 idle0:∀ b c,P b→b.cs k=some c→P (setc b k (some { c with idle:=0 }))
 fd:∀ b c t,P b→b.cs k=some c→P (setc b k (some { c with fd:=fpush c.fd t }))
section
variable {P:Br→Prop} {k:Nat} (K:KCmd k P)
include K
end
section
variable {P:Br→Prop} {k:Nat} (K:KSay k P)
include K
end
end Bk
end
section
namespace Bk
open Fr Lx
structure Ts where
 at_:Int
 gaps:Nat
 last:Bool
end Bk
end
section
namespace Bk
open Fr Lx
structure VB (cf0:Cf) (L0:Bs) (B:Br):Prop where
 cf:B.cf=cf0
 L:B.L=L0
 st:B.strikes=cf0.strikes
 ended:B.ended=false
 told:B.told=0
 line:B.fl.line=[]
 len:L0.length≤1099511627776
theorem VB.hold {cf:Cf} {L:Bs} {B:Br} (h:VB cf L B):fhold B.fl=B.told:=by
 unfold fhold;rw [h.line,h.told];rfl
theorem VB.left {cf:Cf} {L:Bs} {B:Br} (h:VB cf L B) (id:Int):VB cf L (setFl B (fleave B.fl id)):=by
 refine ⟨h.cf,h.L,h.st,h.ended,h.told,?_,h.len⟩
 show (fleave B.fl id).line=[]
 unfold fleave
 split
 ·show (fout B.fl id).line=[]
  unfold fout;rw [h.line,if_neg (by simp),h.line]
 ·exact h.line
structure VK (cf:Cf) (P Q:Bs→Bs→Cn→Prop):Prop where
 go:∀ G L c m p s,L.length≤1099511627776→P G L c→c.st=1→nextOf L cf.log c.p c.s ((cf.queue:Int) - c.out.length - 200) cf.data cf.strikes=some (m,p,s)→m.k≠12→P G L (putc cf.queue { c with p:=p,s:=s } (enc m))
 end_:∀ G L c m p s,L.length≤1099511627776→P G L c→c.st=1→nextOf L cf.log c.p c.s ((cf.queue:Int) - c.out.length - 200) cf.data cf.strikes=some (m,p,s)→m.k=12→Q G L { putc cf.queue { c with p:=p,s:=s } (enc m) with st:=2 }
 wr:∀ G L c q,P G L c→P (G ++ c.out.take q) L { c with out:=c.out.drop q }
 wr2:∀ G L c q,Q G L c→Q (G ++ c.out.take q) L { c with out:=c.out.drop q }
structure VM (P Q:Bs→Bs→Cn→Prop):Prop where
 more:∀ G L t c,P G L c→P G (L ++ t) c
 more2:∀ G L t c,Q G L c→Q G (L ++ t) c
def VAt (cf:Cf) (P Q:Bs→Bs→Cn→Prop) (k:Nat) (G L:Bs) (b:Br):Prop:=
 ∃ B,VB cf L B∧((∃ c,b=lone B k c∧c.st=1∧P G L c)∨(∃ c,b=lone B k c∧c.st=2∧Q G L c)∨(∃ c,b=bare B∧c.out=[]∧Q G L c))
section
variable {cf:Cf} {P Q:Bs→Bs→Cn→Prop} {k:Nat} {G L:Bs} {B b:Br}
theorem lone_leave {c:Cn} (hst:c.st=1):leave (lone B k c) k=lone (setFl B (fleave B.fl k)) k { c with st:=2 }:=by
 show leaveW (tellN 16) (lone B k c) k=_
 unfold leaveW;rw [lone_cs]
 show (if c.st=1 then tellN 16 (left k) (setFl (setc (lone B k c) k (some { c with st:=2 })) (fleave B.fl k)) else _)=_
 refine (if_pos hst).trans ?_;rw [lone_setc]
 exact goes_none _ ids fun j _=>lone_in1 (b:=setFl B (fleave B.fl k)) (k:=k) (c:={ c with st:=2 }) (by show ¬ (2:Nat)=1; decide) j
theorem VK.serveN (K:VK cf P Q) (h:VB cf L B):∀ (n:Nat) (c:Cn),c.st=1→P G L c→(∃ c',serveN n (lone B k c) k=lone B k c'∧c'.st=1∧P G L c')∨(∃ c',serveN n (lone B k c) k=lone (setFl B (fleave B.fl k)) k c'∧c'.st=2∧Q G L c')
  | 0,c,hst,hp=>.inl ⟨c,rfl,hst,hp⟩
  | n+1,c,hst,hp=>by
    rw [serveN_succ n (lone B k c) k (lone_cs B k c)]
    rcases hn:nextB (lone B k c) c with _ | ⟨m,p,s⟩
    · exact .inl ⟨c,rfl,hst,hp⟩
    · have hn':nextOf L cf.log c.p c.s ((cf.queue:Int) - c.out.length - 200) cf.data cf.strikes=some (m,p,s):=by
        have e:nextB (lone B k c) c=nextOf B.L B.cf.log c.p c.s ((B.cf.queue:Int) - c.out.length - 200) B.cf.data B.strikes:=rfl;rw [e,h.st,h.L,h.cf] at hn;exact hn
      have hsv:served (lone B k c) k c m p s=lone B k (putc cf.queue { c with p:=p,s:=s } (enc m)):=by
        unfold served;rw [show (lone B k c).cf.queue=cf.queue by show B.cf.queue=_; rw [h.cf],lone_setc]
      have h1:=(putc_same cf.queue { c with p:=p,s:=s } (enc m)).1
      show (∃ c',(if m.k=12 then leave (served (lone B k c) k c m p s) k else Bk.serveN n (served (lone B k c) k c m p s) k)=lone B k c'∧_)∨(∃ c',(if m.k=12 then leave (served (lone B k c) k c m p s) k else Bk.serveN n (served (lone B k c) k c m p s) k)=_∧_)
      rw [hsv]
      by_cases hk:m.k=12
      · rw [if_pos hk,lone_leave (h1.trans hst)]
        exact .inr ⟨_,rfl,rfl,K.end_ G L c m p s h.len hp hst hn' hk⟩
      · rw [if_neg hk]
        exact VK.serveN K h n _ (h1.trans hst) (K.go G L c m p s h.len hp hst hn' hk)
theorem goes_lone {f:Br→Nat→Br} {B B':Br} {c c':Cn} (hst:c.st=1) (hf:f (lone B k c) k=lone B' k c'):∀ l:List Nat,l.Nodup→k∈l→goes f (lone B k c) l=lone B' k c'
  | [],_,h=>by cases h
  | j :: l,hn,h=>by
    obtain ⟨hj,hn⟩:=List.nodup_cons.1 hn
    show goes f (if opn (lone B k c) j then f (lone B k c) j else lone B k c) l=_
    by_cases e:j=k
    · subst e
      have ho:opn (lone B j c) j=true:=by unfold opn; rw [lone_cs]; simpa using hst
      rw [ho,if_pos rfl,hf]
      exact goes_none _ l fun i hi=>by unfold opn; rw [lone_no B' j c' (fun e=>hj (e ▸ hi))]
    · have ho:opn (lone B k c) j=false:=by unfold opn; rw [lone_no B k c e]
      rw [ho];exact goes_lone hst hf l hn ((List.mem_cons.1 h).resolve_left fun x=>e x.symm)
theorem VB.reap (h:VB cf L B) (h1:1≤k) (h2:k≤16) {c:Cn} (hst:c.st=2) (hq:Q G L c):VAt cf P Q k G L (Bk.reap (lone B k c)):=by
 by_cases ho:c.out=[]
 ·have e:Bk.reap (lone B k c)=bare B:=by
   unfold Bk.reap bare
   have:(fun j=>if 1≤j∧j≤16∧done (lone B k c) j=true then none else (lone B k c).cs j)=fun _=>none:=by
    funext j
    by_cases e:j=k
    ·subst e
     rw [if_pos ⟨h1,h2,by unfold done; rw [lone_cs]; simp [hst,ho]⟩]
    ·rw [lone_no B k c e]
     simp
   rw [this];rfl
  rw [e];exact ⟨B,h,.inr (.inr ⟨c,rfl,ho,hq⟩)⟩
 ·rw [reap_rest fun j d hd _=>by obtain ⟨_,rfl⟩:=lone_one hd; exact ho]
  exact ⟨B,h,.inr (.inl ⟨c,rfl,hst,hq⟩)⟩
theorem VB.settle1 (K:VK cf P Q) (h:VB cf L B) (h1:1≤k) (h2:k≤16) {c:Cn} (hst:c.st=1) (hp:P G L c):VAt cf P Q k G L (Bk.settle (lone B k c)):=by
 unfold Bk.settle;rw [holder_same (b:=lone B k c) h.hold]
 rcases K.serveN (k:=k) h ((lone B k c).L.length+2) c hst hp with ⟨c',e,s1,p1⟩ | ⟨c',e,s1,q1⟩
 ·rw [goes_lone (f:=Bk.serve) hst e ids ids_nodup (mem_ids.2 ⟨h1,h2⟩),holder_same (b:=lone B k c') h.hold,reap_rest fun j d hd h9=>by obtain ⟨_,rfl⟩:=lone_one hd; omega]
  exact ⟨B,h,.inl ⟨c',rfl,s1,p1⟩⟩
 ·rw [goes_lone (f:=Bk.serve) hst e ids ids_nodup (mem_ids.2 ⟨h1,h2⟩),holder_same (b:=lone (setFl B (fleave B.fl k)) k c') (h.left k).hold]
  exact (h.left k).reap h1 h2 s1 q1
theorem VB.settle2 (h:VB cf L B) (h1:1≤k) (h2:k≤16) {c:Cn} (hst:c.st=2) (hq:Q G L c):VAt cf P Q k G L (Bk.settle (lone B k c)):=by
 unfold Bk.settle;rw [holder_same (b:=lone B k c) h.hold,served_rest fun j d hd h9=>by obtain ⟨_,rfl⟩:=lone_one hd; omega,holder_same (b:=lone B k c) h.hold];exact h.reap h1 h2 hst hq
theorem VB.settle0 (h:VB cf L B):Bk.settle (bare B)=bare B:=settle_rest ⟨h.hold,fun _ _ hd=>(by cases hd),fun _ _ hd=>(by cases hd)⟩
theorem there_lone (h1:1≤k) (h2:k≤16) (B:Br) (c:Cn):isThere (lone B k c) (k:Nat)=true:=by
 unfold isThere;rw [show ((k:Nat):Int).toNat=k by omega,lone_cs]
 simp; omega
theorem VAt.write (K:VK cf P Q) (h1:1≤k) (h2:k≤16) (h:VAt cf P Q k G L b) (n:Int):VAt cf P Q k (G ++ writeT b (k:Nat) n) L (writeB b (k:Nat) n):=by
 obtain ⟨B,hB,h⟩:=h
 have hk:((k:Nat):Int).toNat=k:=by omega
 rcases h with ⟨c,rfl,hst,hp⟩ | ⟨c,rfl,hst,hp⟩ | ⟨c,rfl,ho,hp⟩
 ·have e1:writeT (lone B k c) (k:Nat) n=c.out.take (takeN n c.out.length):=by
   unfold writeT;rw [there_lone h1 h2,if_pos rfl,hk,lone_cs]
  have e2:writeB (lone B k c) (k:Nat) n=Bk.settle (lone B k { c with out:=c.out.drop (takeN n c.out.length) }):=by
   unfold writeB;rw [there_lone h1 h2,if_pos rfl,hk,lone_cs]
   show Bk.settle (setc (lone B k c) k _)=_
   rw [lone_setc]
  rw [e1,e2];exact hB.settle1 K h1 h2 (c:={ c with out:=c.out.drop (takeN n c.out.length) }) hst (K.wr G L c _ hp)
 ·have e1:writeT (lone B k c) (k:Nat) n=c.out.take (takeN n c.out.length):=by
   unfold writeT;rw [there_lone h1 h2,if_pos rfl,hk,lone_cs]
  have e2:writeB (lone B k c) (k:Nat) n=Bk.settle (lone B k { c with out:=c.out.drop (takeN n c.out.length) }):=by
   unfold writeB;rw [there_lone h1 h2,if_pos rfl,hk,lone_cs]
   show Bk.settle (setc (lone B k c) k _)=_
   rw [lone_setc]
  rw [e1,e2];exact hB.settle2 h1 h2 (c:={ c with out:=c.out.drop (takeN n c.out.length) }) hst (K.wr2 G L c _ hp)
 ·have e0:isThere (bare B) (k:Nat)=false:=by
   unfold isThere
   show (_ && (none:Option Cn).isSome)=false
   simp
  have e1:writeT (bare B) (k:Nat) n=[]:=by unfold writeT; rw [e0]; rfl
  have e2:writeB (bare B) (k:Nat) n=bare B:=by unfold writeB; rw [e0]; rfl
  rw [e1,e2,List.append_nil];exact ⟨B,hB,.inr (.inr ⟨c,rfl,ho,hp⟩)⟩
end
def ahead (cf:Cf) (t:Bs):Br:={ bnew cf with L:=t,sp:=Sp.nxts (bnew cf).sp t }
theorem ahead_vb (cf:Cf) {t:Bs} (hm:t.length≤1099511627776):VB cf t (ahead cf t):=⟨rfl,rfl,rfl,rfl,rfl,rfl,hm⟩
theorem bnew_out (cf:Cf) {t:Bs} (hm:t.length≤1099511627776):outputB (bnew cf) t=bare (ahead cf t)∧outputE (bnew cf)=0:=by
 refine ⟨?_,rfl⟩;unfold outputB;rw [if_neg (by show ¬ false=true; decide)];exact (ahead_vb cf hm).settle0
theorem view_come {cf:Cf} {L:Bs} {B:Br} (hB:VB cf L B) (hq:220≤cf.queue) {k:Nat} (h1:1≤k) (h2:k≤16) {back:Int} (h0:0≤back) (hb:back≤1099511627776) :
  connectE (bare B) (k:Nat)=0∧bytesE (connectB (bare B) (k:Nat)) (k:Nat)=0∧∃ B2 c,VB cf L B2∧c.st=1∧c.out=enc (welcome k (startOf L.length cf.log back) 0) ++ enc (mfloor 0)∧c.p=startOf L.length cf.log back∧c.s=0 ∧
   bytesB (connectB (bare B) (k:Nat)) (k:Nat) (enc (uM false back))=Bk.settle (lone B2 k c):=by
 obtain ⟨a1,a2⟩:=connect_new (b:=bare B) (k:=k) h1 h2 rfl;have a3:connectB (bare B) (k:Nat)=lone B k cnew:=a2;have hm:=uM_ok false h0 hb;obtain ⟨e1,e2⟩:=bytes_one (b:=lone B k cnew) (c:=cnew) (m:=uM false back) h1 h2 (lone_cs _ _ _) rfl (by decide) hm;rw [a3];refine ⟨a1,e2,?_⟩;rw [e1,lone_setc,show ({ cnew with idle:=0 }:Cn)=cnew from rfl]
 rw [hello_fits (b:=lone B k cnew) (lone_in h1 h2) (lone_cs _ _ _) rfl h2 hm rfl (by rfl) (show isName [117#8]=true by decide) fun j c hc=>by
  obtain ⟨_,rfl⟩:=lone_one hc
  show 0+60≤B.cf.queue
  rw [hB.cf]; omega]
 obtain ⟨d1,d2,d3,d4,d5,d6,d7,d8⟩:=come_is (lone B k cnew) k cnew (uM false back)
 obtain ⟨cc,hcc⟩:∃ cc,Bk.come (lone B k cnew) k cnew (uM false back)=cc:=⟨_,rfl⟩
 rw [hcc] at d1 d2 d3 d4 d5 d6 d7 d8 ⊢
 have hst:comeAt (lone B k cnew) (uM false back)=startOf L.length cf.log back:=by
  unfold comeAt viewAt
  show (if decide ((4:Int) % 4=2∨(4:Int) % 4=3)=true then _ else startOf B.L.length B.cf.log back)=_
  rw [if_neg (by decide),hB.L,hB.cf]
 have hro:comeRole (lone B k cnew) (uM false back)=0:=rfl
 have hX:Bk.holder (setFl (setc (Bk.mapc (lone B k cnew) (hear (joined k (uM false back).t))) k (some cc)) (fjoin (lone B k cnew).fl k (comeRole (lone B k cnew) (uM false back))))=lone (setFl B (fjoin B.fl k 0)) k cc:=by
  have hl:(fjoin B.fl k 0).line=[]:=by unfold fjoin; split <;> exact hB.line
  rw [holder_same (by
   show fhold (fjoin B.fl k 0)=B.told
   unfold fhold;rw [hl,hB.told]
   rfl)]
  rw [lone_mapc]
  show setFl (setc (lone B k _) k (some cc)) (fjoin B.fl k 0)=_
  rw [lone_setc];rfl
 refine ⟨setFl B (fjoin B.fl k 0),cc,⟨hB.cf,hB.L,hB.st,hB.ended,hB.told,by show (fjoin B.fl k 0).line=[]; unfold fjoin; split <;> exact hB.line,hB.len⟩,d2,?_,d7.trans hst,d8,congrArg Bk.settle hX⟩;rw [d1]
 show [] ++ greet (lone B k cnew) k (comeAt (lone B k cnew) (uM false back)) (comeRole (lone B k cnew) (uM false back))=_
 rw [hst,hro];unfold greet;have hend:(lone B k cnew).ended=false:=hB.ended;have hto:(lone B k cnew).told=0:=hB.told;rw [hend,hto];simp
end Bk
end
section
namespace Bk
open Fr Lx
theorem encs_snoc (W F:M) (ms:List M) (m:M):encs (W :: F :: (ms ++ [m]))=encs (W :: F :: ms) ++ enc m:=by
 rw [show W :: F :: (ms ++ [m])=(W :: F :: ms) ++ [m] from rfl,encs_app,encs_one]
theorem floor_ok0:(mfloor 0).ok=true:=by decide
theorem wel_ok {k p:Nat} (hk:k≤16) (hp:p≤1099511627776):(welcome k p 0).ok=true:=by
 unfold M.ok welcome;rw [Ms.rt_iff];refine ⟨rfl,?_,?_,?_⟩
 ·show Ms.okN ((k:Nat):Int) true=true
  unfold Ms.okN; simp; omega
 ·show Ms.okN ((p:Nat):Int) true=true
  unfold Ms.okN; simp; omega
 ·show (roleWord 0).length≤Ms.tx 5
  decide
def texts (ms:List M):Bs:=ms.flatMap fun m=>m.t
def CP (cf:Cf) (W:M) (p0:Nat) (G L:Bs) (c:Cn):Prop:=c.p≤L.length∧c.s≤9∧L.length - cf.log≤c.p∧∃ ms,G ++ c.out=encs (W :: mfloor 0 :: ms)∧(∀ m∈W :: mfloor 0 :: ms,m.ok=true)∧(∀ m∈ms,m.k=6)∧p0≤c.p∧texts ms=(L.drop p0).take (c.p - p0)
theorem cv_ (cf:Cf) (W:M) (p0:Nat) (hcf:cf.strikes≤9) {G L:Bs} {c:Cn} {m:M} {p s:Nat} (hL:L.length≤1099511627776) (h:CP cf W p0 G L c) (hn:nextOf L cf.log c.p c.s ((cf.queue:Int) - c.out.length - 200) cf.data cf.strikes=some (m,p,s)) :
  m.k≠12∧CP cf W p0 G L (putc cf.queue { c with p:=p,s:=s } (enc m)):=by
 obtain ⟨h1,h2,h3,ms,h4,h5,h6,h7,h8⟩:=h;obtain ⟨o1,o2,o3,o4,o5⟩:=next_ok h1 h2 hcf hL hn;unfold nextOf at hn;rw [if_neg (by omega)] at hn
 split at hn
 ·cases hn
 next g2 =>
 have hc:=count_pos g2
 injection hn with hn; injection hn with e1 hn; injection hn with e2 e3
 have hk:m.k=6:=by rw [← e1]
 have hfit:c.out.length+(enc m).length≤cf.queue:=by
  have h8:=(o5 (by omega)).2
  have h9:0<(enc m).length:=by rw [enc_len5]; omega
  omega
 have hput:putc cf.queue { c with p:=p,s:=s } (enc m)={ c with p:=p,s:=s,out:=c.out ++ enc m }:=by
  unfold putc;rw [if_pos hfit]
 rw [hput];refine ⟨by omega,o1,o2,by show L.length - cf.log≤p; omega,ms ++ [m],?_,?_,?_,by show p0≤p; omega,?_⟩
 ·show G ++ (c.out ++ enc m)=_
  rw [encs_snoc,← h4,List.append_assoc]
 ·intro x hx
  rcases List.mem_append.1 (show x∈(W :: mfloor 0 :: ms) ++ [m] from hx) with hx | hx
  ·exact h5 x hx
  ·rw [List.mem_singleton.1 hx]; exact o3
 ·intro x hx
  rcases List.mem_append.1 hx with hx | hx
  ·exact h6 x hx
  ·rw [List.mem_singleton.1 hx]; exact hk
 ·have ht:texts (ms ++ [m])=texts ms ++ m.t:=by
   unfold texts;rw [List.flatMap_append];simp
  rw [ht,h8]
  show _=(L.drop p0).take (p - p0)
  have hmt:m.t=(L.drop c.p).take (p - c.p):=by
   rw [← e1,← e2]
   show _=(L.drop c.p).take (c.p+_ - c.p)
   rw [Nat.add_sub_cancel_left]
  rw [hmt,show p - p0=(c.p - p0)+(p - c.p) by omega,List.take_add,List.drop_drop,show p0+(c.p - p0)=c.p by omega]
theorem cv (cf:Cf) (W:M) (p0:Nat) (hcf:cf.strikes≤9):VK cf (CP cf W p0) (fun _ _ _=>False) where
 go:=fun G L c m p s hL h hst hn hk=>(cv_ cf W p0 hcf hL h hn).2
 end_:=fun G L c m p s hL h hst hn hk=>absurd hk (cv_ cf W p0 hcf hL h hn).1
 wr:=fun G L c q h=>by
  obtain ⟨h1,h2,h3,ms,h4,h5⟩:=h;refine ⟨h1,h2,h3,ms,?_,h5⟩
  show G ++ c.out.take q ++ c.out.drop q=_
  rw [List.append_assoc,List.take_append_drop,h4]
 wr2:=fun _ _ _ _ h=>h
theorem cp_begin (cf:Cf) {k:Nat} (hk:k≤16) {L:Bs} (hL:L.length≤1099511627776) {c:Cn} {p:Nat} (hp:p≤L.length) (hg:L.length - cf.log≤p) (ho:c.out=enc (welcome k p 0) ++ enc (mfloor 0)) (h1:c.p=p) (h2:c.s=0):CP cf (welcome k p 0) p [] L c:=by
 refine ⟨by omega,by omega,by omega,[],?_,?_,(fun m hm=>by cases hm),by omega,?_⟩
 ·rw [ho]
  unfold encs;simp
 ·intro m hm
  simp only [List.mem_cons,List.not_mem_nil,or_false] at hm
  rcases hm with rfl | rfl
  ·exact wel_ok hk (by omega)
  ·exact floor_ok0
 ·rw [h1,Nat.sub_self]
  rfl
end Bk
end
section
namespace Bk
open Fr Lx
theorem fm_of {f:BitVec 8×Bs} {m:M} (h:mof f=some m):fm m=f:=by
 unfold mof at h
 split at h
 ·next hk =>
  injection h with h
  subst h
  show (BitVec.ofInt 8 (f.1.toNat:Int),Ms.body _ _ _ _)=f
  rw [Ms.body_of hk,show BitVec.ofInt 8 (f.1.toNat:Int)=f.1 by
   apply BitVec.eq_of_toNat_eq
   rw [Ms.byte_nat];have:=f.1.isLt
   omega]
 ·cases h
theorem get_msg {l:Bs} {m:M} (he:(get l).err=0) (hm:mof ((get l).k,(get l).body)=some m):m.ok=true∧l=enc m ++ l.drop (get l).n∧(get l).n=(enc m).length∧(get l).n≤l.length:=by
 have h0:err l=0:=by
  by_cases x:err l=0
  ·exact x
  ·rw [get_no rfl x] at he
   exact absurd he x
 have hg:=get_yes h0
 have hb:0<num2 l∧num2 l+4≤l.length∧sum ((l.drop 2).take (num2 l))=num2 (l.drop (num2 l+2)):=by
  unfold err at h0
  split at h0
  ·cases h0
  ·split at h0
   ·cases h0
   ·split at h0
    ·cases h0
    ·split at h0
     ·cases h0
     ·next h1 h2 h3 h4=>exact ⟨by omega,by omega,Decidable.byContradiction h4⟩
 rw [hg] at hm ⊢;have hf:=fm_of hm;have hfr:=(fr_of l hb.1 hb.2.1).2 hb.2.2
 have he2:enc m=l.take (num2 l+4):=by rw [enc_fr,hf]; exact hfr
 refine ⟨(mof_ok hm).1,?_,?_,hb.2.1⟩
 ·show l=enc m ++ l.drop (num2 l+4)
  rw [he2,List.take_append_drop]
 ·show num2 l+4=_
  rw [he2,List.length_take];omega
theorem msg_get {m:M} (h:m.ok=true) (r:Bs):(get (enc m ++ r)).err=0∧mof ((get (enc m ++ r)).k,(get (enc m ++ r)).body)=some m∧(get (enc m ++ r)).n=(enc m).length:=by
 rw [enc_fr,get_fr _ _ _ (ok_len h),fr_len];exact ⟨rfl,mof_fm h,rfl⟩
theorem enc_apart {m n:M} (hm:m.ok=true) (hn:n.ok=true) {a b:Bs} (h:enc m ++ a=enc n ++ b):m=n∧a=b:=by
 have h1:=(msg_get hm a).2.1;have h2:=(msg_get hn b).2.1;rw [h,h2] at h1
 injection h1 with h1
 subst h1;exact ⟨rfl,List.append_cancel_left h⟩
theorem get_body (l:Bs):(get l).body.length≤l.length:=by
 unfold Fr.get
 split
 ·show ((l.drop 3).take _).length≤_
  rw [List.length_take,List.length_drop];omega
 ·exact Nat.zero_le _
def Stop (r:Bs):Prop:=∀ m r',m.ok=true→r≠enc m ++ r'
structure Msgs (t:Bs) (ms:List M) (r:Bs):Prop where
 all:t=encs ms ++ r
 ok:∀ m∈ms,m.ok=true
 stop:Stop r
theorem stop_nil:Stop []:=fun m r' _ h=>by
 have:=congrArg List.length h;rw [List.length_append,enc_len5] at this;simp at this;omega
theorem stop_get {l:Bs} (h:(get l).err≠0∨mof ((get l).k,(get l).body)=none):Stop l:=fun m r' hm e=>by
 subst e;obtain ⟨h1,h2,_⟩:=msg_get hm r'
 rcases h with h | h
 ·exact h h1
 ·rw [h2] at h; cases h
theorem msgs_pre:∀ (ms:List M) {t r tail:Bs} {all:List M},t=encs ms ++ r→(∀ m∈ms,m.ok=true)→(∀ m∈all,m.ok=true)→t ++ tail=encs all→Stop r→ms=all.take ms.length
  | [],_,_,_,_,_,_,_,_,_=>rfl
  | m :: ms,t,r,tail,[],h1,_,_,h4,_=>by
    rw [h1] at h4;have:=congrArg List.length h4;rw [show encs (m :: ms)=enc m ++ encs ms from rfl] at this;simp only [List.length_append,enc_len5] at this;simp [encs] at this
  | m :: ms,t,r,tail,n :: all,h1,h2,h3,h4,h5=>by
    rw [h1,show encs (m :: ms)=enc m ++ encs ms from rfl,show encs (n :: all)=enc n ++ encs all from rfl,List.append_assoc,List.append_assoc] at h4;obtain ⟨e1,e2⟩:=enc_apart (h2 m List.mem_cons_self) (h3 n List.mem_cons_self) h4;have:=msgs_pre ms (t:=encs ms ++ r) rfl (fun x hx=>h2 x (List.mem_cons_of_mem _ hx)) (fun x hx=>h3 x (List.mem_cons_of_mem _ hx)) (by rw [List.append_assoc]; exact e2) h5
    show m :: ms=n :: all.take ms.length
    rw [← this,e1]
theorem Msgs.pre {t r tail:Bs} {ms all:List M} (h:Msgs t ms r) (ha:∀ m∈all,m.ok=true) (he:t ++ tail=encs all):ms=all.take ms.length:=msgs_pre ms h.all h.ok ha he h.stop
theorem msgs_all:∀ (ms:List M) {t r:Bs} {all:List M},t=encs ms ++ r→(∀ m∈ms,m.ok=true)→(∀ m∈all,m.ok=true)→t=encs all→Stop r→ms=all∧r=[]
  | [],t,r,[],h1,_,_,h4,_=>⟨rfl,by rw [h4] at h1; exact h1.symm⟩
  | [],t,r,n :: all,h1,_,h3,h4,h5=>by
    rw [h4] at h1;exact absurd h1.symm (h5 n (encs all) (h3 n List.mem_cons_self))
  | m :: ms,t,r,[],h1,_,_,h4,_=>by
    rw [h1] at h4;have:=congrArg List.length h4;rw [show encs (m :: ms)=enc m ++ encs ms from rfl] at this;simp only [List.length_append,enc_len5] at this;simp [encs] at this
  | m :: ms,t,r,n :: all,h1,h2,h3,h4,h5=>by
    rw [h1,show encs (m :: ms)=enc m ++ encs ms from rfl,show encs (n :: all)=enc n ++ encs all from rfl,List.append_assoc] at h4;obtain ⟨e1,e2⟩:=enc_apart (h2 m List.mem_cons_self) (h3 n List.mem_cons_self) h4;obtain ⟨e3,e4⟩:=msgs_all ms (t:=encs ms ++ r) rfl (fun x hx=>h2 x (List.mem_cons_of_mem _ hx)) (fun x hx=>h3 x (List.mem_cons_of_mem _ hx)) e2 h5;exact ⟨by rw [e1,e3],e4⟩
end Bk
end
end Go.Proofs.YtalichkdeekdcaaGreatDoor
