/- PTv PQb PQu PQv PVf -/
import Derived.Test.YtalichkdeekdcaaGreatDoorZd06
section
namespace Go.Proofs.YtalichkdeekdcaaGreatDoor.Bk
open Fr Lx
def uM (w:Bool) (back:Int):M:=⟨1,if w then 5 else 4,back,[117#8]⟩
theorem uM_ok (w:Bool) {back:Int} (h0:0≤back) (h1:back≤1099511627776):(uM w back).ok=true:=by
 unfold M.ok uM
 rw [Ms.rt_iff]
 have:Ms.okN back true=true:=by unfold Ms.okN; simp; omega
 cases w
 ·exact ⟨rfl,rfl,this,show 1≤20 by decide⟩
 ·exact ⟨rfl,rfl,this,show 1≤20 by decide⟩
noncomputable def av1:Br:=bytesB (connectB (bnew cfd) 1) 1 (enc (uM true 0))
noncomputable def av2 (w:Bool):Br:=bytesB (connectB av1 2) 2 (enc (uM w 0))
theorem av_first:CW av1 107∧av1.fl=⟨100,0,[(1,2)],[]⟩∧av1.told=0∧Sm av1 (bnew cfd)∧(∀ j,(av1.cs j).isSome=(decide (j=1) || false))∧connectE (bnew cfd) 1=0∧bytesE (connectB (bnew cfd) 1) 1=0:=by
 have h0:=roles_begin
 obtain ⟨e1,e2,e3,e4,e5,e6,e7⟩:=h0.cw.come (k:=1) (m:=uM true 0) (by decide) (by decide) rfl (uM_ok true (by decide) (by decide)) rfl (by decide) (show isName [117#8]=true by decide) (Nat.le_zero.1 (viewAt_le _ _ _ _)) (by decide)
 exact ⟨e3,e4,e5,e6,fun j=>(e7 j).trans rfl,e1,e2⟩
theorem av_second (w:Bool):CW (av2 w) 214∧(av2 w).fl=⟨100,0,[(1,2),(2,if w then 1 else 0)],[]⟩∧(av2 w).told=0∧Sm (av2 w) (bnew cfd)∧(∀ j,((av2 w).cs j).isSome=(decide (j=2) || (decide (j=1) || false)))∧connectE av1 2=0∧bytesE (connectB av1 2) 2=0 ∧
  ∃ c,(av2 w).cs 2=some c∧c.out=enc (welcome 2 0 (if w then 1 else 0)) ++ enc (mfloor 0):=by
 obtain ⟨a1,a2,a3,a4,a5,_,_⟩:=av_first
 have hL:av1.L=[]:=a4.L
 have hno:av1.cs 2=none:=by
  rcases e:av1.cs 2 with _ | c
  ·rfl
  ·have:=a5 2; rw [e] at this; cases this
 have hat:comeAt av1 (uM w 0)=0:=by
  have:comeAt av1 (uM w 0)≤av1.L.length:=viewAt_le _ _ _ _
  rw [hL] at this
  exact Nat.le_zero.1 this
 have hro:comeRole av1 (uM w 0)=if w then 1 else 0:=by
  unfold comeRole
  rw [a2]
  cases w <;> rfl
 have hf:fjoin av1.fl ((2:Nat):Int) (comeRole av1 (uM w 0))=⟨100,0,[(1,2),(2,if w then 1 else 0)],[]⟩:=by
  rw [hro,a2]
  cases w <;> rfl
 have ho:=uM_ok w (back:=0) (by decide) (by decide)
 have hk4:(uM w 0).a / 4=1:=by cases w <;> decide
 have hnm:isName (uM w 0).t=true:=show isName [117#8]=true by decide
 have hq:107+60+47≤av1.cf.queue:=by rw [a4.cf]; decide
 obtain ⟨e1,e2,e3,e4,e5,e6,e7⟩:=a1.come (k:=2) (by decide) (by decide) hno ho rfl hk4 hnm (by rw [hat,hL]; rfl) hq
 have hX:=a1.comeX (k:=2) (by decide) (by decide) hno ho rfl hk4 hnm (by rw [hat,hL]; rfl) hq (by rw [hf,a3]; rfl)
 rw [hf] at e4 e5
 refine ⟨e3,e4,e5,e6.trans a4,fun j=>(e7 j).trans (by rw [a5 j]),e1,e2,Bk.come (setc av1 2 (some cnew)) 2 cnew (uM w 0),?_,?_⟩
 ·show (bytesB (connectB av1 ((2:Nat):Int)) ((2:Nat):Int) (enc (uM w 0))).cs 2=_
  rw [hX]
  show (setc (Bk.mapc av1 (hear (joined 2 (uM w 0).t))) 2 (some (Bk.come (setc av1 2 (some cnew)) 2 cnew (uM w 0)))).cs 2=_
  exact setc_cs _ _ _
 ·rw [(come_is (setc av1 2 (some cnew)) 2 cnew (uM w 0)).1]
  show [] ++ greet (setc av1 2 (some cnew)) 2 (comeAt av1 (uM w 0)) (comeRole av1 (uM w 0))=_
  rw [hat,hro]
  unfold greet
  have hend:(setc av1 2 (some cnew)).ended=false:=a4.ended
  have hto:(setc av1 2 (some cnew)).told=0:=a3
  rw [hend,hto]
  simp
noncomputable def av3:Br:=bytesB (av2 false) 1 (enc (keys 1 (esc wFloor)))
noncomputable def av4:Br:=outputB av3 [36#8,32#8]
noncomputable def av5:Br:=bytesB av4 1 (enc (keys 9 [108#8,115#8,10#8]))
noncomputable def av6:Br:=bytesB av5 2 (enc (keys 3 [120#8]))
def avOut:List M:=[welcome 2 0 0,mfloor 0,mfloor 1,dataM 0 [36#8,32#8],rejectM 3 3]
theorem av_is:bytesE (av2 false) 1=0∧outputE av3=0∧bytesE av4 1=0∧bytesE av5 2=0∧writeE av6 2=0∧writeT av6 2 65536=encs avOut∧drainT (writeB av6 2 65536) 99=[108#8,115#8,10#8]:=by
 obtain ⟨a1,a2,a3,a4,a5,_,_,c2,hc2,ho2⟩:=av_second false
 obtain ⟨c1,hc1⟩:=Option.isSome_iff_exists.1 (show ((av2 false).cs 1).isSome=true by rw [a5]; rfl)
 have ha:askE (av2 false).fl ((1:Nat):Int)=0:=by rw [a2]; decide
 have hd:=fun (b':Br) (hb:b'.fl=(av2 false).fl)=>fask_floor ha b' hb
 have hq2:214+22≤(av2 false).cf.queue:=by rw [a4.cf]; decide
 obtain ⟨b1,b2,b3,b4,b5,b6⟩:=a1.cmd hc1 (seq:=1) (s:=wFloor) (by decide) (by decide) (by decide) (by decide) hd hq2
 have hX:=(a1.cmdX hc1 (seq:=1) (s:=wFloor) (by decide) (by decide) (by decide) (by decide) hd hq2).2
 have hf:fask (av2 false).fl ((1:Nat):Int)=flD true:=by rw [a2]; rfl
 rw [hf] at b3 b4 hX
 replace hX:av3=_:=hX (by rw [a3]; decide)
 have b2:CW av3 236:=b2
 have b3:av3.fl=flD true:=b3
 have b4:av3.told=1:=b4.trans rfl
 have b5:Sm av3 (bnew cfd):=Sm.trans b5 a4
 have s2:=a1.cn 2 c2 hc2
 have hc3:av3.cs 2=some (plus (mfloor 1) c2):=by
  rw [hX]
  show ((setc (av2 false) 1 (some { c1 with idle:=0 })).cs 2).map (hear (mfloor (fhold (flD true))))=_
  rw [setc_ne _ 1 _ (by decide),hc2]
  show some (hear (mfloor 1) c2)=_
  unfold hear
  rw [if_pos s2.1]
 have hL3:av3.L=[]:=b5.L
 obtain ⟨d1,d2,d3⟩:=b2.outX (t:=[36#8,32#8]) (by rw [b3,b4]; rfl) (b5.ended) (by rw [b5.cf]; decide) (by rw [b5.cf]; decide) (by decide) (by rw [b5.cf]; decide)
 replace d1:av4=_:=d1
 rw [← d1] at d3
 have f4:av4.fl=flD true:=by rw [d1]; exact b3
 have t4:av4.told=1:=by rw [d1]; exact b4
 have q4:av4.cf=cfd:=by rw [d1]; exact b5.cf
 have i4:av4.inp=[]:=by rw [d1]; exact b5.inp
 have n4:av4.ended=false:=by rw [d1]; exact b5.ended
 have hc4:∃ c,av4.cs 2=some c∧c.out=c2.out ++ enc (mfloor 1) ++ enc (dataM 0 [36#8,32#8]):=by
  refine ⟨_,by rw [d1]; show (av3.cs 2).map (sv (av3.L ++ [36#8,32#8]))=_; rw [hc3]; rfl,?_⟩
  have hp:(plus (mfloor 1) c2).p=0:=by show c2.p=0; rw [s2.2.2.2.1,a4.L]; rfl
  unfold sv
  rw [hL3,hp,if_neg (by decide)]
  rfl
 obtain ⟨c4,hc4,ho4⟩:=hc4
 obtain ⟨k1,hk1⟩:=Option.isSome_iff_exists.1 (show (av4.cs 1).isSome=true by
  rw [d1]
  show ((av3.cs 1).map _).isSome=true
  rw [Option.isSome_map,show (av3.cs 1).isSome=_ from b6 1,a5]; rfl)
 obtain ⟨g1,g2,g3⟩:=d3.typed (by rw [f4,t4]; rfl) hk1 (seq:=9) (t:=[108#8,115#8,10#8]) (by decide) (by decide) (by decide) (by decide) (by decide) (by
  unfold whyB
  rw [n4,f4,i4,q4]
  decide)
 replace g1:av5=_:=g1
 rw [← g1] at g3
 have f5:av5.fl=flD true:=by rw [g1]; exact f4
 have t5:av5.told=1:=by rw [g1]; exact t4
 have q5:av5.cf=cfd:=by rw [g1]; exact q4
 have n5:av5.ended=false:=by rw [g1]; exact n4
 have i5:av5.inp=[108#8,115#8,10#8]:=by rw [g1]; show av4.inp ++ _=_; rw [i4]; rfl
 have hc5:av5.cs 2=some c4:=by
  rw [g1]
  show (setc av4 1 (some { k1 with idle:=0 })).cs 2=_
  rw [setc_ne _ 1 _ (by decide),hc4]
 have hw:whyB av5 ((2:Nat)) [120#8].length=3:=by
  unfold whyB
  rw [n5,f5]
  decide
 obtain ⟨h1,h2,h3⟩:=g3.rejected (by rw [f5,t5]; rfl) hc5 (seq:=3) (t:=[120#8]) (by decide) (by decide) (by decide) (by decide) (by decide) (by rw [hw]; decide) (by rw [q5]; decide)
 rw [hw] at h1 h3
 replace h1:av6=_:=h1
 rw [← h1] at h3
 have hc6:av6.cs 2=some (plus (rejectM 3 3) { c4 with idle:=0 }):=by rw [h1]; exact setc_cs _ _ _
 have f6:av6.fl=flD true:=by rw [h1]; exact f5
 have t6:av6.told=1:=by rw [h1]; exact t5
 have i6:av6.inp=[108#8,115#8,10#8]:=by rw [h1]; exact i5
 have hlen:(plus (rejectM 3 3) { c4 with idle:=0 }).out.length≤236+2+11+17:=(h3.cn 2 _ hc6).2.2.2.2
 obtain ⟨j1,j2,j3,j4⟩:=h3.flush (by rw [f6,t6]; rfl) hc6 (w:=65536) (by omega)
 refine ⟨b1,d2,g2,h2,j2,?_,?_⟩
 ·refine j1.trans ?_
  show c4.out ++ enc (rejectM 3 3)=_
  rw [ho4,ho2]
  unfold encs avOut
  simp
 ·have:(writeB av6 2 65536).inp=[108#8,115#8,10#8]:=by
   have h:writeB av6 2 65536=setc av6 2 _:=j3
   rw [h]
   exact i6
  unfold drainT
  rw [this]
  decide
end Go.Proofs.YtalichkdeekdcaaGreatDoor.Bk
end
section
namespace Go.Proofs.YtalichkdeekdcaaGreatDoor.Bk
open Fr Lx
structure KEv (P:Br→Prop):Prop extends KAll P where
 cut0:∀ b k c,P b→b.cs k=some c→c.st=2→P (setc b k none)
 new:∀ b k,P b→1≤k→k≤16→b.cs k=none→P (setc b k (some cnew))
 idle1:∀ b k c,P b→b.cs k=some c→P (setc b k (some { c with idle:=c.idle+1 }))
 wrote:∀ b k c n,P b→b.cs k=some c→P (setc b k (some { c with out:=c.out.drop n }))
 out:∀ b t,P b→b.ended=false→P { b with L:=b.L ++ t,sp:=Sp.nxts b.sp t }
 ended:∀ b n,P b→n≤255→b.ended=false→P { b with ended:=true,code:=n,inp:=[] }
 drained:∀ b n,P b→P { b with inp:=b.inp.drop n }
section
variable {P:Br→Prop} (K:KEv P) {b:Br}
include K
end
structure R3 (b:Br):Prop where
 rising:Rising b.fl.roles
 ro:∀ k:Nat,rhas b.fl.roles k=true→opn b k=true
 out:∀ k c,b.cs k=some c→c.out.length≤b.cf.queue
end Go.Proofs.YtalichkdeekdcaaGreatDoor.Bk
end
section
namespace Go.Proofs.YtalichkdeekdcaaGreatDoor.Bk
open Fr Lx
theorem holder_told:∀ (n:Nat) (b:Br),mu b≤n→fhold (holder b).fl=(holder b).told
  | n,b,hn=>by
    by_cases h:fhold b.fl=b.told
    · rw [holder_same h]; exact h
    · rw [holder_step h]
      have:=mu_step (mfloor (fhold b.fl)) h
      match n,hn with
      | 0,hn=>omega
      | n+1,hn=>exact holder_told n _ (by omega)
theorem holder_two (b:Br):holder (holder b)=holder b:=holder_same (holder_told _ b (Nat.le_refl _))
def Str (k:Nat) (b b':Br):Prop:=∃ c c',b.cs k=some c∧c.st=2∧c'.st=2∧c.out.length=c'.out.length∧b'=setc b k (some c')
section
variable {k:Nat} {b b':Br}
theorem Str.shut (h:Str k b b'):opn b k=false∧opn b' k=false:=by
 obtain ⟨c,c',e1,e2,e3,e4,rfl⟩:=h
 refine ⟨?_,?_⟩
 ·unfold opn; rw [e1]; simp [e2]
 ·unfold opn; rw [setc_cs]; simp [e3]
theorem Str.cs (h:Str k b b') {j:Nat} (hj:j≠k):b'.cs j=b.cs j:=by
 obtain ⟨c,c',e1,e2,e3,e4,rfl⟩:=h
 exact setc_ne _ _ _ hj
theorem Str.opn (h:Str k b b') (j:Nat):opn b' j=opn b j:=by
 by_cases e:j=k
 ·subst e; rw [h.shut.1,h.shut.2]
 ·unfold Bk.opn; rw [h.cs e]
theorem Str.set (h:Str k b b') {j:Nat} (hj:j≠k) (x:Option Cn):Str k (setc b j x) (setc b' j x):=by
 obtain ⟨c,c',e1,e2,e3,e4,rfl⟩:=h
 refine ⟨c,c',by rw [setc_ne _ _ _ (fun e=>hj e.symm)]; exact e1,e2,e3,e4,?_⟩
 unfold setc
 congr 1
 funext i
 by_cases h1:i=j
 ·subst h1; simp [hj]
 ·by_cases h2:i=k
  ·subst h2; simp [h1]
  ·simp [h1,h2]
theorem Str.fl (h:Str k b b'):b'.fl=b.fl∧b'.cf=b.cf∧b'.L=b.L∧b'.told=b.told∧b'.strikes=b.strikes∧b'.inp=b.inp∧b'.ended=b.ended:=by
 obtain ⟨c,c',e1,e2,e3,e4,rfl⟩:=h
 exact ⟨rfl,rfl,rfl,rfl,rfl,rfl,rfl⟩
theorem Str.setFl (h:Str k b b') (s:Fl):Str k (setFl b s) (setFl b' s):=by
 obtain ⟨c,c',e1,e2,e3,e4,rfl⟩:=h
 exact ⟨c,c',e1,e2,e3,e4,rfl⟩
theorem Str.told (h:Str k b b'):Str k (toldB b) (toldB b'):=by
 obtain ⟨c,c',e1,e2,e3,e4,rfl⟩:=h
 exact ⟨c,c',e1,e2,e3,e4,rfl⟩
theorem Str.goes {f:Br→Nat→Br} (hf:∀ {b b':Br} (j:Nat),Str k b b'→Bk.opn b j=true→Str k (f b j) (f b' j)):∀ (l:List Nat) {b b':Br},Str k b b'→Str k (Bk.goes f b l) (Bk.goes f b' l)
  | [],_,_,h=>h
  | j :: l,b,b',h=>by
    show Str k (Bk.goes f (if Bk.opn b j then f b j else b) l) (Bk.goes f (if Bk.opn b' j then f b' j else b') l)
    refine Str.goes hf l ?_
    rw [h.opn j]
    by_cases ho:Bk.opn b j=true
    · rw [if_pos ho,if_pos ho]; exact hf j h ho
    · rw [if_neg ho,if_neg ho]; exact h
theorem Str.leaveW {tl:M→Br→Br} (ht:∀ (m:M) {b b':Br},Str k b b'→Str k (tl m b) (tl m b')) (h:Str k b b') (j:Nat):Str k (leaveW tl b j) (leaveW tl b' j):=by
 by_cases hj:j=k
 ·subst hj
  obtain ⟨c,c',e1,e2,e3,e4,rfl⟩:=id h
  have w1:Bk.leaveW tl b j=b:=by
   unfold Bk.leaveW
   rw [e1]
   show (if c.st=1 then _ else setc b j (some { c with st:=2 }))=b
   rw [if_neg (by omega),show ({ c with st:=2 }:Cn)=c by rw [← e2],setc_as e1]
  have w2:Bk.leaveW tl (setc b j (some c')) j=setc b j (some c'):=by
   unfold Bk.leaveW
   rw [setc_cs]
   show (if c'.st=1 then _ else setc (setc b j (some c')) j (some { c' with st:=2 }))=_
   rw [if_neg (by omega),show ({ c' with st:=2 }:Cn)=c' by rw [← e3],setc_two]
  rw [w1,w2]
  exact h
 ·unfold Bk.leaveW
  rw [h.cs hj]
  rcases hc:b.cs j with _ | c
  ·exact h
  ·have h1:=h.set hj (some { c with st:=2 })
   show Str k (if c.st=1 then tl (left j) (Bk.setFl (setc b j (some { c with st:=2 })) (fleave b.fl j)) else setc b j (some { c with st:=2 })) (if c.st=1 then tl (left j) (Bk.setFl (setc b' j (some { c with st:=2 })) (fleave b'.fl j)) else setc b' j (some { c with st:=2 }))
   rw [h.fl.1]
   split
   ·exact ht _ (h1.setFl _)
   ·exact h1
theorem Str.sendW {lv:Br→Nat→Br} (hl:∀ {b b':Br} (j:Nat),Str k b b'→Str k (lv b j) (lv b' j)) (m:M) (h:Str k b b') (j:Nat):Str k (sendW lv m b j) (sendW lv m b' j):=by
 by_cases hj:j=k
 ·subst hj
  obtain ⟨c,c',e1,e2,e3,e4,rfl⟩:=id h
  have w1:Bk.sendW lv m b j=b:=by unfold Bk.sendW; rw [e1]; simp [e2]
  have w2:Bk.sendW lv m (setc b j (some c')) j=setc b j (some c'):=by unfold Bk.sendW; rw [setc_cs]; simp [e3]
  rw [w1,w2]
  exact h
 ·unfold Bk.sendW
  rw [h.cs hj]
  rcases hc:b.cs j with _ | c
  ·exact h
  ·show Str k (if c.st=2 then b else if c.out.length+(enc m).length≤b.cf.queue then setc b j (some (plus m c)) else lv b j) (if c.st=2 then b' else if c.out.length+(enc m).length≤b'.cf.queue then setc b' j (some (plus m c)) else lv b' j)
   rw [h.fl.2.1]
   split
   ·exact h
   ·split
    ·exact h.set hj _
    ·exact hl j h
theorem Str.tellN:∀ (n:Nat) (m:M) {b b':Br},Str k b b'→Str k (tellN n m b) (tellN n m b')
 | 0,_,_,_,h=>h
 | n+1,m,_,_,h=>Str.goes (fun j h _=>Str.sendW (fun j h=>Str.leaveW (fun m _ _ h=>Str.tellN n m h) h j) m h j) ids h
theorem Str.tell (m:M) (h:Str k b b'):Str k (tell m b) (tell m b'):=Str.tellN 17 m h
theorem Str.leave (h:Str k b b') (j:Nat):Str k (leave b j) (leave b' j):=Str.leaveW (fun m _ _ h=>Str.tellN 16 m h) h j
theorem Str.send (m:M) (h:Str k b b') (j:Nat):Str k (send m b j) (send m b' j):=Str.sendW (fun j h=>Str.leaveW (fun m _ _ h=>Str.tellN 16 m h) h j) m h j
theorem Str.holderN:∀ (n:Nat) {b b':Br},Str k b b'→Str k (holderN n b) (holderN n b')
  | 0,_,_,h=>h
  | n+1,b,b',h=>by
    show Str k (if fhold b.fl=b.told then b else Bk.holderN n (Bk.tell (mfloor (fhold b.fl)) (toldB b))) (if fhold b'.fl=b'.told then b' else Bk.holderN n (Bk.tell (mfloor (fhold b'.fl)) (toldB b')))
    rw [h.fl.1,h.fl.2.2.2.1]
    split
    · exact h
    · exact Str.holderN n (h.told.tell _)
theorem Str.holder (h:Str k b b'):Str k (holder b) (holder b'):=Str.holderN 18 h
theorem Str.served (h:Str k b b') {j:Nat} (hj:j≠k) (c:Cn) (m:M) (p s:Nat):Str k (served b j c m p s) (served b' j c m p s):=by
 unfold Bk.served
 rw [h.fl.2.1]
 exact h.set hj _
theorem Str.serveN:∀ (n:Nat) {b b':Br} (j:Nat),Str k b b'→j≠k→Str k (serveN n b j) (serveN n b' j)
  | 0,_,_,_,h,_=>h
  | n+1,b,b',j,h,hj=>by
    rcases hc:b.cs j with _ | c
    · have h1:Bk.serveN (n+1) b j=b:=by show (match b.cs j with | none=>b | some c=>_)=b; rw [hc]
      have h2:Bk.serveN (n+1) b' j=b':=by show (match b'.cs j with | none=>b' | some c=>_)=b'; rw [h.cs hj,hc]
      rw [h1,h2]
      exact h
    · rw [serveN_succ n b j hc,serveN_succ n b' j (by rw [h.cs hj]; exact hc)]
      have hn:nextB b' c=nextB b c:=by
        unfold nextB
        rw [h.fl.2.2.1,h.fl.2.1,h.fl.2.2.2.2.1]
      rw [hn]
      rcases nextB b c with _ | ⟨m,p,s⟩
      · exact h
      · have h1:=h.served hj c m p s
        show Str k (if m.k=12 then Bk.leave (Bk.served b j c m p s) j else Bk.serveN n (Bk.served b j c m p s) j) (if m.k=12 then Bk.leave (Bk.served b' j c m p s) j else Bk.serveN n (Bk.served b' j c m p s) j)
        split
        · exact h1.leave j
        · exact Str.serveN n j h1 hj
theorem Str.serve (h:Str k b b') (j:Nat) (hj:j≠k):Str k (serve b j) (serve b' j):=by
 unfold Bk.serve
 rw [h.fl.2.2.1]
 exact Str.serveN _ j h hj
def Sim (k:Nat) (b b':Br):Prop:=opn b k=false∧(b'=b∨Str k b b')
theorem shut_core (k:Nat):KCore (fun b=>opn b k=false) where
 gone:=fun b j c h hc _ _=>by
  have:opn (setc b j (some { c with st:=2 })) k=false:=by
   rw [opn_setc]
   split
   ·rfl
   ·exact h
  unfold gone
  split
  ·exact this
  ·exact this
 plus:=fun b j c m h hc _ _=>by
  show opn (setc b j (some (plus m c))) k=false
  rw [opn_setc]
  split
  ·next e =>
   subst e
   unfold opn at h
   rw [hc] at h
   exact h
  ·exact h
 told:=fun b h=>h
 served:=fun b j c m p s h hc _ _=>by
  show opn (setc b j (some _)) k=false
  rw [opn_setc]
  split
  ·next e =>
   subst e
   unfold opn at h
   rw [hc] at h
   show decide ((putc b.cf.queue { c with p:=p,s:=s } (enc m)).st=1)=false
   rw [(putc_same _ _ _).1]
   exact h
  ·exact h
 reap:=fun b h=>by
  unfold opn at h ⊢
  show (match (if 1≤k∧k≤16∧done b k=true then none else b.cs k) with | some c=>decide (c.st=1) | none=>false)=false
  split
  ·next hx =>
   split at hx
   ·cases hx
   ·rw [hx] at h; exact h
  ·rfl
theorem Str.reap (h:Str k b b'):Sim k (reap b) (reap b'):=by
 refine ⟨(shut_core k).reap b h.shut.1,?_⟩
 obtain ⟨c,c',e1,e2,e3,e4,rfl⟩:=h
 have hd:∀ j,done (setc b k (some c')) j=done b j:=fun j=>by
  unfold done
  by_cases e:j=k
  ·subst e
   rw [setc_cs,e1]
   show decide (c'.st=2∧c'.out=[])=decide (c.st=2∧c.out=[])
   rw [e2,e3]
   have:(c'.out=[])↔(c.out=[]):=by rw [← List.length_eq_zero_iff,← List.length_eq_zero_iff,e4]
   simp [this]
  ·rw [setc_ne _ _ _ e]
 by_cases hk:1≤k∧k≤16∧done b k=true
 ·left
  show ({ setc b k (some c') with cs:=_ }:Br)={ b with cs:=_ }
  show ({ b with cs:=fun j=>if 1≤j∧j≤16∧done (setc b k (some c')) j=true then none else (setc b k (some c')).cs j }:Br)=_
  congr 1
  funext j
  rw [hd]
  by_cases e:j=k
  ·subst e; rw [if_pos hk,if_pos hk]
  ·rw [setc_ne _ _ _ e]
 ·right
  refine ⟨c,c',?_,e2,e3,e4,?_⟩
  ·show (if 1≤k∧k≤16∧done b k=true then none else b.cs k)=_
   rw [if_neg hk]; exact e1
  ·show ({ b with cs:=fun j=>if 1≤j∧j≤16∧done (setc b k (some c')) j=true then none else (setc b k (some c')).cs j }:Br)={ b with cs:=fun j=>if j=k then some c' else (if 1≤j∧j≤16∧done b j=true then none else b.cs j) }
   congr 1
   funext j
   rw [hd]
   by_cases e:j=k
   ·subst e; rw [if_neg hk,if_pos rfl,setc_cs]
   ·rw [setc_ne _ _ _ e,if_neg e]
theorem Str.settle (h:Str k b b'):Sim k (settle b) (settle b'):=by
 unfold Bk.settle
 refine (Str.holder (Str.goes (fun {b b'} j h ho=>h.serve j fun e=>?_) ids h.holder)).reap
 subst e
 rw [h.shut.1] at ho
 cases ho
end
end Go.Proofs.YtalichkdeekdcaaGreatDoor.Bk
end
section
namespace Go.Proofs.YtalichkdeekdcaaGreatDoor.Bk
open Fr Lx
theorem leave_str {b:Br} {k:Nat} {c c':Cn} (h1:c.st=1) (h2:c'.st=1) (ho:c.out.length=c'.out.length):Str k (leave (setc b k (some c)) k) (leave (setc b k (some c')) k):=by
 have hl:∀ d:Cn,d.st=1→leave (setc b k (some d)) k=tellN 16 (left k) (setFl (setc b k (some { d with st:=2 })) (fleave b.fl k)):=fun d hd=>by
  show leaveW (tellN 16) (setc b k (some d)) k=_
  unfold leaveW
  rw [setc_cs]
  show (if d.st=1 then tellN 16 (left k) (setFl (setc (setc b k (some d)) k (some { d with st:=2 })) (fleave b.fl k)) else _)=_
  rw [if_pos hd,setc_two]
 rw [hl c h1,hl c' h2]
 refine Str.tellN 16 _ ⟨{ c with st:=2 },{ c' with st:=2 },setc_cs b k _,rfl,rfl,ho,?_⟩
 show setFl (setc b k _) _=setFl (setc (setc b k _) k _) _
 rw [setc_two]
 rfl
theorem shut_str {b:Br} {k:Nat} {c c':Cn} (h1:c.st=1) (h2:c'.st=1) (ho:c.out.length=c'.out.length) (w w':Nat):Str k (shut (setc b k (some c)) k w) (shut (setc b k (some c')) k w'):=by
 unfold shut
 by_cases hf:c.out.length+11≤b.cf.queue
 ·rw [send_fits (setc_cs b k _) (by omega) (by rw [closed_len]; exact hf),send_fits (setc_cs b k _) (by omega) (by rw [closed_len]; show c'.out.length+11≤b.cf.queue; omega),setc_two,setc_two]
  refine leave_str h1 h2 ?_
  show (c.out ++ _).length=(c'.out ++ _).length
  rw [List.length_append,List.length_append,closed_len,closed_len,ho]
 ·have hs:∀ (d:Cn) (x:Nat),d.st=1→¬ d.out.length+11≤b.cf.queue→send (closed x) (setc b k (some d)) k=leave (setc b k (some d)) k:=fun d x hd hn=>by
   show sendW (leaveN 16) (closed x) (setc b k (some d)) k=_
   unfold sendW
   rw [setc_cs]
   show (if d.st=2 then _ else if d.out.length+(enc (closed x)).length≤b.cf.queue then _ else leaveN 16 (setc b k (some d)) k)=_
   rw [if_neg (by omega),if_neg (by rw [closed_len]; exact hn)]
   rfl
  rw [hs c w h1 hf,hs c' w' h2 (by omega)]
  exact (leave_str h1 h2 ho).leave k
def bye:M:=⟨4,0,0,[]⟩
theorem bye_ok:bye.ok=true:=by decide
theorem err_zeros (junk:Bs):err (0#8 :: 0#8 :: junk)≠5∧err (0#8 :: 0#8 :: junk)≠0:=by
 have h:num2 (0#8 :: 0#8 :: junk)=0:=rfl
 have:=err_long (l:=0#8 :: 0#8 :: junk) (by simp) (.inl h)
 rw [this]
 exact ⟨by decide,by decide⟩
theorem apart_sim {b:Br} {k:Nat} {c:Cn} (h1:1≤k) (h2:k≤16) (hc:b.cs k=some c) (hst:c.st=1) (hfd:c.fd=fd0) (junk:Bs) :
  bytesE b (k:Nat)=0∧Sim k (bytesB b (k:Nat) (0#8 :: 0#8 :: junk)) (bytesB b (k:Nat) (enc bye)):=by
 obtain ⟨e1,e2⟩:=bytes_one h1 h2 hc hfd (by omega) bye_ok
 refine ⟨e2,?_⟩
 rw [e1]
 have hk:((k:Nat):Int).toNat=k:=by omega
 have hz:bytesB b (k:Nat) (0#8 :: 0#8 :: junk)=settle (recvB (setc b k (some { c with idle:=0 })) k (0#8 :: 0#8 :: junk)):=by
  unfold bytesB
  rw [if_pos e2,hk]
  show settle (recvB (match b.cs k with | some c=>(if (0#8 :: 0#8 :: junk:Bs)=[] then b else setc b k (some { c with idle:=0 })) | none=>b) k _)=_
  rw [hc]
  show settle (recvB (if (0#8 :: 0#8 :: junk:Bs)=[] then b else setc b k (some { c with idle:=0 })) k _)=_
  rw [if_neg (by simp)]
 obtain ⟨n5,n0⟩:=err_zeros junk
 have htf:tfs (0#8 :: 0#8 :: junk)=[]∧trest (0#8 :: 0#8 :: junk)=0#8 :: 0#8 :: junk:=by
  have:=tells_eq (Tells.stop (0#8 :: 0#8 :: junk) n0)
  exact ⟨this.1.symm,this.2.symm⟩
 have hp:(fpush c.fd (0#8 :: 0#8 :: junk)).e≠0∧fgot c.fd (0#8 :: 0#8 :: junk)=[]:=by
  rw [hfd]
  unfold fpush fgot
  show (if (0:Nat)=0 then (⟨keep (trest (0#8 :: 0#8 :: junk)),broke (trest (0#8 :: 0#8 :: junk))⟩:Fs) else _).e≠0∧(if (0:Nat)=0 then tfs (0#8 :: 0#8 :: junk) else [])=[]
  rw [if_pos rfl,if_pos rfl,htf.1,htf.2]
  exact ⟨by show broke (0#8 :: 0#8 :: junk)≠0; rw [(keep_else n5).2]; exact n0,rfl⟩
 have hr:recvB (setc b k (some { c with idle:=0 })) k (0#8 :: 0#8 :: junk)=shut (setc b k (some { c with idle:=0,fd:=fpush c.fd (0#8 :: 0#8 :: junk) })) k 1:=by
  rw [recvB_eq (setc_cs _ _ _)]
  show recvX (fpush c.fd (0#8 :: 0#8 :: junk)).e (takes (setc (setc b k _) k (some { c with idle:=0,fd:=fpush c.fd (0#8 :: 0#8 :: junk) })) k (fgot c.fd (0#8 :: 0#8 :: junk))) k=_
  rw [hp.2,setc_two]
  show recvX _ (setc b k (some { c with idle:=0,fd:=fpush c.fd (0#8 :: 0#8 :: junk) })) k=_
  rw [recvX_shut hp.1 (by unfold closing; rw [setc_cs]; simp [hst])]
 have ht:takeB (setc b k (some { c with idle:=0 })) k (some bye)=shut (setc b k (some { c with idle:=0 })) k 0:=by
  unfold takeB
  rw [setc_cs]
  show (if decide (c.st=0)=true then _ else if (4:Int)=2 then _ else if (4:Int)=3 then _ else if (4:Int)=4 then shut _ k 0 else _)=_
  rw [if_neg (by simp; omega),if_neg (by decide),if_neg (by decide),if_pos rfl]
 rw [hz,hr,ht]
 have hs:=shut_str (b:=b) (k:=k) (c:={ c with idle:=0,fd:=fpush c.fd (0#8 :: 0#8 :: junk) }) (c':={ c with idle:=0 }) hst hst rfl 1 0
 have e:settle (holder (shut (setc b k (some { c with idle:=0 })) k 0))=settle (shut (setc b k (some { c with idle:=0 })) k 0):=by
  unfold settle
  rw [holder_two]
 rw [e]
 exact hs.settle
end Go.Proofs.YtalichkdeekdcaaGreatDoor.Bk
end
section
namespace Go.Proofs.YtalichkdeekdcaaGreatDoor.Bk
open Fr Lx
section
variable {k:Nat} {b b':Br}
theorem Str.shutB (h:Str k b b') (j w:Nat):Str k (Bk.shut b j w) (Bk.shut b' j w):=by
 unfold Bk.shut
 exact (h.send _ j).leave j
theorem Str.code (h:Str k b b'):b'.code=b.code∧b'.tot=b.tot∧b'.sp=b.sp:=by
 obtain ⟨c,c',e1,e2,e3,e4,rfl⟩:=h
 exact ⟨rfl,rfl,rfl⟩
theorem Str.closing (h:Str k b b') (j:Nat):closing b' j=closing b j:=by
 by_cases e:j=k
 ·subst e
  obtain ⟨c,c',e1,e2,e3,e4,rfl⟩:=h
  unfold Bk.closing
  rw [setc_cs,e1]
  simp [e2,e3]
 ·unfold Bk.closing; rw [h.cs e]
theorem Str.same (h:Str k b b') {f:Br→Br} (hc:∀ x:Br,(f x).cs=x.cs) (hf:∀ (x:Br) (d:Option Cn),f (setc x k d)=setc (f x) k d):Str k (f b) (f b'):=by
 obtain ⟨c,c',e1,e2,e3,e4,rfl⟩:=h
 exact ⟨c,c',by rw [hc]; exact e1,e2,e3,e4,hf b _⟩
theorem Str.joinB (h:Str k b b') {j:Nat} (hj:j≠k) (m:M):Str k (Bk.joinB b j m) (Bk.joinB b' j m):=by
 rw [joinB_eq,joinB_eq]
 have h1:=h.tell (joined j m.t)
 obtain ⟨b1,hb1⟩:∃ b1,Bk.tell (joined j m.t) b=b1:=⟨_,rfl⟩
 obtain ⟨b2,hb2⟩:∃ b2,Bk.tell (joined j m.t) b'=b2:=⟨_,rfl⟩
 rw [hb1,hb2] at h1 ⊢
 rw [h1.cs hj]
 rcases b1.cs j with _ | c
 ·exact h1
 ·show Str k (joinR b1 j c m) (joinR b2 j c m)
  have hat:comeAt b2 m=comeAt b1 m:=by unfold comeAt; rw [h1.fl.2.2.1,h1.fl.2.1]
  have hro:comeRole b2 m=comeRole b1 m:=by unfold comeRole; rw [h1.fl.1]
  have hY:∀ {x y:Br},Str k x y→Str k (joinY x j) (joinY y j):=fun {x y} hx=>by
   unfold joinY
   rw [hx.fl.2.2.2.2.2.2,hx.code.1]
   split
   ·exact hx.send _ j
   ·exact hx
  have hX:∀ {x y:Br},Str k x y→Str k (joinX x j) (joinX y j):=fun {x y} hx=>by
   unfold joinX
   rw [hx.fl.2.2.2.1]
   exact hY (hx.send _ j)
  unfold joinR
  rw [hat,hro,h1.fl.1]
  exact hX (((h1.set hj _).setFl _).send _ j)
theorem Str.hello (h:Str k b b') {j:Nat} (hj:j≠k) (m:M):Str k (Bk.hello b j m) (Bk.hello b' j m):=by
 unfold Bk.hello
 split
 ·exact h.shutB j _
 split
 ·exact h.shutB j _
 split
 ·exact h.shutB j _
 ·exact h.joinB hj m
theorem Str.listB (h:Str k b b') (j:Nat):Str k (Bk.listB b j) (Bk.listB b' j):=by
 unfold Bk.listB
 refine Str.goes (fun {x y} i hx ho=>?_) ids h
 have hi:i≠k:=fun e=>by subst e; rw [hx.shut.1] at ho; cases ho
 have:listLine y i=listLine x i:=by
  unfold listLine
  rw [hx.cs hi,hx.fl.1]
 rw [this]
 exact hx.send _ j
theorem Str.userB (h:Str k b b') (n:Int):Bk.userB b' n=Bk.userB b n:=by unfold Bk.userB; rw [h.opn]
theorem Str.doB (h:Str k b b') {j:Nat} (hj:j≠k) (o:Option (Int×Int)):Str k (Bk.doB b j o).1 (Bk.doB b' j o).1∧(Bk.doB b' j o).2=(Bk.doB b j o).2:=by
 rcases o with _ | ⟨kind,n⟩
 ·exact ⟨h,rfl⟩
 ·have hu:=h.userB n
  have hcj:=h.cs hj
  obtain ⟨c,c',e1,e2,e3,e4,hb⟩:=id h
  subst hb
  unfold Bk.doB
  dsimp only
  rw [hu,hcj]
  show Str k (if isOwners kind=true∧rrole b.fl.roles j≠2 then (b,false) else _:Br×Bool).1 (if isOwners kind=true∧rrole b.fl.roles j≠2 then (setc b k (some c'),false) else _:Br×Bool).1∧(if isOwners kind=true∧rrole b.fl.roles j≠2 then (setc b k (some c'),false) else _:Br×Bool).2=(if isOwners kind=true∧rrole b.fl.roles j≠2 then (b,false) else _:Br×Bool).2
  by_cases h0:isOwners kind=true∧rrole b.fl.roles j≠2
  ·rw [if_pos h0,if_pos h0]; exact ⟨h,rfl⟩
  rw [if_neg h0,if_neg h0]
  by_cases h1:kind=1
  ·rw [if_pos h1,if_pos h1]; exact ⟨h.setFl _,rfl⟩
  rw [if_neg h1,if_neg h1]
  by_cases h2:kind=2
  ·rw [if_pos h2,if_pos h2]; exact ⟨h.setFl _,rfl⟩
  rw [if_neg h2,if_neg h2]
  by_cases h3:kind=3
  ·rw [if_pos h3,if_pos h3]; exact ⟨h.listB j,rfl⟩
  rw [if_neg h3,if_neg h3]
  by_cases h4:kind=4
  ·rw [if_pos h4,if_pos h4]; exact ⟨h.shutB j 0,rfl⟩
  rw [if_neg h4,if_neg h4]
  by_cases h5:kind=5
  ·rw [if_pos h5,if_pos h5]; exact ⟨h.setFl _,rfl⟩
  rw [if_neg h5,if_neg h5]
  by_cases h6:kind=10
  ·rw [if_pos h6,if_pos h6]
   rcases b.cs j with _ | c
   ·exact ⟨h,rfl⟩
   ·exact ⟨h.set hj _,rfl⟩
  rw [if_neg h6,if_neg h6]
  by_cases h7:kind=11
  ·rw [if_pos h7,if_pos h7]
   by_cases h8:9<n
   ·rw [if_pos h8,if_pos h8]; exact ⟨h,rfl⟩
   ·rw [if_neg h8,if_neg h8]; exact ⟨h.same (f:=fun x=>{ x with strikes:=n.toNat }) (fun _=>rfl) (fun _ _=>rfl),rfl⟩
  rw [if_neg h7,if_neg h7]
  rcases Bk.userB b n with _ | i
  ·exact ⟨h,rfl⟩
  ·show Str k (if kind=6 then _ else if kind=7 then _ else if kind=8 then _ else if kind=9 then _ else _:Br×Bool).1 (if kind=6 then _ else if kind=7 then _ else if kind=8 then _ else if kind=9 then _ else _:Br×Bool).1∧(if kind=6 then _ else if kind=7 then _ else if kind=8 then _ else if kind=9 then _ else _:Br×Bool).2=(if kind=6 then _ else if kind=7 then _ else if kind=8 then _ else if kind=9 then _ else _:Br×Bool).2
   by_cases h8:kind=6
   ·rw [if_pos h8,if_pos h8]; exact ⟨h.setFl _,rfl⟩
   rw [if_neg h8,if_neg h8]
   by_cases h9:kind=7
   ·rw [if_pos h9,if_pos h9]; exact ⟨h.shutB i 5,rfl⟩
   rw [if_neg h9,if_neg h9]
   by_cases h10:kind=8
   ·rw [if_pos h10,if_pos h10]; exact ⟨h.setFl _,rfl⟩
   rw [if_neg h10,if_neg h10]
   by_cases h11:kind=9
   ·rw [if_pos h11,if_pos h11]; exact ⟨h.setFl _,rfl⟩
   rw [if_neg h11,if_neg h11]
   exact ⟨h,rfl⟩
theorem Str.cmds {j:Nat} (hj:j≠k):∀ (l:List Bs) {b b':Br},Str k b b'→Str k (Bk.cmds b j l) (Bk.cmds b' j l)
  | [],_,_,h=>h
  | s :: l,b,b',h=>by
    show Str k (if Bk.opn b j then Bk.cmds (Bk.holder (if (Bk.doB b j (parse s)).2 then (Bk.doB b j (parse s)).1 else Bk.send ⟨11,0,0,s⟩ (Bk.doB b j (parse s)).1 j)) j l else b) (if Bk.opn b' j then Bk.cmds (Bk.holder (if (Bk.doB b' j (parse s)).2 then (Bk.doB b' j (parse s)).1 else Bk.send ⟨11,0,0,s⟩ (Bk.doB b' j (parse s)).1 j)) j l else b')
    obtain ⟨h1,h2⟩:=h.doB hj (parse s)
    rw [h.opn,h2]
    split
    · refine Str.cmds hj l (Str.holder ?_)
      split
      · exact h1
      · exact h1.send _ j
    · exact h
theorem Str.offered (h:Str k b b') (j:Nat) (a:Int) (ks:Bs):Str k (Bk.offered b j a ks) (Bk.offered b' j a ks):=by
 have hw:whyB b' j ks.length=whyB b j ks.length:=by
  unfold whyB
  rw [h.fl.1,h.fl.2.1,h.fl.2.2.2.2.2.1,h.fl.2.2.2.2.2.2]
 unfold Bk.offered
 rw [hw]
 split
 ·exact h
 ·split
  ·exact h.same (f:=fun x=>{ x with inp:=x.inp ++ ks,tot:=x.tot+ks.length }) (fun _=>rfl) (fun _ _=>rfl)
  ·exact h.send _ j
theorem Str.keysB (h:Str k b b') {j:Nat} (hj:j≠k) (m:M):Str k (Bk.keysB b j m) (Bk.keysB b' j m):=by
 rcases hc:b.cs j with _ | c
 ·have hc':b'.cs j=none:=by rw [h.cs hj]; exact hc
  unfold Bk.keysB
  rw [hc,hc']
  exact h
 ·have hc':b'.cs j=some c:=by rw [h.cs hj]; exact hc
  rw [keysB_eq hc,keysB_eq hc']
  exact Str.cmds hj _ ((h.set hj _).offered j _ _)
theorem Str.takeB (h:Str k b b') {j:Nat} (hj:j≠k) (o:Option M):Str k (Bk.takeB b j o) (Bk.takeB b' j o):=by
 rcases o with _ | m
 ·exact h.shutB j 4
 ·unfold Bk.takeB
  rw [h.cs hj]
  dsimp only
  have hT:Str k (if m.k=2 then Bk.keysB b j m else if m.k=3 then Bk.send ⟨14,0,0,[]⟩ b j else if m.k=4 then Bk.shut b j 0 else Bk.shut b j 4) (if m.k=2 then Bk.keysB b' j m else if m.k=3 then Bk.send ⟨14,0,0,[]⟩ b' j else if m.k=4 then Bk.shut b' j 0 else Bk.shut b' j 4):=by
   split
   ·exact h.keysB hj m
   split
   ·exact h.send _ j
   split
   ·exact h.shutB j 0
   ·exact h.shutB j 4
  have hQ:∀ q:Bool,Str k (if q=true then Bk.hello b j m else if m.k=2 then Bk.keysB b j m else if m.k=3 then Bk.send ⟨14,0,0,[]⟩ b j else if m.k=4 then Bk.shut b j 0 else Bk.shut b j 4) (if q=true then Bk.hello b' j m else if m.k=2 then Bk.keysB b' j m else if m.k=3 then Bk.send ⟨14,0,0,[]⟩ b' j else if m.k=4 then Bk.shut b' j 0 else Bk.shut b' j 4):=fun q=>by
   by_cases h0:q=true
   ·rw [if_pos h0,if_pos h0]; exact h.hello hj m
   ·rw [if_neg h0,if_neg h0]; exact hT
  exact hQ _
theorem Str.takes {j:Nat} (hj:j≠k):∀ (l:List (BitVec 8×Bs)) {b b':Br},Str k b b'→Str k (Bk.takes b j l) (Bk.takes b' j l)
  | [],_,_,h=>h
  | f :: l,b,b',h=>by
    show Str k (if Bk.closing b j then b else Bk.takes (Bk.holder (Bk.takeB b j (mof f))) j l) (if Bk.closing b' j then b' else Bk.takes (Bk.holder (Bk.takeB b' j (mof f))) j l)
    rw [h.closing]
    split
    · exact h
    · exact Str.takes hj l (h.takeB hj _).holder
theorem Str.recvB (h:Str k b b') {j:Nat} (hj:j≠k) (t:Bs):Str k (Bk.recvB b j t) (Bk.recvB b' j t):=by
 rcases hc:b.cs j with _ | c
 ·have hc':b'.cs j=none:=by rw [h.cs hj]; exact hc
  unfold Bk.recvB
  rw [hc,hc']
  exact h
 ·have hc':b'.cs j=some c:=by rw [h.cs hj]; exact hc
  rw [recvB_eq hc,recvB_eq hc']
  have h1:=Str.takes hj (fgot c.fd t) (h.set hj (some { c with fd:=fpush c.fd t }))
  unfold recvX
  rw [h1.closing]
  split
  ·exact h1
  ·exact h1.shutB j 1
def Sm2 (k:Nat) (b b':Br):Prop:=b'=b∨Str k b b'
theorem Sim.two (h:Sim k b b'):Sm2 k b b':=h.2
theorem Str.two (h:Str k b b'):Sm2 k b b':=.inr h
theorem Sm2.there (h:Sm2 k b b') {id:Int} (hid:id≠(k:Nat)):isThere b' id=isThere b id∧((1≤id∧id≤16)→b'.cs id.toNat=b.cs id.toNat):=by
 rcases h with rfl | h
 ·exact ⟨rfl,fun _=>rfl⟩
 ·refine ⟨?_,fun hi=>h.cs (by omega)⟩
  unfold isThere
  by_cases hi:1≤id∧id≤16
  ·rw [h.cs (show id.toNat≠k by omega)]
  ·rw [decide_eq_false hi]; rfl
theorem there_in {id:Int} (h:isThere b id=true):1≤id∧id≤16:=by
 unfold isThere at h
 rw [Bool.and_eq_true,decide_eq_true_eq] at h
 exact h.1
theorem Sm2.connect (h:Sm2 k b b') {id:Int} (hid:id≠(k:Nat)):connectE b' id=connectE b id∧Sm2 k (connectB b id) (connectB b' id):=by
 have ht:=(h.there hid).1
 have he:connectE b' id=connectE b id:=by unfold connectE; rw [ht]
 refine ⟨he,?_⟩
 rcases h with rfl | h
 ·exact .inl rfl
 ·unfold connectB
  rw [he]
  split
  ·next h0 =>
   have hi:1≤id∧id≤16:=by
    unfold connectE at h0
    split at h0
    ·cases h0
    ·omega
   exact (h.set (show id.toNat≠k by omega) _).two
  ·exact h.two
theorem Sm2.bytes (h:Sm2 k b b') {id:Int} (hid:id≠(k:Nat)) (t:Bs):bytesE b' id=bytesE b id∧Sm2 k (bytesB b id t) (bytesB b' id t):=by
 obtain ⟨ht,hcs⟩:=h.there hid
 have he:bytesE b' id=bytesE b id:=by
  rcases h with rfl | h
  ·rfl
  ·unfold bytesE; rw [ht,h.closing]
 refine ⟨he,?_⟩
 rcases h with rfl | h
 ·exact .inl rfl
 ·unfold bytesB
  rw [he]
  split
  ·next h0 =>
   have hi:1≤id∧id≤16:=by
    unfold bytesE at h0
    split at h0
    ·next h1=>exact there_in h1
    ·cases h0
   have hk:id.toNat≠k:=by omega
   dsimp only
   rw [hcs hi]
   refine (Str.settle (Str.recvB ?_ hk t)).two
   rcases b.cs id.toNat with _ | c
   ·exact h
   ·dsimp only
    split
    ·exact h
    ·exact h.set hk _
  ·exact h.two
theorem Sm2.write (h:Sm2 k b b') {id:Int} (hid:id≠(k:Nat)) (n:Int):writeE b' id=writeE b id∧writeT b' id n=writeT b id n∧Sm2 k (writeB b id n) (writeB b' id n):=by
 obtain ⟨ht,hcs⟩:=h.there hid
 rcases h with rfl | h
 ·exact ⟨rfl,rfl,.inl rfl⟩
 ·refine ⟨by unfold writeE; rw [ht],?_,?_⟩
  ·unfold writeT
   rw [ht]
   split
   ·next h1=>rw [hcs (there_in h1)]
   ·rfl
  ·unfold writeB
   rw [ht]
   split
   ·next h1 =>
    have hi:=there_in h1
    rw [hcs hi]
    rcases b.cs id.toNat with _ | c
    ·exact h.two
    ·exact (h.set (show id.toNat≠k by omega) _).settle.two
   ·exact h.two
theorem Sm2.cut (h:Sm2 k b b') {id:Int} (hid:id≠(k:Nat)):Sm2 k (cutB b id) (cutB b' id):=by
 obtain ⟨ht,hcs⟩:=h.there hid
 rcases h with rfl | h
 ·exact .inl rfl
 ·unfold cutB
  rw [ht]
  split
  ·next h1 =>
   have hi:=there_in h1
   exact ((h.leave _).set (show id.toNat≠k by omega) _).settle.two
  ·exact h.two
theorem Sm2.output (h:Sm2 k b b') (t:Bs):outputE b'=outputE b∧Sm2 k (outputB b t) (outputB b' t):=by
 rcases h with rfl | h
 ·exact ⟨rfl,.inl rfl⟩
 ·refine ⟨by unfold outputE; rw [h.fl.2.2.2.2.2.2],?_⟩
  unfold outputB
  have he:=h.fl.2.2.2.2.2.2
  by_cases x:b.ended=true
  ·rw [if_pos x,if_pos (he.trans x)]; exact h.two
  ·rw [if_neg x,if_neg (by rw [he]; exact x)]
   exact (Str.settle (h.same (f:=fun x=>{ x with L:=x.L ++ t,sp:=Sp.nxts x.sp t }) (fun _=>rfl) (fun _ _=>rfl))).two
theorem Sm2.drain (h:Sm2 k b b') (n:Int):drainT b' n=drainT b n∧Sm2 k (drainB b n) (drainB b' n):=by
 rcases h with rfl | h
 ·exact ⟨rfl,.inl rfl⟩
 ·refine ⟨by unfold drainT; rw [h.fl.2.2.2.2.2.1],.inr ?_⟩
  exact h.same (f:=fun x=>drainB x n) (fun _=>rfl) (fun _ _=>rfl)
theorem Sm2.ends (h:Sm2 k b b') (code:Int):endE b' code=endE b code∧Sm2 k (endB b code) (endB b' code):=by
 rcases h with rfl | h
 ·exact ⟨rfl,.inl rfl⟩
 ·have he:endE b' code=endE b code:=by unfold endE; rw [h.fl.2.2.2.2.2.2]
  refine ⟨he,?_⟩
  unfold endB
  rw [he]
  split
  ·exact (Str.settle (Str.tell _ (h.same (f:=fun x=>{ x with ended:=true,code:=code.toNat,inp:=[] }) (fun _=>rfl) (fun _ _=>rfl)))).two
  ·exact h.two
theorem Str.tickC (h:Str k b b') (j:Nat):Str k (Bk.tickC b j) (Bk.tickC b' j):=by
 by_cases e:j=k
 ·subst e
  obtain ⟨c,c',e1,e2,e3,e4,rfl⟩:=h
  have hx:∀ (x:Br) (d:Cn),x.cs j=some d→d.st=2→Bk.tickC x j=setc x j (some { d with idle:=d.idle+1 }):=fun x d hd hst=>by
   unfold Bk.tickC
   rw [hd]
   show (if x.cf.idle≠0∧x.cf.idle≤d.idle+1 then Bk.shut (setc x j (some { d with idle:=d.idle+1 })) j 6 else _)=_
   rw [shut_closing (c:={ d with idle:=d.idle+1 }) (setc_cs _ _ _) hst]
   split <;> rfl
  rw [hx b c e1 e2,hx (setc b j (some c')) c' (setc_cs _ _ _) e3,setc_two]
  exact ⟨{ c with idle:=c.idle+1 },{ c' with idle:=c'.idle+1 },setc_cs _ _ _,e2,e3,e4,(setc_two _ _ _ _).symm⟩
 ·unfold Bk.tickC
  rw [h.cs e]
  rcases b.cs j with _ | c
  ·exact h
  ·dsimp only
   rw [h.fl.2.1]
   split
   ·exact (h.set e _).shutB j 6
   ·exact h.set e _
theorem Str.ticks:∀ (l:List Nat) {b b':Br},Str k b b'→Str k (l.foldl Bk.tickC b) (l.foldl Bk.tickC b')
 | [],_,_,h=>h
 | j :: l,_,_,h=>Str.ticks l (h.tickC j)
theorem Sm2.tick (h:Sm2 k b b'):Sm2 k (tickB b) (tickB b'):=by
 rcases h with rfl | h
 ·exact .inl rfl
 ·unfold tickB
  rw [h.fl.1]
  exact (Str.settle (Str.ticks ids (h.setFl _))).two
end
end Go.Proofs.YtalichkdeekdcaaGreatDoor.Bk
end
