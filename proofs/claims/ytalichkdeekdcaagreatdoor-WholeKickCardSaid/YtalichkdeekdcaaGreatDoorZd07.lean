/- PTv PQb -/
import Derived.Test.YtalichkdeekdcaaGreatDoorZd06
section
namespace Go.Proofs.YtalichkdeekdcaaGreatDoor.Bk
open Fr Lx
def uM (w:Bool) (back:Int):M:=⟨1,if w then 5 else 4,back,[117#8]⟩
theorem uM_ok (w:Bool) {back:Int} (h0:0≤back) (h1:back≤1099511627776):(uM w back).ok=true:=by
 unfold M.ok uM
 rw [Ms.rt_iff]
 have:Ms.okN back true=true:=by unfold Ms.okN; simp; omega
 cases w
 ·exact ⟨rfl,rfl,this,show 1≤20 by decide⟩
 ·exact ⟨rfl,rfl,this,show 1≤20 by decide⟩
noncomputable def av1:Br:=bytesB (connectB (bnew cfd) 1) 1 (enc (uM true 0))
noncomputable def av2 (w:Bool):Br:=bytesB (connectB av1 2) 2 (enc (uM w 0))
theorem av_first:CW av1 107∧av1.fl=⟨100,0,[(1,2)],[]⟩∧av1.told=0∧Sm av1 (bnew cfd)∧(∀ j,(av1.cs j).isSome=(decide (j=1) || false))∧connectE (bnew cfd) 1=0∧bytesE (connectB (bnew cfd) 1) 1=0:=by
 have h0:=roles_begin
 obtain ⟨e1,e2,e3,e4,e5,e6,e7⟩:=h0.cw.come (k:=1) (m:=uM true 0) (by decide) (by decide) rfl (uM_ok true (by decide) (by decide)) rfl (by decide) (show isName [117#8]=true by decide) (Nat.le_zero.1 (viewAt_le _ _ _ _)) (by decide)
 exact ⟨e3,e4,e5,e6,fun j=>(e7 j).trans rfl,e1,e2⟩
theorem av_second (w:Bool):CW (av2 w) 214∧(av2 w).fl=⟨100,0,[(1,2),(2,if w then 1 else 0)],[]⟩∧(av2 w).told=0∧Sm (av2 w) (bnew cfd)∧(∀ j,((av2 w).cs j).isSome=(decide (j=2) || (decide (j=1) || false)))∧connectE av1 2=0∧bytesE (connectB av1 2) 2=0 ∧
  ∃ c,(av2 w).cs 2=some c∧c.out=enc (welcome 2 0 (if w then 1 else 0)) ++ enc (mfloor 0):=by
 obtain ⟨a1,a2,a3,a4,a5,_,_⟩:=av_first
 have hL:av1.L=[]:=a4.L
 have hno:av1.cs 2=none:=by
  rcases e:av1.cs 2 with _ | c
  ·rfl
  ·have:=a5 2; rw [e] at this; cases this
 have hat:comeAt av1 (uM w 0)=0:=by
  have:comeAt av1 (uM w 0)≤av1.L.length:=viewAt_le _ _ _ _
  rw [hL] at this
  exact Nat.le_zero.1 this
 have hro:comeRole av1 (uM w 0)=if w then 1 else 0:=by
  unfold comeRole
  rw [a2]
  cases w <;> rfl
 have hf:fjoin av1.fl ((2:Nat):Int) (comeRole av1 (uM w 0))=⟨100,0,[(1,2),(2,if w then 1 else 0)],[]⟩:=by
  rw [hro,a2]
  cases w <;> rfl
 have ho:=uM_ok w (back:=0) (by decide) (by decide)
 have hk4:(uM w 0).a / 4=1:=by cases w <;> decide
 have hnm:isName (uM w 0).t=true:=show isName [117#8]=true by decide
 have hq:107+60+47≤av1.cf.queue:=by rw [a4.cf]; decide
 obtain ⟨e1,e2,e3,e4,e5,e6,e7⟩:=a1.come (k:=2) (by decide) (by decide) hno ho rfl hk4 hnm (by rw [hat,hL]; rfl) hq
 have hX:=a1.comeX (k:=2) (by decide) (by decide) hno ho rfl hk4 hnm (by rw [hat,hL]; rfl) hq (by rw [hf,a3]; rfl)
 rw [hf] at e4 e5
 refine ⟨e3,e4,e5,e6.trans a4,fun j=>(e7 j).trans (by rw [a5 j]),e1,e2,Bk.come (setc av1 2 (some cnew)) 2 cnew (uM w 0),?_,?_⟩
 ·show (bytesB (connectB av1 ((2:Nat):Int)) ((2:Nat):Int) (enc (uM w 0))).cs 2=_
  rw [hX]
  show (setc (Bk.mapc av1 (hear (joined 2 (uM w 0).t))) 2 (some (Bk.come (setc av1 2 (some cnew)) 2 cnew (uM w 0)))).cs 2=_
  exact setc_cs _ _ _
 ·rw [(come_is (setc av1 2 (some cnew)) 2 cnew (uM w 0)).1]
  show [] ++ greet (setc av1 2 (some cnew)) 2 (comeAt av1 (uM w 0)) (comeRole av1 (uM w 0))=_
  rw [hat,hro]
  unfold greet
  have hend:(setc av1 2 (some cnew)).ended=false:=a4.ended
  have hto:(setc av1 2 (some cnew)).told=0:=a3
  rw [hend,hto]
  simp
noncomputable def av3:Br:=bytesB (av2 false) 1 (enc (keys 1 (esc wFloor)))
noncomputable def av4:Br:=outputB av3 [36#8,32#8]
noncomputable def av5:Br:=bytesB av4 1 (enc (keys 9 [108#8,115#8,10#8]))
noncomputable def av6:Br:=bytesB av5 2 (enc (keys 3 [120#8]))
def avOut:List M:=[welcome 2 0 0,mfloor 0,mfloor 1,dataM 0 [36#8,32#8],rejectM 3 3]
theorem av_is:bytesE (av2 false) 1=0∧outputE av3=0∧bytesE av4 1=0∧bytesE av5 2=0∧writeE av6 2=0∧writeT av6 2 65536=encs avOut∧drainT (writeB av6 2 65536) 99=[108#8,115#8,10#8]:=by
 obtain ⟨a1,a2,a3,a4,a5,_,_,c2,hc2,ho2⟩:=av_second false
 obtain ⟨c1,hc1⟩:=Option.isSome_iff_exists.1 (show ((av2 false).cs 1).isSome=true by rw [a5]; rfl)
 have ha:askE (av2 false).fl ((1:Nat):Int)=0:=by rw [a2]; decide
 have hd:=fun (b':Br) (hb:b'.fl=(av2 false).fl)=>fask_floor ha b' hb
 have hq2:214+22≤(av2 false).cf.queue:=by rw [a4.cf]; decide
 obtain ⟨b1,b2,b3,b4,b5,b6⟩:=a1.cmd hc1 (seq:=1) (s:=wFloor) (by decide) (by decide) (by decide) (by decide) hd hq2
 have hX:=(a1.cmdX hc1 (seq:=1) (s:=wFloor) (by decide) (by decide) (by decide) (by decide) hd hq2).2
 have hf:fask (av2 false).fl ((1:Nat):Int)=flD true:=by rw [a2]; rfl
 rw [hf] at b3 b4 hX
 replace hX:av3=_:=hX (by rw [a3]; decide)
 have b2:CW av3 236:=b2
 have b3:av3.fl=flD true:=b3
 have b4:av3.told=1:=b4.trans rfl
 have b5:Sm av3 (bnew cfd):=Sm.trans b5 a4
 have s2:=a1.cn 2 c2 hc2
 have hc3:av3.cs 2=some (plus (mfloor 1) c2):=by
  rw [hX]
  show ((setc (av2 false) 1 (some { c1 with idle:=0 })).cs 2).map (hear (mfloor (fhold (flD true))))=_
  rw [setc_ne _ 1 _ (by decide),hc2]
  show some (hear (mfloor 1) c2)=_
  unfold hear
  rw [if_pos s2.1]
 have hL3:av3.L=[]:=b5.L
 obtain ⟨d1,d2,d3⟩:=b2.outX (t:=[36#8,32#8]) (by rw [b3,b4]; rfl) (b5.ended) (by rw [b5.cf]; decide) (by rw [b5.cf]; decide) (by decide) (by rw [b5.cf]; decide)
 replace d1:av4=_:=d1
 rw [← d1] at d3
 have f4:av4.fl=flD true:=by rw [d1]; exact b3
 have t4:av4.told=1:=by rw [d1]; exact b4
 have q4:av4.cf=cfd:=by rw [d1]; exact b5.cf
 have i4:av4.inp=[]:=by rw [d1]; exact b5.inp
 have n4:av4.ended=false:=by rw [d1]; exact b5.ended
 have hc4:∃ c,av4.cs 2=some c∧c.out=c2.out ++ enc (mfloor 1) ++ enc (dataM 0 [36#8,32#8]):=by
  refine ⟨_,by rw [d1]; show (av3.cs 2).map (sv (av3.L ++ [36#8,32#8]))=_; rw [hc3]; rfl,?_⟩
  have hp:(plus (mfloor 1) c2).p=0:=by show c2.p=0; rw [s2.2.2.2.1,a4.L]; rfl
  unfold sv
  rw [hL3,hp,if_neg (by decide)]
  rfl
 obtain ⟨c4,hc4,ho4⟩:=hc4
 obtain ⟨k1,hk1⟩:=Option.isSome_iff_exists.1 (show (av4.cs 1).isSome=true by
  rw [d1]
  show ((av3.cs 1).map _).isSome=true
  rw [Option.isSome_map,show (av3.cs 1).isSome=_ from b6 1,a5]; rfl)
 obtain ⟨g1,g2,g3⟩:=d3.typed (by rw [f4,t4]; rfl) hk1 (seq:=9) (t:=[108#8,115#8,10#8]) (by decide) (by decide) (by decide) (by decide) (by decide) (by
  unfold whyB
  rw [n4,f4,i4,q4]
  decide)
 replace g1:av5=_:=g1
 rw [← g1] at g3
 have f5:av5.fl=flD true:=by rw [g1]; exact f4
 have t5:av5.told=1:=by rw [g1]; exact t4
 have q5:av5.cf=cfd:=by rw [g1]; exact q4
 have n5:av5.ended=false:=by rw [g1]; exact n4
 have i5:av5.inp=[108#8,115#8,10#8]:=by rw [g1]; show av4.inp ++ _=_; rw [i4]; rfl
 have hc5:av5.cs 2=some c4:=by
  rw [g1]
  show (setc av4 1 (some { k1 with idle:=0 })).cs 2=_
  rw [setc_ne _ 1 _ (by decide),hc4]
 have hw:whyB av5 ((2:Nat)) [120#8].length=3:=by
  unfold whyB
  rw [n5,f5]
  decide
 obtain ⟨h1,h2,h3⟩:=g3.rejected (by rw [f5,t5]; rfl) hc5 (seq:=3) (t:=[120#8]) (by decide) (by decide) (by decide) (by decide) (by decide) (by rw [hw]; decide) (by rw [q5]; decide)
 rw [hw] at h1 h3
 replace h1:av6=_:=h1
 rw [← h1] at h3
 have hc6:av6.cs 2=some (plus (rejectM 3 3) { c4 with idle:=0 }):=by rw [h1]; exact setc_cs _ _ _
 have f6:av6.fl=flD true:=by rw [h1]; exact f5
 have t6:av6.told=1:=by rw [h1]; exact t5
 have i6:av6.inp=[108#8,115#8,10#8]:=by rw [h1]; exact i5
 have hlen:(plus (rejectM 3 3) { c4 with idle:=0 }).out.length≤236+2+11+17:=(h3.cn 2 _ hc6).2.2.2.2
 obtain ⟨j1,j2,j3,j4⟩:=h3.flush (by rw [f6,t6]; rfl) hc6 (w:=65536) (by omega)
 refine ⟨b1,d2,g2,h2,j2,?_,?_⟩
 ·refine j1.trans ?_
  show c4.out ++ enc (rejectM 3 3)=_
  rw [ho4,ho2]
  unfold encs avOut
  simp
 ·have:(writeB av6 2 65536).inp=[108#8,115#8,10#8]:=by
   have h:writeB av6 2 65536=setc av6 2 _:=j3
   rw [h]
   exact i6
  unfold drainT
  rw [this]
  decide
end Go.Proofs.YtalichkdeekdcaaGreatDoor.Bk
end
section
namespace Go.Proofs.YtalichkdeekdcaaGreatDoor.Bk
open Fr Lx
structure KEv (P:Br→Prop):Prop extends KAll P where
 cut0:∀ b k c,P b→b.cs k=some c→c.st=2→P (setc b k none)
 new:∀ b k,P b→1≤k→k≤16→b.cs k=none→P (setc b k (some cnew))
 idle1:∀ b k c,P b→b.cs k=some c→P (setc b k (some { c with idle:=c.idle+1 }))
 wrote:∀ b k c n,P b→b.cs k=some c→P (setc b k (some { c with out:=c.out.drop n }))
 out:∀ b t,P b→b.ended=false→P { b with L:=b.L ++ t,sp:=Sp.nxts b.sp t }
 ended:∀ b n,P b→n≤255→b.ended=false→P { b with ended:=true,code:=n,inp:=[] }
 drained:∀ b n,P b→P { b with inp:=b.inp.drop n }
section
variable {P:Br→Prop} (K:KEv P) {b:Br}
include K
end
structure R3 (b:Br):Prop where
 rising:Rising b.fl.roles
 ro:∀ k:Nat,rhas b.fl.roles k=true→opn b k=true
 out:∀ k c,b.cs k=some c→c.out.length≤b.cf.queue
end Go.Proofs.YtalichkdeekdcaaGreatDoor.Bk
end
