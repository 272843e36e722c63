/- PTv PQb PQw PUw -/
import Derived.Test.YtalichkdeekdcaaGreatDoorZd06
section
namespace Go.Proofs.YtalichkdeekdcaaGreatDoor.Bk
open Fr Lx
def uM (w:Bool) (back:Int):M:=⟨1,if w then 5 else 4,back,[117#8]⟩
theorem uM_ok (w:Bool) {back:Int} (h0:0≤back) (h1:back≤1099511627776):(uM w back).ok=true:=by
 unfold M.ok uM
 rw [Ms.rt_iff]
 have:Ms.okN back true=true:=by unfold Ms.okN; simp; omega
 cases w
 ·exact ⟨rfl,rfl,this,show 1≤20 by decide⟩
 ·exact ⟨rfl,rfl,this,show 1≤20 by decide⟩
noncomputable def av1:Br:=bytesB (connectB (bnew cfd) 1) 1 (enc (uM true 0))
noncomputable def av2 (w:Bool):Br:=bytesB (connectB av1 2) 2 (enc (uM w 0))
theorem av_first:CW av1 107∧av1.fl=⟨100,0,[(1,2)],[]⟩∧av1.told=0∧Sm av1 (bnew cfd)∧(∀ j,(av1.cs j).isSome=(decide (j=1) || false))∧connectE (bnew cfd) 1=0∧bytesE (connectB (bnew cfd) 1) 1=0:=by
 have h0:=roles_begin
 obtain ⟨e1,e2,e3,e4,e5,e6,e7⟩:=h0.cw.come (k:=1) (m:=uM true 0) (by decide) (by decide) rfl (uM_ok true (by decide) (by decide)) rfl (by decide) (show isName [117#8]=true by decide) (Nat.le_zero.1 (viewAt_le _ _ _ _)) (by decide)
 exact ⟨e3,e4,e5,e6,fun j=>(e7 j).trans rfl,e1,e2⟩
theorem av_second (w:Bool):CW (av2 w) 214∧(av2 w).fl=⟨100,0,[(1,2),(2,if w then 1 else 0)],[]⟩∧(av2 w).told=0∧Sm (av2 w) (bnew cfd)∧(∀ j,((av2 w).cs j).isSome=(decide (j=2) || (decide (j=1) || false)))∧connectE av1 2=0∧bytesE (connectB av1 2) 2=0 ∧
  ∃ c,(av2 w).cs 2=some c∧c.out=enc (welcome 2 0 (if w then 1 else 0)) ++ enc (mfloor 0):=by
 obtain ⟨a1,a2,a3,a4,a5,_,_⟩:=av_first
 have hL:av1.L=[]:=a4.L
 have hno:av1.cs 2=none:=by
  rcases e:av1.cs 2 with _ | c
  ·rfl
  ·have:=a5 2; rw [e] at this; cases this
 have hat:comeAt av1 (uM w 0)=0:=by
  have:comeAt av1 (uM w 0)≤av1.L.length:=viewAt_le _ _ _ _
  rw [hL] at this
  exact Nat.le_zero.1 this
 have hro:comeRole av1 (uM w 0)=if w then 1 else 0:=by
  unfold comeRole
  rw [a2]
  cases w <;> rfl
 have hf:fjoin av1.fl ((2:Nat):Int) (comeRole av1 (uM w 0))=⟨100,0,[(1,2),(2,if w then 1 else 0)],[]⟩:=by
  rw [hro,a2]
  cases w <;> rfl
 have ho:=uM_ok w (back:=0) (by decide) (by decide)
 have hk4:(uM w 0).a / 4=1:=by cases w <;> decide
 have hnm:isName (uM w 0).t=true:=show isName [117#8]=true by decide
 have hq:107+60+47≤av1.cf.queue:=by rw [a4.cf]; decide
 obtain ⟨e1,e2,e3,e4,e5,e6,e7⟩:=a1.come (k:=2) (by decide) (by decide) hno ho rfl hk4 hnm (by rw [hat,hL]; rfl) hq
 have hX:=a1.comeX (k:=2) (by decide) (by decide) hno ho rfl hk4 hnm (by rw [hat,hL]; rfl) hq (by rw [hf,a3]; rfl)
 rw [hf] at e4 e5
 refine ⟨e3,e4,e5,e6.trans a4,fun j=>(e7 j).trans (by rw [a5 j]),e1,e2,Bk.come (setc av1 2 (some cnew)) 2 cnew (uM w 0),?_,?_⟩
 ·show (bytesB (connectB av1 ((2:Nat):Int)) ((2:Nat):Int) (enc (uM w 0))).cs 2=_
  rw [hX]
  show (setc (Bk.mapc av1 (hear (joined 2 (uM w 0).t))) 2 (some (Bk.come (setc av1 2 (some cnew)) 2 cnew (uM w 0)))).cs 2=_
  exact setc_cs _ _ _
 ·rw [(come_is (setc av1 2 (some cnew)) 2 cnew (uM w 0)).1]
  show [] ++ greet (setc av1 2 (some cnew)) 2 (comeAt av1 (uM w 0)) (comeRole av1 (uM w 0))=_
  rw [hat,hro]
  unfold greet
  have hend:(setc av1 2 (some cnew)).ended=false:=a4.ended
  have hto:(setc av1 2 (some cnew)).told=0:=a3
  rw [hend,hto]
  simp
noncomputable def av3:Br:=bytesB (av2 false) 1 (enc (keys 1 (esc wFloor)))
noncomputable def av4:Br:=outputB av3 [36#8,32#8]
noncomputable def av5:Br:=bytesB av4 1 (enc (keys 9 [108#8,115#8,10#8]))
noncomputable def av6:Br:=bytesB av5 2 (enc (keys 3 [120#8]))
def avOut:List M:=[welcome 2 0 0,mfloor 0,mfloor 1,dataM 0 [36#8,32#8],rejectM 3 3]
theorem av_is:bytesE (av2 false) 1=0∧outputE av3=0∧bytesE av4 1=0∧bytesE av5 2=0∧writeE av6 2=0∧writeT av6 2 65536=encs avOut∧drainT (writeB av6 2 65536) 99=[108#8,115#8,10#8]:=by
 obtain ⟨a1,a2,a3,a4,a5,_,_,c2,hc2,ho2⟩:=av_second false
 obtain ⟨c1,hc1⟩:=Option.isSome_iff_exists.1 (show ((av2 false).cs 1).isSome=true by rw [a5]; rfl)
 have ha:askE (av2 false).fl ((1:Nat):Int)=0:=by rw [a2]; decide
 have hd:=fun (b':Br) (hb:b'.fl=(av2 false).fl)=>fask_floor ha b' hb
 have hq2:214+22≤(av2 false).cf.queue:=by rw [a4.cf]; decide
 obtain ⟨b1,b2,b3,b4,b5,b6⟩:=a1.cmd hc1 (seq:=1) (s:=wFloor) (by decide) (by decide) (by decide) (by decide) hd hq2
 have hX:=(a1.cmdX hc1 (seq:=1) (s:=wFloor) (by decide) (by decide) (by decide) (by decide) hd hq2).2
 have hf:fask (av2 false).fl ((1:Nat):Int)=flD true:=by rw [a2]; rfl
 rw [hf] at b3 b4 hX
 replace hX:av3=_:=hX (by rw [a3]; decide)
 have b2:CW av3 236:=b2
 have b3:av3.fl=flD true:=b3
 have b4:av3.told=1:=b4.trans rfl
 have b5:Sm av3 (bnew cfd):=Sm.trans b5 a4
 have s2:=a1.cn 2 c2 hc2
 have hc3:av3.cs 2=some (plus (mfloor 1) c2):=by
  rw [hX]
  show ((setc (av2 false) 1 (some { c1 with idle:=0 })).cs 2).map (hear (mfloor (fhold (flD true))))=_
  rw [setc_ne _ 1 _ (by decide),hc2]
  show some (hear (mfloor 1) c2)=_
  unfold hear
  rw [if_pos s2.1]
 have hL3:av3.L=[]:=b5.L
 obtain ⟨d1,d2,d3⟩:=b2.outX (t:=[36#8,32#8]) (by rw [b3,b4]; rfl) (b5.ended) (by rw [b5.cf]; decide) (by rw [b5.cf]; decide) (by decide) (by rw [b5.cf]; decide)
 replace d1:av4=_:=d1
 rw [← d1] at d3
 have f4:av4.fl=flD true:=by rw [d1]; exact b3
 have t4:av4.told=1:=by rw [d1]; exact b4
 have q4:av4.cf=cfd:=by rw [d1]; exact b5.cf
 have i4:av4.inp=[]:=by rw [d1]; exact b5.inp
 have n4:av4.ended=false:=by rw [d1]; exact b5.ended
 have hc4:∃ c,av4.cs 2=some c∧c.out=c2.out ++ enc (mfloor 1) ++ enc (dataM 0 [36#8,32#8]):=by
  refine ⟨_,by rw [d1]; show (av3.cs 2).map (sv (av3.L ++ [36#8,32#8]))=_; rw [hc3]; rfl,?_⟩
  have hp:(plus (mfloor 1) c2).p=0:=by show c2.p=0; rw [s2.2.2.2.1,a4.L]; rfl
  unfold sv
  rw [hL3,hp,if_neg (by decide)]
  rfl
 obtain ⟨c4,hc4,ho4⟩:=hc4
 obtain ⟨k1,hk1⟩:=Option.isSome_iff_exists.1 (show (av4.cs 1).isSome=true by
  rw [d1]
  show ((av3.cs 1).map _).isSome=true
  rw [Option.isSome_map,show (av3.cs 1).isSome=_ from b6 1,a5]; rfl)
 obtain ⟨g1,g2,g3⟩:=d3.typed (by rw [f4,t4]; rfl) hk1 (seq:=9) (t:=[108#8,115#8,10#8]) (by decide) (by decide) (by decide) (by decide) (by decide) (by
  unfold whyB
  rw [n4,f4,i4,q4]
  decide)
 replace g1:av5=_:=g1
 rw [← g1] at g3
 have f5:av5.fl=flD true:=by rw [g1]; exact f4
 have t5:av5.told=1:=by rw [g1]; exact t4
 have q5:av5.cf=cfd:=by rw [g1]; exact q4
 have n5:av5.ended=false:=by rw [g1]; exact n4
 have i5:av5.inp=[108#8,115#8,10#8]:=by rw [g1]; show av4.inp ++ _=_; rw [i4]; rfl
 have hc5:av5.cs 2=some c4:=by
  rw [g1]
  show (setc av4 1 (some { k1 with idle:=0 })).cs 2=_
  rw [setc_ne _ 1 _ (by decide),hc4]
 have hw:whyB av5 ((2:Nat)) [120#8].length=3:=by
  unfold whyB
  rw [n5,f5]
  decide
 obtain ⟨h1,h2,h3⟩:=g3.rejected (by rw [f5,t5]; rfl) hc5 (seq:=3) (t:=[120#8]) (by decide) (by decide) (by decide) (by decide) (by decide) (by rw [hw]; decide) (by rw [q5]; decide)
 rw [hw] at h1 h3
 replace h1:av6=_:=h1
 rw [← h1] at h3
 have hc6:av6.cs 2=some (plus (rejectM 3 3) { c4 with idle:=0 }):=by rw [h1]; exact setc_cs _ _ _
 have f6:av6.fl=flD true:=by rw [h1]; exact f5
 have t6:av6.told=1:=by rw [h1]; exact t5
 have i6:av6.inp=[108#8,115#8,10#8]:=by rw [h1]; exact i5
 have hlen:(plus (rejectM 3 3) { c4 with idle:=0 }).out.length≤236+2+11+17:=(h3.cn 2 _ hc6).2.2.2.2
 obtain ⟨j1,j2,j3,j4⟩:=h3.flush (by rw [f6,t6]; rfl) hc6 (w:=65536) (by omega)
 refine ⟨b1,d2,g2,h2,j2,?_,?_⟩
 ·refine j1.trans ?_
  show c4.out ++ enc (rejectM 3 3)=_
  rw [ho4,ho2]
  unfold encs avOut
  simp
 ·have:(writeB av6 2 65536).inp=[108#8,115#8,10#8]:=by
   have h:writeB av6 2 65536=setc av6 2 _:=j3
   rw [h]
   exact i6
  unfold drainT
  rw [this]
  decide
end Go.Proofs.YtalichkdeekdcaaGreatDoor.Bk
end
section
namespace Go.Proofs.YtalichkdeekdcaaGreatDoor.Bk
open Fr Lx
structure KEv (P:Br→Prop):Prop extends KAll P where
 cut0:∀ b k c,P b→b.cs k=some c→c.st=2→P (setc b k none)
 new:∀ b k,P b→1≤k→k≤16→b.cs k=none→P (setc b k (some cnew))
 idle1:∀ b k c,P b→b.cs k=some c→P (setc b k (some { c with idle:=c.idle+1 }))
 wrote:∀ b k c n,P b→b.cs k=some c→P (setc b k (some { c with out:=c.out.drop n }))
 out:∀ b t,P b→b.ended=false→P { b with L:=b.L ++ t,sp:=Sp.nxts b.sp t }
 ended:∀ b n,P b→n≤255→b.ended=false→P { b with ended:=true,code:=n,inp:=[] }
 drained:∀ b n,P b→P { b with inp:=b.inp.drop n }
section
variable {P:Br→Prop} (K:KEv P) {b:Br}
include K
end
structure R3 (b:Br):Prop where
 rising:Rising b.fl.roles
 ro:∀ k:Nat,rhas b.fl.roles k=true→opn b k=true
 out:∀ k c,b.cs k=some c→c.out.length≤b.cf.queue
end Go.Proofs.YtalichkdeekdcaaGreatDoor.Bk
end
section
namespace Go.Proofs.YtalichkdeekdcaaGreatDoor.Bk
open Fr Lx
def up (k n:Nat):List Int:=(List.range' k n).map fun j:Nat=>(j:Int)
theorem up_succ (k n:Nat):up k (n+1)=(k:Int) :: up (k+1) n:=by unfold up; rw [List.range'_succ]; rfl
theorem up_snoc (k n:Nat):up k (n+1)=up k n ++ [((k+n:Nat):Int)]:=by unfold up; rw [List.range'_1_concat,List.map_append]; rfl
theorem up_len (k n:Nat):(up k n).length=n:=by simp [up]
theorem up_mem {k n:Nat} {i:Int} (h:i∈up k n):(k:Int)≤i∧i<((k+n:Nat):Int):=by
 unfold up at h
 obtain ⟨j,hj,rfl⟩:=List.mem_map.1 h
 have:=List.mem_range'_1.1 hj
 omega
structure St (N L:Nat) (s:Fl) (k n l:Nat):Prop where
 ok:FOk N s
 lease:s.lease=L
 line:s.line=up k n
 left:s.left=l
section
variable {N L k n l:Nat} {s:Fl}
theorem St.hold (h:St N L s k (n+1) l):fhold s=k:=by unfold fhold; rw [h.line,up_succ]; rfl
theorem St.len (h:St N L s k n l):s.line.length=n:=by rw [h.line,up_len]
theorem St.tick1 (h:St N L s k (n+1) l) (hl:1<l):St N L (ftick s) k (n+1) (l - 1):=by
 have hlen:=h.len
 have e:ftick s={ s with left:=s.left - 1 }:=by unfold ftick; rw [if_neg (by omega),if_pos (by rw [h.left]; exact hl)]
 refine ⟨h.ok.tick,?_,?_,?_⟩ <;> rw [e]
 ·exact h.lease
 ·exact h.line
 ·show s.left - 1=l - 1; rw [h.left]
theorem out0 (h:St N L s k (n+2) l):(outAt s 0).lease=L∧(outAt s 0).line=up (k+1) (n+1)∧(outAt s 0).left=L:=by
 have e:s.line.eraseIdx 0=up (k+1) (n+1):=by rw [h.line,up_succ]; rfl
 refine ⟨h.lease,e,?_⟩
 show (if 0=0 then (if (s.line.eraseIdx 0).length=0 then 0 else s.lease) else s.left)=L
 rw [if_pos rfl,e,up_len,if_neg (by omega),h.lease]
theorem St.tick2 (h:St N L s k (n+2) 1):St N L (ftick s) (k+1) (n+1) L:=by
 have hlen:=h.len
 have e:ftick s=outAt s 0:=by unfold ftick; rw [if_neg (by omega),if_neg (by rw [h.left]; omega),if_neg (by omega)]
 obtain ⟨h1,h2,h3⟩:=out0 h
 exact ⟨h.ok.tick,by rw [e]; exact h1,by rw [e]; exact h2,by rw [e]; exact h3⟩
theorem St.tick3 (h:St N L s k 1 1):St N L (ftick s) k 1 L:=by
 have hlen:=h.len
 have e:ftick s={ s with left:=s.lease }:=by unfold ftick; rw [if_neg (by omega),if_neg (by rw [h.left]; omega),if_pos hlen]
 refine ⟨h.ok.tick,?_,?_,?_⟩ <;> rw [e]
 ·exact h.lease
 ·exact h.line
 ·exact h.lease
end
structure Came (L m:Nat) (s:Fl):Prop where
 ok:FOk (2 * m) s
 lease:s.lease=L
 line:s.line=up 1 m
 left:s.left=if m=0 then 0 else L
 has:∀ j,rhas s.roles j=true→1≤j∧j≤m
theorem came_new (L:Int) (h1:1≤L) (h2:L≤1000):Came L.toNat 0 (fnew L):=by
 refine ⟨fok_new L,?_,rfl,rfl,fun j hj=>by cases hj⟩
 show (min (max L 1) 1000).toNat=L.toNat
 omega
theorem Came.next {L m:Nat} {s:Fl} (h:Came L m s) (hm:m≤1000) {r:Int} (hr:r=1∨r=2) :
  askE (fjoin s (m+1:Nat) r) (m+1:Nat)=0∧Came L (m+1) (fask (fjoin s (m+1:Nat) r) (m+1:Nat)):=by
 have hb:rhas s.roles ((m+1:Nat):Int)=false:=by
  rcases e:rhas s.roles ((m+1:Nat):Int) with _ | _
  ·rfl
  ·have:=h.has _ e; omega
 have hj:joins s ((m+1:Nat):Int) r=true:=by
  unfold joins isRole; rw [hb]
  rcases hr with rfl | rfl
  ·simp <;> omega
  ·simp <;> omega
 have ej:fjoin s ((m+1:Nat):Int) r={ s with roles:=rput s.roles ((m+1:Nat):Int) r }:=by unfold fjoin; rw [hj,if_pos rfl]
 have k1:=h.ok.join (id:=((m+1:Nat):Int)) r (by omega)
 have hnm:((m+1:Nat):Int) ∉ s.line:=fun hi=>by rw [h.line] at hi; have:=up_mem hi; omega
 have hE:askE (fjoin s ((m+1:Nat):Int) r) ((m+1:Nat):Int)=0:=by
  unfold askE
  rw [ej]
  show (if rhas (rput s.roles ((m+1:Nat):Int) r) ((m+1:Nat):Int) then (if rrole (rput s.roles ((m+1:Nat):Int) r) ((m+1:Nat):Int)=0 then 4 else if ((m+1:Nat):Int)∈s.line then 3 else 0) else 2)=(0:Int)
  rw [rhas_put h.ok.rising,rrole_put h.ok.rising,if_neg hnm]
  rcases hr with rfl | rfl <;> simp
 have k2:=k1.ask ((m+1:Nat):Int)
 refine ⟨hE,?_⟩
 have ea:fask (fjoin s ((m+1:Nat):Int) r) ((m+1:Nat):Int)=⟨s.lease,if s.line.length=0 then s.lease else s.left,rput s.roles ((m+1:Nat):Int) r,s.line ++ [((m+1:Nat):Int)]⟩:=by
  unfold fask; rw [if_pos hE,ej]
 refine ⟨k2.mono (by omega),by rw [ea]; exact h.lease,?_,?_,fun j hjj=>?_⟩
 ·rw [ea,up_snoc,h.line,Nat.add_comm 1 m]
 ·rw [ea]
  show (if s.line.length=0 then s.lease else s.left)=(if m+1=0 then 0 else L)
  rw [h.line,up_len,h.left,h.lease,if_neg (Nat.succ_ne_zero m)]
  split <;> rfl
 ·rw [ea] at hjj
  have h3:rhas (rput s.roles ((m+1:Nat):Int) r) j=true:=hjj
  rw [rhas_put h.ok.rising] at h3
  simp only [Bool.or_eq_true,decide_eq_true_eq] at h3
  rcases h3 with h3 | h3
  ·omega
  ·have:=h.has _ h3; omega
theorem Came.st {L m:Nat} {s:Fl} (h:Came L (m+1) s) (hm:m≤100):St 1000 L s 1 (m+1) L:=
 ⟨h.ok.mono (by omega),h.lease,h.line,by rw [h.left,if_neg (by omega)]⟩
def cfL (l:Nat):Cf:=⟨4096,512,2048,256,3,l,0,80⟩
theorem bnew_ev {c:Cf} (h1:1≤c.log∧c.log≤65536) (h2:1≤c.data∧c.data≤2042) (h3:220≤c.queue∧c.queue≤65536) (h4:1≤c.input∧c.input≤65536) (h5:c.idle≤1000) (h6:c.strikes≤9) (h7:1≤c.width∧c.width≤500):EvOk (bnew c) 0 0 0:=
 ⟨⟨h1,h2,h3,h4,h5,h6,(fok_new c.lease).mono (by decide),fun p hp=>(by cases hp),Nat.zero_le _,⟨Int.le_refl 0,(by decide:(0:Int)≤16)⟩,Nat.zero_le _,fun k c hc=>(by cases hc)⟩,fun k c hc=>(by cases hc),Nat.zero_le _,Nat.zero_le _,Sp.Ok.start (by omega) (by omega)⟩
structure WaitAt (b:Br) (l i:Nat):Prop where
 cw:CW b (i * 130)
 ev:EvOk b 0 (i * 4400) 0
 cf:b.cf=cfL l
 told:fhold b.fl=b.told
 few:∀ j,(b.cs j).isSome=true→j≤i
 fl:Came l i b.fl
structure TurnAt (b:Br) (l t k n left:Nat):Prop where
 cw:CW b (1170+t * 11)
 ev:EvOk b t 39600 0
 cf:b.cf=cfL l
 told:fhold b.fl=b.told
 st:St 1000 l b.fl k n left
end Go.Proofs.YtalichkdeekdcaaGreatDoor.Bk
end
section
namespace Go.Proofs.YtalichkdeekdcaaGreatDoor.Bk
open Fr Lx
def cfW (l:Nat):Cf:=⟨4096,512,60000,256,3,l,0,80⟩
theorem cfW_ev (l:Nat):EvOk (bnew (cfW l)) 0 0 0:=
 bnew_ev (c:=cfW l) (show 1≤4096∧4096≤65536 by decide) (show 1≤512∧512≤2042 by decide) (show 220≤60000∧60000≤65536 by decide) (show 1≤256∧256≤65536 by decide) (show 0≤1000 by decide) (show 3≤9 by decide) (show 1≤80∧80≤500 by decide)
structure AskAt (b:Br) (l i:Nat):Prop where
 cw:CW b (i * 130)
 cf:b.cf=cfW l
 L:b.L=[]
 told:fhold b.fl=b.told
 few:∀ j,(b.cs j).isSome=true→j≤i
 fl:Came l i b.fl
 len:b.fl.roles.length=i
theorem ask_begin {l:Nat} (h1:1≤l) (h2:l≤1000):AskAt (bnew (cfW l)) l 0:=
 ⟨⟨fun k hk=>(by cases hk),fun k c hc=>(by cases hc)⟩,rfl,rfl,rfl,fun j hj=>(by cases hj),by have:=came_new (l:Int) (by omega) (by omega); rwa [show ((l:Nat):Int).toNat=l by omega] at this,rfl⟩
noncomputable def as1 (b:Br) (i:Nat):Br:=connectB b (i+1:Nat)
noncomputable def as2 (b:Br) (i:Nat):Br:=bytesB (as1 b i) (i+1:Nat) (enc (uM true 0))
noncomputable def as3 (b:Br) (i:Nat):Br:=bytesB (as2 b i) (i+1:Nat) (enc (keys 1 (esc wFloor)))
theorem AskAt.next {b:Br} {l i:Nat} (h:AskAt b l i) (hi:i<9):AskAt (as3 b i) l (i+1):=by
 have hno:b.cs (i+1)=none:=by
  rcases e:b.cs (i+1) with _ | c
  ·rfl
  ·have:=h.few (i+1) (by rw [e]; rfl); omega
 have hL:b.L=[]:=h.L
 have hok:(uM true 0).ok=true:=uM_ok true (by decide) (by decide)
 obtain ⟨e1,e2,e3,e4,e5,e6,e7⟩:=h.cw.come (k:=i+1) (m:=uM true 0) (by omega) (by omega) hno hok rfl (by decide) (show isName [117#8]=true by decide) (by
  have:comeAt b (uM true 0)≤b.L.length:=viewAt_le _ _ _ _
  rw [hL] at this ⊢
  exact Nat.le_zero.1 this) (by rw [h.cf]; show i * 130+60+47≤60000; omega)
 have hro:comeRole b (uM true 0)=1∨comeRole b (uM true 0)=2:=by
  unfold comeRole firstRole
  rw [show decide ((uM true 0).a % 2=1)=true from rfl,if_pos rfl]
  split
  ·exact .inl rfl
  ·exact .inr rfl
 obtain ⟨n1,n2⟩:=h.fl.next (by omega) hro
 obtain ⟨c,hc⟩:=Option.isSome_iff_exists.1 (show ((as2 b i).cs (i+1)).isSome=true by unfold as2 as1; rw [e7]; simp)
 have hcf:(as2 b i).cf=cfW l:=e6.cf.trans h.cf
 have ha:askE (as2 b i).fl ((i+1:Nat):Int)=0:=by unfold as2 as1; rw [e4]; exact n1
 obtain ⟨g1,g2,g3,g4,g5,g6⟩:=(show CW (as2 b i) (i * 130+60+47) from e3).cmd hc (seq:=1) (s:=wFloor) (by decide) (by decide) (by decide) (by decide) (fun b' hb=>fask_floor ha b' hb) (by rw [hcf]; show i * 130+60+47+22≤60000; omega)
 have hfl:(as3 b i).fl=fask (fjoin b.fl ((i+1:Nat):Int) (comeRole b (uM true 0))) ((i+1:Nat):Int):=by
  rw [show (as3 b i).fl=_ from g3,show (as2 b i).fl=_ from e4]
 have hL2:(as2 b i).L=[]:=e6.L.trans hL
 refine ⟨g2.mono (by omega),g5.cf.trans hcf,g5.L.trans hL2,(congrArg fhold g3).trans g4.symm,fun j hj=>?_,by rw [hfl]; exact n2,?_⟩
 ·rw [show ((as3 b i).cs j).isSome=_ from g6 j,show ((as2 b i).cs j).isSome=_ from e7 j] at hj
  simp only [Bool.or_eq_true,decide_eq_true_eq] at hj
  rcases hj with hj | hj
  ·omega
  ·have:=h.few j hj; omega
 ·rw [hfl]
  have hb:rhas b.fl.roles ((i+1:Nat):Int)=false:=by
   rcases e:rhas b.fl.roles ((i+1:Nat):Int) with _ | _
   ·rfl
   ·have:=h.fl.has _ e; omega
  have hj:joins b.fl ((i+1:Nat):Int) (comeRole b (uM true 0))=true:=by
   unfold joins isRole; rw [hb]
   rcases hro with e | e <;> rw [e] <;> simp <;> omega
  have hr:(fask (fjoin b.fl ((i+1:Nat):Int) (comeRole b (uM true 0))) ((i+1:Nat):Int)).roles=(fjoin b.fl ((i+1:Nat):Int) (comeRole b (uM true 0))).roles:=by unfold fask; split <;> rfl
  rw [hr]
  unfold fjoin
  rw [hj,if_pos rfl]
  show (rput b.fl.roles _ _).length=_
  rw [rlen_put h.fl.ok.rising,hb,h.len]
  rfl
def Ln (us:Nat) (Q:Fl→Prop) (b:Br):Prop:=b.fl.roles.length≤us∧(b.fl.roles.length=us→Q b.fl)
theorem fleave_len (s:Fl) (id:Int):(fleave s id).roles.length<s.roles.length∨fleave s id=s:=by
 unfold fleave
 by_cases h:rhas s.roles id=true
 ·rw [if_pos h]
  have:=rlen_del s.roles id
  rw [if_pos h] at this
  exact .inl (by show (rdel s.roles id).length<_; omega)
 ·rw [if_neg h]
  exact .inr rfl
theorem Ln.leave {us:Nat} {Q:Fl→Prop} {b b':Br} (h:Ln us Q b) (id:Int) (e:b'.fl=fleave b.fl id):Ln us Q b':=by
 unfold Ln
 rw [e]
 rcases fleave_len b.fl id with x | x
 ·exact ⟨by have:=h.1; omega,fun y=>by have:=h.1; omega⟩
 ·rw [x]; exact h
theorem Ln.same {us:Nat} {Q:Fl→Prop} {b b':Br} (h:Ln us Q b) (e:b'.fl=b.fl):Ln us Q b':=by
 unfold Ln
 rw [e]
 exact h
theorem ln_core (us:Nat) (Q:Fl→Prop):KCore (Ln us Q) where
 gone:=fun b k c h hc h1 h2=>by
  unfold Bk.gone
  split
  ·exact h.leave k rfl
  ·exact h.same rfl
 plus:=fun b k c m h hc hst hf=>h.same rfl
 told:=fun b h=>h.same rfl
 served:=fun b k c m p s h hc hst hn=>h.same rfl
 reap:=fun b h=>h.same rfl
theorem Ln.write {us:Nat} {Q:Fl→Prop} {b:Br} (h:Ln us Q b) (id n:Int):Ln us Q (writeB b id n):=(ln_core us Q).write h id n fun _ _ _ _ _ _=>h.same rfl
theorem Ln.output {us:Nat} {Q:Fl→Prop} {b:Br} (h:Ln us Q b) (t:Bs):Ln us Q (outputB b t):=(ln_core us Q).output h t fun _=>h.same rfl
theorem Ln.drain {us:Nat} {Q:Fl→Prop} {b:Br} (h:Ln us Q b) (n:Int):Ln us Q (drainB b n):=h.same rfl
theorem ftick_roles (s:Fl):(ftick s).roles=s.roles:=by
 unfold ftick
 split
 ·rfl
 ·split
  ·rfl
  ·split
   ·rfl
   ·rfl
theorem Ln.tick {us:Nat} {Q Q':Fl→Prop} {b:Br} (h:Ln us Q b) (hq:∀ s,Q s→Q' (ftick s)):Ln us Q' (tickB b):=by
 refine (ln_core us Q').tick ?_ fun x j c hx hc=>hx.same rfl
 refine ⟨?_,?_⟩
 ·show (ftick b.fl).roles.length≤us
  rw [ftick_roles]; exact h.1
 ·intro e
  replace e:(ftick b.fl).roles.length=us:=e
  rw [ftick_roles] at e
  exact hq _ (h.2 e)
def Turn (l us h i:Nat) (s:Fl):Prop:=(i<l∧St 1000 l s h (us - h+1) (l - i))∨(i=l∧(h<us→St 1000 l s (h+1) (us - h) l)∧(h=us→fhold s=us))
theorem Turn.tick {l us h i:Nat} {s:Fl} (hl:i<l) (hh:h≤us) (k:Turn l us h i s):Turn l us h (i+1) (ftick s):=by
 rcases k with ⟨_,k⟩ | ⟨k,_⟩
 rotate_left
 ·omega
 by_cases h1:i+1<l
 ·refine .inl ⟨h1,?_⟩
  have:=k.tick1 (by omega)
  rwa [show l - i - 1=l - (i+1) by omega] at this
 ·have e1:l - i=1:=by omega
  rw [e1] at k
  refine .inr ⟨by omega,fun h2=>?_,fun h2=>?_⟩
  ·obtain ⟨n,hn⟩:∃ n,us - h=n+1:=⟨us - h - 1,by omega⟩
   rw [hn] at k ⊢
   exact k.tick2
  ·subst h2
   rw [Nat.sub_self] at k
   exact k.tick3.hold
theorem Turn.next {l us h:Nat} {s:Fl} (hl:0<l) (hh:h<us) (k:Turn l us h l s):Turn l us (h+1) 0 s:=by
 rcases k with ⟨k,_⟩ | ⟨_,k,_⟩
 ·omega
 ·refine .inl ⟨hl,?_⟩
  have:=k hh
  rwa [show us - h=us - (h+1)+1 by omega] at this
theorem Turn.hold {l us h i:Nat} {s:Fl} (hl:i<l) (k:Turn l us h i s):fhold s=h:=by
 rcases k with ⟨_,k⟩ | ⟨k,_⟩
 ·exact k.hold
 ·omega
theorem Turn.last {l us:Nat} {s:Fl} (k:Turn l us us l s):fhold s=us:=by
 rcases k with ⟨k,_⟩ | ⟨_,_,k⟩
 ·omega
 ·exact k rfl
theorem AskAt.turn {b:Br} {l us:Nat} (h:AskAt b l us) (h1:1≤us) (h2:us≤9) (hl:0<l):Ln us (Turn l us 1 0) b:=by
 refine ⟨by rw [h.len]; exact Nat.le_refl _,fun _=>.inl ⟨hl,?_⟩⟩
 obtain ⟨n,rfl⟩:∃ n,us=n+1:=⟨us - 1,by omega⟩
 have:=h.fl.st (by omega)
 rwa [show n+1 - 1+1=n+1 by omega,Nat.sub_zero]
end Go.Proofs.YtalichkdeekdcaaGreatDoor.Bk
end
