/- PTv PVl PQb PQu PQy PKm PKn PVa PVc -/
import Derived.Test.YtalichkdeekdcaaGreatDoorZd06
namespace Go.Proofs.YtalichkdeekdcaaGreatDoor
set_option maxRecDepth 100000
section
namespace Bk
open Fr Lx
def uM (w:Bool) (back:Int):M:=⟨1,if w then 5 else 4,back,[117#8]⟩
theorem uM_ok (w:Bool) {back:Int} (h0:0≤back) (h1:back≤1099511627776):(uM w back).ok=true:=by
 unfold M.ok uM;rw [Ms.rt_iff]
 have:Ms.okN back true=true:=by unfold Ms.okN; simp; omega
 cases w
 ·exact ⟨rfl,rfl,this,show 1≤20 by decide⟩
 ·exact ⟨rfl,rfl,this,show 1≤20 by decide⟩
noncomputable def av1:Br:=bytesB (connectB (bnew cfd) 1) 1 (enc (uM true 0))
noncomputable def av2 (w:Bool):Br:=bytesB (connectB av1 2) 2 (enc (uM w 0))
theorem av_first:CW av1 107∧av1.fl=⟨100,0,[(1,2)],[]⟩∧av1.told=0∧Sm av1 (bnew cfd)∧(∀ j,(av1.cs j).isSome=(decide (j=1) || false))∧connectE (bnew cfd) 1=0∧bytesE (connectB (bnew cfd) 1) 1=0:=by
 have h0:=roles_begin;obtain ⟨e1,e2,e3,e4,e5,e6,e7⟩:=h0.cw.come (k:=1) (m:=uM true 0) (by decide) (by decide) rfl (uM_ok true (by decide) (by decide)) rfl (by decide) (show isName [117#8]=true by decide) (Nat.le_zero.1 (viewAt_le _ _ _ _)) (by decide);exact ⟨e3,e4,e5,e6,fun j=>(e7 j).trans rfl,e1,e2⟩
theorem av_second (w:Bool):CW (av2 w) 214∧(av2 w).fl=⟨100,0,[(1,2),(2,if w then 1 else 0)],[]⟩∧(av2 w).told=0∧Sm (av2 w) (bnew cfd)∧(∀ j,((av2 w).cs j).isSome=(decide (j=2) || (decide (j=1) || false)))∧connectE av1 2=0∧bytesE (connectB av1 2) 2=0 ∧
  ∃ c,(av2 w).cs 2=some c∧c.out=enc (welcome 2 0 (if w then 1 else 0)) ++ enc (mfloor 0):=by
 obtain ⟨a1,a2,a3,a4,a5,_,_⟩:=av_first;have hL:av1.L=[]:=a4.L
 have hno:av1.cs 2=none:=by
  rcases e:av1.cs 2 with _ | c
  ·rfl
  ·have:=a5 2; rw [e] at this; cases this
 have hat:comeAt av1 (uM w 0)=0:=by
  have:comeAt av1 (uM w 0)≤av1.L.length:=viewAt_le _ _ _ _;rw [hL] at this;exact Nat.le_zero.1 this
 have hro:comeRole av1 (uM w 0)=if w then 1 else 0:=by
  unfold comeRole;rw [a2]
  cases w <;> rfl
 have hf:fjoin av1.fl ((2:Nat):Int) (comeRole av1 (uM w 0))=⟨100,0,[(1,2),(2,if w then 1 else 0)],[]⟩:=by
  rw [hro,a2]
  cases w <;> rfl
 have ho:=uM_ok w (back:=0) (by decide) (by decide)
 have hk4:(uM w 0).a / 4=1:=by cases w <;> decide
 have hnm:isName (uM w 0).t=true:=show isName [117#8]=true by decide
 have hq:107+60+47≤av1.cf.queue:=by rw [a4.cf]; decide
 obtain ⟨e1,e2,e3,e4,e5,e6,e7⟩:=a1.come (k:=2) (by decide) (by decide) hno ho rfl hk4 hnm (by rw [hat,hL]; rfl) hq;have hX:=a1.comeX (k:=2) (by decide) (by decide) hno ho rfl hk4 hnm (by rw [hat,hL]; rfl) hq (by rw [hf,a3]; rfl);rw [hf] at e4 e5;refine ⟨e3,e4,e5,e6.trans a4,fun j=>(e7 j).trans (by rw [a5 j]),e1,e2,Bk.come (setc av1 2 (some cnew)) 2 cnew (uM w 0),?_,?_⟩
 ·show (bytesB (connectB av1 ((2:Nat):Int)) ((2:Nat):Int) (enc (uM w 0))).cs 2=_
  rw [hX]
  show (setc (Bk.mapc av1 (hear (joined 2 (uM w 0).t))) 2 (some (Bk.come (setc av1 2 (some cnew)) 2 cnew (uM w 0)))).cs 2=_
  exact setc_cs _ _ _
 ·rw [(come_is (setc av1 2 (some cnew)) 2 cnew (uM w 0)).1]
  show [] ++ greet (setc av1 2 (some cnew)) 2 (comeAt av1 (uM w 0)) (comeRole av1 (uM w 0))=_
  rw [hat,hro];unfold greet;have hend:(setc av1 2 (some cnew)).ended=false:=a4.ended;have hto:(setc av1 2 (some cnew)).told=0:=a3;rw [hend,hto];simp
noncomputable def av3:Br:=bytesB (av2 false) 1 (enc (keys 1 (esc wFloor)))
noncomputable def av4:Br:=outputB av3 [36#8,32#8]
noncomputable def av5:Br:=bytesB av4 1 (enc (keys 9 [108#8,115#8,10#8]))
noncomputable def av6:Br:=bytesB av5 2 (enc (keys 3 [120#8]))
def avOut:List M:=[welcome 2 0 0,mfloor 0,mfloor 1,dataM 0 [36#8,32#8],rejectM 3 3]
theorem av_is:bytesE (av2 false) 1=0∧outputE av3=0∧bytesE av4 1=0∧bytesE av5 2=0∧writeE av6 2=0∧writeT av6 2 65536=encs avOut∧drainT (writeB av6 2 65536) 99=[108#8,115#8,10#8]:=by
 obtain ⟨a1,a2,a3,a4,a5,_,_,c2,hc2,ho2⟩:=av_second false;obtain ⟨c1,hc1⟩:=Option.isSome_iff_exists.1 (show ((av2 false).cs 1).isSome=true by rw [a5]; rfl)
 have ha:askE (av2 false).fl ((1:Nat):Int)=0:=by rw [a2]; decide
 have hd:=fun (b':Br) (hb:b'.fl=(av2 false).fl)=>fask_floor ha b' hb
 have hq2:214+22≤(av2 false).cf.queue:=by rw [a4.cf]; decide
 obtain ⟨b1,b2,b3,b4,b5,b6⟩:=a1.cmd hc1 (seq:=1) (s:=wFloor) (by decide) (by decide) (by decide) (by decide) hd hq2;have hX:=(a1.cmdX hc1 (seq:=1) (s:=wFloor) (by decide) (by decide) (by decide) (by decide) hd hq2).2
 have hf:fask (av2 false).fl ((1:Nat):Int)=flD true:=by rw [a2]; rfl
 rw [hf] at b3 b4 hX;replace hX:av3=_:=hX (by rw [a3]; decide);have b2:CW av3 236:=b2;have b3:av3.fl=flD true:=b3;have b4:av3.told=1:=b4.trans rfl;have b5:Sm av3 (bnew cfd):=Sm.trans b5 a4;have s2:=a1.cn 2 c2 hc2
 have hc3:av3.cs 2=some (plus (mfloor 1) c2):=by
  rw [hX]
  show ((setc (av2 false) 1 (some { c1 with idle:=0 })).cs 2).map (hear (mfloor (fhold (flD true))))=_
  rw [setc_ne _ 1 _ (by decide),hc2]
  show some (hear (mfloor 1) c2)=_
  unfold hear;rw [if_pos s2.1]
 have hL3:av3.L=[]:=b5.L;obtain ⟨d1,d2,d3⟩:=b2.outX (t:=[36#8,32#8]) (by rw [b3,b4]; rfl) (b5.ended) (by rw [b5.cf]; decide) (by rw [b5.cf]; decide) (by decide) (by rw [b5.cf]; decide);replace d1:av4=_:=d1;rw [← d1] at d3
 have f4:av4.fl=flD true:=by rw [d1]; exact b3
 have t4:av4.told=1:=by rw [d1]; exact b4
 have q4:av4.cf=cfd:=by rw [d1]; exact b5.cf
 have i4:av4.inp=[]:=by rw [d1]; exact b5.inp
 have n4:av4.ended=false:=by rw [d1]; exact b5.ended
 have hc4:∃ c,av4.cs 2=some c∧c.out=c2.out ++ enc (mfloor 1) ++ enc (dataM 0 [36#8,32#8]):=by
  refine ⟨_,by rw [d1]; show (av3.cs 2).map (sv (av3.L ++ [36#8,32#8]))=_; rw [hc3]; rfl,?_⟩
  have hp:(plus (mfloor 1) c2).p=0:=by show c2.p=0; rw [s2.2.2.2.1,a4.L]; rfl
  unfold sv;rw [hL3,hp,if_neg (by decide)];rfl
 obtain ⟨c4,hc4,ho4⟩:=hc4
 obtain ⟨k1,hk1⟩:=Option.isSome_iff_exists.1 (show (av4.cs 1).isSome=true by
  rw [d1]
  show ((av3.cs 1).map _).isSome=true
  rw [Option.isSome_map,show (av3.cs 1).isSome=_ from b6 1,a5]; rfl)
 obtain ⟨g1,g2,g3⟩:=d3.typed (by rw [f4,t4]; rfl) hk1 (seq:=9) (t:=[108#8,115#8,10#8]) (by decide) (by decide) (by decide) (by decide) (by decide) (by
  unfold whyB;rw [n4,f4,i4,q4]
  decide)
 replace g1:av5=_:=g1;rw [← g1] at g3
 have f5:av5.fl=flD true:=by rw [g1]; exact f4
 have t5:av5.told=1:=by rw [g1]; exact t4
 have q5:av5.cf=cfd:=by rw [g1]; exact q4
 have n5:av5.ended=false:=by rw [g1]; exact n4
 have i5:av5.inp=[108#8,115#8,10#8]:=by rw [g1]; show av4.inp ++ _=_; rw [i4]; rfl
 have hc5:av5.cs 2=some c4:=by
  rw [g1]
  show (setc av4 1 (some { k1 with idle:=0 })).cs 2=_
  rw [setc_ne _ 1 _ (by decide),hc4]
 have hw:whyB av5 ((2:Nat)) [120#8].length=3:=by
  unfold whyB;rw [n5,f5]
  decide
 obtain ⟨h1,h2,h3⟩:=g3.rejected (by rw [f5,t5]; rfl) hc5 (seq:=3) (t:=[120#8]) (by decide) (by decide) (by decide) (by decide) (by decide) (by rw [hw]; decide) (by rw [q5]; decide);rw [hw] at h1 h3;replace h1:av6=_:=h1;rw [← h1] at h3
 have hc6:av6.cs 2=some (plus (rejectM 3 3) { c4 with idle:=0 }):=by rw [h1]; exact setc_cs _ _ _
 have f6:av6.fl=flD true:=by rw [h1]; exact f5
 have t6:av6.told=1:=by rw [h1]; exact t5
 have i6:av6.inp=[108#8,115#8,10#8]:=by rw [h1]; exact i5
 have hlen:(plus (rejectM 3 3) { c4 with idle:=0 }).out.length≤236+2+11+17:=(h3.cn 2 _ hc6).2.2.2.2;obtain ⟨j1,j2,j3,j4⟩:=h3.flush (by rw [f6,t6]; rfl) hc6 (w:=65536) (by omega);refine ⟨b1,d2,g2,h2,j2,?_,?_⟩
 ·refine j1.trans ?_
  show c4.out ++ enc (rejectM 3 3)=_
  rw [ho4,ho2];unfold encs avOut;simp
 ·have:(writeB av6 2 65536).inp=[108#8,115#8,10#8]:=by
   have h:writeB av6 2 65536=setc av6 2 _:=j3;rw [h];exact i6
  unfold drainT;rw [this]
  decide
end Bk
end
section
namespace Bk
open Fr Lx
def cf4 (cf:Cf):Cf:={ cf with idle:=0,queue:=4000 }
def roles3:List (Int×Int):=[(1,2),(2,1),(3,0)]
structure IW (cf:Cf) (b:Br) (n:Nat):Prop where
 cw:CW b n
 cf:b.cf=cf4 cf
 ended:b.ended=false
 told:fhold b.fl=b.told
 roles:b.fl.roles=roles3
 is:∀ k,1≤k→k≤3→(b.cs k).isSome=true
 inp:b.inp.length≤b.cf.input
section
variable {cf:Cf} {b:Br} {n:Nat}
theorem IW.mono {n':Nat} (h:IW cf b n) (hn:n≤n'):IW cf b n':=⟨h.cw.mono hn,h.cf,h.ended,h.told,h.roles,h.is,h.inp⟩
theorem IW.role (h:IW cf b n) {k:Nat} (h1:1≤k) (h3:k≤3):rhas b.fl.roles (k:Nat)=true∧rrole b.fl.roles (k:Nat)=(if k=1 then 2 else if k=2 then 1 else 0):=by
 rw [h.roles]
 rcases (by omega:k=1∨k=2∨k=3) with rfl | rfl | rfl <;> exact ⟨rfl,rfl⟩
theorem fask_roles (s:Fl) (id:Int):(fask s id).roles=s.roles:=by unfold fask; split <;> rfl
theorem fdrop_roles (s:Fl) (id:Int):(fdrop s id).roles=s.roles:=by
 unfold fdrop
 split
 ·exact fout_roles s id
 ·rfl
theorem tick_roles (s:Fl):(ftick s).roles=s.roles:=by
 unfold ftick
 split
 ·rfl
 ·split
  ·rfl
  ·split <;> rfl
def wDrop:Bs:=[100#8,114#8,111#8,112#8]
theorem parse_drop:parse wDrop=some (2,0):=parse_is ⟨by decide,by decide,by decide,by decide,by decide⟩ rfl
theorem IW.order (h:IW cf b n) {k:Nat} (h1:1≤k) (h3:k≤3) {s:Bs} (hs:∀ x∈s,x≠10#8) (hl:s.length≤6) (f:Fl→Fl) (e:Fl→Int) (hd:∀ b':Br,doB b' k (parse s)=(setFl b' (f b'.fl),decide (e b'.fl=0))) (hn:∀ x,e x≠0→f x=x) (hf:∀ x,(f x).roles=x.roles) (hq:n≤3900) :
  IW cf (bytesB b (k:Nat) (enc (keys 1 (esc s)))) (n+22)∧(bytesB b (k:Nat) (enc (keys 1 (esc s)))).inp=b.inp:=by
 obtain ⟨c,hc⟩:=Option.isSome_iff_exists.1 (h.is k h1 h3)
 have hqu:b.cf.queue=4000:=by rw [h.cf]; rfl
 by_cases he:e b.fl=0
 ·obtain ⟨d1,d2,d3,d4,d5,d6⟩:=h.cw.cmd hc (seq:=1) (s:=s) (fl':=f b.fl) (by decide) (by decide) hs (by omega) (fun b' hb=>by rw [hd b',hb,he]; rfl) (by omega)
  exact ⟨⟨d2,d5.cf.trans h.cf,d5.ended.trans h.ended,by rw [d3,d4],by rw [d3,hf,h.roles],fun j j1 j3=>by rw [d6]; exact h.is j j1 j3,by rw [d5.inp,d5.cf]; exact h.inp⟩,d5.inp⟩
 ·have hel:(enc (deniedM s)).length≤22:=by rw [enc_len5]; show 6 * 0+s.length+5≤22; omega
  obtain ⟨d1,d2,d3⟩:=h.cw.denied h.told hc (seq:=1) (s:=s) (by decide) (by decide) hs (by omega) (fun b' hb=>by
   rw [hd b',hb,hn _ he,decide_eq_false he,← hb]
   rfl) (by omega)
  rw [d1];refine ⟨⟨d3.mono (by omega),h.cf,h.ended,h.told,h.roles,fun j j1 j3=>?_,h.inp⟩,rfl⟩
  by_cases e:j=k
  ·rw [e,setc_cs]; rfl
  ·rw [setc_ne _ _ _ e]; exact h.is j j1 j3
theorem IW.floor (h:IW cf b n) {k:Nat} (h1:1≤k) (h3:k≤3) (hq:n≤3900):IW cf (bytesB b (k:Nat) (enc (keys 1 (esc wFloor)))) (n+22)∧(bytesB b (k:Nat) (enc (keys 1 (esc wFloor)))).inp=b.inp:=
 h.order h1 h3 (by decide) (by decide) (fun s=>fask s k) (fun s=>askE s k) (fun b'=>by
  rw [parse_floor];unfold doB
  show (if isOwners 1=true∧_ then _ else if (1:Int)=1 then _ else _)=_
  rw [if_neg (by rw [show isOwners 1=false by decide]; simp),if_pos rfl]
  rfl) (fun x hx=>by unfold fask; rw [if_neg hx]) (fun x=>fask_roles x k) hq
theorem IW.drop (h:IW cf b n) {k:Nat} (h1:1≤k) (h3:k≤3) (hq:n≤3900):IW cf (bytesB b (k:Nat) (enc (keys 1 (esc wDrop)))) (n+22)∧(bytesB b (k:Nat) (enc (keys 1 (esc wDrop)))).inp=b.inp:=
 h.order h1 h3 (by decide) (by decide) (fun s=>fdrop s k) (fun s=>dropE s k) (fun b'=>by
  rw [parse_drop];unfold doB
  show (if isOwners 2=true∧_ then _ else if (2:Int)=1 then _ else if (2:Int)=2 then _ else _)=_
  rw [if_neg (by rw [show isOwners 2=false by decide]; simp),if_neg (by decide),if_pos rfl]
  rfl) (fun x hx=>by unfold fdrop; rw [if_neg hx]) (fun x=>fdrop_roles x k) hq
theorem IW.drain (h:IW cf b n) (m:Int):IW cf (drainB b m) n∧drainT b m ++ (drainB b m).inp=b.inp:=
 ⟨⟨⟨h.cw.in16,h.cw.cn⟩,h.cf,h.ended,h.told,h.roles,h.is,by show (b.inp.drop _).length≤b.cf.input; rw [List.length_drop]; have:=h.inp; omega⟩,List.take_append_drop _ _⟩
theorem IW.drains (h:IW cf b n) (hi:cf.input≤65536):(drainB b 65536).inp=[]:=by
 have h1:=h.inp;rw [h.cf] at h1;replace h1:b.inp.length≤cf.input:=h1
 show b.inp.drop (takeN 65536 b.inp.length)=[]
 refine List.drop_eq_nil_of_le ?_;unfold takeN;omega
theorem IW.tick (h:IW cf b n) (hq:n≤3900):IW cf (tickB b) (n+11)∧(tickB b).inp=b.inp:=by
 have hqu:b.cf.queue=4000:=by rw [h.cf]; rfl
 obtain ⟨e1,e2,e3,e4,e5,e6⟩:=h.cw.tick (fun _ _ _=>.inl (by rw [h.cf]; rfl)) (by omega);exact ⟨⟨e1,e4.cf.trans h.cf,e4.ended.trans h.ended,by rw [e2,e3],by rw [e2,tick_roles,h.roles],fun j j1 j3=>by rw [e5]; exact h.is j j1 j3,by rw [e4.inp,e4.cf]; exact h.inp⟩,e4.inp⟩
theorem IW.typed (h:IW cf b n) {k:Nat} (h1:1≤k) (h3:k≤3) {seq:Int} {t:Bs} (h0:0≤seq) (hs1:seq≤1099511627776) (ht:∀ x∈t,x≠29#8) (hl:t.length≤60) (hne:t≠[]) (hq:n≤3900) :
    ∃ w:Option Nat,IW cf (writeB (bytesB (writeB b (k:Nat) 65536) (k:Nat) (enc (keys seq t))) (k:Nat) 65536) (n+17)∧writeT (bytesB (writeB b (k:Nat) 65536) (k:Nat) (enc (keys seq t))) (k:Nat) 65536=(match w with | none=>[] | some y=>enc (rejectM seq y)) ∧
      (writeB (bytesB (writeB b (k:Nat) 65536) (k:Nat) (enc (keys seq t))) (k:Nat) 65536).inp=b.inp ++ (match w with | none=>t | some _=>[])∧(w=none→k≠3)∧∀ y,w=some y→3≤y∧y≤5∧(k=3→y=3):=by
  obtain ⟨c,hc⟩:=Option.isSome_iff_exists.1 (h.is k h1 h3)
  have hqu:b.cf.queue=4000:=by rw [h.cf]; rfl
  have hco:=(h.cw.cn k c hc).2.2.2.2;obtain ⟨f1,f2,f3,f4⟩:=h.cw.flush h.told hc (w:=65536) (by omega);rw [f3]
  obtain ⟨b1,hb1⟩:∃ b1,setc b k (some { c with out:=[] })=b1:=⟨_,rfl⟩
  have hc1:b1.cs k=some { c with out:=[] }:=by rw [← hb1,setc_cs]
  have g1:b1.cf=b.cf:=by rw [← hb1]; rfl
  have g2:b1.ended=b.ended:=by rw [← hb1]; rfl
  have g3:b1.fl=b.fl:=by rw [← hb1]; rfl
  have g4:b1.told=b.told:=by rw [← hb1]; rfl
  have g5:b1.inp=b.inp:=by rw [← hb1]; rfl
  have g6:∀ j,1≤j→j≤3→(b1.cs j).isSome=true:=fun j j1 j3=>by
    rw [← hb1]
    by_cases e:j=k
    · rw [e,setc_cs]; rfl
    · rw [setc_ne _ _ _ e]; exact h.is j j1 j3
  rw [hb1] at f4 ⊢
  have ht1:fhold b1.fl=b1.told:=by rw [g3,g4]; exact h.told
  obtain ⟨r1,r2⟩:=h.role h1 h3
  have hwy:whyB b1 k t.length=(if rrole b.fl.roles k=0 then 3 else if fhold b.fl≠k then 4 else if b.cf.input<b.inp.length+t.length then 5 else 0):=by
    unfold whyB;rw [g2,h.ended,g3,r1,g1,g5];rfl
  by_cases hw:whyB b1 k t.length=0
  · obtain ⟨e1,e2,e3⟩:=f4.typed ht1 hc1 (seq:=seq) (t:=t) h0 hs1 ht (by omega) hne hw
    rw [e1]
    obtain ⟨b2,hb2⟩:∃ b2,({ setc b1 k (some { ({ c with out:=[] }:Cn) with idle:=0 }) with inp:=b1.inp ++ t,tot:=b1.tot+t.length }:Br)=b2:=⟨_,rfl⟩
    have hc2:b2.cs k=some { ({ c with out:=[] }:Cn) with idle:=0 }:=by rw [← hb2]; exact setc_cs b1 k _
    have k1:b2.cf=b.cf:=by rw [← hb2]; exact g1
    have k2:b2.ended=b.ended:=by rw [← hb2]; exact g2
    have k3:b2.fl=b.fl:=by rw [← hb2]; exact g3
    have k4:b2.told=b.told:=by rw [← hb2]; exact g4
    have k5:b2.inp=b.inp ++ t:=by rw [← hb2,← g5]
    have k6:∀ j,1≤j→j≤3→(b2.cs j).isSome=true:=fun j j1 j3=>by
      rw [← hb2]
      show ((setc b1 k _).cs j).isSome=true
      by_cases e:j=k
      · rw [e,setc_cs]; rfl
      · rw [setc_ne _ _ _ e]; exact g6 j j1 j3
    rw [hb2] at e3 ⊢;obtain ⟨i1,i2,i3,i4⟩:=e3.flush (by rw [k3,k4]; exact h.told) hc2 (w:=65536) (by show (0:Int)≤65536; decide);rw [i3]
    have hfit:b.inp.length+t.length≤b.cf.input∧k≠3:=by
      rw [hwy] at hw
      split at hw
      · cases hw
      · next q1 =>
        split at hw
        · cases hw
        · split at hw
          · cases hw
          · refine ⟨by omega,fun e=>q1 ?_⟩
            rw [r2,e];rfl
    refine ⟨none,⟨i4.mono (by omega),k1.trans h.cf,k2.trans h.ended,?_,?_,fun j j1 j3=>?_,?_⟩,i1,k5,fun _=>hfit.2,fun y hy=>by cases hy⟩
    · show fhold b2.fl=b2.told
      rw [k3,k4]; exact h.told
    · show b2.fl.roles=_
      rw [k3]; exact h.roles
    · by_cases e:j=k
      · rw [e,setc_cs]; rfl
      · rw [setc_ne _ _ _ e]; exact k6 j j1 j3
    · show b2.inp.length≤b2.cf.input
      rw [k5,k1,List.length_append];exact hfit.1
  · obtain ⟨e1,e2,e3⟩:=f4.rejected ht1 hc1 (seq:=seq) (t:=t) h0 hs1 ht (by omega) hne hw (by rw [g1]; omega)
    rw [e1]
    obtain ⟨y,hy⟩:∃ y,whyB b1 k t.length=y:=⟨_,rfl⟩
    rw [hy] at e3 hw hwy ⊢
    obtain ⟨b2,hb2⟩:∃ b2,setc b1 k (some (plus (rejectM seq y) { ({ c with out:=[] }:Cn) with idle:=0 }))=b2:=⟨_,rfl⟩
    have hc2:b2.cs k=some (plus (rejectM seq y) { ({ c with out:=[] }:Cn) with idle:=0 }):=by rw [← hb2]; exact setc_cs b1 k _
    have k1:b2.cf=b.cf:=by rw [← hb2]; exact g1
    have k2:b2.ended=b.ended:=by rw [← hb2]; exact g2
    have k3:b2.fl=b.fl:=by rw [← hb2]; exact g3
    have k4:b2.told=b.told:=by rw [← hb2]; exact g4
    have k5:b2.inp=b.inp:=by rw [← hb2]; exact g5
    have k6:∀ j,1≤j→j≤3→(b2.cs j).isSome=true:=fun j j1 j3=>by
      rw [← hb2]
      by_cases e:j=k
      · rw [e,setc_cs]; rfl
      · rw [setc_ne _ _ _ e]; exact g6 j j1 j3
    rw [hb2] at e3 ⊢;have hro:(plus (rejectM seq y) { ({ c with out:=[] }:Cn) with idle:=0 }).out=enc (rejectM seq y):=List.nil_append _;obtain ⟨i1,i2,i3,i4⟩:=e3.flush (by rw [k3,k4]; exact h.told) hc2 (w:=65536) (by rw [hro,reject_len]; decide);rw [i3]
    have hyy:3≤y∧y≤5∧(k=3→y=3):=by
      rw [hwy] at hw;rw [hwy,r2];rw [r2] at hw
      rcases (by omega:k=1∨k=2∨k=3) with rfl | rfl | rfl
      · rw [if_neg (by decide)] at hw ⊢
        split at hw
        · next q=>rw [if_pos q]; omega
        · next q =>
          rw [if_neg q]
          split at hw
          · next q=>rw [if_pos q]; omega
          · exact absurd rfl hw
      · rw [if_neg (by decide)] at hw ⊢
        split at hw
        · next q=>rw [if_pos q]; omega
        · next q =>
          rw [if_neg q]
          split at hw
          · next q=>rw [if_pos q]; omega
          · exact absurd rfl hw
      · rw [if_pos (by decide)]; omega
    refine ⟨some y,⟨i4.mono (by omega),k1.trans h.cf,k2.trans h.ended,?_,?_,fun j j1 j3=>?_,?_⟩,i1.trans hro,?_,fun e=>(by cases e),fun z hz=>by injection hz with hz; subst hz; exact hyy⟩
    · show fhold b2.fl=b2.told
      rw [k3,k4]; exact h.told
    · show b2.fl.roles=_
      rw [k3]; exact h.roles
    · by_cases e:j=k
      · rw [e,setc_cs]; rfl
      · rw [setc_ne _ _ _ e]; exact k6 j j1 j3
    · show b2.inp.length≤b2.cf.input
      rw [k5,k1];exact h.inp
    · show b2.inp=_
      rw [k5,List.append_nil]
end
end Bk
end
section
namespace Bk
open Fr Lx
structure KEv (P:Br→Prop):Prop extends KAll P where
 cut0:∀ b k c,P b→b.cs k=some c→c.st=2→P (setc b k none)
 new:∀ b k,P b→1≤k→k≤16→b.cs k=none→P (setc b k (some cnew))
 idle1:∀ b k c,P b→b.cs k=some c→P (setc b k (some { c with idle:=c.idle+1 }))
 wrote:∀ b k c n,P b→b.cs k=some c→P (setc b k (some { c with out:=c.out.drop n }))
 out:∀ b t,P b→b.ended=false→P { b with L:=b.L ++ t,sp:=Sp.nxts b.sp t }
 ended:∀ b n,P b→n≤255→b.ended=false→P { b with ended:=true,code:=n,inp:=[] }
 drained:∀ b n,P b→P { b with inp:=b.inp.drop n }
section
variable {P:Br→Prop} (K:KEv P) {b:Br}
include K
end
structure R3 (b:Br):Prop where
 rising:Rising b.fl.roles
 ro:∀ k:Nat,rhas b.fl.roles k=true→opn b k=true
 out:∀ k c,b.cs k=some c→c.out.length≤b.cf.queue
end Bk
end
section
namespace Bk
open Fr Lx
end Bk
end
section
namespace Bk
open Fr Lx
def QC (b:Br):Prop:=∀ k c,b.cs k=some c→c.fd=fd0∧c.lx=lx0
structure KJoin (P:Br→Prop):Prop extends KCore P where
 join:∀ b k c t p r,P b→b.cs k=some c→1≤k→k≤16→c.st=0→t.length≤20→isName t=true→p≤b.L.length→0≤r→r≤2→P (setFl (setc b k (some (opened c t p))) (fjoin b.fl k r))
 fl:∀ b s,P b→P (setFl b s)
section
variable {P:Br→Prop} (K:KJoin P)
include K
end
structure InAt (b:Br) (i T m:Nat):Prop where
 ev:EvOk b i T m
 in16:In16 b
 rest:Rest b
 qc:QC b
 ended:b.ended=false
 queue:b.cf.queue=60000
 inp:b.inp.length≤b.cf.input
 r3:R3 b
end Bk
end
section
namespace Bk
open Fr Lx
def Plain (m:M):Prop:=m.ok=true∧m.k≠5∧m.k≠6∧m.k≠7∧m.k≠12∧m.k≠13
structure KMsg (P:Br→Prop):Prop where
 ok:∀ b,P b→BOk b
 gone:∀ b k c,P b→b.cs k=some c→1≤k→k≤16→P (gone b k c)
 plus:∀ b k c m,P b→b.cs k=some c→c.st≠2→Plain m→c.out.length+(enc m).length≤b.cf.queue→P (setc b k (some (plus m c)))
 closed:∀ b k c why,P b→b.cs k=some c→c.st≠2→why≤6→c.out.length+11≤b.cf.queue→1≤k→k≤16→P (Bk.gone (setc b k (some (Bk.plus (Bk.closed why) c))) k (Bk.plus (Bk.closed why) c))
 told:∀ b,P b→P (toldB b)
 served:∀ b k c m p s,P b→b.cs k=some c→c.st=1→nextB b c=some (m,p,s)→m.k≠12→P (served b k c m p s)
 evict:∀ b k c m p s,P b→b.cs k=some c→c.st=1→nextB b c=some (m,p,s)→m.k=12→1≤k→k≤16→P (Bk.gone (Bk.served b k c m p s) k (putc b.cf.queue { c with p:=p,s:=s } (enc m)))
 reap:∀ b,P b→P (reap b)
section
variable {P:Br→Prop} (K:KMsg P)
include K
end
structure KCmd (k:Nat) (P:Br→Prop):Prop extends KMsg P where
 join:∀ b c t p r,P b→b.cs k=some c→1≤k→k≤16→c.st=0→t.length≤20→isName t=true→p≤b.L.length→0≤r→r≤2→P (send (welcome k p r) (setFl (setc b k (some (opened c t p))) (fjoin b.fl k r)) k)
 fl:∀ b s,P b→FlStep b.fl s→P (setFl b s)
 typed:∀ b ks,P b→b.ended=false→b.inp.length+ks.length≤b.cf.input→P { b with inp:=b.inp ++ ks,tot:=b.tot+ks.length }
structure KSay (k:Nat) (P:Br→Prop):Prop extends KCmd k P where
 lx:∀ b c t,P b→b.cs k=some c→P (setc b k (some { c with lx:=lrun c.lx t }))
 idle0:∀ b c,P b→b.cs k=some c→P (setc b k (some { c with idle:=0 }))
 fd:∀ b c t,P b→b.cs k=some c→P (setc b k (some { c with fd:=fpush c.fd t }))
section
variable {P:Br→Prop} {k:Nat} (K:KCmd k P)
include K
end
section
variable {P:Br→Prop} {k:Nat} (K:KSay k P)
include K
end
end Bk
end
section
namespace Bk
open Fr Lx
structure Ts where
 at_:Int
 gaps:Nat
 last:Bool
end Bk
end
section
namespace Bk
open Fr Lx
structure VB (cf0:Cf) (L0:Bs) (B:Br):Prop where
 cf:B.cf=cf0
 L:B.L=L0
 st:B.strikes=cf0.strikes
 ended:B.ended=false
 told:B.told=0
 line:B.fl.line=[]
 len:L0.length≤1099511627776
structure VK (cf:Cf) (P Q:Bs→Bs→Cn→Prop):Prop where
 go:∀ G L c m p s,L.length≤1099511627776→P G L c→c.st=1→nextOf L cf.log c.p c.s ((cf.queue:Int) - c.out.length - 200) cf.data cf.strikes=some (m,p,s)→m.k≠12→P G L (putc cf.queue { c with p:=p,s:=s } (enc m))
 end_:∀ G L c m p s,L.length≤1099511627776→P G L c→c.st=1→nextOf L cf.log c.p c.s ((cf.queue:Int) - c.out.length - 200) cf.data cf.strikes=some (m,p,s)→m.k=12→Q G L { putc cf.queue { c with p:=p,s:=s } (enc m) with st:=2 }
 wr:∀ G L c q,P G L c→P (G ++ c.out.take q) L { c with out:=c.out.drop q }
 wr2:∀ G L c q,Q G L c→Q (G ++ c.out.take q) L { c with out:=c.out.drop q }
structure VM (P Q:Bs→Bs→Cn→Prop):Prop where
 more:∀ G L t c,P G L c→P G (L ++ t) c
 more2:∀ G L t c,Q G L c→Q G (L ++ t) c
def ahead (cf:Cf) (t:Bs):Br:={ bnew cf with L:=t,sp:=Sp.nxts (bnew cf).sp t }
end Bk
end
section
namespace Bk
open Fr Lx
def Stop (r:Bs):Prop:=∀ m r',m.ok=true→r≠enc m ++ r'
structure Msgs (t:Bs) (ms:List M) (r:Bs):Prop where
 all:t=encs ms ++ r
 ok:∀ m∈ms,m.ok=true
 stop:Stop r
end Bk
end
end Go.Proofs.YtalichkdeekdcaaGreatDoor
