/- PCt PNw PDo PLi PDb PKe -/
import Derived.Test.YtdpagmcickkbmaaGreatDoorZd43
namespace Go.Proofs.YtdpagmcickkbmaaGreatDoor
set_option maxRecDepth 100000
open Go.Lib renaming hid → lj
section
open Go.RowKit Go.Shelf Go.Maps
open Fr Bk
structure NewJ (w0 W:World) (size:Nat) (f:Option Nat) (l:Option ((Nat→Prop)×Nat)) (q:Option Nat):Prop where
 only:Only Nay w0 W
 fed:∀ x,f=some x→Fed 0 W x none 0 0 [] 0∧w0.heap.size≤x∧x<W.heap.size
 lex:∀ x,l=some x→LexIs x.1 x.2 W Lx.lx0∧∀ y,x.1 y→w0.heap.size≤y
 que:∀ x,q=some x→Que z0 [] 0 W x size none 0 0 []∧w0.heap.size≤x∧x<W.heap.size
 fl:∀ x y,f=some x→l=some y→¬ y.1 x
 fq:∀ x y,f=some x→q=some y→x≠y
 lq:∀ x y,l=some x→q=some y→¬ x.1 y
section
variable {w0 W W':World} {size:Nat} {f:Option Nat} {l:Option ((Nat→Prop)×Nat)} {q:Option Nat}
theorem NewJ.keep (h:NewJ w0 W size f l q) (hO:Only Nay W W'):NewJ w0 W' size f l q:=
 ⟨h.only.trans hO,fun x hx=>⟨(h.fed x hx).1.only hO (fun h=>h) (fun _ _ h=>h),(h.fed x hx).2.1,Nat.lt_of_lt_of_le (h.fed x hx).2.2 hO.size⟩,fun x hx=>⟨(h.lex x hx).1.keep hO (fun _ _ h=>h),(h.lex x hx).2⟩,
  fun x hx=>⟨(h.que x hx).1.only hO (fun h=>h) (fun _ _ h=>h),(h.que x hx).2.1,Nat.lt_of_lt_of_le (h.que x hx).2.2 hO.size⟩,h.fl,h.fq,h.lq⟩
theorem NewJ.mkFeed (h:NewJ w0 W size f l q):Calls Tryz.prog 42 #[] W fun e W'=>∃ x,e = .returned (.pointer (some (at0 x)))∧NewJ w0 W' size (some x) l q:=by
 refine (feed_new W).mono ?_;rintro e W' ⟨rfl,hf,hb⟩;have hk:=h.keep (only_of_below hb);refine ⟨W.heap.size,rfl,hk.only,fun x hx=>?_,hk.lex,hk.que,fun x y hx hy=>?_,fun x y hx hy=>?_,hk.lq⟩
 ·injection hx with hx
  subst hx;exact ⟨hf.mono (Nat.zero_le _),h.only.size,feed_lt hf.head⟩
 ·injection hx with hx
  subst hx;intro e;have:=(h.lex y hy).1.lt _ e;omega
 ·injection hx with hx
  subst hx;have:=(h.que y hy).2.2;omega
theorem NewJ.mkLex (h:NewJ w0 W size f l q):Calls Tryz.prog 43 #[] W fun e W'=>∃ x,e = .returned (.pointer (some (at0 x.2)))∧NewJ w0 W' size f (some x) q:=by
 refine (xnew_any W).mono ?_;rintro e W' ⟨G,g,rfl,hl,hG,hb⟩;have hk:=h.keep (only_of_below hb);refine ⟨(G,g),rfl,hk.only,hk.fed,fun x hx=>?_,hk.que,fun x y hx hy=>?_,hk.fq,fun x y hx hy=>?_⟩
 ·injection hx with hx
  subst hx;exact ⟨hl,fun y hy=>Nat.le_trans h.only.size (hG y hy)⟩
 ·injection hy with hy
  subst hy;intro e;have:=(h.fed x hx).2.2;have:=hG _ e;omega
 ·injection hx with hx
  subst hx;intro e;have:=(h.que y hy).2.2;have:=hG _ e;omega
theorem NewJ.mkQue (h:NewJ w0 W size f l q) (hs:size≤65536):Calls Tryz.prog 41 #[.int .i64 (size:Nat)] W fun e W'=>∃ x,e = .returned (.pointer (some (at0 x)))∧NewJ w0 W' size f l (some x):=by
 refine (outq_new (size:Nat) W).mono ?_;rintro e W' ⟨rfl,hq,hb⟩
 have hsz:sizeOf' ((size:Nat):Int)=size:=by unfold sizeOf'; omega
 rw [hsz] at hq;have hk:=h.keep (only_of_below hb);refine ⟨W.heap.size,rfl,hk.only,hk.fed,hk.lex,fun x hx=>?_,hk.fl,fun x y hx hy=>?_,fun x y hx hy=>?_⟩
 ·injection hx with hx
  subst hx;exact ⟨⟨hq.bx,Nat.zero_le _,hq.small,hq.few,Mid.nil _ _,hq.apart⟩,h.only.size,hq.bx.room⟩
 ·injection hy with hy
  subst hy;have:=(h.fed x hx).2.2;omega
 ·injection hy with hy
  subst hy;intro e;have:=(h.lex x hx).1.lt _ e;omega
end
noncomputable def putW (W:World) (b:Nat) (id:Int) (p:Nat):World:=
 match (Instr.mapUpdate 80 (.map (some b)) (.int .i64 id) (.pointer (some ⟨p,0,none⟩))).run Tryz.prog W with
 | .ok () w'=>w'
 | _=>W
theorem putW_run {b:Nat} {W:World} {rs:List (Int×Int)} (h:Pm b W rs) {id:Int} (p:Nat) (hw:wf64 id) (hl:rs.length≤1000000) :
  (Instr.mapUpdate 80 (.map (some b)) (.int .i64 id) (.pointer (some ⟨p,0,none⟩))).run Tryz.prog W = .ok () (putW W b id p)∧Pm b (putW W b id p) (rput rs id ((p:Int)+1))∧Only (fun k=>k=b) W (putW W b id p):=by
 obtain ⟨w',hrun,h1,h2⟩:=h.store p hw hl
 have e:putW W b id p=w':=by
  unfold putW;rw [hrun]
 rw [e];exact ⟨hrun,h1,h2⟩
def newF (F:Fp) (k gc f q:Nat) (l:Nat→Prop):Fp:=fun s x=>if s=10 * k then x=gc else if s=10 * k+1 then x=f else if s=10 * k+2 then l x else if s=10 * k+3 then x=q else F s x
section
variable {F:Fp} {k gc f q:Nat} {l:Nat→Prop}
theorem newF_0:newF F k gc f q l (10 * k)=fun x=>x=gc:=by funext x; unfold newF; rw [if_pos rfl]
theorem newF_1:newF F k gc f q l (10 * k+1)=fun x=>x=f:=by funext x; unfold newF; rw [if_neg (by omega),if_pos rfl]
theorem newF_2:newF F k gc f q l (10 * k+2)=l:=by funext x; unfold newF; rw [if_neg (by omega),if_neg (by omega),if_pos rfl]
theorem newF_3:newF F k gc f q l (10 * k+3)=fun x=>x=q:=by funext x; unfold newF; rw [if_neg (by omega),if_neg (by omega),if_neg (by omega),if_pos rfl]
theorem newF_o {s:Nat} (h0:s≠10 * k) (h1:s≠10 * k+1) (h2:s≠10 * k+2) (h3:s≠10 * k+3):newF F k gc f q l s=F s:=by funext x; unfold newF; rw [if_neg h0,if_neg h1,if_neg h2,if_neg h3]
theorem newF_sub {s x:Nat} (h:newF F k gc f q l s x):(s=10 * k∧x=gc)∨(s=10 * k+1∧x=f)∨(s=10 * k+2∧l x)∨(s=10 * k+3∧x=q)∨F s x:=by
 unfold newF at h
 split at h
 ·next e=>exact .inl ⟨e,h⟩
 ·split at h
  ·next e=>exact .inr (.inl ⟨e,h⟩)
  ·split at h
   ·next e=>exact .inr (.inr (.inl ⟨e,h⟩))
   ·split at h
    ·next e=>exact .inr (.inr (.inr (.inl ⟨e,h⟩)))
    ·exact .inr (.inr (.inr (.inr h)))
end
theorem addCn {F:Fp} {g:Nat} {y:Ly} {w w1 w2:World} {b:Br} (h:BrAt F g y w b) {k bm gc f q:Nat} {l:(Nat→Prop)×Nat} (h1:1≤k) (h2:k≤16) (hbm:y.cm=some bm) (hc:b.cs k=none)
  (hJ:NewJ w w1 b.cf.queue (some f) (some l) (some q)) (hgc:gc=w1.heap.size)
  (hbx:Bx gc w2 (crow k cnew ⟨f,l.2,q,none⟩)) (hpm:Pm bm w2 (rput y.rs ((k:Nat):Int) ((gc:Int)+1))) (hO:Only (fun x=>x=bm∨w1.heap.size≤x) w1 w2) :
  ∃ F2 rs2,BrIs F2 g rs2 w2 (setc b k (some cnew))∧(∀ x,Own1 F2 x→Own1 F x∨w.heap.size≤x)∧Only (Own1 F) w w2:=by
 have hb1:=h.quiet hJ.only
 have hF5:F 5 bm:=by
  rcases h.map with ⟨e,_⟩ | ⟨bm2,e,_,h5⟩
  ·rw [hbm] at e; cases e
  ·rw [hbm] at e; injection e with e; rw [e]; exact h5
 have hOw:Only (F 5) w w2:=(hJ.only.mono (T:=F 5) fun _ _ h=>h.elim).trans' hO fun x hx=>by
  rcases hx with hx | hx
  ·exact .inl (by rw [hx]; exact hF5)
  ·exact .inr (Nat.le_trans hJ.only.size hx)
 obtain ⟨f1,f2,f3⟩:=hJ.fed f rfl;obtain ⟨l1,l2⟩:=hJ.lex l rfl;obtain ⟨q1,q2,q3⟩:=hJ.que q rfl;have hfl:=hJ.fl f l rfl rfl;have hfq:=hJ.fq f q rfl rfl;have hlq:=hJ.lq l q rfl rfl;have hlt:=l1.lt;have hsz:=hJ.only.size;have hgw:gc<w2.heap.size:=hbx.room
 have hOld:∀ s x,F s x→x<w.heap.size:=fun s x hx=>h.fit.lt s x hx
 have hr:Rising y.rs:=by
  rcases h.map with ⟨_,e⟩ | ⟨_,_,hp,_⟩
  ·rw [e]; exact List.Pairwise.nil
  ·exact hp.rising
 have hd:∀ {s:Nat},s≠5→∀ x,F s x→¬ F 5 x:=fun hs x hx=>h.fit.ne hx hs
 have hno:∀ {x:Nat},w.heap.size≤x→x<w1.heap.size→¬ (x=bm∨w1.heap.size≤x):=fun hx1 hx2 hx=>by
  rcases hx with hx | hx
  ·have:=hOld 5 bm hF5; omega
  ·omega
 have hres:∀ j:Nat,j≠k→rrole (rput y.rs ((k:Nat):Int) ((gc:Int)+1)) j=rrole y.rs j:=fun j hj=>by
  rw [rrole_put hr,if_neg (by omega)]
 refine ⟨newF F k gc f q l.1,_,⟨{ ycy y k ⟨f,l.2,q,none⟩ with rs:=rput y.rs ((k:Nat):Int) ((gc:Int)+1) },rfl,?_⟩,?_,hOw.mono fun x _ hx=>⟨5,hx⟩⟩
 ·refine ⟨⟨fun s t x hs ht=>?_,fun s x hs=>?_⟩,fun x=>?_,h.row.keep hOw (hd (by decide) _ h.gow),?_,h.spot,?_,?_,.inr ⟨bm,hbm,hpm,?_⟩,?_,fun j j1 j2=>?_,?_⟩
  ·rcases newF_sub hs with ⟨a1,a2⟩ | ⟨a1,a2⟩ | ⟨a1,a2⟩ | ⟨a1,a2⟩ | a2 <;> rcases newF_sub ht with ⟨b1,b2⟩ | ⟨b1,b2⟩ | ⟨b1,b2⟩ | ⟨b1,b2⟩ | b2 <;>
    first
    | omega
    | exact h.fit.one _ _ _ a2 b2
    | (exfalso; subst a2; have:=hlt _ b2; omega)
    | (exfalso; subst b2; have:=hlt _ a2; omega)
    | (exfalso; subst a2; exact hfl b2)
    | (exfalso; subst b2; exact hfl a2)
    | (exfalso; subst a2; exact hlq b2)
    | (exfalso; subst b2; exact hlq a2)
    | (exfalso; have:=hOld _ _ a2; have:=l2 _ b2; omega)
    | (exfalso; have:=hOld _ _ b2; have:=l2 _ a2; omega)
    | (exfalso; have:=hOld _ _ a2; omega)
    | (exfalso; have:=hOld _ _ b2; omega)
  ·rcases newF_sub hs with ⟨a1,a2⟩ | ⟨a1,a2⟩ | ⟨a1,a2⟩ | ⟨a1,a2⟩ | a2
   ·omega
   ·omega
   ·have:=hlt _ a2; omega
   ·omega
   ·exact Nat.lt_of_lt_of_le (hOld _ _ a2) hOw.size
  ·rw [newF_o (by omega) (by omega) (by omega) (by omega)]; exact h.me x
  ·rw [newF_o (by omega) (by omega) (by omega) (by omega)]; exact h.ring.keep hOw (hd (by decide))
  ·rw [newF_o (by omega) (by omega) (by omega) (by omega)]; exact h.tab.keep hOw (hd (by decide))
  ·rw [newF_o (by omega) (by omega) (by omega) (by omega)]; exact h.inp.keep hOw (hd (by decide))
  ·rw [newF_o (by omega) (by omega) (by omega) (by omega)]; exact hF5
  ·intro p hp
   rcases rput_mem hp with e | e
   ·rw [e]; exact ⟨by show (1:Int)≤(k:Nat); omega,by show ((k:Nat):Int)≤16; omega⟩
   ·exact h.rsok p e
  ·show CnOpt _ j _ b.cf.queue w2 (if j=k then some cnew else b.cs j)
   by_cases e:j=k
   ·subst e
    rw [if_pos rfl];refine ⟨gc,by rw [rrole_put hr,if_pos rfl],?_⟩
    show CnAt _ j gc (if j=j then (⟨f,l.2,q,none⟩:Cy) else y.cy j) _ _ _
    rw [if_pos rfl];refine ⟨hbx,by rw [newF_0],⟨none,0,0,f1.only hO (hno f2 f3) (fun _ h=>(by cases h)),(by rw [newF_1]),fun x ⟨p,hp,_⟩=>(by cases hp)⟩,?_,?_,fun gv e=>(by cases e),fun e=>(by cases e)⟩
    ·rw [newF_2]
     exact l1.keep hO (fun x hx=>hno (l2 x hx) (hlt x hx))
    ·rw [newF_3]
     exact ⟨none,0,q1.only hO (hno q2 q3) (fun _ h=>(by cases h)),rfl,fun x ⟨p,hp,_⟩=>(by cases hp),fun x hx=>(by rw [show x=q from hx]; have:=hO.size; omega)⟩
   ·rw [if_neg e]
    have:=h.cns j j1 j2
    revert this
    rcases b.cs j with _ | c2
    ·intro h0
     show rrole (rput y.rs ((k:Nat):Int) ((gc:Int)+1)) j=0
     rw [hres j e]; exact h0
    ·rintro ⟨g2,h3,h4⟩
     refine ⟨g2,by show rrole (rput y.rs ((k:Nat):Int) ((gc:Int)+1)) j=_; rw [hres j e]; exact h3,?_⟩
     show CnAt _ j g2 (if j=k then _ else y.cy j) _ _ _
     rw [if_neg e]
     exact (h4.keep hOw fun i x _ hx=>hd (by omega) x hx).re fun i hi=>newF_o (by omega) (by omega) (by omega) (by omega)
  ·refine h.base.step (hOw.mono fun x _ hx=>⟨5,hx⟩) ?_
   rintro x ⟨s,hs⟩
   rcases newF_sub hs with ⟨a1,a2⟩ | ⟨a1,a2⟩ | ⟨a1,a2⟩ | ⟨a1,a2⟩ | a2
   ·exact .inr (by omega)
   ·exact .inr (by omega)
   ·exact .inr (l2 _ a2)
   ·exact .inr (by omega)
   ·exact .inl ⟨s,a2⟩
 ·rintro x ⟨s,hs⟩
  rcases newF_sub hs with ⟨a1,a2⟩ | ⟨a1,a2⟩ | ⟨a1,a2⟩ | ⟨a1,a2⟩ | a2
  ·exact .inr (by omega)
  ·exact .inr (by omega)
  ·exact .inr (l2 _ a2)
  ·exact .inr (by omega)
  ·exact .inl ⟨s,a2⟩
theorem mkMap {F:Fp} {g:Nat} {y:Ly} {w w1:World} {b:Br} (h:BrAt F g y w b) (hcm:y.cm=none) (hw1:w1=w.alloc (.map #[] 0)) :
  BrAt (upF F 5 (fun x=>x=w.heap.size)) g { y with cm:=some w.heap.size,rs:=[] } (w1.setCell ⟨g,24,none⟩ (.map (some w.heap.size))) b∧y.rs=[]:=by
 have hrs:y.rs=[]:=by
  rcases h.map with ⟨_,e⟩ | ⟨bm,e,_⟩
  ·exact e
  ·rw [hcm] at e; cases e
 refine ⟨?_,hrs⟩;subst hw1;have hO0:=nay_alloc w (.map #[] 0);have hb:=h.quiet hO0
 have hlt:∀ s x,F s x→x<w.heap.size:=fun s x hx=>h.fit.lt s x hx
 have hsz:(w.alloc (.map #[] 0)).heap.size=w.heap.size+1:=by simp
 have hOg:Only (fun x=>x=g) (w.alloc (.map #[] 0)) ((w.alloc (.map #[] 0)).setCell ⟨g,24,none⟩ (.map (some w.heap.size))):=Bx.only g _ 24 _
 have hO1:Only (fun x=>F 1 x∨F 5 x) (w.alloc (.map #[] 0)) ((w.alloc (.map #[] 0)).setCell ⟨g,24,none⟩ (.map (some w.heap.size))):=hOg.mono fun x _ hx=>by rw [show x=g from hx]; exact .inl h.gow
 have hO:Only (fun x=>F 1 x∨F 5 x) w ((w.alloc (.map #[] 0)).setCell ⟨g,24,none⟩ (.map (some w.heap.size))):=(hO0.mono fun _ _ h=>h.elim).trans hO1
 have hgn:g≠w.heap.size:=fun e=>by have:=hlt 1 g h.gow; omega
 have hnew:∀ x,(fun x=>x=w.heap.size) x→F 5 x∨w.heap.size≤x:=fun x hx=>.inr (by rw [show x=w.heap.size from hx]; exact Nat.le_refl _)
 refine ⟨h.fit.up hnew (fun x hx=>by rw [show x=w.heap.size from hx]; have:=hOg.size; omega) hO.size,fun x=>by rw [upF_other (by decide)]; exact h.me x,hb.row.set 24 (.map (some w.heap.size)),?_,h.spot,?_,?_,.inr ⟨w.heap.size,rfl,?_,?_⟩,?_,fun k k1 k2=>?_,?_⟩
 ·rw [upF_other (by decide)]; exact h.ring.keep hO (h.dis (by decide) (by decide))
 ·rw [upF_other (by decide)]; exact h.tab.keep hO (h.dis (by decide) (by decide))
 ·rw [upF_other (by decide)]; exact h.inp.keep hO (h.dis (by decide) (by decide))
 ·exact (Pm.made w w.heap.size rfl).keep hOg (fun e=>hgn (show w.heap.size=g from e).symm)
 ·rw [upF_same]
 ·intro p hp
  cases hp
 ·rcases hk:b.cs k with _ | c
  ·show rrole ([]:List (Int×Int)) k=0
   rfl
  ·obtain ⟨gc,hgc,_⟩:=h.conn k1 k2 hk
   rw [hrs] at hgc;have:(0:Int)=(gc:Int)+1:=hgc;omega
 ·exact h.base.step (hO.mono fun x _ hx=>hx.elim (fun h=>⟨_,h⟩) (fun h=>⟨_,h⟩)) (upF_own hnew)
theorem rising_len:∀ (l:List (Int×Int)) (a:Int),Rising l→(∀ p∈l,a≤p.1∧p.1≤16)→a≤17→(l.length:Int)≤17 - a
  | [],a,_,_,h=>by simp; omega
  | p :: l,a,hr,hp,_=>by
    obtain ⟨h1,h2⟩:=List.pairwise_cons.1 hr;have h3:=hp p List.mem_cons_self;have:=rising_len l (p.1+1) h2 (fun q hq=>⟨by have:=h1 q hq; omega,(hp q (List.mem_cons_of_mem _ hq)).2⟩) (by omega);rw [List.length_cons]
    push_cast
    omega
theorem BrAt.few {F:Fp} {g:Nat} {y:Ly} {w:World} {b:Br} (h:BrAt F g y w b):y.rs.length≤1000000:=by
 have hr:Rising y.rs:=by
  rcases h.map with ⟨_,e⟩ | ⟨_,_,hp,_⟩
  ·rw [e]; exact List.Pairwise.nil
  ·exact hp.rising
 have:=rising_len y.rs 1 hr h.rsok (by decide);omega
def Mapped (F:Fp) (g:Nat) (w:World) (b:Br) (wx:World):Prop:=∃ F1 y1 bm,y1.cm=some bm∧BrAt F1 g y1 wx b∧(∀ x,Own1 F1 x→Own1 F x∨w.heap.size≤x)∧Only (Own1 F) w wx
theorem bconnect_any {F:Fp} {g:Nat} {rs:List (Int×Int)} {w:World} {b:Br} (h:BrIs F g rs w b) (hk:BOk b) (id:Int) (hid:wf64 id):Calls Tryz.prog 25 #[.pointer (some (at0 g)),.int .i64 id] w fun e w' =>
  EGives F g w (connectB b id) (.int .i64 (connectE b id:Nat)) e w':=by
 obtain ⟨y,rfl,h⟩:=h;have hm:=h.row.cell 24 (.map y.cm) rfl
 have hnil:∀ (m:Option Nat) (W:World),(binOp .eql 80 (.map m) (.map none)).run Tryz.prog W = .ok (.bool m.isNone) W:=fun m W=>run_eql_map_nil (P:=Tryz.prog) W 80 3 88 m Tryz.underlying80
 by_cases h0:id<1∨16<id
 ·have e2:connectE b id=1:=by unfold connectE; rw [if_pos h0]
  have e1:connectB b id=b:=by unfold connectB; rw [if_neg (by rw [e2]; decide)]
  rw [e1,e2];have HG:=lj (h.gives (.int .i64 (1:Nat)));clear h hk e1 e2 hm
  rcases (show id<1∨(¬ id<1∧16<id) by omega) with h1 | ⟨h1,h2⟩
  ·have d1:decide (id<1)=true:=by simpa using h1
   go_enter Tryz.func25,Tryz.ntmps25
   go_wp2;go_ret;obtain ⟨F2,he,hb2,hs2,ho2⟩:=HG.out;exact ⟨F2,y.rs,rfl,hb2,hs2,ho2⟩
  ·have d1:decide (id<1)=false:=by simpa using h1
   have d2:decide (id > 16)=true:=by simpa using h2
   go_enter Tryz.func25,Tryz.ntmps25
   go_wp2;go_ret;obtain ⟨F2,he,hb2,hs2,ho2⟩:=HG.out;exact ⟨F2,y.rs,rfl,hb2,hs2,ho2⟩
 ·have d1:decide (id<1)=false:=by simp; omega
  have d2:decide (id > 16)=false:=by simp; omega
  rcases h.there id with ⟨h1,h2⟩ | ⟨k,c,gc,h3,h4,h5,h6,h7,h8,h9,h10⟩
  ·obtain ⟨k,rfl⟩:∃ k:Nat,id=(k:Nat):=⟨id.toNat,by omega⟩
   have hc:b.cs k=none:=by
    unfold Bk.isThere at h1;rw [show ((k:Nat):Int).toNat=k by omega] at h1
    rcases e:b.cs k with _ | c
    ·rfl
    ·rw [e] at h1; simp at h1; omega
   obtain ⟨e2,e1⟩:=connect_new (b:=b) (k:=k) (by omega) (by omega) hc;rw [e1,e2];have hl:=h.lookN hid h2
   have k1:1≤k:=by omega
   have k2:k≤16:=by omega
   have HB:=lj h;have HC:=lj (And.intro hc hk);clear h h0 h1 h2 e1 e2 hc hk
   go_enter Tryz.func25,Tryz.ntmps25
   go_upto_if 22 with fail
   go_cut [] (fun wx=>Mapped F g w b wx)
   case first =>
    rcases hcm:y.cm with _ | bm
    ·have hd:(Option.isNone (none:Option Nat))=true:=rfl
     obtain ⟨hmm,hrs⟩:=mkMap HB.out hcm rfl;have hgw:g<w.heap.size:=HB.out.row.room;have hmk:=@run_makeMap Tryz.prog;rw [World.setCell_alloc_past _ _ _ _ hgw] at hmm;have HM:=lj hmm;have hd0:=hnil none w;rw [hcm] at hm hl;have hf24:=HB.out.row.free 24;clear hmm hnil
     have f24:∀ o,(w.alloc o).frozen? ⟨g,24,none⟩=false:=fun o=>(HB.out.quiet (nay_alloc w o)).row.free 24
     have c24:∀ o,(w.alloc o).cell? ⟨g,24,none⟩=some (.map y.cm):=fun o=>(HB.out.quiet (nay_alloc w o)).row.cell 24 (.map y.cm) rfl
     go_wp2
     go_meet
     refine ⟨_,_,w.heap.size,rfl,HM.out,upF_own (fun x hx=>.inr (by rw [show x=w.heap.size from hx]; exact Nat.le_refl _)),?_⟩;exact (((Bx.only g w 24 _).alloc _).mono fun x _ hx=>by rw [show x=g from hx]; exact ⟨1,HB.out.gow⟩)
    ·go_wp2
     go_meet
     exact ⟨F,y,bm,hcm,HB.out,fun _ h=>.inl h,Only.refl _ _⟩
   case rest =>
    obtain ⟨F1,y1,bm,hcm,hb1,hs1,ho1⟩:=hcut;have hkk:=HC.out.2;have hqs:b.cf.queue≤65536:=hkk.queue.2;have HN:Hid (NewJ wc wc.drew b.cf.queue none none none):=lj ⟨(Only.refl Nay wc).drew,fun _ h=>(by cases h),fun _ h=>(by cases h),fun _ h=>(by cases h),fun _ _ h=>(by cases h),fun _ _ h=>(by cases h),fun _ _ h=>(by cases h)⟩
    have hF5:F1 5 bm:=by
     rcases hb1.map with ⟨e,_⟩ | ⟨bm2,e,_,h5⟩
     ·rw [hcm] at e; cases e
     ·rw [hcm] at e; injection e with e; rw [e]; exact h5
    have hgb:g≠bm:=fun e=>hb1.fit.ne hb1.gow (t:=5) (by decide) (e ▸ hF5)
    have HS:=lj (show ∀ W,Only (fun x=>x=bm) wc W→W.cell? ⟨g,24,none⟩=some (.map (some bm))∧W.cell? ⟨g,2,none⟩=some (.int .i64 (b.cf.queue:Nat)) from fun W hO=>⟨by have:=hO.keepCell (p:=⟨g,24,none⟩) hgb (hb1.row.cell 24 (.map y1.cm) rfl); rw [hcm] at this; exact this,hO.keepCell (p:=⟨g,2,none⟩) hgb (hb1.row.cell 2 _ rfl)⟩)
    have hnb:∀ {W},Only Nay wc W→Only (fun x=>x=bm) wc W:=fun h=>h.mono fun _ _ h=>h.elim
    have hpm0:Pm bm wc y1.rs:=by
     rcases hb1.map with ⟨e,_⟩ | ⟨bm2,e,h,_⟩
     ·rw [hcm] at e; cases e
     ·rw [hcm] at e; injection e with e; rw [e]; exact h
    have HP:=lj (show ∀ W,Only Nay wc W→∀ o,(Instr.mapUpdate 80 (.map (some bm)) (.int .i64 (k:Nat)) (.pointer (some ⟨W.heap.size,0,none⟩))).run Tryz.prog (W.alloc o) = .ok () (putW (W.alloc o) bm (k:Nat) W.heap.size)∧Pm bm (putW (W.alloc o) bm (k:Nat) W.heap.size) (rput y1.rs ((k:Nat):Int) ((W.heap.size:Int)+1))∧Only (fun x=>x=bm) (W.alloc o) (putW (W.alloc o) bm (k:Nat) W.heap.size) from
     fun W hO o=>putW_run ((hpm0.keep hO (fun h=>h)).keep (nay_alloc W o) (fun h=>h)) W.heap.size hid hb1.few)
    have HX:=lj (And.intro hcm (And.intro hb1 (And.intro hs1 ho1)));have hbmw:bm<wc.heap.size:=hb1.fit.lt _ _ hF5;clear hcm hb1 hs1 ho1 hm hnil hl hkk hpm0 d1 d2 hF5 hgb
    go_upto_region 7 with fail
    go_region_held (fun w'=>w'.cell? ⟨g,24,none⟩=some (.map (some bm))∧w'.cell? ⟨g,2,none⟩=some (.int .i64 (b.cf.queue:Nat)))
     (exact HS.out _ (by first | with_reducible exact hnb HN.out.only | with_reducible exact hnb (HN.out.only.alloc _) | with_reducible exact (hnb (HN.out.only.alloc _)).trans (HP.out _ HN.out.only _).2.2))
     (first
      | (go_at_call 42; refine (NewJ.mkFeed HN.out).mono ?_; rintro e wf ⟨xf,rfl,hn⟩; have hst:=fun o=>(HP.out _ hn.only o).1; have HN:=lj hn; clear hn)
      | (go_at_call 43; refine (NewJ.mkLex HN.out).mono ?_; rintro e wl ⟨xl,rfl,hn⟩; have hst:=fun o=>(HP.out _ hn.only o).1; have HN:=lj hn; clear hn)
      | (go_at_call 41; refine (NewJ.mkQue HN.out hqs).mono ?_; rintro e wq ⟨xq,rfl,hn⟩; have hst:=fun o=>(HP.out _ hn.only o).1; have HN:=lj hn; clear hn))
    all_goals
     have hfin:=addCn HX.out.2.1 k1 k2 HX.out.1 HC.out.1 HN.out rfl (((Bx.new _ _ rfl _ 94).keep (HP.out _ HN.out.only _).2.2 (fun e=>(by have h9:=HN.out.only.size; have h8:bm<wc.heap.size:=hbmw; omega)))) (HP.out _ HN.out.only _).2.1 (((nay_alloc _ _).mono fun _ _ h=>h.elim).trans ((HP.out _ HN.out.only _).2.2.mono fun x _ hx=>.inl hx));obtain ⟨F2,rs2,hb2,hs2,ho2⟩:=hfin
     have HE:=lj (And.intro hb2 (And.intro (show ∀ x,Own1 F2 x→Own1 F x∨w.heap.size≤x from fun x hx=>by
      rcases hs2 x hx with h | h
      ·exact HX.out.2.2.1 x h
      ·exact .inr (Nat.le_trans HX.out.2.2.2.size h)) (HX.out.2.2.2.trans' ho2 HX.out.2.2.1)))
     clear hb2 hs2 ho2;go_wp2;go_ret;exact ⟨F2,rs2,rfl,HE.out.1,HE.out.2.1,HE.out.2.2⟩
  ·have e2:connectE b id=3:=by unfold connectE; rw [if_neg h0,if_pos h9]
   have e1:connectB b id=b:=by unfold connectB; rw [if_neg (by rw [e2]; decide)]
   rw [e1,e2];have hl:=h.lookS hid (by rw [h3]; exact h7);have HG:=lj (h.gives (.int .i64 (3:Nat)));clear h hk e1 e2 h0 h3 h6 h7 h8 h9 h10
   go_enter Tryz.func25,Tryz.ntmps25
   go_wp2;go_ret;obtain ⟨F2,he,hb2,hs2,ho2⟩:=HG.out;exact ⟨F2,y.rs,rfl,hb2,hs2,ho2⟩
end
section
open Go.RowKit Go.Shelf Go.Maps
open Fr Bk
structure NT where
 g:Nat
 om:Option Nat
 a:Option Addr
 n:Nat
 c:Nat
 G:Nat→Prop
structure NI where
 g:Nat
 a:Option Addr
 c:Nat
 G:Nat→Prop
structure NewB (w0 W:World) (cf:Cf) (r:Option (Nat×Nat)) (s:Option (Nat×Nat×Nat)) (t:Option NT) (i:Option NI):Prop where
 only:Only Nay w0 W
 ring:∀ x,r=some x→Raw z0 W x.1 x.2 cf.log (List.replicate cf.log 0#8) 0∧w0.heap.size≤x.2
 spot:∀ x,s=some x→RepC x.2.1 x.2.2 0 0∧Bo z0 x.1 W (SV x.2.1 x.2.2 ⟨cf.width,0,0,0⟩)
 tab:∀ x,t=some x→TaAt z0 x.G x.g x.om x.a x.n x.c W (ofFl (fnew cf.lease))∧∀ b,x.G b→w0.heap.size≤b
 inp:∀ x,i=some x→Que z0 (IR 0 false) 0 W x.g cf.input x.a 0 x.c []∧(∀ b,In x.a b→x.G b)∧∀ b,x.G b→w0.heap.size≤b∧b<W.heap.size
 rt:∀ x y,r=some x→t=some y→¬ y.G x.2
 ri:∀ x y,r=some x→i=some y→¬ y.G x.2
 ti:∀ x y,t=some x→i=some y→∀ b,x.G b→¬ y.G b
section
variable {w0 W W':World} {cf:Cf} {r:Option (Nat×Nat)} {s:Option (Nat×Nat×Nat)} {t:Option NT} {i:Option NI}
theorem NewB.keep (h:NewB w0 W cf r s t i) (hO:Only Nay W W'):NewB w0 W' cf r s t i:=
 ⟨h.only.trans hO,fun x hx=>⟨(h.ring x hx).1.keep hO (fun h=>h) (fun h=>h),(h.ring x hx).2⟩,fun x hx=>⟨(h.spot x hx).1,(h.spot x hx).2.keep hO (fun h=>h)⟩,
  fun x hx=>by
   have h1:=(h.tab x hx).1;refine ⟨⟨h1.bx.keep hO (fun h=>h),?_,h1.rw.only hO (fun _ _ h=>h),h1.d1,h1.d2,h1.d3,h1.m1,h1.m2,h1.m3,fun b hb=>Nat.lt_of_lt_of_le (h1.lt b hb) hO.size,h1.l1,h1.l2⟩,(h.tab x hx).2⟩
   rcases h1.mo with h2 | ⟨bm,h2,h3⟩
   ·exact .inl h2
   ·exact .inr ⟨bm,h2,h3.keep hO (fun h=>h)⟩,
  fun x hx=>⟨(h.inp x hx).1.only hO (fun h=>h) (fun _ _ h=>h),(h.inp x hx).2.1,fun b hb=>⟨((h.inp x hx).2.2 b hb).1,Nat.lt_of_lt_of_le ((h.inp x hx).2.2 b hb).2 hO.size⟩⟩,h.rt,h.ri,h.ti⟩
theorem NewB.mkRing2 (h:NewB w0 W cf r s t i) (h1:1≤cf.log∧cf.log≤65536):Calls Tryz.prog 21 #[.int .i64 cf.log] W fun e W'=>∃ x,e = .returned (.pointer (some (at0 x.1)))∧NewB w0 W' cf (some x) s t i∧Only Nay W W':=by
 refine (new_any (cf.log:Nat) W).mono ?_;rintro e W' ⟨rfl,hf,hb,hz⟩
 have hro:roomOf ((cf.log:Nat):Int)=cf.log:=by unfold roomOf; omega
 rw [hro] at hf;have hk:=h.keep (only_of_below hb);refine ⟨(W.heap.size+1,W.heap.size),rfl,⟨hk.only,fun x hx=>?_,hk.spot,hk.tab,hk.inp,fun x y hx hy=>?_,fun x y hx hy=>?_,hk.ti⟩,only_of_below hb⟩
 ·injection hx with hx
  subst hx;exact ⟨hf,h.only.size⟩
 ·injection hx with hx
  subst hx;intro e;have:=(h.tab y hy).1.lt _ e;simp at this
 ·injection hx with hx
  subst hx;intro e;have:=((h.inp y hy).2.2 _ e).2;simp at this
theorem NewB.mkSpot2 (h:NewB w0 W cf r s t i) (h1:1≤cf.width∧cf.width≤500):Calls Tryz.prog 22 #[.int .i64 cf.width] W fun e W'=>∃ x,e = .returned (.pointer (some (at0 x.1)))∧NewB w0 W' cf r (some x) t i∧Only Nay W W':=by
 refine (snew_any (cf.width:Nat) W).mono ?_;rintro e W' ⟨g,rfl,hg,⟨_,sa,sb,hr,hx0⟩,hb⟩
 have hco:cols ((cf.width:Nat):Int)=(cf.width:Nat):=by unfold cols; rw [if_neg (by omega),if_neg (by omega)]
 rw [hco] at hx0;have hk:=h.keep (only_of_below hb);refine ⟨(g,sa,sb),rfl,⟨hk.only,hk.ring,fun x hx=>?_,hk.tab,hk.inp,hk.rt,hk.ri,hk.ti⟩,only_of_below hb⟩
 injection hx with hx
 subst hx;exact ⟨hr,hx0⟩
theorem NewB.mkTab2 (h:NewB w0 W cf r s t i):Calls Tryz.prog 23 #[.int .i64 cf.lease] W fun e W'=>∃ x,e = .returned (.pointer (some (at0 x.g)))∧NewB w0 W' cf r s (some x) i∧Only Nay W W':=by
 refine (tnew_any (cf.lease:Nat) W).mono ?_;rintro e W' ⟨G,g,rfl,⟨om,a,n,c,ht⟩,hG,hb⟩;have hk:=h.keep (only_of_below hb);refine ⟨⟨g,om,a,n,c,G⟩,rfl,⟨hk.only,hk.ring,hk.spot,fun x hx=>?_,hk.inp,fun x y hx hy=>?_,hk.ri,fun x y hx hy b hb'=>?_⟩,only_of_below hb⟩
 ·injection hx with hx
  subst hx;exact ⟨ht,fun b hb=>Nat.le_trans h.only.size (hG b hb)⟩
 ·injection hy with hy
  subst hy;intro e;have:=block_lt (h.ring x hx).1.body;have:=hG _ e;omega
 ·injection hx with hx
  subst hx;intro e;have:=((h.inp y hy).2.2 _ e).2;have:=hG _ hb';omega
theorem NewB.mkInp2 (h:NewB w0 W cf r s t i) (h1:1≤cf.input∧cf.input≤65536):Calls Tryz.prog 24 #[.int .i64 cf.input] W fun e W'=>∃ x,e = .returned (.pointer (some (at0 x.g)))∧NewB w0 W' cf r s t (some x)∧Only Nay W W':=by
 refine (iq_new (cf.input:Nat) W).mono ?_;rintro e W' ⟨g,G,rfl,⟨a,c,hq,q1,q2,q3⟩,hG,hb⟩
 have hsz:sizeOf' ((cf.input:Nat):Int)=cf.input:=by unfold sizeOf'; omega
 rw [hsz] at hq;have hk:=h.keep (only_of_below hb);refine ⟨⟨g,a,c,G⟩,rfl,⟨hk.only,hk.ring,hk.spot,hk.tab,fun x hx=>?_,hk.rt,fun x y hx hy=>?_,fun x y hx hy b hb'=>?_⟩,only_of_below hb⟩
 ·injection hx with hx
  subst hx;exact ⟨hq,q2,fun b hb=>⟨Nat.le_trans h.only.size (hG b hb),q3 b hb⟩⟩
 ·injection hy with hy
  subst hy;intro e;have:=block_lt (h.ring x hx).1.body;have:=hG _ e;omega
 ·injection hy with hy
  subst hy;intro e;have:=(h.tab x hx).1.lt _ hb';have:=hG _ e;omega
end
structure CfOk (cf:Cf):Prop where
 log:1≤cf.log∧cf.log≤65536
 data:1≤cf.data∧cf.data≤2042
 queue:220≤cf.queue∧cf.queue≤65536
 input:1≤cf.input∧cf.input≤65536
 strikes:cf.strikes≤9
 lease:1≤cf.lease∧cf.lease≤1000
 idle:cf.idle≤1000
 width:1≤cf.width∧cf.width≤500
def cfRow (cf:Cf):Array Value:=#[.int .i64 cf.log,.int .i64 cf.data,.int .i64 cf.queue,.int .i64 cf.input,.int .i64 cf.strikes,.int .i64 cf.lease,.int .i64 cf.idle,.int .i64 cf.width]
def bF (g gk:Nat) (T I:Nat→Prop):Fp:=fun s x=>if s=1 then x=g else if s=2 then x=gk else if s=3 then T x else if s=4 then I x else False
theorem bF_sub {g gk:Nat} {T I:Nat→Prop} {s x:Nat} (h:bF g gk T I s x):(s=1∧x=g)∨(s=2∧x=gk)∨(s=3∧T x)∨(s=4∧I x):=by
 unfold bF at h
 split at h
 ·next e=>exact .inl ⟨e,h⟩
 ·split at h
  ·next e=>exact .inr (.inl ⟨e,h⟩)
  ·split at h
   ·next e=>exact .inr (.inr (.inl ⟨e,h⟩))
   ·split at h
    ·next e=>exact .inr (.inr (.inr ⟨e,h⟩))
    ·exact h.elim
def newRow (cf:Cf) (gk:Nat) (s:Nat×Nat×Nat) (t:NT) (i:NI):Array Value:=rowOf (bnew cf) ⟨gk,t.om,t.a,t.n,t.c,i.a,i.c,s.2.1,s.2.2,none,[],fun _=>⟨0,0,0,none⟩⟩
theorem mkBroker {w0 W:World} {cf:Cf} {r:Nat×Nat} {s:Nat×Nat×Nat} {t:NT} {i:NI} (h:NewB w0 W cf (some r) (some s) (some t) (some i)) (ht:TI w0) (ty:TypeId) (ho:CfOk cf) :
  BrIs (bF W.heap.size r.2 t.G i.G) W.heap.size [] (W.alloc (.cells (newRow cf r.2 s t i) ty)) (bnew cf)∧(∀ x,Own1 (bF W.heap.size r.2 t.G i.G) x→w0.heap.size≤x):=by
 obtain ⟨r1,r2⟩:=h.ring r rfl;obtain ⟨s1,s2⟩:=h.spot s rfl;obtain ⟨t1,t2⟩:=h.tab t rfl;obtain ⟨i1,i2,i3⟩:=h.inp i rfl;have hrt:=h.rt r t rfl rfl;have hri:=h.ri r i rfl rfl;have hti:=h.ti t i rfl rfl;have hO:=nay_alloc W (.cells (newRow cf r.2 s t i) ty);have hk:=h.keep hO;have hgk:=block_lt r1.body;have hsz:=h.only.size
 have hge:∀ x,Own1 (bF W.heap.size r.2 t.G i.G) x→w0.heap.size≤x:=by
  rintro x ⟨q,hq⟩
  rcases bF_sub hq with ⟨_,e⟩ | ⟨_,e⟩ | ⟨_,e⟩ | ⟨_,e⟩
  ·omega
  ·omega
  ·exact t2 x e
  ·exact (i3 x e).1
 have hT:∀ x,t.G x→x<W.heap.size:=t1.lt
 have hI:∀ x,i.G x→x<W.heap.size:=fun x hx=>(i3 x hx).2
 refine ⟨⟨_,rfl,⟨⟨fun a b x ha hb=>?_,fun a x ha=>?_⟩,fun x=>Iff.rfl,Bx.new W _ rfl _ _,?_,s1,?_,?_,.inl ⟨rfl,rfl⟩,fun p hp=>(by cases hp),fun k _ _=>rfl,?_⟩⟩,hge⟩
 ·rcases bF_sub ha with ⟨a1,a2⟩ | ⟨a1,a2⟩ | ⟨a1,a2⟩ | ⟨a1,a2⟩ <;> rcases bF_sub hb with ⟨b1,b2⟩ | ⟨b1,b2⟩ | ⟨b1,b2⟩ | ⟨b1,b2⟩ <;>
   first
   | omega
   | (exfalso; have:=hT _ a2; omega)
   | (exfalso; have:=hT _ b2; omega)
   | (exfalso; have:=hI _ a2; omega)
   | (exfalso; have:=hI _ b2; omega)
   | (exfalso; subst a2; exact hrt b2)
   | (exfalso; subst b2; exact hrt a2)
   | (exfalso; subst a2; exact hri b2)
   | (exfalso; subst b2; exact hri a2)
   | exact (hti _ a2 b2).elim
   | exact (hti _ b2 a2).elim
 ·have:=hO.size
  rw [World.size_alloc]
  rcases bF_sub ha with ⟨_,e⟩ | ⟨_,e⟩ | ⟨_,e⟩ | ⟨_,e⟩
  ·omega
  ·omega
  ·have:=hT x e; omega
  ·have:=hI x e; omega
 ·exact ⟨rfl,by show 0<cf.log; have:=ho.log; omega,ho.log.2,Nat.zero_le _,List.replicate cf.log 0#8,((hk.ring r rfl).1).body,Rg.inv_init _ _ (by simp; rfl)⟩
 ·obtain ⟨t3,_⟩:=hk.tab t rfl
  exact ⟨t3.mo,t3.rw,t3.d3,fun bm e=>t3.m2 bm e,fun x hx=>t3.m3 x hx,t3.l1,t3.l2⟩
 ·obtain ⟨i4,_⟩:=hk.inp i rfl
  exact ⟨ho.input.2,Nat.zero_le _,i4.mid,fun x hx=>i2 x hx⟩
 ·exact ⟨w0,ht,(h.only.trans hO).below (Nat.le_refl _) (fun _ _ h=>h),fun q x hx=>hge x ⟨q,hx⟩⟩
theorem held_more {P:Program} {md:Region.Mode} {ops:Array Oper} {Q:Exit→Act→World→Prop} {S T:World→Prop} (h:∀ w,T w→S w) :
  ∀ (fuel:Nat) (listed:Array Bool) (a:Act) (w:World),wpAnyH P md ops Q T fuel listed a w→wpAnyH P md ops Q S fuel listed a w
 | 0,_,_,_,hh=>hh
 | fuel+1,_,_,_,hh=>⟨hh.1,fun i hi=>wpOp_mono (fun a' w' h'=>⟨h w' h'.1,held_more h fuel _ a' w' h'.2⟩) (hh.2 i hi)⟩
section
variable {w0 W:World} {cf:Cf} {r:Option (Nat×Nat)} {s:Option (Nat×Nat×Nat)} {t:Option NT} {i:Option NI}
theorem NewB.ringC {x:Nat×Nat} (h:NewB w0 W cf (some x) s t i):W.cell? ⟨x.1,0,none⟩=some (.int .i64 0)∧W.cell? ⟨x.1,1,none⟩=some (.slice (some ⟨x.2,0,none⟩) cf.log cf.log):=
 ⟨(h.ring x rfl).1.end_,(h.ring x rfl).1.kept⟩
theorem NewB.spotC {x:Nat×Nat×Nat} (h:NewB w0 W cf r (some x) t i):W.cell? ⟨x.1,0,none⟩=some (.complex .f64 x.2.1 x.2.2)∧W.cell? ⟨x.1,1,none⟩=some (.int .i64 ((cf.width:Nat) - 1))∧W.cell? ⟨x.1,2,none⟩=some (.int .i64 0):=
 ⟨(h.spot x rfl).2.cell 0 _ rfl,(h.spot x rfl).2.cell 1 _ rfl,(h.spot x rfl).2.cell 2 _ rfl⟩
theorem NewB.tabC {x:NT} (h:NewB w0 W cf r s (some x) i):W.cell? ⟨x.g,0,none⟩=some (.map x.om)∧W.cell? ⟨x.g,1,none⟩=some (.int .i64 (ofFl (fnew cf.lease)).hold)∧W.cell? ⟨x.g,2,none⟩=some (.int .i64 ((ofFl (fnew cf.lease)).left:Nat))∧W.cell? ⟨x.g,3,none⟩=some (.slice x.a x.n x.c)∧W.cell? ⟨x.g,4,none⟩=some (.int .i64 (((ofFl (fnew cf.lease)).lease:Int) - 1)):=
 have hb:=(h.tab x rfl).1.bx
 ⟨hb.cell 0 _ rfl,hb.cell 1 _ rfl,hb.cell 2 _ rfl,hb.cell 3 _ rfl,hb.cell 4 _ rfl⟩
theorem NewB.inpC {x:NI} (h:NewB w0 W cf r s t (some x)):W.cell? ⟨x.g,0,none⟩=some (.int .i64 cf.input)∧W.cell? ⟨x.g,1,none⟩=some (.slice x.a 0 x.c)∧W.cell? ⟨x.g,2,none⟩=some (.int .i64 0)∧W.cell? ⟨x.g,3,none⟩=some (.bool false):=
 have hb:=(h.inp x rfl).1.bx
 ⟨hb.cell 0 _ rfl,hb.cell 1 _ rfl,hb.cell 2 _ rfl,hb.cell 3 _ rfl⟩
end
set_option maxHeartbeats 1000000 in
theorem bnew_any {cf:Cf} (ho:CfOk cf) (w:World) (ht:TI w):Calls Tryz.prog 14 #[.agg (cfRow cf)] w fun e w' =>
  ∃ F g,e = .returned (.pointer (some (at0 g)))∧BrIs F g [] w' (bnew cf)∧(∀ x,Own1 F x→w.heap.size≤x)∧Only Nay w w':=by
 have hrt:rt (cf.log:Nat) (cf.data:Nat) (cf.queue:Nat) (cf.input:Nat) (cf.strikes:Nat) (cf.lease:Nat) (cf.idle:Nat) (cf.width:Nat)=true:=by
  obtain ⟨h1,h2,h3,h4,h5,h6,h7,h8⟩:=ho;unfold rt bw;simp;omega
 have HC:=lj (fun W=>cright_any (cf.log:Nat) (cf.data:Nat) (cf.queue:Nat) (cf.input:Nat) (cf.strikes:Nat) (cf.lease:Nat) (cf.idle:Nat) (cf.width:Nat) W);rw [hrt] at HC;have hbx:=Bx.new w _ rfl (cfRow cf) 23;have hO0:=nay_alloc w (.cells (cfRow cf) 23);have HB:=lj (And.intro hbx hO0);have HK:=lj (And.intro ho ht);clear hrt ho ht hbx hO0;unfold cfRow at *
 go_enter Tryz.func14,Tryz.ntmps14
 go_wp2_with fail
 refine (HC.out _).mono ?_;rintro e w1 ⟨rfl,hb1⟩;have hO1:=only_of_below hb1;have hx1:=lj (HB.out.1.keep hO1 (fun h=>h));have HO1:=lj (HB.out.2.trans hO1);clear hb1 hO1 HB HC;have HN:Hid (NewB w1 w1.drew cf none none none none):=lj ⟨(Only.refl Nay w1).drew,fun _ h=>(by cases h),fun _ h=>(by cases h),fun _ h=>(by cases h),fun _ h=>(by cases h),fun _ _ h=>(by cases h),fun _ _ h=>(by cases h),fun _ _ h=>(by cases h)⟩;have hkl:=HK.out.1.log;have hkw:=HK.out.1.width;have hki:=HK.out.1.input;have HKL:=lj (And.intro hkl (And.intro hkw hki));clear hkl hkw hki
 have HS:=lj (show ∀ W,Only Nay w1 W→(W.cell? ⟨w.heap.size,0,none⟩=some (.int .i64 cf.log)∧W.cell? ⟨w.heap.size,1,none⟩=some (.int .i64 cf.data)∧W.cell? ⟨w.heap.size,2,none⟩=some (.int .i64 cf.queue)∧W.cell? ⟨w.heap.size,3,none⟩=some (.int .i64 cf.input)∧W.cell? ⟨w.heap.size,4,none⟩=some (.int .i64 cf.strikes)∧W.cell? ⟨w.heap.size,5,none⟩=some (.int .i64 cf.lease)∧W.cell? ⟨w.heap.size,6,none⟩=some (.int .i64 cf.idle)∧W.cell? ⟨w.heap.size,7,none⟩=some (.int .i64 cf.width)) from fun W hO =>
  have hx:=hx1.out.keep hO (fun h=>h)
  ⟨hx.cell 0 _ rfl,hx.cell 1 _ rfl,hx.cell 2 _ rfl,hx.cell 3 _ rfl,hx.cell 4 _ rfl,hx.cell 5 _ rfl,hx.cell 6 _ rfl,hx.cell 7 _ rfl⟩)
 go_upto_region 3 with fail
 have hmix:Tryz.prog.follows .mixedOrders=true:=by kernel_rfl
 refine wp_region_held (S:=fun W=>Only Nay w1 W) hmix ?_
 change wpAnyH _ _ _ _ _ _ _ _ (World.drew _)
 have hS0:Only Nay w1 w1.drew:=(Only.refl Nay w1).drew
 have HZ:∀ W,Only Nay w1 W→_:=HS.out
 refine wpAnyH_take (i:=0) (v:=.agg #[.int .i64 cf.log,.int .i64 cf.data,.int .i64 cf.queue,.int .i64 cf.input,.int .i64 cf.strikes,.int .i64 cf.lease,.int .i64 cf.idle,.int .i64 cf.width]) rfl (by kernel_rfl) (by kernel_rfl) (by kernel_rfl) (fun _ _ _ h=>h) (.inl ⟨by kernel_rfl,fun W hW=>?_⟩) hS0 ?_
 ·obtain ⟨e0,e1,e2,e3,e4,e5,e6,e7⟩:=HZ W hW; go_simp
 refine wpAnyH_take (i:=1) (v:=.pointer (some ⟨w.heap.size,0,none⟩)) rfl (by kernel_rfl) (by kernel_rfl) (by kernel_rfl) (fun _ _ _ h=>h) (.inl ⟨by kernel_rfl,fun W hW=>?_⟩) hS0 ?_
 ·go_simp
 refine wpAnyH_take (i:=2) (v:=.int .i64 cf.log) rfl (by kernel_rfl) (by kernel_rfl) (by kernel_rfl) (fun _ _ _ h=>h) (.inl ⟨by kernel_rfl,fun W hW=>?_⟩) hS0 ?_
 ·obtain ⟨e0,e1,e2,e3,e4,e5,e6,e7⟩:=HZ W hW; go_simp
 refine wpAnyH_take (i:=6) (v:=.pointer (some ⟨w.heap.size,7,none⟩)) rfl (by kernel_rfl) (by kernel_rfl) (by kernel_rfl) (fun _ _ _ h=>h) (.inl ⟨by kernel_rfl,fun W hW=>?_⟩) hS0 ?_
 ·go_simp
 refine wpAnyH_take (i:=7) (v:=.int .i64 cf.width) rfl (by kernel_rfl) (by kernel_rfl) (by kernel_rfl) (fun _ _ _ h=>h) (.inl ⟨by kernel_rfl,fun W hW=>?_⟩) hS0 ?_
 ·obtain ⟨e0,e1,e2,e3,e4,e5,e6,e7⟩:=HZ W hW; go_simp
 refine wpAnyH_take (i:=11) (v:=.pointer (some ⟨w.heap.size,5,none⟩)) rfl (by kernel_rfl) (by kernel_rfl) (by kernel_rfl) (fun _ _ _ h=>h) (.inl ⟨by kernel_rfl,fun W hW=>?_⟩) hS0 ?_
 ·go_simp
 refine wpAnyH_take (i:=12) (v:=.int .i64 cf.lease) rfl (by kernel_rfl) (by kernel_rfl) (by kernel_rfl) (fun _ _ _ h=>h) (.inl ⟨by kernel_rfl,fun W hW=>?_⟩) hS0 ?_
 ·obtain ⟨e0,e1,e2,e3,e4,e5,e6,e7⟩:=HZ W hW; go_simp
 refine wpAnyH_take (i:=16) (v:=.pointer (some ⟨w.heap.size,3,none⟩)) rfl (by kernel_rfl) (by kernel_rfl) (by kernel_rfl) (fun _ _ _ h=>h) (.inl ⟨by kernel_rfl,fun W hW=>?_⟩) hS0 ?_
 ·go_simp
 refine wpAnyH_take (i:=17) (v:=.int .i64 cf.input) rfl (by kernel_rfl) (by kernel_rfl) (by kernel_rfl) (fun _ _ _ h=>h) (.inl ⟨by kernel_rfl,fun W hW=>?_⟩) hS0 ?_
 ·obtain ⟨e0,e1,e2,e3,e4,e5,e6,e7⟩:=HZ W hW; go_simp
 refine wpAnyH_take (i:=21) (v:=.pointer (some ⟨w.heap.size,4,none⟩)) rfl (by kernel_rfl) (by kernel_rfl) (by kernel_rfl) (fun _ _ _ h=>h) (.inl ⟨by kernel_rfl,fun W hW=>?_⟩) hS0 ?_
 ·go_simp
 refine wpAnyH_take (i:=22) (v:=.int .i64 cf.strikes) rfl (by kernel_rfl) (by kernel_rfl) (by kernel_rfl) (fun _ _ _ h=>h) (.inl ⟨by kernel_rfl,fun W hW=>?_⟩) hS0 ?_
 ·obtain ⟨e0,e1,e2,e3,e4,e5,e6,e7⟩:=HZ W hW; go_simp
 refine wpAnyH_all (rs:=[3]) (by kernel_rfl) (by simp) ?_;intro i hi;rw [List.mem_singleton.1 hi];clear hi;unfold wpOp
 go_simp
 refine .inl ((NewB.mkRing2 HN.out HKL.out.1).mono ?_);rintro e wx3 ⟨xr,rfl,hn,hp⟩;have HN:=lj hn;clear hn;have HP3:=lj hp;clear hp
 go_simp
 refine ⟨HN.out.only,held_more (T:=fun W=>Only Nay wx3 W) (fun W h=>HN.out.only.trans h) _ _ _ _ ?_⟩;clear hS0;have hS0:=Only.refl Nay wx3;refine wpAnyH_take (i:=4) (v:=.pointer (some (at0 xr.1))) rfl (by kernel_rfl) (by kernel_rfl) (by kernel_rfl) (fun _ _ _ h=>h) (.inl ⟨by kernel_rfl,fun W hW=>?_⟩) hS0 ?_
 ·go_simp
 refine wpAnyH_take (i:=5) (v:=.agg #[.int .i64 0,.slice (some ⟨xr.2,0,none⟩) cf.log cf.log]) rfl (by kernel_rfl) (by kernel_rfl) (by kernel_rfl) (fun _ _ _ h=>h) (.inl ⟨by kernel_rfl,fun W hW=>?_⟩) hS0 ?_
 ·obtain ⟨q0,q1⟩:=NewB.ringC (HN.out.keep hW); go_simp
 refine wpAnyH_all (rs:=[8]) (by kernel_rfl) (by simp) ?_;intro i hi;rw [List.mem_singleton.1 hi];clear hi;unfold wpOp
 go_simp
 refine .inl ((NewB.mkSpot2 HN.out HKL.out.2.1).mono ?_);rintro e wx8 ⟨xs,rfl,hn,hp⟩;have HN:=lj hn;clear hn;have HP8:=lj hp;clear hp
 go_simp
 refine ⟨HP8.out,held_more (T:=fun W=>Only Nay wx8 W) (fun W h=>HP8.out.trans h) _ _ _ _ ?_⟩;clear hS0;have hS0:=Only.refl Nay wx8;refine wpAnyH_take (i:=9) (v:=.pointer (some (at0 xs.1))) rfl (by kernel_rfl) (by kernel_rfl) (by kernel_rfl) (fun _ _ _ h=>h) (.inl ⟨by kernel_rfl,fun W hW=>?_⟩) hS0 ?_
 ·go_simp
 refine wpAnyH_take (i:=10) (v:=.agg #[.complex .f64 xs.2.1 xs.2.2,.int .i64 ((cf.width:Nat) - 1),.int .i64 0]) rfl (by kernel_rfl) (by kernel_rfl) (by kernel_rfl) (fun _ _ _ h=>h) (.inl ⟨by kernel_rfl,fun W hW=>?_⟩) hS0 ?_
 ·obtain ⟨q0,q1,q2⟩:=NewB.spotC (HN.out.keep hW); go_simp
 refine wpAnyH_all (rs:=[13]) (by kernel_rfl) (by simp) ?_;intro i hi;rw [List.mem_singleton.1 hi];clear hi;unfold wpOp
 go_simp
 refine .inl ((NewB.mkTab2 HN.out).mono ?_);rintro e wx13 ⟨xt,rfl,hn,hp⟩;have HN:=lj hn;clear hn;have HP13:=lj hp;clear hp
 go_simp
 refine ⟨HP13.out,held_more (T:=fun W=>Only Nay wx13 W) (fun W h=>HP13.out.trans h) _ _ _ _ ?_⟩;clear hS0;have hS0:=Only.refl Nay wx13;refine wpAnyH_take (i:=14) (v:=.pointer (some (at0 xt.g))) rfl (by kernel_rfl) (by kernel_rfl) (by kernel_rfl) (fun _ _ _ h=>h) (.inl ⟨by kernel_rfl,fun W hW=>?_⟩) hS0 ?_
 ·go_simp
 refine wpAnyH_take (i:=15) (v:=.agg #[.map xt.om,.int .i64 (ofFl (fnew cf.lease)).hold,.int .i64 ((ofFl (fnew cf.lease)).left:Nat),.slice xt.a xt.n xt.c,.int .i64 (((ofFl (fnew cf.lease)).lease:Int) - 1)]) rfl (by kernel_rfl) (by kernel_rfl) (by kernel_rfl) (fun _ _ _ h=>h) (.inl ⟨by kernel_rfl,fun W hW=>?_⟩) hS0 ?_
 ·obtain ⟨q0,q1,q2,q3,q4⟩:=NewB.tabC (HN.out.keep hW); go_simp
 refine wpAnyH_all (rs:=[18]) (by kernel_rfl) (by simp) ?_;intro i hi;rw [List.mem_singleton.1 hi];clear hi;unfold wpOp
 go_simp
 refine .inl ((NewB.mkInp2 HN.out HKL.out.2.2).mono ?_);rintro e wx18 ⟨xi,rfl,hn,hp⟩;have HN:=lj hn;clear hn;have HP18:=lj hp;clear hp
 go_simp
 refine ⟨HP18.out,held_more (T:=fun W=>Only Nay wx18 W) (fun W h=>HP18.out.trans h) _ _ _ _ ?_⟩;clear hS0;have hS0:=Only.refl Nay wx18;refine wpAnyH_take (i:=19) (v:=.pointer (some (at0 xi.g))) rfl (by kernel_rfl) (by kernel_rfl) (by kernel_rfl) (fun _ _ _ h=>h) (.inl ⟨by kernel_rfl,fun W hW=>?_⟩) hS0 ?_
 ·go_simp
 refine wpAnyH_take (i:=20) (v:=.agg #[.int .i64 cf.input,.slice xi.a 0 xi.c,.int .i64 0,.bool false]) rfl (by kernel_rfl) (by kernel_rfl) (by kernel_rfl) (fun _ _ _ h=>h) (.inl ⟨by kernel_rfl,fun W hW=>?_⟩) hS0 ?_
 ·obtain ⟨q0,q1,q2,q3⟩:=NewB.inpC (HN.out.keep hW); go_simp
 refine wpAnyH_all (rs:=[23]) (by kernel_rfl) (by simp) ?_;intro i hi;rw [List.mem_singleton.1 hi];clear hi;unfold wpOp
 go_simp
 refine .inl ?_;refine wpAnyH_all (rs:=[24]) (by kernel_rfl) (by simp) ?_;intro i hi;rw [List.mem_singleton.1 hi];clear hi;unfold wpOp
 go_simp
 refine .inl ⟨hS0.alloc _,?_⟩
 have hS1:∀ o,Only Nay wx18 (wx18.alloc o):=fun o=>hS0.alloc o
 refine wpAnyH_all (rs:=[25]) (by kernel_rfl) (by simp) ?_;intro i hi;rw [List.mem_singleton.1 hi];clear hi;unfold wpOp
 go_simp
 refine .inl (wpAnyH_done (by kernel_rfl) ?_ _);have HFIN:=lj (mkBroker HN.out (HK.out.2.below (HO1.out.below (Nat.le_refl _) (fun _ _ h=>h))) 82 HK.out.1);have HOF:=lj (HO1.out.trans ((HN.out.only).alloc (.cells (newRow cf xr.2 xs xt xi) 82)));go_wp2;go_ret;exact ⟨_,wx18.heap.size,rfl,HFIN.out.1,fun x hx=>Nat.le_trans HO1.out.size (HFIN.out.2 x hx),HOF.out⟩
end
section
open Go.RowKit Go.Shelf Go.Maps
open Fr Bk
theorem tabGives {F:Fp} {g:Nat} {y:Ly} {w w':World} {b:Br} (h:BrAt F g y w b) {fl':Fl} {v:Value} {e:Ending} (ht:TGives (zt b y) (fun x=>F 1 x∨F 3 x) g w fl' v e w'):BGives F g y.rs w (setFl b fl') v e w':=by
 obtain ⟨G2,rfl,h1,h2,h3⟩:=ht;obtain ⟨F2,h4,h5⟩:=h.ofTab h1 h2 h3;exact ⟨F2,rfl,h4,h5,h3.mono fun x _ hx=>hx.elim (fun h=>⟨_,h⟩) (fun h=>⟨_,h⟩)⟩
theorem BGives.to {F:Fp} {g:Nat} {rs:List (Int×Int)} {w w1 w':World} {b:Br} {v v2:Value} {e:Ending} (hO:Only (Own1 F) w w1) (h:BGives F g rs w1 b v e w'):BGives F g rs w b v2 (.returned v2) w':=by
 obtain ⟨F2,_,h1,h2,h3⟩:=h;exact ⟨F2,rfl,h1,fun x hx=>(h2 x hx).imp id fun h=>Nat.le_trans hO.size h,hO.trans h3⟩
def doToB (b:Br) (kind n:Int):Br×Bool:=
  match userB b n with
  | none=>(b,false)
  | some j =>
    if kind=6 then (setFl b (fgive b.fl j),decide (giveE b.fl j=0))
    else if kind=7 then (shut b j 5,true)
    else if kind=8 then (setFl b (fset b.fl j 1),true)
    else if kind=9 then (setFl b (fset b.fl j 0),true)
    else (b,true)
theorem only_cell {F:Fp} {g k gc:Nat} {y:Ly} {w w':World} {b:Br} {c:Cn} (h:BrAt F g y w b) (_h1:1≤k) (hcn:CnAt F k gc (y.cy k) b.cf.queue w c) (ho:Only (fun x=>F 1 x∨F 3 x) w w'):w'.cell? ⟨gc,0,none⟩=some (.int .i64 (k:Nat)):=
 ho.keepCell (p:=⟨gc,0,none⟩) (fun e=>e.elim (h.fit.ne hcn.own (by omega)) (h.fit.ne hcn.own (by omega))) (hcn.bx.cell 0 _ rfl)
theorem bdoto_any {F:Fp} {g:Nat} {rs:List (Int×Int)} {w:World} {b:Br} (h:BrIs F g rs w b) (hk:BOk b) (kind n:Int) (hkd:kind=6∨kind=7∨kind=8∨kind=9) :
  Calls Tryz.prog 137 #[.pointer (some (at0 g)),.agg #[.int .i64 kind,.int .i64 n]] w fun e w'=>BGives F g rs w (doToB b kind n).1 (.bool (doToB b kind n).2) e w':=by
 have hbx:=Bx.new w _ rfl #[.int .i64 kind,.int .i64 n] 182;have hO0:=nay_alloc w (.cells #[.int .i64 kind,.int .i64 n] 182);have hb0:=h.quiet hO0;have HU:=lj (buser_any hb0 n);have HB:=lj (And.intro hb0 (And.intro hk hbx));have HO:=lj (hO0.mono (T:=Own1 F) fun _ _ h=>h.elim);clear h hk hbx hO0 hb0;unfold doToB
 rcases hu:userB b n with _ | j
 ·clear hkd
  go_enter Tryz.func137,Tryz.ntmps137
  go_wp2_with fail
  refine HU.out.mono ?_;rintro e w1 ⟨ho,⟨h1,rfl⟩ | ⟨k,gc,h1,h2,h3,h4,h5,h6,rfl⟩⟩
  ·have HE:=lj (And.intro (HB.out.1.quiet ho) (HO.out.trans (ho.mono fun _ _ h=>h.elim)))
   clear ho h1 HU hu;go_wp2;go_ret;exact ⟨F,rfl,HE.out.1,fun _ h=>.inl h,HE.out.2⟩
  ·rw [hu] at h1
   cases h1
 ·rcases hkd with rfl | rfl | rfl | rfl
  ·go_enter Tryz.func137,Tryz.ntmps137
   go_wp2_with fail
   refine HU.out.mono ?_;rintro e w1 ⟨ho,⟨h1,rfl⟩ | ⟨k,gc,h1,h2,h3,h4,h5,h6,rfl⟩⟩
   ·rw [hu] at h1
    cases h1
   rw [hu] at h1
   injection h1 with h1
   subst h1;obtain ⟨y,rfl,hb1⟩:=HB.out.1.quiet ho;have hx1:=HB.out.2.2.keep ho (fun h=>h);obtain ⟨c,hc,hcn⟩:=BrIs.cn hb1 h3 h4 h6;have hbd:=hb1.quiet ((Only.refl Nay w1).drew);have k0:=hx1.cell 0 (.int .i64 6) rfl;have HT:=lj (tgive_any hbd.toTab HB.out.2.1.fok (by decide) (j:Nat) (wf_id (k:=j) (by omega)));have HD0:=lj (show w1.drew.cell? ⟨gc,0,none⟩=some (.int .i64 (j:Nat)) from hcn.bx.cell 0 _ rfl);have HX:=lj (fun (W:World) (hO:Only (fun x=>F 1 x∨F 3 x) w1.drew W)=>only_cell hbd h3 (hcn.keep ((Only.refl Nay w1).drew) (fun _ _ _ _ h=>h)) hO);have HE:=lj (And.intro hbd (HO.out.trans ((ho.mono (T:=Own1 F) fun _ _ h=>h.elim)).drew));clear ho hb1 hx1 hcn hc h2 h5 h6 hu HU HB HO hbd;go_wp2
   go_region_held (fun w'=>w'.cell? ⟨gc,0,none⟩=some (.int .i64 (j:Nat))) (first | exact HD0.out | exact HDb.out)
    (first | (go_at_call 158; refine HT.out.mono ?_; rintro e wb hg; have HG:=lj (tabGives HE.out.1 hg); obtain ⟨G2,rfl,ht2,hs2,ho2⟩:=hg; have HDb:=lj (HX.out _ ho2); clear ht2 hs2 ho2))
   rename_i hh
   clear hh;go_wp2;go_ret;exact BGives.to HE.out.2 HG.out
  ·go_enter Tryz.func137,Tryz.ntmps137
   go_wp2_with fail
   refine HU.out.mono ?_;rintro e w1 ⟨ho,⟨h1,rfl⟩ | ⟨k,gc,h1,h2,h3,h4,h5,h6,rfl⟩⟩
   ·rw [hu] at h1
    cases h1
   rw [hu] at h1
   injection h1 with h1
   subst h1;obtain ⟨y,rfl,hb1⟩:=HB.out.1.quiet ho;have hx1:=HB.out.2.2.keep ho (fun h=>h);obtain ⟨c,hc,hcn⟩:=BrIs.cn hb1 h3 h4 h6;have hbd:=hb1.quiet ((Only.refl Nay w1).drew);have k0:=hx1.cell 0 (.int .i64 7) rfl;have HT:=lj (bshut_any 5 ⟨y,rfl,hb1⟩ HB.out.2.1.fok h3 h4 h6 (by decide));have HE:=lj (HO.out.trans (ho.mono (T:=Own1 F) fun _ _ h=>h.elim));clear ho hb1 hx1 hcn hc h2 h5 h6 hu HU HB HO hbd
   go_wp2_with fail
   refine HT.out.mono ?_;rintro e w2 hg;have HG:=lj (BGives.to HE.out hg (v2:=.bool true));obtain ⟨F7,rfl,_⟩:=hg;go_wp2;go_ret;exact HG.out
  ·go_enter Tryz.func137,Tryz.ntmps137
   go_wp2_with fail
   refine HU.out.mono ?_;rintro e w1 ⟨ho,⟨h1,rfl⟩ | ⟨k,gc,h1,h2,h3,h4,h5,h6,rfl⟩⟩
   ·rw [hu] at h1
    cases h1
   rw [hu] at h1
   injection h1 with h1
   subst h1;obtain ⟨y,rfl,hb1⟩:=HB.out.1.quiet ho;have hx1:=HB.out.2.2.keep ho (fun h=>h);obtain ⟨c,hc,hcn⟩:=BrIs.cn hb1 h3 h4 h6;have hbd:=hb1.quiet ((Only.refl Nay w1).drew);have k0:=hx1.cell 0 (.int .i64 8) rfl;have HT:=lj (tset_any hbd.toTab HB.out.2.1.fok (by decide) (j:Nat) 1 (wf_id (k:=j) (by omega)) (by decide));have HD0:=lj (show w1.drew.cell? ⟨gc,0,none⟩=some (.int .i64 (j:Nat)) from hcn.bx.cell 0 _ rfl);have HX:=lj (fun (W:World) (hO:Only (fun x=>F 1 x∨F 3 x) w1.drew W)=>only_cell hbd h3 (hcn.keep ((Only.refl Nay w1).drew) (fun _ _ _ _ h=>h)) hO);have HE:=lj (And.intro hbd (HO.out.trans ((ho.mono (T:=Own1 F) fun _ _ h=>h.elim)).drew));clear ho hb1 hx1 hcn hc h2 h5 h6 hu HU HB HO hbd;go_wp2
   go_region_held (fun w'=>w'.cell? ⟨gc,0,none⟩=some (.int .i64 (j:Nat))) (first | exact HD0.out | exact HDb.out)
    (first | (go_at_call 159; refine HT.out.mono ?_; rintro e wb hg; have HG:=lj (tabGives HE.out.1 hg); obtain ⟨G2,rfl,ht2,hs2,ho2⟩:=hg; have HDb:=lj (HX.out _ ho2); clear ht2 hs2 ho2))
   rename_i hh
   clear hh;go_wp2;go_ret;exact BGives.to HE.out.2 HG.out
  ·go_enter Tryz.func137,Tryz.ntmps137
   go_wp2_with fail
   refine HU.out.mono ?_;rintro e w1 ⟨ho,⟨h1,rfl⟩ | ⟨k,gc,h1,h2,h3,h4,h5,h6,rfl⟩⟩
   ·rw [hu] at h1
    cases h1
   rw [hu] at h1
   injection h1 with h1
   subst h1;obtain ⟨y,rfl,hb1⟩:=HB.out.1.quiet ho;have hx1:=HB.out.2.2.keep ho (fun h=>h);obtain ⟨c,hc,hcn⟩:=BrIs.cn hb1 h3 h4 h6;have hbd:=hb1.quiet ((Only.refl Nay w1).drew);have k0:=hx1.cell 0 (.int .i64 9) rfl;have HT:=lj (tset_any hbd.toTab HB.out.2.1.fok (by decide) (j:Nat) 0 (wf_id (k:=j) (by omega)) (by decide));have HD0:=lj (show w1.drew.cell? ⟨gc,0,none⟩=some (.int .i64 (j:Nat)) from hcn.bx.cell 0 _ rfl);have HX:=lj (fun (W:World) (hO:Only (fun x=>F 1 x∨F 3 x) w1.drew W)=>only_cell hbd h3 (hcn.keep ((Only.refl Nay w1).drew) (fun _ _ _ _ h=>h)) hO);have HE:=lj (And.intro hbd (HO.out.trans ((ho.mono (T:=Own1 F) fun _ _ h=>h.elim)).drew));clear ho hb1 hx1 hcn hc h2 h5 h6 hu HU HB HO hbd;go_wp2
   go_region_held (fun w'=>w'.cell? ⟨gc,0,none⟩=some (.int .i64 (j:Nat))) (first | exact HD0.out | exact HDb.out)
    (first | (go_at_call 159; refine HT.out.mono ?_; rintro e wb hg; have HG:=lj (tabGives HE.out.1 hg); obtain ⟨G2,rfl,ht2,hs2,ho2⟩:=hg; have HDb:=lj (HX.out _ ho2); clear ht2 hs2 ho2))
   rename_i hh
   clear hh;go_wp2;go_ret;exact BGives.to HE.out.2 HG.out
def limitB (b:Br) (n:Int):Br×Bool:=if 9<n then (b,false) else ({ b with strikes:=n.toNat },true)
theorem blimit_any {F:Fp} {g:Nat} {rs:List (Int×Int)} {w:World} {b:Br} (h:BrIs F g rs w b) (n:Int) (h0:0≤n) :
  Calls Tryz.prog 136 #[.pointer (some (at0 g)),.int .i64 n] w fun e w'=>BGives F g rs w (limitB b n).1 (.bool (limitB b n).2) e w':=by
 obtain ⟨y,rfl,hy⟩:=h;unfold limitB
 by_cases h9:9<n
 ·have d:decide (n > 9)=true:=by simpa using h9
  rw [if_pos h9];have HG:=lj (hy.gives (.bool false));clear hy h9 h0
  go_enter Tryz.func136,Tryz.ntmps136
  go_wp2;go_ret;exact HG.out
 ·have d:decide (n > 9)=false:=by simpa using h9
  rw [if_neg h9]
  obtain ⟨k,rfl⟩:∃ k:Nat,n=(k:Nat):=⟨n.toNat,by omega⟩
  have f22:=hy.row.free 22;have c22:=hy.row.cell 22 (.int .i64 (b.strikes:Nat)) rfl;have HB:=lj (hy.setStrikes k);have HO:=lj ((Bx.only g w 22 (.int .i64 (k:Nat))).mono (T:=Own1 F) fun x _ hx=>by rw [show x=g from hx]; exact ⟨1,hy.gow⟩);clear hy h9 h0
  go_enter Tryz.func136,Tryz.ntmps136
  go_wp2;go_ret;exact ⟨F,rfl,⟨y,rfl,HB.out⟩,fun _ h=>.inl h,HO.out⟩
end
section
open Go.RowKit Go.Shelf
open Fr Bk
attribute [local go_sem] Oper.semAt_some
structure VJ (cur:Nat→Br) (F1:Fp) (g:Nat) (rs:List (Int×Int)) (w2:World) (X:World→Prop) (B N j:Nat) (W:World):Prop where
 is:∃ F',BrIs F' g rs W (cur j)∧(∀ x,Own1 F' x→Own1 F1 x∨N≤x)
 only:Only (Own1 F1) w2 W
 ex:X W
 nB:B≤N
 nS:N≤W.heap.size
theorem VJ.mine {cur:Nat→Br} {F1:Fp} {g B N j:Nat} {rs:List (Int×Int)} {w2 W W':World} {X:World→Prop} (h:VJ cur F1 g rs w2 X B N j W) (hO:Only (Mine B N) W W') (hX:∀ A A',X A→Only (fun x=>Own1 F1 x∨B≤x) A A'→X A') (hB:w2.heap.size≤B) (hF:∀ x,Own1 F1 x→x<B) (hg:Own1 F1 g) :
  VJ cur F1 g rs w2 X B N j W':=by
 obtain ⟨F',h1,h2⟩:=h.is;refine ⟨⟨F',h1.mine hO (fun x hx=>(h2 x hx).imp (hF x) id) (hF g hg),h2⟩,?_,hX _ _ h.ex (hO.mono fun x _ hx=>.inr hx.1),h.nB,Nat.le_trans h.nS hO.size⟩
 exact h.only.trans' hO fun x hx=>.inr (by have:=hx.1; omega)
theorem VJ.next {cur:Nat→Br} {F1:Fp} {g B N j:Nat} {rs:List (Int×Int)} {w2 W W':World} {X:World→Prop} (h:VJ cur F1 g rs w2 X B N j W) {F' F2:Fp} (hF':∀ x,Own1 F' x→Own1 F1 x∨N≤x) (h2:BrIs F2 g rs W' (cur (j+1))) (hs:∀ x,Own1 F2 x→Own1 F' x∨W.heap.size≤x) (hO:Only (Own1 F') W W')
  (hX:∀ A A',X A→Only (fun x=>Own1 F1 x∨B≤x) A A'→X A') (hB:w2.heap.size≤B):Only (fun x=>Own1 F1 x∨N≤x) W W'∧VJ cur F1 g rs w2 X B N (j+1) W':=by
 refine ⟨hO.mono fun x _ hx=>hF' x hx,⟨F2,h2,fun x hx=>?_⟩,?_,hX _ _ h.ex (hO.mono fun x _ hx=>(hF' x hx).imp id fun h9=>Nat.le_trans h.nB h9),h.nB,Nat.le_trans h.nS hO.size⟩
 ·rcases hs x hx with h3 | h3
  ·exact hF' x h3
  ·exact .inr (Nat.le_trans h.nS h3)
 ·exact h.only.trans' hO fun x hx=>(hF' x hx).imp id fun h9=>by have:=h.nB; omega
theorem VJ.same {cur:Nat→Br} {F1:Fp} {g B N j:Nat} {rs:List (Int×Int)} {w2 W:World} {X:World→Prop} (h:VJ cur F1 g rs w2 X B N j W) (e:cur (j+1)=cur j):VJ cur F1 g rs w2 X B N (j+1) W:=
 ⟨by rw [e]; exact h.is,h.only,h.ex,h.nB,h.nS⟩
def listF (k:Nat) (b:Br) (j:Nat):Br:=send (notice (listLine b j)) b k
theorem listB_eq (b:Br) (k:Nat):listB b k=goes (listF k) b ids:=rfl
theorem notice_ok {t:Bs} (h:t.length≤80):(notice t).ok=true:=by
 unfold M.ok notice;rw [Ms.rt_iff];exact ⟨rfl,rfl,rfl,h⟩
set_option maxHeartbeats 1000000 in
theorem blist_any {F:Fp} {g:Nat} {rs:List (Int×Int)} {w:World} {b:Br} {k gc:Nat} (hb:BrIs F g rs w b) (hk:BOk b) (h1:1≤k) (h2:k≤16) (hgc:rrole rs k=(gc:Int)+1) :
  Calls Tryz.prog 133 #[.pointer (some (at0 g)),.pointer (some (at0 gc))] w fun e w'=>BGives F g rs w (listB b k) (.tuple #[]) e w':=by
 have hOwn:∀ x,Own1 F x→x<w.heap.size:=by
  obtain ⟨y,rfl,h⟩:=hb
  exact fun x hx=>h.lt hx
 have hgF:Own1 F g:=by
  obtain ⟨y,rfl,h⟩:=hb;exact ⟨_,h.gow⟩
 have hgw:=hOwn g hgF;rw [listB_eq];refine (callsIn_wide (n:=0)).1 ?_;refine callsIn_of_wp_marks Tryz.func133 rfl trivial ?_ rfl;simp only [Tryz.ntmps133,List.size_toArray,List.length_cons,List.length_nil,Nat.reduceAdd,Nat.reduceSub,Array.replicate_succ,Array.replicate_zero,List.push_toArray,List.append_toArray,List.nil_append,List.cons_append]
 gi_wp2
 refine ⟨trivial,rfl,?_⟩;refine (callsIn_wide.2 (busers_any g _)).mono ?_;rintro e w' ⟨rfl,rfl⟩;have hb1:=Bx.new w _ rfl #[.pointer (some (at0 g))] 45;have hb2:=Bx.new (w.alloc (.cells #[.pointer (some (at0 g))] 45)) (w.heap.size+1) (by simp) #[.pointer (some (at0 gc))] 88;have hb3:=Bx.new ((w.alloc (.cells #[.pointer (some (at0 g))] 45)).alloc (.cells #[.pointer (some (at0 gc))] 88)) (w.heap.size+2) (by simp) #[.pointer (some (at0 g))] 45;have hO:Only Nay w (((w.alloc (.cells #[.pointer (some (at0 g))] 45)).alloc (.cells #[.pointer (some (at0 gc))] 88)).alloc (.cells #[.pointer (some (at0 g))] 45)):=(((Only.refl Nay w).alloc _).alloc _).alloc _
 have hsz:(((w.alloc (.cells #[.pointer (some (at0 g))] 45)).alloc (.cells #[.pointer (some (at0 gc))] 88)).alloc (.cells #[.pointer (some (at0 g))] 45)).heap.size=w.heap.size+3:=by simp
 replace hb1:=(hb1.keep (nay_alloc _ (.cells #[.pointer (some (at0 gc))] 88)) (fun h=>h)).keep (nay_alloc _ (.cells #[.pointer (some (at0 g))] 45)) (fun h=>h);replace hb2:=hb2.keep (nay_alloc _ (.cells #[.pointer (some (at0 g))] 45)) (fun h=>h);rw [World.size_alloc,World.size_alloc]
 gi_wp2
 generalize ((w.alloc (.cells #[.pointer (some (at0 g))] 45)).alloc (.cells #[.pointer (some (at0 gc))] 88)).alloc (.cells #[.pointer (some (at0 g))] 45)=w3 at *
 have hX:∀ A A',(Bx w.heap.size A #[.pointer (some (at0 g))]∧Bx (w.heap.size+1) A #[.pointer (some (at0 gc))]∧Bx (w.heap.size+2) A #[.pointer (some (at0 g))])→Only (fun x=>Own1 F x∨w3.heap.size≤x) A A'→(Bx w.heap.size A' #[.pointer (some (at0 g))]∧Bx (w.heap.size+1) A' #[.pointer (some (at0 gc))]∧Bx (w.heap.size+2) A' #[.pointer (some (at0 g))]):=fun A A' hx hO =>
  ⟨hx.1.keep hO (fun h=>h.elim (fun h=>by have:=hOwn _ h; omega) (fun h=>by omega)),hx.2.1.keep hO (fun h=>h.elim (fun h=>by have:=hOwn _ h; omega) (fun h=>by omega)),hx.2.2.keep hO (fun h=>h.elim (fun h=>by have:=hOwn _ h; omega) (fun h=>by omega))⟩
 have hF3:∀ x,Own1 F x→x<w3.heap.size:=fun x hx=>by have:=hOwn x hx; omega
 have hJ0:∀ W1,Only Nay w3 W1→VJ (fun j=>goes (listF k) b (ids.take j)) F g rs w3 (fun A=>Bx w.heap.size A #[.pointer (some (at0 g))]∧Bx (w.heap.size+1) A #[.pointer (some (at0 gc))]∧Bx (w.heap.size+2) A #[.pointer (some (at0 g))]) w3.heap.size W1.heap.size 0 W1:=fun W1 hi =>
  ⟨⟨F,(hb.quiet hO).quiet hi,fun x hx=>.inl hx⟩,hi.mono fun _ _ h=>h.elim,⟨hb1.keep hi (fun h=>h),hb2.keep hi (fun h=>h),hb3.keep hi (fun h=>h)⟩,hi.size,Nat.le_refl _⟩
 clear hb1 hb2 hb3 hb
 refine rf_law (gf:=82) (lb:=#[.pointer (some ⟨w.heap.size+1+1,0,none⟩)]) (See:=SeeUsers (w.heap.size+2) g w3.heap.size) rfl (enters_of Tryz.func82 (by kernel_rfl) rfl)
  (fun W3 _ hs=>users1_ok _ g _ W3 hs) rfl (Own1 F) (VJ (fun j=>goes (listF k) b (ids.take j)) F g rs w3 (fun A=>Bx w.heap.size A #[.pointer (some (at0 g))]∧Bx (w.heap.size+1) A #[.pointer (some (at0 gc))]∧Bx (w.heap.size+2) A #[.pointer (some (at0 g))]) w3.heap.size) (fun _ _ _=>False)
  (fun N k A B h hi=>h.mine hi hX (Nat.le_refl _) hF3 hgF) (fun _ _ _ _ h _=>h) hF3 hJ0
  (fun v=>{ tmps:=#[.pointer (some (at0 g)),.pointer (some (at0 gc)),.pointer (some ⟨w.heap.size,0,none⟩),.pointer (some ⟨w.heap.size+1,0,none⟩),v,undef,undef,undef,.pointer (some (at0 g)),.func (.func 82) #[] #[.pointer (some ⟨w.heap.size+1+1,0,none⟩)],v,undef,undef,undef,undef,undef,undef,undef,undef,undef,undef,undef,undef,undef,undef,undef,undef,undef,undef,undef,undef,undef,undef,undef,undef,undef,undef,undef,undef,undef,undef,undef,undef,undef,undef,undef,undef,undef,undef,undef,undef,undef,undef],defers:=[] })
  ?assign ?round ?done ?stop
 case assign =>
  intro l2 v W3 K hK
  gi_wp2
  exact hK
 case stop =>
  rintro D N c W3 hD hN h hK;exact h.elim
 case done =>
  rintro D N W3 hD hN hj hK
  gi_wp2
  refine ⟨by simp,.inl ⟨_,_,rfl,run_takeDeferred hK,?_⟩⟩;have hO9:Only (Mine w3.heap.size N) W3 (W3.putObj D (.deferred none)):=only_putObj _ ⟨hD,by omega⟩;have hj9:=hj.mine hO9 hX (Nat.le_refl _) hF3 hgF;obtain ⟨F',h1,h2⟩:=hj9.is;exact ⟨_,results_none rfl _ _ _,F',rfl,h1,fun x hx=>(h2 x hx).imp id fun h=>by omega,(hO.mono fun _ _ h=>h.elim).trans hj9.only⟩
 case round =>
  intro N j W hN hj16 hj;obtain ⟨F',hG1,hG2⟩:=hj.is
  have hG3:∀ x,Own1 F' x→x<w3.heap.size∨N≤x:=fun x hx=>(hG2 x hx).imp (hF3 x) id
  rcases hG1.seeU (hj.ex.2.2.cell 0 _ rfl) hj16 hG3 with ⟨h3,h4⟩ | ⟨h3,go,hgo,h4⟩
  ·exact .inl ⟨h4,hj.same (by show goes _ _ _=goes _ _ _; rw [goes_take _ _ j hj16,h3]; rfl)⟩
  ·refine .inr ⟨_,h4,fun l W1 hi=>?_⟩
   have hj1:=hj.mine hi hX (Nat.le_refl _) hF3 hgF;have hG4:=hG1.mine hi hG3 (hF3 g hgF);have hkc:BOk (goes (listF k) b (ids.take j)):=BOk.goes (fun _ _ h=>h.send _ k) (ids.take j) hk
   have hcur:goes (listF k) b (ids.take (j+1))=listF k (goes (listF k) b (ids.take j)) (j+1):=by rw [goes_take _ _ j hj16,h3]; rfl
   generalize goes (listF k) b (ids.take j)=bj at *;obtain ⟨y,rfl,hy⟩:=hG4;obtain ⟨c,hc,hcn⟩:=BrIs.cn hy (by omega) (by omega) hgo;have c0:=hj1.ex.1.cell 0 (.pointer (some (at0 g))) rfl;have c1:=hj1.ex.2.1.cell 0 (.pointer (some (at0 gc))) rfl;have d0:=hcn.bx.cell 0 (.int .i64 ((j+1:Nat):Int)) rfl;have d6:=hcn.bx.cell 6 (.string (str c.name)) rfl;have HT:=lj (fun (q:Nat)=>(trole_any (hy.drewN q).toTab hkc.fok ((j+1:Nat):Int) (wf_id (k:=j+1) (by omega))).mono (R':=fun e w'=>e=_∧∃ m,w'=W1.drewN m) fun e w' hh=>⟨hh.1,by obtain ⟨m,hm⟩:=hh.2; exact ⟨q+m,by rw [hm]; simp⟩⟩);have HH:=lj (fun (V:World) (hV:Only Nay W1 V) (q:Nat)=>(thold_any ((hy.quiet hV).drewN q).toTab hkc.fok).mono (R':=fun e w'=>e=_∧∃ m,w'=V.drewN m) fun e w' hh=>⟨hh.1,by obtain ⟨m,hm⟩:=hh.2; exact ⟨q+m,by rw [hm]; simp⟩⟩)
   have hmix:Tryz.prog.follows .mixedOrders=true:=by kernel_rfl
   have HI:=lj (fun (W:World)=>itoa_any (j+1) (by omega) W)
   push_cast at d0 HT HI
   obtain ⟨rr,hrr⟩:∃ rr,rrole bj.fl.roles ((j:Int)+1)=rr:=⟨_,rfl⟩
   obtain ⟨rb,hrb⟩:∃ rb,rhas bj.fl.roles ((j:Int)+1)=rb:=⟨_,rfl⟩
   obtain ⟨hd,hhd⟩:∃ hd,fhold bj.fl=hd:=⟨_,rfl⟩
   rw [hrr,hrb] at HT;rw [hhd] at HH;have hnm:c.name.length≤20:=(hkc.cn _ c hc).name;have hdg:=Dgs.dgs_len (j+1) 1 (by omega);have hrl:=role_len rr;have HL:=lj (And.intro hcur (And.intro hrr (And.intro hhd (And.intro hc hkc))));have HY:=lj (And.intro hy (And.intro hj1 (And.intro hG2 hcn)))
   have s1:¬ (9223372036854775807<(str (Dgs.dgs (j+1))).size+(⟨#[32]⟩:ByteArray).size):=by rw [str_size]; show ¬ (_<_+1); omega
   have s2:¬ (9223372036854775807<(str (Dgs.dgs (j+1)) ++ ⟨#[32]⟩).size+(str (Bk.roleWord rr)).size):=by rw [ByteArray.size_append,str_size,str_size]; show ¬ (_<_+1+_); omega
   have s3:¬ (9223372036854775807<(str (Dgs.dgs (j+1)) ++ ⟨#[32]⟩ ++ str (Bk.roleWord rr)).size+(⟨#[32]⟩:ByteArray).size):=by rw [ByteArray.size_append,ByteArray.size_append,str_size,str_size]; show ¬ (_<_+1+_+1); omega
   have s4:¬ (9223372036854775807<(str (Dgs.dgs (j+1)) ++ ⟨#[32]⟩ ++ str (Bk.roleWord rr) ++ ⟨#[32]⟩).size+(str c.name).size):=by rw [ByteArray.size_append,ByteArray.size_append,ByteArray.size_append,str_size,str_size,str_size]; show ¬ (_<_+1+_+1+_); omega
   have hlen0:(Dgs.dgs (j+1) ++ [32#8] ++ Bk.roleWord rr ++ [32#8] ++ c.name).length≤40:=by simp only [List.length_append,List.length_cons,List.length_nil]; omega
   have HL0:=lj hlen0
   have HLn:=lj (show listLine bj (j+1)=(Dgs.dgs (j+1) ++ [32#8] ++ Bk.roleWord rr ++ [32#8] ++ c.name) ++ (if hd=(j:Int)+1 then [32#8,42#8] else []) from by
    unfold listLine
    rw [hc,show (((j+1:Nat):Int))=(j:Int)+1 by push_cast; rfl,hrr,hhd])
   clear hj hG1 hG3 h4 hJ0 hcur hrr hrb hhd hc hkc hcn hnm hdg hrl hsz hN hj16 hlen0 hy hj1 hG2
   gi_wp2
   refine wp_calls_round (fun ⟨_,_,h⟩=>h) hmix (by kernel_rfl) (by kernel_rfl) ?_
   repeat (go_big_quiet_step ((go_at_call 148; exact HT.out _)))
   refine wpQuiet_nil ?_;rintro _ ⟨n1,rfl⟩
   gi_wp2
   refine wp_calls_round (fun ⟨_,_,h⟩=>h) hmix (by kernel_rfl) (by kernel_rfl) ?_
   repeat (go_big_quiet_step (first | (go_at_call 80; refine (HI.out _).mono ?_; rintro e w' ⟨rfl,rfl⟩; exact ⟨rfl,_,rfl⟩) | (go_at_call 123; refine (brole_any rr _).mono ?_; rintro e w' ⟨rfl,rfl⟩; exact ⟨rfl,_,rfl⟩)))
   refine wpQuiet_nil ?_;rintro _ ⟨n2,rfl⟩;have hV:Only Nay W1 ((W1.drewN n1).drewN n2):=((Only.refl Nay W1).drewN n1).drewN n2
   have hstr:str (Dgs.dgs (j+1)) ++ ⟨#[32]⟩ ++ str (Bk.roleWord rr) ++ ⟨#[32]⟩ ++ str c.name=str (Dgs.dgs (j+1) ++ [32#8] ++ Bk.roleWord rr ++ [32#8] ++ c.name):=by
    rw [str_app,str_app,str_app,str_app];rfl
   rw [hstr];have HV:=lj hV;have c0:=hV.keepCell (fun h=>h) c0;have c1:=hV.keepCell (fun h=>h) c1;have d0:=hV.keepCell (fun h=>h) d0;clear hV hstr s1 s2 s3 s4 d6;generalize (W1.drewN n1).drewN n2=V at *;generalize Dgs.dgs (j+1) ++ [32#8] ++ Bk.roleWord rr ++ [32#8] ++ c.name=line at *
   have HFin:=lj (show ∀ (U:World) (ln:Bs),Only Nay W1 U→ln.length≤80→listLine bj (j+1)=ln→∀ w6,Only Nay U w6→Calls Tryz.prog 77 #[.pointer (some (at0 g)),.pointer (some (at0 gc)),MV (notice ln)] w6 fun e w7=>e = .returned (.tuple #[])∧Only (fun x=>Own1 F x∨N≤x) W1 w7∧VJ (fun j=>goes (listF k) b (ids.take j)) F g y.rs w3 (fun A=>Bx w.heap.size A #[.pointer (some (at0 g))]∧Bx (w.heap.size+1) A #[.pointer (some (at0 gc))]∧Bx (w.heap.size+2) A #[.pointer (some (at0 g))]) w3.heap.size N (j+1) w7 from by
    intro U ln hU hln hl w6 h6;have ho6:=hU.trans h6;refine (bsend_any (notice ln) ⟨y,rfl,HY.out.1.quiet ho6⟩ HL.out.2.2.2.2.fok h1 h2 hgc (notice_ok hln)).mono ?_;rintro e w7 ⟨F7,rfl,hb7,hs7,ho7⟩;refine ⟨rfl,HY.out.2.1.next HY.out.2.2.1 (F2:=F7) ?_ (fun x hx=>(hs7 x hx).imp id fun h=>Nat.le_trans ho6.size h) ((ho6.mono fun _ _ h=>h.elim).trans ho7) hX (Nat.le_refl _)⟩
    show BrIs _ _ _ _ (goes (listF k) b (ids.take (j+1)))
    rw [HL.out.1];unfold listF;rw [hl]
    exact hb7)
   have hsl:¬ (9223372036854775807<(str line).size+(⟨#[32,42]⟩:ByteArray).size):=by have:=HL0.out; rw [str_size]; show ¬ (_<_+2); omega
   by_cases hde:hd=(j:Int)+1
   ·have hdd:(hd == (j:Int)+1)=true:=by simpa using hde
    rw [if_pos hde] at HLn;clear hde
    gi_wp2
    refine wp_calls_round (fun ⟨_,_,h⟩=>h) hmix (by kernel_rfl) (by kernel_rfl) ?_
    repeat (go_big_quiet_step ((go_at_call 81; exact HH.out _ HV.out _)))
    refine wpQuiet_nil ?_;rintro _ ⟨n3,rfl⟩
    gi_wp2
    have hU:Only Nay W1 (V.drewN n3):=HV.out.drewN n3;have c0:(V.drewN n3).cell? ⟨w.heap.size,0,none⟩=some (.pointer (some (at0 g))):=c0;have c1:(V.drewN n3).cell? ⟨w.heap.size+1,0,none⟩=some (.pointer (some (at0 gc))):=c1;have HU:=lj hU;have hln:=HL0.out;rw [show str line ++ (⟨#[32,42]⟩:ByteArray)=str (line ++ [32#8,42#8]) by rw [str_app]; rfl];clear d0 hU hdd hsl HH HT HI;generalize V.drewN n3=U at *;refine wp_held_round (fun W=>W.cell? ⟨w.heap.size,0,none⟩=some (.pointer (some (at0 g)))∧W.cell? ⟨w.heap.size+1,0,none⟩=some (.pointer (some (at0 gc)))) (fun ⟨_,_,h⟩=>h) hmix (by kernel_rfl) ?_;have hS0:U.drew.cell? ⟨w.heap.size,0,none⟩=some (.pointer (some (at0 g)))∧U.drew.cell? ⟨w.heap.size+1,0,none⟩=some (.pointer (some (at0 gc))):=⟨c0,c1⟩;refine wpAnyH_take (i:=0) (v:=.pointer (some (at0 g))) rfl (by kernel_rfl) (by kernel_rfl) (by kernel_rfl) (fun _ _ _ h=>h) (.inl ⟨by kernel_rfl,fun W hW=>?_⟩) hS0 ?_
    ·obtain ⟨e0,e1⟩:=hW
     go_simp
    refine wpAnyH_take (i:=1) (v:=.pointer (some (at0 gc))) rfl (by kernel_rfl) (by kernel_rfl) (by kernel_rfl) (fun _ _ _ h=>h) (.inl ⟨by kernel_rfl,fun W hW=>?_⟩) hS0 ?_
    ·obtain ⟨e0,e1⟩:=hW
     go_simp
    refine wpAnyH_take (i:=2) (v:=.string (str (line ++ [32#8,42#8]))) rfl (by kernel_rfl) (by kernel_rfl) (by kernel_rfl) (fun _ _ _ h=>h) (.inl ⟨by kernel_rfl,fun W hW=>?_⟩) hS0 ?_
    ·go_simp
    refine wpAnyH_all (rs:=[3]) (by kernel_rfl) (by simp) ?_;intro i hi;rw [List.mem_singleton.1 hi];clear hi hS0;unfold wpOp
    go_simp
    refine .inl ((notice_any _ _).mono ?_);rintro e w6 ⟨rfl,ho6⟩;have ho7:Only Nay U w6:=((Only.refl Nay U).drew).trans ho6;have c2:=ho7.keepCell (fun h=>h) c0;have c3:=ho7.keepCell (fun h=>h) c1;have HO7:=lj ho7;clear ho6 ho7
    go_simp
    refine wpAnyH_all (rs:=[4]) (by kernel_rfl) (by simp) ?_;intro i hi;rw [List.mem_singleton.1 hi];clear hi;unfold wpOp
    go_simp
    refine .inl ((HFin.out U (line ++ [32#8,42#8]) HU.out (by rw [List.length_append]; show _+2≤80; omega) HLn.out w6 HO7.out).mono ?_);rintro e w7 ⟨rfl,h7⟩;have HR:=lj h7;have c4:=h7.2.ex.1.cell 0 (.pointer (some (at0 g))) rfl;have c5:=h7.2.ex.2.1.cell 0 (.pointer (some (at0 gc))) rfl;clear h7
    go_simp
    refine wpAnyH_done (by kernel_rfl) ?_ _
    gi_wp2
    exact HR.out
   ·have hdd:(hd == (j:Int)+1)=false:=by simpa using hde
    rw [if_neg hde,List.append_nil] at HLn;clear hde
    gi_wp2
    refine wp_calls_round (fun ⟨_,_,h⟩=>h) hmix (by kernel_rfl) (by kernel_rfl) ?_
    repeat (go_big_quiet_step ((go_at_call 81; exact HH.out _ HV.out _)))
    refine wpQuiet_nil ?_;rintro _ ⟨n3,rfl⟩
    gi_wp2
    have hU:Only Nay W1 (V.drewN n3):=HV.out.drewN n3;have c0:(V.drewN n3).cell? ⟨w.heap.size,0,none⟩=some (.pointer (some (at0 g))):=c0;have c1:(V.drewN n3).cell? ⟨w.heap.size+1,0,none⟩=some (.pointer (some (at0 gc))):=c1;have HU:=lj hU;have hln:=HL0.out;clear d0 hU hdd hsl HH HT HI;generalize V.drewN n3=U at *;refine wp_held_round (fun W=>W.cell? ⟨w.heap.size,0,none⟩=some (.pointer (some (at0 g)))∧W.cell? ⟨w.heap.size+1,0,none⟩=some (.pointer (some (at0 gc)))) (fun ⟨_,_,h⟩=>h) hmix (by kernel_rfl) ?_;have hS0:U.drew.cell? ⟨w.heap.size,0,none⟩=some (.pointer (some (at0 g)))∧U.drew.cell? ⟨w.heap.size+1,0,none⟩=some (.pointer (some (at0 gc))):=⟨c0,c1⟩;refine wpAnyH_take (i:=0) (v:=.pointer (some (at0 g))) rfl (by kernel_rfl) (by kernel_rfl) (by kernel_rfl) (fun _ _ _ h=>h) (.inl ⟨by kernel_rfl,fun W hW=>?_⟩) hS0 ?_
    ·obtain ⟨e0,e1⟩:=hW
     go_simp
    refine wpAnyH_take (i:=1) (v:=.pointer (some (at0 gc))) rfl (by kernel_rfl) (by kernel_rfl) (by kernel_rfl) (fun _ _ _ h=>h) (.inl ⟨by kernel_rfl,fun W hW=>?_⟩) hS0 ?_
    ·obtain ⟨e0,e1⟩:=hW
     go_simp
    refine wpAnyH_take (i:=2) (v:=.string (str line)) rfl (by kernel_rfl) (by kernel_rfl) (by kernel_rfl) (fun _ _ _ h=>h) (.inl ⟨by kernel_rfl,fun W hW=>?_⟩) hS0 ?_
    ·go_simp
    refine wpAnyH_all (rs:=[3]) (by kernel_rfl) (by simp) ?_;intro i hi;rw [List.mem_singleton.1 hi];clear hi hS0;unfold wpOp
    go_simp
    refine .inl ((notice_any _ _).mono ?_);rintro e w6 ⟨rfl,ho6⟩;have ho7:Only Nay U w6:=((Only.refl Nay U).drew).trans ho6;have c2:=ho7.keepCell (fun h=>h) c0;have c3:=ho7.keepCell (fun h=>h) c1;have HO7:=lj ho7;clear ho6 ho7
    go_simp
    refine wpAnyH_all (rs:=[4]) (by kernel_rfl) (by simp) ?_;intro i hi;rw [List.mem_singleton.1 hi];clear hi;unfold wpOp
    go_simp
    refine .inl ((HFin.out U line HU.out (by omega) HLn.out w6 HO7.out).mono ?_);rintro e w7 ⟨rfl,h7⟩;have HR:=lj h7;have c4:=h7.2.ex.1.cell 0 (.pointer (some (at0 g))) rfl;have c5:=h7.2.ex.2.1.cell 0 (.pointer (some (at0 gc))) rfl;clear h7
    go_simp
    refine wpAnyH_done (by kernel_rfl) ?_ _
    gi_wp2
    exact HR.out
end
section
open Go.RowKit Go.Shelf Go.Maps
open Fr Bk
theorem vagain_any {z:Zo} {w:World} {gr gk room g p s:Nat} {L:Bs} (h:Ring z w gr gk room L) (hv:Bx g w (VV p s)) (back:Int) (hb:back≤9223372036854775807) :
  Calls Tryz.prog 135 #[.pointer (some ⟨g,0,none⟩),.pointer (some ⟨gr,z.o,none⟩),.int .i64 back] w fun e w' =>
   e = .returned (.tuple #[])∧Bx g w' (VV (startOf L.length room back) s)∧Only (Gv g) w w':=by
 have HS:=lj (start_any h back hb);have HV:=lj hv;clear h hv;generalize startOf L.length room back=t at *
 go_enter Tryz.func135,Tryz.ntmps135
 go_wp2_with fail
 refine HS.out.mono ?_;rintro e w1 ⟨rfl,m,rfl⟩;have hx:=HV.out.drewN m;have hc:=hx.cell 0 (.int .i64 p) rfl;have hf:=hx.free 0;have HX:=lj (hx.set 0 (.int .i64 t));clear hx HV HS;go_wp2
 go_end0
 exact ⟨rfl,HX.out,((Only.refl (Gv g) w).drewN m).trans (Bx.only g (w.drewN m) 0 _)⟩
def againB (b:Br) (k:Nat) (n:Int):Br:=match b.cs k with | some c=>setc b k (some { c with p:=Bk.startOf b.L.length b.cf.log n }) | none=>b
theorem doB_none (b:Br) (k:Nat):doB b k none=(b,false):=rfl
theorem doB_some (b:Br) (k:Nat) (kind n:Int):doB b k (some (kind,n)) =
  if Bk.isOwners kind=true∧rrole b.fl.roles k≠2 then (b,false)
  else if kind=1 then (setFl b (fask b.fl k),decide (askE b.fl k=0))
  else if kind=2 then (setFl b (fdrop b.fl k),decide (dropE b.fl k=0))
  else if kind=3 then (listB b k,true)
  else if kind=4 then (shut b k 0,true)
  else if kind=5 then (setFl b (frev b.fl),decide (revE b.fl=0))
  else if kind=10 then (againB b k n,true)
  else if kind=11 then limitB b n
  else doToB b kind n:=by
 unfold doB limitB doToB setFl againB;rfl
set_option maxHeartbeats 4000000 in
theorem bdo_any {F:Fp} {g:Nat} {rs:List (Int×Int)} {w:World} {b:Br} {k gc:Nat} (h:BrIs F g rs w b) (hk:BOk b) (h1:1≤k) (h2:k≤16) (hgc:rrole rs k=(gc:Int)+1) (ho:opn b k=true) (s:Bs) (hs:s.length≤100) :
  Calls Tryz.prog 108 #[.pointer (some (at0 g)),.pointer (some (at0 gc)),.string (str s)] w fun e w'=>BGives F g rs w (doB b k (parse s)).1 (.bool (doB b k (parse s)).2) e w':=by
 obtain ⟨y,rfl,h⟩:=h;have hti:=h.base.ti;have HPa:=lj (oparse_any s w hti hs);have HB:=lj (And.intro h hk)
 rcases hp:parse s with _ | ⟨kind,n⟩
 ·have hno:∀ kk nn:Int,¬ Orm.Is s kk nn:=fun kk nn hi=>by
   have:=parse_is hi.1 hi.2;rw [hp] at this;cases this
  rw [doB_none];clear h hk hti ho hgc hp
  go_enter Tryz.func108,Tryz.ntmps108
  go_wp2_with fail
  refine HPa.out.mono ?_;rintro e w1 ⟨hbl,⟨k2,n2,hi,rfl⟩ | ⟨_,rfl⟩⟩
  ·exact absurd hi (hno _ _)
  ·have HO:=lj (only_of_below hbl)
   clear hbl HPa hno;have HG:=lj (show ∀ o,BGives F g y.rs w b (.bool false) (.returned (.bool false)) (w1.alloc o) from fun o=>⟨F,rfl,⟨y,rfl,(HB.out.1.quiet HO.out).quiet (nay_alloc w1 o)⟩,fun _ h=>.inl h,(HO.out.alloc o).mono fun _ _ h=>h.elim⟩);clear HB HO;go_wp2;go_ret;exact HG.out _
 ·have hi0:=lj (parse_rt hp)
  have hr:=hi0.out.1;have hn0:=hr.n0
  have hn63:n≤9223372036854775807:=by have:=hr.n1; omega
  rw [doB_some]
  have hkinds:kind=1∨kind=2∨kind=3∨kind=4∨kind=5∨kind=6∨kind=7∨kind=8∨kind=9∨kind=10∨kind=11:=by have:=hr.k0; have:=hr.k1; omega
  clear h hk hti hp hr
  by_cases hown:Bk.isOwners kind=true∧rrole b.fl.roles k≠2
  ·rw [if_pos hown]
   have hrole:(rrole b.fl.roles (k:Nat) == 2)=false:=by simpa using hown.2
   have hko:kind=5∨kind=6∨kind=7∨kind=8∨kind=9∨kind=11:=by have:=hown.1; unfold Bk.isOwners at this; simpa using this
   clear hown hkinds ho hn0 hn63
   rcases hko with rfl | rfl | rfl | rfl | rfl | rfl
   ·go_enter Tryz.func108,Tryz.ntmps108
    go_wp2_with fail
    refine HPa.out.mono ?_;rintro e w1 ⟨hbl,⟨k2,n2,hi,rfl⟩ | ⟨hno,rfl⟩⟩
    rotate_left
    ·exact absurd hi0.out (hno _ _)
    obtain ⟨e1,e2⟩:=Orm.Is.one hi0.out hi;subst e1 e2;have hO2:Only Nay w (w1.alloc (.cells #[.int .i64 5,.int .i64 n] 182)):=(only_of_below hbl).alloc _;have hx2:Bx w1.heap.size (w1.alloc (.cells #[.int .i64 5,.int .i64 n] 182)) #[.int .i64 5,.int .i64 n]:=Bx.new w1 _ rfl _ _;clear hbl hi HPa hi0;have hxx:=hx2.cell 0 _ rfl
    go_wp2_with fail
    refine (bowners_any 5 _).mono ?_;rintro e w3 ⟨rfl,rfl⟩;rw [show Bk.isOwners 5=true from rfl];obtain ⟨c0,hc0,hcn0⟩:=BrIs.cn (HB.out.1.quiet hO2) h1 h2 hgc;have g0:=hcn0.bx.cell 0 (.int .i64 (k:Nat)) rfl;clear hc0 hcn0
    go_wp2_with fail
    refine (bowner_any (HB.out.1.quiet hO2) HB.out.2.fok (k:Nat) (wf_id (k:=k) (by omega))).mono ?_;rintro e w4 ⟨rfl,m,rfl⟩;rw [hrole];have hO2:=hO2.drewN m;have hx2:=hx2.drewN m;clear hxx g0;generalize (w1.alloc (.cells #[.int .i64 5,.int .i64 n] 182)).drewN m=w2 at *;have HG:=lj (show BGives F g y.rs w b (.bool false) (.returned (.bool false)) w2 from ⟨F,rfl,⟨y,rfl,HB.out.1.quiet hO2⟩,fun _ h=>.inl h,hO2.mono fun _ _ h=>h.elim⟩);clear hO2 hx2 HB;go_wp2;go_ret;exact HG.out
   ·go_enter Tryz.func108,Tryz.ntmps108
    go_wp2_with fail
    refine HPa.out.mono ?_;rintro e w1 ⟨hbl,⟨k2,n2,hi,rfl⟩ | ⟨hno,rfl⟩⟩
    rotate_left
    ·exact absurd hi0.out (hno _ _)
    obtain ⟨e1,e2⟩:=Orm.Is.one hi0.out hi;subst e1 e2;have hO2:Only Nay w (w1.alloc (.cells #[.int .i64 6,.int .i64 n] 182)):=(only_of_below hbl).alloc _;have hx2:Bx w1.heap.size (w1.alloc (.cells #[.int .i64 6,.int .i64 n] 182)) #[.int .i64 6,.int .i64 n]:=Bx.new w1 _ rfl _ _;clear hbl hi HPa hi0;have hxx:=hx2.cell 0 _ rfl
    go_wp2_with fail
    refine (bowners_any 6 _).mono ?_;rintro e w3 ⟨rfl,rfl⟩;rw [show Bk.isOwners 6=true from rfl];obtain ⟨c0,hc0,hcn0⟩:=BrIs.cn (HB.out.1.quiet hO2) h1 h2 hgc;have g0:=hcn0.bx.cell 0 (.int .i64 (k:Nat)) rfl;clear hc0 hcn0
    go_wp2_with fail
    refine (bowner_any (HB.out.1.quiet hO2) HB.out.2.fok (k:Nat) (wf_id (k:=k) (by omega))).mono ?_;rintro e w4 ⟨rfl,m,rfl⟩;rw [hrole];have hO2:=hO2.drewN m;have hx2:=hx2.drewN m;clear hxx g0;generalize (w1.alloc (.cells #[.int .i64 6,.int .i64 n] 182)).drewN m=w2 at *;have HG:=lj (show BGives F g y.rs w b (.bool false) (.returned (.bool false)) w2 from ⟨F,rfl,⟨y,rfl,HB.out.1.quiet hO2⟩,fun _ h=>.inl h,hO2.mono fun _ _ h=>h.elim⟩);clear hO2 hx2 HB;go_wp2;go_ret;exact HG.out
   ·go_enter Tryz.func108,Tryz.ntmps108
    go_wp2_with fail
    refine HPa.out.mono ?_;rintro e w1 ⟨hbl,⟨k2,n2,hi,rfl⟩ | ⟨hno,rfl⟩⟩
    rotate_left
    ·exact absurd hi0.out (hno _ _)
    obtain ⟨e1,e2⟩:=Orm.Is.one hi0.out hi;subst e1 e2;have hO2:Only Nay w (w1.alloc (.cells #[.int .i64 7,.int .i64 n] 182)):=(only_of_below hbl).alloc _;have hx2:Bx w1.heap.size (w1.alloc (.cells #[.int .i64 7,.int .i64 n] 182)) #[.int .i64 7,.int .i64 n]:=Bx.new w1 _ rfl _ _;clear hbl hi HPa hi0;have hxx:=hx2.cell 0 _ rfl
    go_wp2_with fail
    refine (bowners_any 7 _).mono ?_;rintro e w3 ⟨rfl,rfl⟩;rw [show Bk.isOwners 7=true from rfl];obtain ⟨c0,hc0,hcn0⟩:=BrIs.cn (HB.out.1.quiet hO2) h1 h2 hgc;have g0:=hcn0.bx.cell 0 (.int .i64 (k:Nat)) rfl;clear hc0 hcn0
    go_wp2_with fail
    refine (bowner_any (HB.out.1.quiet hO2) HB.out.2.fok (k:Nat) (wf_id (k:=k) (by omega))).mono ?_;rintro e w4 ⟨rfl,m,rfl⟩;rw [hrole];have hO2:=hO2.drewN m;have hx2:=hx2.drewN m;clear hxx g0;generalize (w1.alloc (.cells #[.int .i64 7,.int .i64 n] 182)).drewN m=w2 at *;have HG:=lj (show BGives F g y.rs w b (.bool false) (.returned (.bool false)) w2 from ⟨F,rfl,⟨y,rfl,HB.out.1.quiet hO2⟩,fun _ h=>.inl h,hO2.mono fun _ _ h=>h.elim⟩);clear hO2 hx2 HB;go_wp2;go_ret;exact HG.out
   ·go_enter Tryz.func108,Tryz.ntmps108
    go_wp2_with fail
    refine HPa.out.mono ?_;rintro e w1 ⟨hbl,⟨k2,n2,hi,rfl⟩ | ⟨hno,rfl⟩⟩
    rotate_left
    ·exact absurd hi0.out (hno _ _)
    obtain ⟨e1,e2⟩:=Orm.Is.one hi0.out hi;subst e1 e2;have hO2:Only Nay w (w1.alloc (.cells #[.int .i64 8,.int .i64 n] 182)):=(only_of_below hbl).alloc _;have hx2:Bx w1.heap.size (w1.alloc (.cells #[.int .i64 8,.int .i64 n] 182)) #[.int .i64 8,.int .i64 n]:=Bx.new w1 _ rfl _ _;clear hbl hi HPa hi0;have hxx:=hx2.cell 0 _ rfl
    go_wp2_with fail
    refine (bowners_any 8 _).mono ?_;rintro e w3 ⟨rfl,rfl⟩;rw [show Bk.isOwners 8=true from rfl];obtain ⟨c0,hc0,hcn0⟩:=BrIs.cn (HB.out.1.quiet hO2) h1 h2 hgc;have g0:=hcn0.bx.cell 0 (.int .i64 (k:Nat)) rfl;clear hc0 hcn0
    go_wp2_with fail
    refine (bowner_any (HB.out.1.quiet hO2) HB.out.2.fok (k:Nat) (wf_id (k:=k) (by omega))).mono ?_;rintro e w4 ⟨rfl,m,rfl⟩;rw [hrole];have hO2:=hO2.drewN m;have hx2:=hx2.drewN m;clear hxx g0;generalize (w1.alloc (.cells #[.int .i64 8,.int .i64 n] 182)).drewN m=w2 at *;have HG:=lj (show BGives F g y.rs w b (.bool false) (.returned (.bool false)) w2 from ⟨F,rfl,⟨y,rfl,HB.out.1.quiet hO2⟩,fun _ h=>.inl h,hO2.mono fun _ _ h=>h.elim⟩);clear hO2 hx2 HB;go_wp2;go_ret;exact HG.out
   ·go_enter Tryz.func108,Tryz.ntmps108
    go_wp2_with fail
    refine HPa.out.mono ?_;rintro e w1 ⟨hbl,⟨k2,n2,hi,rfl⟩ | ⟨hno,rfl⟩⟩
    rotate_left
    ·exact absurd hi0.out (hno _ _)
    obtain ⟨e1,e2⟩:=Orm.Is.one hi0.out hi;subst e1 e2;have hO2:Only Nay w (w1.alloc (.cells #[.int .i64 9,.int .i64 n] 182)):=(only_of_below hbl).alloc _;have hx2:Bx w1.heap.size (w1.alloc (.cells #[.int .i64 9,.int .i64 n] 182)) #[.int .i64 9,.int .i64 n]:=Bx.new w1 _ rfl _ _;clear hbl hi HPa hi0;have hxx:=hx2.cell 0 _ rfl
    go_wp2_with fail
    refine (bowners_any 9 _).mono ?_;rintro e w3 ⟨rfl,rfl⟩;rw [show Bk.isOwners 9=true from rfl];obtain ⟨c0,hc0,hcn0⟩:=BrIs.cn (HB.out.1.quiet hO2) h1 h2 hgc;have g0:=hcn0.bx.cell 0 (.int .i64 (k:Nat)) rfl;clear hc0 hcn0
    go_wp2_with fail
    refine (bowner_any (HB.out.1.quiet hO2) HB.out.2.fok (k:Nat) (wf_id (k:=k) (by omega))).mono ?_;rintro e w4 ⟨rfl,m,rfl⟩;rw [hrole];have hO2:=hO2.drewN m;have hx2:=hx2.drewN m;clear hxx g0;generalize (w1.alloc (.cells #[.int .i64 9,.int .i64 n] 182)).drewN m=w2 at *;have HG:=lj (show BGives F g y.rs w b (.bool false) (.returned (.bool false)) w2 from ⟨F,rfl,⟨y,rfl,HB.out.1.quiet hO2⟩,fun _ h=>.inl h,hO2.mono fun _ _ h=>h.elim⟩);clear hO2 hx2 HB;go_wp2;go_ret;exact HG.out
   ·go_enter Tryz.func108,Tryz.ntmps108
    go_wp2_with fail
    refine HPa.out.mono ?_;rintro e w1 ⟨hbl,⟨k2,n2,hi,rfl⟩ | ⟨hno,rfl⟩⟩
    rotate_left
    ·exact absurd hi0.out (hno _ _)
    obtain ⟨e1,e2⟩:=Orm.Is.one hi0.out hi;subst e1 e2;have hO2:Only Nay w (w1.alloc (.cells #[.int .i64 11,.int .i64 n] 182)):=(only_of_below hbl).alloc _;have hx2:Bx w1.heap.size (w1.alloc (.cells #[.int .i64 11,.int .i64 n] 182)) #[.int .i64 11,.int .i64 n]:=Bx.new w1 _ rfl _ _;clear hbl hi HPa hi0;have hxx:=hx2.cell 0 _ rfl
    go_wp2_with fail
    refine (bowners_any 11 _).mono ?_;rintro e w3 ⟨rfl,rfl⟩;rw [show Bk.isOwners 11=true from rfl];obtain ⟨c0,hc0,hcn0⟩:=BrIs.cn (HB.out.1.quiet hO2) h1 h2 hgc;have g0:=hcn0.bx.cell 0 (.int .i64 (k:Nat)) rfl;clear hc0 hcn0
    go_wp2_with fail
    refine (bowner_any (HB.out.1.quiet hO2) HB.out.2.fok (k:Nat) (wf_id (k:=k) (by omega))).mono ?_;rintro e w4 ⟨rfl,m,rfl⟩;rw [hrole];have hO2:=hO2.drewN m;have hx2:=hx2.drewN m;clear hxx g0;generalize (w1.alloc (.cells #[.int .i64 11,.int .i64 n] 182)).drewN m=w2 at *;have HG:=lj (show BGives F g y.rs w b (.bool false) (.returned (.bool false)) w2 from ⟨F,rfl,⟨y,rfl,HB.out.1.quiet hO2⟩,fun _ h=>.inl h,hO2.mono fun _ _ h=>h.elim⟩);clear hO2 hx2 HB;go_wp2;go_ret;exact HG.out
  ·rw [if_neg hown]
   rcases hkinds with rfl | rfl | rfl | rfl | rfl | rfl | rfl | rfl | rfl | rfl | rfl
   ·clear hown
    go_enter Tryz.func108,Tryz.ntmps108
    go_wp2_with fail
    refine HPa.out.mono ?_;rintro e w1 ⟨hbl,⟨k2,n2,hi,rfl⟩ | ⟨hno,rfl⟩⟩
    rotate_left
    ·exact absurd hi0.out (hno _ _)
    obtain ⟨e1,e2⟩:=Orm.Is.one hi0.out hi;subst e1 e2;have hO2:Only Nay w (w1.alloc (.cells #[.int .i64 1,.int .i64 n] 182)):=(only_of_below hbl).alloc _;have hx2:Bx w1.heap.size (w1.alloc (.cells #[.int .i64 1,.int .i64 n] 182)) #[.int .i64 1,.int .i64 n]:=Bx.new w1 _ rfl _ _;clear hbl hi HPa hi0;have hxx:=hx2.cell 0 _ rfl
    go_wp2_with fail
    refine (bowners_any 1 _).mono ?_;rintro e w3 ⟨rfl,rfl⟩;rw [show Bk.isOwners 1=false from rfl];clear hxx;generalize w1.alloc (.cells #[.int .i64 1,.int .i64 n] 182)=w2 at *;have hb2:=HB.out.1.quiet hO2;have x0:=hx2.cell 0 (.int .i64 1) rfl;have x1:=hx2.cell 1 (.int .i64 n) rfl
    have hOo:Only (Own1 F) w w2:=hO2.mono fun _ _ h=>h.elim
    obtain ⟨c,hc,hcn⟩:=BrIs.cn hb2 h1 h2 hgc;have hbd:=hb2.quiet ((Only.refl Nay w2).drew);have HT:=lj (task_any hbd.toTab HB.out.2.fok (by decide) (k:Nat) (wf_id (k:=k) (by omega)));have HD0:=lj (show w2.drew.cell? ⟨gc,0,none⟩=some (.int .i64 (k:Nat)) from hcn.bx.cell 0 _ rfl);have HX:=lj (fun (W:World) (hO:Only (fun x=>F 1 x∨F 3 x) w2.drew W)=>only_cell hbd h1 (hcn.keep ((Only.refl Nay w2).drew) (fun _ _ _ _ h=>h)) hO);have HE:=lj (And.intro hbd hOo.drew);clear hO2 hx2 hb2 hOo hcn hc hbd HB;go_wp2
    go_region_held (fun w'=>w'.cell? ⟨gc,0,none⟩=some (.int .i64 (k:Nat))) (first | exact HD0.out | exact HDb.out)
     (first | (go_at_call 131; refine HT.out.mono ?_; rintro e wb hg; have HG:=lj (tabGives HE.out.1 hg); obtain ⟨G2,rfl,ht2,hs2,ho2⟩:=hg; have HDb:=lj (HX.out _ ho2); clear ht2 hs2 ho2))
    rename_i hh
    clear hh;go_wp2;go_ret;exact BGives.to HE.out.2 HG.out
   ·clear hown
    go_enter Tryz.func108,Tryz.ntmps108
    go_wp2_with fail
    refine HPa.out.mono ?_;rintro e w1 ⟨hbl,⟨k2,n2,hi,rfl⟩ | ⟨hno,rfl⟩⟩
    rotate_left
    ·exact absurd hi0.out (hno _ _)
    obtain ⟨e1,e2⟩:=Orm.Is.one hi0.out hi;subst e1 e2;have hO2:Only Nay w (w1.alloc (.cells #[.int .i64 2,.int .i64 n] 182)):=(only_of_below hbl).alloc _;have hx2:Bx w1.heap.size (w1.alloc (.cells #[.int .i64 2,.int .i64 n] 182)) #[.int .i64 2,.int .i64 n]:=Bx.new w1 _ rfl _ _;clear hbl hi HPa hi0;have hxx:=hx2.cell 0 _ rfl
    go_wp2_with fail
    refine (bowners_any 2 _).mono ?_;rintro e w3 ⟨rfl,rfl⟩;rw [show Bk.isOwners 2=false from rfl];clear hxx;generalize w1.alloc (.cells #[.int .i64 2,.int .i64 n] 182)=w2 at *;have hb2:=HB.out.1.quiet hO2;have x0:=hx2.cell 0 (.int .i64 2) rfl;have x1:=hx2.cell 1 (.int .i64 n) rfl
    have hOo:Only (Own1 F) w w2:=hO2.mono fun _ _ h=>h.elim
    obtain ⟨c,hc,hcn⟩:=BrIs.cn hb2 h1 h2 hgc;have hbd:=hb2.quiet ((Only.refl Nay w2).drew);have HT:=lj (tdrop_any hbd.toTab HB.out.2.fok (by decide) (k:Nat) (wf_id (k:=k) (by omega)));have HD0:=lj (show w2.drew.cell? ⟨gc,0,none⟩=some (.int .i64 (k:Nat)) from hcn.bx.cell 0 _ rfl);have HX:=lj (fun (W:World) (hO:Only (fun x=>F 1 x∨F 3 x) w2.drew W)=>only_cell hbd h1 (hcn.keep ((Only.refl Nay w2).drew) (fun _ _ _ _ h=>h)) hO);have HE:=lj (And.intro hbd hOo.drew);clear hO2 hx2 hb2 hOo hcn hc hbd HB;go_wp2
    go_region_held (fun w'=>w'.cell? ⟨gc,0,none⟩=some (.int .i64 (k:Nat))) (first | exact HD0.out | exact HDb.out)
     (first | (go_at_call 132; refine HT.out.mono ?_; rintro e wb hg; have HG:=lj (tabGives HE.out.1 hg); obtain ⟨G2,rfl,ht2,hs2,ho2⟩:=hg; have HDb:=lj (HX.out _ ho2); clear ht2 hs2 ho2))
    rename_i hh
    clear hh;go_wp2;go_ret;exact BGives.to HE.out.2 HG.out
   ·clear hown
    go_enter Tryz.func108,Tryz.ntmps108
    go_wp2_with fail
    refine HPa.out.mono ?_;rintro e w1 ⟨hbl,⟨k2,n2,hi,rfl⟩ | ⟨hno,rfl⟩⟩
    rotate_left
    ·exact absurd hi0.out (hno _ _)
    obtain ⟨e1,e2⟩:=Orm.Is.one hi0.out hi;subst e1 e2;have hO2:Only Nay w (w1.alloc (.cells #[.int .i64 3,.int .i64 n] 182)):=(only_of_below hbl).alloc _;have hx2:Bx w1.heap.size (w1.alloc (.cells #[.int .i64 3,.int .i64 n] 182)) #[.int .i64 3,.int .i64 n]:=Bx.new w1 _ rfl _ _;clear hbl hi HPa hi0;have hxx:=hx2.cell 0 _ rfl
    go_wp2_with fail
    refine (bowners_any 3 _).mono ?_;rintro e w3 ⟨rfl,rfl⟩;rw [show Bk.isOwners 3=false from rfl];clear hxx;generalize w1.alloc (.cells #[.int .i64 3,.int .i64 n] 182)=w2 at *;have hb2:=HB.out.1.quiet hO2;have x0:=hx2.cell 0 (.int .i64 3) rfl;have x1:=hx2.cell 1 (.int .i64 n) rfl
    have hOo:Only (Own1 F) w w2:=hO2.mono fun _ _ h=>h.elim
    obtain ⟨c,hc,hcn⟩:=BrIs.cn hb2 h1 h2 hgc;have HT:=lj (blist_any ⟨y,rfl,hb2⟩ HB.out.2 h1 h2 hgc);have HE:=lj hOo;clear hO2 hx2 hb2 hOo hcn hc HB
    go_wp2_with fail
    refine HT.out.mono ?_;rintro e w5 hg;have HG:=lj (fun v2=>BGives.to HE.out hg (v2:=v2));obtain ⟨F7,rfl,_⟩:=hg;go_wp2;go_ret;exact HG.out _
   ·clear hown
    go_enter Tryz.func108,Tryz.ntmps108
    go_wp2_with fail
    refine HPa.out.mono ?_;rintro e w1 ⟨hbl,⟨k2,n2,hi,rfl⟩ | ⟨hno,rfl⟩⟩
    rotate_left
    ·exact absurd hi0.out (hno _ _)
    obtain ⟨e1,e2⟩:=Orm.Is.one hi0.out hi;subst e1 e2;have hO2:Only Nay w (w1.alloc (.cells #[.int .i64 4,.int .i64 n] 182)):=(only_of_below hbl).alloc _;have hx2:Bx w1.heap.size (w1.alloc (.cells #[.int .i64 4,.int .i64 n] 182)) #[.int .i64 4,.int .i64 n]:=Bx.new w1 _ rfl _ _;clear hbl hi HPa hi0;have hxx:=hx2.cell 0 _ rfl
    go_wp2_with fail
    refine (bowners_any 4 _).mono ?_;rintro e w3 ⟨rfl,rfl⟩;rw [show Bk.isOwners 4=false from rfl];clear hxx;generalize w1.alloc (.cells #[.int .i64 4,.int .i64 n] 182)=w2 at *;have hb2:=HB.out.1.quiet hO2;have x0:=hx2.cell 0 (.int .i64 4) rfl;have x1:=hx2.cell 1 (.int .i64 n) rfl
    have hOo:Only (Own1 F) w w2:=hO2.mono fun _ _ h=>h.elim
    obtain ⟨c,hc,hcn⟩:=BrIs.cn hb2 h1 h2 hgc;have HT:=lj (bshut_any 0 ⟨y,rfl,hb2⟩ HB.out.2.fok h1 h2 hgc (by decide));have HE:=lj hOo;clear hO2 hx2 hb2 hOo hcn hc HB
    go_wp2_with fail
    refine HT.out.mono ?_;rintro e w5 hg;have HG:=lj (fun v2=>BGives.to HE.out hg (v2:=v2));obtain ⟨F7,rfl,_⟩:=hg;go_wp2;go_ret;exact HG.out _
   ·have hrole:(rrole b.fl.roles (k:Nat) == 2)=true:=by
     have:rrole b.fl.roles (k:Nat)=2:=Classical.byContradiction fun e=>hown ⟨rfl,e⟩
     simpa using this
    clear hown
    go_enter Tryz.func108,Tryz.ntmps108
    go_wp2_with fail
    refine HPa.out.mono ?_;rintro e w1 ⟨hbl,⟨k2,n2,hi,rfl⟩ | ⟨hno,rfl⟩⟩
    rotate_left
    ·exact absurd hi0.out (hno _ _)
    obtain ⟨e1,e2⟩:=Orm.Is.one hi0.out hi;subst e1 e2;have hO2:Only Nay w (w1.alloc (.cells #[.int .i64 5,.int .i64 n] 182)):=(only_of_below hbl).alloc _;have hx2:Bx w1.heap.size (w1.alloc (.cells #[.int .i64 5,.int .i64 n] 182)) #[.int .i64 5,.int .i64 n]:=Bx.new w1 _ rfl _ _;clear hbl hi HPa hi0;have hxx:=hx2.cell 0 _ rfl
    go_wp2_with fail
    refine (bowners_any 5 _).mono ?_;rintro e w3 ⟨rfl,rfl⟩;rw [show Bk.isOwners 5=true from rfl];obtain ⟨c0,hc0,hcn0⟩:=BrIs.cn (HB.out.1.quiet hO2) h1 h2 hgc;have g0:=hcn0.bx.cell 0 (.int .i64 (k:Nat)) rfl;clear hc0 hcn0
    go_wp2_with fail
    refine (bowner_any (HB.out.1.quiet hO2) HB.out.2.fok (k:Nat) (wf_id (k:=k) (by omega))).mono ?_;rintro e w4 ⟨rfl,m,rfl⟩;rw [hrole];have hO2:=hO2.drewN m;have hx2:=hx2.drewN m;clear hxx g0;generalize (w1.alloc (.cells #[.int .i64 5,.int .i64 n] 182)).drewN m=w2 at *;have hb2:=HB.out.1.quiet hO2;have x0:=hx2.cell 0 (.int .i64 5) rfl;have x1:=hx2.cell 1 (.int .i64 n) rfl
    have hOo:Only (Own1 F) w w2:=hO2.mono fun _ _ h=>h.elim
    obtain ⟨c,hc,hcn⟩:=BrIs.cn hb2 h1 h2 hgc;have HT:=lj (trev_any hb2.toTab HB.out.2.fok (by decide));have HE:=lj (And.intro hOo hb2);clear hO2 hx2 hb2 hOo hcn hc HB
    go_wp2_with fail
    refine HT.out.mono ?_;rintro e w5 hg;have HG:=lj (tabGives HE.out.2 hg);obtain ⟨G2,rfl,ht2,hs2,ho2⟩:=hg;clear ht2 hs2 ho2;go_wp2;go_ret;exact BGives.to HE.out.1 HG.out
   ·have hrole:(rrole b.fl.roles (k:Nat) == 2)=true:=by
     have:rrole b.fl.roles (k:Nat)=2:=Classical.byContradiction fun e=>hown ⟨rfl,e⟩
     simpa using this
    clear hown
    go_enter Tryz.func108,Tryz.ntmps108
    go_wp2_with fail
    refine HPa.out.mono ?_;rintro e w1 ⟨hbl,⟨k2,n2,hi,rfl⟩ | ⟨hno,rfl⟩⟩
    rotate_left
    ·exact absurd hi0.out (hno _ _)
    obtain ⟨e1,e2⟩:=Orm.Is.one hi0.out hi;subst e1 e2;have hO2:Only Nay w (w1.alloc (.cells #[.int .i64 6,.int .i64 n] 182)):=(only_of_below hbl).alloc _;have hx2:Bx w1.heap.size (w1.alloc (.cells #[.int .i64 6,.int .i64 n] 182)) #[.int .i64 6,.int .i64 n]:=Bx.new w1 _ rfl _ _;clear hbl hi HPa hi0;have hxx:=hx2.cell 0 _ rfl
    go_wp2_with fail
    refine (bowners_any 6 _).mono ?_;rintro e w3 ⟨rfl,rfl⟩;rw [show Bk.isOwners 6=true from rfl];obtain ⟨c0,hc0,hcn0⟩:=BrIs.cn (HB.out.1.quiet hO2) h1 h2 hgc;have g0:=hcn0.bx.cell 0 (.int .i64 (k:Nat)) rfl;clear hc0 hcn0
    go_wp2_with fail
    refine (bowner_any (HB.out.1.quiet hO2) HB.out.2.fok (k:Nat) (wf_id (k:=k) (by omega))).mono ?_;rintro e w4 ⟨rfl,m,rfl⟩;rw [hrole];have hO2:=hO2.drewN m;have hx2:=hx2.drewN m;clear hxx g0;generalize (w1.alloc (.cells #[.int .i64 6,.int .i64 n] 182)).drewN m=w2 at *;have hb2:=HB.out.1.quiet hO2;have x0:=hx2.cell 0 (.int .i64 6) rfl;have x1:=hx2.cell 1 (.int .i64 n) rfl
    have hOo:Only (Own1 F) w w2:=hO2.mono fun _ _ h=>h.elim
    obtain ⟨c,hc,hcn⟩:=BrIs.cn hb2 h1 h2 hgc;have HT:=lj (bdoto_any ⟨y,rfl,hb2⟩ HB.out.2 6 n (by decide));have HE:=lj hOo;clear hO2 hx2 hb2 hOo hcn hc HB
    go_wp2_with fail
    refine HT.out.mono ?_;rintro e w5 hg;have HG:=lj (fun v2=>BGives.to HE.out hg (v2:=v2));obtain ⟨F7,rfl,_⟩:=hg;go_wp2;go_ret;exact HG.out _
   ·have hrole:(rrole b.fl.roles (k:Nat) == 2)=true:=by
     have:rrole b.fl.roles (k:Nat)=2:=Classical.byContradiction fun e=>hown ⟨rfl,e⟩
     simpa using this
    clear hown
    go_enter Tryz.func108,Tryz.ntmps108
    go_wp2_with fail
    refine HPa.out.mono ?_;rintro e w1 ⟨hbl,⟨k2,n2,hi,rfl⟩ | ⟨hno,rfl⟩⟩
    rotate_left
    ·exact absurd hi0.out (hno _ _)
    obtain ⟨e1,e2⟩:=Orm.Is.one hi0.out hi;subst e1 e2;have hO2:Only Nay w (w1.alloc (.cells #[.int .i64 7,.int .i64 n] 182)):=(only_of_below hbl).alloc _;have hx2:Bx w1.heap.size (w1.alloc (.cells #[.int .i64 7,.int .i64 n] 182)) #[.int .i64 7,.int .i64 n]:=Bx.new w1 _ rfl _ _;clear hbl hi HPa hi0;have hxx:=hx2.cell 0 _ rfl
    go_wp2_with fail
    refine (bowners_any 7 _).mono ?_;rintro e w3 ⟨rfl,rfl⟩;rw [show Bk.isOwners 7=true from rfl];obtain ⟨c0,hc0,hcn0⟩:=BrIs.cn (HB.out.1.quiet hO2) h1 h2 hgc;have g0:=hcn0.bx.cell 0 (.int .i64 (k:Nat)) rfl;clear hc0 hcn0
    go_wp2_with fail
    refine (bowner_any (HB.out.1.quiet hO2) HB.out.2.fok (k:Nat) (wf_id (k:=k) (by omega))).mono ?_;rintro e w4 ⟨rfl,m,rfl⟩;rw [hrole];have hO2:=hO2.drewN m;have hx2:=hx2.drewN m;clear hxx g0;generalize (w1.alloc (.cells #[.int .i64 7,.int .i64 n] 182)).drewN m=w2 at *;have hb2:=HB.out.1.quiet hO2;have x0:=hx2.cell 0 (.int .i64 7) rfl;have x1:=hx2.cell 1 (.int .i64 n) rfl
    have hOo:Only (Own1 F) w w2:=hO2.mono fun _ _ h=>h.elim
    obtain ⟨c,hc,hcn⟩:=BrIs.cn hb2 h1 h2 hgc;have HT:=lj (bdoto_any ⟨y,rfl,hb2⟩ HB.out.2 7 n (by decide));have HE:=lj hOo;clear hO2 hx2 hb2 hOo hcn hc HB
    go_wp2_with fail
    refine HT.out.mono ?_;rintro e w5 hg;have HG:=lj (fun v2=>BGives.to HE.out hg (v2:=v2));obtain ⟨F7,rfl,_⟩:=hg;go_wp2;go_ret;exact HG.out _
   ·have hrole:(rrole b.fl.roles (k:Nat) == 2)=true:=by
     have:rrole b.fl.roles (k:Nat)=2:=Classical.byContradiction fun e=>hown ⟨rfl,e⟩
     simpa using this
    clear hown
    go_enter Tryz.func108,Tryz.ntmps108
    go_wp2_with fail
    refine HPa.out.mono ?_;rintro e w1 ⟨hbl,⟨k2,n2,hi,rfl⟩ | ⟨hno,rfl⟩⟩
    rotate_left
    ·exact absurd hi0.out (hno _ _)
    obtain ⟨e1,e2⟩:=Orm.Is.one hi0.out hi;subst e1 e2;have hO2:Only Nay w (w1.alloc (.cells #[.int .i64 8,.int .i64 n] 182)):=(only_of_below hbl).alloc _;have hx2:Bx w1.heap.size (w1.alloc (.cells #[.int .i64 8,.int .i64 n] 182)) #[.int .i64 8,.int .i64 n]:=Bx.new w1 _ rfl _ _;clear hbl hi HPa hi0;have hxx:=hx2.cell 0 _ rfl
    go_wp2_with fail
    refine (bowners_any 8 _).mono ?_;rintro e w3 ⟨rfl,rfl⟩;rw [show Bk.isOwners 8=true from rfl];obtain ⟨c0,hc0,hcn0⟩:=BrIs.cn (HB.out.1.quiet hO2) h1 h2 hgc;have g0:=hcn0.bx.cell 0 (.int .i64 (k:Nat)) rfl;clear hc0 hcn0
    go_wp2_with fail
    refine (bowner_any (HB.out.1.quiet hO2) HB.out.2.fok (k:Nat) (wf_id (k:=k) (by omega))).mono ?_;rintro e w4 ⟨rfl,m,rfl⟩;rw [hrole];have hO2:=hO2.drewN m;have hx2:=hx2.drewN m;clear hxx g0;generalize (w1.alloc (.cells #[.int .i64 8,.int .i64 n] 182)).drewN m=w2 at *;have hb2:=HB.out.1.quiet hO2;have x0:=hx2.cell 0 (.int .i64 8) rfl;have x1:=hx2.cell 1 (.int .i64 n) rfl
    have hOo:Only (Own1 F) w w2:=hO2.mono fun _ _ h=>h.elim
    obtain ⟨c,hc,hcn⟩:=BrIs.cn hb2 h1 h2 hgc;have HT:=lj (bdoto_any ⟨y,rfl,hb2⟩ HB.out.2 8 n (by decide));have HE:=lj hOo;clear hO2 hx2 hb2 hOo hcn hc HB
    go_wp2_with fail
    refine HT.out.mono ?_;rintro e w5 hg;have HG:=lj (fun v2=>BGives.to HE.out hg (v2:=v2));obtain ⟨F7,rfl,_⟩:=hg;go_wp2;go_ret;exact HG.out _
   ·have hrole:(rrole b.fl.roles (k:Nat) == 2)=true:=by
     have:rrole b.fl.roles (k:Nat)=2:=Classical.byContradiction fun e=>hown ⟨rfl,e⟩
     simpa using this
    clear hown
    go_enter Tryz.func108,Tryz.ntmps108
    go_wp2_with fail
    refine HPa.out.mono ?_;rintro e w1 ⟨hbl,⟨k2,n2,hi,rfl⟩ | ⟨hno,rfl⟩⟩
    rotate_left
    ·exact absurd hi0.out (hno _ _)
    obtain ⟨e1,e2⟩:=Orm.Is.one hi0.out hi;subst e1 e2;have hO2:Only Nay w (w1.alloc (.cells #[.int .i64 9,.int .i64 n] 182)):=(only_of_below hbl).alloc _;have hx2:Bx w1.heap.size (w1.alloc (.cells #[.int .i64 9,.int .i64 n] 182)) #[.int .i64 9,.int .i64 n]:=Bx.new w1 _ rfl _ _;clear hbl hi HPa hi0;have hxx:=hx2.cell 0 _ rfl
    go_wp2_with fail
    refine (bowners_any 9 _).mono ?_;rintro e w3 ⟨rfl,rfl⟩;rw [show Bk.isOwners 9=true from rfl];obtain ⟨c0,hc0,hcn0⟩:=BrIs.cn (HB.out.1.quiet hO2) h1 h2 hgc;have g0:=hcn0.bx.cell 0 (.int .i64 (k:Nat)) rfl;clear hc0 hcn0
    go_wp2_with fail
    refine (bowner_any (HB.out.1.quiet hO2) HB.out.2.fok (k:Nat) (wf_id (k:=k) (by omega))).mono ?_;rintro e w4 ⟨rfl,m,rfl⟩;rw [hrole];have hO2:=hO2.drewN m;have hx2:=hx2.drewN m;clear hxx g0;generalize (w1.alloc (.cells #[.int .i64 9,.int .i64 n] 182)).drewN m=w2 at *;have hb2:=HB.out.1.quiet hO2;have x0:=hx2.cell 0 (.int .i64 9) rfl;have x1:=hx2.cell 1 (.int .i64 n) rfl
    have hOo:Only (Own1 F) w w2:=hO2.mono fun _ _ h=>h.elim
    obtain ⟨c,hc,hcn⟩:=BrIs.cn hb2 h1 h2 hgc;have HT:=lj (bdoto_any ⟨y,rfl,hb2⟩ HB.out.2 9 n (by decide));have HE:=lj hOo;clear hO2 hx2 hb2 hOo hcn hc HB
    go_wp2_with fail
    refine HT.out.mono ?_;rintro e w5 hg;have HG:=lj (fun v2=>BGives.to HE.out hg (v2:=v2));obtain ⟨F7,rfl,_⟩:=hg;go_wp2;go_ret;exact HG.out _
   ·clear hown
    go_enter Tryz.func108,Tryz.ntmps108
    go_wp2_with fail
    refine HPa.out.mono ?_;rintro e w1 ⟨hbl,⟨k2,n2,hi,rfl⟩ | ⟨hno,rfl⟩⟩
    rotate_left
    ·exact absurd hi0.out (hno _ _)
    obtain ⟨e1,e2⟩:=Orm.Is.one hi0.out hi;subst e1 e2;have hO2:Only Nay w (w1.alloc (.cells #[.int .i64 10,.int .i64 n] 182)):=(only_of_below hbl).alloc _;have hx2:Bx w1.heap.size (w1.alloc (.cells #[.int .i64 10,.int .i64 n] 182)) #[.int .i64 10,.int .i64 n]:=Bx.new w1 _ rfl _ _;have hw1:w.heap.size≤w1.heap.size:=hbl.size;clear hbl hi HPa hi0;have hxx:=hx2.cell 0 _ rfl
    go_wp2_with fail
    refine (bowners_any 10 _).mono ?_;rintro e w3 ⟨rfl,rfl⟩;rw [show Bk.isOwners 10=false from rfl];clear hxx;generalize w1.alloc (.cells #[.int .i64 10,.int .i64 n] 182)=w2 at *;have hb2:=HB.out.1.quiet hO2;have x0:=hx2.cell 0 (.int .i64 10) rfl;have x1:=hx2.cell 1 (.int .i64 n) rfl
    have hOo:Only (Own1 F) w w2:=hO2.mono fun _ _ h=>h.elim
    obtain ⟨c,hc,hcn⟩:=BrIs.cn hb2 h1 h2 hgc
    have hst:c.st=1:=by unfold opn at ho; rw [hc] at ho; simpa using ho
    obtain ⟨gv,hgv⟩:∃ gv,(y.cy k).gv=some gv:=by
     rcases e:(y.cy k).gv with _ | gv
     ·exact absurd e (hcn.vo hst)
     ·exact ⟨gv,rfl⟩
    have d7:w2.cell? ⟨gc,7,none⟩=some (.pointer (some (at0 gv))):=by
     have:=hcn.bx.cell 7 (.pointer ((y.cy k).gv.map at0)) rfl;rw [hgv] at this;exact this
    have hv1:=(hcn.vw gv hgv).1
    have hgcv:gc≠gv:=fun e=>hb2.fit.ne hcn.own (by omega) (e ▸ (hcn.vw gv hgv).2)
    have hmv:w1.heap.size≠gv:=fun e=>by
     have h9:=HB.out.1.fit.lt _ _ (hcn.vw gv hgv).2;have h8:w.heap.size≤w1.heap.size:=hw1;omega
    have hO0:Only Nay w2 w2.drew:=(Only.refl Nay w2).drew;have HT:=lj (vagain_any (hb2.quiet hO0).toRing (hv1.keep hO0 (fun h=>h)) n hn63);have HS:=lj (show ∀ W,Only (Gv gv) w2 W→W.cell? ⟨gc,7,none⟩=some (.pointer (some (at0 gv)))∧W.cell? ⟨w1.heap.size,1,none⟩=some (.int .i64 n) from fun W hO=>⟨hO.keepCell hgcv d7,hO.keepCell hmv x1⟩);have HE:=lj (And.intro hb2 (And.intro hOo (And.intro hcn hgv)));have HC:=lj hc
    have hOg:Only (Gv gv) w2 w2.drew:=hO0.mono fun _ _ h=>h.elim
    have HR:=lj (show againB b k n=setc b k (some { c with p:=Bk.startOf b.L.length b.cf.log n,s:=c.s }) by unfold againB; rw [hc]);clear hO2 hx2 hb2 hOo hcn hc HB hv1 hgcv hmv hO0 hst hgv d7 x1;go_wp2
    go_region_held (fun W=>W.cell? ⟨gc,7,none⟩=some (.pointer (some (at0 gv)))∧W.cell? ⟨w1.heap.size,1,none⟩=some (.int .i64 n)) (first | exact HS.out _ hOg | exact HS.out _ HO5.out)
     (first | (go_at_call 135; refine HT.out.mono ?_; rintro e wb ⟨rfl,hv5,ho5⟩; have HO5:=lj (hOg.trans ho5); have HV5:=lj hv5; clear hv5 ho5))
    rename_i hh
    clear hh;have hfin:=HE.out.1.cnView h1 h2 hgc HE.out.2.2.1 HE.out.2.2.2 HV5.out HO5.out
    have HFin:=lj (show BGives F g y.rs w (againB b k n) (.bool true) (.returned (.bool true)) wb from by
     rw [HR.out]
     exact ⟨F,rfl,⟨y,rfl,hfin⟩,fun _ h=>.inl h,HE.out.2.1.trans (HO5.out.mono fun x _ hx=>by rw [show x=gv from hx]; exact ⟨_,(HE.out.2.2.1.vw gv HE.out.2.2.2).2⟩)⟩)
    clear hfin;go_wp2;go_ret;exact HFin.out
   ·have hrole:(rrole b.fl.roles (k:Nat) == 2)=true:=by
     have:rrole b.fl.roles (k:Nat)=2:=Classical.byContradiction fun e=>hown ⟨rfl,e⟩
     simpa using this
    clear hown
    go_enter Tryz.func108,Tryz.ntmps108
    go_wp2_with fail
    refine HPa.out.mono ?_;rintro e w1 ⟨hbl,⟨k2,n2,hi,rfl⟩ | ⟨hno,rfl⟩⟩
    rotate_left
    ·exact absurd hi0.out (hno _ _)
    obtain ⟨e1,e2⟩:=Orm.Is.one hi0.out hi;subst e1 e2;have hO2:Only Nay w (w1.alloc (.cells #[.int .i64 11,.int .i64 n] 182)):=(only_of_below hbl).alloc _;have hx2:Bx w1.heap.size (w1.alloc (.cells #[.int .i64 11,.int .i64 n] 182)) #[.int .i64 11,.int .i64 n]:=Bx.new w1 _ rfl _ _;clear hbl hi HPa hi0;have hxx:=hx2.cell 0 _ rfl
    go_wp2_with fail
    refine (bowners_any 11 _).mono ?_;rintro e w3 ⟨rfl,rfl⟩;rw [show Bk.isOwners 11=true from rfl];obtain ⟨c0,hc0,hcn0⟩:=BrIs.cn (HB.out.1.quiet hO2) h1 h2 hgc;have g0:=hcn0.bx.cell 0 (.int .i64 (k:Nat)) rfl;clear hc0 hcn0
    go_wp2_with fail
    refine (bowner_any (HB.out.1.quiet hO2) HB.out.2.fok (k:Nat) (wf_id (k:=k) (by omega))).mono ?_;rintro e w4 ⟨rfl,m,rfl⟩;rw [hrole];have hO2:=hO2.drewN m;have hx2:=hx2.drewN m;clear hxx g0;generalize (w1.alloc (.cells #[.int .i64 11,.int .i64 n] 182)).drewN m=w2 at *;have hb2:=HB.out.1.quiet hO2;have x0:=hx2.cell 0 (.int .i64 11) rfl;have x1:=hx2.cell 1 (.int .i64 n) rfl
    have hOo:Only (Own1 F) w w2:=hO2.mono fun _ _ h=>h.elim
    obtain ⟨c,hc,hcn⟩:=BrIs.cn hb2 h1 h2 hgc;have HT:=lj (blimit_any ⟨y,rfl,hb2⟩ n hn0);have HE:=lj hOo;clear hO2 hx2 hb2 hOo hcn hc HB
    go_wp2_with fail
    refine HT.out.mono ?_;rintro e w5 hg;have HG:=lj (fun v2=>BGives.to HE.out hg (v2:=v2));obtain ⟨F7,rfl,_⟩:=hg;go_wp2;go_ret;exact HG.out _
end
section
open Go.RowKit Go.Shelf Go.Maps
open Fr Bk
section
variable {F:Fp} {g:Nat} {y:Ly} {w w':World} {b:Br}
theorem BrAt.cnLex (h:BrAt F g y w b) {k gc:Nat} {c:Cn} (h1:1≤k) (h2:k≤16) (hgc:rrole y.rs k=(gc:Int)+1) (hcn:CnAt F k gc (y.cy k) b.cf.queue w c) {G:Nat→Prop} {l:Lx.Lx} (hq:LexIs G (y.cy k).gl w' l)
  (hG:∀ x,G x→F (10 * k+2) x∨w.heap.size≤x) (hO:Only (F (10 * k+2)) w w'):BrAt (upF F (10 * k+2) G) g y w' (setc b k (some { c with lx:=l })):=by
 have hd:∀ j x,j≠2→j<5→F (10 * k+j) x→¬ F (10 * k+2) x:=fun j x hj _ hx=>h.fit.ne hx (by omega)
 have hy:ycy y k (y.cy k)=y:=by
  unfold ycy
  congr 1
  funext j
  by_cases e:j=k <;> simp [e]
 have hr:=h.setCn (i:=2) h1 h2 hgc (by decide) hG (fun x hx=>hq.lt x hx) (cy:=y.cy k) (c:={ c with lx:=l }) hO (by
  refine ⟨hcn.bx.keep hO (hd 0 _ (by decide) (by decide) hcn.own),by rw [upF_other (by omega)]; exact hcn.own,?_,?_,?_,?_,hcn.vo⟩
  ·rw [upF_other (by omega)]; exact hcn.fd.keep hO (fun x hx=>hd 1 x (by decide) (by decide) hx)
  ·rw [upF_same]; exact hq
  ·rw [upF_other (by omega)]; exact hcn.qu.keep hO (fun x hx=>hd 3 x (by decide) (by decide) hx)
  ·intro gv e
   rw [upF_other (by omega)]
   exact ⟨(hcn.vw gv e).1.keep hO (hd 4 _ (by decide) (by decide) (hcn.vw gv e).2),(hcn.vw gv e).2⟩)
 rwa [hy] at hr
end
theorem why_le (b:Br) (k n:Nat):whyB b k n≤5:=by
 unfold whyB
 repeat' split
 all_goals omega
def offB (b:Br) (k:Nat) (ks:Bs):Br:=if whyB b k ks.length=0 then { b with inp:=b.inp ++ ks,tot:=b.tot+ks.length } else b
theorem boffer_any {F:Fp} {g:Nat} {rs:List (Int×Int)} {w:World} {b:Br} {k:Nat} (h:BrIs F g rs w b) (hk:BOk b) (h1:1≤k) (h2:k≤16) {B:Nat} {A:Option Addr} {m:Nat} (c2:Nat) {t:Bs} (hb:Bytes w B A m t) (htot:b.tot≤1000000000) :
  Calls Tryz.prog 107 #[.pointer (some ⟨g,18,none⟩),.pointer (some ⟨g,13,none⟩),.int .i64 (k:Nat),.slice A m c2] w fun e w'=>BGives F g rs w (offB b k t) (.int .i64 (whyB b k t.length:Nat)) e w':=by
 obtain ⟨y,rfl,hy⟩:=h;have hid:wf64 ((k:Nat):Int):=wf_id (k:=k) (by omega);have hm:t.length=m:=hb.1;have hq:=hy.toInp;have ht:=hy.toTab
 have hw:whyE b.ended b.fl k=if b.ended then 1 else if rhas b.fl.roles k=false then 2 else if rrole b.fl.roles k=0 then 3 else if fhold b.fl≠k then 4 else 0:=rfl
 by_cases h0:whyE b.ended b.fl k=0
 ·have he:b.ended=false:=by
   rcases e:b.ended with _ | _
   ·rfl
   ·rw [e] at h0; exact absurd (show (1:Int)=0 from h0) (by decide)
  have hi:isz b=b.cf.input:=by unfold isz; rw [he]; rfl
  by_cases hf:b.cf.input<b.inp.length+m
  ·have hv:whyB b k t.length=5:=by
    rw [h0] at hw;unfold whyB
    revert hw
    repeat' split
    all_goals intro hw
    all_goals first | omega | rfl
   unfold offB;rw [hv,if_neg (by decide)];refine (iq_offer_full hq ht hk.fok k hid A m c2 h0 (by rw [hi]; exact hf)).mono ?_;rintro e w' ⟨rfl,n,rfl⟩;exact ⟨F,rfl,⟨y,rfl,hy.drewN n⟩,fun _ h=>.inl h,(Only.refl _ w).drewN n⟩
  ·have hv:whyB b k t.length=0:=by
    rw [h0] at hw;unfold whyB
    revert hw
    repeat' split
    all_goals intro hw
    all_goals first | omega | rfl
   unfold offB;rw [hv,if_pos rfl];refine (iq_offer_yes hq ht hk.fok k hid c2 hb h0 (by rw [hi]; omega) htot).mono ?_;rintro e w' ⟨G2,rfl,hq2,hs2,ho2⟩;rw [← hm] at hq2;obtain ⟨F2,hb2,hs3⟩:=hy.ofInp (b':={ b with inp:=b.inp ++ t,tot:=b.tot+t.length }) hq2 hs2 ho2 (fun _ _=>rfl) rfl rfl rfl rfl rfl;exact ⟨F2,rfl,hb2,hs3,ho2.mono fun x _ hx=>hx.elim (fun h=>⟨_,h⟩) (fun h=>⟨_,h⟩)⟩
 ·have hv:whyE b.ended b.fl k=(whyB b k t.length:Nat)∧whyB b k t.length≠0:=by
   rw [hw] at h0 ⊢;unfold whyB
   revert h0
   repeat' split
   all_goals intro h0
   all_goals first | exact ⟨rfl,by decide⟩ | exact absurd rfl h0 | (exfalso; omega)
  unfold offB;rw [if_neg hv.2];refine (iq_offer_why hq ht hk.fok k hid A m c2 _ hv.1 (by have:=hv.2; omega)).mono ?_;rintro e w' ⟨rfl,n,rfl⟩;exact ⟨F,rfl,⟨y,rfl,hy.drewN n⟩,fun _ h=>.inl h,(Only.refl _ w).drewN n⟩
structure KeyJ (m:M) (F1 F:Fp) (g:Nat) (rs:List (Int×Int)) (w0 w:World) (b1:Br) (K:Option Addr) (kn:Nat) (ks:Bs) (R:Option Addr) (rn:Nat) (cs:List Bs):Prop where
 is:BrIs F1 g rs w b1
 own:∀ x,Own1 F1 x→Own1 F x∨w0.heap.size≤x
 only:Only (Own1 F) w0 w
 keys:Bytes w w.heap.size K kn ks
 cmds:Vals w w.heap.size R rn (strs cs)
 ak:0<kn→∀ x,In K x→¬ Own1 F1 x
 ar:0<rn→∀ x,In R x→¬ Own1 F1 x
 box:Bx w0.heap.size w #[.int .i64 m.k,.int .i64 m.a,.int .i64 m.b,.string (str m.t)]
 nb:¬ Own1 F1 w0.heap.size
theorem KeyJ.past {m:M} {F1 F:Fp} {g:Nat} {rs:List (Int×Int)} {w0 w w':World} {b1 b2:Br} {K:Option Addr} {kn:Nat} {ks:Bs} {R:Option Addr} {rn:Nat} {cs:List Bs} {v:Value} {e:Ending} (h:KeyJ m F1 F g rs w0 w b1 K kn ks R rn cs) (hg:BGives F1 g rs w b2 v e w') :
  ∃ F2,BrIs F2 g rs w' b2∧(∀ x,Own1 F2 x→Own1 F x∨w0.heap.size≤x)∧Only (Own1 F) w0 w'∧Vals w' w'.heap.size R rn (strs cs)∧(0<rn→∀ x,In R x→¬ Own1 F2 x):=by
 obtain ⟨F2,_,h1,h2,h3⟩:=hg;refine ⟨F2,h1,fun x hx=>?_,h.only.trans' h3 h.own,⟨h.cmds.1,h.cmds.2.1,fun hn=>?_⟩,fun hn x hx hF=>?_⟩
 ·rcases h2 x hx with h4 | h4
  ·exact h.own x h4
  ·exact .inr (Nat.le_trans h.only.size h4)
 ·obtain ⟨rb,off,e1,e2,e3⟩:=h.cmds.2.2 hn
  exact ⟨rb,off,e1,Nat.lt_of_lt_of_le e2 h3.size,fun i v hv=>h3.keepCell (p:=⟨rb,off+i,none⟩) (h.ar hn rb ⟨_,e1,rfl⟩) (e3 i v hv)⟩
 ·obtain ⟨rb,off,e1,e2,e3⟩:=h.cmds.2.2 hn
  rcases h2 x hF with h4 | h4
  ·exact h.ar hn x hx h4
  ·obtain ⟨p,hp,e⟩:=hx
   rw [e1] at hp
   injection hp with hp
   subst hp;have:rb=x:=e;omega
theorem own_then {Fa Fb F2:Fp} {wc W W':World} (h1:∀ x,Own1 Fa x→Own1 F2 x∨wc.heap.size≤x) (h2:Only (Own1 F2) wc W) (h3:∀ x,Own1 Fb x→Own1 Fa x∨W.heap.size≤x) (h4:Only (Own1 Fa) W W') :
  (∀ x,Own1 Fb x→Own1 F2 x∨wc.heap.size≤x)∧Only (Own1 F2) wc W':=
 ⟨fun x hx=>by
  rcases h3 x hx with h | h
  ·exact h1 x h
  ·exact .inr (Nat.le_trans h2.size h),h2.trans' h4 h1⟩
theorem reject_ok {a:Int} {v:Nat} (ha:Ms.okN a true=true) (hv:v≤5):(⟨8,a,v,[]⟩:M).ok=true:=by
 unfold M.ok;rw [Ms.rt_iff];refine ⟨rfl,ha,?_,Nat.zero_le _⟩
 have:v=0∨v=1∨v=2∨v=3∨v=4∨v=5:=by omega
 rcases this with rfl | rfl | rfl | rfl | rfl | rfl <;> rfl
theorem denied_ok {t:Bs} (h:t.length≤80):(⟨11,0,0,t⟩:M).ok=true:=by
 unfold M.ok;rw [Ms.rt_iff];exact ⟨rfl,rfl,rfl,h⟩
set_option maxHeartbeats 1000000 in
theorem bkeys_any {F:Fp} {g:Nat} {rs:List (Int×Int)} {w:World} {b:Br} {k gc:Nat} (h:BrIs F g rs w b) (hk:BOk b) (h1:1≤k) (h2:k≤16) (hgc:rrole rs k=(gc:Int)+1) (m:M) (hm:m.ok=true) (hm2:m.k=2) (htot:b.tot≤1000000000) :
  Calls Tryz.prog 90 #[.pointer (some (at0 g)),.pointer (some (at0 gc)),MV m] w fun e w'=>BGives F g rs w (keysB b k m) (.tuple #[]) e w':=by
 obtain ⟨y,rfl,hb0⟩:=h;obtain ⟨c,hc,hcn0⟩:=BrIs.cn hb0 h1 h2 hgc;rw [keysB_eq hc]
 have hml:m.t.length≤3000:=by
  have:=Ms.rt_n hm;have:=Ms.tx_le m.k;omega
 have hma:Ms.okN m.a true=true:=by
  have:=(Ms.rt_iff.1 hm).2.1;rw [hm2] at this;exact this
 have HMA:=lj hma;clear hma hm2
 have hO0:∀ o,Only Nay w (w.alloc o):=fun o=>(Only.refl Nay w).alloc o
 have hX0:=Bx.new w _ rfl #[.int .i64 m.k,.int .i64 m.a,.int .i64 m.b,.string (str m.t)] 38;have HO:=lj (hO0 (.cells #[.int .i64 m.k,.int .i64 m.a,.int .i64 m.b,.string (str m.t)] 38));have HX:=lj hX0;clear hX0 hO0
 go_enter Tryz.func90,Tryz.ntmps90
 go_upto_region 1 with fail
 generalize w.alloc (.cells #[.int .i64 m.k,.int .i64 m.a,.int .i64 m.b,.string (str m.t)] 38)=w0 at *;go_wp2;obtain ⟨cp,w1,hrun,hby,hbl,hcap,hsz⟩:=conv_tob w0.drew m.t
 have hgl:F (10 * k+2) (y.cy k).gl:=by
  obtain ⟨_,_,_,_,_,_,h4,_⟩:=hcn0.lx;exact (h4 _).2 (.inl rfl)
 have ho01:Only Nay w0 w1:=((Only.refl Nay w0).drew).trans (only_of_below hbl);have ho1:Only Nay w w1:=HO.out.trans ho01;have hb1:=hb0.quiet ho1;have hcn1:CnAt F k gc (y.cy k) b.cf.queue w1 c:=hcn0.keep ho1 (fun _ _ _ _ h=>h);have hws:w.heap.size≤w0.heap.size:=HO.out.size
 have HPush:Hid (Calls Tryz.prog 106 #[.pointer (some ⟨(y.cy k).gl,0,none⟩),.slice (some ⟨w0.drew.heap.size,0,none⟩) m.t.length cp] w1 fun e w3=>∃ F1 K kn kc R rn rc,e = .returned (.tuple #[.slice K kn kc,.slice R rn rc]) ∧
   KeyJ m F1 F g y.rs w w3 (setc b k (some { c with lx:=Lx.lrun c.lx m.t })) K kn (Lx.lkeys c.lx m.t) R rn (Lx.lcmds c.lx m.t)∧Only (F (10 * k+2)) w0 w3):=lj (by
  refine (xpush_all (F (10 * k+2)) (y.cy k).gl c.lx _ _ cp _ m.t w1 hcn1.lx hby hsz (fun _ x hx hF=>?_) (by omega)).mono ?_
  ·obtain ⟨p,hp,e⟩:=hx
   injection hp with hp
   subst hp;have:=hb0.fit.lt _ _ hF;have h9:w0.drew.heap.size=x:=e;have h8:w0.drew.heap.size=w0.heap.size:=rfl;omega
  ·rintro e w3 ⟨G2,K,kn,kc,R,rn,rc,rfl,hl3,hs3,ho3,hK,hR,aK,aR⟩
   have hb3:=hb1.cnLex h1 h2 hgc hcn1 hl3 hs3 ho3
   have hne:∀ x,w1.heap.size≤x∧¬ G2 x→¬ Own1 (upF F (10 * k+2) G2) x:=by
    rintro x ⟨h3,h4⟩ ⟨s,hs⟩;unfold upF at hs
    by_cases e:s=10 * k+2
    ·rw [if_pos e] at hs; exact h4 hs
    ·rw [if_neg e] at hs; have:=hb1.fit.lt _ _ hs; omega
   have hbox:¬ Own1 (upF F (10 * k+2) G2) w.heap.size:=by
    rintro ⟨s,hs⟩;unfold upF at hs
    by_cases e:s=10 * k+2
    ·rw [if_pos e] at hs
     rcases hs3 _ hs with h3 | h3
     ·have:=hb0.fit.lt _ _ h3; omega
     ·have h9:w0.drew.heap.size=w0.heap.size:=rfl
      omega
    ·rw [if_neg e] at hs; have:=hb0.fit.lt _ _ hs; omega
   refine ⟨_,K,kn,kc,R,rn,rc,rfl,⟨⟨y,rfl,hb3⟩,fun x hx=>(upF_own hs3 x hx).imp id fun h=>Nat.le_trans ho1.size h,(ho1.mono fun _ _ h=>h.elim).trans (ho3.mono fun x _ hx=>⟨_,hx⟩),hK,hR,fun h x hx=>hne x (aK h x hx),fun h x hx=>hne x (aR h x hx),(HX.out.keep ho01 (fun h=>h)).keep ho3 (fun e=>by have:=hb0.fit.lt _ _ e; omega),hbox⟩,(ho01.mono fun _ _ h=>h.elim).trans ho3⟩)
 have HS:=lj (show ∀ W,Only (F (10 * k+2)) w0 W→W.cell? ⟨gc,4,none⟩=some (.pointer (some (at0 (y.cy k).gl)))∧W.cell? ⟨w.heap.size,3,none⟩=some (.string (str m.t)) from fun W hW =>
  ⟨hW.keepCell (p:=⟨gc,4,none⟩) (fun e=>hb0.fit.ne hcn0.own (by omega) e) ((hcn0.keep HO.out (fun _ _ _ _ h=>h)).bx.cell 4 _ rfl),hW.keepCell (p:=⟨w.heap.size,3,none⟩) (fun e=>by have:=hb0.fit.lt _ _ (show F (10 * k+2) w.heap.size from e); omega) (HX.out.cell 3 _ rfl)⟩)
 have hn0:∀ {W},Only Nay w0 W→Only (F (10 * k+2)) w0 W:=fun h=>h.mono fun _ _ h=>h.elim
 have hd0:Only Nay w0 w0.drew:=(Only.refl Nay w0).drew;have HC:=lj (And.intro hc (And.intro hk (And.intro hgc (And.intro hm (And.intro hml htot)))));clear hby hbl hcap hsz hgl ho1 hb1 hcn1 hb0 hcn0 hc hk hgc hm hml htot hws
 have hmix:Tryz.prog.follows .mixedOrders=true:=by kernel_rfl
 refine wp_region_held (S:=fun W=>Only (F (10 * k+2)) w0 W) hmix ?_
 change wpAnyH _ _ _ _ _ _ _ _ (World.drew _)
 have hS0:Only (F (10 * k+2)) w0 w0.drew:=hn0 hd0;refine wpAnyH_take (i:=0) (v:=.pointer (some (at0 gc))) rfl (by kernel_rfl) (by kernel_rfl) (by kernel_rfl) (fun _ _ _ h=>h) (.inl ⟨by kernel_rfl,fun W hW=>?_⟩) hS0 ?_
 ·go_simp
 refine wpAnyH_take (i:=1) (v:=.pointer (some (at0 gc))) rfl (by kernel_rfl) (by kernel_rfl) (by kernel_rfl) (fun _ _ _ h=>h) (.inl ⟨by kernel_rfl,fun W hW=>?_⟩) hS0 ?_
 ·go_simp
 refine wpAnyH_take (i:=2) (v:=.pointer (some ⟨gc,4,none⟩)) rfl (by kernel_rfl) (by kernel_rfl) (by kernel_rfl) (fun _ _ _ h=>h) (.inl ⟨by kernel_rfl,fun W hW=>?_⟩) hS0 ?_
 ·go_simp
 refine wpAnyH_take (i:=3) (v:=.pointer (some (at0 (y.cy k).gl))) rfl (by kernel_rfl) (by kernel_rfl) (by kernel_rfl) (fun _ _ _ h=>h) (.inl ⟨by kernel_rfl,fun W hW=>?_⟩) hS0 ?_
 ·obtain ⟨e0,e1⟩:=HS.out W hW; go_simp
 refine wpAnyH_take (i:=4) (v:=.pointer (some ⟨w.heap.size,3,none⟩)) rfl (by kernel_rfl) (by kernel_rfl) (by kernel_rfl) (fun _ _ _ h=>h) (.inl ⟨by kernel_rfl,fun W hW=>?_⟩) hS0 ?_
 ·go_simp
 refine wpAnyH_take (i:=5) (v:=.string (str m.t)) rfl (by kernel_rfl) (by kernel_rfl) (by kernel_rfl) (fun _ _ _ h=>h) (.inl ⟨by kernel_rfl,fun W hW=>?_⟩) hS0 ?_
 ·obtain ⟨e0,e1⟩:=HS.out W hW; go_simp
 refine wpAnyH_all (rs:=[6]) (by kernel_rfl) (by simp) ?_;intro i hi;rw [List.mem_singleton.1 hi];clear hi;unfold wpOp
 go_simp
 refine .inl ?_;refine wpAnyH_all (rs:=[7]) (by kernel_rfl) (by simp) ?_;intro i hi;rw [List.mem_singleton.1 hi];clear hi;unfold wpOp
 go_simp
 refine .inl (HPush.out.mono ?_);rintro e w3 ⟨F1,K,kn,kc,R,rn,rc,rfl,hkj,ho3⟩;have HJ:=lj hkj;clear hkj hS0
 go_simp
 have hS0:=ho3;clear ho3;refine wpAnyH_take (i:=8) (v:=.tuple #[.slice K kn kc,.slice R rn rc]) rfl (by kernel_rfl) (by kernel_rfl) (by kernel_rfl) (fun _ _ _ h=>h) (.inl ⟨by kernel_rfl,fun W hW=>?_⟩) hS0 ?_
 ·go_simp
 refine wpAnyH_take (i:=9) (v:=.slice K kn kc) rfl (by kernel_rfl) (by kernel_rfl) (by kernel_rfl) (fun _ _ _ h=>h) (.inl ⟨by kernel_rfl,fun W hW=>?_⟩) hS0 ?_
 ·go_simp
 refine wpAnyH_take (i:=10) (v:=.slice R rn rc) rfl (by kernel_rfl) (by kernel_rfl) (by kernel_rfl) (fun _ _ _ h=>h) (.inl ⟨by kernel_rfl,fun W hW=>?_⟩) hS0 ?_
 ·go_simp
 refine wpAnyH_take (i:=11) (v:=.slice K kn kc) rfl (by kernel_rfl) (by kernel_rfl) (by kernel_rfl) (fun _ _ _ h=>h) (.inl ⟨by kernel_rfl,fun W hW=>?_⟩) hS0 ?_
 ·go_simp
 refine wpAnyH_take (i:=12) (v:=.slice R rn rc) rfl (by kernel_rfl) (by kernel_rfl) (by kernel_rfl) (fun _ _ _ h=>h) (.inl ⟨by kernel_rfl,fun W hW=>?_⟩) hS0 ?_
 ·go_simp
 refine wpAnyH_done (by kernel_rfl) ?_ _;have hk1:=HC.out.2.1.lexed HC.out.1 (Lx.lrun c.lx m.t);have hlen:=Nat.le_trans (Lx.lkeys_len c.lx m.t) HC.out.2.2.2.2.1;have hlc:=Nat.le_trans (Lx.lcmds_len c.lx m.t) HC.out.2.2.2.2.1;have hsh:=lcmds_short m.t c.lx;have htt:(setc b k (some { c with lx:=Lx.lrun c.lx m.t })).tot≤1000000000:=HC.out.2.2.2.2.2
 obtain ⟨b1,eb1⟩:∃ b1,setc b k (some { c with lx:=Lx.lrun c.lx m.t })=b1:=⟨_,rfl⟩
 obtain ⟨ks,eks⟩:∃ ks,Lx.lkeys c.lx m.t=ks:=⟨_,rfl⟩
 obtain ⟨cs,ecs⟩:∃ cs,Lx.lcmds c.lx m.t=cs:=⟨_,rfl⟩
 have HE:=lj (And.intro eb1 (And.intro eks ecs));rw [eb1] at hk1 htt;rw [eks] at hlen;rw [ecs] at hlc hsh;rw [eb1,eks,ecs] at HJ;clear eb1 eks ecs;have HK:=lj (And.intro hk1 (And.intro hlen (And.intro hlc (And.intro hsh htt))));clear hk1 hlen hlc hsh htt hrun HPush HS hn0 hd0 hS0 ho01;have hkn:ks.length=kn:=HJ.out.keys.1
 go_upto_if 24 with fail
 go_cut [8] (fun s8 wx=>∃ F2,BrIs F2 g y.rs wx (offered b1 k m.a ks)∧(∀ x,Own1 F2 x→Own1 F x∨w.heap.size≤x)∧Only (Own1 F) w wx∧Vals wx wx.heap.size R rn (strs cs)∧(0<rn→∀ x,In R x→¬ Own1 F2 x))
 case first =>
  by_cases h0:kn=0
  ·have hks:ks=[]:=by
    cases ks with
    | nil=>rfl
    | cons a l=>simp at hkn; omega
   have hof:offered b1 k m.a ks=b1:=by unfold offered; rw [if_pos hks]
   have d0:decide (0<(0:Nat))=false:=rfl;have d1:decide ((0:Nat) > 0)=false:=rfl;have HG:=lj (HJ.out.past (b2:=b1) (v:=.bool true) ⟨F1,rfl,HJ.out.is,fun _ h=>.inl h,Only.refl _ _⟩);clear hks hkn;subst h0;go_wp2
   go_meet
   rw [hof];exact HG.out
  ·have hks:ks≠[]:=fun e=>by rw [e] at hkn; exact h0 hkn.symm
   have d0:decide (0<kn)=true:=by simp; omega
   obtain ⟨v,hv⟩:∃ v,whyB b1 k ks.length=v:=⟨_,rfl⟩
   have hv5:v≤5:=by rw [← hv]; exact why_le _ _ _
   have hof:offered b1 k m.a ks=if v=0 then offB b1 k ks else send ⟨8,m.a,v,[]⟩ (offB b1 k ks) k:=by
    unfold offered offB;rw [if_neg hks,hv]
    by_cases e:v=0
    ·rw [if_pos e,if_pos e,if_pos e]
    ·rw [if_neg e,if_neg e,if_neg e]
   have hof':BOk (offB b1 k ks):=by
    have:=HK.out.1;unfold offB
    split
    ·exact ⟨this.log,this.data,this.queue,this.input,this.idle,this.strikes,this.fok,this.rin,this.len,this.told,this.code,fun k c hc=>by have:=this.cn k c hc; exact ⟨this.p,this.s,this.name,this.st⟩⟩
    ·exact this
   have HOf:=lj (boffer_any (HJ.out.is.drew) HK.out.1 h1 h2 kc (HJ.out.keys.only ((Only.refl Nay w3).drew) (Nat.le_refl _) (fun _ _ _ h=>h)) HK.out.2.2.2.2);rw [hv] at HOf
   have hcg:∀ (W:World) (F3:Fp) (b3:Br),BrIs F3 g y.rs W b3→W.cell? ⟨gc,0,none⟩=some (.int .i64 (k:Nat)):=by
    rintro W F3 b3 ⟨y3,e3,hb3⟩;obtain ⟨c3,_,hcn3⟩:=BrIs.cn hb3 h1 h2 (by rw [e3]; exact HC.out.2.2.1);exact hcn3.bx.cell 0 _ rfl
   have HCG:=lj hcg;have HO5:=lj (And.intro hof (And.intro hof' hv5))
   have hpos:0<kn:=by omega
   clear hof hof' hv5 hv hks hkn h0 hcg
   go_upto_region 3 with fail
   refine wp_region_held (S:=fun W=>W.cell? ⟨gc,0,none⟩=some (.int .i64 (k:Nat))) hmix ?_
   change wpAnyH _ _ _ _ _ _ _ _ (World.drew _)
   have hS0:w3.drew.cell? ⟨gc,0,none⟩=some (.int .i64 (k:Nat)):=HCG.out _ _ _ HJ.out.is.drew;refine wpAnyH_take (i:=0) (v:=.pointer (some (at0 g))) rfl (by kernel_rfl) (by kernel_rfl) (by kernel_rfl) (fun _ _ _ h=>h) (.inl ⟨by kernel_rfl,fun W hW=>?_⟩) hS0 ?_
   ·go_simp
   refine wpAnyH_take (i:=1) (v:=.pointer (some (at0 g))) rfl (by kernel_rfl) (by kernel_rfl) (by kernel_rfl) (fun _ _ _ h=>h) (.inl ⟨by kernel_rfl,fun W hW=>?_⟩) hS0 ?_
   ·go_simp
   refine wpAnyH_take (i:=2) (v:=.pointer (some ⟨g,18,none⟩)) rfl (by kernel_rfl) (by kernel_rfl) (by kernel_rfl) (fun _ _ _ h=>h) (.inl ⟨by kernel_rfl,fun W hW=>?_⟩) hS0 ?_
   ·go_simp
   refine wpAnyH_take (i:=3) (v:=.pointer (some (at0 g))) rfl (by kernel_rfl) (by kernel_rfl) (by kernel_rfl) (fun _ _ _ h=>h) (.inl ⟨by kernel_rfl,fun W hW=>?_⟩) hS0 ?_
   ·go_simp
   refine wpAnyH_take (i:=4) (v:=.pointer (some (at0 g))) rfl (by kernel_rfl) (by kernel_rfl) (by kernel_rfl) (fun _ _ _ h=>h) (.inl ⟨by kernel_rfl,fun W hW=>?_⟩) hS0 ?_
   ·go_simp
   refine wpAnyH_take (i:=5) (v:=.pointer (some ⟨g,13,none⟩)) rfl (by kernel_rfl) (by kernel_rfl) (by kernel_rfl) (fun _ _ _ h=>h) (.inl ⟨by kernel_rfl,fun W hW=>?_⟩) hS0 ?_
   ·go_simp
   refine wpAnyH_take (i:=6) (v:=.pointer (some (at0 gc))) rfl (by kernel_rfl) (by kernel_rfl) (by kernel_rfl) (fun _ _ _ h=>h) (.inl ⟨by kernel_rfl,fun W hW=>?_⟩) hS0 ?_
   ·go_simp
   refine wpAnyH_take (i:=7) (v:=.pointer (some (at0 gc))) rfl (by kernel_rfl) (by kernel_rfl) (by kernel_rfl) (fun _ _ _ h=>h) (.inl ⟨by kernel_rfl,fun W hW=>?_⟩) hS0 ?_
   ·go_simp
   refine wpAnyH_take (i:=8) (v:=.pointer (some (at0 gc))) rfl (by kernel_rfl) (by kernel_rfl) (by kernel_rfl) (fun _ _ _ h=>h) (.inl ⟨by kernel_rfl,fun W hW=>?_⟩) hS0 ?_
   ·go_simp
   refine wpAnyH_take (i:=9) (v:=.int .i64 (k:Nat)) rfl (by kernel_rfl) (by kernel_rfl) (by kernel_rfl) (fun _ _ _ h=>h) (.inl ⟨by kernel_rfl,fun W hW=>?_⟩) hS0 ?_
   ·go_simp
   refine wpAnyH_take (i:=10) (v:=.slice K kn kc) rfl (by kernel_rfl) (by kernel_rfl) (by kernel_rfl) (fun _ _ _ h=>h) (.inl ⟨by kernel_rfl,fun W hW=>?_⟩) hS0 ?_
   ·go_simp
   refine wpAnyH_all (rs:=[11]) (by kernel_rfl) (by simp) ?_;intro i hi;rw [List.mem_singleton.1 hi];clear hi;unfold wpOp
   go_simp
   refine .inl (HOf.out.mono ?_);rintro e w4 ⟨F4,rfl,hb4,hs4,ho4⟩;have hS1:=HCG.out _ _ _ hb4;have ho4:Only (Own1 F1) w3 w4:=((Only.refl _ w3).drew).trans ho4;have H4:=lj (And.intro hb4 (And.intro (show ∀ x,Own1 F4 x→Own1 F1 x∨w3.heap.size≤x from hs4) ho4));have hbx:=(HJ.out.box.keep ho4 HJ.out.nb).cell 1 (.int .i64 m.a) rfl;clear hb4 hs4 ho4 hS0
   go_simp
   have hS0:=hS1;refine wpAnyH_take (i:=12) (v:=.int .i64 (v:Nat)) rfl (by kernel_rfl) (by kernel_rfl) (by kernel_rfl) (fun _ _ _ h=>h) (.inl ⟨by kernel_rfl,fun W hW=>?_⟩) hS0 ?_
   ·go_simp
   refine wpAnyH_done (by kernel_rfl) ?_ _;clear hS0 hS1 HOf
   by_cases hv:v=0
   ·subst hv
    have HG:=lj (HJ.out.past (b2:=offB b1 k ks) (v:=.bool true) ⟨F4,rfl,H4.out⟩);have hof:=HO5.out.1;rw [if_pos rfl] at hof;go_wp2
    go_meet
    rw [hof];exact HG.out
   ·have hvd:((v:Int) == 0)=false:=by simpa using hv
    have hof:=HO5.out.1;rw [if_neg hv] at hof;have HOF:=lj hof;clear hof hv
    go_wp2_with fail
    refine (bsend_any ⟨8,m.a,v,[]⟩ H4.out.1 HO5.out.2.1.fok h1 h2 HC.out.2.2.1 (reject_ok HMA.out HO5.out.2.2)).mono ?_;rintro e w5 ⟨F5,rfl,hb5,hs5,ho5⟩
    have HG:=lj (HJ.out.past (b2:=send ⟨8,m.a,v,[]⟩ (offB b1 k ks) k) (v:=.bool true) ⟨F5,rfl,hb5,fun x hx=>by
     rcases hs5 x hx with h | h
     ·exact H4.out.2.1 x h
     ·exact .inr (Nat.le_trans H4.out.2.2.size h),H4.out.2.2.trans' ho5 H4.out.2.1⟩)
    clear hb5 hs5 ho5;go_wp2
    go_meet
    rw [HOF.out];exact HG.out
 case rest =>
  obtain ⟨F2,hb2,hs2,ho2,hv2,ha2⟩:=hcut;have hk2:=HK.out.1.offered k m.a ks
  obtain ⟨b2,eb2⟩:∃ b2,offered b1 k m.a ks=b2:=⟨_,rfl⟩
  have HE2:=lj eb2;rw [eb2] at hb2 hk2;clear eb2
  have hrn:cs.length=rn:=by have:=hv2.1; rw [strs_len] at this; exact this
  have HV:=lj (And.intro hb2 (And.intro hs2 (And.intro ho2 (And.intro hv2 ha2))));have HKK:=lj (And.intro hk2 hrn)
  have hrl:rn≤3000:=by rw [← hrn]; exact HK.out.2.2.1
  have HRL:=lj hrl;clear hb2 hs2 ho2 hv2 ha2 hk2 hrn hkn hrl HJ HX;go_wp2
  go_loopw [48] (fun p wr=>∃ j:Nat,p = .int .i64 (j:Nat)∧j≤rn∧∃ F3,BrIs F3 g y.rs wr (cmdsTo b2 k cs j)∧(∀ x,Own1 F3 x→Own1 F2 x∨wc.heap.size≤x)∧Only (Own1 F2) wc wr)
   (fun p _=>match p with | .int _ i=>((rn:Int) - i).toNat | _=>0)
  case atStart =>
   exact ⟨0,rfl,Nat.zero_le _,F2,HV.out.1,fun _ h=>.inl h,Only.refl _ _⟩
  case round =>
   obtain ⟨j,rfl,hj,F3,hb3,hs3,ho3⟩:=hrel;have HB3:=lj (And.intro hb3 (And.intro hs3 ho3))
   have hFin:∀ {W:World} {F4:Fp} {b4:Br},BrIs F4 g y.rs W b4→(∀ x,Own1 F4 x→Own1 F2 x∨wc.heap.size≤x)→Only (Own1 F2) wc W→BGives F g y.rs w b4 (.tuple #[]) (.returned (.tuple #[])) W:=fun hb hs ho =>
    ⟨_,rfl,hb,fun x hx=>by
     rcases hs x hx with h | h
     ·exact HV.out.2.1 x h
     ·exact .inr (Nat.le_trans HV.out.2.2.1.size h),HV.out.2.2.1.trans' ho HV.out.2.1⟩
   by_cases hjn:j=rn
   ·subst hjn
    have HG:=lj (hFin hb3 hs3 ho3)
    have he:cmdsTo b2 k cs j=cmds b2 k cs:=by rw [← HKK.out.2,cmdsTo_all]
    rw [he] at HG;clear hb3 hs3 ho3 hFin he hj;go_wp2;exact bodyPost_ret (v:=.tuple #[]) (by simp [results,Tryz.results90,go_sem]) rfl (by rw [HE.out.1,HE.out.2.1,HE.out.2.2,HE2.out]; exact HG.out)
   ·have hlt:j<rn:=by omega
    obtain ⟨rb,off,eR,hrb,hcell⟩:=HV.out.2.2.2.1.at (by omega);have hc3:_:=ho3.keepCell (p:=⟨rb,off+j,none⟩) (HV.out.2.2.2.2 (by omega) rb ⟨_,eR,rfl⟩) (hcell j hlt)
    obtain ⟨s,hs⟩:∃ s,cs.getD j []=s:=⟨_,rfl⟩
    rw [hs] at hc3
    have hsj:cs[j]?=some s:=by
     have:j<cs.length:=by rw [HKK.out.2]; exact hlt
     rw [List.getD_eq_getElem?_getD,List.getElem?_eq_getElem this] at hs;rw [List.getElem?_eq_getElem this,← hs];rfl
    have hs80:s.length≤80:=HK.out.2.2.2.1 s (List.mem_of_getElem? hsj);subst eR;have HCE:=lj (hcell j hlt);rw [hs] at HCE;have hk3:BOk (cmdsTo b2 k cs j):=BOk.cmds _ HKK.out.1;obtain ⟨y3,e3,hy3⟩:=id hb3;obtain ⟨c3,hcc,hcn3⟩:=BrIs.cn hy3 h1 h2 (by rw [e3]; exact HC.out.2.2.1);have hd1:=hcn3.bx.cell 1 (.int .i64 (c3.st:Nat)) rfl;clear hy3 hcn3 hcell
    by_cases hst:c3.st=1
    ·have hop:opn (cmdsTo b2 k cs j) k=true:=by unfold opn; rw [hcc]; simpa using hst
     have hd2:((c3.st:Int) == 1)=true:=by simp; omega
     have hk4:=hk3.doB k (parse s);have HD:=bdo_any hb3 hk3 h1 h2 HC.out.2.2.1 hop s (by omega);have hnx:=cmdsTo_next hsj hop;unfold stepC at hnx
     obtain ⟨b4,hb4e⟩:∃ b4,(doB (cmdsTo b2 k cs j) k (parse s)).1=b4:=⟨_,rfl⟩
     obtain ⟨r,hr⟩:∃ r,(doB (cmdsTo b2 k cs j) k (parse s)).2=r:=⟨_,rfl⟩
     rw [hr,hb4e] at HD hnx;rw [hb4e] at hk4;have HD:=lj HD;have HNX:=lj (And.intro hnx (And.intro hk4 hs80));clear hb3 hs3 ho3 hFin hop hst hcc hsj hs hs80 hk3 hk4 hnx hr hb4e
     rcases r with _ | _
     ·go_wp2_with fail
      refine HD.out.mono ?_;rintro e w4 ⟨F4,rfl,hb4,hs4,ho4⟩;have H4:=lj (own_then HB3.out.2.1 HB3.out.2.2 hs4 ho4);have HB4:=lj hb4;have hc4:_:=H4.out.2.keepCell (p:=⟨rb,off+j,none⟩) (HV.out.2.2.2.2 (by omega) rb ⟨_,rfl,rfl⟩) HCE.out;clear hb4 hs4 ho4 hd1 hc3
      go_wp2_with fail
      refine (bsend_any ⟨11,0,0,s⟩ HB4.out HNX.out.2.1.fok h1 h2 HC.out.2.2.1 (denied_ok HNX.out.2.2)).mono ?_;rintro e w5 ⟨F5,rfl,hb5,hs5,ho5⟩;have hk5:=HNX.out.2.1.send ⟨11,0,0,s⟩ k;have H5:=lj (own_then H4.out.1 H4.out.2 hs5 ho5);have HB5:=lj hb5;clear hb5 hs5 ho5 hc4
      go_wp2_with fail
      refine (bholder_any HB5.out hk5.fok hk5.rin).mono ?_;rintro e w6 ⟨F6,rfl,hb6,hs6,ho6⟩;have H6:=lj (own_then H5.out.1 H5.out.2 hs6 ho6);have HB6:=lj hb6;clear hb6 hs6 ho6 hk5;have hrl:=HRL.out
      have hj1:j+1≤3000:=by omega
      clear hrl;go_wp2;go_roundw
      case rel =>
       refine ⟨j+1,by go_num,by omega,F6,?_,H6.out.1,H6.out.2⟩;rw [HNX.out.1];exact HB6.out
      case measure=>simp; omega
     ·go_wp2_with fail
      refine HD.out.mono ?_;rintro e w4 ⟨F4,rfl,hb4,hs4,ho4⟩;have H4:=lj (own_then HB3.out.2.1 HB3.out.2.2 hs4 ho4);have HB4:=lj hb4;clear hb4 hs4 ho4 hd1 hc3
      go_wp2_with fail
      refine (bholder_any HB4.out HNX.out.2.1.fok HNX.out.2.1.rin).mono ?_;rintro e w6 ⟨F6,rfl,hb6,hs6,ho6⟩;have H6:=lj (own_then H4.out.1 H4.out.2 hs6 ho6);have HB6:=lj hb6;clear hb6 hs6 ho6;have hrl:=HRL.out
      have hj1:j+1≤3000:=by omega
      clear hrl;go_wp2;go_roundw
      case rel =>
       refine ⟨j+1,by go_num,by omega,F6,?_,H6.out.1,H6.out.2⟩;rw [HNX.out.1];exact HB6.out
      case measure=>simp; omega
    ·have hop:opn (cmdsTo b2 k cs j) k=false:=by unfold opn; rw [hcc]; simpa using hst
     have hd2:((c3.st:Int) == 1)=false:=by simp; omega
     have HG:=lj (hFin hb3 hs3 ho3);rw [← cmdsTo_stop hop] at HG;clear hb3 hs3 ho3 hFin hop hst hcc hsj hs hs80 hk3;go_wp2;exact bodyPost_ret (v:=.tuple #[]) (by simp [results,Tryz.results90,go_sem]) rfl (by rw [HE.out.1,HE.out.2.1,HE.out.2.2,HE2.out]; exact HG.out)
end
end Go.Proofs.YtdpagmcickkbmaaGreatDoor
