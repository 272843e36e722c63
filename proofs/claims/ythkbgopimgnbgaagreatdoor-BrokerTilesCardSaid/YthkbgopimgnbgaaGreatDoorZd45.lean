/- PLg PAm -/
import Derived.Test.YthkbgopimgnbgaaGreatDoorZd06
import Derived.Test.YthkbgopimgnbgaaGreatDoorZd07
import Derived.Test.YthkbgopimgnbgaaGreatDoorZd13
import Derived.Test.YthkbgopimgnbgaaGreatDoorZd30
import Derived.Test.YthkbgopimgnbgaaGreatDoorZd31
import Derived.Test.YthkbgopimgnbgaaGreatDoorZd44

section
namespace Go.Proofs.YthkbgopimgnbgaaGreatDoor
open Go.RowKit
open Fr Bk
theorem conf_ev {c : Cf} (h : CfOk c) : EvOk (bnew c) 0 0 0:=
  ⟨⟨h.log,h.data,h.queue,h.input,h.idle,h.strikes,(fok_new c.lease).mono (by decide),fun p hp=>(by cases hp),Nat.zero_le _,⟨Int.le_refl 0,(by decide : (0 : Int)≤16)⟩,Nat.zero_le _,fun k c hc=>(by cases hc)⟩,fun k c hc=>(by cases hc),Nat.zero_le _,Nat.zero_le _,Sp.Ok.start (by have:=h.width; omega) (by have:=h.width; omega)⟩
theorem rt_cf {a b c d e f g h : Int} (hr : rt a b c d e f g h = true) : ∃ cf : Cf,CfOk cf∧EvOk (bnew cf) 0 0 0∧a = (cf.log : Nat)∧b = (cf.data : Nat)∧c = (cf.queue : Nat)∧d = (cf.input : Nat)∧e = (cf.strikes : Nat)∧f = (cf.lease : Nat)∧g = (cf.idle : Nat)∧h = (cf.width : Nat):=by
  unfold rt bw at hr
  simp only [Bool.and_eq_true,decide_eq_true_eq] at hr
  have ho : CfOk ⟨a.toNat,b.toNat,c.toNat,d.toNat,e.toNat,f.toNat,g.toNat,h.toNat⟩:=⟨by dsimp only; omega,by dsimp only; omega,by dsimp only; omega,by dsimp only; omega,by dsimp only; omega,by dsimp only; omega,by dsimp only; omega,by dsimp only; omega⟩
  exact ⟨_,ho,conf_ev ho,by dsimp only; omega,by dsimp only; omega,by dsimp only; omega,by dsimp only; omega,by dsimp only; omega,by dsimp only; omega,by dsimp only; omega,by dsimp only; omega⟩
theorem R3.doEv {b : Br} (h : R3 b) (q : Nat) (id n : Int) (t : Bs) : R3 (doEv q b id n t):=by
  unfold Go.Proofs.YthkbgopimgnbgaaGreatDoor.doEv
  split
  · exact r3_all.connectB h id
  · exact r3_all.bytesB h id t
  · exact r3_all.writeB h id n
  · exact r3_all.outputB h t
  · exact r3_all.drainB h n
  · exact r3_all.tickB h
  · exact r3_all.cutB h id
  · exact r3_all.endB h n
theorem r3_new (cf : Cf) : R3 (bnew cf):=⟨List.Pairwise.nil,fun k hk=>(by cases hk),fun k c hc=>(by cases hc)⟩
theorem cf_core (cf : Cf) : KEv (fun b=>b.cf = cf) where
  gone:=fun b k c h _ _ _=>by unfold gone; split <;> exact h
  plus:=fun b k c m h _ _ _=>h
  told:=fun b h=>h
  served:=fun b k c m p s h _ _ _=>h
  reap:=fun b h=>h
  idle0:=fun b k c h _=>h
  fd:=fun b k c t h _=>h
  lx:=fun b k c t h _=>h
  join:=fun b k c t p r h _ _ _ _ _ _ _ _ _=>h
  fl:=fun b s h _=>h
  again:=fun b k c p h _ _=>h
  strikes:=fun b n h _=>h
  typed:=fun b ks h _ _=>h
  cut0:=fun b k c h _ _=>h
  new:=fun b k h _ _ _=>h
  idle1:=fun b k c h _=>h
  wrote:=fun b k c n h _=>h
  out:=fun b t h _=>h
  ended:=fun b n h _ _=>h
  drained:=fun b n h=>h
theorem cf_doEv {b : Br} {cf : Cf} (h : b.cf = cf) (q : Nat) (id n : Int) (t : Bs) : (doEv q b id n t).cf = cf:=by
  unfold doEv
  split
  · exact (cf_core cf).connectB h id
  · exact (cf_core cf).bytesB h id t
  · exact (cf_core cf).writeB h id n
  · exact (cf_core cf).outputB h t
  · exact (cf_core cf).drainB h n
  · exact (cf_core cf).tickB h
  · exact (cf_core cf).cutB h id
  · exact (cf_core cf).endB h n
theorem Ievs.more {w : World} {B B' n : Nat} {a : Option Addr} {K I R : Nat→Int} {A : Nat→Option Addr} {Ln Cp : Nat→Nat} {T : Nat→Bs} (h : Ievs w B a n K I R A Ln Cp T) (hB : B≤B') : Ievs w B' a n K I R A Ln Cp T:=
  ⟨fun hn=>by
    obtain ⟨b,off,e,hlt,hc⟩:=h.outer hn
    exact ⟨b,off,e,Nat.lt_of_lt_of_le hlt hB,hc⟩,fun r hr=>⟨(h.inner r hr).1,(h.inner r hr).2.1.more hB,(h.inner r hr).2.2⟩⟩
structure AtEv (cf : Cf) (Ln : Nat→Nat) (k : Nat) (b : Br) : Prop where
  ev : EvOk b k (k * 2052 + sumL Ln k) (sumL Ln k)
  r3 : R3 b
  cf : b.cf = cf
theorem AtEv.next {cf : Cf} {Ln : Nat→Nat} {k : Nat} {b : Br} (h : AtEv cf Ln k b) (q : Nat) (id n : Int) {t : Bs} (ht : t.length = Ln k) (hs : sumL Ln (k + 1)≤6000) : AtEv cf Ln (k + 1) (doEv q b id n t):=by
  have hs1 : sumL Ln (k + 1) = sumL Ln k + Ln k:=rfl
  have he:=EvOk.doEv h.ev q id n t (by omega)
  rw [ht] at he
  exact ⟨⟨he.ok,he.cn,Nat.le_trans he.tot (by omega),Nat.le_trans he.len (by omega),he.sp⟩,R3.doEv h.r3 q id n t,cf_doEv h.cf q id n t⟩
theorem AtEv.begin {cf : Cf} {Ln : Nat→Nat} (h : EvOk (bnew cf) 0 0 0) : AtEv cf Ln 0 (bnew cf):=⟨h,r3_new cf,rfl⟩
end Go.Proofs.YthkbgopimgnbgaaGreatDoor
end

section
namespace Go.Proofs.YthkbgopimgnbgaaGreatDoor
open Go.RowKit
open Fr Bk
structure MJ (cf : Cf) (Ln : Nat→Nat) (k : Nat) (b : Br) (L : Bs) (hist : Nat→Bs) (P : Nat→Option (Fs×Lx.Lx)) : Prop where
  at_ : AtEv cf Ln k b
  tj : Bk.TJ cf.strikes b hist P
  ls : LIs L b
  len : L.length≤sumL Ln k
  hl : ∀ i,(hist i).length≤65536 * k
  pl : ∀ i p,P i = some p→p.1.l.length≤2052
  h0 : hist 0 = []
theorem in_there {b : Br} {id : Int} (h : isThere b id = true) : 1≤id∧id≤16∧∃ c,b.cs id.toNat = some c:=by
  unfold isThere at h
  simp only [Bool.and_eq_true,decide_eq_true_eq] at h
  obtain ⟨⟨h1,h2⟩,h3⟩:=h
  rcases hc : b.cs id.toNat with _ | c
  · rw [hc] at h3; cases h3
  · exact ⟨h1,h2,c,rfl⟩
theorem bytes_in {b : Br} {id : Int} (h : bytesE b id = 0) : 1≤id∧id≤16∧∃ c,b.cs id.toNat = some c:=by
  unfold bytesE at h
  split at h
  · next hi=>exact in_there hi
  · cases h
theorem write_in {b : Br} {id : Int} (h : writeE b id = 0) : 1≤id∧id≤16∧∃ c,b.cs id.toNat = some c:=by
  unfold writeE at h
  split at h
  · next hi=>exact in_there hi
  · cases h
theorem connect_in {b : Br} {id : Int} (h : connectE b id = 0) : 1≤id∧id≤16:=by
  unfold connectE at h
  split at h
  · cases h
  · omega
section
variable {cf : Cf} {Ln : Nat→Nat} {k : Nat} {b : Br} {L : Bs} {hist : Nat→Bs} {P : Nat→Option (Fs×Lx.Lx)}
theorem MJ.begin (_hc : CfOk cf) (h : EvOk (bnew cf) 0 0 0) : MJ cf Ln 0 (bnew cf) [] (fun _=>[]) (fun _=>none):=
  ⟨AtEv.begin h,Bk.TJ.begin cf h.ok,⟨h.ok,rfl⟩,Nat.zero_le _,fun _=>Nat.zero_le _,fun _ _ hp=>(by cases hp),rfl⟩
theorem MJ.tiok (h : MJ cf Ln k b L hist P) {i : Nat} (h2 : i≤16) : TiOk L cf.strikes ts0 (hist i):=by
  by_cases h1 : 1≤i
  rotate_left
  · obtain rfl : i = 0:=by omega
    rw [h.h0]
    exact ⟨[],ts0,[],rfl,fun m hm=>(by cases hm),rfl⟩
  obtain ⟨_,_,ms,r,tail,e1,e2,e3,_⟩:=h.tj.at_ i h1 h2
  rw [h.ls.2] at e3
  exact ⟨ms,r,tail,e1,e2,e3⟩
theorem MJ.up (h : MJ cf Ln k b L hist P) (q : Nat) (id n : Int) {t : Bs} (ht : t.length = Ln k) (hs : sumL Ln (k + 1)≤6000) {L2 : Bs} {hist2 : Nat→Bs} {P2 : Nat→Option (Fs×Lx.Lx)}
    (h2 : Bk.TJ cf.strikes (doEv q b id n t) hist2 P2) (h3 : LIs L2 (doEv q b id n t)) (h4 : L2 = L∨L2 = L ++ t) (h5 : ∀ i,(hist2 i).length≤(hist i).length + 65536) (h6 : ∀ i p,P2 i = some p→p.1.l.length≤2052) (h7 : hist2 0 = []) : MJ cf Ln (k + 1) (doEv q b id n t) L2 hist2 P2:=by
  refine ⟨h.at_.next q id n ht hs,h2,h3,?_,fun i=>?_,h6,h7⟩
  · have hl:=h.len
    have hs1 : sumL Ln (k + 1) = sumL Ln k + Ln k:=rfl
    rcases h4 with rfl | rfl
    · omega
    · rw [List.length_append]; omega
  · have:=h5 i; have:=h.hl i; omega
theorem MJ.conn (h : MJ cf Ln k b L hist P) (id n : Int) {t : Bs} (ht : t.length = Ln k) (hs : sumL Ln (k + 1)≤6000) (he : connectE b id = 0) :
    MJ cf Ln (k + 1) (doEv 0 b id n t) L (fun i=>if (i : Int) = id then [] else hist i) (fun i=>if (i : Int) = id then some (⟨[],0⟩,Lx.lx0) else P i):=by
  refine h.up 0 id n ht hs (h.tj.conn id he) (h.ls.connect id) (.inl rfl) (fun i=>?_) (fun i p hp=>?_) (by first | (split; rfl; exact h.h0) | (show (if _ then _ else _) = _; split; rfl; exact h.h0))
  · try dsimp only
    split
    · exact Nat.zero_le _
    · omega
  · try dsimp only at hp
    split at hp
    · injection hp with hp
      subst hp
      exact Nat.zero_le _
    · exact h.pl i p hp
theorem MJ.heard (h : MJ cf Ln k b L hist P) {id : Int} (he : bytesE b id = 0) : ∃ F X,P id.toNat = some (F,X):=by
  obtain ⟨h1,h2,c,hc⟩:=bytes_in he
  rcases hp : P id.toNat with _ | ⟨F,X⟩
  · have:=(h.tj.noc id.toNat (by omega) (by omega) hp).2
    rw [hc] at this
    cases this
  · exact ⟨F,X,rfl⟩
theorem MJ.said (h : MJ cf Ln k b L hist P) {id : Int} (n : Int) {t : Bs} (ht : t.length = Ln k) (hs : sumL Ln (k + 1)≤6000) (he : bytesE b id = 0) {F : Fs} {X : Lx.Lx} (hP : P id.toNat = some (F,X)) (hT : ∀ s∈earLines X (fgot F t),Tame s) :
    MJ cf Ln (k + 1) (doEv 1 b id n t) L hist (fun i=>if (i : Int) = id then some (fpush F t,earLx X (fgot F t)) else P i):=by
  obtain ⟨h1,h2,_⟩:=bytes_in he
  obtain ⟨j,rfl⟩ : ∃ j : Nat,id = (j : Nat):=⟨id.toNat,by omega⟩
  rw [show ((j : Int)).toNat = j by omega] at hP
  have hE:=h.tj.ear j _ (by omega) (by omega) hP
  have htj:=h.tj.said j he (by omega) (by omega) t hP hT
  have hls:=((lis_say j L).bytes h.ls (by omega) (by omega) hE he t hT).1
  refine h.up 1 _ n ht hs ?_ hls (.inl rfl) (fun i=>by omega) (fun i p hp=>?_) h.h0
  · have e : (fun i : Nat=>if (i : Int) = (j : Int) then some (fpush F t,earLx X (fgot F t)) else P i) = fun i=>if i = j then some (fpush F t,earLx X (fgot F t)) else P i:=by
      funext i
      by_cases e : i = j
      · rw [if_pos e,if_pos (by omega)]
      · rw [if_neg e,if_neg (by omega)]
    rw [e]
    exact htj
  · try dsimp only at hp
    split at hp
    · injection hp with hp
      subst hp
      exact fpush_len (h.pl j _ hP) t
    · exact h.pl i p hp
theorem MJ.wlen (h : MJ cf Ln k b L hist P) (hc : CfOk cf) (id n : Int) : (writeT b id n).length≤65536:=by
  unfold writeT
  split
  · rcases hcs : b.cs id.toNat with _ | c
    · exact Nat.zero_le _
    · have:=h.at_.r3.out _ c hcs
      rw [h.at_.cf] at this
      have:=hc.queue
      show (c.out.take _).length≤_
      rw [List.length_take]
      omega
  · exact Nat.zero_le _
theorem MJ.wrote (h : MJ cf Ln k b L hist P) (hc : CfOk cf) {id : Int} (hid : 1≤id) (n : Int) {t : Bs} (ht : t.length = Ln k) (hs : sumL Ln (k + 1)≤6000) :
    MJ cf Ln (k + 1) (doEv 2 b id n t) L (fun i=>if (i : Int) = id then hist i ++ writeT b id n else hist i) P:=by
  refine h.up 2 id n ht hs (h.tj.wrote id n) (h.ls.write id n) (.inl rfl) (fun i=>?_) h.pl (by rw [if_neg (by omega)]; exact h.h0)
  have:=h.wlen hc id n
  try dsimp only
  split
  · rw [List.length_append]; omega
  · omega
theorem MJ.out (h : MJ cf Ln k b L hist P) (id n : Int) {t : Bs} (ht : t.length = Ln k) (hs : sumL Ln (k + 1)≤6000) (he : outputE b = 0) :
    MJ cf Ln (k + 1) (doEv 3 b id n t) (L ++ t) hist P:=by
  have hs1 : sumL Ln (k + 1) = sumL Ln k + Ln k:=rfl
  have hL : b.L.length + t.length≤1099511627776:=by have:=h.len; rw [h.ls.2]; omega
  have hend : b.ended = false:=by
    unfold outputE at he
    split at he
    · cases he
    · next hx=>simpa using hx
  have htj:=h.tj.output t hL
  refine h.up 3 id n ht hs htj ⟨(htj.at_ 1 (by decide) (by decide)).1,?_⟩ (.inr rfl) (fun i=>by omega) h.pl h.h0
  have h9:=(lis_msg (L ++ t)).output (b:={ b with L:=b.L ++ t,sp:=Sp.nxts b.sp t })
  show (outputB b t).L = _
  unfold outputB
  rw [if_neg (by rw [hend]; decide)]
  refine ((lis_msg (L ++ t)).settle ?_).2
  have h8:=h.ls.1
  exact ⟨⟨h8.log,h8.data,h8.queue,h8.input,h8.idle,h8.strikes,h8.fok,h8.rin,by show (b.L ++ t).length≤_; rw [List.length_append]; exact hL,h8.told,h8.code,fun j d hd=>by
    have:=h8.cn j d hd
    exact ⟨Nat.le_trans this.p (by show b.L.length≤(b.L ++ t).length; rw [List.length_append]; omega),this.s,this.name,this.st⟩⟩,by rw [← h.ls.2]⟩
theorem MJ.rest (h : MJ cf Ln k b L hist P) {q : Nat} (hq : q≤7) (id n : Int) {t : Bs} (ht : t.length = Ln k) (hs : sumL Ln (k + 1)≤6000) (h0 : q≤3→doEx q b id n≠0) : MJ cf Ln (k + 1) (doEv q b id n t) L hist P:=by
  have key : doEv q b id n t = b∨(q = 4∨q = 5∨q = 6∨q = 7):=by
    rcases (by omega : q = 0∨q = 1∨q = 2∨q = 3∨q = 4∨q = 5∨q = 6∨q = 7) with rfl | rfl | rfl | rfl | e | e | e | e
    · left
      show connectB b id = b
      unfold connectB
      rw [if_neg (show connectE b id≠0 from h0 (by decide))]
    · left
      show bytesB b id t = b
      unfold bytesB
      rw [if_neg (show bytesE b id≠0 from h0 (by decide))]
    · left
      show writeB b id n = b
      have h1 : writeE b id≠0:=h0 (by decide)
      unfold writeE at h1
      unfold writeB
      by_cases e : isThere b id = true
      · rw [if_pos e] at h1; exact absurd rfl h1
      · rw [if_neg e]
    · left
      show outputB b t = b
      have h1 : outputE b≠0:=h0 (by decide)
      unfold outputE at h1
      unfold outputB
      by_cases e : b.ended = true
      · rw [if_pos e]
      · rw [if_neg e] at h1; exact absurd rfl h1
    · exact .inr (.inl e)
    · exact .inr (.inr (.inl e))
    · exact .inr (.inr (.inr (.inl e)))
    · exact .inr (.inr (.inr (.inr e)))
  rcases key with e | e
  · exact h.up q id n ht hs (by rw [e]; exact h.tj) (by rw [e]; exact h.ls) (.inl rfl) (fun i=>by omega) h.pl h.h0
  · refine h.up q id n ht hs ?_ ?_ (.inl rfl) (fun i=>by omega) h.pl h.h0
    · rcases e with rfl | rfl | rfl | rfl
      · exact h.tj.drain n
      · exact h.tj.tick
      · exact h.tj.cut id
      · exact h.tj.ends n
    · rcases e with rfl | rfl | rfl | rfl
      · exact h.ls.drain n
      · exact h.ls.tick
      · exact h.ls.cut id
      · exact h.ls.ends n
end
def fam (f : Nat→Value) : Array Value:=((List.range 17).map f).toArray
theorem fam_get (f : Nat→Value) {i : Nat} (h : i≤16) : (fam f)[i]? = some (f i):=by
  unfold fam
  rw [List.getElem?_toArray,List.getElem?_map,List.getElem?_range (by omega)]
  rfl
theorem fam_set (f : Nat→Value) {i : Nat} (v : Value) : (fam f).setIfInBounds i v = fam fun j=>if j = i then v else f j:=by
  apply Array.ext_getElem?
  intro j
  rw [Array.getElem?_setIfInBounds]
  have hs : (fam f).size = 17:=by unfold fam; simp
  by_cases hj : j≤16
  · rw [fam_get f hj,fam_get _ hj]
    by_cases e : i = j
    · subst e; rw [if_pos rfl,if_pos (by omega)]; simp
    · rw [if_neg e]
      have : ¬ j = i:=fun x=>e x.symm
      simp [this]
  · have h1 : (fam f)[j]? = none:=by rw [Array.getElem?_eq_none_iff]; omega
    have h2 : (fam fun j=>if j = i then v else f j)[j]? = none:=by rw [Array.getElem?_eq_none_iff]; unfold fam; simp; omega
    rw [h1,h2]
    by_cases e : i = j
    · rw [if_pos e,if_neg (by omega)]
    · rw [if_neg e]
def wv (hist : Nat→Bs) (i : Nat) : Value:=.string (str (hist i))
def hv (P : Nat→Option (Fs×Lx.Lx)) (x : Nat→Nat) (i : Nat) : Value:=.pointer (match P i with | some _=>some (at0 (x i)) | none=>none)
structure EJ (n1 nw : Nat) (w : World) (hist : Nat→Bs) (P : Nat→Option (Fs×Lx.Lx)) (H : Nat→Nat→Prop) (x : Nat→Nat) : Prop where
  wr : Bx nw w (fam (wv hist))
  hd : Bx (nw + 1) w (fam (hv P x))
  ear : ∀ i F X,i≤16→P i = some (F,X)→EarIs (H i) (x i) w F X
  out : ∀ i y,H i y→i≤16∧P i≠none
  apart : ∀ i j y,i≠j→H i y→¬ H j y
  low : ∀ i y,H i y→nw + 1 < y
  n1 : n1≤nw
def EJs (nw : Nat) (H : Nat→Nat→Prop) (y : Nat) : Prop:=y = nw∨y = nw + 1∨∃ i,H i y
section
variable {n1 nw : Nat} {w w' : World} {hist : Nat→Bs} {P : Nat→Option (Fs×Lx.Lx)} {H : Nat→Nat→Prop} {x : Nat→Nat}
theorem EJ.lt (h : EJ n1 nw w hist P H x) : ∀ y,EJs nw H y→y < w.heap.size:=by
  rintro y (rfl | rfl | ⟨i,hy⟩)
  · exact h.wr.room
  · exact h.hd.room
  · obtain ⟨h1,h2⟩:=h.out i y hy
    rcases hp : P i with _ | ⟨F,X⟩
    · exact absurd hp h2
    · exact (h.ear i F X h1 hp).lt y hy
theorem EJ.low' (h : EJ n1 nw w hist P H x) : ∀ y,EJs nw H y→nw≤y:=by
  rintro y (rfl | rfl | ⟨i,hy⟩)
  · exact Nat.le_refl _
  · omega
  · have:=h.low i y hy; omega
theorem EJ.keep {S : Nat→Prop} (h : EJ n1 nw w hist P H x) (ho : Only S w w') (hs : ∀ y,EJs nw H y→¬ S y) : EJ n1 nw w' hist P H x:=
  ⟨h.wr.keep ho (hs _ (.inl rfl)),h.hd.keep ho (hs _ (.inr (.inl rfl))),fun i F X hi hp=>(h.ear i F X hi hp).keep ho (fun y hy=>hs y (.inr (.inr ⟨i,hy⟩))),h.out,h.apart,h.low,h.n1⟩
theorem EJ.go (h : EJ n1 nw w hist P H x) {B : Nat} (hb : Below B w w') (hB : w.heap.size≤B) : EJ n1 nw w' hist P H x:=
  h.keep (S:=fun _=>False) (only_of_below (hb.mono hB)) fun _ _ h=>h
theorem EJ.wcell (h : EJ n1 nw w hist P H x) {i : Nat} (hi : i≤16) : w.cell? ⟨nw,i,none⟩ = some (.string (str (hist i))):=h.wr.cell i _ (fam_get _ hi)
theorem EJ.hcell (h : EJ n1 nw w hist P H x) {i : Nat} (hi : i≤16) {p : Fs×Lx.Lx} (hp : P i = some p) : w.cell? ⟨nw + 1,i,none⟩ = some (.pointer (some (at0 (x i)))):=by
  rw [h.hd.cell i _ (fam_get _ hi)]
  unfold hv
  rw [hp]
theorem EJ.setw (h : EJ n1 nw w hist P H x) (i : Nat) (t : Bs) : EJ n1 nw (w.setCell ⟨nw,i,none⟩ (.string (str t))) (fun j=>if j = i then t else hist j) P H x:=by
  have ho : Only (fun y=>y = nw) w (w.setCell ⟨nw,i,none⟩ (.string (str t))):=Bx.only nw w i _
  refine ⟨?_,h.hd.keep ho (by omega),fun j F X hj hp=>(h.ear j F X hj hp).keep ho fun y hy e=>?_,h.out,h.apart,h.low,h.n1⟩
  · have:=h.wr.set i (.string (str t))
    rw [fam_set] at this
    have e : (fun j=>if j = i then Value.string (str t) else wv hist j) = wv fun j=>if j = i then t else hist j:=by
      funext j
      show (if j = i then Value.string (str t) else Value.string (str (hist j))) = Value.string (str (if j = i then t else hist j))
      by_cases e : j = i
      · rw [if_pos e,if_pos e]
      · rw [if_neg e,if_neg e]
    rw [e] at this
    exact this
  · have:=h.low j y hy; omega
theorem EJ.seth (h : EJ n1 nw w hist P H x) {i z : Nat} (hi : i≤16) {Hz : Nat→Prop} {F : Fs} {X : Lx.Lx} (hz : EarIs Hz z w F X) (hlow : ∀ y,Hz y→nw + 1 < y) (hap : ∀ j y,j≠i→H j y→¬ Hz y) :
    EJ n1 nw (w.setCell ⟨nw + 1,i,none⟩ (.pointer (some (at0 z)))) hist (fun j=>if j = i then some (F,X) else P j) (fun j=>if j = i then Hz else H j) (fun j=>if j = i then z else x j):=by
  have ho : Only (fun y=>y = nw + 1) w (w.setCell ⟨nw + 1,i,none⟩ (.pointer (some (at0 z)))):=Bx.only (nw + 1) w i _
  refine ⟨h.wr.keep ho (by omega),?_,fun j F' X' hj hp=>?_,fun j y hy=>?_,fun j l y hjl hy hl=>?_,fun j y hy=>?_,h.n1⟩
  · have:=h.hd.set i (.pointer (some (at0 z)))
    rw [fam_set] at this
    have e : (fun j=>if j = i then Value.pointer (some (at0 z)) else hv P x j) = hv (fun j=>if j = i then some (F,X) else P j) fun j=>if j = i then z else x j:=by
      funext j
      unfold hv
      by_cases e : j = i
      · simp only [if_pos e]
      · simp only [if_neg e]
    rw [e] at this
    exact this
  · try dsimp only at hp ⊢
    by_cases e : j = i
    · rw [if_pos e] at hp
      injection hp with hp
      injection hp with h1 h2
      subst h1 h2
      rw [if_pos e,if_pos e]
      exact hz.keep ho fun y hy e2=>by have:=hlow y hy; omega
    · rw [if_neg e] at hp
      rw [if_neg e,if_neg e]
      exact (h.ear j F' X' hj hp).keep ho fun y hy e2=>by have:=h.low j y hy; omega
  · try dsimp only at hy ⊢
    by_cases e : j = i
    · rw [if_pos e]
      exact ⟨by omega,fun h=>by cases h⟩
    · rw [if_neg e] at hy ⊢
      exact h.out j y hy
  · try dsimp only at hy hl
    by_cases e : j = i
    · rw [if_pos e] at hy
      rw [if_neg (by omega)] at hl
      exact hap l y (by omega) hl hy
    · rw [if_neg e] at hy
      by_cases e2 : l = i
      · rw [if_pos e2] at hl
        exact hap j y e hy hl
      · rw [if_neg e2] at hl
        exact h.apart j l y hjl hy hl
  · try dsimp only at hy
    by_cases e : j = i
    · rw [if_pos e] at hy
      exact hlow y hy
    · rw [if_neg e] at hy
      exact h.low j y hy
theorem EJ.ears (h : EJ n1 nw w hist P H x) {i : Nat} (hi : i≤16) {H2 : Nat→Prop} {F : Fs} {X : Lx.Lx} (hP : P i≠none) (ho : Only (H i) w w') (he : EarIs H2 (x i) w' F X) (h2 : ∀ y,H2 y→H i y∨w.heap.size≤y) :
    EJ n1 nw w' hist (fun j=>if j = i then some (F,X) else P j) (fun j=>if j = i then H2 else H j) x:=by
  have hw:=h.hd.room
  refine ⟨h.wr.keep ho (fun hy=>by have:=h.low i _ hy; omega),?_,fun j F' X' hj hp=>?_,fun j y hy=>?_,fun j l y hjl hy hl=>?_,fun j y hy=>?_,h.n1⟩
  · have:=h.hd.keep ho (fun hy=>by have:=h.low i _ hy; omega)
    have e : hv P x = hv (fun j=>if j = i then some (F,X) else P j) x:=by
      funext j
      show hv P x j = Value.pointer (match (if j = i then some (F,X) else P j) with | some _=>some (at0 (x j)) | none=>none)
      unfold hv
      by_cases e : j = i
      · rw [if_pos e]
        subst e
        rcases hp : P j with _ | p
        · exact absurd hp hP
        · rfl
      · rw [if_neg e]
    rw [← e]
    exact this
  · try dsimp only at hp ⊢
    by_cases e : j = i
    · rw [if_pos e] at hp
      injection hp with hp
      injection hp with h1 h3
      subst h1 h3
      rw [if_pos e,e]
      exact he
    · rw [if_neg e] at hp
      rw [if_neg e]
      exact (h.ear j F' X' hj hp).keep ho fun y hy hy2=>h.apart j i y e hy hy2
  · try dsimp only at hy ⊢
    by_cases e : j = i
    · rw [if_pos e]
      exact ⟨by omega,fun h=>by cases h⟩
    · rw [if_neg e] at hy ⊢
      exact h.out j y hy
  · have hlt : ∀ j y,H j y→y < w.heap.size:=fun j y hy=>h.lt y (.inr (.inr ⟨j,hy⟩))
    try dsimp only at hy hl
    by_cases e : j = i
    · rw [if_pos e] at hy
      rw [if_neg (by omega)] at hl
      rcases h2 y hy with h3 | h3
      · exact h.apart i l y (by omega) h3 hl
      · have:=hlt l y hl; omega
    · rw [if_neg e] at hy
      by_cases e2 : l = i
      · rw [if_pos e2] at hl
        rcases h2 y hl with h3 | h3
        · exact h.apart j i y e hy h3
        · have:=hlt j y hy; omega
      · rw [if_neg e2] at hl
        exact h.apart j l y hjl hy hl
  · try dsimp only at hy
    by_cases e : j = i
    · rw [if_pos e] at hy
      rcases h2 y hy with h3 | h3
      · exact h.low i y h3
      · omega
    · rw [if_neg e] at hy
      exact h.low j y hy
end
theorem ear_new {w w1 w2 : World} {gl : Nat} {F : Nat→Prop} (h1 : Fed w.heap.size w1 w.heap.size none 0 0 [] 0) (h2 : LexIs F gl w2 Lx.lx0) (hF : ∀ b,F b→w1.heap.size≤b) (hb2 : Below w1.heap.size w1 w2) (t : TypeId) :
    ∃ Hz,EarIs Hz w2.heap.size (w2.alloc (.cells #[.pointer (some (at0 w.heap.size)),.pointer (some (at0 gl))] t)) ⟨[],0⟩ Lx.lx0∧∀ y,Hz y→w.heap.size≤y:=by
  have hg1 : w.heap.size < w1.heap.size:=feed_lt h1.head
  have hs2:=hb2.size
  have hba : Only (fun _=>False) w2 (w2.alloc (.cells #[.pointer (some (at0 w.heap.size)),.pointer (some (at0 gl))] t)):=(Only.refl _ w2).alloc _
  have hfd : EfIs (fun y=>y = w.heap.size) w.heap.size (w2.alloc (.cells #[.pointer (some (at0 w.heap.size)),.pointer (some (at0 gl))] t)) ⟨[],0⟩:=by
    refine ⟨none,0,0,?_,fun b=>⟨.inl,fun h=>?_⟩⟩
    · have h3 : Fed 0 w1 w.heap.size none 0 0 [] 0:=⟨h1.head,Nat.zero_le _,Mid.nil _ _,h1.apart⟩
      exact (h3.only (only_of_below hb2) (fun h=>h) (fun p hp=>(by cases hp))).only hba (fun h=>h) (fun p hp=>(by cases hp))
    · rcases h with h | ⟨p,hp,_⟩
      · exact h
      · cases hp
  refine ⟨fun y=>y = w2.heap.size∨y = w.heap.size∨F y,⟨fun y=>y = w.heap.size,w.heap.size,F,gl,⟨Bx.new w2 _ rfl _ t,hfd,h2.keep hba (fun _ _ h=>h),?_,?_,?_⟩,fun b=>Iff.rfl⟩,?_⟩
  · show ¬ w2.heap.size = w.heap.size
    omega
  · intro hy
    have:=h2.lt _ hy
    omega
  · rintro b rfl hb
    have:=hF _ hb
    omega
  · rintro y (rfl | rfl | hy)
    · omega
    · exact Nat.le_refl _
    · have:=hF y hy; omega
end Go.Proofs.YthkbgopimgnbgaaGreatDoor
end
