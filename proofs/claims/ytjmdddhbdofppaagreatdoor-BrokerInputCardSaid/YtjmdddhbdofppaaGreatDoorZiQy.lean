/- The broker's mathematics: what is left behind each event (BrokerInput): all is sent that there is room for; what is typed is taken or rejected, once. No program is named here. -/
import Derived.Test.YtjmdddhbdofppaaGreatDoorZi07
import Derived.Test.YtjmdddhbdofppaaGreatDoorZiQa
import Derived.Test.YtjmdddhbdofppaaGreatDoorZiQu
namespace Go.Proofs.YtjmdddhbdofppaaGreatDoor.Bk
open Fr Lx
def NoneAt (k : Nat) (b : Br) : Prop:=∀ c,b.cs k = some c→c.st = 1→nextB b c = none
theorem next_none {b : Br} {c c' : Cn} (h : nextB b c = none) (hp : c'.p = c.p) (_hs : c'.s = c.s) (ho : c.out.length≤c'.out.length) : nextB b c' = none:=by
  unfold nextB nextOf at h ⊢
  rw [hp]
  split at h
  · split at h <;> cases h
  · next hn =>
    rw [if_neg hn]
    split at h
    · next h0 =>
      have : countOf b.L.length c.p ((b.cf.queue : Int) - c'.out.length - 200) b.cf.data = 0:=by unfold countOf at h0 ⊢; omega
      rw [if_pos this]
    · cases h
theorem NoneAt.set {k j : Nat} {b : Br} (h : NoneAt k b) {c c' : Cn} (hc : b.cs j = some c) (hst : c'.st = 1→c.st = 1) (hp : c'.p = c.p) (hs : c'.s = c.s) (ho : c.out.length≤c'.out.length) : NoneAt k (setc b j (some c')):=fun d hd h1=>by
  by_cases e : k = j
  · subst e
    rw [setc_cs] at hd
    injection hd with hd
    subst hd
    exact next_none (b:=b) (h c hc (hst h1)) hp hs ho
  · rw [setc_ne _ _ _ e] at hd
    exact h d hd h1
theorem none_core (k : Nat) : KCore (NoneAt k) where
  gone:=fun b j c h hc _ _=>by
    have:=h.set (c':={ c with st:=2 }) hc (fun e=>by cases e) rfl rfl (Nat.le_refl _)
    unfold gone
    split
    · exact this
    · exact this
  plus:=fun b j c m h hc _ _=>h.set hc id rfl rfl (by show c.out.length≤(c.out ++ enc m).length; rw [List.length_append]; omega)
  told:=fun b h=>h
  served:=fun b j c m p s h hc hst hn=>by
    by_cases e : k = j
    · subst e
      rw [h c hc hst] at hn
      cases hn
    · intro d hd h1
      replace hd : (setc b j (some (putc b.cf.queue { c with p:=p,s:=s } (enc m)))).cs k = some d:=hd
      rw [setc_ne _ _ _ e] at hd
      exact h d hd h1
  reap:=fun b h d hd h1=>by
    replace hd : (if 1≤k∧k≤16∧done b k = true then none else b.cs k) = some d:=hd
    split at hd
    · cases hd
    · exact h d hd h1
theorem NoneAt.shut {k : Nat} {b : Br} (h : opn b k = false) : NoneAt k b:=fun c hc h1=>by
  unfold opn at h
  rw [hc] at h
  simp [h1] at h
theorem leave_shut (b : Br) (k : Nat) : opn (leave b k) k = false:=by
  show opn (leaveW (tellN 16) b k) k = false
  unfold leaveW
  rcases hc : b.cs k with _ | c
  · show opn b k = false
    unfold opn; rw [hc]
  · have h : opn (setc b k (some { c with st:=2 })) k = false:=by unfold opn; rw [setc_cs]; rfl
    show opn (if c.st = 1 then tellN 16 (left k) (setFl (setc b k (some { c with st:=2 })) (fleave b.fl k)) else setc b k (some { c with st:=2 })) k = false
    split
    · exact (shut_core k).tellN 16 _ _ h
    · exact h
theorem serve_none_at : ∀ (n : Nat) (b : Br) (k : Nat) (c : Cn),BOk b→b.cs k = some c→b.L.length - c.p≤n→NoneAt k (serve b k)
  | n,b,k,c,hb,hc,hn=>by
    have hk:=hb.cn k c hc
    rcases hx : nextB b c with _ | ⟨m,p,s⟩
    · rw [serve_none hc hx]
      exact fun d hd _=>by rw [hc] at hd; injection hd with hd; rw [← hd]; exact hx
    · have hno:=next_ok hk.p hk.s hb.strikes hb.len hx
      by_cases h12 : m.k = 12
      · rw [serve_gone hc hx h12]
        exact NoneAt.shut (leave_shut _ _)
      · rw [serve_more hb hc hx h12]
        have hlt:=(hno.2.2.2.2 h12).1
        match n,hn with
        | 0,hn=>have:=hno.1; omega
        | n + 1,hn=>exact serve_none_at n _ k _ (hb.served hc hx) (setc_cs _ _ _) (by
            rw [(putc_same _ _ _).2.1]
            show b.L.length - p≤n
            omega)
theorem goes_none_at : ∀ (l : List Nat) (D : Nat→Prop) (b : Br),(∀ k∈l,1≤k∧k≤16)→BOk b→(∀ k,D k→NoneAt k b)→∀ k,(D k∨k∈l)→NoneAt k (goes serve b l)
  | [],D,b,_,_,h=>fun k hk=>h k (hk.resolve_right (by simp))
  | j :: l,D,b,hl,hb,h=>by
    intro k hk
    have hj:=hl j List.mem_cons_self
    show NoneAt k (goes serve (if opn b j then serve b j else b) l)
    have hb2 : BOk (if opn b j then serve b j else b):=by
      split
      · next ho=>exact bok_all.serveN _ hb hj.1 hj.2 ho
      · exact hb
    refine goes_none_at l (fun i=>D i∨i = j) _ (fun i hi=>hl i (List.mem_cons_of_mem _ hi)) hb2 (fun i hi=>?_) k ?_
    · rcases hi with hi | rfl
      · split
        · next ho=>exact (none_core i).serveN _ (h i hi) hj.1 hj.2 ho
        · exact h i hi
      · by_cases ho : opn b i = true
        · rw [if_pos ho]
          obtain ⟨c,hc,_⟩:=opn_cs ho
          exact serve_none_at _ b i c hb hc (Nat.le_refl _)
        · rw [if_neg ho]
          exact NoneAt.shut (by simpa using ho)
    · rcases hk with hk | hk
      · exact .inl (.inl hk)
      · rcases List.mem_cons.1 hk with e | hk
        · exact .inl (.inr e)
        · exact .inr hk
theorem in16_core : KCore In16 where
  gone:=fun b k c h hc h1 h2=>by
    have : In16 (setc b k (some { c with st:=2 })):=fun j hj=>by
      by_cases e : j = k
      · omega
      · rw [setc_ne _ _ _ e] at hj; exact h j hj
    unfold gone
    split
    · exact this
    · exact this
  plus:=fun b k c m h hc _ _ j hj=>by
    by_cases e : j = k
    · rw [e]; exact h k (by rw [hc]; rfl)
    · rw [setc_ne _ _ _ e] at hj; exact h j hj
  told:=fun b h=>h
  served:=fun b k c m p s h hc _ _ j hj=>by
    by_cases e : j = k
    · rw [e]; exact h k (by rw [hc]; rfl)
    · replace hj : ((setc b k (some _)).cs j).isSome = true:=hj
      rw [setc_ne _ _ _ e] at hj; exact h j hj
  reap:=fun b h j hj=>by
    obtain ⟨c,hc⟩:=Option.isSome_iff_exists.1 hj
    replace hc : (if 1≤j∧j≤16∧done b j = true then none else b.cs j) = some c:=hc
    split at hc
    · cases hc
    · exact h j (by rw [hc]; rfl)
theorem rest_settle {b : Br} (hb : BOk b) (hI : In16 b) : Rest (settle b):=by
  have h1:=bok_all.holder hb
  have hI2 : In16 (settle b):=in16_core.settle hI
  have hn : ∀ k,1≤k∧k≤16→NoneAt k (settle b):=fun k hk =>
    (none_core k).reap _ ((none_core k).holder (goes_none_at ids (fun _=>False) (holder b) ids_in h1 (fun _ h=>h.elim) k (.inr (mem_ids.2 hk))))
  refine ⟨?_,fun k c hc hst=>hn k (hI2 k (by rw [hc]; rfl)) c hc hst,fun k c hc h2 e=>?_⟩
  · show fhold (holder _).fl = (holder _).told
    exact holder_told _ _ (Nat.le_refl _)
  · have hk:=hI2 k (by rw [hc]; rfl)
    unfold settle at hc
    replace hc : (if 1≤k∧k≤16∧done (holder (goes serve (holder b) ids)) k = true then none else (holder (goes serve (holder b) ids)).cs k) = some c:=hc
    split at hc
    · cases hc
    · next hd =>
      refine hd ⟨hk.1,hk.2,?_⟩
      unfold done
      rw [hc]
      simp [h2,e]
theorem rest_both {b : Br} (r : Rest b) : settle (holder b) = b:=by rw [holder_same r.told,settle_rest r]
def QC (b : Br) : Prop:=∀ k c,b.cs k = some c→c.fd = fd0∧c.lx = lx0
theorem QC.set {b : Br} (h : QC b) {k : Nat} {c' : Cn} (hc : c'.fd = fd0∧c'.lx = lx0) : QC (setc b k (some c')):=fun j d hd=>by
  by_cases e : j = k
  · subst e
    rw [setc_cs] at hd
    injection hd with hd
    subst hd
    exact hc
  · rw [setc_ne _ _ _ e] at hd
    exact h j d hd
theorem qc_core : KCore QC where
  gone:=fun b k c h hc _ _=>by
    have : QC (setc b k (some { c with st:=2 })):=h.set (h k c hc)
    unfold gone
    split
    · exact this
    · exact this
  plus:=fun b k c m h hc _ _=>h.set (h k c hc)
  told:=fun b h=>h
  served:=fun b k c m p s h hc _ _=>by
    have hp:=putc_same b.cf.queue { c with p:=p,s:=s } (enc m)
    exact h.set ⟨by rw [hp.2.2.2.2.2.1]; exact (h k c hc).1,by rw [hp.2.2.2.2.2.2]; exact (h k c hc).2⟩
  reap:=fun b h k c hc=>by
    replace hc : (if 1≤k∧k≤16∧done b k = true then none else b.cs k) = some c:=hc
    split at hc
    · cases hc
    · exact h k c hc
theorem inp_core (X : Bs) : KCore (fun b=>b.inp = X) where
  gone:=fun b k c h _ _ _=>by unfold gone; split <;> exact h
  plus:=fun b k c m h _ _ _=>h
  told:=fun b h=>h
  served:=fun b k c m p s h _ _ _=>h
  reap:=fun b h=>h
structure KJoin (P : Br→Prop) : Prop extends KCore P where
  join : ∀ b k c t p r,P b→b.cs k = some c→1≤k→k≤16→c.st = 0→t.length≤20→isName t = true→p≤b.L.length→0≤r→r≤2→P (setFl (setc b k (some (opened c t p))) (fjoin b.fl k r))
  fl : ∀ b s,P b→P (setFl b s)
section
variable {P : Br→Prop} (K : KJoin P)
include K
theorem KJoin.joinB {b : Br} (h : P b) {k : Nat} {c : Cn} {m : M} (hc : b.cs k = some c) (hst : c.st = 0) (h1 : 1≤k) (h2 : k≤16) (hm : m.ok = true) (hm1 : m.k = 1) (hn : isName m.t = true) : P (Bk.joinB b k m):=by
  have ho : opn b k = false:=by unfold opn; rw [hc]; simp [hst]
  have hc1:=(tell_shut (joined k m.t) ho).trans hc
  have hP1:=K.tell (joined k m.t) h
  have ht : m.t.length≤20:=by have:=Ms.rt_n hm; rw [hm1] at this; exact this
  rw [joinB_eq,hc1]
  have hr:=firstRole_in (Bk.tell (joined k m.t) b).fl (decide (m.a % 2 = 1))
  have hJ:=K.join _ k c m.t (comeAt (Bk.tell (joined k m.t) b) m) (comeRole (Bk.tell (joined k m.t) b) m) hP1 hc1 h1 h2 hst ht hn (viewAt_le _ _ _ _) hr.1 hr.2
  have hX:=K.send (welcome k (comeAt (Bk.tell (joined k m.t) b) m) (comeRole (Bk.tell (joined k m.t) b) m)) hJ h1 h2
  have hY:=K.send (mfloor (Bk.send (welcome k (comeAt (Bk.tell (joined k m.t) b) m) (comeRole (Bk.tell (joined k m.t) b) m)) (setFl (setc (Bk.tell (joined k m.t) b) k (some (opened c m.t (comeAt (Bk.tell (joined k m.t) b) m)))) (fjoin (Bk.tell (joined k m.t) b).fl k (comeRole (Bk.tell (joined k m.t) b) m))) k).told) hX h1 h2
  show P (joinR (Bk.tell (joined k m.t) b) k c m)
  unfold joinR joinX joinY
  split
  · exact K.send _ hY h1 h2
  · exact hY
theorem KJoin.hello {b : Br} (h : P b) {k : Nat} {c : Cn} {m : M} (hc : b.cs k = some c) (hst : c.st = 0) (h1 : 1≤k) (h2 : k≤16) (hm : m.ok = true) : P (Bk.hello b k m):=by
  unfold Bk.hello
  split
  · exact K.shut h h1 h2 4
  · next hk1 =>
    split
    · exact K.shut h h1 h2 2
    · split
      · exact K.shut h h1 h2 3
      · next hn=>exact K.joinB h hc hst h1 h2 hm (by omega) (by simpa using hn)
theorem KJoin.takeB {b : Br} (h : P b) {k : Nat} (h1 : 1≤k) (h2 : k≤16) {m : M} (hm : m.ok = true) (hkey : m.k = 2→∀ c,b.cs k = some c→c.st≠0→P (Bk.keysB b k m)) (hthere : (b.cs k).isSome = true) : P (Bk.takeB b k (some m)):=by
  show P (if (match b.cs k with | some c=>decide (c.st = 0) | none=>false) = true then Bk.hello b k m else if m.k = 2 then Bk.keysB b k m else if m.k = 3 then Bk.send ⟨14,0,0,[]⟩ b k else if m.k = 4 then Bk.shut b k 0 else Bk.shut b k 4)
  obtain ⟨c,hc⟩:=Option.isSome_iff_exists.1 hthere
  rw [hc]
  dsimp only
  by_cases hst : c.st = 0
  · rw [if_pos (by simpa using hst)]
    exact K.hello h hc hst h1 h2 hm
  · rw [if_neg (by simpa using hst)]
    split
    · next h2k=>exact hkey h2k c hc hst
    split
    · exact K.send _ h h1 h2
    split
    · exact K.shut h h1 h2 0
    · exact K.shut h h1 h2 4
end
theorem qc_join : KJoin QC where
  toKCore:=qc_core
  join:=fun _ k c t p _ h hc _ _ _ _ _ _ _ _=>h.set (c':=opened c t p) (h k c hc)
  fl:=fun _ _ h=>h
theorem inp_join (X : Bs) : KJoin (fun b=>b.inp = X) where
  toKCore:=inp_core X
  join:=fun _ _ _ _ _ _ h _ _ _ _ _ _ _ _ _=>h
  fl:=fun _ _ h=>h
theorem cmd1_floor {P : Br→Prop} (K : KJoin P) {b : Br} (h : P b) {k : Nat} (h1 : 1≤k) (h2 : k≤16) : P (cmd1 b k wFloor):=by
  unfold cmd1
  have hd : doB b k (parse wFloor) = (setFl b (fask b.fl k),decide (askE b.fl k = 0)):=by
    rw [parse_floor]
    unfold doB
    show (if isOwners 1 = true∧_ then _ else if (1 : Int) = 1 then ({ b with fl:=fask b.fl k },decide (askE b.fl k = 0)) else _) = _
    rw [if_neg (by rw [show isOwners 1 = false by decide]; simp),if_pos rfl]
    rfl
  rw [hd]
  refine K.holder ?_
  dsimp only
  have hf:=K.fl b (fask b.fl k) h
  split
  · exact hf
  · exact K.send _ hf h1 h2
structure InAt (b : Br) (i T m : Nat) : Prop where
  ev : EvOk b i T m
  in16 : In16 b
  rest : Rest b
  qc : QC b
  ended : b.ended = false
  queue : b.cf.queue = 60000
  inp : b.inp.length≤b.cf.input
  r3 : R3 b
theorem in_begin {c : Cf} (h : EvOk (bnew c) 0 0 0) (hq : c.queue = 60000) : InAt (bnew c) 0 0 0:=
  ⟨h,fun k hk=>(by cases hk),⟨rfl,fun k c hc=>(by cases hc),fun k c hc=>(by cases hc)⟩,fun k c hc=>(by cases hc),rfl,hq,Nat.zero_le _,⟨List.Pairwise.nil,fun k hk=>(by cases hk),fun k c hc=>(by cases hc)⟩⟩
section
variable {b : Br} {i T m : Nat}
theorem InAt.connect (h : InAt b i T m) (id : Int) : InAt (connectB b id) i T m∧(connectB b id).inp = b.inp:=by
  have key : ∀ P : Br→Prop,P b→(∀ k,1≤k→k≤16→b.cs k = none→P (setc b k (some cnew)))→P (connectB b id):=fun P hp hn=>keep_connect (P:=P) hp id hn
  have h3:=r3_all.connectB h.r3 id
  have he:=h.ev.connect id
  refine key (fun x=>EvOk x i T m→R3 x→InAt x i T m∧x.inp = b.inp) (fun h1 h2=>⟨⟨h1,h.in16,h.rest,h.qc,h.ended,h.queue,h.inp,h2⟩,rfl⟩) (fun k h1 h2 hc he hr=>⟨⟨he,fun j hj=>?_,⟨h.rest.told,fun j d hd hst=>?_,fun j d hd h2=>?_⟩,h.qc.set ⟨rfl,rfl⟩,h.ended,h.queue,h.inp,hr⟩,rfl⟩) he h3
  · by_cases e : j = k
    · omega
    · rw [setc_ne _ _ _ e] at hj; exact h.in16 j hj
  · by_cases e : j = k
    · subst e; rw [setc_cs] at hd; injection hd with hd; subst hd; cases hst
    · rw [setc_ne _ _ _ e] at hd; exact h.rest.seen j d hd hst
  · by_cases e : j = k
    · subst e; rw [setc_cs] at hd; injection hd with hd; subst hd; cases h2
    · rw [setc_ne _ _ _ e] at hd; exact h.rest.gone j d hd h2
theorem InAt.of_settle {x : Br} {i T m : Nat} (he : EvOk (settle x) i T m) (hb : BOk x) (hI : In16 x) (hq : QC x) (hen : x.ended = false) (hqu : x.cf.queue = 60000) (hin : x.inp.length≤x.cf.input) (hr : R3 (settle x)) : InAt (settle x) i T m:=by
  have hl:=(pl_all fun _ _ cf e _=>cf = x.cf∧e = false).settle (b:=x) ⟨rfl,hen⟩
  have hi:=(inp_core x.inp).settle (b:=x) rfl
  refine ⟨he,in16_core.settle hI,rest_settle hb hI,qc_core.settle hq,hl.2,?_,?_,hr⟩
  · rw [show (settle x).cf = x.cf from hl.1]; exact hqu
  · rw [hi,show (settle x).cf = x.cf from hl.1]; exact hin
theorem InAt.write (h : InAt b i T m) (id n : Int) : InAt (writeB b id n) i T m∧(writeB b id n).inp = b.inp:=by
  have he:=h.ev.write id n
  have hr:=r3_all.writeB h.r3 id n
  have hin:=(inp_core b.inp).write (b:=b) rfl id n fun _ _ _ _ _ _=>rfl
  refine ⟨?_,hin⟩
  unfold writeB at he hr ⊢
  by_cases ht : isThere b id = true
  · rw [if_pos ht] at he hr ⊢
    have h0 : 1≤id∧id≤16:=by unfold isThere at ht; simp at ht; exact ht.1
    rcases hc : b.cs id.toNat with _ | c
    · exact h
    · rw [hc] at he hr
      have hk:=h.ev.ok.cn _ c hc
      exact InAt.of_settle he (h.ev.ok.setc _ ⟨hk.p,hk.s,hk.name,hk.st⟩) (fun j hj=>by
        by_cases e : j = id.toNat
        · omega
        · rw [setc_ne _ _ _ e] at hj; exact h.in16 j hj) (h.qc.set (h.qc _ c hc)) h.ended h.queue h.inp hr
  · rw [if_neg ht]; exact h
theorem InAt.cut (h : InAt b i T m) (id : Int) : InAt (cutB b id) i T m∧(cutB b id).inp = b.inp:=by
  have he:=h.ev.cut id
  have hr:=r3_all.cutB h.r3 id
  have hin:=(inp_core b.inp).cut (b:=b) rfl id fun _ _ _ hx _ _=>hx
  refine ⟨?_,hin⟩
  unfold cutB at he hr ⊢
  by_cases ht : isThere b id = true
  · rw [if_pos ht] at he hr ⊢
    have h0 : 1≤id∧id≤16:=by unfold isThere at ht; simp at ht; exact ht.1
    have h1 : 1≤id.toNat:=by omega
    have h2 : id.toNat≤16:=by omega
    have hl:=(pl_all fun _ _ cf e _=>cf = b.cf∧e = false).leave (b:=b) ⟨rfl,h.ended⟩ h1 h2
    have hi:=(inp_core b.inp).leave (b:=b) rfl h1 h2
    have hq:=qc_core.leave h.qc h1 h2
    have hI:=in16_core.leave h.in16 h1 h2
    refine InAt.of_settle he ((h.ev.leave h1 h2).unset _).ok (fun j hj=>?_) (fun j d hd=>?_) hl.2 ?_ ?_ hr
    · by_cases e : j = id.toNat
      · omega
      · rw [setc_ne _ _ _ e] at hj; exact hI j hj
    · by_cases e : j = id.toNat
      · subst e; rw [setc_cs] at hd; cases hd
      · rw [setc_ne _ _ _ e] at hd; exact hq j d hd
    · show (leave b id.toNat).cf.queue = 60000
      rw [show (leave b id.toNat).cf = b.cf from hl.1]; exact h.queue
    · show (leave b id.toNat).inp.length≤(leave b id.toNat).cf.input
      rw [hi,show (leave b id.toNat).cf = b.cf from hl.1]; exact h.inp
  · rw [if_neg ht]; exact h
theorem InAt.output (h : InAt b i T m) (t : Bs) (hm : m + t.length≤1000000) : InAt (outputB b t) i T (m + t.length)∧(outputB b t).inp = b.inp:=by
  have he:=h.ev.output t (by omega)
  have hr:=r3_all.outputB h.r3 t
  have hin:=(inp_core b.inp).output (b:=b) rfl t fun _=>rfl
  refine ⟨?_,hin⟩
  unfold outputB at he hr ⊢
  rw [if_neg (by rw [h.ended]; decide)] at he hr ⊢
  refine InAt.of_settle he ?_ h.in16 h.qc h.ended h.queue h.inp hr
  have ho:=h.ev.ok
  refine ⟨ho.log,ho.data,ho.queue,ho.input,ho.idle,ho.strikes,ho.fok,ho.rin,?_,ho.told,ho.code,fun j d hd=>?_⟩
  · show (b.L ++ t).length≤_
    rw [List.length_append]
    have:=h.ev.len
    omega
  · have:=ho.cn j d hd
    exact ⟨Nat.le_trans this.p (by show b.L.length≤(b.L ++ t).length; rw [List.length_append]; omega),this.s,this.name,this.st⟩
theorem InAt.drain (h : InAt b i T m) (n : Int) : InAt (drainB b n) i T m:=
  ⟨h.ev.drain n,h.in16,⟨h.rest.told,h.rest.seen,h.rest.gone⟩,h.qc,h.ended,h.queue,by show (b.inp.drop _).length≤_; rw [List.length_drop]; have:=h.inp; show _≤b.cf.input; omega,r3_all.drainB h.r3 n⟩
theorem InAt.tick (h : InAt b i T m) : InAt (tickB b) (i + 1) T m∧(tickB b).inp = b.inp:=by
  have he:=h.ev.tick
  have hr:=r3_all.tickB h.r3
  have hin:=(inp_core b.inp).tick (b:=b) (show ({ b with fl:=ftick b.fl } : Br).inp = b.inp from rfl) fun _ _ _ hx _=>hx
  refine ⟨?_,hin⟩
  have key : ∀ {P : Br→Prop},KCore P→(∀ b k c,P b→b.cs k = some c→P (setc b k (some { c with idle:=c.idle + 1 })))→P { b with fl:=ftick b.fl }→P (ids.foldl tickC { b with fl:=ftick b.fl }):=fun {P} K hi h0=>by
    have go : ∀ (l : List Nat) (x : Br),(∀ k∈l,1≤k∧k≤16)→P x→P (l.foldl tickC x):=by
      intro l
      induction l with
      | nil=>exact fun _ _ h=>h
      | cons k l ih =>
        intro x hl hx
        refine ih _ (fun j hj=>hl j (List.mem_cons_of_mem _ hj)) ?_
        obtain ⟨h1,h2⟩:=hl k List.mem_cons_self
        unfold tickC
        rcases hc : x.cs k with _ | c
        · exact hx
        · have:=hi x k c hx hc
          show P (if _ then shut (setc x k (some { c with idle:=c.idle + 1 })) k 6 else setc x k (some { c with idle:=c.idle + 1 }))
          split
          · exact K.shut this h1 h2 6
          · exact this
    exact go ids _ ids_in h0
  have hpl:=key (pl_all fun _ _ cf e _=>cf = b.cf∧e = false).toKCore (fun _ _ _ h _=>h) (show PL _ ({ b with fl:=ftick b.fl } : Br) from ⟨rfl,h.ended⟩)
  have hip:=key (inp_core b.inp) (fun _ _ _ h _=>h) rfl
  have hcf : (ids.foldl tickC { b with fl:=ftick b.fl }).cf = b.cf:=hpl.1
  have hbk : BOk (ids.foldl tickC { b with fl:=ftick b.fl }):=by
    have:=fok_step h.ev.ok.fok h.ev.ok.rin (.inr (.inr (.inr (.inr (.inr rfl)))))
    exact key bok_all.toKCore (fun x k c hx hc=>by have hk:=hx.cn k c hc; exact hx.setc k ⟨hk.p,hk.s,hk.name,hk.st⟩) (h.ev.ok.fl (.inr (.inr (.inr (.inr (.inr rfl))))))
  unfold tickB at he hr ⊢
  exact InAt.of_settle he hbk (key in16_core (fun x k c hx hc j hj=>by
    by_cases e : j = k
    · rw [e]; exact hx k (by rw [hc]; rfl)
    · rw [setc_ne _ _ _ e] at hj; exact hx j hj) h.in16) (key qc_core (fun x k c hx hc=>hx.set (hx k c hc)) h.qc) hpl.2 (by rw [hcf]; exact h.queue) (by rw [hcf,hip]; exact h.inp) hr
theorem InAt.said (h : InAt b i T m) (id : Int) {x : M} (hx : x.ok = true) (hkeep : ∀ {P : Br→Prop} (_ : KJoin P) {b' : Br} (_ : P b') {k : Nat} (_ : 1≤k) (_ : k≤16) {c : Cn} (_ : b'.cs k = some c) (_ : c.lx = lx0) (_ : c.st = 1),x.k = 2→P (takeB b' k (some x))) :
    InAt (bytesB b id (enc x)) i (T + 2052 + (enc x).length) m∧(bytesB b id (enc x)).inp = b.inp:=by
  have he:=h.ev.bytes id (enc x)
  have hr:=r3_all.bytesB h.r3 id (enc x)
  by_cases h0 : bytesE b id = 0
  · have ht : isThere b id = true:=by
      unfold bytesE at h0
      split at h0
      · next hi=>exact hi
      · cases h0
    have hid : 1≤id∧id≤16:=by unfold isThere at ht; simp at ht; exact ht.1
    obtain ⟨k,hk⟩ : ∃ k : Nat,id = (k : Nat):=⟨id.toNat,by omega⟩
    subst hk
    have h1 : 1≤k:=by omega
    have h2 : k≤16:=by omega
    have hkk : ((k : Nat) : Int).toNat = k:=by omega
    obtain ⟨c,hc⟩ : ∃ c,b.cs k = some c:=by
      unfold isThere at ht
      rw [hkk] at ht
      simp at ht
      exact Option.isSome_iff_exists.1 ht.2
    have hst : c.st≠2:=fun e=>by
      unfold bytesE at h0
      rw [if_pos ht,hkk] at h0
      unfold closing at h0
      rw [hc] at h0
      simp [e] at h0
    obtain ⟨q1,q2⟩:=h.qc k c hc
    obtain ⟨e1,_⟩:=bytes_one h1 h2 hc q1 hst hx
    have hbi : BOk (setc b k (some { c with idle:=0 })):=bok_all.idle0 b k c h.ev.ok hc
    have keep : ∀ {P : Br→Prop} (K : KJoin P),P (setc b k (some { c with idle:=0 }))→P (holder (takeB (setc b k (some { c with idle:=0 })) k (some x))):=fun {P} K hp=>by
      refine K.holder ?_
      by_cases hs1 : x.k = 2∧c.st = 1
      · exact hkeep K hp h1 h2 (setc_cs _ _ _) q2 hs1.2 hs1.1
      · refine K.takeB hp h1 h2 hx (fun hk2 d hd hd0=>?_) (by rw [setc_cs]; rfl)
        exfalso
        rw [setc_cs] at hd
        injection hd with hd
        subst hd
        replace hd0 : c.st≠0:=hd0
        have:=(h.ev.ok.cn k c hc).st
        exact hs1 ⟨hk2,by omega⟩
    have hip:=keep (inp_join b.inp) rfl
    have hqc:=keep qc_join (h.qc.set ⟨q1,q2⟩)
    have hI : In16 (setc b k (some { c with idle:=0 })):=fun j hj=>by
      by_cases e : j = k
      · omega
      · rw [setc_ne _ _ _ e] at hj; exact h.in16 j hj
    have hI2 : In16 (holder (takeB (setc b k (some { c with idle:=0 })) k (some x))):=keep ⟨in16_core,fun b k c t p r hb hc h1 h2 _ _ _ _ _ _ j hj=>by
      by_cases e : j = k
      · omega
      · replace hj : ((setc b k (some (opened c t p))).cs j).isSome = true:=hj
        rw [setc_ne _ _ _ e] at hj; exact hb j hj,fun _ _ h=>h⟩ hI
    have hcf : (holder (takeB (setc b k (some { c with idle:=0 })) k (some x))).cf = b.cf∧(holder (takeB (setc b k (some { c with idle:=0 })) k (some x))).ended = false:=
      (pl_all fun _ _ cf e _=>cf = b.cf∧e = false).holder ((pl_all fun _ _ cf e _=>cf = b.cf∧e = false).takeB (show PL _ (setc b k (some { c with idle:=0 })) from ⟨rfl,h.ended⟩) h1 h2 fun y hy=>by injection hy with hy; rw [← hy]; exact hx)
    have hbk : BOk (holder (takeB (setc b k (some { c with idle:=0 })) k (some x))):=bok_all.holder (bok_all.takeB hbi h1 h2 fun y hy=>by injection hy with hy; rw [← hy]; exact hx)
    rw [e1] at he hr ⊢
    refine ⟨InAt.of_settle he hbk hI2 hqc hcf.2 (by rw [hcf.1]; exact h.queue) (by rw [hcf.1,hip]; exact h.inp) hr,(inp_core b.inp).settle hip⟩
  · have e : bytesB b id (enc x) = b:=by unfold bytesB; rw [if_neg h0]
    rw [e] at he ⊢
    exact ⟨⟨he,h.in16,h.rest,h.qc,h.ended,h.queue,h.inp,h.r3⟩,rfl⟩
theorem InAt.hello (h : InAt b i T m) (id : Int) : InAt (bytesB b id (enc (helloM [117#8]))) i (T + 2080) m∧(bytesB b id (enc (helloM [117#8]))).inp = b.inp:=by
  obtain ⟨h1,h2⟩:=h.said id (x:=helloM [117#8]) (hello_ok (by decide)) fun {P} K {b'} hp {k} h1 h2 {c} hc hl hst hk=>absurd hk (by show ¬ (1 : Int) = 2; decide)
  exact ⟨⟨⟨h1.ev.ok,h1.ev.cn,Nat.le_trans h1.ev.tot (by rw [enc_len5]; show T + 2052 + (6 * 2 + 1 + 5)≤_; omega),h1.ev.len,h1.ev.sp⟩,h1.in16,h1.rest,h1.qc,h1.ended,h1.queue,h1.inp,h1.r3⟩,h2⟩
theorem InAt.floor (h : InAt b i T m) (id : Int) : InAt (bytesB b id (enc (keys 0 (esc wFloor)))) i (T + 2080) m∧(bytesB b id (enc (keys 0 (esc wFloor)))).inp = b.inp:=by
  obtain ⟨h1,h2⟩:=h.said id (x:=keys 0 (esc wFloor)) (keys_ok (by decide) (by decide) (by decide)) fun {P} K {b'} hp {k} h1 h2 {c} hc hl hst hk=>by
    rw [keys_cmd hc hst hl (by decide) (by decide)]
    exact cmd1_floor K hp h1 h2
  exact ⟨⟨⟨h1.ev.ok,h1.ev.cn,Nat.le_trans h1.ev.tot (by rw [enc_len5]; show T + 2052 + (6 * 1 + 8 + 5)≤_; omega),h1.ev.len,h1.ev.sp⟩,h1.in16,h1.rest,h1.qc,h1.ended,h1.queue,h1.inp,h1.r3⟩,h2⟩
def AreData (ms : List M) : Prop:=∀ m∈ms,m.ok = true∧m.k = 6
theorem serve_data : ∀ (n : Nat) (b : Br) (k : Nat) (c : Cn),BOk b→b.cs k = some c→b.L.length - c.p≤n→¬ c.p < b.L.length - b.cf.log→c.out.length + 200≤b.cf.queue →
    ∃ c' ms,serve b k = setc b k (some c')∧c'.st = c.st∧c'.fd = c.fd∧c'.lx = c.lx∧c'.out = c.out ++ encs ms∧AreData ms∧c'.out.length + 200≤b.cf.queue∧nextB b c' = none
  | n,b,k,c,hb,hc,hn,hlog,hq=>by
    have hk:=hb.cn k c hc
    rcases hx : nextB b c with _ | ⟨m,p,s⟩
    · exact ⟨c,[],by rw [serve_none hc hx,setc_as hc],rfl,rfl,rfl,by unfold encs; simp,fun m hm=>(by cases hm),hq,hx⟩
    · have hno:=next_ok hk.p hk.s hb.strikes hb.len hx
      have hx' : nextOf b.L b.cf.log c.p c.s ((b.cf.queue : Int) - c.out.length - 200) b.cf.data b.strikes = some (m,p,s):=hx
      have hm6 : m.k = 6:=by
        unfold nextOf at hx'
        rw [if_neg hlog] at hx'
        split at hx'
        · cases hx'
        · injection hx' with hx'; injection hx' with e1 hx'
          rw [← e1]
      have h12 : m.k≠12:=by rw [hm6]; decide
      have hr:=hno.2.2.2.2 h12
      have hput : putc b.cf.queue { c with p:=p,s:=s } (enc m) = { c with p:=p,s:=s,out:=c.out ++ enc m }:=by
        unfold putc
        rw [if_pos (by show c.out.length + _≤_; omega)]
      have hsv : served b k c m p s = setc b k (some { c with p:=p,s:=s,out:=c.out ++ enc m }):=by unfold served; rw [hput]
      rw [serve_more hb hc hx h12,hsv]
      have hb2:=hb.served hc hx
      rw [hsv] at hb2
      match n,hn with
      | 0,hn=>have:=hno.1; omega
      | n + 1,hn =>
        obtain ⟨c',ms,f1,f2,f3,f4,f5,f6,f7,f8⟩:=serve_data n (setc b k (some { c with p:=p,s:=s,out:=c.out ++ enc m })) k { c with p:=p,s:=s,out:=c.out ++ enc m } hb2 (setc_cs _ _ _) (by show b.L.length - p≤n; omega) (by show ¬ p < b.L.length - b.cf.log; omega) (by show (c.out ++ enc m).length + 200≤b.cf.queue; rw [List.length_append]; omega)
        refine ⟨c',m :: ms,by rw [f1,setc_two],f2,f3,f4,?_,fun x hx=>?_,f7,f8⟩
        · rw [f5]
          show (c.out ++ enc m) ++ encs ms = c.out ++ (enc m ++ encs ms)
          rw [List.append_assoc]
        · rcases List.mem_cons.1 hx with rfl | hx
          · exact ⟨hno.2.2.1,hm6⟩
          · exact f6 x hx
theorem goes_one {f : Br→Nat→Br} {b b' : Br} {k : Nat} (hf : (if opn b k then f b k else b) = b') : ∀ l : List Nat,l.Nodup→k∈l→(∀ j∈l,j≠k→(opn b j = true→f b j = b)∧(opn b' j = true→f b' j = b'))→goes f b l = b'
  | [],_,h,_=>by cases h
  | j :: l,hn,h,ho=>by
    obtain ⟨hj,hn⟩:=List.nodup_cons.1 hn
    show goes f (if opn b j then f b j else b) l = _
    by_cases e : j = k
    · subst e
      rw [hf]
      exact goes_same _ _ _ fun i hi hoi=>(ho i (List.mem_cons_of_mem _ hi) (fun e=>hj (by rw [← e]; exact hi))).2 hoi
    · have : (if opn b j then f b j else b) = b:=by
        split
        · next h2=>exact (ho j List.mem_cons_self e).1 h2
        · rfl
      rw [this]
      exact goes_one hf l hn ((List.mem_cons.1 h).resolve_left fun h=>e h.symm) fun i hi=>ho i (List.mem_cons_of_mem _ hi)
theorem settle_one {b : Br} {k : Nat} {c : Cn} (hb : BOk b) (hc : b.cs k = some c) (hst : c.st = 1) (hI : In16 b) (ht : fhold b.fl = b.told) (hs : ∀ j d,j≠k→b.cs j = some d→d.st = 1→nextB b d = none) (hg : ∀ j d,b.cs j = some d→d.st = 2→d.out≠[]) (hlog : ¬ c.p < b.L.length - b.cf.log) (hq : c.out.length + 200≤b.cf.queue) :
    ∃ c' ms,settle b = setc b k (some c')∧c'.st = 1∧c'.fd = c.fd∧c'.lx = c.lx∧c'.out = c.out ++ encs ms∧AreData ms∧c'.out.length + 200≤b.cf.queue:=by
  obtain ⟨c',ms,f1,f2,f3,f4,f5,f6,f7,f8⟩:=serve_data _ b k c hb hc (Nat.le_refl _) hlog hq
  refine ⟨c',ms,?_,f2.trans hst,f3,f4,f5,f6,f7⟩
  have hk:=hI k (by rw [hc]; rfl)
  have ho : opn b k = true:=by unfold opn; rw [hc]; simp [hst]
  have hgo : goes serve b ids = setc b k (some c'):=by
    refine goes_one (by rw [if_pos ho]; exact f1) ids ids_nodup (mem_ids.2 hk) fun j hj e=>⟨fun hoj=>?_,fun hoj=>?_⟩
    · obtain ⟨d,hd,hd1⟩:=opn_cs hoj
      exact serve_none hd (hs j d e hd hd1)
    · obtain ⟨d,hd,hd1⟩:=opn_cs hoj
      have hd':=hd
      rw [setc_ne _ _ _ e] at hd'
      exact serve_none hd (hs j d e hd' hd1)
  unfold settle
  rw [holder_same ht,hgo,holder_same (b:=setc b k (some c')) ht,reap_rest fun j d hd hd2=>?_]
  by_cases e : j = k
  · subst e
    rw [setc_cs] at hd
    injection hd with hd
    subst hd
    omega
  · rw [setc_ne _ _ _ e] at hd
    exact hg j d hd hd2
variable {b : Br} {i T m : Nat}
theorem InAt.flush (h : InAt b i T m) {k : Nat} (hr : rhas b.fl.roles k = true) : ∃ c ms,(writeB b (k : Nat) 70000).cs k = some c∧c.st = 1∧c.out = encs ms∧AreData ms∧c.out.length + 200≤60000∧(writeB b (k : Nat) 70000).fl = b.fl∧1≤k∧k≤16:=by
  obtain ⟨c,hc,hst⟩:=opn_cs (h.r3.ro k hr)
  obtain ⟨h1,h2⟩:=h.in16 k (by rw [hc]; rfl)
  have hol:=h.r3.out k c hc
  rw [h.queue] at hol
  obtain ⟨_,_,e3⟩:=write_all (n:=70000) h1 h2 hc (by omega)
  have hk:=h.ev.ok.cn k c hc
  have hlog : ¬ c.p < b.L.length - b.cf.log:=fun hlt=>by
    have:=h.rest.seen k c hc hst
    unfold nextB nextOf at this
    rw [if_pos hlt] at this
    split at this <;> cases this
  obtain ⟨c',ms,f1,f2,f3,f4,f5,f6,f7⟩:=settle_one (b:=setc b k (some { c with out:=[] })) (k:=k) (c:={ c with out:=[] }) (h.ev.ok.setc k ⟨hk.p,hk.s,hk.name,hk.st⟩) (setc_cs _ _ _) hst (fun j hj=>by
    by_cases e : j = k
    · omega
    · rw [setc_ne _ _ _ e] at hj; exact h.in16 j hj) h.rest.told (fun j d e hd hd1=>by rw [setc_ne _ _ _ e] at hd; exact h.rest.seen j d hd hd1) (fun j d hd hd2=>by
    by_cases e : j = k
    · subst e; rw [setc_cs] at hd; injection hd with hd; subst hd; replace hd2 : c.st = 2:=hd2; omega
    · rw [setc_ne _ _ _ e] at hd; exact h.rest.gone j d hd hd2) hlog (by show 0 + 200≤b.cf.queue; rw [h.queue]; decide)
  rw [setc_two] at f1
  refine ⟨c',ms,by rw [e3,f1,setc_cs],f2,by rw [f5]; rfl,f6,by rw [← h.queue]; exact f7,by rw [e3,f1]; rfl,h1,h2⟩
theorem whyB_le (b : Br) (k n : Nat) : whyB b k n≤5:=by unfold whyB; (repeat' split) <;> decide
theorem reject_ok {seq : Int} (h0 : 0≤seq) (h1 : seq≤1099511627776) {w : Nat} (hw : w≤5) : (rejectM seq w).ok = true:=by
  unfold M.ok rejectM
  rw [Ms.rt_iff]
  refine ⟨rfl,?_,?_,Nat.zero_le _⟩
  · show Ms.okN seq true = true
    unfold Ms.okN; simp; omega
  · show Ms.okN (w : Int) true = true
    unfold Ms.okN; simp; omega
theorem InAt.typed (h : InAt b i T m) {k : Nat} {c : Cn} {ms : List M} (hc : b.cs k = some c) (hst : c.st = 1) (hout : c.out = encs ms) (hq : c.out.length + 200≤60000) (h1 : 1≤k) (h2 : k≤16) (hr : rhas b.fl.roles k = true) {seq : Int} {t : Bs} (h0 : 0≤seq) (hs1 : seq≤1099511627776) (ht : ∀ x∈t,x≠29#8) (hn : t.length≤100) (hne : t≠[]) :
    InAt (bytesB b (k : Nat) (enc (keys seq t))) i (T + 2200) m ∧
    ((fhold b.fl = k∧(bytesB b (k : Nat) (enc (keys seq t))).inp = b.inp ++ t∧writeT (bytesB b (k : Nat) (enc (keys seq t))) (k : Nat) 70000 = encs ms) ∨
     (∃ w,w≤5∧(bytesB b (k : Nat) (enc (keys seq t))).inp = b.inp∧writeT (bytesB b (k : Nat) (enc (keys seq t))) (k : Nat) 70000 = encs (ms ++ [rejectM seq w]))):=by
  have he:=h.ev.bytes (k : Nat) (enc (keys seq t))
  have hr3:=r3_all.bytesB h.r3 (k : Nat) (enc (keys seq t))
  have hok:=keys_ok h0 hs1 (show t.length≤2042 by omega)
  obtain ⟨q1,q2⟩:=h.qc k c hc
  obtain ⟨e1,_⟩:=bytes_one h1 h2 hc q1 (by omega) hok
  have he' : EvOk (bytesB b (k : Nat) (enc (keys seq t))) i (T + 2200) m:=⟨he.ok,he.cn,Nat.le_trans he.tot (by rw [enc_len5]; show T + 2052 + (6 * 1 + t.length + 5)≤_; omega),he.len,he.sp⟩
  have hnone:=h.rest.seen k c hc hst
  have htk:=take_plain (b:=setc b k (some { c with idle:=0 })) (c:={ c with idle:=0 }) (seq:=seq) (setc_cs _ _ _) hst q2 ht
  have hwy : whyB (setc b k (some { c with idle:=0 })) k t.length = whyB b k t.length:=rfl
  have hin16 : ∀ x : Cn,In16 (setc b k (some x)):=fun x j hj=>by
    by_cases e : j = k
    · omega
    · rw [setc_ne _ _ _ e] at hj; exact h.in16 j hj
  have hseen : ∀ x : Cn,x.p = c.p→x.s = c.s→c.out.length≤x.out.length→x.st = 1→Rest (setc b k (some x)):=fun x hp hs ho hx=>⟨h.rest.told,fun j d hd hd1=>by
    by_cases e : j = k
    · subst e; rw [setc_cs] at hd; injection hd with hd; subst hd; exact next_none (b:=b) hnone hp hs ho
    · rw [setc_ne _ _ _ e] at hd; exact h.rest.seen j d hd hd1,fun j d hd hd2=>by
    by_cases e : j = k
    · subst e; rw [setc_cs] at hd; injection hd with hd; subst hd; omega
    · rw [setc_ne _ _ _ e] at hd; exact h.rest.gone j d hd hd2⟩
  by_cases hw : whyB b k t.length = 0
  ·
    obtain ⟨x,hx⟩ : ∃ x : Cn,({ c with idle:=0 } : Cn) = x:=⟨_,rfl⟩
    have x1 : x.st = 1:=by rw [← hx]; exact hst
    have x2 : x.out = c.out:=by rw [← hx]
    have x3 : x.fd = fd0∧x.lx = lx0:=by rw [← hx]; exact ⟨q1,q2⟩
    have x4 : x.p = c.p∧x.s = c.s:=by rw [← hx]; exact ⟨rfl,rfl⟩
    have hrest:=hseen x x4.1 x4.2 (by rw [x2]; exact Nat.le_refl _) x1
    have e2 : bytesB b (k : Nat) (enc (keys seq t)) = { setc b k (some x) with inp:=b.inp ++ t,tot:=b.tot + t.length }:=by
      rw [e1,htk]
      unfold offered
      rw [if_neg hne,if_pos (hwy.trans hw),hx]
      show settle (holder { setc b k (some x) with inp:=b.inp ++ t,tot:=b.tot + t.length }) = _
      exact rest_both ⟨hrest.told,hrest.seen,hrest.gone⟩
    have hw0 : fhold b.fl = k∧b.inp.length + t.length≤b.cf.input:=by
      unfold whyB at hw
      rw [h.ended,if_neg (by decide),if_neg (by rw [hr]; decide)] at hw
      split at hw
      · cases hw
      split at hw
      · cases hw
      · next hh =>
        split at hw
        · cases hw
        · exact ⟨by simpa using hh,by omega⟩
    have hcs : (bytesB b (k : Nat) (enc (keys seq t))).cs k = some x:=by rw [e2]; exact setc_cs b k _
    obtain ⟨w1,_,_⟩:=write_all (n:=70000) h1 h2 hcs (by rw [x2]; omega)
    refine ⟨?_,.inl ⟨hw0.1,by rw [e2],by rw [w1,x2,hout]⟩⟩
    rw [e2] at he' hr3 ⊢
    exact ⟨he',hin16 x,⟨hrest.told,hrest.seen,hrest.gone⟩,h.qc.set x3,h.ended,h.queue,by show (b.inp ++ t).length≤b.cf.input; rw [List.length_append]; exact hw0.2,hr3⟩
  · obtain ⟨x,hx⟩ : ∃ x : Cn,plus (rejectM seq (whyB b k t.length)) ({ c with idle:=0 } : Cn) = x:=⟨_,rfl⟩
    have x1 : x.st = 1:=by rw [← hx]; exact hst
    have x2 : x.out = c.out ++ enc (rejectM seq (whyB b k t.length)):=by rw [← hx]; rfl
    have x3 : x.fd = fd0∧x.lx = lx0:=by rw [← hx]; exact ⟨q1,q2⟩
    have x4 : x.p = c.p∧x.s = c.s:=by rw [← hx]; exact ⟨rfl,rfl⟩
    have hrest:=hseen x x4.1 x4.2 (by rw [x2,List.length_append]; omega) x1
    have e2 : bytesB b (k : Nat) (enc (keys seq t)) = setc b k (some x):=by
      rw [e1,htk]
      unfold offered
      rw [if_neg hne,hwy,if_neg hw]
      show settle (holder (send (rejectM seq (whyB b k t.length)) (setc b k (some { c with idle:=0 })) k)) = _
      rw [send_fits (setc_cs _ _ _) (by show c.st≠2; omega) (by show c.out.length + (enc _).length≤b.cf.queue; rw [reject_len,h.queue]; omega),setc_two,hx,holder_same hrest.told,settle_rest hrest]
    have hcs : (bytesB b (k : Nat) (enc (keys seq t))).cs k = some x:=by rw [e2]; exact setc_cs b k _
    obtain ⟨w1,_,_⟩:=write_all (n:=70000) h1 h2 hcs (by rw [x2,List.length_append,reject_len]; omega)
    refine ⟨?_,.inr ⟨whyB b k t.length,whyB_le _ _ _,by rw [e2]; rfl,by rw [w1,x2,hout,encs_app,encs_one]⟩⟩
    rw [e2] at he' hr3 ⊢
    exact ⟨he',hin16 x,hrest,h.qc.set x3,h.ended,h.queue,h.inp,hr3⟩
end
end Go.Proofs.YtjmdddhbdofppaaGreatDoor.Bk
