/- The broker's mathematics: what is in the feeds is nobody's business but theirs; bytes that come one by one (BrokerChunks). No program is named here. -/
import Derived.Test.YtjmdddhbdofppaaGreatDoorZcQz

namespace Go.Proofs.YtjmdddhbdofppaaGreatDoor.Bk
open Fr Lx
def ef (c : Cn) : Cn:={ c with fd:=fd0 }
def E (b : Br) : Br:=mapc b ef
theorem E_cs (b : Br) (k : Nat) : (E b).cs k = (b.cs k).map ef:=rfl
theorem E_some {b : Br} {k : Nat} {c : Cn} (h : b.cs k = some c) : (E b).cs k = some (ef c):=by rw [E_cs,h]; rfl
theorem E_none {b : Br} {k : Nat} (h : b.cs k = none) : (E b).cs k = none:=by rw [E_cs,h]; rfl
theorem E_setc (b : Br) (k : Nat) (x : Option Cn) : setc (E b) k (x.map ef) = E (setc b k x):=by
  unfold E setc mapc
  congr 1
  funext j
  show (if j = k then x.map ef else (b.cs j).map ef) = ((if j = k then x else b.cs j) : Option Cn).map ef
  split <;> rfl
theorem E_opn (b : Br) (k : Nat) : opn (E b) k = opn b k:=by
  unfold opn
  rw [E_cs]
  rcases b.cs k with _ | c <;> rfl
theorem E_closing (b : Br) (k : Nat) : closing (E b) k = closing b k:=by
  unfold closing
  rw [E_cs]
  rcases b.cs k with _ | c <;> rfl
theorem E_fl (b : Br) (s : Fl) : setFl (E b) s = E (setFl b s):=rfl
theorem E_goes {f : Br→Nat→Br} (hf : ∀ b k,f (E b) k = E (f b k)) : ∀ (l : List Nat) (b : Br),goes f (E b) l = E (goes f b l)
  | [],_=>rfl
  | k :: l,b=>by
    show goes f (if opn (E b) k then f (E b) k else E b) l = E (goes f (if opn b k then f b k else b) l)
    rw [E_opn,hf]
    split
    · exact E_goes hf l _
    · exact E_goes hf l _
theorem E_leaveW {tl : M→Br→Br} (ht : ∀ m b,tl m (E b) = E (tl m b)) (b : Br) (k : Nat) : leaveW tl (E b) k = E (leaveW tl b k):=by
  unfold leaveW
  rcases hc : b.cs k with _ | c
  · rw [E_none hc]
  · rw [E_some hc]
    show (if c.st = 1 then tl (left k) (setFl (setc (E b) k ((some { c with st:=2 } : Option Cn).map ef)) (fleave b.fl k)) else setc (E b) k ((some { c with st:=2 } : Option Cn).map ef)) = E (if c.st = 1 then tl (left k) (setFl (setc b k (some { c with st:=2 })) (fleave b.fl k)) else setc b k (some { c with st:=2 }))
    rw [E_setc]
    split
    · rw [← ht]; rfl
    · rfl
theorem E_sendW {lv : Br→Nat→Br} (hl : ∀ b k,lv (E b) k = E (lv b k)) (m : M) (b : Br) (k : Nat) : sendW lv m (E b) k = E (sendW lv m b k):=by
  unfold sendW
  rcases hc : b.cs k with _ | c
  · rw [E_none hc]
  · rw [E_some hc]
    show (if c.st = 2 then E b else if c.out.length + (enc m).length≤b.cf.queue then setc (E b) k ((some (plus m c) : Option Cn).map ef) else lv (E b) k) = E (if c.st = 2 then b else if c.out.length + (enc m).length≤b.cf.queue then setc b k (some (plus m c)) else lv b k)
    rw [E_setc,hl]
    split
    · rfl
    · split <;> rfl
theorem E_tellN : ∀ (n : Nat) (m : M) (b : Br),tellN n m (E b) = E (tellN n m b)
  | 0,_,_=>rfl
  | n + 1,m,b=>E_goes (fun b k=>E_sendW (fun b k=>E_leaveW (E_tellN n) b k) m b k) ids b
theorem E_tell (m : M) (b : Br) : tell m (E b) = E (tell m b):=E_tellN 17 m b
theorem E_leave (b : Br) (k : Nat) : leave (E b) k = E (leave b k):=E_leaveW (E_tellN 16) b k
theorem E_send (m : M) (b : Br) (k : Nat) : send m (E b) k = E (send m b k):=E_sendW (fun b k=>E_leaveW (E_tellN 16) b k) m b k
theorem E_shut (b : Br) (k w : Nat) : shut (E b) k w = E (shut b k w):=by unfold shut; rw [E_send,E_leave]
theorem E_holderN : ∀ (n : Nat) (b : Br),holderN n (E b) = E (holderN n b)
  | 0,_=>rfl
  | n + 1,b=>by
    show (if fhold b.fl = b.told then E b else holderN n (tell (mfloor (fhold b.fl)) (E (toldB b)))) = E (if fhold b.fl = b.told then b else holderN n (tell (mfloor (fhold b.fl)) (toldB b)))
    rw [E_tell,E_holderN n]
    split <;> rfl
theorem E_holder (b : Br) : holder (E b) = E (holder b):=E_holderN 18 b
theorem E_serveN : ∀ (n : Nat) (b : Br) (k : Nat),serveN n (E b) k = E (serveN n b k)
  | 0,_,_=>rfl
  | n + 1,b,k=>by
    rcases hc : b.cs k with _ | c
    · have h1 : serveN (n + 1) b k = b:=by show (match b.cs k with | none=>b | some c=>_) = b; rw [hc]
      have h2 : serveN (n + 1) (E b) k = E b:=by show (match (E b).cs k with | none=>E b | some c=>_) = E b; rw [E_none hc]
      rw [h1,h2]
    · rw [serveN_succ n b k hc,serveN_succ n (E b) k (E_some hc)]
      have hn : nextB (E b) (ef c) = nextB b c:=rfl
      rw [hn]
      rcases nextB b c with _ | ⟨m,p,s⟩
      · rfl
      · have hs : served (E b) k (ef c) m p s = E (served b k c m p s):=by
          unfold served
          rw [← E_setc]
          congr 1
          show some _ = some _
          congr 1
          unfold putc ef
          show (if c.out.length + (enc m).length≤b.cf.queue then _ else _) = _
          split <;> rfl
        show (if m.k = 12 then leave (served (E b) k (ef c) m p s) k else serveN n (served (E b) k (ef c) m p s) k) = E (if m.k = 12 then leave (served b k c m p s) k else serveN n (served b k c m p s) k)
        rw [hs,E_leave,E_serveN n]
        split <;> rfl
theorem E_serve (b : Br) (k : Nat) : serve (E b) k = E (serve b k):=E_serveN _ b k
theorem E_reap (b : Br) : reap (E b) = E (reap b):=by
  have hd : ∀ k,done (E b) k = done b k:=fun k=>by
    unfold done
    rw [E_cs]
    rcases b.cs k with _ | c <;> rfl
  unfold reap E mapc
  congr 1
  funext k
  show (if 1≤k∧k≤16∧done (E b) k = true then none else (b.cs k).map ef) = ((if 1≤k∧k≤16∧done b k = true then none else b.cs k) : Option Cn).map ef
  rw [hd]
  split <;> rfl
theorem E_settle (b : Br) : settle (E b) = E (settle b):=by
  unfold settle
  rw [E_holder,E_goes E_serve,E_holder,E_reap]
theorem E_joinB (b : Br) (k : Nat) (m : M) : joinB (E b) k m = E (joinB b k m):=by
  rw [joinB_eq,joinB_eq,E_tell]
  obtain ⟨b1,hb1⟩ : ∃ b1,tell (joined k m.t) b = b1:=⟨_,rfl⟩
  rw [hb1]
  rcases hc : b1.cs k with _ | c
  · rw [E_none hc]
  · rw [E_some hc]
    show joinR (E b1) k (ef c) m = E (joinR b1 k c m)
    have hY : ∀ (x : Br),joinY (E x) k = E (joinY x k):=fun x=>by
      unfold joinY
      show (if x.ended = true then send (mexit x.code) (E x) k else E x) = _
      rw [E_send]
      split <;> rfl
    have hX : ∀ (x : Br),joinX (E x) k = E (joinX x k):=fun x=>by
      unfold joinX
      show joinY (send (mfloor x.told) (E x) k) k = _
      rw [E_send,hY]
    unfold joinR
    rw [← hX,← E_send]
    show joinX (send _ (setFl (setc (E b1) k ((some (opened c m.t (comeAt b1 m)) : Option Cn).map ef)) _) k) k = _
    rw [E_setc]
    rfl
theorem E_hello (b : Br) (k : Nat) (m : M) : hello (E b) k m = E (hello b k m):=by
  unfold hello
  rw [E_shut,E_shut,E_shut,E_joinB]
  split
  · rfl
  split
  · rfl
  split <;> rfl
theorem E_listB (b : Br) (k : Nat) : listB (E b) k = E (listB b k):=by
  unfold listB
  refine E_goes (fun b j=>?_) ids b
  have : listLine (E b) j = listLine b j:=by
    unfold listLine
    rw [E_cs]
    rcases b.cs j with _ | c <;> rfl
  rw [this,E_send]
theorem E_userB (b : Br) (n : Int) : userB (E b) n = userB b n:=by unfold userB; rw [E_opn]
theorem E_doB (b : Br) (k : Nat) (o : Option (Int×Int)) : doB (E b) k o = (E (doB b k o).1,(doB b k o).2):=by
  rcases o with _ | ⟨kind,n⟩
  · rfl
  · unfold doB
    show (if isOwners kind = true∧rrole b.fl.roles k≠2 then (E b,false) else _) = (E (if isOwners kind = true∧rrole b.fl.roles k≠2 then (b,false) else _ : Br×Bool).1,(if isOwners kind = true∧rrole b.fl.roles k≠2 then (b,false) else _ : Br×Bool).2)
    by_cases h0 : isOwners kind = true∧rrole b.fl.roles k≠2
    · rw [if_pos h0,if_pos h0]
    rw [if_neg h0,if_neg h0]
    by_cases h1 : kind = 1
    · rw [if_pos h1,if_pos h1]; rfl
    rw [if_neg h1,if_neg h1]
    by_cases h2 : kind = 2
    · rw [if_pos h2,if_pos h2]; rfl
    rw [if_neg h2,if_neg h2]
    by_cases h3 : kind = 3
    · rw [if_pos h3,if_pos h3,E_listB]
    rw [if_neg h3,if_neg h3]
    by_cases h4 : kind = 4
    · rw [if_pos h4,if_pos h4,E_shut]
    rw [if_neg h4,if_neg h4]
    by_cases h5 : kind = 5
    · rw [if_pos h5,if_pos h5]; rfl
    rw [if_neg h5,if_neg h5]
    by_cases h6 : kind = 10
    · rw [if_pos h6,if_pos h6]
      rcases hc : b.cs k with _ | c
      · rw [E_none hc]
      · rw [E_some hc]
        show (setc (E b) k ((some { c with p:=startOf b.L.length b.cf.log n } : Option Cn).map ef),true) = _
        rw [E_setc]
    rw [if_neg h6,if_neg h6]
    by_cases h7 : kind = 11
    · rw [if_pos h7,if_pos h7]
      split <;> rfl
    rw [if_neg h7,if_neg h7,E_userB]
    rcases userB b n with _ | j
    · rfl
    · show (if kind = 6 then _ else if kind = 7 then _ else if kind = 8 then _ else if kind = 9 then _ else _) = (E (if kind = 6 then _ else if kind = 7 then _ else if kind = 8 then _ else if kind = 9 then _ else _ : Br×Bool).1,(if kind = 6 then _ else if kind = 7 then _ else if kind = 8 then _ else if kind = 9 then _ else _ : Br×Bool).2)
      by_cases h8 : kind = 6
      · rw [if_pos h8,if_pos h8]; rfl
      rw [if_neg h8,if_neg h8]
      by_cases h9 : kind = 7
      · rw [if_pos h9,if_pos h9,E_shut]
      rw [if_neg h9,if_neg h9]
      by_cases h10 : kind = 8
      · rw [if_pos h10,if_pos h10]; rfl
      rw [if_neg h10,if_neg h10]
      by_cases h11 : kind = 9
      · rw [if_pos h11,if_pos h11]; rfl
      rw [if_neg h11,if_neg h11]
theorem E_cmds (k : Nat) : ∀ (l : List Bs) (b : Br),cmds (E b) k l = E (cmds b k l)
  | [],_=>rfl
  | s :: l,b=>by
    show (if opn (E b) k then cmds (holder (if (doB (E b) k (parse s)).2 then (doB (E b) k (parse s)).1 else send ⟨11,0,0,s⟩ (doB (E b) k (parse s)).1 k)) k l else E b) = E (if opn b k then cmds (holder (if (doB b k (parse s)).2 then (doB b k (parse s)).1 else send ⟨11,0,0,s⟩ (doB b k (parse s)).1 k)) k l else b)
    rw [E_opn,E_doB]
    dsimp only
    rw [E_send]
    have : (if (doB b k (parse s)).2 = true then E (doB b k (parse s)).1 else E (send ⟨11,0,0,s⟩ (doB b k (parse s)).1 k)) = E (if (doB b k (parse s)).2 = true then (doB b k (parse s)).1 else send ⟨11,0,0,s⟩ (doB b k (parse s)).1 k):=by split <;> rfl
    rw [this,E_holder,E_cmds k l]
    split <;> rfl
theorem E_offered (b : Br) (k : Nat) (a : Int) (ks : Bs) : offered (E b) k a ks = E (offered b k a ks):=by
  have hw : whyB (E b) k ks.length = whyB b k ks.length:=rfl
  unfold offered
  rw [hw,E_send]
  split
  · rfl
  · split <;> rfl
theorem E_keysB (b : Br) (k : Nat) (m : M) : keysB (E b) k m = E (keysB b k m):=by
  rcases hc : b.cs k with _ | c
  · unfold keysB
    rw [hc,E_none hc]
  · rw [keysB_eq hc,keysB_eq (E_some hc)]
    show cmds (offered (setc (E b) k ((some { c with lx:=lrun c.lx m.t } : Option Cn).map ef)) k m.a (lkeys c.lx m.t)) k (lcmds c.lx m.t) = _
    rw [E_setc,E_offered,E_cmds]
theorem E_takeB (b : Br) (k : Nat) (o : Option M) : takeB (E b) k o = E (takeB b k o):=by
  rcases o with _ | m
  · exact E_shut b k 4
  · have h0 : ∀ x : Br,(match (E x).cs k with | some c=>decide (c.st = 0) | none=>false) = (match x.cs k with | some c=>decide (c.st = 0) | none=>false):=fun x=>by
      rw [E_cs]
      rcases x.cs k with _ | c <;> rfl
    show (if (match (E b).cs k with | some c=>decide (c.st = 0) | none=>false) then hello (E b) k m else if m.k = 2 then keysB (E b) k m else if m.k = 3 then send ⟨14,0,0,[]⟩ (E b) k else if m.k = 4 then shut (E b) k 0 else shut (E b) k 4) = E (if (match b.cs k with | some c=>decide (c.st = 0) | none=>false) then hello b k m else if m.k = 2 then keysB b k m else if m.k = 3 then send ⟨14,0,0,[]⟩ b k else if m.k = 4 then shut b k 0 else shut b k 4)
    rw [h0,E_hello,E_keysB,E_send,E_shut,E_shut]
    (repeat' split) <;> rfl
theorem E_takes (k : Nat) : ∀ (l : List (BitVec 8×Bs)) (b : Br),takes (E b) k l = E (takes b k l)
  | [],_=>rfl
  | f :: l,b=>by
    show (if closing (E b) k then E b else takes (holder (takeB (E b) k (mof f))) k l) = E (if closing b k then b else takes (holder (takeB b k (mof f))) k l)
    rw [E_closing,E_takeB,E_holder,E_takes k l]
    split <;> rfl
theorem E_recvX (e : Nat) (b : Br) (k : Nat) : recvX e (E b) k = E (recvX e b k):=by
  unfold recvX
  rw [E_closing,E_shut]
  split <;> rfl
theorem E_output (b : Br) (t : Bs) : outputB (E b) t = E (outputB b t):=by
  unfold outputB
  show (if b.ended = true then E b else settle (E { b with L:=b.L ++ t,sp:=Sp.nxts b.sp t })) = _
  rw [E_settle]
  split <;> rfl
theorem E_there (b : Br) (id : Int) : isThere (E b) id = isThere b id:=by
  unfold isThere
  rw [E_cs,Option.isSome_map]
theorem E_write (b : Br) (id n : Int) : writeT (E b) id n = writeT b id n∧writeE (E b) id = writeE b id∧writeB (E b) id n = E (writeB b id n):=by
  have ht:=E_there b id
  refine ⟨?_,by unfold writeE; rw [ht],?_⟩
  · unfold writeT
    rw [ht,E_cs]
    rcases b.cs id.toNat with _ | c <;> rfl
  · unfold writeB
    rw [ht]
    rcases hc : b.cs id.toNat with _ | c
    · rw [E_none hc]
      split <;> rfl
    · rw [E_some hc]
      show (if isThere b id = true then settle (setc (E b) id.toNat ((some { c with out:=c.out.drop (takeN n c.out.length) } : Option Cn).map ef)) else E b) = _
      rw [E_setc,E_settle]
      split <;> rfl
structure PK (b : Br) : Prop where
  two : ∀ j,(b.cs j).isSome = true→j = 1∨j = 2
  out : ∀ c,b.cs 2 = some c→c.out≠[]
  idle : ∀ c,b.cs 1 = some c→c.idle = 0
theorem PK.set {b : Br} (h : PK b) {j : Nat} {c c' : Cn} (hc : b.cs j = some c) (ho : c.out≠[]→c'.out≠[]) (hi : c.idle = 0→c'.idle = 0) : PK (setc b j (some c')):=by
  refine ⟨fun i hi=>?_,fun d hd=>?_,fun d hd=>?_⟩
  · by_cases e : i = j
    · subst e; exact h.two i (by rw [hc]; rfl)
    · rw [setc_ne _ _ _ e] at hi; exact h.two i hi
  · by_cases e : 2 = j
    · subst e; rw [setc_cs] at hd; injection hd with hd; subst hd; exact ho (h.out c hc)
    · rw [setc_ne _ _ _ e] at hd; exact h.out d hd
  · by_cases e : 1 = j
    · subst e; rw [setc_cs] at hd; injection hd with hd; subst hd; exact hi (h.idle c hc)
    · rw [setc_ne _ _ _ e] at hd; exact h.idle d hd
theorem pk_all : KAll PK where
  gone:=fun b k c h hc _ _=>by
    have:=h.set (c':={ c with st:=2 }) hc id id
    unfold gone
    split
    · exact ⟨this.two,this.out,this.idle⟩
    · exact this
  plus:=fun b k c m h hc _ _=>h.set hc (fun ho e=>ho (List.append_eq_nil_iff.1 e).1) id
  told:=fun b h=>⟨h.two,h.out,h.idle⟩
  served:=fun b k c m p s h hc _ _=>by
    have hp:=putc_same b.cf.queue { c with p:=p,s:=s } (enc m)
    refine h.set hc (fun ho=>?_) (fun hi=>by rw [hp.2.2.2.2.1]; exact hi)
    unfold putc
    split
    · exact fun e=>ho (List.append_eq_nil_iff.1 e).1
    · exact ho
  reap:=fun b h=>by
    have hr : ∀ j c,(reap b).cs j = some c→b.cs j = some c:=fun j c hc=>by
      replace hc : (if 1≤j∧j≤16∧done b j = true then none else b.cs j) = some c:=hc
      split at hc
      · cases hc
      · exact hc
    refine ⟨fun j hj=>?_,fun c hc=>h.out c (hr 2 c hc),fun c hc=>h.idle c (hr 1 c hc)⟩
    obtain ⟨c,hc⟩:=Option.isSome_iff_exists.1 hj
    exact h.two j (by rw [hr j c hc]; rfl)
  idle0:=fun b k c h hc=>h.set hc id fun _=>rfl
  fd:=fun b k c t h hc=>h.set hc id id
  lx:=fun b k c t h hc=>h.set hc id id
  join:=fun b k c t p r h hc _ _ _ _ _ _ _ _=>by
    have:=h.set (c':=opened c t p) hc id id
    exact ⟨this.two,this.out,this.idle⟩
  fl:=fun b s h _=>⟨h.two,h.out,h.idle⟩
  again:=fun b k c p h hc _=>h.set hc id id
  strikes:=fun b n h _=>⟨h.two,h.out,h.idle⟩
  typed:=fun b ks h _ _=>⟨h.two,h.out,h.idle⟩
theorem takes_told {k : Nat} : ∀ (l : List (BitVec 8×Bs)) {b : Br},fhold b.fl = b.told→fhold (takes b k l).fl = (takes b k l).told
  | [],_,h=>h
  | f :: l,b,h=>by
    show fhold (if closing b k then b else takes (holder (takeB b k (mof f))) k l).fl = (if closing b k then b else takes (holder (takeB b k (mof f))) k l).told
    split
    · exact h
    · exact takes_told l (holder_told _ _ (Nat.le_refl _))
structure Ck (b : Br) : Prop where
  ok : BOk b
  L : b.L = []
  pk : PK b
  told : fhold b.fl = b.told
theorem Ck.rest {b : Br} (h : Ck b) (hcl : closing b 1 = false) : Rest b:=by
  refine ⟨h.told,fun k c hc _=>next_end ?_,fun k c hc h2=>?_⟩
  · have:=(h.ok.cn k c hc).p
    rw [h.L] at this ⊢
    exact Nat.le_zero.1 this
  · rcases h.pk.two k (by rw [hc]; rfl) with rfl | rfl
    · unfold closing at hcl
      rw [hc] at hcl
      simp [h2] at hcl
    · exact h.pk.out c hc
theorem Ck.takes {b : Br} (h : Ck b) (l : List (BitVec 8×Bs)) : Ck (takes b 1 l):=
  ⟨bok_all.takes (by decide) (by decide) l h.ok,((pl_all fun L _ _ _ _=>L = []).takes (by decide) (by decide) l (show PL _ b from h.L)),pk_all.takes (by decide) (by decide) l h.pk,takes_told l h.told⟩
noncomputable def ckX (b : Br) (s : Fs) (t : Bs) : Br:=takes (E b) 1 (fgot s t)
noncomputable def ckH (b : Br) (s : Fs) (t : Bs) : Br:=settle (recvX (fpush s t).e (ckX b s t) 1)
theorem bytes_ck {b : Br} (hp : PK b) {c : Cn} (hc : b.cs 1 = some c) (hst : c.st≠2) (t : Bs) : bytesE b 1 = 0∧E (bytesB b 1 t) = settle (recvX (fpush c.fd t).e (takes (E b) 1 (fgot c.fd t)) 1):=by
  have ht : isThere b 1 = true:=there_of hc (by decide) (by decide)
  have he : bytesE b 1 = 0:=by
    unfold bytesE
    rw [if_pos ht]
    show (if closing b 1 = true then 3 else 0) = 0
    unfold closing
    rw [hc]
    simp [hst]
  refine ⟨he,?_⟩
  have hb : bytesB b 1 t = settle (recvB b 1 t):=by
    unfold bytesB
    rw [if_pos he]
    show settle (recvB (match b.cs 1 with | some c=>(if t = [] then b else setc b 1 (some { c with idle:=0 })) | none=>b) 1 t) = _
    rw [hc]
    show settle (recvB (if t = [] then b else setc b 1 (some { c with idle:=0 })) 1 t) = _
    have : ({ c with idle:=0 } : Cn) = c:=by rw [← hp.idle c hc]
    rw [this,setc_as hc]
    split <;> rfl
  rw [hb,← E_settle,recvB_eq hc,← E_recvX,← E_takes,← E_setc]
  have : setc (E b) 1 ((some { c with fd:=fpush c.fd t } : Option Cn).map ef) = E b:=setc_as (b:=E b) (c:=ef c) (E_some hc)
  rw [this]
theorem Ck.E {b : Br} (h : Ck b) : Ck (E b):=by
  have hx : ∀ j d,(Bk.E b).cs j = some d→∃ c,b.cs j = some c∧d = ef c:=fun j d hd=>by
    rw [E_cs] at hd
    obtain ⟨c,hc,rfl⟩:=Option.map_eq_some_iff.1 hd
    exact ⟨c,hc,rfl⟩
  refine ⟨⟨h.ok.log,h.ok.data,h.ok.queue,h.ok.input,h.ok.idle,h.ok.strikes,h.ok.fok,h.ok.rin,h.ok.len,h.ok.told,h.ok.code,fun j d hd=>?_⟩,h.L,⟨fun j hj=>?_,fun d hd=>?_,fun d hd=>?_⟩,h.told⟩
  · obtain ⟨c,hc,rfl⟩:=hx j d hd
    have:=h.ok.cn j c hc
    exact ⟨this.p,this.s,this.name,this.st⟩
  · rw [E_cs,Option.isSome_map] at hj; exact h.pk.two j hj
  · obtain ⟨c,hc,rfl⟩:=hx 2 d hd
    exact h.pk.out c hc
  · obtain ⟨c,hc,rfl⟩:=hx 1 d hd
    exact h.pk.idle c hc
noncomputable def each (b : Br) : Bs→Br
  | []=>b
  | t=>t.foldl (fun x y=>bytesB x 1 [y]) b
theorem each_eq (b : Br) (t : Bs) : each b t = t.foldl (fun x y=>bytesB x 1 [y]) b:=by cases t <;> rfl
theorem each_snoc (b : Br) (t : Bs) (y : BitVec 8) : each b (t ++ [y]) = bytesB (each b t) 1 [y]:=by rw [each_eq,each_eq,List.foldl_append]; rfl
theorem ckH_open {b : Br} {s : Fs} (h : Ck b) {t : Bs} (ho : closing (ckH b s t) 1 = false) : (fpush s t).e = 0∧closing (ckX b s t) 1 = false∧ckH b s t = ckX b s t:=by
  have hX:=h.E.takes (fgot s t)
  by_cases hc : closing (ckX b s t) 1 = true
  · exfalso
    have : ckH b s t = settle (ckX b s t):=by unfold ckH; rw [recvX_same (.inr hc)]
    rw [this,(closing_core 1).settle hc] at ho
    cases ho
  · have hc : closing (ckX b s t) 1 = false:=by simpa using hc
    by_cases he : (fpush s t).e = 0
    · refine ⟨he,hc,?_⟩
      unfold ckH
      rw [recvX_same (.inl he)]
      exact settle_rest (hX.rest hc)
    · exfalso
      have : ckH b s t = settle (shut (ckX b s t) 1 1):=by unfold ckH; rw [recvX_shut he hc]
      rw [this,(closing_core 1).settle (shut_closes 1)] at ho
      cases ho
theorem ckH_shut {b : Br} {s : Fs} (h : Ck b) (hs : s.e = 0) {t v : Bs} (hcl : closing (ckH b s t) 1 = true) : ckH b s (t ++ v) = ckH b s t:=by
  have hX:=h.E.takes (fgot s t)
  obtain ⟨g1,g2⟩:=fgot_app hs t v
  by_cases he : (fpush s t).e = 0
  · obtain ⟨g3,g4⟩:=g1 he
    have hc : closing (ckX b s t) 1 = true:=by
      by_cases hc : closing (ckX b s t) 1 = true
      · exact hc
      · exfalso
        have hc : closing (ckX b s t) 1 = false:=by simpa using hc
        have : ckH b s t = ckX b s t:=by unfold ckH; rw [recvX_same (.inl he)]; exact settle_rest (hX.rest hc)
        rw [this,hc] at hcl
        cases hcl
    have hX2 : ckX b s (t ++ v) = ckX b s t:=by
      unfold ckX
      rw [g3,takes_app]
      exact takes_shut hc _
    unfold ckH
    rw [hX2,recvX_same (.inr hc),recvX_same (.inr hc)]
  · obtain ⟨g3,g4⟩:=g2 he
    unfold ckH ckX
    rw [g3,g4]
theorem each_is {b : Br} (h : Ck b) {c : Cn} (hc : b.cs 1 = some c) (hst : c.st≠2) (he : c.fd.e = 0) (hl : c.fd.l = []) :
    ∀ r : Bs,E (each b r.reverse) = ckH b c.fd r.reverse∧PK (each b r.reverse)∧(∀ d,(each b r.reverse).cs 1 = some d→d.st≠2→d.fd = fpush c.fd r.reverse)
  | []=>by
    have hnil : fgot c.fd [] = []∧fpush c.fd [] = c.fd:=by
      have ht : tfs [] = []∧trest [] = []:=by
        have:=tells_eq (Tells.stop [] (by rw [err_nil]; decide))
        exact ⟨this.1.symm,this.2.symm⟩
      unfold fgot fpush
      rw [if_pos he,if_pos he,hl]
      show tfs [] = []∧(⟨keep (trest []),broke (trest [])⟩ : Fs) = _
      rw [ht.1,ht.2,keep_nil.1,keep_nil.2]
      refine ⟨rfl,?_⟩
      rcases hf : c.fd with ⟨l,e⟩
      rw [hf] at he hl
      simp only at he hl
      rw [he,hl]
    refine ⟨?_,h.pk,fun d hd _=>?_⟩
    · show E b = settle (recvX (fpush c.fd []).e (takes (E b) 1 (fgot c.fd [])) 1)
      rw [hnil.1,hnil.2,recvX_same (.inl he)]
      show E b = settle (E b)
      refine (settle_rest (h.E.rest ?_)).symm
      rw [E_closing]
      unfold closing
      rw [hc]
      simp [hst]
    · replace hd : b.cs 1 = some d:=hd
      rw [hc] at hd
      injection hd with hd
      rw [← hd]
      exact hnil.2.symm
  | y :: r=>by
    obtain ⟨i1,i2,i3⟩:=each_is h hc hst he hl r
    obtain ⟨t,ht⟩ : ∃ t,r.reverse = t:=⟨_,rfl⟩
    have hr : (y :: r).reverse = t ++ [y]:=by rw [List.reverse_cons,ht]
    rw [ht] at i1 i2 i3
    rw [hr,each_snoc]
    by_cases hcl : closing (each b t) 1 = true
    · have hE : bytesE (each b t) 1≠0:=by
        unfold bytesE
        show (if isThere (each b t) 1 = true then (if closing (each b t) 1 = true then 3 else 0) else 2)≠0
        rw [hcl]
        split <;> decide
      have hb : bytesB (each b t) 1 [y] = each b t:=by unfold bytesB; rw [if_neg hE]
      rw [hb]
      refine ⟨?_,i2,fun d hd h2=>?_⟩
      · rw [i1]
        refine (ckH_shut h he ?_).symm
        rw [← i1,E_closing]
        exact hcl
      · exfalso
        unfold closing at hcl
        rw [hd] at hcl
        simp at hcl
        exact h2 hcl
    · have hcl : closing (each b t) 1 = false:=by simpa using hcl
      obtain ⟨o1,o2,o3⟩:=ckH_open (b:=b) (s:=c.fd) h (t:=t) (by rw [← i1,E_closing]; exact hcl)
      obtain ⟨d,hd,hd2⟩ : ∃ d,(each b t).cs 1 = some d∧d.st≠2:=by
        rcases hx : (each b t).cs 1 with _ | d
        · unfold closing at hcl; rw [hx] at hcl; cases hcl
        · refine ⟨d,rfl,fun e=>?_⟩
          unfold closing at hcl
          rw [hx] at hcl
          simp [e] at hcl
      have hfd:=i3 d hd hd2
      obtain ⟨g1,g2⟩:=(fgot_app he t [y]).1 o1
      obtain ⟨b1,b2⟩:=bytes_ck i2 hd hd2 [y]
      refine ⟨?_,pk_all.bytes i2 1 [y],?_⟩
      · rw [b2,hfd,i1,o3]
        unfold ckH
        rw [g2]
        unfold ckX
        rw [g1,takes_app]
      · have hP : ∀ x,(bytesB (each b t) 1 [y]).cs 1 = some x→x.fd = fpush d.fd [y]:=by
          unfold bytesB
          rw [if_pos b1]
          show ∀ x,(settle (recvB (match (each b t).cs 1 with | some c=>(if [y] = [] then each b t else setc (each b t) 1 (some { c with idle:=0 })) | none=>each b t) 1 [y])).cs 1 = some x→x.fd = fpush d.fd [y]
          rw [hd]
          show ∀ x,(settle (recvB (if [y] = [] then each b t else setc (each b t) 1 (some { d with idle:=0 })) 1 [y])).cs 1 = some x→x.fd = fpush d.fd [y]
          rw [if_neg (by simp)]
          refine (pcf_take 1 (fpush d.fd [y])).settle ?_
          rw [recvB_eq (setc_cs _ _ _)]
          have h0 : ∀ x,(takes (setc (setc (each b t) 1 (some { d with idle:=0 })) 1 (some { d with idle:=0,fd:=fpush d.fd [y] })) 1 (fgot d.fd [y])).cs 1 = some x→x.fd = fpush d.fd [y]:=(pcf_take 1 (fpush d.fd [y])).takes (k:=1) (by decide) (by decide) _ fun x hx=>by
            rw [setc_cs] at hx
            injection hx with hx
            rw [← hx]
          unfold recvX
          split
          · exact h0
          · exact (pcf_take 1 (fpush d.fd [y])).shut h0 (by decide) (by decide) 1
        intro x hx _
        rw [hP x hx,hfd,g2]
theorem chunks {b : Br} (h : Ck b) {c : Cn} (hc : b.cs 1 = some c) (hst : c.st≠2) (he : c.fd.e = 0) (hl : c.fd.l = []) (t : Bs) : E (each b t) = E (bytesB b 1 t):=by
  have h1:=(each_is h hc hst he hl t.reverse).1
  rw [List.reverse_reverse] at h1
  rw [h1,(bytes_ck h.pk hc hst t).2]
  rfl
end Go.Proofs.YtjmdddhbdofppaaGreatDoor.Bk
