/- The broker's mathematics: a user alone to whom nothing is written misses bytes, and is sent away. No program is named here. -/
import Derived.Test.YtjmdddhbdofppaaGreatDoorZcQa
import Derived.Test.YtjmdddhbdofppaaGreatDoorZcQj

namespace Go.Proofs.YtjmdddhbdofppaaGreatDoor.Bk
open Fr Lx
def gaps : List M→Nat
  | []=>0
  | m :: ms=>(if m.k = 7 then 1 else 0) + gaps ms
theorem gaps_app : ∀ (a b : List M),gaps (a ++ b) = gaps a + gaps b
  | [],b=>(Nat.zero_add _).symm
  | m :: a,b=>by show (if m.k = 7 then 1 else 0) + gaps (a ++ b) = (if m.k = 7 then 1 else 0) + gaps a + gaps b; rw [gaps_app a b]; omega
theorem gaps_take : ∀ (l : List M) (j : Nat),gaps (l.take (j + 1)) = gaps (l.take j) + (match l[j]? with | some m=>if m.k = 7 then 1 else 0 | none=>0)
  | [],j=>by simp [gaps]
  | m :: l,0=>by simp [gaps]
  | m :: l,j + 1=>by
    have:=gaps_take l j
    show (if m.k = 7 then 1 else 0) + gaps (l.take (j + 1)) = (if m.k = 7 then 1 else 0) + gaps (l.take j) + _
    rw [this]
    simp
    omega
def cfE (size strikes : Nat) : Cf:=⟨size,8,320,9,strikes,5,0,9⟩
structure Waits (strikes : Nat) (c : Cn) : Prop where
  ms : ∃ ms,c.out = encs ms∧(∀ m∈ms,m.ok = true)∧gaps ms = c.s
  s : c.s≤strikes
  out : c.out.length≤120
  st : c.st = 1
structure Sent (strikes : Nat) (c : Cn) : Prop where
  ms : ∃ ms,c.out = encs (ms ++ [⟨12,0,0,[]⟩])∧(∀ m∈ms,m.ok = true)∧gaps ms≤strikes
  st : c.st = 2
  out : c.out.length≤125
theorem ev_next {L : Bs} {size strikes : Nat} {c : Cn} {m : M} {p s : Nat} (h : Waits strikes c) (hs9 : strikes≤9) (hp : c.p≤L.length) (hL : L.length≤1000000) (hn : nextOf L size c.p c.s ((320 : Nat) - c.out.length - 200) 8 strikes = some (m,p,s)) :
    (m.k = 12∧m = ⟨12,0,0,[]⟩∧s = c.s)∨(m.k≠12∧p≤L.length∧c.s≤s∧(c.p < L.length - size→c.s < s)∧Waits strikes (putc 320 { c with p:=p,s:=s } (enc m))):=by
  obtain ⟨ms,h1,h2,h3⟩:=h.ms
  obtain ⟨n1,n2,n3,n4,n5⟩:=next_ok hp (by have:=h.s; omega) hs9 (by omega) hn
  by_cases hk : m.k = 12
  · left
    unfold nextOf at hn
    split at hn
    · split at hn
      · injection hn with hn; injection hn with e1 hn; injection hn with e2 e3
        exact ⟨hk,e1.symm,e3.symm⟩
      · injection hn with hn; injection hn with e1 hn
        rw [← e1] at hk; cases hk
    · split at hn
      · cases hn
      · injection hn with hn; injection hn with e1 hn
        rw [← e1] at hk; cases hk
  · right
    have hg : s = c.s + (if m.k = 7 then 1 else 0)∧s≤strikes∧(c.p < L.length - size→c.s < s):=by
      unfold nextOf at hn
      split at hn
      · split at hn
        · injection hn with hn; injection hn with e1 hn
          rw [← e1] at hk; exact absurd rfl hk
        · next h5 =>
          injection hn with hn; injection hn with e1 hn; injection hn with e2 e3
          subst e1
          refine ⟨by rw [if_pos rfl]; exact e3.symm,by omega,fun _=>by omega⟩
      · next h5 =>
        split at hn
        · cases hn
        · injection hn with hn; injection hn with e1 hn; injection hn with e2 e3
          subst e1
          refine ⟨by rw [if_neg (by show ¬ (6 : Int) = 7; decide)]; omega,by have:=h.s; omega,fun h9=>absurd h9 h5⟩
    have hlen:=(n5 hk).2
    have hfit : c.out.length + (enc m).length≤320:=by have:=h.out; omega
    refine ⟨hk,n1,by omega,hg.2.2,?_⟩
    have e : putc 320 { c with p:=p,s:=s } (enc m) = { c with p:=p,s:=s,out:=c.out ++ enc m }:=by
      unfold putc
      rw [if_pos hfit]
    rw [e]
    refine ⟨⟨ms ++ [m],?_,fun x hx=>?_,?_⟩,hg.2.1,?_,h.st⟩
    · show c.out ++ enc m = _
      rw [encs_app,← h1,encs_one]
    · rcases List.mem_append.1 hx with hx | hx
      · exact h2 x hx
      · rw [List.mem_singleton.1 hx]; exact n3
    · show gaps (ms ++ [m]) = s
      rw [gaps_app,h3,hg.1]
      show c.s + ((if m.k = 7 then 1 else 0) + 0) = _
      omega
    · show (c.out ++ enc m).length≤120
      rw [List.length_append]
      have:=h.out
      omega
theorem ev_leave {B : Br} {c : Cn} (hst : c.st = 1) : leave (lone B 1 c) 1 = lone (setFl B (fleave B.fl 1)) 1 { c with st:=2 }:=by
  show leaveW (tellN 16) (lone B 1 c) 1 = _
  unfold leaveW
  rw [lone_cs]
  show (if c.st = 1 then tellN 16 (left 1) (setFl (setc (lone B 1 c) 1 (some { c with st:=2 })) (fleave B.fl 1)) else _) = _
  refine (if_pos hst).trans ?_
  rw [lone_setc]
  exact goes_none _ ids fun j _=>lone_in1 (b:=setFl B (fleave B.fl 1)) (k:=1) (c:={ c with st:=2 }) (by show ¬ (2 : Nat) = 1; decide) j
def EvTo (B : Br) (strikes lo : Nat) (b : Br) : Prop:=
  (∃ c,b = lone B 1 c∧Waits strikes c∧c.p≤B.L.length∧lo≤c.s)∨(∃ c,b = lone (setFl B (fleave B.fl 1)) 1 c∧Sent strikes c)
theorem ev_serve {size strikes : Nat} (hs9 : strikes≤9) {B : Br} (hcf : B.cf = cfE size strikes) (hst : B.strikes = strikes) (hL : B.L.length≤1000000) : ∀ (n : Nat) (c : Cn),Waits strikes c→c.p≤B.L.length→EvTo B strikes c.s (serveN n (lone B 1 c) 1)
  | 0,c,h,hp=>.inl ⟨c,rfl,h,hp,Nat.le_refl _⟩
  | n + 1,c,h,hp=>by
    rw [serveN_succ n (lone B 1 c) 1 (lone_cs B 1 c)]
    rcases hn : nextB (lone B 1 c) c with _ | ⟨m,p,s⟩
    · exact .inl ⟨c,rfl,h,hp,Nat.le_refl _⟩
    · have hn' : nextOf B.L size c.p c.s ((320 : Nat) - c.out.length - 200) 8 strikes = some (m,p,s):=by
        have e : nextB (lone B 1 c) c = nextOf B.L B.cf.log c.p c.s ((B.cf.queue : Int) - c.out.length - 200) B.cf.data B.strikes:=rfl
        rw [e,hcf,hst] at hn
        exact hn
      have hsv : served (lone B 1 c) 1 c m p s = lone B 1 (putc 320 { c with p:=p,s:=s } (enc m)):=by
        unfold served
        rw [show (lone B 1 c).cf.queue = 320 by show B.cf.queue = 320; rw [hcf]; rfl,lone_setc]
      show EvTo B strikes c.s (if m.k = 12 then leave (served (lone B 1 c) 1 c m p s) 1 else serveN n (served (lone B 1 c) 1 c m p s) 1)
      rw [hsv]
      rcases ev_next h hs9 hp hL hn' with ⟨hk,he,hs⟩ | ⟨hk,h1,h2,_,h3⟩
      · rw [if_pos hk]
        obtain ⟨ms,g1,g2,g3⟩:=h.ms
        have hfit : c.out.length + (enc m).length≤320:=by
          have:=h.out
          rw [he,enc_len5]
          show c.out.length + (6 * 0 + 0 + 5)≤320
          omega
        have e : putc 320 { c with p:=p,s:=s } (enc m) = { c with p:=p,s:=s,out:=c.out ++ enc m }:=by
          unfold putc
          rw [if_pos hfit]
        rw [e,ev_leave (by exact h.st)]
        refine .inr ⟨_,rfl,⟨ms,?_,g2,by have:=h.s; omega⟩,rfl,?_⟩
        · show c.out ++ enc m = _
          rw [encs_app,← g1,encs_one,he]
        · show (c.out ++ enc m).length≤125
          rw [List.length_append,he,enc_len5]
          have:=h.out
          show c.out.length + (6 * 0 + 0 + 5)≤125
          omega
      · rw [if_neg hk]
        have hp2:=putc_same 320 { c with p:=p,s:=s } (enc m)
        have hih:=ev_serve hs9 hcf hst hL n (putc 320 { c with p:=p,s:=s } (enc m)) h3 (by rw [hp2.2.1]; exact h1)
        rcases hih with ⟨c',a1,a2,a3,a4⟩ | hih
        · refine .inl ⟨c',a1,a2,a3,?_⟩
          rw [hp2.2.2.1] at a4
          exact Nat.le_trans h2 a4
        · exact .inr hih
theorem ev_serve1 {size strikes : Nat} (hs9 : strikes≤9) {B : Br} (hcf : B.cf = cfE size strikes) (hst : B.strikes = strikes) (hL : B.L.length≤1000000) (n : Nat) {c : Cn} (h : Waits strikes c) (hp : c.p < B.L.length - size) : EvTo B strikes (c.s + 1) (serveN (n + 1) (lone B 1 c) 1):=by
  rw [serveN_succ n (lone B 1 c) 1 (lone_cs B 1 c)]
  have hp' : c.p≤B.L.length:=by omega
  have e : nextB (lone B 1 c) c = nextOf B.L size c.p c.s ((320 : Nat) - c.out.length - 200) 8 strikes:=by
    show nextOf B.L B.cf.log c.p c.s ((B.cf.queue : Int) - c.out.length - 200) B.cf.data B.strikes = _
    rw [hcf,hst]
    rfl
  rcases hn : nextB (lone B 1 c) c with _ | ⟨m,p,s⟩
  · rw [e] at hn
    unfold nextOf at hn
    rw [if_pos hp] at hn
    split at hn <;> cases hn
  · have hn':=hn
    rw [e] at hn'
    have hih:=ev_serve hs9 hcf hst hL (n + 1) c h hp'
    rw [serveN_succ n (lone B 1 c) 1 (lone_cs B 1 c),hn] at hih
    have hsv : served (lone B 1 c) 1 c m p s = lone B 1 (putc 320 { c with p:=p,s:=s } (enc m)):=by
      unfold served
      rw [show (lone B 1 c).cf.queue = 320 by show B.cf.queue = 320; rw [hcf]; rfl,lone_setc]
    rcases ev_next h hs9 hp' hL hn' with ⟨hk,he,hs⟩ | ⟨hk,h1,_,h2,h3⟩
    · rcases hih with ⟨c',a1,a2,a3,a4⟩ | hih
      · exfalso
        replace a1 : (if m.k = 12 then leave (served (lone B 1 c) 1 c m p s) 1 else serveN n (served (lone B 1 c) 1 c m p s) 1) = lone B 1 c':=a1
        have h4:=putc_same 320 { c with p:=p,s:=s } (enc m)
        rw [if_pos hk,hsv,ev_leave (by rw [h4.1]; exact h.st)] at a1
        have h5:=congrArg (fun b=>b.cs 1) a1
        replace h5 : (lone (setFl B (fleave B.fl 1)) 1 { putc 320 { c with p:=p,s:=s } (enc m) with st:=2 }).cs 1 = (lone B 1 c').cs 1:=h5
        rw [lone_cs,lone_cs] at h5
        injection h5 with h5
        have h6:=a2.st
        rw [← h5] at h6
        cases h6
      · exact .inr hih
    · show EvTo B strikes (c.s + 1) (if m.k = 12 then leave (served (lone B 1 c) 1 c m p s) 1 else serveN n (served (lone B 1 c) 1 c m p s) 1)
      rw [if_neg hk,hsv]
      have hp2:=putc_same 320 { c with p:=p,s:=s } (enc m)
      have hih:=ev_serve hs9 hcf hst hL n (putc 320 { c with p:=p,s:=s } (enc m)) h3 (by rw [hp2.2.1]; exact h1)
      rcases hih with ⟨c',a1,a2,a3,a4⟩ | hih
      · refine .inl ⟨c',a1,a2,a3,?_⟩
        rw [hp2.2.2.1] at a4
        have a4 : s≤c'.s:=a4
        have:=h2 hp
        omega
      · exact .inr hih
structure EvAt (size strikes r : Nat) (b : Br) : Prop where
  ev : EvOk b 0 3000 (r * 100)
  at_ : (∃ B c,b = lone B 1 c∧B.cf = cfE size strikes∧B.strikes = strikes∧B.fl = firstFl 5 1∧B.told = 0∧B.ended = false∧Waits strikes c∧c.p≤B.L.length∧r≤c.s) ∨
    (∃ B c,b = lone B 1 c∧B.fl.roles = []∧fhold B.fl = B.told∧Sent strikes c)
theorem cfE_ok {size strikes : Nat} (h1 : 1≤size∧size≤32) (h2 : strikes≤3) : EvOk (bnew (cfE size strikes)) 0 0 0:=
  bnew_ev (c:=cfE size strikes) (show 1≤size∧size≤65536 by omega) (show 1≤8∧8≤2042 by decide) (show 220≤320∧320≤65536 by decide) (show 1≤9∧9≤65536 by decide) (show 0≤1000 by decide) (show strikes≤9 by omega) (show 1≤9∧9≤500 by decide)
def wSlow : Bs:=[115#8,108#8,111#8,119#8]
theorem evict_hello {size strikes : Nat} (h1 : 1≤size∧size≤32) (h2 : strikes≤3) : connectE (bnew (cfE size strikes)) 1 = 0∧bytesE (connectB (bnew (cfE size strikes)) 1) 1 = 0∧EvAt size strikes 0 (bytesB (connectB (bnew (cfE size strikes)) 1) 1 (enc (helloM wSlow))):=by
  obtain ⟨a1,a2⟩:=connect_new (b:=bnew (cfE size strikes)) (k:=1) (by decide) (by decide) rfl
  have e : connectB (bnew (cfE size strikes)) 1 = lone (bnew (cfE size strikes)) 1 cnew:=a2
  have a3:=lone_hello (b:=bnew (cfE size strikes)) (k:=1) (t:=wSlow) (by decide) (by decide) (by show 220≤320; decide) rfl rfl rfl rfl (by decide) (by decide)
  have hev:=((cfE_ok h1 h2).connect 1).bytes 1 (enc (helloM wSlow))
  rw [e] at hev ⊢
  refine ⟨a1,a3.2,⟨⟨hev.ok,hev.cn,Nat.le_trans hev.tot (by rw [enc_len5]; decide),hev.len,hev.sp⟩,.inl ?_⟩⟩
  rw [show ((1 : Nat) : Int) = 1 from rfl] at a3
  refine ⟨_,_,a3.1,rfl,rfl,rfl,rfl,rfl,⟨⟨[welcome 1 0 2,mfloor 0],?_,?_,rfl⟩,Nat.zero_le _,?_,rfl⟩,Nat.le_refl _,Nat.le_refl _⟩
  · show enc (welcome 1 0 2) ++ enc (mfloor 0) = _
    unfold encs
    simp
  · intro m hm
    simp only [List.mem_cons,List.not_mem_nil,or_false] at hm
    rcases hm with rfl | rfl <;> decide
  · show (enc (welcome 1 0 2) ++ enc (mfloor 0)).length≤120
    rw [List.length_append,floor_len,enc_len5]
    decide
theorem EvAt.few {size strikes r : Nat} {b : Br} (h : EvAt size strikes r b) (hr : rhas b.fl.roles 1 = true) : r≤strikes:=by
  rcases h.at_ with ⟨B,c,rfl,h1,h2,h3,h4,h5,h6,h7,h8⟩ | ⟨B,c,rfl,h1,h2,h3⟩
  · exact Nat.le_trans h8 h6.s
  · replace hr : rhas B.fl.roles 1 = true:=hr
    rw [h1] at hr
    cases hr
theorem EvAt.round {size strikes r : Nat} {b : Br} (h : EvAt size strikes r b) (hr : rhas b.fl.roles 1 = true) (h1 : 1≤size∧size≤32) (h2 : strikes≤3) {t : Bs} (ht : t.length = 3 * size + 1) : outputE b = 0∧EvAt size strikes (r + 1) (outputB b t):=by
  have hfew:=h.few hr
  have hev:=h.ev.output t (by omega)
  have hev' : EvOk (outputB b t) 0 3000 ((r + 1) * 100):=⟨hev.ok,hev.cn,hev.tot,Nat.le_trans hev.len (by omega),hev.sp⟩
  have hlen:=h.ev.len
  rcases h.at_ with ⟨B,c,rfl,g1,g2,g3,g4,g5,g6,g7,g8⟩ | ⟨B,c,rfl,g1,g2,g3⟩
  · refine ⟨by show (if B.ended = true then 3 else 0) = 0; rw [g5]; rfl,hev',?_⟩
    have hout : outputB (lone B 1 c) t = settle (lone { B with L:=B.L ++ t,sp:=Sp.nxts B.sp t } 1 c):=by
      unfold outputB
      exact if_neg (show ¬ B.ended = true by rw [g5]; decide)
    rw [hout]
    obtain ⟨B2,hB2⟩ : ∃ B2,({ B with L:=B.L ++ t,sp:=Sp.nxts B.sp t } : Br) = B2:=⟨_,rfl⟩
    have q1 : B2.cf = cfE size strikes:=by rw [← hB2]; exact g1
    have q2 : B2.strikes = strikes:=by rw [← hB2]; exact g2
    have q3 : B2.fl = firstFl 5 1:=by rw [← hB2]; exact g3
    have q4 : B2.told = 0:=by rw [← hB2]; exact g4
    have q5 : B2.ended = false:=by rw [← hB2]; exact g5
    have q6 : B2.L.length = B.L.length + (3 * size + 1):=by rw [← hB2]; show (B.L ++ t).length = _; rw [List.length_append,ht]
    rw [hB2]
    replace hlen : B.L.length≤r * 100:=hlen
    have hh0 : ∀ x : Br,x.fl = firstFl 5 1→x.told = 0→holder x = x:=fun x e1 e2=>holder_same (by rw [e1,e2]; rfl)
    have hgo : goes serve (lone B2 1 c) ids = serve (lone B2 1 c) 1:=by
      show goes serve (if opn (lone B2 1 c) 1 then serve (lone B2 1 c) 1 else lone B2 1 c) [2,3,4,5,6,7,8,9,10,11,12,13,14,15,16] = _
      rw [show opn (lone B2 1 c) 1 = true by unfold opn; rw [lone_cs]; simp [g6.st],if_pos rfl]
      have hs:=ev_serve1 (by omega) q1 q2 (by omega) ((lone B2 1 c).L.length + 1) g6 (c:=c) (by omega)
      rcases hs with ⟨c',a1,_⟩ | ⟨c',a1,_⟩
      · rw [show serve (lone B2 1 c) 1 = lone B2 1 c' from a1]
        refine goes_same _ _ _ fun j hj ho=>?_
        obtain ⟨d,hd,_⟩:=opn_cs ho
        obtain ⟨rfl,_⟩:=lone_one hd
        exact absurd hj (by decide)
      · rw [show serve (lone B2 1 c) 1 = lone (setFl B2 (fleave B2.fl 1)) 1 c' from a1]
        refine goes_same _ _ _ fun j hj ho=>?_
        obtain ⟨d,hd,_⟩:=opn_cs ho
        obtain ⟨rfl,_⟩:=lone_one hd
        exact absurd hj (by decide)
    have hs:=ev_serve1 (by omega) q1 q2 (by omega) ((lone B2 1 c).L.length + 1) g6 (c:=c) (by omega)
    unfold settle
    rw [hh0 (lone B2 1 c) q3 q4,hgo]
    rcases hs with ⟨c',a1,a2,a3,a4⟩ | ⟨c',a1,a2⟩
    · rw [show serve (lone B2 1 c) 1 = lone B2 1 c' from a1,hh0 (lone B2 1 c') q3 q4,reap_rest fun j d hd hd2=>by
        obtain ⟨_,rfl⟩:=lone_one hd
        have:=a2.st
        omega]
      exact .inl ⟨B2,c',rfl,q1,q2,q3,q4,q5,a2,a3,by omega⟩
    · rw [show serve (lone B2 1 c) 1 = lone (setFl B2 (fleave B2.fl 1)) 1 c' from a1]
      have hto : fhold (setFl B2 (fleave B2.fl 1)).fl = (setFl B2 (fleave B2.fl 1)).told:=by
        show fhold (fleave B2.fl 1) = B2.told
        rw [q3,q4]
        rfl
      have hne : c'.out≠[]:=by
        obtain ⟨ms,e,_⟩:=a2.ms
        rw [e,encs_app,encs_one]
        exact fun h9=>enc_ne _ (List.append_eq_nil_iff.1 h9).2
      rw [holder_same (b:=lone (setFl B2 (fleave B2.fl 1)) 1 c') hto,reap_rest fun j d hd hd2=>by
        obtain ⟨_,rfl⟩:=lone_one hd
        exact hne]
      refine .inr ⟨_,c',rfl,?_,hto,a2⟩
      show (fleave B2.fl 1).roles = []
      rw [q3]
      rfl
  · replace hr : rhas B.fl.roles 1 = true:=hr
    rw [g1] at hr
    cases hr
theorem EvAt.out {size strikes r : Nat} {b : Br} (h : EvAt size strikes r b) (hr : rhas b.fl.roles 1 = false) : ∃ ms : List M,writeT b 1 70000 = encs (ms ++ [⟨12,0,0,[]⟩])∧(∀ m∈ms ++ [⟨12,0,0,[]⟩],m.ok = true)∧gaps ms≤strikes∧writeE b 1 = 0∧(∃ B,writeB b 1 70000 = bare B)∧(writeT b 1 70000).length≤125:=by
  rcases h.at_ with ⟨B,c,rfl,g1,g2,g3,g4,g5,g6,g7,g8⟩ | ⟨B,c,rfl,g1,g2,g3⟩
  · exfalso
    replace hr : rhas B.fl.roles 1 = false:=hr
    rw [g3] at hr
    cases hr
  · obtain ⟨ms,e1,e2,e3⟩:=g3.ms
    have hl:=g3.out
    obtain ⟨w1,w2,w3⟩:=lone_gone (b:=B) (k:=1) (c:=c) (n:=70000) (by decide) (by decide) (by omega) g2 g3.st
    have w1' : writeT (lone B 1 c) 1 70000 = c.out:=w1
    refine ⟨ms,w1'.trans e1,fun m hm=>?_,e3,w2,?_,by rw [w1']; exact hl⟩
    · rcases List.mem_append.1 hm with hm | hm
      · exact e2 m hm
      · rw [List.mem_singleton.1 hm]; decide
    · exact ⟨B,w3⟩
end Go.Proofs.YtjmdddhbdofppaaGreatDoor.Bk
