/- Brokers of whatever conf, behind whatever events: what their users, connections and holder are (BrokerFloor, BrokerBounds); a conf that comes in. -/
import Derived.Test.YtjmdddhbdofppaaGreatDoorZcCr
import Derived.Test.YtjmdddhbdofppaaGreatDoorZcInv
import Derived.Test.YtjmdddhbdofppaaGreatDoorZcLf
import Derived.Test.YtjmdddhbdofppaaGreatDoorZcQb

namespace Go.Proofs.YtjmdddhbdofppaaGreatDoor
open Go.RowKit
open Fr Bk
theorem conf_ev {c : Cf} (h : CfOk c) : EvOk (bnew c) 0 0 0:=
  ⟨⟨h.log,h.data,h.queue,h.input,h.idle,h.strikes,(fok_new c.lease).mono (by decide),fun p hp=>(by cases hp),Nat.zero_le _,⟨Int.le_refl 0,(by decide : (0 : Int)≤16)⟩,Nat.zero_le _,fun k c hc=>(by cases hc)⟩,fun k c hc=>(by cases hc),Nat.zero_le _,Nat.zero_le _,Sp.Ok.start (by have:=h.width; omega) (by have:=h.width; omega)⟩
theorem rt_cf {a b c d e f g h : Int} (hr : rt a b c d e f g h = true) : ∃ cf : Cf,CfOk cf∧EvOk (bnew cf) 0 0 0∧a = (cf.log : Nat)∧b = (cf.data : Nat)∧c = (cf.queue : Nat)∧d = (cf.input : Nat)∧e = (cf.strikes : Nat)∧f = (cf.lease : Nat)∧g = (cf.idle : Nat)∧h = (cf.width : Nat):=by
  unfold rt bw at hr
  simp only [Bool.and_eq_true,decide_eq_true_eq] at hr
  have ho : CfOk ⟨a.toNat,b.toNat,c.toNat,d.toNat,e.toNat,f.toNat,g.toNat,h.toNat⟩:=⟨by dsimp only; omega,by dsimp only; omega,by dsimp only; omega,by dsimp only; omega,by dsimp only; omega,by dsimp only; omega,by dsimp only; omega,by dsimp only; omega⟩
  exact ⟨_,ho,conf_ev ho,by dsimp only; omega,by dsimp only; omega,by dsimp only; omega,by dsimp only; omega,by dsimp only; omega,by dsimp only; omega,by dsimp only; omega,by dsimp only; omega⟩
theorem wf_small {x : Int} (h : -1000≤x∧x≤1000000) : wf64 x:=by
  unfold wf64
  simp [Lit.wf,IntKind.min,IntKind.max,IntKind.signed,IntKind.bits]
  omega
theorem conns_in {b : Br} {x : Int} (h : x∈connsB b) : 1≤x∧x≤16:=by
  unfold connsB connsTo at h
  obtain ⟨k,hk,rfl⟩:=List.mem_map.1 h
  have:=List.mem_filter.1 hk
  have:=mem_ids.1 (List.mem_of_mem_take this.1)
  omega
theorem wait_le {b : Br} (h : R3 b) (id : Int) : waitB b id≤b.cf.queue:=by
  unfold waitB
  split
  · rcases hc : b.cs id.toNat with _ | c
    · exact Nat.zero_le _
    · exact h.out _ c hc
  · exact Nat.zero_le _
theorem seen_user {b : Br} (h : R3 b) (hk : BOk b) {id : Int} (hid : id∈b.fl.roles.map (·.1)) : (seenB b id).2 = true∧1≤id∧id≤16:=by
  obtain ⟨p,hp,rfl⟩:=List.mem_map.1 hid
  have h1:=hk.rin p hp
  have hg:=rget_of_mem h.rising (show (p.1,p.2)∈b.fl.roles from hp)
  have hh : rhas b.fl.roles ((p.1.toNat : Nat) : Int) = true:=by
    unfold rhas
    rw [show ((p.1.toNat : Nat) : Int) = p.1 by omega,hg]
    rfl
  have ho:=h.ro p.1.toNat hh
  obtain ⟨c,hc,_⟩:=opn_cs ho
  refine ⟨?_,h1⟩
  unfold seenB userB
  rw [if_pos ⟨h1.1,h1.2,ho⟩]
  dsimp only
  rw [hc]
theorem nodup_le : ∀ (l m : List Int),l.Nodup→(∀ x∈l,x∈m)→l.length≤m.length
  | [],_,_,_=>Nat.zero_le _
  | x :: l,m,hn,hm=>by
    obtain ⟨h1,h2⟩:=List.nodup_cons.1 hn
    have hx:=hm x List.mem_cons_self
    have hl:=nodup_le l (m.erase x) h2 fun y hy=>(List.mem_erase_of_ne (fun e=>h1 (by rw [← e]; exact hy))).2 (hm y (List.mem_cons_of_mem _ hy))
    rw [List.length_erase_of_mem hx] at hl
    have : 0 < m.length:=List.length_pos_of_mem hx
    simp only [List.length_cons]
    omega
theorem users_few {b : Br} (h : R3 b) (hk : BOk b) : b.fl.roles.length≤(connsB b).length:=by
  rw [← List.length_map (f:=fun p : Int×Int=>p.1)]
  refine nodup_le _ _ ?_ fun x hx=>?_
  · have h1 : b.fl.roles.Pairwise fun p q=>p.1 < q.1:=h.rising
    unfold List.Nodup
    rw [List.pairwise_map]
    exact h1.imp fun {p q} h=>by omega
  · obtain ⟨p,hp,rfl⟩:=List.mem_map.1 hx
    have h1:=hk.rin p hp
    have hg:=rget_of_mem h.rising (show (p.1,p.2)∈b.fl.roles from hp)
    have hh : rhas b.fl.roles ((p.1.toNat : Nat) : Int) = true:=by
      unfold rhas
      rw [show ((p.1.toNat : Nat) : Int) = p.1 by omega,hg]
      rfl
    obtain ⟨c,hc,_⟩:=opn_cs (h.ro p.1.toNat hh)
    unfold connsB connsTo
    refine List.mem_map.2 ⟨p.1.toNat,List.mem_filter.2 ⟨?_,?_⟩,by omega⟩
    · show p.1.toNat∈ids.take 16
      rw [show ids.take 16 = ids from rfl]
      exact mem_ids.2 (by omega)
    · unfold isSome
      rw [hc]
      rfl
theorem hold_user {b : Br} (hk : BOk b) : (fhold b.fl≠0→rhas b.fl.roles (fhold b.fl) = true∧rrole b.fl.roles (fhold b.fl)≠0)∧(b.fl.roles.length = 0→fhold b.fl = 0)∧rhas b.fl.roles 0 = false∧0≤fhold b.fl∧fhold b.fl≤16:=by
  have hm : fhold b.fl≠0→fhold b.fl∈b.fl.line:=fun h=>by
    unfold fhold at h ⊢
    rcases hl : b.fl.line with _ | ⟨i,t⟩
    · rw [hl] at h; exact absurd rfl h
    · exact List.mem_cons_self
  have h0 : rhas b.fl.roles 0 = false:=by
    rcases e : rhas b.fl.roles 0 with _ | _
    · rfl
    · have:=hk.rin _ (rhas_of_mem e)
      omega
  refine ⟨fun h=>hk.fok.mem _ (hm h),fun h=>?_,h0,hold_in hk.fok hk.rin⟩
  by_cases h9 : fhold b.fl = 0
  · exact h9
  · have:=rhas_of_mem (hk.fok.mem _ (hm h9)).1
    rw [List.eq_nil_of_length_eq_zero h] at this
    cases this
theorem R3.doEv {b : Br} (h : R3 b) (q : Nat) (id n : Int) (t : Bs) : R3 (doEv q b id n t):=by
  unfold Go.Proofs.YtjmdddhbdofppaaGreatDoor.doEv
  split
  · exact r3_all.connectB h id
  · exact r3_all.bytesB h id t
  · exact r3_all.writeB h id n
  · exact r3_all.outputB h t
  · exact r3_all.drainB h n
  · exact r3_all.tickB h
  · exact r3_all.cutB h id
  · exact r3_all.endB h n
theorem r3_new (cf : Cf) : R3 (bnew cf):=⟨List.Pairwise.nil,fun k hk=>(by cases hk),fun k c hc=>(by cases hc)⟩
theorem cf_core (cf : Cf) : KEv (fun b=>b.cf = cf) where
  gone:=fun b k c h _ _ _=>by unfold gone; split <;> exact h
  plus:=fun b k c m h _ _ _=>h
  told:=fun b h=>h
  served:=fun b k c m p s h _ _ _=>h
  reap:=fun b h=>h
  idle0:=fun b k c h _=>h
  fd:=fun b k c t h _=>h
  lx:=fun b k c t h _=>h
  join:=fun b k c t p r h _ _ _ _ _ _ _ _ _=>h
  fl:=fun b s h _=>h
  again:=fun b k c p h _ _=>h
  strikes:=fun b n h _=>h
  typed:=fun b ks h _ _=>h
  cut0:=fun b k c h _ _=>h
  new:=fun b k h _ _ _=>h
  idle1:=fun b k c h _=>h
  wrote:=fun b k c n h _=>h
  out:=fun b t h _=>h
  ended:=fun b n h _ _=>h
  drained:=fun b n h=>h
theorem cf_doEv {b : Br} {cf : Cf} (h : b.cf = cf) (q : Nat) (id n : Int) (t : Bs) : (doEv q b id n t).cf = cf:=by
  unfold doEv
  split
  · exact (cf_core cf).connectB h id
  · exact (cf_core cf).bytesB h id t
  · exact (cf_core cf).writeB h id n
  · exact (cf_core cf).outputB h t
  · exact (cf_core cf).drainB h n
  · exact (cf_core cf).tickB h
  · exact (cf_core cf).cutB h id
  · exact (cf_core cf).endB h n
theorem ldo_x {n0 g : Nat} {w : World} {b : Br} {i T m : Nat} {A : Option Addr} {L C : Nat} (h : LAway n0 w b g A L) (he : EvOk b i T m) (hi : i≤1000000000) (hT : T≤100000000) (k id n : Int) (hid : wf64 id) {B : Nat} {t : Bs} (ht : Bytes w B A L t) (hB : B≤w.heap.size) (hLC : L≤C) (hm : m + L≤1000000) {q : Nat} (hq : bits .and .i64 k 7 = (q : Int)) (hq7 : q≤7) :
    Calls Tryz.prog 24 #[.pointer (some (at0 g)),.agg #[.int .i64 k,.int .i64 id,.int .i64 n,.slice A L C]] w fun e w'=>e = .returned (.tuple #[.string (str (doTx q b id n)),.int .i64 (doEx q b id n : Nat)])∧LBx n0 g w' (doEv q b id n t)∧Below n0 w w':=by
  obtain ⟨F,rs,h,ha⟩:=h
  exact (ldo_any h.is he hi hT k id n hid ht hB hLC ha hm hq hq7).mono fun e w' hg=>h.e hg
theorem Ievs.more {w : World} {B B' n : Nat} {a : Option Addr} {K I R : Nat→Int} {A : Nat→Option Addr} {Ln Cp : Nat→Nat} {T : Nat→Bs} (h : Ievs w B a n K I R A Ln Cp T) (hB : B≤B') : Ievs w B' a n K I R A Ln Cp T:=
  ⟨fun hn=>by
    obtain ⟨b,off,e,hlt,hc⟩:=h.outer hn
    exact ⟨b,off,e,Nat.lt_of_lt_of_le hlt hB,hc⟩,fun r hr=>⟨(h.inner r hr).1,(h.inner r hr).2.1.more hB,(h.inner r hr).2.2⟩⟩
structure AtEv (cf : Cf) (Ln : Nat→Nat) (k : Nat) (b : Br) : Prop where
  ev : EvOk b k (k * 2052 + sumL Ln k) (sumL Ln k)
  r3 : R3 b
  cf : b.cf = cf
theorem AtEv.next {cf : Cf} {Ln : Nat→Nat} {k : Nat} {b : Br} (h : AtEv cf Ln k b) (q : Nat) (id n : Int) {t : Bs} (ht : t.length = Ln k) (hs : sumL Ln (k + 1)≤6000) : AtEv cf Ln (k + 1) (doEv q b id n t):=by
  have hs1 : sumL Ln (k + 1) = sumL Ln k + Ln k:=rfl
  have he:=EvOk.doEv h.ev q id n t (by omega)
  rw [ht] at he
  exact ⟨⟨he.ok,he.cn,Nat.le_trans he.tot (by omega),Nat.le_trans he.len (by omega),he.sp⟩,R3.doEv h.r3 q id n t,cf_doEv h.cf q id n t⟩
theorem AtEv.begin {cf : Cf} {Ln : Nat→Nat} (h : EvOk (bnew cf) 0 0 0) : AtEv cf Ln 0 (bnew cf):=⟨h,r3_new cf,rfl⟩
end Go.Proofs.YtjmdddhbdofppaaGreatDoor
