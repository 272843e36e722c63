/- The broker's mathematics: users who ask for the floor one behind the other, and the leases that go by. No program is named here. -/
import Derived.Test.YtjmdddhbdofppaaGreatDoorZc07

namespace Go.Proofs.YtjmdddhbdofppaaGreatDoor.Bk
open Fr Lx
def up (k n : Nat) : List Int:=(List.range' k n).map fun j : Nat=>(j : Int)
theorem up_succ (k n : Nat) : up k (n + 1) = (k : Int) :: up (k + 1) n:=by unfold up; rw [List.range'_succ]; rfl
theorem up_snoc (k n : Nat) : up k (n + 1) = up k n ++ [((k + n : Nat) : Int)]:=by unfold up; rw [List.range'_1_concat,List.map_append]; rfl
theorem up_len (k n : Nat) : (up k n).length = n:=by simp [up]
theorem up_mem {k n : Nat} {i : Int} (h : i∈up k n) : (k : Int)≤i∧i < ((k + n : Nat) : Int):=by
  unfold up at h
  obtain ⟨j,hj,rfl⟩:=List.mem_map.1 h
  have:=List.mem_range'_1.1 hj
  omega
structure St (N L : Nat) (s : Fl) (k n l : Nat) : Prop where
  ok : FOk N s
  lease : s.lease = L
  line : s.line = up k n
  left : s.left = l
section
variable {N L k n l : Nat} {s : Fl}
theorem St.hold (h : St N L s k (n + 1) l) : fhold s = k:=by unfold fhold; rw [h.line,up_succ]; rfl
theorem St.tail (h : St N L s k (n + 1) l) : s.line.tail = up (k + 1) n:=by rw [h.line,up_succ]; rfl
theorem St.qlen (h : St N L s k n l) : s.line.tail.length = n - 1:=by rw [List.length_tail,h.line,up_len]
theorem St.len (h : St N L s k n l) : s.line.length = n:=by rw [h.line,up_len]
theorem St.tick1 (h : St N L s k (n + 1) l) (hl : 1 < l) : St N L (ftick s) k (n + 1) (l - 1):=by
  have hlen:=h.len
  have e : ftick s = { s with left:=s.left - 1 }:=by unfold ftick; rw [if_neg (by omega),if_pos (by rw [h.left]; exact hl)]
  refine ⟨h.ok.tick,?_,?_,?_⟩ <;> rw [e]
  · exact h.lease
  · exact h.line
  · show s.left - 1 = l - 1; rw [h.left]
theorem out0 (h : St N L s k (n + 2) l) : (outAt s 0).lease = L∧(outAt s 0).line = up (k + 1) (n + 1)∧(outAt s 0).left = L:=by
  have e : s.line.eraseIdx 0 = up (k + 1) (n + 1):=by rw [h.line,up_succ]; rfl
  refine ⟨h.lease,e,?_⟩
  show (if 0 = 0 then (if (s.line.eraseIdx 0).length = 0 then 0 else s.lease) else s.left) = L
  rw [if_pos rfl,e,up_len,if_neg (by omega),h.lease]
theorem St.tick2 (h : St N L s k (n + 2) 1) : St N L (ftick s) (k + 1) (n + 1) L:=by
  have hlen:=h.len
  have e : ftick s = outAt s 0:=by unfold ftick; rw [if_neg (by omega),if_neg (by rw [h.left]; omega),if_neg (by omega)]
  obtain ⟨h1,h2,h3⟩:=out0 h
  exact ⟨h.ok.tick,by rw [e]; exact h1,by rw [e]; exact h2,by rw [e]; exact h3⟩
theorem St.tick3 (h : St N L s k 1 1) : St N L (ftick s) k 1 L:=by
  have hlen:=h.len
  have e : ftick s = { s with left:=s.lease }:=by unfold ftick; rw [if_neg (by omega),if_neg (by rw [h.left]; omega),if_pos hlen]
  refine ⟨h.ok.tick,?_,?_,?_⟩ <;> rw [e]
  · exact h.lease
  · exact h.line
  · exact h.lease
end
structure Came (L m : Nat) (s : Fl) : Prop where
  ok : FOk (2 * m) s
  lease : s.lease = L
  line : s.line = up 1 m
  left : s.left = if m = 0 then 0 else L
  has : ∀ j,rhas s.roles j = true→1≤j∧j≤m
theorem came_new (L : Int) (h1 : 1≤L) (h2 : L≤1000) : Came L.toNat 0 (fnew L):=by
  refine ⟨fok_new L,?_,rfl,rfl,fun j hj=>by cases hj⟩
  show (min (max L 1) 1000).toNat = L.toNat
  omega
theorem Came.next {L m : Nat} {s : Fl} (h : Came L m s) (hm : m≤1000) {r : Int} (hr : r = 1∨r = 2) :
    askE (fjoin s (m + 1 : Nat) r) (m + 1 : Nat) = 0∧Came L (m + 1) (fask (fjoin s (m + 1 : Nat) r) (m + 1 : Nat)):=by
  have hb : rhas s.roles ((m + 1 : Nat) : Int) = false:=by
    rcases e : rhas s.roles ((m + 1 : Nat) : Int) with _ | _
    · rfl
    · have:=h.has _ e; omega
  have hj : joins s ((m + 1 : Nat) : Int) r = true:=by
    unfold joins isRole; rw [hb]
    rcases hr with rfl | rfl
    · simp <;> omega
    · simp <;> omega
  have ej : fjoin s ((m + 1 : Nat) : Int) r = { s with roles:=rput s.roles ((m + 1 : Nat) : Int) r }:=by unfold fjoin; rw [hj,if_pos rfl]
  have k1:=h.ok.join (id:=((m + 1 : Nat) : Int)) r (by omega)
  have hnm : ((m + 1 : Nat) : Int) ∉ s.line:=fun hi=>by rw [h.line] at hi; have:=up_mem hi; omega
  have hE : askE (fjoin s ((m + 1 : Nat) : Int) r) ((m + 1 : Nat) : Int) = 0:=by
    unfold askE
    rw [ej]
    show (if rhas (rput s.roles ((m + 1 : Nat) : Int) r) ((m + 1 : Nat) : Int) then (if rrole (rput s.roles ((m + 1 : Nat) : Int) r) ((m + 1 : Nat) : Int) = 0 then 4 else if ((m + 1 : Nat) : Int)∈s.line then 3 else 0) else 2) = (0 : Int)
    rw [rhas_put h.ok.rising,rrole_put h.ok.rising,if_neg hnm]
    rcases hr with rfl | rfl <;> simp
  have k2:=k1.ask ((m + 1 : Nat) : Int)
  refine ⟨hE,?_⟩
  have ea : fask (fjoin s ((m + 1 : Nat) : Int) r) ((m + 1 : Nat) : Int) = ⟨s.lease,if s.line.length = 0 then s.lease else s.left,rput s.roles ((m + 1 : Nat) : Int) r,s.line ++ [((m + 1 : Nat) : Int)]⟩:=by
    unfold fask; rw [if_pos hE,ej]
  refine ⟨k2.mono (by omega),by rw [ea]; exact h.lease,?_,?_,fun j hjj=>?_⟩
  · rw [ea,up_snoc,h.line,Nat.add_comm 1 m]
  · rw [ea]
    show (if s.line.length = 0 then s.lease else s.left) = (if m + 1 = 0 then 0 else L)
    rw [h.line,up_len,h.left,h.lease,if_neg (Nat.succ_ne_zero m)]
    split <;> rfl
  · rw [ea] at hjj
    have h3 : rhas (rput s.roles ((m + 1 : Nat) : Int) r) j = true:=hjj
    rw [rhas_put h.ok.rising] at h3
    simp only [Bool.or_eq_true,decide_eq_true_eq] at h3
    rcases h3 with h3 | h3
    · omega
    · have:=h.has _ h3; omega
theorem Came.st {L m : Nat} {s : Fl} (h : Came L (m + 1) s) (hm : m≤100) : St 1000 L s 1 (m + 1) L:=
  ⟨h.ok.mono (by omega),h.lease,h.line,by rw [h.left,if_neg (by omega)]⟩
def cfL (l : Nat) : Cf:=⟨4096,512,2048,256,3,l,0,80⟩
theorem bnew_ev {c : Cf} (h1 : 1≤c.log∧c.log≤65536) (h2 : 1≤c.data∧c.data≤2042) (h3 : 220≤c.queue∧c.queue≤65536) (h4 : 1≤c.input∧c.input≤65536) (h5 : c.idle≤1000) (h6 : c.strikes≤9) (h7 : 1≤c.width∧c.width≤500) : EvOk (bnew c) 0 0 0:=
  ⟨⟨h1,h2,h3,h4,h5,h6,(fok_new c.lease).mono (by decide),fun p hp=>(by cases hp),Nat.zero_le _,⟨Int.le_refl 0,(by decide : (0 : Int)≤16)⟩,Nat.zero_le _,fun k c hc=>(by cases hc)⟩,fun k c hc=>(by cases hc),Nat.zero_le _,Nat.zero_le _,Sp.Ok.start (by omega) (by omega)⟩
theorem cfL_ok (l : Nat) : EvOk (bnew (cfL l)) 0 0 0:=
  bnew_ev (c:=cfL l) (show 1≤4096∧4096≤65536 by decide) (show 1≤512∧512≤2042 by decide) (show 220≤2048∧2048≤65536 by decide) (show 1≤256∧256≤65536 by decide) (show 0≤1000 by decide) (show 3≤9 by decide) (show 1≤80∧80≤500 by decide)
structure WaitAt (b : Br) (l i : Nat) : Prop where
  cw : CW b (i * 130)
  ev : EvOk b 0 (i * 4400) 0
  cf : b.cf = cfL l
  told : fhold b.fl = b.told
  few : ∀ j,(b.cs j).isSome = true→j≤i
  fl : Came l i b.fl
theorem wait_begin {l : Nat} (h1 : 1≤l) (h2 : l≤1000) : WaitAt (bnew (cfL l)) l 0:=
  ⟨⟨fun k hk=>(by cases hk),fun k c hc=>(by cases hc)⟩,cfL_ok l,rfl,rfl,fun j hj=>(by cases hj),by have:=came_new (l : Int) (by omega) (by omega); rwa [show ((l : Nat) : Int).toNat = l by omega] at this⟩
noncomputable def wt1 (b : Br) (i : Nat) : Br:=connectB b (i + 1 : Nat)
noncomputable def wt2 (b : Br) (i : Nat) : Br:=bytesB (wt1 b i) (i + 1 : Nat) (enc (helloM wU))
noncomputable def wt3 (b : Br) (i : Nat) : Br:=bytesB (wt2 b i) (i + 1 : Nat) (enc (keys 1 (esc wFloor)))
theorem WaitAt.next {b : Br} {l i : Nat} (h : WaitAt b l i) (hi : i < 9) : EvOk (wt1 b i) 0 (i * 4400) 0∧EvOk (wt2 b i) 0 (i * 4400 + 2100) 0∧WaitAt (wt3 b i) l (i + 1):=by
  have hno : b.cs (i + 1) = none:=by
    rcases e : b.cs (i + 1) with _ | c
    · rfl
    · have:=h.few (i + 1) (by rw [e]; rfl); omega
  have hL : b.L = []:=List.eq_nil_of_length_eq_zero (Nat.le_zero.1 h.ev.len)
  have hok : (helloM wU).ok = true:=hello_ok (by decide)
  obtain ⟨e1,e2,e3,e4,e5,e6,e7⟩:=h.cw.come (k:=i + 1) (m:=helloM wU) (by omega) (by omega) hno hok rfl (by decide) (by decide) (by
    have : comeAt b (helloM wU)≤b.L.length:=viewAt_le _ _ _ _
    rw [hL] at this ⊢
    exact Nat.le_zero.1 this) (by rw [h.cf]; show i * 130 + 60 + 47≤2048; omega)
  have hro : comeRole b (helloM wU) = 1∨comeRole b (helloM wU) = 2:=by
    unfold comeRole firstRole
    rw [show decide ((helloM wU).a % 2 = 1) = true from rfl,if_pos rfl]
    split
    · exact .inl rfl
    · exact .inr rfl
  obtain ⟨n1,n2⟩:=h.fl.next (by omega) hro
  obtain ⟨c,hc⟩:=Option.isSome_iff_exists.1 (show ((wt2 b i).cs (i + 1)).isSome = true by unfold wt2 wt1; rw [e7]; simp)
  have hcf : (wt2 b i).cf = cfL l:=e6.cf.trans h.cf
  have ha : askE (wt2 b i).fl ((i + 1 : Nat) : Int) = 0:=by unfold wt2 wt1; rw [e4]; exact n1
  obtain ⟨g1,g2,g3,g4,g5,g6⟩:=(show CW (wt2 b i) (i * 130 + 60 + 47) from e3).cmd hc (seq:=1) (s:=wFloor) (by decide) (by decide) (by decide) (by decide) (fun b' hb=>fask_floor ha b' hb) (by rw [hcf]; show i * 130 + 60 + 47 + 22≤2048; omega)
  have hev1:=h.ev.connect (i + 1 : Nat)
  have hev2:=hev1.bytes (i + 1 : Nat) (enc (helloM wU))
  have hl1 : (enc (helloM wU)).length = 18:=by rw [enc_len5]; rfl
  have hl2 : (enc (keys 1 (esc wFloor))).length = 19:=by rw [enc_len5]; rfl
  rw [hl1] at hev2
  have hev3:=hev2.bytes (i + 1 : Nat) (enc (keys 1 (esc wFloor)))
  rw [hl2] at hev3
  refine ⟨hev1,⟨hev2.ok,hev2.cn,Nat.le_trans hev2.tot (by omega),hev2.len,hev2.sp⟩,⟨g2.mono (by omega),⟨hev3.ok,hev3.cn,Nat.le_trans hev3.tot (by omega),hev3.len,hev3.sp⟩,g5.cf.trans hcf,?_,fun j hj=>?_,?_⟩⟩
  · exact (congrArg fhold g3).trans g4.symm
  · rw [show ((wt3 b i).cs j).isSome = _ from g6 j,show ((wt2 b i).cs j).isSome = _ from e7 j] at hj
    simp only [Bool.or_eq_true,decide_eq_true_eq] at hj
    rcases hj with hj | hj
    · omega
    · have:=h.few j hj; omega
  · show Came l (i + 1) (wt3 b i).fl
    rw [show (wt3 b i).fl = _ from g3,show (wt2 b i).fl = _ from e4]
    exact n2
structure TurnAt (b : Br) (l t k n left : Nat) : Prop where
  cw : CW b (1170 + t * 11)
  ev : EvOk b t 39600 0
  cf : b.cf = cfL l
  told : fhold b.fl = b.told
  st : St 1000 l b.fl k n left
theorem WaitAt.turn {b : Br} {l i : Nat} (h : WaitAt b l (i + 1)) (hi : i < 9) : TurnAt b l 0 1 (i + 1) l:=
  ⟨h.cw.mono (by omega),⟨h.ev.ok,h.ev.cn,Nat.le_trans h.ev.tot (by omega),h.ev.len,h.ev.sp⟩,h.cf,h.told,h.fl.st (by omega)⟩
theorem TurnAt.tick0 {b : Br} {l t k n left : Nat} (h : TurnAt b l t k n left) (ht : t < 72) : CW (tickB b) (1170 + (t + 1) * 11)∧EvOk (tickB b) (t + 1) 39600 0∧(tickB b).cf = cfL l∧fhold (tickB b).fl = (tickB b).told∧(tickB b).fl = ftick b.fl:=by
  obtain ⟨e1,e2,e3,e4,e5,e6⟩:=h.cw.tick (fun _ _ _=>.inl (by rw [h.cf]; rfl)) (by rw [h.cf]; show 1170 + t * 11 + 11≤2048; omega)
  exact ⟨e1.mono (by omega),h.ev.tick,e4.cf.trans h.cf,by rw [e3,e2],e2⟩
theorem TurnAt.tick1 {b : Br} {l t k n left : Nat} (h : TurnAt b l t k (n + 1) left) (ht : t < 72) (hl : 1 < left) : TurnAt (tickB b) l (t + 1) k (n + 1) (left - 1):=by
  obtain ⟨e1,e2,e3,e4,e5⟩:=h.tick0 ht
  exact ⟨e1,e2,e3,e4,by rw [e5]; exact h.st.tick1 hl⟩
theorem TurnAt.tick2 {b : Br} {l t k n : Nat} (h : TurnAt b l t k (n + 2) 1) (ht : t < 72) : TurnAt (tickB b) l (t + 1) (k + 1) (n + 1) l:=by
  obtain ⟨e1,e2,e3,e4,e5⟩:=h.tick0 ht
  exact ⟨e1,e2,e3,e4,by rw [e5]; exact h.st.tick2⟩
theorem TurnAt.tick3 {b : Br} {l t k : Nat} (h : TurnAt b l t k 1 1) (ht : t < 72) : TurnAt (tickB b) l (t + 1) k 1 l:=by
  obtain ⟨e1,e2,e3,e4,e5⟩:=h.tick0 ht
  exact ⟨e1,e2,e3,e4,by rw [e5]; exact h.st.tick3⟩
theorem TurnAt.hold {b : Br} {l t k n left : Nat} (h : TurnAt b l t k (n + 1) left) : fhold b.fl = k:=h.st.hold
end Go.Proofs.YtjmdddhbdofppaaGreatDoor.Bk
