/- The broker's mathematics: who is closing is nobody's business but its own. No program is named here. -/
import Derived.Test.YtjmdddhbdofppaaGreatDoorZcQb

namespace Go.Proofs.YtjmdddhbdofppaaGreatDoor.Bk
open Fr Lx
theorem holder_told : ∀ (n : Nat) (b : Br),mu b≤n→fhold (holder b).fl = (holder b).told
  | n,b,hn=>by
    by_cases h : fhold b.fl = b.told
    · rw [holder_same h]; exact h
    · rw [holder_step h]
      have:=mu_step (mfloor (fhold b.fl)) h
      match n,hn with
      | 0,hn=>omega
      | n + 1,hn=>exact holder_told n _ (by omega)
theorem holder_two (b : Br) : holder (holder b) = holder b:=holder_same (holder_told _ b (Nat.le_refl _))
def Str (k : Nat) (b b' : Br) : Prop:=∃ c c',b.cs k = some c∧c.st = 2∧c'.st = 2∧c.out.length = c'.out.length∧b' = setc b k (some c')
theorem Str.refl {k : Nat} {b : Br} {c : Cn} (hc : b.cs k = some c) (hst : c.st = 2) : Str k b b:=⟨c,c,hc,hst,hst,rfl,(setc_as hc).symm⟩
theorem Str.trans {k : Nat} {a b c : Br} (h : Str k a b) (h2 : Str k b c) : Str k a c:=by
  obtain ⟨x,x',e1,e2,e3,e4,rfl⟩:=h
  obtain ⟨y,y',f1,f2,f3,f4,rfl⟩:=h2
  rw [setc_cs] at f1
  injection f1 with f1
  subst f1
  exact ⟨x,y',e1,e2,f3,e4.trans f4,setc_two _ _ _ _⟩
theorem Str.symm {k : Nat} {a b : Br} (h : Str k a b) : Str k b a:=by
  obtain ⟨x,x',e1,e2,e3,e4,rfl⟩:=h
  exact ⟨x',x,setc_cs _ _ _,e3,e2,e4.symm,by rw [setc_two,setc_as e1]⟩
section
variable {k : Nat} {b b' : Br}
theorem Str.shut (h : Str k b b') : opn b k = false∧opn b' k = false:=by
  obtain ⟨c,c',e1,e2,e3,e4,rfl⟩:=h
  refine ⟨?_,?_⟩
  · unfold opn; rw [e1]; simp [e2]
  · unfold opn; rw [setc_cs]; simp [e3]
theorem Str.cs (h : Str k b b') {j : Nat} (hj : j≠k) : b'.cs j = b.cs j:=by
  obtain ⟨c,c',e1,e2,e3,e4,rfl⟩:=h
  exact setc_ne _ _ _ hj
theorem Str.opn (h : Str k b b') (j : Nat) : opn b' j = opn b j:=by
  by_cases e : j = k
  · subst e; rw [h.shut.1,h.shut.2]
  · unfold Bk.opn; rw [h.cs e]
theorem Str.set (h : Str k b b') {j : Nat} (hj : j≠k) (x : Option Cn) : Str k (setc b j x) (setc b' j x):=by
  obtain ⟨c,c',e1,e2,e3,e4,rfl⟩:=h
  refine ⟨c,c',by rw [setc_ne _ _ _ (fun e=>hj e.symm)]; exact e1,e2,e3,e4,?_⟩
  unfold setc
  congr 1
  funext i
  by_cases h1 : i = j
  · subst h1; simp [hj]
  · by_cases h2 : i = k
    · subst h2; simp [h1]
    · simp [h1,h2]
theorem Str.fl (h : Str k b b') : b'.fl = b.fl∧b'.cf = b.cf∧b'.L = b.L∧b'.told = b.told∧b'.strikes = b.strikes∧b'.inp = b.inp∧b'.ended = b.ended:=by
  obtain ⟨c,c',e1,e2,e3,e4,rfl⟩:=h
  exact ⟨rfl,rfl,rfl,rfl,rfl,rfl,rfl⟩
theorem Str.setFl (h : Str k b b') (s : Fl) : Str k (setFl b s) (setFl b' s):=by
  obtain ⟨c,c',e1,e2,e3,e4,rfl⟩:=h
  exact ⟨c,c',e1,e2,e3,e4,rfl⟩
theorem Str.told (h : Str k b b') : Str k (toldB b) (toldB b'):=by
  obtain ⟨c,c',e1,e2,e3,e4,rfl⟩:=h
  exact ⟨c,c',e1,e2,e3,e4,rfl⟩
theorem Str.goes {f : Br→Nat→Br} (hf : ∀ {b b' : Br} (j : Nat),Str k b b'→Bk.opn b j = true→Str k (f b j) (f b' j)) : ∀ (l : List Nat) {b b' : Br},Str k b b'→Str k (Bk.goes f b l) (Bk.goes f b' l)
  | [],_,_,h=>h
  | j :: l,b,b',h=>by
    show Str k (Bk.goes f (if Bk.opn b j then f b j else b) l) (Bk.goes f (if Bk.opn b' j then f b' j else b') l)
    refine Str.goes hf l ?_
    rw [h.opn j]
    by_cases ho : Bk.opn b j = true
    · rw [if_pos ho,if_pos ho]; exact hf j h ho
    · rw [if_neg ho,if_neg ho]; exact h
theorem Str.leaveW {tl : M→Br→Br} (ht : ∀ (m : M) {b b' : Br},Str k b b'→Str k (tl m b) (tl m b')) (h : Str k b b') (j : Nat) : Str k (leaveW tl b j) (leaveW tl b' j):=by
  by_cases hj : j = k
  · subst hj
    obtain ⟨c,c',e1,e2,e3,e4,rfl⟩:=id h
    have w1 : Bk.leaveW tl b j = b:=by
      unfold Bk.leaveW
      rw [e1]
      show (if c.st = 1 then _ else setc b j (some { c with st:=2 })) = b
      rw [if_neg (by omega),show ({ c with st:=2 } : Cn) = c by rw [← e2],setc_as e1]
    have w2 : Bk.leaveW tl (setc b j (some c')) j = setc b j (some c'):=by
      unfold Bk.leaveW
      rw [setc_cs]
      show (if c'.st = 1 then _ else setc (setc b j (some c')) j (some { c' with st:=2 })) = _
      rw [if_neg (by omega),show ({ c' with st:=2 } : Cn) = c' by rw [← e3],setc_two]
    rw [w1,w2]
    exact h
  · unfold Bk.leaveW
    rw [h.cs hj]
    rcases hc : b.cs j with _ | c
    · exact h
    · have h1:=h.set hj (some { c with st:=2 })
      show Str k (if c.st = 1 then tl (left j) (Bk.setFl (setc b j (some { c with st:=2 })) (fleave b.fl j)) else setc b j (some { c with st:=2 })) (if c.st = 1 then tl (left j) (Bk.setFl (setc b' j (some { c with st:=2 })) (fleave b'.fl j)) else setc b' j (some { c with st:=2 }))
      rw [h.fl.1]
      split
      · exact ht _ (h1.setFl _)
      · exact h1
theorem Str.sendW {lv : Br→Nat→Br} (hl : ∀ {b b' : Br} (j : Nat),Str k b b'→Str k (lv b j) (lv b' j)) (m : M) (h : Str k b b') (j : Nat) : Str k (sendW lv m b j) (sendW lv m b' j):=by
  by_cases hj : j = k
  · subst hj
    obtain ⟨c,c',e1,e2,e3,e4,rfl⟩:=id h
    have w1 : Bk.sendW lv m b j = b:=by unfold Bk.sendW; rw [e1]; simp [e2]
    have w2 : Bk.sendW lv m (setc b j (some c')) j = setc b j (some c'):=by unfold Bk.sendW; rw [setc_cs]; simp [e3]
    rw [w1,w2]
    exact h
  · unfold Bk.sendW
    rw [h.cs hj]
    rcases hc : b.cs j with _ | c
    · exact h
    · show Str k (if c.st = 2 then b else if c.out.length + (enc m).length≤b.cf.queue then setc b j (some (plus m c)) else lv b j) (if c.st = 2 then b' else if c.out.length + (enc m).length≤b'.cf.queue then setc b' j (some (plus m c)) else lv b' j)
      rw [h.fl.2.1]
      split
      · exact h
      · split
        · exact h.set hj _
        · exact hl j h
theorem Str.tellN : ∀ (n : Nat) (m : M) {b b' : Br},Str k b b'→Str k (tellN n m b) (tellN n m b')
  | 0,_,_,_,h=>h
  | n + 1,m,_,_,h=>Str.goes (fun j h _=>Str.sendW (fun j h=>Str.leaveW (fun m _ _ h=>Str.tellN n m h) h j) m h j) ids h
theorem Str.tell (m : M) (h : Str k b b') : Str k (tell m b) (tell m b'):=Str.tellN 17 m h
theorem Str.leave (h : Str k b b') (j : Nat) : Str k (leave b j) (leave b' j):=Str.leaveW (fun m _ _ h=>Str.tellN 16 m h) h j
theorem Str.send (m : M) (h : Str k b b') (j : Nat) : Str k (send m b j) (send m b' j):=Str.sendW (fun j h=>Str.leaveW (fun m _ _ h=>Str.tellN 16 m h) h j) m h j
theorem Str.holderN : ∀ (n : Nat) {b b' : Br},Str k b b'→Str k (holderN n b) (holderN n b')
  | 0,_,_,h=>h
  | n + 1,b,b',h=>by
    show Str k (if fhold b.fl = b.told then b else Bk.holderN n (Bk.tell (mfloor (fhold b.fl)) (toldB b))) (if fhold b'.fl = b'.told then b' else Bk.holderN n (Bk.tell (mfloor (fhold b'.fl)) (toldB b')))
    rw [h.fl.1,h.fl.2.2.2.1]
    split
    · exact h
    · exact Str.holderN n (h.told.tell _)
theorem Str.holder (h : Str k b b') : Str k (holder b) (holder b'):=Str.holderN 18 h
theorem Str.served (h : Str k b b') {j : Nat} (hj : j≠k) (c : Cn) (m : M) (p s : Nat) : Str k (served b j c m p s) (served b' j c m p s):=by
  unfold Bk.served
  rw [h.fl.2.1]
  exact h.set hj _
theorem Str.serveN : ∀ (n : Nat) {b b' : Br} (j : Nat),Str k b b'→j≠k→Str k (serveN n b j) (serveN n b' j)
  | 0,_,_,_,h,_=>h
  | n + 1,b,b',j,h,hj=>by
    rcases hc : b.cs j with _ | c
    · have h1 : Bk.serveN (n + 1) b j = b:=by show (match b.cs j with | none=>b | some c=>_) = b; rw [hc]
      have h2 : Bk.serveN (n + 1) b' j = b':=by show (match b'.cs j with | none=>b' | some c=>_) = b'; rw [h.cs hj,hc]
      rw [h1,h2]
      exact h
    · rw [serveN_succ n b j hc,serveN_succ n b' j (by rw [h.cs hj]; exact hc)]
      have hn : nextB b' c = nextB b c:=by
        unfold nextB
        rw [h.fl.2.2.1,h.fl.2.1,h.fl.2.2.2.2.1]
      rw [hn]
      rcases nextB b c with _ | ⟨m,p,s⟩
      · exact h
      · have h1:=h.served hj c m p s
        show Str k (if m.k = 12 then Bk.leave (Bk.served b j c m p s) j else Bk.serveN n (Bk.served b j c m p s) j) (if m.k = 12 then Bk.leave (Bk.served b' j c m p s) j else Bk.serveN n (Bk.served b' j c m p s) j)
        split
        · exact h1.leave j
        · exact Str.serveN n j h1 hj
theorem Str.serve (h : Str k b b') (j : Nat) (hj : j≠k) : Str k (serve b j) (serve b' j):=by
  unfold Bk.serve
  rw [h.fl.2.2.1]
  exact Str.serveN _ j h hj
def Sim (k : Nat) (b b' : Br) : Prop:=opn b k = false∧(b' = b∨Str k b b')
theorem Str.sim (h : Str k b b') : Sim k b b':=⟨h.shut.1,.inr h⟩
theorem Sim.trans {c : Br} (h : Sim k b b') (h2 : Sim k b' c) : Sim k b c:=by
  obtain ⟨h0,rfl | h1⟩:=h
  · exact h2
  · obtain ⟨_,rfl | h3⟩:=h2
    · exact ⟨h0,.inr h1⟩
    · exact ⟨h0,.inr (h1.trans h3)⟩
theorem Sim.symm (h : Sim k b b') : Sim k b' b:=by
  obtain ⟨h0,rfl | h1⟩:=h
  · exact ⟨h0,.inl rfl⟩
  · exact ⟨h1.shut.2,.inr h1.symm⟩
theorem Sim.shut (h : Sim k b b') : opn b' k = false:=by
  obtain ⟨h0,rfl | h1⟩:=h
  · exact h0
  · exact h1.shut.2
theorem Sim.fl (h : Sim k b b') : b'.fl = b.fl∧b'.cf = b.cf∧b'.L = b.L∧b'.told = b.told∧b'.strikes = b.strikes∧b'.inp = b.inp∧b'.ended = b.ended:=by
  obtain ⟨h0,rfl | h1⟩:=h
  · exact ⟨rfl,rfl,rfl,rfl,rfl,rfl,rfl⟩
  · exact h1.fl
theorem Sim.cs (h : Sim k b b') {j : Nat} (hj : j≠k) : b'.cs j = b.cs j:=by
  obtain ⟨h0,rfl | h1⟩:=h
  · rfl
  · exact h1.cs hj
theorem Sim.there (h : Sim k b b') {j : Nat} (hj : j≠k) : isThere b' (j : Nat) = isThere b (j : Nat):=by
  unfold isThere
  rw [show ((j : Nat) : Int).toNat = j by omega,h.cs hj]
theorem shut_core (k : Nat) : KCore (fun b=>opn b k = false) where
  gone:=fun b j c h hc _ _=>by
    have : opn (setc b j (some { c with st:=2 })) k = false:=by
      rw [opn_setc]
      split
      · rfl
      · exact h
    unfold gone
    split
    · exact this
    · exact this
  plus:=fun b j c m h hc _ _=>by
    show opn (setc b j (some (plus m c))) k = false
    rw [opn_setc]
    split
    · next e =>
      subst e
      unfold opn at h
      rw [hc] at h
      exact h
    · exact h
  told:=fun b h=>h
  served:=fun b j c m p s h hc _ _=>by
    show opn (setc b j (some _)) k = false
    rw [opn_setc]
    split
    · next e =>
      subst e
      unfold opn at h
      rw [hc] at h
      show decide ((putc b.cf.queue { c with p:=p,s:=s } (enc m)).st = 1) = false
      rw [(putc_same _ _ _).1]
      exact h
    · exact h
  reap:=fun b h=>by
    unfold opn at h ⊢
    show (match (if 1≤k∧k≤16∧done b k = true then none else b.cs k) with | some c=>decide (c.st = 1) | none=>false) = false
    split
    · next hx =>
      split at hx
      · cases hx
      · rw [hx] at h; exact h
    · rfl
theorem Str.reap (h : Str k b b') : Sim k (reap b) (reap b'):=by
  refine ⟨(shut_core k).reap b h.shut.1,?_⟩
  obtain ⟨c,c',e1,e2,e3,e4,rfl⟩:=h
  have hd : ∀ j,done (setc b k (some c')) j = done b j:=fun j=>by
    unfold done
    by_cases e : j = k
    · subst e
      rw [setc_cs,e1]
      show decide (c'.st = 2∧c'.out = []) = decide (c.st = 2∧c.out = [])
      rw [e2,e3]
      have : (c'.out = [])↔(c.out = []):=by rw [← List.length_eq_zero_iff,← List.length_eq_zero_iff,e4]
      simp [this]
    · rw [setc_ne _ _ _ e]
  by_cases hk : 1≤k∧k≤16∧done b k = true
  · left
    show ({ setc b k (some c') with cs:=_ } : Br) = { b with cs:=_ }
    show ({ b with cs:=fun j=>if 1≤j∧j≤16∧done (setc b k (some c')) j = true then none else (setc b k (some c')).cs j } : Br) = _
    congr 1
    funext j
    rw [hd]
    by_cases e : j = k
    · subst e; rw [if_pos hk,if_pos hk]
    · rw [setc_ne _ _ _ e]
  · right
    refine ⟨c,c',?_,e2,e3,e4,?_⟩
    · show (if 1≤k∧k≤16∧done b k = true then none else b.cs k) = _
      rw [if_neg hk]; exact e1
    · show ({ b with cs:=fun j=>if 1≤j∧j≤16∧done (setc b k (some c')) j = true then none else (setc b k (some c')).cs j } : Br) = { b with cs:=fun j=>if j = k then some c' else (if 1≤j∧j≤16∧done b j = true then none else b.cs j) }
      congr 1
      funext j
      rw [hd]
      by_cases e : j = k
      · subst e; rw [if_neg hk,if_pos rfl,setc_cs]
      · rw [setc_ne _ _ _ e,if_neg e]
theorem Str.settle (h : Str k b b') : Sim k (settle b) (settle b'):=by
  unfold Bk.settle
  refine (Str.holder (Str.goes (fun {b b'} j h ho=>h.serve j fun e=>?_) ids h.holder)).reap
  subst e
  rw [h.shut.1] at ho
  cases ho
theorem Sim.settle (h : Sim k b b') : Sim k (settle b) (settle b'):=by
  obtain ⟨h0,rfl | h1⟩:=h
  · exact ⟨(shut_core k).settle h0,.inl rfl⟩
  · exact h1.settle
theorem Sim.write (h : Sim k b b') {j : Nat} (hj : j≠k) (n : Int) : writeT b' (j : Nat) n = writeT b (j : Nat) n∧writeE b' (j : Nat) = writeE b (j : Nat)∧Sim k (writeB b (j : Nat) n) (writeB b' (j : Nat) n):=by
  have hjj : ((j : Nat) : Int).toNat = j:=by omega
  have ht:=h.there hj
  refine ⟨?_,by unfold writeE; rw [ht],?_⟩
  · unfold writeT
    rw [ht,hjj,h.cs hj]
  · unfold writeB
    rw [ht,hjj,h.cs hj]
    split
    · rcases hc : b.cs j with _ | c
      · exact h
      · show Sim k (Bk.settle (setc b j (some _))) (Bk.settle (setc b' j (some _)))
        refine Sim.settle ?_
        obtain ⟨h0,rfl | h1⟩:=h
        · exact ⟨by rw [opn_setc,if_neg (fun e=>hj e.symm)]; exact h0,.inl rfl⟩
        · exact (h1.set hj _).sim
    · exact h
theorem Sim.output (h : Sim k b b') (t : Bs) : Sim k (outputB b t) (outputB b' t):=by
  unfold outputB
  rw [h.fl.2.2.2.2.2.2]
  split
  · exact h
  · refine Sim.settle ?_
    obtain ⟨h0,rfl | ⟨c,c',e1,e2,e3,e4,rfl⟩⟩:=h
    · exact ⟨h0,.inl rfl⟩
    · exact ⟨h0,.inr ⟨c,c',e1,e2,e3,e4,rfl⟩⟩
end
theorem closing_core (k : Nat) : KCore (fun b=>closing b k = true) where
  gone:=fun b j c h hc _ _=>by
    have : closing (setc b j (some { c with st:=2 })) k = true:=by
      unfold closing at h ⊢
      by_cases e : k = j
      · subst e; rw [setc_cs]; rfl
      · rw [setc_ne _ _ _ e]; exact h
    unfold gone
    split
    · exact this
    · exact this
  plus:=fun b j c m h hc _ _=>by
    unfold closing at h ⊢
    by_cases e : k = j
    · subst e; rw [setc_cs]; rw [hc] at h; exact h
    · rw [setc_ne _ _ _ e]; exact h
  told:=fun b h=>h
  served:=fun b j c m p s h hc _ _=>by
    unfold closing at h ⊢
    by_cases e : k = j
    · subst e
      rw [hc] at h
      show (match (setc b k (some _)).cs k with | some c=>decide (c.st = 2) | none=>true) = true
      rw [setc_cs]
      show decide ((putc _ _ _).st = 2) = true
      rw [(putc_same _ _ _).1]
      exact h
    · show (match (setc b j (some _)).cs k with | some c=>decide (c.st = 2) | none=>true) = true
      rw [setc_ne _ _ _ e]; exact h
  reap:=fun b h=>by
    unfold closing at h ⊢
    show (match (if 1≤k∧k≤16∧done b k = true then none else b.cs k) with | some c=>decide (c.st = 2) | none=>true) = true
    by_cases hk : 1≤k∧k≤16∧done b k = true
    · rw [if_pos hk]
    · rw [if_neg hk]; exact h
theorem shut_closes {b : Br} {k : Nat} (why : Nat) : closing (shut b k why) k = true:=by
  unfold shut
  obtain ⟨x,hx⟩ : ∃ x,send (closed why) b k = x:=⟨_,rfl⟩
  rw [hx]
  show closing (leaveW (tellN 16) x k) k = true
  unfold leaveW
  rcases hc : x.cs k with _ | c
  · show closing x k = true
    unfold closing
    rw [hc]
  · have h : closing (setc x k (some { c with st:=2 })) k = true:=by unfold closing; rw [setc_cs]; rfl
    show closing (if c.st = 1 then tellN 16 (left k) (setFl (setc x k (some { c with st:=2 })) (fleave x.fl k)) else setc x k (some { c with st:=2 })) k = true
    split
    · exact (closing_core k).tellN 16 _ _ h
    · exact h
end Go.Proofs.YtjmdddhbdofppaaGreatDoor.Bk
