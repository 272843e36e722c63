
/- Layer 10 in mathematics: who is there, who holds the floor, who waits. No program is named here. -/
import Derived.Test.YtanloclkbdameaaMem
namespace Go.Proofs.Ytanloclkbdameaa

/-- roles by users, users rising -/
def rget : List (Int × Int) → Int → Option Int
  | [], _ => none
  | p :: t, k => if p.1 = k then some p.2 else rget t k
def rput : List (Int × Int) → Int → Int → List (Int × Int)
  | [], k, v => [(k, v)]
  | p :: t, k, v => if k < p.1 then (k, v) :: p :: t else if p.1 = k then (k, v) :: t else p :: rput t k v
def rdel : List (Int × Int) → Int → List (Int × Int)
  | [], _ => []
  | p :: t, k => if p.1 = k then t else p :: rdel t k
def Rising (l : List (Int × Int)) : Prop := l.Pairwise fun p q => p.1 < q.1
/-- is a user there? -/
def rhas (l : List (Int × Int)) (k : Int) : Bool := (rget l k).isSome
/-- a user's role; 0 where there is none -/
def rrole (l : List (Int × Int)) (k : Int) : Int := (rget l k).getD 0

theorem rget_of_lt {l : List (Int × Int)} {k : Int} (h : ∀ p ∈ l, k < p.1) : rget l k = none := by
  induction l with
  | nil => rfl
  | cons p t ih =>
    have hp := h p List.mem_cons_self
    rw [rget, if_neg (by omega), ih (fun q hq => h q (List.mem_cons_of_mem _ hq))]

theorem rput_mem {l : List (Int × Int)} {k v : Int} {p : Int × Int} (h : p ∈ rput l k v) : p = (k, v) ∨ p ∈ l := by
  induction l with
  | nil => simp [rput] at h; exact .inl h
  | cons q t ih =>
    rw [rput] at h
    split at h
    · rcases List.mem_cons.1 h with h | h
      · exact .inl h
      · exact .inr h
    · split at h
      · rcases List.mem_cons.1 h with h | h
        · exact .inl h
        · exact .inr (List.mem_cons_of_mem _ h)
      · rcases List.mem_cons.1 h with h | h
        · exact .inr (h ▸ List.mem_cons_self)
        · rcases ih h with h | h
          · exact .inl h
          · exact .inr (List.mem_cons_of_mem _ h)

theorem rdel_mem {l : List (Int × Int)} {k : Int} {p : Int × Int} (h : p ∈ rdel l k) : p ∈ l := by
  induction l with
  | nil => simp [rdel] at h
  | cons q t ih =>
    rw [rdel] at h
    split at h
    · exact List.mem_cons_of_mem _ h
    · rcases List.mem_cons.1 h with h | h
      · exact h ▸ List.mem_cons_self
      · exact List.mem_cons_of_mem _ (ih h)

theorem Rising.put {l : List (Int × Int)} (h : Rising l) (k v : Int) : Rising (rput l k v) := by
  induction l with
  | nil => simp [Rising, rput]
  | cons p t ih =>
    obtain ⟨h1, h2⟩ := List.pairwise_cons.1 h
    rw [rput]
    split
    · refine List.pairwise_cons.2 ⟨fun q hq => ?_, h⟩
      rcases List.mem_cons.1 hq with hq | hq
      · subst hq; assumption
      · have := h1 q hq; show k < q.1; omega
    · split
      · next _ e => exact List.pairwise_cons.2 ⟨fun q hq => by have := h1 q hq; show k < q.1; omega, h2⟩
      · refine List.pairwise_cons.2 ⟨fun q hq => ?_, ih h2⟩
        rcases rput_mem hq with hq | hq
        · subst hq; show p.1 < k; omega
        · exact h1 q hq

theorem Rising.del {l : List (Int × Int)} (h : Rising l) (k : Int) : Rising (rdel l k) := by
  induction l with
  | nil => exact h
  | cons p t ih =>
    obtain ⟨h1, h2⟩ := List.pairwise_cons.1 h
    rw [rdel]
    split
    · exact h2
    · exact List.pairwise_cons.2 ⟨fun q hq => h1 q (rdel_mem hq), ih h2⟩

theorem rget_put {l : List (Int × Int)} (h : Rising l) (k v j : Int) : rget (rput l k v) j = if j = k then some v else rget l j := by
  induction l with
  | nil => simp [rput, rget, eq_comm]
  | cons p t ih =>
    obtain ⟨h1, h2⟩ := List.pairwise_cons.1 h
    rw [rput]
    split
    · rw [rget]
      by_cases e : k = j
      · subst e; simp
      · rw [if_neg e, if_neg (fun e' => e e'.symm)]
    · split
      · next _ e =>
        rw [rget, rget]
        by_cases e2 : k = j
        · subst e2; simp
        · rw [if_neg e2, if_neg (fun e' => e2 e'.symm), if_neg (by omega)]
      · rw [rget, rget, ih h2]
        by_cases e2 : p.1 = j
        · rw [if_pos e2, if_pos e2, if_neg (by omega)]
        · rw [if_neg e2, if_neg e2]

theorem rget_del {l : List (Int × Int)} (h : Rising l) (k j : Int) : rget (rdel l k) j = if j = k then none else rget l j := by
  induction l with
  | nil => simp [rdel, rget]
  | cons p t ih =>
    obtain ⟨h1, h2⟩ := List.pairwise_cons.1 h
    rw [rdel]
    split
    · next e =>
      by_cases e2 : j = k
      · subst e2; subst e
        rw [if_pos rfl]
        exact rget_of_lt h1
      · rw [if_neg e2, rget, if_neg (by omega)]
    · rw [rget, rget, ih h2]
      by_cases e2 : p.1 = j
      · rw [if_pos e2, if_pos e2, if_neg (by omega)]
      · rw [if_neg e2, if_neg e2]

theorem rlen_put {l : List (Int × Int)} (h : Rising l) (k v : Int) : (rput l k v).length = if rhas l k then l.length else l.length + 1 := by
  induction l with
  | nil => simp [rput, rhas, rget]
  | cons p t ih =>
    obtain ⟨h1, h2⟩ := List.pairwise_cons.1 h
    rw [rput]
    split
    · next hlt =>
      have : rget (p :: t) k = none := rget_of_lt (fun q hq => by
        rcases List.mem_cons.1 hq with hq | hq
        · subst hq; exact hlt
        · have := h1 q hq; omega)
      simp [rhas, this]
    · split
      · next _ e => simp [rhas, rget, e]
      · next _ e =>
        have hh : rhas (p :: t) k = rhas t k := by unfold rhas; rw [rget, if_neg e]
        rw [hh, List.length_cons, List.length_cons, ih h2]
        split <;> rfl

theorem rlen_del (l : List (Int × Int)) (k : Int) : (rdel l k).length + (if rhas l k then 1 else 0) = l.length := by
  induction l with
  | nil => simp [rdel, rhas, rget]
  | cons p t ih =>
    rw [rdel]
    by_cases e : p.1 = k
    · rw [if_pos e]; simp [rhas, rget, e]
    · have hh : rhas (p :: t) k = rhas t k := by unfold rhas; rw [rget, if_neg e]
      rw [if_neg e, hh, List.length_cons, List.length_cons]
      omega

theorem rget_mem {l : List (Int × Int)} {k v : Int} (h : rget l k = some v) : (k, v) ∈ l := by
  induction l with
  | nil => cases h
  | cons p t ih =>
    rw [rget] at h
    split at h
    · next e => injection h with h; obtain ⟨a, b⟩ := p; subst e h; exact List.mem_cons_self
    · exact List.mem_cons_of_mem _ (ih h)

theorem rget_of_mem {l : List (Int × Int)} (h : Rising l) {k v : Int} (hm : (k, v) ∈ l) : rget l k = some v := by
  induction l with
  | nil => cases hm
  | cons p t ih =>
    obtain ⟨h1, h2⟩ := List.pairwise_cons.1 h
    rw [rget]
    rcases List.mem_cons.1 hm with hm | hm
    · subst hm; rw [if_pos rfl]
    · rw [if_neg (by have := h1 _ hm; simp at this; omega)]
      exact ih h2 hm

theorem rdel_none {l : List (Int × Int)} {k : Int} (h : rget l k = none) : rdel l k = l := by
  induction l with
  | nil => rfl
  | cons p t ih =>
    rw [rget] at h
    split at h
    · cases h
    · next e => rw [rdel, if_neg e, ih h]

/-- a table: the lease, what is left of it, who is there, and the line of who holds the floor and who waits -/
structure Fl where
  lease : Nat
  left : Nat
  roles : List (Int × Int)
  line : List Int

def fnew (lease : Int) : Fl := ⟨(min (max lease 1) 1000).toNat, 0, [], []⟩
def isRole (r : Int) : Bool := decide (0 ≤ r) && decide (r ≤ 2)
def joins (s : Fl) (id r : Int) : Bool := !rhas s.roles id && (decide (0 < id) && isRole r)
def fjoin (s : Fl) (id r : Int) : Fl := if joins s id r then { s with roles := rput s.roles id r } else s
/-- the one at a place goes out of the line -/
def outAt (s : Fl) (i : Nat) : Fl := { s with line := s.line.eraseIdx i, left := if i = 0 then (if (s.line.eraseIdx i).length = 0 then 0 else s.lease) else s.left }
def fout (s : Fl) (id : Int) : Fl := if id ∈ s.line then outAt s (s.line.idxOf id) else s
def fleave (s : Fl) (id : Int) : Fl := if rhas s.roles id then { fout s id with roles := rdel s.roles id } else s
def sets (s : Fl) (id r : Int) : Bool := rhas s.roles id && isRole r
def frole (s : Fl) (id r : Int) : Fl := { s with roles := rput s.roles id r }
def fset (s : Fl) (id r : Int) : Fl := if sets s id r then (if r = 0 then fout (frole s id r) id else frole s id r) else s
def askE (s : Fl) (id : Int) : Int := if rhas s.roles id then (if rrole s.roles id = 0 then 4 else if id ∈ s.line then 3 else 0) else 2
def fask (s : Fl) (id : Int) : Fl := if askE s id = 0 then { s with line := s.line ++ [id], left := if s.line.length = 0 then s.lease else s.left } else s
def dropE (s : Fl) (id : Int) : Int := if rhas s.roles id then (if id ∈ s.line then 0 else 3) else 2
def fdrop (s : Fl) (id : Int) : Fl := if dropE s id = 0 then fout s id else s
def giveE (s : Fl) (id : Int) : Int := if rhas s.roles id then (if rrole s.roles id = 0 then 4 else if s.line.head? = some id then 3 else 0) else 2
def fgive (s : Fl) (id : Int) : Fl := if giveE s id = 0 then { s with line := id :: (s.line.tail.filter fun x => decide (x ≠ id)), left := s.lease } else s
def revE (s : Fl) : Int := if s.line.length = 0 then 3 else 0
def frev (s : Fl) : Fl := if s.line.length = 0 then s else outAt s 0
def ftick (s : Fl) : Fl := if s.line.length = 0 then s else if 1 < s.left then { s with left := s.left - 1 } else if s.line.length = 1 then { s with left := s.lease } else outAt s 0
def fhold (s : Fl) : Int := s.line.headD 0

/-- what holds at any time; n: how much was done -/
structure FOk (n : Nat) (s : Fl) : Prop where
  l1 : 1 ≤ s.lease
  l2 : s.lease ≤ 1000
  left : s.left ≤ s.lease
  zero : s.left = 0 ↔ s.line = []
  rising : Rising s.roles
  nodup : s.line.Nodup
  mem : ∀ i ∈ s.line, rhas s.roles i = true ∧ rrole s.roles i ≠ 0
  ids : ∀ p ∈ s.roles, 0 < p.1 ∧ p.1 ≤ 9223372036854775807 ∧ 0 ≤ p.2 ∧ p.2 ≤ 2
  rn : s.roles.length ≤ n
  ln : s.line.length ≤ n

theorem FOk.mono {n m : Nat} {s : Fl} (h : FOk n s) (hm : n ≤ m) : FOk m s := ⟨h.l1, h.l2, h.left, h.zero, h.rising, h.nodup, h.mem, h.ids, Nat.le_trans h.rn hm, Nat.le_trans h.ln hm⟩

theorem fok_new (lease : Int) : FOk 0 (fnew lease) := by
  refine ⟨?_, ?_, Nat.zero_le _, by simp [fnew], List.Pairwise.nil, List.nodup_nil, by simp [fnew], by simp [fnew], Nat.le_refl _, Nat.le_refl _⟩
  · show 1 ≤ (min (max lease 1) 1000).toNat; omega
  · show (min (max lease 1) 1000).toNat ≤ 1000; omega

theorem rhas_put {l : List (Int × Int)} (h : Rising l) (k v j : Int) : rhas (rput l k v) j = (decide (j = k) || rhas l j) := by
  unfold rhas; rw [rget_put h]
  by_cases e : j = k <;> simp [e]

theorem rrole_put {l : List (Int × Int)} (h : Rising l) (k v j : Int) : rrole (rput l k v) j = if j = k then v else rrole l j := by
  unfold rrole; rw [rget_put h]
  by_cases e : j = k <;> simp [e]

theorem rhas_of_mem {l : List (Int × Int)} {k : Int} (h : rhas l k = true) : (k, rrole l k) ∈ l := by
  unfold rhas at h; unfold rrole
  obtain ⟨v, hv⟩ := Option.isSome_iff_exists.1 h
  rw [hv]
  exact rget_mem hv

section
variable {n : Nat} {s : Fl}

theorem FOk.id_lt (h : FOk n s) {i : Int} (hi : i ∈ s.line) : 0 < i ∧ i ≤ 9223372036854775807 := by
  have := h.ids _ (rhas_of_mem (h.mem i hi).1)
  exact ⟨this.1, this.2.1⟩

theorem FOk.role_lt (h : FOk n s) (i : Int) : 0 ≤ rrole s.roles i ∧ rrole s.roles i ≤ 2 := by
  unfold rrole
  rcases e : rget s.roles i with _ | v
  · simp
  · have := h.ids _ (rget_mem e)
    exact ⟨this.2.2.1, this.2.2.2⟩

theorem FOk.join (h : FOk n s) {id : Int} (r : Int) (hi : id ≤ 9223372036854775807) : FOk (n + 1) (fjoin s id r) := by
  unfold fjoin
  split
  · next hj =>
    unfold joins isRole at hj
    simp at hj
    obtain ⟨h1, h2, h3, h4⟩ := hj
    refine ⟨h.l1, h.l2, h.left, h.zero, h.rising.put _ _, h.nodup, fun i hi => ?_, fun p hp => ?_, ?_, Nat.le_succ_of_le h.ln⟩
    · obtain ⟨h5, h6⟩ := h.mem i hi
      refine ⟨?_, ?_⟩
      · show rhas (rput s.roles id r) i = true
        rw [rhas_put h.rising, h5]; simp
      · show rrole (rput s.roles id r) i ≠ 0
        rw [rrole_put h.rising, if_neg]
        · exact h6
        · rintro rfl; rw [h1] at h5; cases h5
    · rcases rput_mem hp with e | e
      · subst e; exact ⟨h2, hi, h3, h4⟩
      · exact h.ids p e
    · show (rput s.roles id r).length ≤ n + 1
      have := rlen_put h.rising id r
      have := h.rn
      split at * <;> omega
  · exact h.mono (Nat.le_succ n)

theorem FOk.cutAt (h : FOk n s) (i : Nat) (hi : i < s.line.length) : FOk n (outAt s i) := by
  have hsub : (s.line.eraseIdx i).Sublist s.line := List.eraseIdx_sublist ..
  refine ⟨h.l1, h.l2, ?_, ?_, h.rising, h.nodup.sublist hsub, fun j hj => h.mem j (hsub.mem hj), h.ids, h.rn, Nat.le_trans hsub.length_le h.ln⟩
  · show (if i = 0 then (if (s.line.eraseIdx i).length = 0 then 0 else s.lease) else s.left) ≤ s.lease
    have := h.left
    repeat' split
    all_goals omega
  · show (if i = 0 then (if (s.line.eraseIdx i).length = 0 then 0 else s.lease) else s.left) = 0 ↔ s.line.eraseIdx i = []
    have h1 := h.l1
    have hz := h.zero
    rw [← List.length_eq_zero_iff]
    have hl := List.length_eraseIdx_of_lt hi
    by_cases e : i = 0
    · rw [if_pos e]
      split <;> omega
    · rw [if_neg e, hz, ← List.length_eq_zero_iff]
      omega

theorem FOk.out (h : FOk n s) (id : Int) : FOk n (fout s id) := by
  unfold fout
  split
  · next hm => exact h.cutAt _ (List.idxOf_lt_length_of_mem hm)
  · exact h

theorem fout_roles (s : Fl) (id : Int) : (fout s id).roles = s.roles := by unfold fout; split <;> rfl
theorem fout_lease (s : Fl) (id : Int) : (fout s id).lease = s.lease := by unfold fout; split <;> rfl

theorem eraseIdx_idxOf (l : List Int) (id : Int) : l.eraseIdx (l.idxOf id) = l.erase id := by
  induction l with
  | nil => rfl
  | cons x t ih =>
    rw [List.idxOf_cons, List.erase_cons]
    by_cases e : x = id
    · subst e; simp
    · have : (x == id) = false := by simpa using e
      simp only [this, cond_false]
      rw [if_neg (by simp), List.eraseIdx_cons_succ, ih]

theorem not_mem_out {s : Fl} (h : s.line.Nodup) (id : Int) : id ∉ (fout s id).line := by
  unfold fout
  split
  · show id ∉ s.line.eraseIdx (s.line.idxOf id)
    rw [eraseIdx_idxOf]
    exact fun hm => (List.Nodup.mem_erase_iff h).1 hm |>.1 rfl
  · assumption

theorem mem_out {s : Fl} {id i : Int} (h : i ∈ (fout s id).line) : i ∈ s.line := by
  unfold fout at h
  split at h
  · exact (List.eraseIdx_sublist ..).mem h
  · exact h

theorem FOk.leave (h : FOk n s) (id : Int) : FOk n (fleave s id) := by
  unfold fleave
  split
  · have ho := h.out id
    have hlen := rlen_del s.roles id
    refine ⟨ho.l1, ho.l2, ho.left, ho.zero, h.rising.del _, ho.nodup, fun i hi => ?_, fun p hp => h.ids p (rdel_mem hp), by show (rdel s.roles id).length ≤ n; have := h.rn; omega, ho.ln⟩
    have hne : i ≠ id := by rintro rfl; exact not_mem_out h.nodup _ hi
    obtain ⟨h1, h2⟩ := h.mem i (mem_out hi)
    refine ⟨?_, ?_⟩
    · show rhas (rdel s.roles id) i = true
      unfold rhas; rw [rget_del h.rising, if_neg hne]; exact h1
    · show rrole (rdel s.roles id) i ≠ 0
      unfold rrole; rw [rget_del h.rising, if_neg hne]; exact h2
  · exact h

theorem FOk.set (h : FOk n s) (id r : Int) : FOk n (fset s id r) := by
  unfold fset
  split
  · next hs =>
    unfold sets isRole at hs
    simp at hs
    obtain ⟨h1, h2, h3⟩ := hs
    have hids : ∀ p ∈ rput s.roles id r, 0 < p.1 ∧ p.1 ≤ 9223372036854775807 ∧ 0 ≤ p.2 ∧ p.2 ≤ 2 := by
      intro p hp
      rcases rput_mem hp with e | e
      · subst e
        have := h.ids _ (rhas_of_mem h1)
        exact ⟨this.1, this.2.1, h2, h3⟩
      · exact h.ids p e
    have hrn : (rput s.roles id r).length ≤ n := by
      rw [rlen_put h.rising, h1]; exact h.rn
    have hmem : ∀ i ∈ s.line, (r = 0 → i ≠ id) → rhas (rput s.roles id r) i = true ∧ rrole (rput s.roles id r) i ≠ 0 := by
      intro i hi hne
      obtain ⟨h5, h6⟩ := h.mem i hi
      rw [rhas_put h.rising, rrole_put h.rising, h5]
      refine ⟨by simp, ?_⟩
      split
      · next e => exact fun e0 => hne e0 e
      · exact h6
    split
    · next h0 =>
      have ho := h.out id
      have e1 : (fout (frole s id r) id).line = (fout s id).line ∧ (fout (frole s id r) id).left = (fout s id).left ∧ (fout (frole s id r) id).lease = (fout s id).lease ∧ (fout (frole s id r) id).roles = rput s.roles id r := by
        unfold fout frole outAt
        by_cases e : id ∈ s.line <;> simp [e]
      obtain ⟨e1, e2, e3, e4⟩ := e1
      refine ⟨by rw [e3]; exact ho.l1, by rw [e3]; exact ho.l2, by rw [e2, e3]; exact ho.left, by rw [e1, e2]; exact ho.zero, by rw [e4]; exact h.rising.put _ _, by rw [e1]; exact ho.nodup, fun i hi => ?_, by rw [e4]; exact hids, by rw [e4]; exact hrn, by rw [e1]; exact ho.ln⟩
      rw [e1] at hi
      rw [e4]
      exact hmem i (mem_out hi) (fun _ => by rintro rfl; exact not_mem_out h.nodup _ hi)
    · next h0 =>
      exact ⟨h.l1, h.l2, h.left, h.zero, h.rising.put _ _, h.nodup, fun i hi => hmem i hi (fun e => absurd e h0), hids, hrn, h.ln⟩
  · exact h

theorem FOk.ask (h : FOk n s) (id : Int) : FOk (n + 1) (fask s id) := by
  unfold fask
  split
  · next ha =>
    unfold askE at ha
    split at ha
    · next h1 =>
      split at ha
      · cases ha
      · next h2 =>
        split at ha
        · cases ha
        · next h3 =>
          have hl := h.left
          have h5 := h.l1
          refine ⟨h.l1, h.l2, ?_, ?_, h.rising, ?_, fun i hi => ?_, h.ids, Nat.le_succ_of_le h.rn, by show (s.line ++ [id]).length ≤ n + 1; have := h.ln; simp; omega⟩
          · show (if s.line.length = 0 then s.lease else s.left) ≤ s.lease
            split <;> omega
          · show (if s.line.length = 0 then s.lease else s.left) = 0 ↔ s.line ++ [id] = []
            have hz : s.left = 0 ↔ s.line.length = 0 := h.zero.trans List.length_eq_zero_iff.symm
            simp only [List.append_eq_nil_iff, List.cons_ne_self, and_false, iff_false]
            split <;> omega
          · show (s.line ++ [id]).Nodup
            rw [List.nodup_append]
            exact ⟨h.nodup, by simp, fun a ha b hb => by simp at hb; subst hb; rintro rfl; exact h3 ha⟩
          · rcases List.mem_append.1 hi with hi | hi
            · exact h.mem i hi
            · simp at hi; subst hi; exact ⟨h1, h2⟩
    · cases ha
  · exact h.mono (Nat.le_succ n)

theorem FOk.drop (h : FOk n s) (id : Int) : FOk n (fdrop s id) := by
  unfold fdrop
  split
  · exact h.out id
  · exact h

theorem FOk.give (h : FOk n s) (id : Int) : FOk (n + 1) (fgive s id) := by
  unfold fgive
  split
  · next ha =>
    unfold giveE at ha
    split at ha
    · next h1 =>
      split at ha
      · cases ha
      · next h2 =>
        have hsub : (s.line.tail.filter fun x => decide (x ≠ id)).Sublist s.line := List.filter_sublist.trans (List.tail_sublist _)
        refine ⟨h.l1, h.l2, Nat.le_refl _, ?_, h.rising, ?_, fun i hi => ?_, h.ids, Nat.le_succ_of_le h.rn, ?_⟩
        · show s.lease = 0 ↔ id :: _ = []
          have := h.l1
          simp; omega
        · show (id :: _).Nodup
          refine List.nodup_cons.2 ⟨by simp, h.nodup.sublist hsub⟩
        · rcases List.mem_cons.1 hi with hi | hi
          · subst hi; exact ⟨h1, h2⟩
          · exact h.mem i (hsub.mem hi)
        · show (id :: _).length ≤ n + 1
          have := hsub.length_le
          have := h.ln
          simp only [List.length_cons]; omega
    · cases ha
  · exact h.mono (Nat.le_succ n)

theorem FOk.rev (h : FOk n s) : FOk n (frev s) := by
  unfold frev
  split
  · exact h
  · exact h.cutAt 0 (by omega)

theorem FOk.tick (h : FOk n s) : FOk n (ftick s) := by
  have hl := h.left
  have h1 := h.l1
  unfold ftick
  split
  · exact h
  · next hne =>
    split
    · refine ⟨h.l1, h.l2, by show s.left - 1 ≤ s.lease; omega, ?_, h.rising, h.nodup, h.mem, h.ids, h.rn, h.ln⟩
      show s.left - 1 = 0 ↔ s.line = []
      rw [← List.length_eq_zero_iff]; omega
    · split
      · refine ⟨h.l1, h.l2, Nat.le_refl _, ?_, h.rising, h.nodup, h.mem, h.ids, h.rn, h.ln⟩
        show s.lease = 0 ↔ s.line = []
        rw [← List.length_eq_zero_iff]; omega
      · exact h.cutAt 0 (by omega)
end

end Go.Proofs.Ytanloclkbdameaa
