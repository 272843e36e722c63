/- Layer 10 in mathematics: users who ask one behind the other. No program is named here. -/
import Derived.Test.YtoohlingoklaaaaFot
namespace Go.Proofs.Ytoohlingoklaaaa

/-- n numbers from k on -/
def up (k n : Nat) : List Int := (List.range' k n).map fun j : Nat => (j : Int)

theorem up_succ (k n : Nat) : up k (n + 1) = (k : Int) :: up (k + 1) n := by unfold up; rw [List.range'_succ]; rfl
theorem up_snoc (k n : Nat) : up k (n + 1) = up k n ++ [((k + n : Nat) : Int)] := by unfold up; rw [List.range'_1_concat, List.map_append]; rfl
theorem up_len (k n : Nat) : (up k n).length = n := by simp [up]
theorem up_mem {k n : Nat} {i : Int} (h : i ∈ up k n) : (k : Int) ≤ i ∧ i < ((k + n : Nat) : Int) := by
  unfold up at h
  obtain ⟨j, hj, rfl⟩ := List.mem_map.1 h
  have := List.mem_range'_1.1 hj
  omega

/-- the line is n users from k on; so much is left of the lease -/
structure St (N L : Nat) (s : Fl) (k n l : Nat) : Prop where
  ok : FOk N s
  lease : s.lease = L
  line : s.line = up k n
  left : s.left = l

section
variable {N L k n l : Nat} {s : Fl}

theorem St.hold (h : St N L s k (n + 1) l) : fhold s = k := by unfold fhold; rw [h.line, up_succ]; rfl
theorem St.tail (h : St N L s k (n + 1) l) : s.line.tail = up (k + 1) n := by rw [h.line, up_succ]; rfl
theorem St.qlen (h : St N L s k n l) : s.line.tail.length = n - 1 := by rw [List.length_tail, h.line, up_len]

theorem St.len (h : St N L s k n l) : s.line.length = n := by rw [h.line, up_len]

theorem St.tick1 (h : St N L s k (n + 1) l) (hl : 1 < l) : St N L (ftick s) k (n + 1) (l - 1) := by
  have hlen := h.len
  have e : ftick s = { s with left := s.left - 1 } := by unfold ftick; rw [if_neg (by omega), if_pos (by rw [h.left]; exact hl)]
  refine ⟨h.ok.tick, ?_, ?_, ?_⟩ <;> rw [e]
  · exact h.lease
  · exact h.line
  · show s.left - 1 = l - 1; rw [h.left]

theorem out0 (h : St N L s k (n + 2) l) : (outAt s 0).lease = L ∧ (outAt s 0).line = up (k + 1) (n + 1) ∧ (outAt s 0).left = L := by
  have e : s.line.eraseIdx 0 = up (k + 1) (n + 1) := by rw [h.line, up_succ]; rfl
  refine ⟨h.lease, e, ?_⟩
  show (if 0 = 0 then (if (s.line.eraseIdx 0).length = 0 then 0 else s.lease) else s.left) = L
  rw [if_pos rfl, e, up_len, if_neg (by omega), h.lease]

theorem St.tick2 (h : St N L s k (n + 2) 1) : St N L (ftick s) (k + 1) (n + 1) L := by
  have hlen := h.len
  have e : ftick s = outAt s 0 := by unfold ftick; rw [if_neg (by omega), if_neg (by rw [h.left]; omega), if_neg (by omega)]
  obtain ⟨h1, h2, h3⟩ := out0 h
  exact ⟨h.ok.tick, by rw [e]; exact h1, by rw [e]; exact h2, by rw [e]; exact h3⟩

theorem St.tick3 (h : St N L s k 1 1) : St N L (ftick s) k 1 L := by
  have hlen := h.len
  have e : ftick s = { s with left := s.lease } := by unfold ftick; rw [if_neg (by omega), if_neg (by rw [h.left]; omega), if_pos hlen]
  refine ⟨h.ok.tick, ?_, ?_, ?_⟩ <;> rw [e]
  · exact h.lease
  · exact h.line
  · exact h.lease

theorem out_head (h : St N L s k (n + 2) l) : (fout s k).lease = L ∧ (fout s k).line = up (k + 1) (n + 1) ∧ (fout s k).left = L := by
  have hm : (k : Int) ∈ s.line := by rw [h.line, up_succ]; exact List.mem_cons_self
  have hi : s.line.idxOf (k : Int) = 0 := by rw [h.line, up_succ]; simp
  unfold fout
  rw [if_pos hm, hi]
  exact out0 h

theorem St.has (h : St N L s k (n + 1) l) : rhas s.roles k = true := (h.ok.mem k (by rw [h.line, up_succ]; exact List.mem_cons_self)).1

theorem St.drop (h : St N L s k (n + 2) l) : dropE s k = 0 ∧ St N L (fdrop s k) (k + 1) (n + 1) L := by
  have hm : (k : Int) ∈ s.line := by rw [h.line, up_succ]; exact List.mem_cons_self
  have hE : dropE s k = 0 := by unfold dropE; rw [h.has, if_pos rfl, if_pos hm]
  have e : fdrop s k = fout s k := by unfold fdrop; rw [if_pos hE]
  obtain ⟨h1, h2, h3⟩ := out_head h
  exact ⟨hE, h.ok.drop _, by rw [e]; exact h1, by rw [e]; exact h2, by rw [e]; exact h3⟩

theorem St.leave (h : St N L s k (n + 2) l) : St N L (fleave s k) (k + 1) (n + 1) L := by
  have e : fleave s k = { fout s k with roles := rdel s.roles k } := by unfold fleave; rw [h.has, if_pos rfl]
  obtain ⟨h1, h2, h3⟩ := out_head h
  exact ⟨h.ok.leave _, by rw [e]; exact h1, by rw [e]; exact h2, by rw [e]; exact h3⟩

theorem fout_frole' (s : Fl) (id r : Int) : fout (frole s id r) id = { fout s id with roles := rput s.roles id r } := by
  unfold fout frole outAt
  split <;> rfl

theorem St.watch (h : St N L s k (n + 2) l) : sets s k 0 = true ∧ St N L (fset s k 0) (k + 1) (n + 1) L := by
  have hs : sets s k 0 = true := by unfold sets isRole; rw [h.has]; rfl
  have e : fset s k 0 = { fout s k with roles := rput s.roles k 0 } := by unfold fset; rw [if_pos hs, if_pos rfl, fout_frole']
  obtain ⟨h1, h2, h3⟩ := out_head h
  exact ⟨hs, h.ok.set _ _, by rw [e]; exact h1, by rw [e]; exact h2, by rw [e]; exact h3⟩

theorem St.rev (h : St N L s k (n + 2) l) : revE s = 0 ∧ St N L (frev s) (k + 1) (n + 1) L := by
  have hlen := h.len
  have hE : revE s = 0 := by unfold revE; rw [if_neg (by omega)]
  have e : frev s = outAt s 0 := by unfold frev; rw [if_neg (by omega)]
  obtain ⟨h1, h2, h3⟩ := out0 h
  exact ⟨hE, h.ok.rev, by rw [e]; exact h1, by rw [e]; exact h2, by rw [e]; exact h3⟩
end

/-- m users have come and asked -/
structure Came (L m : Nat) (s : Fl) : Prop where
  ok : FOk (2 * m) s
  lease : s.lease = L
  line : s.line = up 1 m
  left : s.left = if m = 0 then 0 else L
  has : ∀ j, rhas s.roles j = true → 1 ≤ j ∧ j ≤ m

theorem came_new (L : Int) (h1 : 1 ≤ L) (h2 : L ≤ 1000) : Came L.toNat 0 (fnew L) := by
  refine ⟨fok_new L, ?_, rfl, rfl, fun j hj => by cases hj⟩
  show (min (max L 1) 1000).toNat = L.toNat
  omega

theorem Came.next {L m : Nat} {s : Fl} (h : Came L m s) (hm : m ≤ 1000) :
    FOk (2 * m + 1) (fjoin s (m + 1 : Nat) 1) ∧ askE (fjoin s (m + 1 : Nat) 1) (m + 1 : Nat) = 0 ∧ Came L (m + 1) (fask (fjoin s (m + 1 : Nat) 1) (m + 1 : Nat)) := by
  have hb : rhas s.roles ((m + 1 : Nat) : Int) = false := by
    rcases e : rhas s.roles ((m + 1 : Nat) : Int) with _ | _
    · rfl
    · have := h.has _ e; omega
  have hj : joins s ((m + 1 : Nat) : Int) 1 = true := by unfold joins isRole; rw [hb]; simp <;> omega
  have ej : fjoin s ((m + 1 : Nat) : Int) 1 = { s with roles := rput s.roles ((m + 1 : Nat) : Int) 1 } := by unfold fjoin; rw [hj, if_pos rfl]
  have k1 := h.ok.join (id := ((m + 1 : Nat) : Int)) 1 (by omega)
  have hnm : ((m + 1 : Nat) : Int) ∉ s.line := fun hi => by rw [h.line] at hi; have := up_mem hi; omega
  have hE : askE (fjoin s ((m + 1 : Nat) : Int) 1) ((m + 1 : Nat) : Int) = 0 := by
    unfold askE
    rw [ej]
    show (if rhas (rput s.roles ((m + 1 : Nat) : Int) 1) ((m + 1 : Nat) : Int) then (if rrole (rput s.roles ((m + 1 : Nat) : Int) 1) ((m + 1 : Nat) : Int) = 0 then 4 else if ((m + 1 : Nat) : Int) ∈ s.line then 3 else 0) else 2) = (0 : Int)
    rw [rhas_put h.ok.rising, rrole_put h.ok.rising, if_neg hnm]
    simp
  have k2 := k1.ask ((m + 1 : Nat) : Int)
  refine ⟨k1, hE, ?_⟩
  have ea : fask (fjoin s ((m + 1 : Nat) : Int) 1) ((m + 1 : Nat) : Int) = ⟨s.lease, if s.line.length = 0 then s.lease else s.left, rput s.roles ((m + 1 : Nat) : Int) 1, s.line ++ [((m + 1 : Nat) : Int)]⟩ := by
    unfold fask; rw [if_pos hE, ej]
  refine ⟨k2.mono (by omega), by rw [ea]; exact h.lease, ?_, ?_, fun j hjj => ?_⟩
  · rw [ea, up_snoc, h.line, Nat.add_comm 1 m]
  · rw [ea]
    show (if s.line.length = 0 then s.lease else s.left) = (if m + 1 = 0 then 0 else L)
    rw [h.line, up_len, h.left, h.lease, if_neg (Nat.succ_ne_zero m)]
    split <;> rfl
  · rw [ea] at hjj
    have h3 : rhas (rput s.roles ((m + 1 : Nat) : Int) 1) j = true := hjj
    rw [rhas_put h.ok.rising] at h3
    simp only [Bool.or_eq_true, decide_eq_true_eq] at h3
    rcases h3 with h3 | h3
    · omega
    · have := h.has _ h3; omega

theorem Came.st {L m : Nat} {s : Fl} (h : Came L (m + 1) s) (hm : m ≤ 100) : St 1000 L s 1 (m + 1) L :=
  ⟨h.ok.mono (by omega), h.lease, h.line, by rw [h.left, if_neg (by omega)]⟩

end Go.Proofs.Ytoohlingoklaaaa
