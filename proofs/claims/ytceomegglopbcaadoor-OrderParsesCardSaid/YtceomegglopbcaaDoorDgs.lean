/- Decimal digits: the plain mathematics. No program is named here. -/
import Derived.Lib.ItoaNum
namespace Go.Proofs.YtceomegglopbcaaDoor.Dgs
abbrev By := List (BitVec 8)

def dgs (u : Nat) : By := if h : u < 10 then [BitVec.ofNat 8 (48 + u)] else dgs (u / 10) ++ [BitVec.ofNat 8 (48 + u % 10)]
termination_by u
decreasing_by omega

theorem dgs_small {u : Nat} (h : u < 10) : dgs u = [BitVec.ofNat 8 (48 + u)] := by rw [dgs, dif_pos h]
theorem dgs_big {u : Nat} (h : ¬ u < 10) : dgs u = dgs (u / 10) ++ [BitVec.ofNat 8 (48 + u % 10)] := by rw [dgs, dif_neg h]

theorem dgs_lib (u : Nat) : (Lib.decDigits u).map (fun c => c.toBitVec) = dgs u := by
  induction u using Nat.strongRecOn with
  | ind u ih =>
    by_cases h : u < 10
    · rw [Lib.decDigits_one h, dgs_small h]
      rfl
    · rw [dgs_big h, ← ih (u / 10) (by omega), Lib.decDigits, dif_neg h, List.map_append]
      rfl

def val (l : By) : Nat := l.foldl (fun n c => 10 * n + (c.toNat - 48)) 0

theorem val_snoc (l : By) (c : BitVec 8) : val (l ++ [c]) = 10 * val l + (c.toNat - 48) := by
  unfold val
  rw [List.foldl_append]
  rfl

theorem d_nat {x : Nat} (h : x < 10) : (BitVec.ofNat 8 (48 + x)).toNat = 48 + x := by
  rw [BitVec.toNat_ofNat]
  omega

theorem val_dgs (u : Nat) : val (dgs u) = u := by
  induction u using Nat.strongRecOn with
  | ind u ih =>
    by_cases h : u < 10
    · rw [dgs_small h, show [BitVec.ofNat 8 (48 + u)] = [] ++ [BitVec.ofNat 8 (48 + u)] from rfl, val_snoc, d_nat h]
      simp [val]
    · rw [dgs_big h, val_snoc, ih (u / 10) (by omega), d_nat (by omega)]
      omega

theorem dgs_inj {u v : Nat} (h : dgs u = dgs v) : u = v := by rw [← val_dgs u, h, val_dgs]

def IsD (c : BitVec 8) : Prop := 48 ≤ c.toNat ∧ c.toNat ≤ 57

theorem dgs_are (u : Nat) : ∀ c ∈ dgs u, IsD c := by
  induction u using Nat.strongRecOn with
  | ind u ih =>
    intro c hc
    by_cases h : u < 10
    · rw [dgs_small h, List.mem_singleton] at hc
      subst hc
      unfold IsD
      rw [d_nat h]
      omega
    · rw [dgs_big h, List.mem_append, List.mem_singleton] at hc
      rcases hc with hc | rfl
      · exact ih (u / 10) (by omega) c hc
      · unfold IsD
        rw [d_nat (by omega)]
        omega

theorem dgs_ne (u : Nat) : dgs u ≠ [] := by
  by_cases h : u < 10
  · rw [dgs_small h]; simp
  · rw [dgs_big h]; simp

theorem dgs_head (u : Nat) (h : 0 < u) : ∃ c l, dgs u = c :: l ∧ c.toNat ≠ 48 := by
  induction u using Nat.strongRecOn with
  | ind u ih =>
    by_cases h10 : u < 10
    · exact ⟨_, [], dgs_small h10, by rw [d_nat h10]; omega⟩
    · obtain ⟨c, l, e, hc⟩ := ih (u / 10) (by omega) (by omega)
      exact ⟨c, l ++ [BitVec.ofNat 8 (48 + u % 10)], by rw [dgs_big h10, e]; rfl, hc⟩

theorem d_back (c : BitVec 8) (h : IsD c) : BitVec.ofNat 8 (48 + (c.toNat - 48)) = c := by
  have := h.1
  rw [show 48 + (c.toNat - 48) = c.toNat by omega]
  apply BitVec.eq_of_toNat_eq
  rw [BitVec.toNat_ofNat]
  have := c.isLt
  omega

/-- digits that don't begin with 0 are a number's -/
theorem dgs_val (l : By) (h : ∀ c ∈ l, IsD c) (hne : l ≠ []) (hh : (l.headD 0#8).toNat ≠ 48) : dgs (val l) = l ∧ 0 < val l := by
  induction hn : l.length using Nat.strongRecOn generalizing l with
  | ind n ih =>
    obtain ⟨m, c, rfl⟩ : ∃ m c, l = m ++ [c] := ⟨l.dropLast, l.getLast hne, (List.dropLast_concat_getLast hne).symm⟩
    have hc := h c (by simp)
    have hc1 := hc.1
    have hc2 := hc.2
    rw [val_snoc]
    cases m with
    | nil =>
      simp at hh
      rw [show val [] = 0 from rfl, Nat.mul_zero, Nat.zero_add]
      refine ⟨?_, by omega⟩
      rw [dgs_small (by omega), d_back c hc]
      rfl
    | cons a m =>
      have hl : (a :: m).length < n := by rw [← hn]; simp
      obtain ⟨e1, e2⟩ := ih (a :: m).length hl (a :: m) (fun x hx => h x (List.mem_append_left _ hx)) (by simp) (by simpa using hh) rfl
      refine ⟨?_, by omega⟩
      rw [dgs_big (by omega), show (10 * val (a :: m) + (c.toNat - 48)) / 10 = val (a :: m) by omega, show (10 * val (a :: m) + (c.toNat - 48)) % 10 = c.toNat - 48 by omega, e1, d_back c hc]

theorem dgs_len (u k : Nat) (h : u < 10 ^ (k + 1)) : (dgs u).length ≤ k + 1 := by
  induction k generalizing u with
  | zero => rw [dgs_small (by simpa using h)]; simp
  | succ k ih =>
    by_cases h10 : u < 10
    · rw [dgs_small h10]; simp
    · rw [dgs_big h10, List.length_append]
      have := ih (u / 10) (by rw [Nat.pow_succ] at h; omega)
      simp
      omega

theorem val_lt (l : By) (h : ∀ c ∈ l, IsD c) : val l < 10 ^ l.length := by
  induction hn : l.length using Nat.strongRecOn generalizing l with
  | ind n ih =>
    rcases List.eq_nil_or_concat l with rfl | ⟨m, c, rfl⟩
    · subst hn
      decide
    · have hc := h c (by simp)
      have hl : m.length < n := by rw [← hn]; simp
      have := ih m.length hl m (fun x hx => h x (by simp [hx])) rfl
      have hn' : n = m.length + 1 := by rw [← hn]; simp
      rw [List.concat_eq_append, val_snoc, hn', Nat.pow_succ]
      have h1 := hc.1
      have h2 := hc.2
      omega

end Go.Proofs.YtceomegglopbcaaDoor.Dgs
