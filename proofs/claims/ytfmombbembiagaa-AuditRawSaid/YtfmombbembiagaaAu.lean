/- What may have been sent: the plain mathematics of layer 15. No program is named here. -/
import Derived.Test.YtfmombbembiagaaMs
namespace Go.Proofs.Ytfmombbembiagaa.Au
open Fr

/-- a message -/
structure M where
  k : Int
  a : Int
  b : Int
  t : Bs

/-- what came of the messages so far -/
structure St where
  bg : Bool
  en : Bool
  up : Nat
  gp : Nat

def st0 : St := ⟨false, false, 0, 0⟩
def ok (m : M) : Bool := Ms.rt m.k m.a m.b m.t.length
def begB (o : Bs) (m : M) : Bool := decide (m.k = 13) || (decide (m.k = 5) && decide (m.b ≤ o.length))
def dataB (o : Bs) (s : St) (m : M) : Bool := decide (m.a = s.up) && (!decide (m.t = []) && decide ((o.drop s.up).take m.t.length = m.t))
def gapB (o : Bs) (sk : Int) (s : St) (m : M) : Bool := decide (m.a = s.up) && (decide (m.a < m.b) && (decide (m.b ≤ o.length) && decide ((s.gp : Int) < sk)))
/-- may a message be the next one? -/
def mayB (o : Bs) (sk : Int) (s : St) (m : M) : Bool :=
  ok m && (!s.en && (if s.bg then (if m.k ≤ 5 then false else if m.k = 6 then dataB o s m else if m.k = 7 then gapB o sk s m else true) else begB o m))
def takeS (s : St) (m : M) : St :=
  ⟨true, s.en || (decide (m.k = 12) || decide (m.k = 13)), if m.k = 5 then m.b.toNat else if m.k = 6 then s.up + m.t.length else if m.k = 7 then m.b.toNat else s.up, if m.k = 7 then s.gp + 1 else s.gp⟩
/-- behind messages -/
def run (l : List M) : St := l.foldl takeS st0
/-- each of the first k may be -/
def good (o : Bs) (sk : Int) (l : List M) (k : Nat) : Prop := ∀ j m, j < k → l[j]? = some m → mayB o sk (run (l.take j)) m = true
/-- the first that may not be -/
def IsFirst (o : Bs) (sk : Int) (l : List M) (r : Int) : Prop :=
  (∃ k m, l[k]? = some m ∧ r = (k : Nat) ∧ good o sk l k ∧ mayB o sk (run (l.take k)) m = false) ∨ (r = -1 ∧ good o sk l l.length)

theorem isFirst_one {o : Bs} {sk : Int} {l : List M} {r s : Int} (h : IsFirst o sk l r) (k : IsFirst o sk l s) : r = s := by
  have lt : ∀ {j : Nat} {m : M}, l[j]? = some m → j < l.length := fun {j m} h => by
    rcases Nat.lt_or_ge j l.length with h' | h'
    · exact h'
    · rw [List.getElem?_eq_none h'] at h; cases h
  rcases h with ⟨i, m, hm, rfl, hg, hf⟩ | ⟨rfl, hg⟩ <;> rcases k with ⟨j, n, hn, rfl, kg, kf⟩ | ⟨rfl, kg⟩
  · rcases Nat.lt_trichotomy i j with h | h | h
    · rw [kg i m h hm] at hf; cases hf
    · rw [h]
    · rw [hg j n h hn] at kf; cases kf
  · rw [kg i m (lt hm) hm] at hf; cases hf
  · rw [hg j n (lt hn) hn] at kf; cases kf
  · rfl

theorem run_snoc (l : List M) (k : Nat) (m : M) (h : l[k]? = some m) : run (l.take (k + 1)) = takeS (run (l.take k)) m := by
  rw [List.take_add_one, h]
  simp [run]

theorem good_zero (o : Bs) (sk : Int) (l : List M) : good o sk l 0 := fun _ _ h => absurd h (by omega)
theorem good_succ {o : Bs} {sk : Int} {l : List M} {k : Nat} {m : M} (h : good o sk l k) (hm : l[k]? = some m) (hk : mayB o sk (run (l.take k)) m = true) : good o sk l (k + 1) := by
  intro j n hj hn
  rcases Nat.lt_or_ge j k with h' | h'
  · exact h j n h' hn
  · obtain rfl : j = k := by omega
    rw [hm] at hn
    obtain rfl := Option.some.inj hn
    exact hk
theorem good_le {o : Bs} {sk : Int} {l : List M} {j k : Nat} (h : good o sk l k) (hj : j ≤ k) : good o sk l j := fun i m hi hm => h i m (by omega) hm

theorem mayB_iff {o : Bs} {sk : Int} {s : St} {m : M} : mayB o sk s m = true ↔ ok m = true ∧ s.en = false ∧ (s.bg = false → begB o m = true) ∧ (s.bg = true → 5 < m.k ∧ (m.k = 6 → dataB o s m = true) ∧ (m.k = 7 → gapB o sk s m = true)) := by
  unfold mayB
  cases s.en <;> cases s.bg <;> simp
  intro _ h5
  by_cases h6 : m.k = 6
  · simp [h6]
  · by_cases h7 : m.k = 7
    · simp [h7]
    · simp [h6, h7]

/-- what is sent is there -/
def Up (o : Bs) (s : St) (k : Nat) : Prop := s.up ≤ o.length ∧ s.gp ≤ k

theorem up_zero (o : Bs) : Up o st0 0 := ⟨Nat.zero_le _, Nat.le_refl _⟩

theorem data_len {o : Bs} {s : St} {m : M} (h : dataB o s m = true) (hu : s.up ≤ o.length) : s.up + m.t.length ≤ o.length := by
  unfold dataB at h
  simp at h
  have := congrArg List.length h.2.2
  simp at this
  omega

theorem up_succ {o : Bs} {sk : Int} {s : St} {m : M} {k : Nat} (h : Up o s k) (hm : mayB o sk s m = true) : Up o (takeS s m) (k + 1) := by
  obtain ⟨hok, hen, hb, hn⟩ := mayB_iff.1 hm
  obtain ⟨hu, hg⟩ := h
  have hbb := Ms.rt_b hok
  refine ⟨?_, ?_⟩
  · show (if m.k = 5 then m.b.toNat else if m.k = 6 then s.up + m.t.length else if m.k = 7 then m.b.toNat else s.up) ≤ _
    split
    · rcases hbg : s.bg
      · have := hb hbg
        unfold begB at this
        simp at this
        omega
      · have := (hn hbg).1
        omega
    · split
      · rcases hbg : s.bg
        · have := hb hbg
          unfold begB at this
          simp at this
          omega
        · exact data_len ((hn hbg).2.1 ‹_›) hu
      · split
        · rcases hbg : s.bg
          · have := hb hbg
            unfold begB at this
            simp at this
            omega
          · have := (hn hbg).2.2 ‹_›
            unfold gapB at this
            simp at this
            omega
        · exact hu
  · show (if m.k = 7 then s.gp + 1 else s.gp) ≤ _
    split <;> omega

theorem up_good {o : Bs} {sk : Int} {l : List M} : ∀ {k : Nat}, k ≤ l.length → good o sk l k → Up o (run (l.take k)) k
  | 0, _, _ => up_zero o
  | k + 1, hk, h => by
    have hm := List.getElem?_eq_getElem (show k < l.length by omega)
    rw [run_snoc l k _ hm]
    exact up_succ (up_good (by omega) (good_le h (by omega))) (h k _ (by omega) hm)

theorem takeS_en {s : St} {m : M} (h : s.en = true) : (takeS s m).en = true := by simp [takeS, h]
theorem en_mono {l : List M} {j : Nat} (h : (run (l.take j)).en = true) : ∀ {k : Nat}, j ≤ k → (run (l.take k)).en = true
  | 0, hk => by obtain rfl : j = 0 := by omega
                exact h
  | k + 1, hk => by
    rcases Nat.lt_or_ge k j with h' | h'
    · obtain rfl : j = k + 1 := by omega
      exact h
    · have := en_mono h h'
      rcases Nat.lt_or_ge k l.length with hl | hl
      · rw [run_snoc l k _ (List.getElem?_eq_getElem hl)]
        exact takeS_en this
      · rw [List.take_of_length_le (by omega)]
        rw [List.take_of_length_le (by omega)] at this
        exact this

theorem bg_run {l : List M} : ∀ {k : Nat}, k < l.length → (run (l.take (k + 1))).bg = true := fun {k} h => by
  rw [run_snoc l k _ (List.getElem?_eq_getElem h)]
  rfl
theorem bg_zero (l : List M) : (run (l.take 0)).bg = false := rfl

/-- how far it was sent, behind one more that may be -/
theorem up_eq {o : Bs} {sk : Int} {s : St} {m : M} (hm : mayB o sk s m = true) :
    (m.k = 5 → s.bg = false ∧ ((takeS s m).up : Int) = m.b) ∧ (m.k = 6 → ((takeS s m).up : Int) = m.a + m.t.length) ∧ (m.k = 7 → ((takeS s m).up : Int) = m.b) ∧ (m.k ≠ 5 → m.k ≠ 6 → m.k ≠ 7 → (takeS s m).up = s.up) := by
  obtain ⟨hok, hen, hb, hn⟩ := mayB_iff.1 hm
  have hbb := Ms.rt_b hok
  refine ⟨fun h => ?_, fun h => ?_, fun h => ?_, fun h5 h6 h7 => ?_⟩
  · refine ⟨?_, by simp [takeS, h]; omega⟩
    rcases hbg : s.bg
    · rfl
    · have := (hn hbg).1
      omega
  · have : s.up = m.a := by
      rcases hbg : s.bg
      · have := hb hbg
        unfold begB at this
        simp at this
        omega
      · have := (hn hbg).2.1 h
        unfold dataB at this
        simp at this
        omega
    simp [takeS, h]
    omega
  · simp [takeS, h]
    omega
  · simp [takeS, h5, h6, h7]

end Go.Proofs.Ytfmombbembiagaa.Au
