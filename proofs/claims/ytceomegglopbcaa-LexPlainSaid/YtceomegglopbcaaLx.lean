/- Keystrokes and commands: the plain mathematics of layer 8. No program is named here. -/
namespace Go.Proofs.Ytceomegglopbcaa.Lx
abbrev By := List (BitVec 8)

/-- 0: nothing is begun; 1: behind Escape; 2: in a command, of which b came -/
structure Lx where
  q : Nat
  b : By

def lx0 : Lx := ⟨0, []⟩

/-- how it is behind a byte -/
def lstep (s : Lx) (c : BitVec 8) : Lx :=
  if s.q = 0 then (if c.toNat = 29 then ⟨1, []⟩ else s)
  else if s.q = 1 then (if c.toNat = 58 then ⟨2, []⟩ else lx0)
  else if c.toNat = 10 then lx0 else ⟨2, s.b ++ [c]⟩

/-- the keystrokes that a byte tells -/
def lkey (s : Lx) (c : BitVec 8) : By :=
  if s.q = 0 then (if c.toNat = 29 then [] else [c])
  else if s.q = 1 then (if c.toNat = 29 then [c] else [])
  else []

def shut (b : By) : By := if 80 < b.length then [] else b

/-- the commands that a byte ends -/
def lcmd (s : Lx) (c : BitVec 8) : List By :=
  if s.q = 0 then [] else if s.q = 1 then [] else if c.toNat = 10 then [shut s.b] else []

def lrun (s : Lx) (l : By) : Lx := l.foldl lstep s

def lkeys (s : Lx) : By → By
  | [] => []
  | c :: l => lkey s c ++ lkeys (lstep s c) l

def lcmds (s : Lx) : By → List By
  | [] => []
  | c :: l => lcmd s c ++ lcmds (lstep s c) l

theorem lrun_app (s : Lx) (l m : By) : lrun s (l ++ m) = lrun (lrun s l) m := by
  unfold lrun
  rw [List.foldl_append]

theorem lkeys_app (s : Lx) (l m : By) : lkeys s (l ++ m) = lkeys s l ++ lkeys (lrun s l) m := by
  induction l generalizing s with
  | nil => rfl
  | cons c l ih =>
    show lkey s c ++ lkeys (lstep s c) (l ++ m) = lkey s c ++ lkeys (lstep s c) l ++ _
    rw [ih, List.append_assoc]
    rfl

theorem lcmds_app (s : Lx) (l m : By) : lcmds s (l ++ m) = lcmds s l ++ lcmds (lrun s l) m := by
  induction l generalizing s with
  | nil => rfl
  | cons c l ih =>
    show lcmd s c ++ lcmds (lstep s c) (l ++ m) = lcmd s c ++ lcmds (lstep s c) l ++ _
    rw [ih, List.append_assoc]
    rfl

/-- at a place of bytes -/
def at_ (l : By) (k : Nat) : BitVec 8 := l[k]?.getD 0#8

theorem take_at (l : By) (k : Nat) (h : k < l.length) : l.take (k + 1) = l.take k ++ [at_ l k] := by
  unfold at_
  rw [List.take_add_one, List.getElem?_eq_getElem h]
  rfl

def S (l : By) (k : Nat) : Lx := lrun lx0 (l.take k)
def K (l : By) (k : Nat) : By := lkeys lx0 (l.take k)
def C (l : By) (k : Nat) : List By := lcmds lx0 (l.take k)

theorem S_next (l : By) (k : Nat) (h : k < l.length) : S l (k + 1) = lstep (S l k) (at_ l k) := by
  unfold S
  rw [take_at l k h, lrun_app]
  rfl
theorem K_next (l : By) (k : Nat) (h : k < l.length) : K l (k + 1) = K l k ++ lkey (S l k) (at_ l k) := by
  unfold K S
  rw [take_at l k h, lkeys_app]
  show _ ++ (lkey _ _ ++ []) = _
  rw [List.append_nil]
theorem C_next (l : By) (k : Nat) (h : k < l.length) : C l (k + 1) = C l k ++ lcmd (S l k) (at_ l k) := by
  unfold C S
  rw [take_at l k h, lcmds_app]
  show _ ++ (lcmd _ _ ++ []) = _
  rw [List.append_nil]

theorem K_all (l : By) : K l l.length = lkeys lx0 l := by unfold K; rw [List.take_length]
theorem C_all (l : By) : C l l.length = lcmds lx0 l := by unfold C; rw [List.take_length]

theorem lkey_len (s : Lx) (c : BitVec 8) : (lkey s c).length ≤ 1 := by
  unfold lkey
  (repeat' split) <;> simp
theorem lcmd_len (s : Lx) (c : BitVec 8) : (lcmd s c).length ≤ 1 := by
  unfold lcmd
  (repeat' split) <;> simp
theorem lkeys_len (s : Lx) (l : By) : (lkeys s l).length ≤ l.length := by
  induction l generalizing s with
  | nil => exact Nat.le_refl _
  | cons c l ih =>
    have h1 := lkey_len s c
    have h2 := ih (lstep s c)
    simp only [lkeys, List.length_append, List.length_cons]
    omega
theorem lcmds_len (s : Lx) (l : By) : (lcmds s l).length ≤ l.length := by
  induction l generalizing s with
  | nil => exact Nat.le_refl _
  | cons c l ih =>
    have h1 := lcmd_len s c
    have h2 := ih (lstep s c)
    simp only [lcmds, List.length_append, List.length_cons]
    omega

/-- a byte that begins nothing -/
theorem plain_step {l : By} {k : Nat} (h : k < l.length) (hs : S l k = lx0) (hc : (at_ l k).toNat ≠ 29) : S l (k + 1) = lx0 ∧ K l (k + 1) = K l k ++ [at_ l k] ∧ C l (k + 1) = C l k := by
  rw [S_next l k h, K_next l k h, C_next l k h, hs]
  refine ⟨?_, ?_, ?_⟩
  · simp [lstep, lx0, hc]
  · simp [lkey, lx0, hc]
  · simp [lcmd, lx0]

/-- Escape -/
theorem esc_step {l : By} {k : Nat} (h : k < l.length) (hs : S l k = lx0) (hc : (at_ l k).toNat = 29) : S l (k + 1) = ⟨1, []⟩ ∧ K l (k + 1) = K l k ∧ C l (k + 1) = C l k := by
  rw [S_next l k h, K_next l k h, C_next l k h, hs]
  refine ⟨?_, ?_, ?_⟩
  · simp [lstep, lx0, hc]
  · simp [lkey, lx0, hc]
  · simp [lcmd, lx0]

theorem esc_twice {l : By} {k : Nat} (h : k < l.length) (hs : S l k = ⟨1, []⟩) (hc : (at_ l k).toNat = 29) : S l (k + 1) = lx0 ∧ K l (k + 1) = K l k ++ [29#8] ∧ C l (k + 1) = C l k := by
  rw [S_next l k h, K_next l k h, C_next l k h, hs]
  refine ⟨?_, ?_, ?_⟩
  · simp [lstep, hc]
  · have : at_ l k = 29#8 := BitVec.eq_of_toNat_eq (by rw [hc]; rfl)
    simp [lkey, this]
  · simp [lcmd]

theorem esc_other {l : By} {k : Nat} (h : k < l.length) (hs : S l k = ⟨1, []⟩) (h1 : (at_ l k).toNat ≠ 29) (h2 : (at_ l k).toNat ≠ 58) : S l (k + 1) = lx0 ∧ K l (k + 1) = K l k ∧ C l (k + 1) = C l k := by
  rw [S_next l k h, K_next l k h, C_next l k h, hs]
  refine ⟨?_, ?_, ?_⟩
  · simp [lstep, h2]
  · simp [lkey, h1]
  · simp [lcmd]

theorem esc_colon {l : By} {k : Nat} (h : k < l.length) (hs : S l k = ⟨1, []⟩) (hc : (at_ l k).toNat = 58) : S l (k + 1) = ⟨2, []⟩ ∧ K l (k + 1) = K l k ∧ C l (k + 1) = C l k := by
  rw [S_next l k h, K_next l k h, C_next l k h, hs]
  refine ⟨?_, ?_, ?_⟩
  · simp [lstep, hc]
  · simp [lkey, hc]
  · simp [lcmd]

theorem in_step {l b : By} {k : Nat} (h : k < l.length) (hs : S l k = ⟨2, b⟩) (hc : (at_ l k).toNat ≠ 10) : S l (k + 1) = ⟨2, b ++ [at_ l k]⟩ ∧ K l (k + 1) = K l k ∧ C l (k + 1) = C l k := by
  rw [S_next l k h, K_next l k h, C_next l k h, hs]
  refine ⟨?_, ?_, ?_⟩
  · simp [lstep, hc]
  · simp [lkey]
  · simp [lcmd, hc]

theorem in_end {l b : By} {k : Nat} (h : k < l.length) (hs : S l k = ⟨2, b⟩) (hc : (at_ l k).toNat = 10) : S l (k + 1) = lx0 ∧ K l (k + 1) = K l k ∧ C l (k + 1) = C l k ++ [shut b] := by
  rw [S_next l k h, K_next l k h, C_next l k h, hs]
  refine ⟨?_, ?_, ?_⟩
  · simp [lstep, hc]
  · simp [lkey]
  · simp [lcmd, hc]

/-- between two places -/
def cut (l : By) (i j : Nat) : By := (l.drop i).take (j - i)

theorem cut_nil (l : By) (i : Nat) : cut l i i = [] := by simp [cut]
theorem cut_next (l : By) {i j : Nat} (h : i ≤ j) (hj : j < l.length) : cut l i (j + 1) = cut l i j ++ [at_ l j] := by
  unfold cut at_
  rw [show j + 1 - i = (j - i) + 1 by omega, List.take_add_one, List.getElem?_drop, show i + (j - i) = j by omega, List.getElem?_eq_getElem hj]
  rfl
theorem cut_len (l : By) {i j : Nat} (h : i ≤ j) (hj : j ≤ l.length) : (cut l i j).length = j - i := by
  simp [cut]; omega

end Go.Proofs.Ytceomegglopbcaa.Lx
