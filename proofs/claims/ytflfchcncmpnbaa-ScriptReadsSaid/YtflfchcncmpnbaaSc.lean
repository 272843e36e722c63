/- Scripts as bytes: the plain mathematics of layer 16. No program is named here. -/
namespace Go.Proofs.Ytflfchcncmpnbaa.Sc

abbrev Bs := List (BitVec 8)

/-- an event -/
structure Ev where
  k : Int
  i : Int
  n : Int
  t : Bs

def hasI (k : Int) : Bool := decide (k = 0 ∨ k = 1 ∨ k = 2 ∨ k = 6)
def hasN (k : Int) : Bool := decide (k = 2 ∨ k = 4 ∨ k = 7)
def hasD (k : Int) : Bool := decide (k = 1 ∨ k = 3)

/-- its numbers and its text are within their bounds -/
def inB (e : Ev) : Bool := decide (0 ≤ e.k) && (decide (e.k ≤ 7) && (decide (0 ≤ e.i) && (decide (e.i ≤ 255) && (decide (0 ≤ e.n) && (decide (e.n ≤ 65536) && decide (e.t.length ≤ 4000))))))
/-- it has no part that its kind hasn't -/
def ownB (e : Ev) : Bool := (hasI e.k || decide (e.i = 0)) && ((hasN e.k || decide (e.n = 0)) && (hasD e.k || decide (e.t = [])))
/-- may an event be written? -/
def rtE (e : Ev) : Bool := inB e && ownB e
/-- an event with the parts alone that its kind has -/
def ownE (e : Ev) : Ev := ⟨e.k, if hasI e.k then e.i else 0, if hasN e.k then e.n else 0, if hasD e.k then e.t else []⟩

theorem rtE_in {e : Ev} (h : rtE e = true) : 0 ≤ e.k ∧ e.k ≤ 7 ∧ 0 ≤ e.i ∧ e.i ≤ 255 ∧ 0 ≤ e.n ∧ e.n ≤ 65536 ∧ e.t.length ≤ 4000 := by
  unfold rtE inB at h
  simp only [Bool.and_eq_true, decide_eq_true_eq] at h
  exact h.1

def b8 (x : Nat) : BitVec 8 := BitVec.ofNat 8 x
def three (n : Nat) : Bs := [b8 (n / 65536), b8 (n / 256), b8 n]
def two (n : Nat) : Bs := [b8 (n / 256), b8 n]
/-- an event's bytes -/
def evb (e : Ev) : Bs := [b8 e.k.toNat, b8 e.i.toNat] ++ three e.n.toNat ++ two e.t.length ++ e.t
def evs (l : List Ev) : Bs := l.flatMap evb
/-- a conf's bytes -/
def cfb (c : List Nat) : Bs := c.flatMap three

/-- the number that bytes are -/
def nat (l : Bs) : Nat := l.foldl (fun n c => 256 * n + c.toNat) 0

theorem nat_snoc (l : Bs) (c : BitVec 8) : nat (l ++ [c]) = 256 * nat l + c.toNat := by
  unfold nat
  rw [List.foldl_append]
  rfl

theorem nat_lt : ∀ (n : Nat) (l : Bs), l.length = n → nat l < 256 ^ n := by
  intro n
  induction n with
  | zero => intro l h; rw [List.eq_nil_of_length_eq_zero h]; decide
  | succ n ih =>
    intro l h
    have hne : l ≠ [] := by intro e; subst e; simp at h
    have hl := List.dropLast_concat_getLast hne
    have h1 := ih l.dropLast (by simp [h])
    have h2 := (l.getLast hne).isLt
    have h3 := nat_snoc l.dropLast (l.getLast hne)
    rw [hl] at h3
    rw [h3, Nat.pow_succ]
    omega

theorem nat_le (n : Nat) (l : Bs) (h : l.length ≤ n) : nat l < 256 ^ n :=
  Nat.lt_of_lt_of_le (nat_lt _ l rfl) (Nat.pow_le_pow_right (by omega) h)

theorem nat_three (n : Nat) (h : n < 16777216) : nat (three n) = n := by
  simp [nat, three, b8]
  omega
theorem nat_two (n : Nat) (h : n < 65536) : nat (two n) = n := by
  simp [nat, two, b8]
  omega
theorem three_len (n : Nat) : (three n).length = 3 := rfl
theorem two_len (n : Nat) : (two n).length = 2 := rfl

theorem b8_toNat (x : Nat) (h : x < 256) : (b8 x).toNat = x := by
  simp [b8]
  omega

theorem three_nat (l : Bs) (h : l.length = 3) : three (nat l) = l := by
  rcases l with _ | ⟨a, _ | ⟨b, _ | ⟨c, _ | ⟨d, l⟩⟩⟩⟩ <;> simp at h
  have ha := a.isLt
  have hb := b.isLt
  have hc := c.isLt
  simp only [nat, three, b8, List.foldl]
  congr 1
  · apply BitVec.eq_of_toNat_eq; simp; omega
  congr 1
  · apply BitVec.eq_of_toNat_eq; simp; omega
  congr 1
  apply BitVec.eq_of_toNat_eq; simp; omega

theorem two_nat (l : Bs) (h : l.length = 2) : two (nat l) = l := by
  rcases l with _ | ⟨a, _ | ⟨b, _ | ⟨d, l⟩⟩⟩ <;> simp at h
  have ha := a.isLt
  have hb := b.isLt
  simp only [nat, two, b8, List.foldl]
  congr 1
  · apply BitVec.eq_of_toNat_eq; simp; omega
  congr 1
  apply BitVec.eq_of_toNat_eq; simp; omega

theorem evb_len (e : Ev) : (evb e).length = 7 + e.t.length := by simp [evb, three_len, two_len]; omega

/-- how many bytes the event has with which bytes begin -/
def size (l : Bs) : Nat := 7 + nat ((l.drop 5).take 2)
/-- the event with which bytes begin -/
def evOf (l : Bs) : Ev := ⟨((l[0]?.getD 0#8).toNat : Nat), ((l[1]?.getD 0#8).toNat : Nat), (nat ((l.drop 2).take 3) : Nat), (l.drop 7).take (nat ((l.drop 5).take 2))⟩

/-- bytes that are cut off within an event -/
def shortB (l : Bs) : Prop := l.length < 7 ∨ l.length < size l
/-- a whole event, and how many bytes it has -/
def wholeB (l : Bs) : Prop := 7 ≤ l.length ∧ size l ≤ l.length

theorem size_evb (e : Ev) (r : Bs) (h : e.t.length < 65536) : size (evb e ++ r) = 7 + e.t.length := by
  unfold size evb
  simp only [three, two, List.cons_append, List.nil_append, List.drop_succ_cons, List.drop_zero]
  rw [show List.take 2 (b8 (e.t.length / 256) :: b8 e.t.length :: (e.t ++ r)) = two e.t.length from rfl, nat_two _ h]

theorem evOf_evb (e : Ev) (r : Bs) (h : rtE e = true) : evOf (evb e ++ r) = e := by
  obtain ⟨h1, h2, h3, h4, h5, h6, h7⟩ := rtE_in h
  obtain ⟨k, i, n, t⟩ := e
  simp only at h1 h2 h3 h4 h5 h6 h7
  unfold evOf evb
  simp only [three, two, List.cons_append, List.nil_append, List.drop_succ_cons, List.drop_zero, List.getElem?_cons_zero, List.getElem?_cons_succ, Option.getD_some]
  rw [show List.take 2 (b8 (t.length / 256) :: b8 t.length :: (t ++ r)) = two t.length from rfl, nat_two _ (by omega)]
  rw [show List.take 3 (b8 (n.toNat / 65536) :: b8 (n.toNat / 256) :: b8 n.toNat :: b8 (t.length / 256) :: b8 t.length :: (t ++ r)) = three n.toNat from rfl, nat_three _ (by omega)]
  rw [b8_toNat _ (by omega), b8_toNat _ (by omega), List.take_left' rfl]
  congr 1 <;> omega

theorem whole_evb (e : Ev) (r : Bs) (h : rtE e = true) : wholeB (evb e ++ r) := by
  have := rtE_in h
  refine ⟨?_, ?_⟩
  · simp [evb_len]; omega
  · rw [size_evb e r (by omega)]; simp [evb_len]

theorem evb_evOf (l : Bs) (h : wholeB l) : evb (evOf l) = l.take (size l) := by
  obtain ⟨h1, h2⟩ := h
  have hs : size l = 7 + nat ((l.drop 5).take 2) := rfl
  have ht : ((evOf l).t).length = nat ((l.drop 5).take 2) := by
    simp [evOf]
    omega
  unfold evb
  rw [ht]
  rcases l with _ | ⟨a0, _ | ⟨a1, _ | ⟨a2, _ | ⟨a3, _ | ⟨a4, _ | ⟨a5, _ | ⟨a6, l⟩⟩⟩⟩⟩⟩⟩ <;> (try (simp at h1; done))
  rw [hs]
  simp only [evOf, List.drop_succ_cons, List.drop_zero, List.getElem?_cons_zero, List.getElem?_cons_succ, Option.getD_some, Int.toNat_natCast]
  rw [show List.take 3 (a2 :: a3 :: a4 :: a5 :: a6 :: l) = [a2, a3, a4] from rfl, show List.take 2 (a5 :: a6 :: l) = [a5, a6] from rfl]
  rw [three_nat _ rfl, two_nat _ rfl]
  rw [show b8 a0.toNat = a0 by apply BitVec.eq_of_toNat_eq; simp [b8], show b8 a1.toNat = a1 by apply BitVec.eq_of_toNat_eq; simp [b8]]
  rw [show 7 + nat [a5, a6] = nat [a5, a6] + 7 by omega]
  rfl

theorem not_short {l : Bs} (h : wholeB l) : ¬ shortB l := by
  rintro (k | k)
  · have := h.1; omega
  · have := h.2; omega
theorem short_or (l : Bs) : shortB l ∨ wholeB l := by
  unfold shortB wholeB
  omega

theorem evs_app (a b : List Ev) : evs (a ++ b) = evs a ++ evs b := by simp [evs]
theorem evs_cons (e : Ev) (l : List Ev) : evs (e :: l) = evb e ++ evs l := rfl
theorem evs_len (l : List Ev) : (evs l).length = 7 * l.length + (l.map fun e => e.t.length).sum := by
  induction l with
  | nil => rfl
  | cons e l ih => rw [evs_cons]; simp [evb_len, ih]; omega

/-- events' bytes with which others begin -/
theorem evs_pre : ∀ (a b : List Ev) (r s : Bs), (∀ e ∈ a, rtE e = true) → (∀ e ∈ b, rtE e = true) → evs a ++ r = evs b ++ s → a.length ≤ b.length → b.take a.length = a ∧ r = evs (b.drop a.length) ++ s
  | [], b, r, s, _, _, h, _ => ⟨rfl, by simpa [evs] using h⟩
  | x :: a, [], r, s, _, _, _, hl => by simp at hl
  | x :: a, y :: b, r, s, ha, hb, h, hl => by
    have hx := ha x (by simp)
    have hy := hb y (by simp)
    rw [evs_cons, evs_cons, List.append_assoc, List.append_assoc] at h
    have e1 := evOf_evb x (evs a ++ r) hx
    rw [h, evOf_evb y _ hy] at e1
    subst e1
    have h2 := List.append_cancel_left h
    obtain ⟨p, q⟩ := evs_pre a b r s (fun e he => ha e (by simp [he])) (fun e he => hb e (by simp [he])) h2 (by simpa using hl)
    exact ⟨by simp [p], by simpa using q⟩

/-- what is read of bytes behind a conf's: events, how many bytes these have, an error's number -/
structure Reads (r : Bs) (L : List Ev) (m e : Nat) : Prop where
  le : m ≤ r.length
  bytes : r.take m = evs L
  right : ∀ x ∈ L, rtE x = true
  many : L.length ≤ 8192
  stop : (e = 0 ∧ m = r.length) ∨ (e = 5 ∧ m < r.length ∧ shortB (r.drop m)) ∨ (e = 8 ∧ m < r.length ∧ wholeB (r.drop m) ∧ rtE (evOf (r.drop m)) = false) ∨
    (e = 6 ∧ m < r.length ∧ wholeB (r.drop m) ∧ rtE (evOf (r.drop m)) = true ∧ L.length = 8192)

theorem evOf_app {l : Bs} (s : Bs) (h : wholeB l) : evOf (l ++ s) = evOf l := by
  obtain ⟨h1, h2⟩ := h
  have hs : size l = 7 + nat ((l.drop 5).take 2) := rfl
  rcases l with _ | ⟨a0, _ | ⟨a1, _ | ⟨a2, _ | ⟨a3, _ | ⟨a4, _ | ⟨a5, _ | ⟨a6, l⟩⟩⟩⟩⟩⟩⟩ <;> (try (simp at h1; done))
  rw [hs] at h2
  simp only [evOf, List.drop_succ_cons, List.drop_zero, List.getElem?_cons_zero, List.getElem?_cons_succ, Option.getD_some, List.cons_append, List.take_succ_cons, List.take_zero, List.length_cons] at h2 ⊢
  rw [List.take_append_of_le_length (by omega)]

/-- of events' bytes, cut off somewhere -/
theorem reads_pre {L0 L : List Ev} {r s : Bs} {m e : Nat} (h : Reads r L m e) (h0 : ∀ x ∈ L0, rtE x = true) (hr : r ++ s = evs L0) :
    L.length ≤ L0.length ∧ L0.take L.length = L ∧ ((e = 0 ∧ m = r.length) ∨ (e = 5 ∧ s ≠ []) ∨ (e = 6 ∧ L.length = 8192 ∧ L.length < L0.length)) := by
  have hd : evs L ++ (r.drop m ++ s) = evs L0 ++ [] := by
    rw [← h.bytes, ← List.append_assoc, List.take_append_drop, hr, List.append_nil]
  have hlen : L.length ≤ L0.length := by
    rcases Nat.lt_or_ge L0.length L.length with h' | h'
    · obtain ⟨_, q⟩ := evs_pre L0 L [] _ h0 h.right hd.symm (Nat.le_of_lt h')
      have := congrArg List.length q
      rw [List.length_append, evs_len] at this
      simp at this
      omega
    · exact h'
  obtain ⟨p, q⟩ := evs_pre L L0 _ [] h.right h0 hd hlen
  rw [List.append_nil] at q
  refine ⟨hlen, p, ?_⟩
  rcases hx : L0.drop L.length with _ | ⟨y, ys⟩
  · rw [hx] at q
    have hz : r.drop m = [] := (List.append_eq_nil_iff.1 q).1
    have hm := congrArg List.length hz
    simp at hm
    rcases h.stop with h' | h' | h' | h'
    · exact .inl h'
    · have := h'.2.1; omega
    · have := h'.2.1; omega
    · have := h'.2.1; omega
  · rw [hx, evs_cons] at q
    have hy : rtE y = true := h0 y (List.mem_of_mem_drop (by rw [hx]; simp))
    have hlt : L.length < L0.length := by
      have := congrArg List.length hx
      simp at this
      omega
    rcases h.stop with h' | h' | h' | h'
    · exact .inl h'
    · refine .inr (.inl ⟨h'.1, ?_⟩)
      rintro rfl
      rw [List.append_nil] at q
      rw [q] at h'
      exact not_short (whole_evb y _ hy) h'.2.2
    · have e1 := evOf_app s h'.2.2.1
      rw [q, evOf_evb y _ hy] at e1
      rw [← e1, hy] at h'
      exact absurd h'.2.2.2 (by simp)
    · exact .inr (.inr ⟨h'.1, h'.2.2.2.2, hlt⟩)

theorem reads_all {L0 L : List Ev} {m e : Nat} (h : Reads (evs L0) L m e) (h0 : ∀ x ∈ L0, rtE x = true) (hn : L0.length ≤ 8192) : L = L0 ∧ m = (evs L0).length ∧ e = 0 := by
  obtain ⟨h1, h2, h3⟩ := reads_pre (s := []) h h0 (by simp)
  rcases h3 with ⟨rfl, hm⟩ | ⟨_, h3⟩ | ⟨_, h3, h4⟩
  · have hb := h.bytes
    rw [hm, List.take_length] at hb
    refine ⟨?_, hm, rfl⟩
    have hd := List.take_append_drop L.length L0
    rw [h2] at hd
    rw [← hd, evs_app] at hb
    have hl := congrArg List.length hb
    rw [List.length_append, evs_len (L0.drop _)] at hl
    have hz : L0.drop L.length = [] := List.eq_nil_of_length_eq_zero (by omega)
    rw [hz, List.append_nil] at hd
    exact hd
  · exact absurd rfl h3
  · omega

theorem reads_many {L0 L : List Ev} {m e : Nat} (h : Reads (evs L0) L m e) (h0 : ∀ x ∈ L0, rtE x = true) (hn : 8192 < L0.length) : L = L0.take 8192 ∧ L.length = 8192 ∧ m = (evs L).length ∧ e = 6 := by
  obtain ⟨h1, h2, h3⟩ := reads_pre (s := []) h h0 (by simp)
  have hb := h.bytes
  have hmm : m = (evs L).length := by
    rw [← hb]
    have := h.le
    simp
    omega
  rcases h3 with ⟨rfl, hm⟩ | ⟨_, h3⟩ | ⟨h3, h4, _⟩
  · rw [hm, List.take_length] at hb
    have hd := List.take_append_drop L.length L0
    rw [h2] at hd
    rw [← hd, evs_app] at hb
    have hl := congrArg List.length hb
    rw [List.length_append, evs_len (L0.drop _)] at hl
    have := h.many
    simp at hl
    omega
  · exact absurd rfl h3
  · exact ⟨by rw [← h4, h2], h4, hmm, h3⟩

end Go.Proofs.Ytflfchcncmpnbaa.Sc
