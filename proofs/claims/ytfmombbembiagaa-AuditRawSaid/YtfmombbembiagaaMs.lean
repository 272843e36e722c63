
/- Messages: the plain mathematics of layer 6. No program is named here. -/
import Derived.Test.YtfmombbembiagaaFr
namespace Go.Proofs.Ytfmombbembiagaa.Ms
open Fr

/-- how many numbers a kind has -/
def nu (k : Int) : Nat := if k = 1 ∨ k = 5 ∨ k = 7 ∨ k = 8 then 2 else if k = 2 ∨ k = 6 ∨ k = 9 ∨ k = 13 ∨ k = 15 then 1 else 0

/-- how long a kind's text may be -/
def tx (k : Int) : Nat := if k = 1 ∨ k = 5 then 20 else if k = 2 ∨ k = 6 then 2042 else if k = 10 ∨ k = 11 then 80 else 0

/-- a number that is one of fifteen -/
def isK (k : Int) : Bool := decide (1 ≤ k ∧ k ≤ 15)

/-- a number that may be that of a message that has it, or hasn't -/
def okN (n : Int) (has : Bool) : Bool := if has then decide (0 ≤ n ∧ n ≤ 1099511627776) else decide (n = 0)

/-- a message that can be written: its kind, its numbers, how long its text is -/
def rt (k a b : Int) (n : Nat) : Bool := isK k && okN a (decide (1 ≤ nu k)) && okN b (decide (2 ≤ nu k)) && decide (n ≤ tx k)

theorem nu_le (k : Int) : nu k ≤ 2 := by unfold nu; split <;> (try split) <;> omega
theorem tx_le (k : Int) : tx k ≤ 2042 := by unfold tx; split <;> (try split) <;> (try split) <;> omega
theorem room (k : Int) : 6 * nu k + tx k ≤ 2048 := by unfold nu tx; (repeat' split) <;> omega

theorem isK_iff {k : Int} : isK k = true ↔ 1 ≤ k ∧ k ≤ 15 := by unfold isK; simp

theorem okN_range {n : Int} {h : Bool} (k : okN n h = true) : 0 ≤ n ∧ n ≤ 1099511627776 := by
  unfold okN at k
  cases h <;> simp at k <;> omega

theorem rt_iff {k a b : Int} {n : Nat} : rt k a b n = true ↔ isK k = true ∧ okN a (decide (1 ≤ nu k)) = true ∧ okN b (decide (2 ≤ nu k)) = true ∧ n ≤ tx k := by
  unfold rt
  simp [and_assoc]

theorem rt_a {k a b : Int} {n : Nat} (h : rt k a b n = true) : 0 ≤ a ∧ a ≤ 1099511627776 := okN_range (rt_iff.1 h).2.1
theorem rt_b {k a b : Int} {n : Nat} (h : rt k a b n = true) : 0 ≤ b ∧ b ≤ 1099511627776 := okN_range (rt_iff.1 h).2.2.1
theorem rt_k {k a b : Int} {n : Nat} (h : rt k a b n = true) : 1 ≤ k ∧ k ≤ 15 := isK_iff.1 (rt_iff.1 h).1
theorem rt_n {k a b : Int} {n : Nat} (h : rt k a b n = true) : n ≤ tx k := (rt_iff.1 h).2.2.2
theorem rt_a0 {k a b : Int} {n : Nat} (h : rt k a b n = true) (h0 : nu k = 0) : a = 0 := by
  have := (rt_iff.1 h).2.1
  unfold okN at this
  simp [h0] at this
  exact this
theorem rt_b0 {k a b : Int} {n : Nat} (h : rt k a b n = true) (h0 : nu k < 2) : b = 0 := by
  have := (rt_iff.1 h).2.2.1
  unfold okN at this
  rw [show decide (2 ≤ nu k) = false by simp; omega] at this
  simpa using this

/-- a number in six bytes, the highest one first -/
def six (n : Int) : Bs := [BitVec.ofInt 8 (n / 1099511627776), BitVec.ofInt 8 (n / 4294967296), BitVec.ofInt 8 (n / 16777216), BitVec.ofInt 8 (n / 65536), BitVec.ofInt 8 (n / 256), BitVec.ofInt 8 n]

theorem six_len (n : Int) : (six n).length = 6 := rfl

/-- the number that bytes are -/
def nat (l : Bs) : Nat := l.foldl (fun n c => 256 * n + c.toNat) 0

theorem nat_snoc (l : Bs) (c : BitVec 8) : nat (l ++ [c]) = 256 * nat l + c.toNat := by
  unfold nat
  rw [List.foldl_append]
  rfl

theorem nat_lt (l : Bs) (n : Nat) (h : l.length ≤ n) : nat l < 256 ^ n := by
  induction n generalizing l with
  | zero =>
    obtain rfl := List.eq_nil_of_length_eq_zero (Nat.le_zero.1 h)
    simp [nat]
  | succ n ih =>
    rcases List.eq_nil_or_concat l with rfl | ⟨r, c, rfl⟩
    · simp only [nat, List.foldl_nil]
      exact Nat.pow_pos (by omega)
    · rw [List.concat_eq_append, nat_snoc]
      have := ih r (by simp at h; omega)
      have hc := c.isLt
      rw [Nat.pow_succ]
      omega

/-- the number with whose six bytes others begin -/
def num6 (l : Bs) : Nat := nat (l.take 6)

theorem num6_lt (l : Bs) : num6 l < 281474976710656 := by
  have := nat_lt (l.take 6) 6 (by simp; omega)
  exact this

theorem byte_nat (n : Int) : (BitVec.ofInt 8 n).toNat = (n % 256).toNat := by
  rw [BitVec.toNat_ofInt]
  rfl

theorem horner (x0 x1 x2 x3 x4 x5 : Nat) : nat [BitVec.ofInt 8 x0, BitVec.ofInt 8 x1, BitVec.ofInt 8 x2, BitVec.ofInt 8 x3, BitVec.ofInt 8 x4, BitVec.ofInt 8 x5] = 256 * (256 * (256 * (256 * (256 * (x0 % 256) + x1 % 256) + x2 % 256) + x3 % 256) + x4 % 256) + x5 % 256 := by
  have key : ∀ x : Nat, (BitVec.ofInt 8 x).toNat = x % 256 := by
    intro x
    rw [byte_nat]
    omega
  simp only [nat, List.foldl_cons, List.foldl_nil, key]
  omega

theorem num6_six (n : Int) (r : Bs) (h0 : 0 ≤ n) (h1 : n < 281474976710656) : (num6 (six n ++ r) : Int) = n := by
  obtain ⟨m, rfl⟩ := Int.eq_ofNat_of_zero_le h0
  have e : (six (m : Int) ++ r).take 6 = [BitVec.ofInt 8 (m / 256 / 256 / 256 / 256 / 256 : Nat), BitVec.ofInt 8 (m / 256 / 256 / 256 / 256 : Nat), BitVec.ofInt 8 (m / 256 / 256 / 256 : Nat), BitVec.ofInt 8 (m / 256 / 256 : Nat), BitVec.ofInt 8 (m / 256 : Nat), BitVec.ofInt 8 (m : Nat)] := by
    rw [List.take_left' (six_len _)]
    simp only [Nat.div_div_eq_div_mul]
    rfl
  have h2 : m < 281474976710656 := by omega
  have hd : ∀ x : Nat, 256 * (x / 256) + x % 256 = x := fun x => Nat.div_add_mod x 256
  unfold num6
  rw [e, horner]
  have h5 : m / 256 / 256 / 256 / 256 / 256 < 256 := by omega
  rw [Nat.mod_eq_of_lt h5, hd, hd, hd, hd, hd]

theorem six_num6 (l : Bs) (h : 6 ≤ l.length) : six (num6 l) = l.take 6 := by
  rcases l with _ | ⟨a, _ | ⟨b, _ | ⟨c, _ | ⟨d, _ | ⟨e, _ | ⟨f, l⟩⟩⟩⟩⟩⟩
  · simp at h
  · simp at h
  · simp at h
  · simp at h
  · simp at h
  · simp at h
  · have ha := a.isLt
    have hb := b.isLt
    have hc := c.isLt
    have hd := d.isLt
    have he := e.isLt
    have hf := f.isLt
    unfold num6 six nat
    simp only [List.take_succ_cons, List.take_zero, List.foldl_cons, List.foldl_nil]
    have key : ∀ (x : BitVec 8) (n : Int), n % 256 = x.toNat → BitVec.ofInt 8 n = x := by
      intro x n h1
      apply BitVec.eq_of_toNat_eq
      rw [byte_nat n, h1]
      rfl
    rw [key a _ (by omega), key b _ (by omega), key c _ (by omega), key d _ (by omega), key e _ (by omega), key f _ (by omega)]

/-- what stands ahead of a text -/
def hd (k a b : Int) : Bs := (six a ++ six b).take (6 * nu k)

theorem hd_len (k a b : Int) : (hd k a b).length = 6 * nu k := by
  have := nu_le k
  unfold hd
  rw [List.length_take, List.length_append, six_len, six_len]
  omega

/-- a message's body -/
def body (k a b : Int) (t : Bs) : Bs := hd k a b ++ t

theorem body_len (k a b : Int) (t : Bs) : (body k a b t).length = 6 * nu k + t.length := by
  unfold body
  rw [List.length_append, hd_len]

theorem body_le {k a b : Int} {t : Bs} (h : rt k a b t.length = true) : (body k a b t).length ≤ 2048 := by
  have h1 := rt_n h
  have h2 := room k
  rw [body_len]
  omega

/-- what a body tells of a kind: A, B, Text -/
def ofA (k : Int) (l : Bs) : Nat := if 1 ≤ nu k then num6 l else 0
def ofB (k : Int) (l : Bs) : Nat := if 2 ≤ nu k then num6 (l.drop 6) else 0
def ofT (k : Int) (l : Bs) : Bs := l.drop (6 * nu k)

/-- a kind and a body that are those of a message -/
def ofOk (k : Int) (l : Bs) : Bool := decide (6 * nu k ≤ l.length) && rt k (ofA k l) (ofB k l) (ofT k l).length

theorem hd_0 {k a b : Int} (h : nu k = 0) : hd k a b = [] := by unfold hd; rw [h]; rfl
theorem hd_1 {k a b : Int} (h : nu k = 1) : hd k a b = six a := by unfold hd; rw [h]; rfl
theorem hd_2 {k a b : Int} (h : nu k = 2) : hd k a b = six a ++ six b := by unfold hd; rw [h]; rfl

theorem nu_cases (k : Int) : nu k = 0 ∨ nu k = 1 ∨ nu k = 2 := by have := nu_le k; omega

theorem of_body {k a b : Int} {t : Bs} (h : rt k a b t.length = true) : (ofA k (body k a b t) : Int) = a ∧ (ofB k (body k a b t) : Int) = b ∧ ofT k (body k a b t) = t ∧ ofOk k (body k a b t) = true := by
  have ha := rt_a h
  have hb := rt_b h
  have h0 := rt_a0 h
  have h1 := rt_b0 h
  have hT : ofT k (body k a b t) = t := by
    unfold ofT body
    rw [List.drop_left' (hd_len k a b)]
  have hA : (ofA k (body k a b t) : Int) = a := by
    unfold ofA body
    rcases nu_cases k with e | e | e
    · rw [if_neg (by omega), h0 e]; rfl
    · rw [if_pos (by omega), hd_1 e, num6_six a t (by omega) (by omega)]
    · rw [if_pos (by omega), hd_2 e, List.append_assoc, num6_six a _ (by omega) (by omega)]
  have hB : (ofB k (body k a b t) : Int) = b := by
    unfold ofB body
    rcases nu_cases k with e | e | e
    · rw [if_neg (by omega), h1 (by omega)]; rfl
    · rw [if_neg (by omega), h1 (by omega)]; rfl
    · rw [if_pos (by omega), hd_2 e, List.append_assoc, List.drop_left' (six_len a), num6_six b t (by omega) (by omega)]
  refine ⟨hA, hB, hT, ?_⟩
  unfold ofOk
  rw [hT, hA, hB, h, body_len]
  simp

theorem body_of {k : Int} {l : Bs} (h : ofOk k l = true) : body k (ofA k l) (ofB k l) (ofT k l) = l := by
  unfold ofOk at h
  simp only [Bool.and_eq_true, decide_eq_true_eq] at h
  obtain ⟨hl, _⟩ := h
  have hdr : ∀ n, l = l.take n ++ l.drop n := fun n => (List.take_append_drop n l).symm
  unfold body ofT ofA ofB
  rcases nu_cases k with e | e | e
  · rw [hd_0 e, e]; rfl
  · rw [hd_1 e, e, if_pos (by omega), six_num6 l (by omega)]
    exact List.take_append_drop 6 l
  · rw [hd_2 e, e, if_pos (by omega), if_pos (by omega), six_num6 l (by omega), six_num6 _ (by rw [List.length_drop]; omega)]
    rw [show 6 * 2 = 6 + 6 from rfl, ← List.drop_drop, List.append_assoc, List.take_append_drop, List.take_append_drop]

/-- two messages' bytes: none begins with the other's, and those of the same bytes are the same -/
theorem fr_apart (c1 c2 : BitVec 8) (b1 b2 : Bs) (h1 : b1.length ≤ 2048) (h2 : b2.length ≤ 2048) (n : Nat) (hn : n = min (b1.length + 5) (b2.length + 5)) (h : (fr c1 b1).take n = (fr c2 b2).take n) :
    c1 = c2 ∧ b1 = b2 := by
  have e1 : fr c1 b1 = (fr c1 b1).take n ++ (fr c1 b1).drop n := (List.take_append_drop n _).symm
  have e2 : fr c2 b2 = (fr c2 b2).take n ++ (fr c2 b2).drop n := (List.take_append_drop n _).symm
  have n1 := num2_fr c1 b1 [] h1
  have n2 := num2_fr c2 b2 [] h2
  rw [List.append_nil] at n1 n2
  have hh : num2 (fr c1 b1) = num2 (fr c2 b2) := by
    have key : ∀ l : Bs, num2 (l.take n) = num2 l := by
      intro l
      unfold num2
      rw [List.getElem?_take, List.getElem?_take, if_pos (by omega), if_pos (by omega)]
    rw [← key (fr c1 b1), ← key (fr c2 b2), h]
  have hlen : b1.length = b2.length := by omega
  have hfull : fr c1 b1 = fr c2 b2 := by
    rw [List.take_of_length_le (by rw [fr_len]; omega), List.take_of_length_le (by rw [fr_len]; omega)] at h
    exact h
  have g1 := get_fr c1 b1 [] h1
  have g2 := get_fr c2 b2 [] h2
  rw [hfull, g2] at g1
  injection g1 with q1 q2
  exact ⟨q1.symm, q2.symm⟩

/-- messages of the same body and kind are the same -/
theorem body_inj {k a b a' b' : Int} {t t' : Bs} (h : rt k a b t.length = true) (h' : rt k a' b' t'.length = true) (e : body k a b t = body k a' b' t') : a = a' ∧ b = b' ∧ t = t' := by
  obtain ⟨p1, p2, p3, _⟩ := of_body h
  obtain ⟨q1, q2, q3, _⟩ := of_body h'
  rw [e] at p1 p2 p3
  exact ⟨by omega, by omega, p3.symm.trans q3⟩

/-- two messages whose bytes are the same as far as the shorter one goes are the same -/
theorem apart {k a b k' a' b' : Int} {t t' : Bs} (h : rt k a b t.length = true) (h' : rt k' a' b' t'.length = true) (n : Nat) (hn : n = min ((body k a b t).length + 5) ((body k' a' b' t').length + 5))
    (e : (fr (BitVec.ofInt 8 k) (body k a b t)).take n = (fr (BitVec.ofInt 8 k') (body k' a' b' t')).take n) : k = k' ∧ a = a' ∧ b = b' ∧ t = t' := by
  obtain ⟨e1, e2⟩ := fr_apart _ _ _ _ (body_le h) (body_le h') n hn e
  have hk := rt_k h
  have hk' := rt_k h'
  have e3 := congrArg BitVec.toNat e1
  rw [byte_nat, byte_nat] at e3
  have hkk : k = k' := by omega
  subst hkk
  exact ⟨rfl, body_inj h h' e2⟩

end Go.Proofs.Ytfmombbembiagaa.Ms
