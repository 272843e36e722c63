
/- The plain mathematics of the sum of layer 2: a register of sixteen bits, a bit at a time. No program is named here. -/
namespace Go.Proofs.Ytfmombbembiagaa.Crc

def K : BitVec 16 := 0x1021#16
def E : BitVec 16 := 0x8000#16
def T (s : BitVec 16) : BitVec 16 := (s <<< 1) ^^^ (if s.msb then K else 0#16)
def B (s : BitVec 16) (b : Bool) : BitVec 16 := (s <<< 1) ^^^ (if (b != s.msb) then K else 0#16)

theorem B_false (s : BitVec 16) : B s false = T s := by
  unfold B T; cases s.msb <;> rfl

theorem T_xor (a b : BitVec 16) : T (a ^^^ b) = T a ^^^ T b := by
  unfold T
  rw [BitVec.shiftLeft_xor_distrib, BitVec.msb_xor]
  cases a.msb <;> cases b.msb <;> simp
  · ac_rfl
  · ac_rfl
  · rw [show a <<< 1 ^^^ K ^^^ (b <<< 1 ^^^ K) = a <<< 1 ^^^ b <<< 1 ^^^ (K ^^^ K) by ac_rfl]; simp

theorem T_zero : T 0#16 = 0#16 := by decide

theorem B_eq (s : BitVec 16) (b : Bool) : B s b = T (s ^^^ (if b then E else 0#16)) := by
  have hE : T E = K := by decide
  cases b
  · simp [B_false]
  · rw [if_pos rfl, T_xor, hE]
    unfold B T
    cases s.msb
    · simp
    · simp [BitVec.xor_assoc]

theorem B_xor (a b : BitVec 16) (x y : Bool) : B (a ^^^ b) (x != y) = B a x ^^^ B b y := by
  rw [B_eq, B_eq, B_eq, ← T_xor]
  congr 1
  cases x <;> cases y <;> simp
  · ac_rfl
  · ac_rfl
  · rw [show a ^^^ E ^^^ (b ^^^ E) = a ^^^ b ^^^ (E ^^^ E) by ac_rfl]; simp

theorem T_ker (x : BitVec 16) (h : T x = 0#16) : x = 0#16 := by
  unfold T at h
  have h0 : (x <<< 1 ^^^ (if x.msb then K else 0#16)).getLsbD 0 = x.msb := by
    cases x.msb <;> simp [K]
  rw [h] at h0
  have hm : x.msb = false := by simpa using h0.symm
  rw [hm] at h
  have h1 : (x <<< 1).toNat = 0 := by
    have := congrArg BitVec.toNat h
    simpa using this
  rw [BitVec.toNat_shiftLeft, Nat.shiftLeft_eq] at h1
  have hlt : x.toNat < 32768 := by
    rw [BitVec.msb_eq_decide] at hm
    simpa using hm
  apply BitVec.eq_of_toNat_eq
  simp
  omega

def iter : Nat → BitVec 16 → BitVec 16
  | 0, s => s
  | n + 1, s => T (iter n s)

theorem iter_xor (n : Nat) (a b : BitVec 16) : iter n (a ^^^ b) = iter n a ^^^ iter n b := by
  induction n with
  | zero => rfl
  | succ n ih => simp only [iter, ih, T_xor]

theorem iter_ker (n : Nat) (x : BitVec 16) (h : iter n x = 0#16) : x = 0#16 := by
  induction n with
  | zero => exact h
  | succ n ih => exact ih (T_ker _ h)

theorem iter_zero (n : Nat) : iter n 0#16 = 0#16 := by
  induction n with
  | zero => rfl
  | succ n ih => simp only [iter, ih, T_zero]

/-- the register behind k bits of d, from s on -/
def run (d : Nat → Bool) (s : BitVec 16) : Nat → BitVec 16
  | 0 => s
  | k + 1 => B (run d s k) (d k)

theorem run_xor (d e : Nat → Bool) (s t : BitVec 16) (k : Nat) : run (fun i => d i != e i) (s ^^^ t) k = run d s k ^^^ run e t k := by
  induction k with
  | zero => rfl
  | succ k ih => simp only [run, ih, B_xor]

theorem run_congr {d e : Nat → Bool} {k : Nat} (s : BitVec 16) (h : ∀ i, i < k → d i = e i) : run d s k = run e s k := by
  induction k with
  | zero => rfl
  | succ k ih =>
    simp only [run]
    rw [ih fun i hi => h i (by omega), h k (by omega)]

theorem run_add (d : Nat → Bool) (s : BitVec 16) (a k : Nat) : run d s (a + k) = run (fun i => d (a + i)) (run d s a) k := by
  induction k with
  | zero => rfl
  | succ k ih =>
    rw [show a + (k + 1) = (a + k) + 1 by omega]
    simp only [run, ih]

theorem run_false (d : Nat → Bool) (s : BitVec 16) (k : Nat) (h : ∀ i, i < k → d i = false) : run d s k = iter k s := by
  induction k with
  | zero => rfl
  | succ k ih =>
    simp only [run, iter]
    rw [ih fun i hi => h i (by omega), h k (by omega), B_false]

/-- k bits of d, the first one highest -/
def pat (d : Nat → Bool) : Nat → BitVec 16
  | 0 => 0#16
  | k + 1 => pat d k ^^^ (if d k then 1#16 <<< (15 - k) else 0#16)

theorem iter_up : ∀ m, m < 16 → iter m (1#16 <<< (15 - m)) = E := by decide

theorem run_pat (d : Nat → Bool) (k : Nat) (hk : k ≤ 16) (s : BitVec 16) : run d s k = iter k (s ^^^ pat d k) := by
  induction k with
  | zero => simp [run, iter, pat]
  | succ k ih =>
    simp only [run, iter, pat]
    rw [ih (by omega), B_eq, ← BitVec.xor_assoc, iter_xor k (s ^^^ pat d k)]
    congr 2
    cases d k
    · simp [iter_zero]
    · simp [iter_up k (by omega)]

theorem pat_bit (d : Nat → Bool) (k : Nat) (hk : k ≤ 16) (i : Nat) (hi : i < 16) : (pat d k).getLsbD (15 - i) = (decide (i < k) && d i) := by
  induction k with
  | zero => simp [pat]
  | succ k ih =>
    simp only [pat]
    rw [BitVec.getLsbD_xor, ih (by omega)]
    by_cases h : i = k
    · subst h
      cases d i <;> simp <;> omega
    · cases hd : d k
      · simp
        by_cases h1 : i < k
        · simp [h1, show i < k + 1 by omega]
        · simp [h1, show ¬ i < k + 1 by omega]
      · have hne : ¬ (15 - i = 15 - k) := by omega
        simp [BitVec.getLsbD_shiftLeft]
        by_cases h1 : i < k
        · have h2 : ¬ 15 - i < 15 - k := by omega
          have h3 : 15 - i - (15 - k) ≠ 0 := by omega
          simp [h1, show i < k + 1 by omega, h3]
        · have h2 : 15 - i < 15 - k := by omega
          simp [h1, show ¬ i < k + 1 by omega, h2]

/-- bits that are turned within sixteen side by side are not lost -/
theorem burst (d : Nat → Bool) (at_ n : Nat) (hat : at_ ≤ n) (h0 : ∀ i, i < n → i < at_ ∨ at_ + 16 ≤ i → d i = false) (j : Nat) (hj : j < 16) (hjn : at_ + j < n) (hd : d (at_ + j) = true) :
    run d 0#16 n ≠ 0#16 := by
  intro h
  have e0 : run d 0#16 at_ = 0#16 := by
    rw [run_false d _ _ fun i hi => h0 i (by omega) (.inl hi), iter_zero]
  obtain ⟨m, r, hm, hn, hjm, hr⟩ : ∃ m r, m ≤ 16 ∧ n = at_ + (m + r) ∧ j < m ∧ (0 < r → m = 16) := by
    by_cases h16 : n - at_ ≤ 16
    · exact ⟨n - at_, 0, h16, by omega, by omega, by omega⟩
    · exact ⟨16, n - at_ - 16, by omega, by omega, hj, by omega⟩
  rw [hn, run_add, e0, run_add, run_false _ _ r] at h
  · have h2 := iter_ker _ _ h
    rw [run_pat _ m hm, BitVec.zero_xor] at h2
    have h3 := iter_ker _ _ h2
    have hb := pat_bit (fun i => d (at_ + i)) m hm j hj
    rw [h3] at hb
    simp [hjm, hd] at hb
  · intro i hi
    have := hr (by omega)
    exact h0 _ (by omega) (.inr (by omega))

def apart : Nat → BitVec 16 → Bool
  | 0, _ => true
  | n + 1, s => s != E && apart n (T s)

theorem iter_T (n : Nat) (s : BitVec 16) : iter n (T s) = T (iter n s) := by
  induction n with
  | zero => rfl
  | succ n ih => simp only [iter, ih]

theorem apart_all (n : Nat) (s : BitVec 16) (h : apart n s = true) : ∀ k, k < n → iter k s ≠ E := by
  induction n generalizing s with
  | zero => intro k hk; omega
  | succ n ih =>
    simp only [apart, Bool.and_eq_true, bne_iff_ne] at h
    intro k hk
    cases k with
    | zero => exact h.1
    | succ k =>
      simp only [iter, ← iter_T]
      exact ih _ h.2 k (by omega)

theorem apart_K : apart 2400 K = true := by decide +kernel

/-- two bits that are turned are not lost, up to 2400 bits apart -/
theorem two (d : Nat → Bool) (p q n : Nat) (hpq : p < q) (hq : q < n) (hn : n ≤ 2400) (h0 : ∀ i, i < n → d i = (i == p || i == q)) :
    run d 0#16 n ≠ 0#16 := by
  intro h
  have e0 : run d 0#16 p = 0#16 := by
    rw [run_false d _ _ fun i hi => by rw [h0 i (by omega)]; simp; omega, iter_zero]
  have e1 : run d 0#16 (p + 1) = K := by
    simp only [run]; rw [e0, h0 p (by omega)]; simp; decide
  have e2 : run d 0#16 q = iter (q - (p + 1)) K := by
    have : q = (p + 1) + (q - (p + 1)) := by omega
    conv => lhs; rw [this]
    rw [run_add, e1, run_false]
    intro i hi
    rw [h0 _ (by omega)]; simp; omega
  have e3 : run d 0#16 (q + 1) ≠ 0#16 := by
    simp only [run]
    rw [e2, h0 q hq]
    intro hz
    rw [B_eq] at hz
    have := T_ker _ hz
    simp at this
    exact apart_all 2400 K apart_K (q - (p + 1)) (by omega) this
  have hn' : n = (q + 1) + (n - (q + 1)) := by omega
  rw [hn', run_add, run_false] at h
  · exact e3 (iter_ker _ _ h)
  · intro i hi
    rw [h0 _ (by omega)]; simp; omega

theorem xor_ne {a b : BitVec 16} (h : a ^^^ b ≠ 0#16) : a ≠ b := by
  rintro rfl; exact h (by simp)

/-- bit p of bytes, the first byte's highest bit first -/
def bitAt (l : List (BitVec 8)) (p : Nat) : Bool := (l.getD (p / 8) 0#8).getLsbD (7 - p % 8)

def hi (c : BitVec 8) : BitVec 16 := (BitVec.setWidth 16 c) <<< (8 : Nat)

/-- the sum of bytes behind s, as the program reckons it -/
def more (s : BitVec 16) (l : List (BitVec 8)) : BitVec 16 := l.foldl (fun s c => iter 8 (s ^^^ (hi c))) s

theorem byte_pat : ∀ c : Fin 256, pat (fun i => (BitVec.ofFin (w := 8) c).getLsbD (7 - i)) 8 = hi (BitVec.ofFin (w := 8) c) := by decide +kernel

theorem byte_run (s : BitVec 16) (c : BitVec 8) : iter 8 (s ^^^ (hi c)) = run (fun i => c.getLsbD (7 - i)) s 8 := by
  rw [run_pat _ 8 (by decide)]
  have := byte_pat c.toFin
  simp only [BitVec.ofFin_toFin] at this
  rw [this]

theorem more_snoc (s : BitVec 16) (l : List (BitVec 8)) (c : BitVec 8) : more s (l ++ [c]) = iter 8 (more s l ^^^ (hi c)) := by
  simp [more]

theorem more_append (s : BitVec 16) (l m : List (BitVec 8)) : more s (l ++ m) = more (more s l) m := by
  simp [more]

theorem more_take (s : BitVec 16) (l : List (BitVec 8)) (k : Nat) (hk : k ≤ l.length) : more s (l.take k) = run (bitAt l) s (8 * k) := by
  induction k with
  | zero => simp [more, run]
  | succ k ih =>
    have hlt : k < l.length := by omega
    rw [List.take_succ_eq_append_getElem hlt, more_snoc, ih (by omega), byte_run, show 8 * (k + 1) = 8 * k + 8 by omega, run_add]
    refine run_congr _ fun i hi => ?_
    unfold bitAt
    rw [show (8 * k + i) / 8 = k by omega, show (8 * k + i) % 8 = i by omega, List.getD_eq_getElem?_getD, List.getElem?_eq_getElem hlt]
    rfl

theorem more_run (s : BitVec 16) (l : List (BitVec 8)) : more s l = run (bitAt l) s (8 * l.length) := by
  have := more_take s l l.length (Nat.le_refl _)
  rwa [List.take_length] at this

/-- the bytes with bit p turned -/
def flip (l : List (BitVec 8)) (p : Nat) : List (BitVec 8) := l.set (p / 8) (l[p / 8]?.getD 0#8 ^^^ (0x80#8 >>> (p % 8)))

theorem flip_length (l : List (BitVec 8)) (p : Nat) : (flip l p).length = l.length := by simp [flip]

theorem mask_bit : ∀ a : Fin 8, ∀ b : Fin 8, (0x80#8 >>> a.val).getLsbD (7 - b.val) = (b.val == a.val) := by decide

theorem bitAt_flip (l : List (BitVec 8)) (p q : Nat) (hp : p < 8 * l.length) : bitAt (flip l p) q = (bitAt l q != (q == p)) := by
  have hlt : p / 8 < l.length := by omega
  unfold bitAt flip
  rw [List.getD_eq_getElem?_getD, List.getD_eq_getElem?_getD, List.getElem?_set]
  by_cases h : p / 8 = q / 8
  · rw [if_pos h, if_pos (by simpa using hlt), h]
    have hm := mask_bit ⟨p % 8, by omega⟩ ⟨q % 8, by omega⟩
    simp only at hm
    have e : (q % 8 == p % 8) = (q == p) := by
      rw [Bool.eq_iff_iff]
      simp
      omega
    rw [Option.getD_some, BitVec.getLsbD_xor, hm, e]
  · rw [if_neg h]
    have : (q == p) = false := by simp; omega
    rw [this]
    simp

/-- of k bits from p on, those that tb says are turned -/
def spoil (l : List (BitVec 8)) (p : Nat) (tb : Nat → Bool) : Nat → List (BitVec 8)
  | 0 => l
  | k + 1 => if tb k then flip (spoil l p tb k) (p + k) else spoil l p tb k

def anyT (tb : Nat → Bool) : Nat → Bool
  | 0 => false
  | k + 1 => if tb k then true else anyT tb k

theorem spoil_length (l : List (BitVec 8)) (p : Nat) (tb : Nat → Bool) (k : Nat) : (spoil l p tb k).length = l.length := by
  induction k with
  | zero => rfl
  | succ k ih =>
    simp only [spoil]
    split
    · rw [flip_length, ih]
    · exact ih

theorem bitAt_spoil (l : List (BitVec 8)) (p : Nat) (tb : Nat → Bool) (k : Nat) (hk : p + k ≤ 8 * l.length) (q : Nat) :
    bitAt (spoil l p tb k) q = (bitAt l q != (decide (p ≤ q) && decide (q < p + k) && tb (q - p))) := by
  induction k with
  | zero =>
    have : (decide (p ≤ q) && decide (q < p + 0) && tb (q - p)) = false := by
      by_cases h : p ≤ q
      · have : decide (q < p + 0) = false := by simp; omega
        rw [this]
        simp
      · simp [h]
    rw [this]
    simp [spoil]
  | succ k ih =>
    have ih := ih (by omega)
    simp only [spoil]
    by_cases hq : q = p + k
    · subst hq
      cases ht : tb k
      · rw [if_neg (by simp), ih]
        simp [ht]
      · rw [if_pos rfl, bitAt_flip _ _ _ (by rw [spoil_length]; omega), ih]
        simp [ht]
    · have e : (decide (p ≤ q) && decide (q < p + (k + 1)) && tb (q - p)) = (decide (p ≤ q) && decide (q < p + k) && tb (q - p)) := by
        congr 2
        rw [Bool.eq_iff_iff]
        simp
        omega
      rw [e]
      split
      · rw [bitAt_flip _ _ _ (by rw [spoil_length]; omega), ih, show (q == p + k) = false by simpa using hq]
        simp
      · exact ih

theorem anyT_iff (tb : Nat → Bool) (k : Nat) (h : anyT tb k = true) : ∃ j, j < k ∧ tb j = true := by
  induction k with
  | zero => simp [anyT] at h
  | succ k ih =>
    simp only [anyT] at h
    cases ht : tb k
    · rw [ht] at h
      obtain ⟨j, hj, hjt⟩ := ih (by simpa using h)
      exact ⟨j, by omega, hjt⟩
    · exact ⟨k, by omega, ht⟩

theorem more_diff (s : BitVec 16) (l m : List (BitVec 8)) (d : Nat → Bool) (hl : m.length = l.length) (h : ∀ q, q < 8 * l.length → bitAt m q = (bitAt l q != d q)) (hd : run d 0#16 (8 * l.length) ≠ 0#16) :
    more s m ≠ more s l := by
  intro he
  rw [more_run, more_run, hl, run_congr _ h, show s = s ^^^ 0#16 by simp, run_xor] at he
  apply hd
  have e : ∀ x y : BitVec 16, x ^^^ y = x → y = 0#16 := by
    intro x y h
    have : x ^^^ (x ^^^ y) = x ^^^ x := by rw [h]
    simpa [← BitVec.xor_assoc] using this
  apply e (run (bitAt l) s (8 * l.length))
  simpa using he

theorem spoil_ne (s : BitVec 16) (l : List (BitVec 8)) (p : Nat) (tb : Nat → Bool) (k : Nat) (hk : k ≤ 16) (hp : p + k ≤ 8 * l.length) (h : anyT tb k = true) :
    more s (spoil l p tb k) ≠ more s l := by
  refine more_diff s l _ _ (spoil_length _ _ _ _) (fun q _ => bitAt_spoil l p tb k hp q) ?_
  obtain ⟨j, hj, hjt⟩ := anyT_iff tb k h
  refine burst _ p _ (by omega) ?_ j (by omega) (by omega) (by simp [hjt]; omega)
  intro i hi hor
  rcases hor with hor | hor
  · have : ¬ p ≤ i := by omega
    simp [this]
  · have : ¬ i < p + k := by omega
    simp [this]

theorem one_ne (s : BitVec 16) (l : List (BitVec 8)) (p : Nat) (hp : p < 8 * l.length) : more s (flip l p) ≠ more s l := by
  refine more_diff s l _ _ (flip_length _ _) (fun q _ => bitAt_flip l p q hp) ?_
  refine burst _ p _ (by omega) ?_ 0 (by omega) (by omega) (by simp)
  intro i _ hor
  simp
  omega

theorem two_ne (s : BitVec 16) (l : List (BitVec 8)) (p q : Nat) (hn : l.length ≤ 300) (hp : p < 8 * l.length) (hq : q < 8 * l.length) (hpq : p ≠ q) : more s (flip (flip l p) q) ≠ more s l := by
  refine more_diff s l _ (fun i => i == p || i == q) (by rw [flip_length, flip_length]) (fun i _ => ?_) ?_
  · rw [bitAt_flip _ _ _ (by rw [flip_length]; exact hq), bitAt_flip _ _ _ hp]
    by_cases h1 : i = p
    · have h2 : (i == q) = false := by simp; omega
      have h3 : (i == p) = true := by simpa using h1
      rw [h2, h3]
      simp
    · have h3 : (i == p) = false := by simpa using h1
      rw [h3]
      simp
  · rcases Nat.lt_or_ge p q with h | h
    · exact two _ p q _ h hq (by omega) fun _ _ => rfl
    · exact two _ q p _ (by omega) hp (by omega) fun i _ => by rw [Bool.or_comm]

end Go.Proofs.Ytfmombbembiagaa.Crc
