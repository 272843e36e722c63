
/- Frames as bytes: the plain mathematics of layer 3. No program is named here. -/
import Derived.Test.YtfmombbembiagaaCrc
namespace Go.Proofs.Ytfmombbembiagaa.Fr
open Crc

abbrev Bs := List (BitVec 8)

/-- a number below 65536 in two bytes, the higher one first -/
def num (n : Nat) : Bs := [BitVec.ofNat 8 (n / 256), BitVec.ofNat 8 n]

/-- the sum of bytes -/
def sum (l : Bs) : Nat := (more 0xffff#16 l).toNat

theorem sum_lt (l : Bs) : sum l < 65536 := (more 0xffff#16 l).isLt

/-- what stands ahead of the sum -/
def pre (k : BitVec 8) (body : Bs) : Bs := num (body.length + 1) ++ (k :: body)

/-- a frame's bytes -/
def fr (k : BitVec 8) (body : Bs) : Bs := pre k body ++ num (sum (k :: body))

theorem num_len (n : Nat) : (num n).length = 2 := rfl

theorem pre_len (k : BitVec 8) (body : Bs) : (pre k body).length = body.length + 3 := by simp [pre, num_len]; omega

theorem fr_len (k : BitVec 8) (body : Bs) : (fr k body).length = body.length + 5 := by simp [fr, pre_len, num_len]

/-- the number with whose two bytes others begin -/
def num2 (l : Bs) : Nat := 256 * (l[0]?.getD 0#8).toNat + (l[1]?.getD 0#8).toNat

theorem num2_lt (l : Bs) : num2 l < 65536 := by
  unfold num2
  have h1 := (l[0]?.getD 0#8).isLt
  have h2 := (l[1]?.getD 0#8).isLt
  omega

theorem num2_num (n : Nat) (r : Bs) (h : n < 65536) : num2 (num n ++ r) = n := by
  simp [num2, num]
  omega

theorem num_num2 (l : Bs) (h : 2 ≤ l.length) : num (num2 l) = l.take 2 := by
  rcases l with _ | ⟨a, _ | ⟨b, l⟩⟩
  · simp at h
  · simp at h
  · have ha := a.isLt
    have hb := b.isLt
    simp [num, num2]
    refine ⟨BitVec.eq_of_toNat_eq ?_, BitVec.eq_of_toNat_eq ?_⟩
    · simp
      omega
    · simp
      omega

theorem num_inj {m n : Nat} (hm : m < 65536) (hn : n < 65536) (h : num m = num n) : m = n := by
  have h1 := num2_num m [] hm
  have h2 := num2_num n [] hn
  rw [h] at h1
  omega

/-- what is told of bytes: a kind, a body, how many bytes, an error's number -/
structure Got where
  k : BitVec 8
  body : Bs
  n : Nat
  err : Nat

/-- which of the errors there is -/
def err (l : Bs) : Nat :=
  if l.length < 2 then 5
  else if num2 l = 0 ∨ 2049 < num2 l then 6
  else if l.length < num2 l + 4 then 5
  else if sum ((l.drop 2).take (num2 l)) ≠ num2 (l.drop (num2 l + 2)) then 7
  else 0

/-- the frame with which bytes begin, or why there is none -/
def get (l : Bs) : Got :=
  if err l = 0 then ⟨l[2]?.getD 0#8, (l.drop 3).take (num2 l - 1), num2 l + 4, 0⟩ else ⟨0#8, [], 0, err l⟩

theorem err_short {l : Bs} (h : l.length < 2) : err l = 5 := by unfold err; rw [if_pos h]
theorem err_long {l : Bs} (h : 2 ≤ l.length) (h2 : num2 l = 0 ∨ 2049 < num2 l) : err l = 6 := by
  unfold err; rw [if_neg (by omega), if_pos h2]
theorem err_cut {l : Bs} (h : 2 ≤ l.length) (h2 : 0 < num2 l) (h3 : num2 l ≤ 2049) (h4 : l.length < num2 l + 4) : err l = 5 := by
  unfold err; rw [if_neg (by omega), if_neg (by omega), if_pos h4]
theorem err_sum {l : Bs} (h2 : 0 < num2 l) (h3 : num2 l ≤ 2049) (h4 : num2 l + 4 ≤ l.length) (h5 : sum ((l.drop 2).take (num2 l)) ≠ num2 (l.drop (num2 l + 2))) : err l = 7 := by
  unfold err; rw [if_neg (by omega), if_neg (by omega), if_neg (by omega), if_pos h5]
theorem err_ok {l : Bs} (h2 : 0 < num2 l) (h3 : num2 l ≤ 2049) (h4 : num2 l + 4 ≤ l.length) (h5 : sum ((l.drop 2).take (num2 l)) = num2 (l.drop (num2 l + 2))) : err l = 0 := by
  unfold err; rw [if_neg (by omega), if_neg (by omega), if_neg (by omega), if_neg (by omega)]

theorem get_no {l : Bs} {e : Nat} (h : err l = e) (he : e ≠ 0) : get l = ⟨0#8, [], 0, e⟩ := by
  unfold get; rw [h, if_neg he]
theorem get_yes {l : Bs} (h : err l = 0) : get l = ⟨l[2]?.getD 0#8, (l.drop 3).take (num2 l - 1), num2 l + 4, 0⟩ := by
  unfold get; rw [if_pos h]

theorem num2_fr (k : BitVec 8) (body r : Bs) (hb : body.length ≤ 2048) : num2 (fr k body ++ r) = body.length + 1 := by
  unfold fr pre
  rw [List.append_assoc, List.append_assoc]
  exact num2_num _ _ (by omega)

theorem fr_take (k : BitVec 8) (body r : Bs) : ((fr k body ++ r).drop 2).take (body.length + 1) = k :: body := by
  have e : fr k body ++ r = num (body.length + 1) ++ ((k :: body) ++ (num (sum (k :: body)) ++ r)) := by simp [fr, pre]
  rw [e, List.drop_left' (num_len _), List.take_left' (by simp)]

theorem fr_drop (k : BitVec 8) (body r : Bs) : (fr k body ++ r).drop (body.length + 1 + 2) = num (sum (k :: body)) ++ r := by
  have e : fr k body ++ r = pre k body ++ (num (sum (k :: body)) ++ r) := by simp [fr]
  rw [e, List.drop_left' (by rw [pre_len])]

/-- a frame's bytes, with whatever behind, are told as this frame -/
theorem get_fr (k : BitVec 8) (body r : Bs) (hb : body.length ≤ 2048) : get (fr k body ++ r) = ⟨k, body, body.length + 5, 0⟩ := by
  have h2 := num2_fr k body r hb
  have hl : (fr k body ++ r).length = body.length + 5 + r.length := by simp [fr_len]
  have h0 : err (fr k body ++ r) = 0 := by
    refine err_ok (by omega) (by omega) (by omega) ?_
    rw [h2, fr_take, fr_drop, num2_num _ _ (sum_lt _)]
  rw [get_yes h0, h2]
  have e : fr k body ++ r = (num (body.length + 1) ++ [k]) ++ (body ++ (num (sum (k :: body)) ++ r)) := by simp [fr, pre]
  have ek : (fr k body ++ r)[2]?.getD 0#8 = k := by rw [e]; simp [num]
  have eb : ((fr k body ++ r).drop 3).take body.length = body := by
    rw [e, List.drop_left' (by simp [num_len]), List.take_left' rfl]
  rw [ek, Nat.add_sub_cancel, eb]

/-- what begins with a number and its bytes, held against a frame's bytes: they are the same where the sum is right -/
theorem fr_of (l : Bs) (h2 : 0 < num2 l) (h4 : num2 l + 4 ≤ l.length) :
    (fr (l[2]?.getD 0#8) ((l.drop 3).take (num2 l - 1)) = l.take (num2 l + 4)) ↔ sum ((l.drop 2).take (num2 l)) = num2 (l.drop (num2 l + 2)) := by
  have hlen : ((l.drop 3).take (num2 l - 1)).length = num2 l - 1 := by simp; omega
  have hk : l[2]?.getD 0#8 :: (l.drop 3).take (num2 l - 1) = (l.drop 2).take (num2 l) := by
    rw [show l.drop 2 = l[2]?.getD 0#8 :: l.drop 3 by
      rw [List.getElem?_eq_getElem (show 2 < l.length by omega), Option.getD_some]
      exact (List.drop_eq_getElem_cons (show 2 < l.length by omega))]
    rw [show num2 l = (num2 l - 1) + 1 by omega, List.take_succ_cons, Nat.add_sub_cancel]
  have h0 : l.take (num2 l + 4) = num (num2 l) ++ ((l.drop 2).take (num2 l)) ++ (l.drop (num2 l + 2)).take 2 := by
    rw [num_num2 l (by omega), show num2 l + 4 = 2 + num2 l + 2 by omega, List.take_add, List.take_add]
    rw [show 2 + num2 l = num2 l + 2 by omega]
  unfold fr pre
  rw [hk, hlen, show num2 l - 1 + 1 = num2 l by omega, h0, ← num_num2 (l.drop (num2 l + 2)) (by simp; omega)]
  constructor
  · intro h
    exact num_inj (sum_lt _) (num2_lt _) (List.append_cancel_left h)
  · intro h
    rw [h]

/-- a frame's bytes cut off are too short -/
theorem err_fr_cut (k : BitVec 8) (body : Bs) (hb : body.length ≤ 2048) (c : Nat) (hc : c < body.length + 5) : err ((fr k body).take c) = 5 := by
  have hl : ((fr k body).take c).length = c := by rw [List.length_take, fr_len]; omega
  by_cases h : c < 2
  · exact err_short (by omega)
  · have h2 : num2 ((fr k body).take c) = body.length + 1 := by
      have := num2_fr k body [] hb
      rw [List.append_nil] at this
      rw [← this]
      unfold num2
      rw [List.getElem?_take, List.getElem?_take, if_pos (by omega), if_pos (by omega)]
    exact err_cut (by omega) (by omega) (by omega) (by omega)

theorem bit_some (x : BitVec 8) (hx : x ≠ 0#8) : ∃ j, j < 8 ∧ x.getLsbD (7 - j) = true := by
  apply Classical.byContradiction
  intro hn
  apply hx
  apply BitVec.eq_of_getLsbD_eq
  intro i hi
  cases h : x.getLsbD i
  · simp
  · exact absurd ⟨7 - i, by omega, by rw [show 7 - (7 - i) = i by omega]; exact h⟩ hn

theorem bitAt_set (l : Bs) (q : Nat) (hq : q < l.length) (x : BitVec 8) (i : Nat) :
    bitAt (l.set q (l[q]?.getD 0#8 ^^^ x)) i = (bitAt l i != (decide (i / 8 = q) && x.getLsbD (7 - i % 8))) := by
  unfold bitAt
  rw [List.getD_eq_getElem?_getD, List.getD_eq_getElem?_getD, List.getElem?_set]
  by_cases h : q = i / 8
  · subst h
    rw [if_pos rfl, if_pos hq]
    simp
  · rw [if_neg h]
    simp [show ¬ i / 8 = q by omega]

/-- a byte that is turned makes another sum -/
theorem byte_ne (s : BitVec 16) (l : Bs) (q : Nat) (hq : q < l.length) (x : BitVec 8) (hx : x ≠ 0#8) : more s (l.set q (l[q]?.getD 0#8 ^^^ x)) ≠ more s l := by
  refine more_diff s l _ _ (by simp) (fun i _ => bitAt_set l q hq x i) ?_
  obtain ⟨j, hj, hb⟩ := bit_some x hx
  refine burst _ (8 * q) _ (by omega) ?_ j (by omega) (by omega) ?_
  · intro i _ hor
    have : ¬ i / 8 = q := by omega
    simp [this]
  · have h1 : (8 * q + j) / 8 = q := by omega
    have h2 : (8 * q + j) % 8 = j := by omega
    simp only [h1, h2, hb]
    simp

theorem xor_ne_self (c x : BitVec 8) (hx : x ≠ 0#8) : c ^^^ x ≠ c := by
  intro h
  apply hx
  have : c ^^^ (c ^^^ x) = c ^^^ c := by rw [h]
  simpa [← BitVec.xor_assoc] using this

theorem set_same (l : Bs) (p : Nat) (hp : p < l.length) : l.set p (l[p]?.getD 0#8 ^^^ 0#8) = l := by
  rw [List.getElem?_eq_getElem hp]
  simp

theorem num2_set (l : Bs) (p : Nat) (hp : 2 ≤ p) (v : BitVec 8) : num2 (l.set p v) = num2 l := by
  unfold num2
  rw [List.getElem?_set, List.getElem?_set, if_neg (by omega), if_neg (by omega)]

theorem num2_turn (l : Bs) (q : Nat) (hl : 2 ≤ l.length) (hq : q < 2) (v : BitVec 8) (hv : v ≠ l[q]?.getD 0#8) : num2 (l.set q v) ≠ num2 l := by
  intro h
  have h1 := num_num2 (l.set q v) (by simpa using hl)
  rw [h, num_num2 l hl] at h1
  have h2 : (l.take 2)[q]? = ((l.set q v).take 2)[q]? := by rw [h1]
  rw [List.getElem?_take, List.getElem?_take, if_pos hq, if_pos hq, List.getElem?_set, if_pos rfl, if_pos (by omega)] at h2
  rw [h2] at hv
  simp at hv

/-- a frame's bytes, turned in one place behind the number, are none -/
theorem err_fr_turn (k : BitVec 8) (body : Bs) (hb : body.length ≤ 2048) (q : Nat) (hq : q < body.length + 3) (x : BitVec 8) (hx : x ≠ 0#8) :
    err ((fr k body).set (2 + q) ((fr k body)[2 + q]?.getD 0#8 ^^^ x)) = 7 := by
  have hn := num2_fr k body [] hb
  have ht := fr_take k body []
  have hd := fr_drop k body []
  have hl := fr_len k body
  rw [List.append_nil] at hn ht hd
  rw [List.append_nil] at hd
  have hn2 := num2_set (fr k body) (2 + q) (by omega) ((fr k body)[2 + q]?.getD 0#8 ^^^ x)
  rw [hn] at hn2
  have hq2 : (fr k body)[2 + q]?.getD 0#8 = ((fr k body).drop 2)[q]?.getD 0#8 := by rw [List.getElem?_drop]
  refine err_sum (by omega) (by omega) (by rw [List.length_set]; omega) ?_
  rw [hn2, List.drop_set, if_neg (by omega), Nat.add_sub_cancel_left, List.take_set, ht, List.drop_set]
  by_cases h : q < body.length + 1
  · rw [if_pos (by omega), hd]
    have hs : num2 (num (sum (k :: body))) = sum (k :: body) := by
      have := num2_num (sum (k :: body)) [] (sum_lt _)
      rwa [List.append_nil] at this
    rw [hs, hq2]
    have hc : ((fr k body).drop 2)[q]?.getD 0#8 = (k :: body)[q]?.getD 0#8 := by
      rw [← ht, List.getElem?_take, if_pos h]
    rw [hc]
    intro he
    exact byte_ne 0xffff#16 (k :: body) q (by simpa using h) x hx (BitVec.eq_of_toNat_eq he)
  · rw [if_neg (by omega), List.set_eq_of_length_le (by simp; omega), hd]
    have hs : num2 (num (sum (k :: body))) = sum (k :: body) := by
      have := num2_num (sum (k :: body)) [] (sum_lt _)
      rwa [List.append_nil] at this
    have hc : (fr k body)[2 + q]?.getD 0#8 = (num (sum (k :: body)))[2 + q - (body.length + 1 + 2)]?.getD 0#8 := by
      rw [← hd, List.getElem?_drop, show body.length + 1 + 2 + (2 + q - (body.length + 1 + 2)) = 2 + q by omega]
    rw [hc]
    intro he
    refine num2_turn (num (sum (k :: body))) (2 + q - (body.length + 1 + 2)) (by simp [num_len]) (by omega) ((num (sum (k :: body)))[2 + q - (body.length + 1 + 2)]?.getD 0#8 ^^^ x) (xor_ne_self _ _ hx) ?_
    rw [← he, hs]

end Go.Proofs.Ytfmombbembiagaa.Fr
