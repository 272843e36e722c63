/- Frames of bytes that come by and by: the plain mathematics of layer 4. No program is named here. -/
import Derived.Test.YtlifnjihnppckaaFr
namespace Go.Proofs.Ytlifnjihnppckaa.Fr

/-- of bytes these frames are told, one behind the other; r is left, with which no frame begins -/
def Tells : Bs → List (BitVec 8 × Bs) → Bs → Prop
  | l, [], r => l = r ∧ err l ≠ 0
  | l, f :: fs, r => err l = 0 ∧ f = ((get l).k, (get l).body) ∧ Tells (l.drop (get l).n) fs r

theorem Tells.stop (l : Bs) (h : err l ≠ 0) : Tells l [] l := ⟨rfl, h⟩
theorem Tells.next (l : Bs) (h : err l = 0) (fs : List (BitVec 8 × Bs)) (r : Bs) (t : Tells (l.drop (get l).n) fs r) : Tells l (((get l).k, (get l).body) :: fs) r := ⟨h, rfl, t⟩

theorem tells_stop {l r : Bs} {fs : List (BitVec 8 × Bs)} (h : Tells l fs r) (he : err l ≠ 0) : fs = [] ∧ r = l := by
  cases fs with
  | nil => exact ⟨rfl, h.1.symm⟩
  | cons f fs => exact absurd h.1 he

theorem tells_next {l r : Bs} {fs : List (BitVec 8 × Bs)} (h : Tells l fs r) (he : err l = 0) : ∃ gs, fs = ((get l).k, (get l).body) :: gs ∧ Tells (l.drop (get l).n) gs r := by
  cases fs with
  | nil => exact absurd he h.2
  | cons f fs => exact ⟨fs, by rw [h.2.1], h.2.2⟩

theorem err_zero {l : Bs} (h : err l = 0) : 2 ≤ l.length ∧ 0 < num2 l ∧ num2 l ≤ 2049 ∧ num2 l + 4 ≤ l.length ∧ sum ((l.drop 2).take (num2 l)) = num2 (l.drop (num2 l + 2)) := by
  by_cases h1 : l.length < 2
  · rw [err_short h1] at h; omega
  by_cases h2 : num2 l = 0 ∨ 2049 < num2 l
  · rw [err_long (by omega) h2] at h; omega
  by_cases h3 : l.length < num2 l + 4
  · rw [err_cut (by omega) (by omega) (by omega) h3] at h; omega
  by_cases h4 : sum ((l.drop 2).take (num2 l)) = num2 (l.drop (num2 l + 2))
  · exact ⟨by omega, by omega, by omega, by omega, h4⟩
  · rw [err_sum (by omega) (by omega) (by omega) h4] at h; omega

theorem get_n {l : Bs} (h : err l = 0) : (get l).n = num2 l + 4 := by rw [get_yes h]

theorem get_n5 {l : Bs} (h : err l = 0) : 5 ≤ (get l).n ∧ (get l).n ≤ l.length := by
  obtain ⟨_, h1, h2, h3, _⟩ := err_zero h
  rw [get_n h]
  omega

theorem get_body_len {l : Bs} (h : err l = 0) : (get l).body.length + 5 = (get l).n := by
  obtain ⟨_, h1, h2, h3, _⟩ := err_zero h
  rw [get_yes h]
  simp
  omega

theorem Tells.left {r : Bs} : ∀ {fs : List (BitVec 8 × Bs)} {l : Bs}, Tells l fs r → err r ≠ 0
  | [], _, h => by rw [← h.1]; exact h.2
  | _ :: _, _, h => Tells.left h.2.2

theorem Tells.short {r : Bs} : ∀ {fs : List (BitVec 8 × Bs)} {l : Bs}, Tells l fs r → r.length + 5 * fs.length ≤ l.length
  | [], _, h => by rw [h.1]; simp
  | _ :: fs, l, h => by
    have h1 := Tells.short h.2.2
    have h2 := get_n5 h.1
    simp at h1 ⊢
    omega

theorem Tells.one {r r' : Bs} : ∀ {fs fs' : List (BitVec 8 × Bs)} {l : Bs}, Tells l fs r → Tells l fs' r' → fs = fs' ∧ r = r'
  | [], _, _, h, h' => by
    obtain ⟨h1, h2⟩ := tells_stop h' h.2
    exact ⟨h1.symm, by rw [h2, h.1]⟩
  | f :: fs, fs', l, h, h' => by
    obtain ⟨gs, h1, h2⟩ := tells_next h' h.1
    obtain ⟨h3, h4⟩ := Tells.one h.2.2 h2
    rw [h1, h3, h.2.1]
    exact ⟨rfl, h4⟩

theorem tells_all (l : Bs) : ∃ fs r, Tells l fs r := by
  generalize hn : l.length = n
  induction n using Nat.strongRecOn generalizing l with
  | _ n ih =>
    by_cases h : err l = 0
    · have h5 := get_n5 h
      obtain ⟨fs, r, t⟩ := ih (l.drop (get l).n).length (by simp; omega) (l.drop (get l).n) rfl
      exact ⟨_, _, .next l h fs r t⟩
    · exact ⟨[], l, .stop l h⟩

theorem num2_app (l m : Bs) (h : 2 ≤ l.length) : num2 (l ++ m) = num2 l := by
  unfold num2
  rw [List.getElem?_append_left (by omega), List.getElem?_append_left (by omega)]

/-- more bytes behind leave the frame with which others begin -/
theorem err_app {l : Bs} (h : err l = 0) (m : Bs) : err (l ++ m) = 0 := by
  obtain ⟨h0, h1, h2, h3, h4⟩ := err_zero h
  have hn := num2_app l m h0
  refine err_ok (by omega) (by omega) (by rw [hn, List.length_append]; omega) ?_
  rw [hn, List.drop_append_of_le_length (by omega), List.take_append_of_le_length (by simp; omega), List.drop_append_of_le_length (by omega), num2_app _ _ (by simp; omega)]
  exact h4

theorem get_app {l : Bs} (h : err l = 0) (m : Bs) : get (l ++ m) = get l := by
  obtain ⟨h0, h1, h2, h3, h4⟩ := err_zero h
  have hn := num2_app l m h0
  rw [get_yes h, get_yes (err_app h m), hn, List.getElem?_append_left (by omega), List.drop_append_of_le_length (by omega), List.take_append_of_le_length (by simp; omega)]

theorem Tells.more {r : Bs} (m : Bs) {fs2 : List (BitVec 8 × Bs)} {r2 : Bs} (h2 : Tells (r ++ m) fs2 r2) : ∀ {fs : List (BitVec 8 × Bs)} {l : Bs}, Tells l fs r → Tells (l ++ m) (fs ++ fs2) r2
  | [], _, h => by rw [h.1]; exact h2
  | f :: fs, l, h => by
    have h5 := get_n5 h.1
    have hg := get_app h.1 m
    have h3 := Tells.more m h2 h.2.2
    rw [← List.drop_append_of_le_length h5.2, ← hg] at h3
    have h6 := Tells.next (l ++ m) (err_app h.1 m) _ _ h3
    rw [hg] at h6
    rw [h.2.1]
    exact h6

/-- the frames' bytes, one behind the other -/
def cats : List (BitVec 8 × Bs) → Bs
  | [] => []
  | f :: fs => fr f.1 f.2 ++ cats fs

theorem err_fr (k : BitVec 8) (body r : Bs) (hb : body.length ≤ 2048) : err (fr k body ++ r) = 0 := by
  have hg := get_fr k body r hb
  by_cases h : err (fr k body ++ r) = 0
  · exact h
  · rw [get_no rfl h] at hg
    have := congrArg Got.n hg
    simp at this

theorem tells_frames : ∀ (fs : List (BitVec 8 × Bs)) (m : Bs), (∀ f ∈ fs, f.2.length ≤ 2048) → err m ≠ 0 → Tells (cats fs ++ m) fs m
  | [], m, _, h => .stop m h
  | f :: fs, m, hb, h => by
    have h1 := hb f (List.mem_cons_self ..)
    have hg := get_fr f.1 f.2 (cats fs ++ m) h1
    have ht := tells_frames fs m (fun f hf => hb f (List.mem_cons_of_mem _ hf)) h
    have he := err_fr f.1 f.2 (cats fs ++ m) h1
    have hd : (fr f.1 f.2 ++ (cats fs ++ m)).drop (get (fr f.1 f.2 ++ (cats fs ++ m))).n = cats fs ++ m := by
      rw [hg, List.drop_left' (by rw [fr_len])]
    have hn := Tells.next _ he fs m (by rw [hd]; exact ht)
    rw [hg] at hn
    simpa [cats] using hn

theorem cats_app (fs gs : List (BitVec 8 × Bs)) : cats (fs ++ gs) = cats fs ++ cats gs := by
  induction fs with
  | nil => rfl
  | cons f fs ih => simp [cats, ih]

theorem err_nil : err [] = 5 := err_short (by simp)

theorem err_or (l : Bs) : err l = 0 ∨ err l = 5 ∨ err l = 6 ∨ err l = 7 := by
  unfold err
  split
  · exact .inr (.inl rfl)
  · split
    · exact .inr (.inr (.inl rfl))
    · split
      · exact .inr (.inl rfl)
      · split
        · exact .inr (.inr (.inr rfl))
        · exact .inl rfl

/-- what is kept of what is left, and by what it is broken -/
def keep (r : Bs) : Bs := if err r = 5 then r else []
def broke (r : Bs) : Nat := if err r = 5 then 0 else err r

theorem keep_short {r : Bs} (h : err r = 5) : keep r = r ∧ broke r = 0 := by unfold keep broke; rw [if_pos h, if_pos h]; exact ⟨rfl, rfl⟩
theorem keep_else {r : Bs} (h : err r ≠ 5) : keep r = [] ∧ broke r = err r := by unfold keep broke; rw [if_neg h, if_neg h]; exact ⟨rfl, rfl⟩
theorem broke_zero {r : Bs} (h : err r ≠ 0) : broke r = 0 ↔ err r = 5 := by
  unfold broke
  split
  · simp [*]
  · simp [*]

/-- more bytes behind leave why there is none, but for too few -/
theorem err_app_else {l : Bs} (h0 : err l ≠ 0) (h5 : err l ≠ 5) (m : Bs) : err (l ++ m) = err l := by
  by_cases h1 : l.length < 2
  · exact absurd (err_short h1) h5
  have hn := num2_app l m (by omega)
  by_cases h2 : num2 l = 0 ∨ 2049 < num2 l
  · rw [err_long (by omega) h2, err_long (by rw [List.length_append]; omega) (by rw [hn]; exact h2)]
  by_cases h3 : l.length < num2 l + 4
  · exact absurd (err_cut (by omega) (by omega) (by omega) h3) h5
  by_cases h4 : sum ((l.drop 2).take (num2 l)) = num2 (l.drop (num2 l + 2))
  · exact absurd (err_ok (by omega) (by omega) (by omega) h4) h0
  · rw [err_sum (by omega) (by omega) (by omega) h4]
    refine err_sum (by omega) (by omega) (by rw [hn, List.length_append]; omega) ?_
    rw [hn, List.drop_append_of_le_length (by omega), List.take_append_of_le_length (by simp; omega), List.drop_append_of_le_length (by omega), num2_app _ _ (by simp; omega)]
    exact h4

/-- of the beginning of bytes of which all is told there is too little left, at most -/
theorem Tells.begin {X q l : Bs} {gs fs : List (BitVec 8 × Bs)} (h : Tells X gs l) (ht : Tells (X ++ q) fs []) : err l = 5 := by
  by_cases h5 : err l = 5
  · exact h5
  · have h6 := err_app_else h.left h5 q
    have h7 := Tells.more q (.stop (l ++ q) (by rw [h6]; exact h.left)) h
    have h8 := (h7.one ht).2
    have h9 : l = [] := (List.append_eq_nil_iff.1 h8).1
    rw [h9] at h5
    exact absurd err_nil h5

end Go.Proofs.Ytlifnjihnppckaa.Fr
