/- Where the next sign stands: the plain mathematics of layer 7. No program is named here. -/
namespace Go.Proofs.Ytfehlmoghibamaa.Sp

/-- a column, a row, and how many bytes of a sequence came (0, 1: Escape, 2: Escape and a bracket), of lines of w columns -/
structure Sp where
  w : Int
  c : Int
  r : Int
  q : Int

/-- what a byte does behind Escape and a bracket -/
def way (s : Sp) (x : Nat) : Sp :=
  if x = 65 then (if 0 < s.r then { s with r := s.r - 1 } else s)
  else if x = 66 then { s with r := s.r + 1 }
  else if x = 67 then (if s.c < s.w - 1 then { s with c := s.c + 1 } else s)
  else if x = 68 then (if 0 < s.c then { s with c := s.c - 1 } else s)
  else s

/-- what a byte does that belongs to no sequence -/
def lone (s : Sp) (x : Nat) : Sp :=
  if x = 27 then { s with q := 1 }
  else if x = 13 then { s with c := 0 }
  else if x = 10 then { s with r := s.r + 1 }
  else if x = 8 then (if 0 < s.c then { s with c := s.c - 1 } else s)
  else if x = 9 then (if s.w - 1 < s.c / 8 * 8 + 8 then { s with c := s.w - 1 } else { s with c := s.c / 8 * 8 + 8 })
  else if x < 32 ∨ x = 127 then s
  else if s.c + 1 < s.w then { s with c := s.c + 1 }
  else { s with c := 0, r := s.r + 1 }

/-- what a byte does -/
def nxt (s : Sp) (x : Nat) : Sp :=
  if s.q = 1 then { s with q := if x = 91 then 2 else 0 }
  else if s.q = 2 then way { s with q := 0 } x
  else lone s x

/-- what bytes do -/
def nxts (s : Sp) (l : List (BitVec 8)) : Sp := l.foldl (fun s x => nxt s x.toNat) s

/-- within the bounds: behind n bytes -/
structure Ok (s : Sp) (n : Nat) : Prop where
  w0 : 1 ≤ s.w
  w1 : s.w ≤ 500
  c0 : 0 ≤ s.c
  c1 : s.c < s.w
  r0 : 0 ≤ s.r
  r1 : s.r ≤ n
  q0 : s.q = 0 ∨ s.q = 1 ∨ s.q = 2

theorem Ok.start {w : Int} (h0 : 1 ≤ w) (h1 : w ≤ 500) : Ok ⟨w, 0, 0, 0⟩ 0 :=
  ⟨h0, h1, Int.le_refl _, by show (0 : Int) < w; omega, Int.le_refl _, Int.le_refl _, .inl rfl⟩

theorem Ok.mk' {w c r q : Int} {n : Nat} (w0 : 1 ≤ w) (w1 : w ≤ 500) (c0 : 0 ≤ c) (c1 : c < w) (r0 : 0 ≤ r) (r1 : r ≤ n) (q0 : q = 0 ∨ q = 1 ∨ q = 2) : Ok ⟨w, c, r, q⟩ n := ⟨w0, w1, c0, c1, r0, r1, q0⟩

theorem Ok.way {s : Sp} {n : Nat} (h : Ok s n) (x : Nat) : Ok (way s x) (n + 1) := by
  obtain ⟨w, c, r, q⟩ := s
  obtain ⟨w0, w1, c0, c1, r0, r1, q0⟩ := h
  simp only at w0 w1 c0 c1 r0 r1 q0
  unfold Sp.way
  simp only
  (repeat' split) <;> exact Ok.mk' (by omega) (by omega) (by omega) (by omega) (by omega) (by omega) (by omega)

theorem Ok.lone {s : Sp} {n : Nat} (h : Ok s n) (x : Nat) : Ok (lone s x) (n + 1) := by
  obtain ⟨w, c, r, q⟩ := s
  obtain ⟨w0, w1, c0, c1, r0, r1, q0⟩ := h
  simp only at w0 w1 c0 c1 r0 r1 q0
  unfold Sp.lone
  simp only
  (repeat' split) <;> exact Ok.mk' (by omega) (by omega) (by omega) (by omega) (by omega) (by omega) (by omega)

theorem Ok.nxt {s : Sp} {n : Nat} (h : Ok s n) (x : Nat) : Ok (nxt s x) (n + 1) := by
  unfold Sp.nxt
  split
  · obtain ⟨w0, w1, c0, c1, r0, r1, q0⟩ := h
    split
    · exact Ok.mk' w0 w1 c0 c1 r0 (by omega) (by omega)
    · exact Ok.mk' w0 w1 c0 c1 r0 (by omega) (by omega)
  split
  · obtain ⟨w0, w1, c0, c1, r0, r1, q0⟩ := h
    exact Ok.way (Ok.mk' w0 w1 c0 c1 r0 r1 (by omega)) x
  · exact h.lone x

theorem nxt_w (s : Sp) (x : Nat) : (nxt s x).w = s.w := by
  unfold nxt way lone
  (repeat' split) <;> rfl

theorem nxts_w (s : Sp) (l : List (BitVec 8)) : (nxts s l).w = s.w := by
  unfold nxts
  induction l generalizing s with
  | nil => rfl
  | cons a l ih => rw [List.foldl_cons, ih, nxt_w]

theorem nxts_snoc (s : Sp) (l : List (BitVec 8)) (a : BitVec 8) : nxts s (l ++ [a]) = nxt (nxts s l) a.toNat := by
  unfold nxts
  rw [List.foldl_append]
  rfl

theorem nxts_app (s : Sp) (l m : List (BitVec 8)) : nxts s (l ++ m) = nxts (nxts s l) m := by
  unfold nxts
  rw [List.foldl_append]

theorem Ok.nxts {s : Sp} {n : Nat} (h : Ok s n) (l : List (BitVec 8)) : Ok (Sp.nxts s l) (n + l.length) := by
  unfold Sp.nxts
  induction l generalizing s n with
  | nil => exact h
  | cons a l ih =>
    rw [List.foldl_cons, List.length_cons, show n + (l.length + 1) = n + 1 + l.length by omega]
    exact ih (h.nxt a.toNat)

end Go.Proofs.Ytfehlmoghibamaa.Sp
