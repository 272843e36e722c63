
/- A table by itself, and beside law 10's model; what the head of layer 10's laws answers. -/
import Derived.Test.YtanloclkbdameaaFon
import Derived.Test.YtanloclkbdameaaFoi
namespace Go.Proofs.Ytanloclkbdameaa
open Go.RowKit

/-- a table of the call's own -/
structure TB (base : Nat) (w0 w : World) (F : Nat → Prop) (g : Nat) (s : Fl) : Prop where
  tab : TabIs F g w s
  bel : Below base w0 w
  fl : ∀ b, F b → base ≤ b
  hs : base ≤ w.heap.size

/-- .. beside a model -/
structure TM (base : Nat) (w0 w : World) (F : Nat → Prop) (g : Nat) (s : Fl) (M : Nat → Prop) (gm : Nat) (z : Fl) : Prop where
  tb : TB base w0 w F g s
  md : Md M gm w z
  ap : ∀ b, F b → ¬ M b
  ml : ∀ b, M b → base ≤ b

section
variable {base g gm N : Nat} {w0 w w' : World} {F M : Nat → Prop} {s z : Fl}

theorem TB.step (h : TB base w0 w F g s) {s2 : Fl} {v : Value} {e : Ending} (hg : TGives F g w s2 v e w') : ∃ F2, e = .returned v ∧ TB base w0 w' F2 g s2 ∧ Only F w w' ∧ ∀ b, F2 b → F b ∨ w.heap.size ≤ b := by
  obtain ⟨F2, rfl, h1, h2, h3⟩ := hg
  refine ⟨F2, rfl, ⟨h1, only_self h.bel h.hs h3 h.fl, fun b hb => ?_, Nat.le_trans h.hs h3.size⟩, h3, h2⟩
  rcases h2 b hb with h4 | h4
  · exact h.fl b h4
  · exact Nat.le_trans h.hs h4

theorem TB.lstep (h : TB base w0 w F g s) {l : List Int} {e : Ending} (hg : LGives F g w s l e w') :
    ∃ F2 a n c, e = .returned (.slice a n c) ∧ TB base w0 w' F2 g s ∧ Only F w w' ∧ (∀ b, F2 b → F b ∨ w.heap.size ≤ b) ∧ Vals w' w'.heap.size a n (ints l) ∧ n ≤ c ∧ ∀ b, 0 < n → In a b → w.heap.size ≤ b ∧ ¬ F2 b := by
  obtain ⟨F2, a, n, c, rfl, h1, h2, h3, h4, h5, h6⟩ := hg
  refine ⟨F2, a, n, c, rfl, ⟨h1, only_self h.bel h.hs h3 h.fl, fun b hb => ?_, Nat.le_trans h.hs h3.size⟩, h3, h2, h4, h5, h6⟩
  rcases h2 b hb with h4 | h4
  · exact h.fl b h4
  · exact Nat.le_trans h.hs h4

/-- something else was done to other blocks of the call's own -/
theorem TB.keep {S : Nat → Prop} (h : TB base w0 w F g s) (hO : Only S w w') (hS : ∀ b, F b → ¬ S b) (hb : ∀ b, S b → b < w.heap.size → base ≤ b) : TB base w0 w' F g s :=
  ⟨h.tab.keep hO hS, Below.trans h.bel (hO.below h.hs (fun k hk hS' => by have := hb k hS' (Nat.lt_of_lt_of_le hk h.hs); omega)), h.fl, Nat.le_trans h.hs hO.size⟩

theorem TB.drewN (h : TB base w0 w F g s) (m : Nat) : TB base w0 (w.drewN m) F g s := h.keep ((Only.refl (fun _ => False) w).drewN m) (fun _ _ h => h) (fun _ h => h.elim)

theorem TB.new (hb : Below base w0 w) (hs : base ≤ w.heap.size) (h : TabIs F g w' s) (hF : ∀ b, F b → w.heap.size ≤ b) (h2 : Below w.heap.size w w') : TB base w0 w' F g s :=
  ⟨h, Below.trans hb (h2.mono hs), fun b hB => Nat.le_trans hs (hF b hB), Nat.le_trans hs h2.size⟩

theorem TM.step (h : TM base w0 w F g s M gm z) {s2 : Fl} {v : Value} {e : Ending} (hg : TGives F g w s2 v e w') : ∃ F2, e = .returned v ∧ TM base w0 w' F2 g s2 M gm z ∧ Only F w w' := by
  obtain ⟨F2, he, h1, h2, h3⟩ := h.tb.step hg
  refine ⟨F2, he, ⟨h1, h.md.keep h2 (fun b hM hF => h.ap b hF hM), fun b hb hM => ?_, h.ml⟩, h2⟩
  rcases h3 b hb with h4 | h4
  · exact h.ap b h4 hM
  · have := h.md.lt b hM; omega

theorem TM.lstep (h : TM base w0 w F g s M gm z) {l : List Int} {e : Ending} (hg : LGives F g w s l e w') :
    ∃ F2 a n c, e = .returned (.slice a n c) ∧ TM base w0 w' F2 g s M gm z ∧ Only F w w' ∧ (∀ b, F2 b → F b ∨ w.heap.size ≤ b) ∧ Vals w' w'.heap.size a n (ints l) ∧ n ≤ c ∧ ∀ b, 0 < n → In a b → w.heap.size ≤ b ∧ ¬ F2 b ∧ ¬ M b := by
  obtain ⟨F2, a, n, c, he, h1, h2, h3, h4, h5, h6⟩ := h.tb.lstep hg
  refine ⟨F2, a, n, c, he, ⟨h1, h.md.keep h2 (fun b hM hF => h.ap b hF hM), fun b hb hM => ?_, h.ml⟩, h2, h3, h4, h5, fun b hn hb => ⟨(h6 b hn hb).1, (h6 b hn hb).2, fun hM => ?_⟩⟩
  · rcases h3 b hb with h4 | h4
    · exact h.ap b h4 hM
    · have := h.md.lt b hM; omega
  · have := h.md.lt b hM; have := (h6 b hn hb).1; omega

theorem TM.mstep (h : TM base w0 w F g s M gm z) {z2 : Fl} {v : Value} {e : Ending} (hg : MdGives M gm w z2 v e w') : ∃ M2, e = .returned v ∧ TM base w0 w' F g s M2 gm z2 ∧ Only M w w' := by
  obtain ⟨M2, rfl, h1, h2, h3⟩ := hg
  refine ⟨M2, rfl, ⟨h.tb.keep h3 h.ap (fun b hM _ => h.ml b hM), h1, fun b hb hM => ?_, fun b hb => ?_⟩, h3⟩
  · rcases h2 b hM with h4 | h4
    · exact h.ap b hb h4
    · have := h.tb.tab.lt b hb; omega
  · rcases h2 b hb with h4 | h4
    · exact h.ml b h4
    · exact Nat.le_trans h.tb.hs h4

theorem TM.drewN (h : TM base w0 w F g s M gm z) (m : Nat) : TM base w0 (w.drewN m) F g s M gm z :=
  ⟨h.tb.drewN m, h.md.keep ((Only.refl (fun _ => False) w).drewN m) (fun _ _ h => h), h.ap, h.ml⟩

theorem TM.drew (h : TM base w0 w F g s M gm z) : TM base w0 w.drew F g s M gm z :=
  ⟨h.tb.keep ((Only.refl (fun _ => False) w).drew) (fun _ _ h => h) (fun _ h => h.elim), h.md.keep ((Only.refl (fun _ => False) w).drew) (fun _ _ h => h), h.ap, h.ml⟩

theorem TM.alloc (h : TM base w0 w F g s M gm z) (o : Obj) : TM base w0 (w.alloc o) F g s M gm z :=
  ⟨h.tb.keep ((Only.refl (fun _ => False) w).alloc o) (fun _ _ h => h) (fun _ h => h.elim), h.md.keep ((Only.refl (fun _ => False) w).alloc o) (fun _ _ h => h), h.ap, h.ml⟩

theorem TB.drew (h : TB base w0 w F g s) : TB base w0 w.drew F g s := h.keep ((Only.refl (fun _ => False) w).drew) (fun _ _ h => h) (fun _ h => h.elim)

theorem TB.alloc (h : TB base w0 w F g s) (o : Obj) : TB base w0 (w.alloc o) F g s := h.keep ((Only.refl (fun _ => False) w).alloc o) (fun _ _ h => h) (fun _ h => h.elim)

theorem TM.keep {S : Nat → Prop} (h : TM base w0 w F g s M gm z) (hO : Only S w w') (hS : ∀ b, F b → ¬ S b) (hS2 : ∀ b, M b → ¬ S b) (hb : ∀ b, S b → b < w.heap.size → base ≤ b) : TM base w0 w' F g s M gm z :=
  ⟨h.tb.keep hO hS hb, h.md.keep hO hS2, h.ap, h.ml⟩
end

end Go.Proofs.Ytanloclkbdameaa
