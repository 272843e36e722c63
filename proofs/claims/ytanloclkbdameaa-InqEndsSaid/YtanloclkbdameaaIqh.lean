/- A table and a queue of keystrokes side by side, with and without a model of the table; what the head of layer 11's laws answers. -/
import Derived.Test.YtanloclkbdameaaIq
import Derived.Lib.SlBytesConst
namespace Go.Proofs.Ytanloclkbdameaa
open Go.RowKit

/-- a table and a queue of the call's own -/
structure TQ (base : Nat) (w0 w : World) (F : Nat → Prop) (gt : Nat) (s : Fl) (G : Nat → Prop) (R : List Value) (g size : Nat) (l : Bs) : Prop where
  tb : TB base w0 w F gt s
  qu : QuIs G R w g size l
  ap : ∀ b, F b → ¬ G b
  gl : ∀ b, G b → base ≤ b

/-- .. and a model -/
structure TQM (base : Nat) (w0 w : World) (F : Nat → Prop) (gt : Nat) (s : Fl) (G : Nat → Prop) (R : List Value) (g size : Nat) (l : Bs) (M : Nat → Prop) (gm : Nat) (z : Fl) : Prop where
  tq : TQ base w0 w F gt s G R g size l
  md : Md M gm w z
  a2 : ∀ b, F b → ¬ M b
  a3 : ∀ b, G b → ¬ M b
  ml : ∀ b, M b → base ≤ b

section
variable {base gt g size gm : Nat} {w0 w w' : World} {F G M S : Nat → Prop} {R : List Value} {l : Bs} {s z : Fl}

theorem TQ.keep (h : TQ base w0 w F gt s G R g size l) (hO : Only S w w') (hF : ∀ b, F b → ¬ S b) (hG : ∀ b, G b → ¬ S b) (hb : ∀ b, S b → b < w.heap.size → base ≤ b) : TQ base w0 w' F gt s G R g size l :=
  ⟨h.tb.keep hO hF hb, h.qu.keep hO hG, h.ap, h.gl⟩

theorem TQ.drewN (h : TQ base w0 w F gt s G R g size l) (n : Nat) : TQ base w0 (w.drewN n) F gt s G R g size l :=
  h.keep ((Only.refl (fun _ => False) w).drewN n) (fun _ _ h => h) (fun _ _ h => h) (fun _ h => h.elim)
theorem TQ.drew (h : TQ base w0 w F gt s G R g size l) : TQ base w0 w.drew F gt s G R g size l :=
  h.keep ((Only.refl (fun _ => False) w).drew) (fun _ _ h => h) (fun _ _ h => h) (fun _ h => h.elim)
theorem TQ.alloc (h : TQ base w0 w F gt s G R g size l) (o : Obj) : TQ base w0 (w.alloc o) F gt s G R g size l :=
  h.keep ((Only.refl (fun _ => False) w).alloc o) (fun _ _ h => h) (fun _ _ h => h) (fun _ h => h.elim)
theorem TQ.below (h : TQ base w0 w F gt s G R g size l) (hb : Below w.heap.size w w') : TQ base w0 w' F gt s G R g size l :=
  h.keep (only_of_below hb) (fun _ _ h => h) (fun _ _ h => h) (fun _ h => h.elim)

/-- the table was turned -/
theorem TQ.t (h : TQ base w0 w F gt s G R g size l) {s2 : Fl} {v : Value} {e : Ending} (hg : TGives F gt w s2 v e w') :
    ∃ F2, e = .returned v ∧ TQ base w0 w' F2 gt s2 G R g size l ∧ Only F w w' ∧ ∀ b, F2 b → F b ∨ w.heap.size ≤ b := by
  obtain ⟨F2, he, h1, h2, h3⟩ := h.tb.step hg
  refine ⟨F2, he, ⟨h1, h.qu.keep h2 (fun b hG hF => h.ap b hF hG), fun b hb hG => ?_, h.gl⟩, h2, h3⟩
  rcases h3 b hb with h4 | h4
  · exact h.ap b h4 hG
  · have := h.qu.lt b hG; omega

/-- the queue was turned -/
theorem TQ.q (h : TQ base w0 w F gt s G R g size l) {R2 : List Value} {size2 : Nat} {l2 : Bs} {v : Value} {e : Ending} (hg : QGives G g w R2 size2 l2 v e w') :
    ∃ G2, e = .returned v ∧ TQ base w0 w' F gt s G2 R2 g size2 l2 ∧ Only G w w' ∧ ∀ b, G2 b → G b ∨ w.heap.size ≤ b := by
  obtain ⟨G2, he, h1, h2, h3⟩ := hg
  refine ⟨G2, he, ⟨h.tb.keep h3 h.ap (fun b hG _ => h.gl b hG), h1, fun b hb hG => ?_, fun b hb => ?_⟩, h3, h2⟩
  · rcases h2 b hG with h4 | h4
    · exact h.ap b hb h4
    · have := h.tb.tab.lt b hb; omega
  · rcases h2 b hb with h4 | h4
    · exact h.gl b h4
    · exact Nat.le_trans h.tb.hs h4

theorem TQ.made (h : TB base w0 w F gt s) (hq : QuIs G R w' g size l) (hG : ∀ b, G b → w.heap.size ≤ b) (hb : Below w.heap.size w w') : TQ base w0 w' F gt s G R g size l :=
  ⟨h.keep (only_of_below hb) (fun _ _ h => h) (fun _ h => h.elim), hq, fun b hF hGb => by have := h.tab.lt b hF; have := hG b hGb; omega, fun b hGb => Nat.le_trans h.hs (hG b hGb)⟩

theorem TQM.keep (h : TQM base w0 w F gt s G R g size l M gm z) (hO : Only S w w') (hF : ∀ b, F b → ¬ S b) (hG : ∀ b, G b → ¬ S b) (hM : ∀ b, M b → ¬ S b) (hb : ∀ b, S b → b < w.heap.size → base ≤ b) : TQM base w0 w' F gt s G R g size l M gm z :=
  ⟨h.tq.keep hO hF hG hb, h.md.keep hO hM, h.a2, h.a3, h.ml⟩
theorem TQM.drewN (h : TQM base w0 w F gt s G R g size l M gm z) (n : Nat) : TQM base w0 (w.drewN n) F gt s G R g size l M gm z :=
  h.keep ((Only.refl (fun _ => False) w).drewN n) (fun _ _ h => h) (fun _ _ h => h) (fun _ _ h => h) (fun _ h => h.elim)
theorem TQM.drew (h : TQM base w0 w F gt s G R g size l M gm z) : TQM base w0 w.drew F gt s G R g size l M gm z :=
  h.keep ((Only.refl (fun _ => False) w).drew) (fun _ _ h => h) (fun _ _ h => h) (fun _ _ h => h) (fun _ h => h.elim)
theorem TQM.alloc (h : TQM base w0 w F gt s G R g size l M gm z) (o : Obj) : TQM base w0 (w.alloc o) F gt s G R g size l M gm z :=
  h.keep ((Only.refl (fun _ => False) w).alloc o) (fun _ _ h => h) (fun _ _ h => h) (fun _ _ h => h) (fun _ h => h.elim)

theorem TQM.t (h : TQM base w0 w F gt s G R g size l M gm z) {s2 : Fl} {v : Value} {e : Ending} (hg : TGives F gt w s2 v e w') :
    ∃ F2, e = .returned v ∧ TQM base w0 w' F2 gt s2 G R g size l M gm z ∧ Only F w w' := by
  obtain ⟨F2, he, h1, h2, h3⟩ := h.tq.t hg
  refine ⟨F2, he, ⟨h1, h.md.keep h2 (fun b hM hF => h.a2 b hF hM), fun b hb hM => ?_, h.a3, h.ml⟩, h2⟩
  rcases h3 b hb with h4 | h4
  · exact h.a2 b h4 hM
  · have := h.md.lt b hM; omega

theorem TQM.q (h : TQM base w0 w F gt s G R g size l M gm z) {R2 : List Value} {size2 : Nat} {l2 : Bs} {v : Value} {e : Ending} (hg : QGives G g w R2 size2 l2 v e w') :
    ∃ G2, e = .returned v ∧ TQM base w0 w' F gt s G2 R2 g size2 l2 M gm z ∧ Only G w w' := by
  obtain ⟨G2, he, h1, h2, h3⟩ := h.tq.q hg
  refine ⟨G2, he, ⟨h1, h.md.keep h2 (fun b hM hG => h.a3 b hG hM), h.a2, fun b hb hM => ?_, h.ml⟩, h2⟩
  rcases h3 b hb with h4 | h4
  · exact h.a3 b h4 hM
  · have := h.md.lt b hM; omega

theorem TQM.m (h : TQM base w0 w F gt s G R g size l M gm z) {z2 : Fl} {v : Value} {e : Ending} (hg : MdGives M gm w z2 v e w') :
    ∃ M2, e = .returned v ∧ TQM base w0 w' F gt s G R g size l M2 gm z2 ∧ Only M w w' := by
  obtain ⟨M2, rfl, h1, h2, h3⟩ := hg
  refine ⟨M2, rfl, ⟨h.tq.keep h3 h.a2 h.a3 (fun b hM _ => h.ml b hM), h1, fun b hb hM => ?_, fun b hb hM => ?_, fun b hb => ?_⟩, h3⟩
  · rcases h2 b hM with h4 | h4
    · exact h.a2 b hb h4
    · have := h.tq.tb.tab.lt b hb; omega
  · rcases h2 b hM with h4 | h4
    · exact h.a3 b hb h4
    · have := h.tq.qu.lt b hb; omega
  · rcases h2 b hb with h4 | h4
    · exact h.ml b h4
    · exact Nat.le_trans h.tq.tb.hs h4
end

theorem lit_bytes (w : World) (C : Array Value) (fr : Nat × Nat) (l : Bs) (n : Nat) (hn : n = l.length) (hC : C = (l.map by8).toArray) : Bytes (w.alloc (.cells C 5 fr)) (w.heap.size + 1) (some ⟨w.heap.size, 0, none⟩) n l := by
  subst hC hn
  refine ⟨rfl, fun _ => ⟨_, 0, rfl, by omega, fun i hi => ?_⟩⟩
  rw [cell_of_row _ _ _ _ _ _ (heap_alloc_new _ _), Nat.zero_add]
  simp [by8, List.getElem?_eq_getElem hi]

theorem ihead_any (w : World) : Calls Try.prog 9 #[] w fun e w' => e = .returned (.bool true) ∧ Below w.heap.size w w' := by
  have kc := fun (w : World) (C : Array Value) (n c : Nat) => Lib.run_convert_bytes_const (P := Try.prog) w 24 5 C n c Try.underlying24 Try.underlying5
  go_enter Try.func9, Try.ntmps9
  go_wp2_with fail
  refine (tnew_any 5 w).mono ?_
  rintro e w1 ⟨F, gt, rfl, ht, hF, hb1⟩
  have H1 := Lib.hid (TB.new (Below.refl w.heap.size w) (Nat.le_refl _) ht hF hb1)
  have k0 : FOk 0 (fnew 5) := fok_new 5
  have k1 := k0.join (id := 1) 1 (by decide)
  have k2 := k1.ask 1
  have e1 : joins (fnew 5) 1 1 = true := rfl
  have e2 : askE (fjoin (fnew 5) 1 1) 1 = 0 := rfl
  have e3 : whyE false (fask (fjoin (fnew 5) 1 1) 1) 1 = 0 := rfl
  have K := Lib.hid (And.intro k0 (And.intro k1 k2))
  have E := Lib.hid (And.intro e1 (And.intro e2 e3))
  clear k0 k1 k2 e1 e2 e3 ht hF hb1
  go_wp2_with fail
  refine (iq_new 4 w1).mono ?_
  rintro e w2 ⟨g, G, rfl, hq, hG, hb2⟩
  rw [show sizeOf' 4 = 4 from rfl] at hq
  have H2 := Lib.hid (TQ.made H1.out hq hG hb2)
  clear hq hG hb2 H1
  go_wp2_with fail
  refine (tjoin_any H2.out.tb.tab (K.out.1) (by decide) 1 1 (by decide) (by decide)).mono ?_
  intro e w3 hg
  rw [E.out.1] at hg
  obtain ⟨F3, rfl, h3, _⟩ := H2.out.t hg
  have H3 := Lib.hid h3
  clear hg h3 H2
  go_wp2_with fail
  refine (task_any H3.out.tb.tab (K.out.2.1) (by decide) 1 (by decide)).mono ?_
  intro e w4 hg
  rw [E.out.2.1] at hg
  obtain ⟨F4, rfl, h4, _⟩ := H3.out.t hg
  have H4 := Lib.hid h4
  clear hg h4 H3
  go_wp2_with fail
  refine (iq_offer_yes (H4.out.alloc _).qu (H4.out.alloc _).tb.tab K.out.2.2 1 (by decide) 3 (lit_bytes w4 _ _ [97#8, 98#8, 99#8] _ rfl rfl) E.out.2.2 (by decide) (by decide)).mono ?_
  intro e w5 hg
  obtain ⟨G5, rfl, h5, _⟩ := (H4.out.alloc _).q hg
  have H5 := Lib.hid h5
  clear hg h5 H4
  go_wp2_with fail
  refine (iq_offer_full (H5.out.alloc _).qu (H5.out.alloc _).tb.tab K.out.2.2 1 (by decide) _ _ _ E.out.2.2 (by decide)).mono ?_
  rintro e w6 ⟨rfl, m6, hw6⟩
  have H6 := Lib.hid (hw6 ▸ (H5.out.alloc _).drewN m6)
  clear hw6 H5
  go_wp2_with fail
  refine (q_take H6.out.qu 9 3 rfl).mono ?_
  rintro e w7 ⟨rfl, hb7, hg7⟩
  obtain ⟨G7, _, h7, _⟩ := H6.out.q hg7
  have hcv := conv_str (cap := 3) hb7
  rw [show str (List.take 3 ([] ++ [97#8, 98#8, 99#8])) = ⟨#[97, 98, 99]⟩ from rfl] at hcv
  have HB := Lib.hid h7.tb.bel
  clear hg7 h7 hb7 H6 kc
  go_wp2
  go_ret
  exact ⟨rfl, HB.out⟩

end Go.Proofs.Ytanloclkbdameaa
