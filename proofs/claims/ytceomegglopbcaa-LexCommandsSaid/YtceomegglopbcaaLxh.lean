/- A lexer, what it told, what came, side by side in memory; what the head of layer 8's laws answers. -/
import Derived.Test.YtceomegglopbcaaLxi
import Derived.Lib.SlBytesConst
namespace Go.Proofs.Ytceomegglopbcaa
open Go.RowKit
open Lx

theorem lb_len (s : Lx) (l : By) : (lrun s l).b.length ≤ s.b.length + l.length := by
  unfold lrun
  induction l generalizing s with
  | nil => exact Nat.le_refl _
  | cons c l ih =>
    have h1 := ih (lstep s c)
    have h2 : (lstep s c).b.length ≤ s.b.length + 1 := by
      unfold lstep lx0
      (repeat' split) <;> simp
    simp only [List.foldl_cons, List.length_cons]
    omega

theorem lit_len (w : World) (l : Bs) (cs : Array Value) (e : TypeId) (fr : Nat × Nat) (hc : cs = (l.map by8).toArray) (n : Nat) (hn : n = l.length) : Bytes (w.alloc (.cells cs e fr)) (w.heap.size + 1) (some ⟨w.heap.size, 0, none⟩) n l := by
  subst hc hn
  refine ⟨rfl, fun _ => ⟨_, 0, rfl, by omega, fun i hi => ?_⟩⟩
  rw [cell_of_row _ _ _ _ _ _ (heap_alloc_new _ _)]
  simp [by8, List.getElem?_eq_getElem hi]

/-- a lexer and what it told so far -/
structure LK (base : Nat) (w : World) (F : Nat → Prop) (g : Nat) (s : Lx) (ka : Option Addr) (kn kc : Nat) (K : Bs) (ra : Option Addr) (rn rc : Nat) (C : List Bs) : Prop where
  lex : LexIs F g w s
  flow : ∀ b, F b → base ≤ b
  ko : KO base w ka kn kc K ra rn rc C
  s2 : ∀ b, F b → ¬ In ka b
  s3 : ∀ b, F b → ¬ In ra b

/-- .. and what came -/
structure LP (base : Nat) (w : World) (F : Nat → Prop) (g : Nat) (s : Lx) (aa : Option Addr) (an ac : Nat) (X : Bs) (ka : Option Addr) (kn kc : Nat) (K : Bs) (ra : Option Addr) (rn rc : Nat) (C : List Bs) : Prop where
  lk : LK base w F g s ka kn kc K ra rn rc C
  all : Mid base w aa an ac X
  s1 : ∀ b, F b → ¬ In aa b
  s4 : ∀ b, In aa b → ¬ In ka b
  s5 : ∀ b, In aa b → ¬ In ra b

/-- what a Push told lies where nothing else does -/
structure Fresh (B : Nat) (w : World) (F2 : Nat → Prop) (k2 : Option Addr) (kn : Nat) (K : Bs) (r2 : Option Addr) (rn : Nat) (C : List Bs) : Prop where
  keys : Bytes w w.heap.size k2 kn K
  cmds : Vals w w.heap.size r2 rn (strs C)
  kf : 0 < kn → ∀ b, In k2 b → B ≤ b ∧ ¬ F2 b
  rf : 0 < rn → ∀ b, In r2 b → B ≤ b ∧ ¬ F2 b

section
variable {base g an ac kn kc rn rc : Nat} {w w' : World} {F : Nat → Prop} {s : Lx} {aa ka ra : Option Addr} {X K : Bs} {C : List Bs}

theorem LK.below (h : LK base w F g s ka kn kc K ra rn rc C) (hb : Below w.heap.size w w') : LK base w' F g s ka kn kc K ra rn rc C :=
  ⟨h.lex.keep (only_of_below hb) (fun _ _ h => h), h.flow, h.ko.below hb, h.s2, h.s3⟩

theorem LP.below (h : LP base w F g s aa an ac X ka kn kc K ra rn rc C) (hb : Below w.heap.size w w') : LP base w' F g s aa an ac X ka kn kc K ra rn rc C :=
  ⟨h.lk.below hb, h.all.below hb, h.s1, h.s4, h.s5⟩

/-- bytes more came -/
theorem LP.grow (h : LP base w F g s aa an ac X ka kn kc K ra rn rc C) {A2 : Option Addr} {n2 c2 : Nat} {X2 : Bs} (hm : Mid base w' A2 n2 c2 X2) (ho : Only (In aa) w w') (hp : ∀ p, A2 = some p → In aa p.block ∨ w.heap.size ≤ p.block) :
    LP base w' F g s A2 n2 c2 X2 ka kn kc K ra rn rc C := by
  have hnew : ∀ b, In A2 b → In aa b ∨ w.heap.size ≤ b := by
    rintro b ⟨p, hp2, rfl⟩
    exact hp p hp2
  refine ⟨⟨h.lk.lex.keep ho h.s1, h.lk.flow, ⟨h.lk.ko.keys.only ho (fun p hp hr => h.s4 _ hr ⟨p, hp, rfl⟩), h.lk.ko.cmds.only ho (fun b hb hr => h.s5 _ hr hb), h.lk.ko.apart⟩, h.lk.s2, h.lk.s3⟩, hm, ?_, ?_, ?_⟩
  · intro b hF hb
    rcases hnew b hb with h1 | h1
    · exact h.s1 b hF h1
    · have := h.lk.lex.lt b hF; omega
  · intro b hb hk
    rcases hnew b hb with h1 | h1
    · exact h.s4 b h1 hk
    · have := (h.lk.ko.keys.inlt hk).2; omega
  · intro b hb hk
    rcases hnew b hb with h1 | h1
    · exact h.s5 b h1 hk
    · have := (h.lk.ko.cmds.inlt hk).2; omega

theorem LK.push (h : LK base w F g s ka kn kc K ra rn rc C) {t : Bs} {e : Ending} (hb : base ≤ w.heap.size) (hp : PushGives F g w s t e w') :
    ∃ F2 k2 n2 c2 r2 m2 d2, e = .returned (.tuple #[.slice k2 n2 c2, .slice r2 m2 d2]) ∧ LK base w' F2 g (lrun s t) ka kn kc K ra rn rc C ∧ Fresh w.heap.size w' F2 k2 n2 (lkeys s t) r2 m2 (lcmds s t) ∧ Only F w w' ∧ ∀ b, F2 b → F b ∨ w.heap.size ≤ b := by
  obtain ⟨F2, k2, n2, c2, r2, m2, d2, rfl, hl, hf, ho, h1, h2, h3, h4⟩ := hp
  refine ⟨F2, k2, n2, c2, r2, m2, d2, rfl, ⟨hl, ?_, ⟨h.ko.keys.only ho (fun p hp hF => h.s2 _ hF ⟨p, hp, rfl⟩), h.ko.cmds.only ho (fun b hb hF => h.s3 _ hF hb), h.ko.apart⟩, ?_, ?_⟩, ⟨h1, h2, h3, h4⟩, ho, hf⟩
  · intro b hb
    rcases hf b hb with h5 | h5
    · exact h.flow b h5
    · omega
  · intro b hb hk
    rcases hf b hb with h5 | h5
    · exact h.s2 b h5 hk
    · have := (h.ko.keys.inlt hk).2; omega
  · intro b hb hk
    rcases hf b hb with h5 | h5
    · exact h.s3 b h5 hk
    · have := (h.ko.cmds.inlt hk).2; omega

theorem LP.push (h : LP base w F g s aa an ac X ka kn kc K ra rn rc C) {t : Bs} {e : Ending} (hb : base ≤ w.heap.size) (hp : PushGives F g w s t e w') :
    ∃ F2 k2 n2 c2 r2 m2 d2, e = .returned (.tuple #[.slice k2 n2 c2, .slice r2 m2 d2]) ∧ LP base w' F2 g (lrun s t) aa an ac X ka kn kc K ra rn rc C ∧ Fresh w.heap.size w' F2 k2 n2 (lkeys s t) r2 m2 (lcmds s t) ∧ Only F w w' ∧ ∀ b, F2 b → F b ∨ w.heap.size ≤ b := by
  obtain ⟨F2, k2, n2, c2, r2, m2, d2, he, hl, hf, ho, hn⟩ := h.lk.push hb hp
  refine ⟨F2, k2, n2, c2, r2, m2, d2, he, ⟨hl, h.all.only ho (fun p hp hF => h.s1 _ hF ⟨p, hp, rfl⟩), ?_, h.s4, h.s5⟩, hf, ho, hn⟩
  intro b hb hk
  rcases hn b hb with h5 | h5
  · exact h.s1 b h5 hk
  · have := (h.all.inlt hk).2; omega

/-- what was told is told on -/
theorem LP.key (h : LP base w F g s aa an ac X ka kn kc K ra rn rc C) {A2 : Option Addr} {n2 c2 : Nat} {K2 : Bs} (hm : Mid base w' A2 n2 c2 K2) (ho : Only (In ka) w w') (hp : ∀ p, A2 = some p → In ka p.block ∨ w.heap.size ≤ p.block) :
    LP base w' F g s aa an ac X A2 n2 c2 K2 ra rn rc C := by
  have hnew : ∀ b, In A2 b → In ka b ∨ w.heap.size ≤ b := by
    rintro b ⟨p, hp2, rfl⟩
    exact hp p hp2
  refine ⟨⟨h.lk.lex.keep ho h.lk.s2, h.lk.flow, h.lk.ko.key hm ho hp, ?_, h.lk.s3⟩, h.all.only ho (fun p hp hk => h.s4 _ ⟨p, hp, rfl⟩ hk), h.s1, ?_, h.s5⟩
  · intro b hF hb
    rcases hnew b hb with h1 | h1
    · exact h.lk.s2 b hF h1
    · have := h.lk.lex.lt b hF; omega
  · intro b ha hb
    rcases hnew b hb with h1 | h1
    · exact h.s4 b ha h1
    · have := (h.all.inlt ha).2; omega

theorem LP.cmd (h : LP base w F g s aa an ac X ka kn kc K ra rn rc C) {A2 : Option Addr} {n2 c2 : Nat} {C2 : List Bs} (hm : Rw base w' A2 n2 c2 (strs C2)) (ho : Only (In ra) w w') (hp : ∀ b, In A2 b → In ra b ∨ w.heap.size ≤ b) :
    LP base w' F g s aa an ac X ka kn kc K A2 n2 c2 C2 := by
  refine ⟨⟨h.lk.lex.keep ho h.lk.s3, h.lk.flow, h.lk.ko.cmd hm ho hp, h.lk.s2, ?_⟩, h.all.only ho (fun p hp hk => h.s5 _ ⟨p, hp, rfl⟩ hk), h.s1, h.s4, ?_⟩
  · intro b hF hb
    rcases hp b hb with h1 | h1
    · exact h.lk.s3 b hF h1
    · have := h.lk.lex.lt b hF; omega
  · intro b ha hb
    rcases hp b hb with h1 | h1
    · exact h.s5 b ha h1
    · have := (h.all.inlt ha).2; omega

theorem LP.low (h : LP base w F g s aa an ac X ka kn kc K ra rn rc C) : (∀ b, F b → base ≤ b) ∧ (∀ b, In aa b → base ≤ b) ∧ (∀ b, In ka b → base ≤ b) ∧ ∀ b, In ra b → base ≤ b :=
  ⟨h.lk.flow, fun _ hb => (h.all.inlt hb).1, fun _ hb => (h.lk.ko.keys.inlt hb).1, fun _ hb => (h.lk.ko.cmds.inlt hb).1⟩

/-- what a Push told outlives an append onto elder bytes -/
theorem Fresh.only {B n2 m2 : Nat} {F2 S : Nat → Prop} {k2 r2 : Option Addr} {K2 : Bs} {C2 : List Bs} (h : Fresh B w F2 k2 n2 K2 r2 m2 C2) (ho : Only S w w') (hS : ∀ b, S b → b < B) : Bytes w' w.heap.size k2 n2 K2 ∧ Vals w' w.heap.size r2 m2 (strs C2) := by
  refine ⟨h.keys.only ho (Nat.le_refl _) (fun hn p hp hs => ?_), h.cmds.only ho (Nat.le_refl _) (fun hn p hp hs => ?_)⟩
  · have := (h.kf hn _ ⟨p, hp, rfl⟩).1; have := hS _ hs; omega
  · have := (h.rf hn _ ⟨p, hp, rfl⟩).1; have := hS _ hs; omega
end

theorem own_fresh (w : World) (base : Nat) (hb : base ≤ w.heap.size) : Mid base (w.alloc (.cells #[] 5)) (some ⟨w.heap.size, 0, none⟩) 0 0 [] := (own_new w base hb).mid
theorem rw_fresh (w : World) (base : Nat) (hb : base ≤ w.heap.size) : Rw base (w.alloc (.cells #[] 9)) (some ⟨w.heap.size, 0, none⟩) 0 0 (strs []) := Rw.fresh w base [] 9 hb (by simp) (by simp) (0, 0) rfl

theorem in_one {g off b : Nat} (h : In (some ⟨g, off, none⟩) b) : b = g := by
  obtain ⟨p, hp, rfl⟩ := h
  injection hp with hp
  rw [← hp]

theorem lk_new (base : Nat) (w : World) (F : Nat → Prop) (g : Nat) (hx : LexIs F g w lx0) (hF : ∀ b, F b → base ≤ b) (hb : base ≤ w.heap.size) :
    LK base ((w.alloc (.cells #[] 5)).alloc (.cells #[] 9)) F g lx0 (some ⟨w.heap.size, 0, none⟩) 0 0 [] (some ⟨w.heap.size + 1, 0, none⟩) 0 0 [] := by
  have h2 := rw_fresh (w.alloc (.cells #[] 5)) base (by simp; omega)
  simp at h2
  have hal : Below w.heap.size w ((w.alloc (.cells #[] 5)).alloc (.cells #[] 9)) := ((Below.refl _ _).alloc (Nat.le_refl _) _).alloc (by simp) _
  refine ⟨hx.keep (only_of_below hal) (fun _ _ h => h), hF, ⟨(own_fresh w base hb).below (below_lit _ _), h2, ?_⟩, ?_, ?_⟩
  · intro b h3 h4
    have := in_one h3; have := in_one h4; omega
  · intro b h3 h4
    have := hx.lt b h3; have := in_one h4; omega
  · intro b h3 h4
    have := hx.lt b h3; have := in_one h4; omega

theorem lp_new (base : Nat) (w : World) (F : Nat → Prop) (g : Nat) (hx : LexIs F g w lx0) (hF : ∀ b, F b → base ≤ b) (hb : base ≤ w.heap.size) :
    LP base (((w.alloc (.cells #[] 5)).alloc (.cells #[] 5)).alloc (.cells #[] 9)) F g lx0 (some ⟨w.heap.size, 0, none⟩) 0 0 [] (some ⟨w.heap.size + 1, 0, none⟩) 0 0 [] (some ⟨w.heap.size + 2, 0, none⟩) 0 0 [] := by
  have hal : Below w.heap.size w (w.alloc (.cells #[] 5)) := (Below.refl _ _).alloc (Nat.le_refl _) _
  have h1 := lk_new base (w.alloc (.cells #[] 5)) F g (hx.keep (only_of_below hal) (fun _ _ h => h)) hF (by simp; omega)
  simp at h1
  refine ⟨h1, ((own_fresh w base hb).below (below_lit _ _)).below (below_lit _ _), ?_, ?_, ?_⟩
  · intro b h3 h4
    have := hx.lt b h3; have := in_one h4; omega
  · intro b h3 h4
    have := in_one h3; have := in_one h4; omega
  · intro b h3 h4
    have := in_one h3; have := in_one h4; omega

theorem xhead_any (w : World) : Calls Try.prog 7 #[] w fun e w' => e = .returned (.bool true) ∧ Below w.heap.size w w' := by
  have kc := fun (w : World) (C : Array Value) (n c : Nat) => Lib.run_convert_bytes_const (P := Try.prog) w 26 5 C n c Try.underlying26 Try.underlying5
  go_enter Try.func7, Try.ntmps7
  go_wp2_with fail
  refine (xnew_any w).mono ?_
  rintro e w1 ⟨F, g, rfl, hx, hF, hb1⟩
  have HX := Lib.hid hx
  have HF := Lib.hid hF
  have HB := Lib.hid hb1
  clear hx hF hb1
  go_wp2_with fail
  have HL := Lib.hid (lit_len w1 [97#8, 29#8, 58#8, 108#8, 105#8, 115#8, 116#8, 10#8, 98#8] #[.int .u8 97, .int .u8 29, .int .u8 58, .int .u8 108, .int .u8 105, .int .u8 115, .int .u8 116, .int .u8 10, .int .u8 98] 5 (9, 10) rfl 9 rfl)
  have hal : Below w1.heap.size w1 (w1.alloc (.cells #[.int .u8 97, .int .u8 29, .int .u8 58, .int .u8 108, .int .u8 105, .int .u8 115, .int .u8 116, .int .u8 10, .int .u8 98] 5 (9, 10))) := (Below.refl _ _).alloc (Nat.le_refl _) _
  have HX2 := Lib.hid (HX.out.keep (only_of_below hal) (fun _ _ h => h))
  have HB2 := Lib.hid (Below.trans HB.out (hal.mono HB.out.size))
  have hsz : (w1.alloc (.cells #[.int .u8 97, .int .u8 29, .int .u8 58, .int .u8 108, .int .u8 105, .int .u8 115, .int .u8 116, .int .u8 10, .int .u8 98] 5 (9, 10))).heap.size = w1.heap.size + 1 := by simp
  have hnF : ∀ b, F b → b < w1.heap.size := HX.out.lt
  clear hal HX HB kc
  generalize w1.alloc (.cells #[.int .u8 97, .int .u8 29, .int .u8 58, .int .u8 108, .int .u8 105, .int .u8 115, .int .u8 116, .int .u8 10, .int .u8 98] 5 (9, 10)) = w2 at *
  refine (xpush_any F g lx0 (some ⟨w1.heap.size, 0, none⟩) 9 9 _ [97#8, 29#8, 58#8, 108#8, 105#8, 115#8, 116#8, 10#8, 98#8] w2 HX2.out HL.out (by omega) (fun _ b hb hFb => by obtain ⟨p, hp, rfl⟩ := hb; injection hp with hp; subst hp; have := hnF _ hFb; simp at this) (by omega) (by simp [lx0])).mono ?_
  rintro e w3 ⟨F2, K, kn, kc, R, rn, rc, rfl, hx, hf, ho, h1, h2, _, _⟩
  rw [show lkeys lx0 [97#8, 29#8, 58#8, 108#8, 105#8, 115#8, 116#8, 10#8, 98#8] = [97#8, 98#8] by decide] at h1
  rw [show lcmds lx0 [97#8, 29#8, 58#8, 108#8, 105#8, 115#8, 116#8, 10#8, 98#8] = [[108#8, 105#8, 115#8, 116#8]] by decide] at h2
  obtain rfl : kn = 2 := h1.1.symm
  obtain rfl : rn = 1 := h2.1.symm
  have hcv := conv_str (cap := kc) h1
  rw [show str [97#8, 98#8] = ⟨#[97, 98]⟩ by decide] at hcv
  obtain ⟨b, off, rfl, hbB, hc⟩ := h2.at (by omega)
  have hc0 := hc 0 (by omega)
  rw [Nat.add_zero] at hc0
  rw [show str ((([[108#8, 105#8, 115#8, 116#8]] : List Bs)).getD 0 []) = ⟨#[108, 105, 115, 116]⟩ by decide] at hc0
  have HB3 := Lib.hid (only_self HB2.out (by have := HB2.out.size; omega) ho HF.out)
  clear hx hf ho h1 h2 hc HB2 HX2 hnF
  go_wp2
  go_ret
  exact ⟨rfl, HB3.out⟩

end Go.Proofs.Ytceomegglopbcaa
