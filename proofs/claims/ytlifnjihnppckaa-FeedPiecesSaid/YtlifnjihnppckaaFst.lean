/- A feed, bytes that came, frames that were told, side by side in memory: what each step of the laws leaves. -/
import Derived.Test.YtlifnjihnppckaaFeedw
namespace Go.Proofs.Ytlifnjihnppckaa
open Go.RowKit
open Fr

/-- a feed's blocks -/
def FS (g : Nat) (a : Option Addr) (b : Nat) : Prop := b = g ∨ In a b

/-- a feed with l left; X came, in the slice (ra, rn, rc); es were told, in the slice (R, fn, fc); all apart -/
structure St (base : Nat) (w : World) (g : Nat) (l : Bs) (e : Nat) (ra : Option Addr) (rn rc : Nat) (X : Bs) (R : Option Addr) (fn fc : Nat) (es : List Ent) (a : Option Addr) (n c : Nat) : Prop where
  fed : Fed base w g a n c l e
  all : Mid base w ra rn rc X
  got : FrRow base w R fn fc es
  s1 : ∀ b, FS g a b → ¬ In ra b
  s2 : ∀ b, FS g a b → ¬ In R b
  s3 : ∀ b, In ra b → ¬ In R b
  s4 : Off (FS g a) es
  s5 : Off (In ra) es
  s6 : Off (In R) es

section
variable {base g n c e rn rc fn fc : Nat} {w w' : World} {l X : Bs} {ra R a : Option Addr} {es : List Ent}

theorem St.below (h : St base w g l e ra rn rc X R fn fc es a n c) (hb : Below w.heap.size w w') : St base w' g l e ra rn rc X R fn fc es a n c :=
  ⟨h.fed.below hb, h.all.below hb, h.got.below hb, h.s1, h.s2, h.s3, h.s4, h.s5, h.s6⟩

theorem Mid.inlt {base n c b : Nat} {w : World} {a : Option Addr} {l : Bs} (h : Mid base w a n c l) (hb : In a b) : base ≤ b ∧ b < w.heap.size := by
  obtain ⟨p, hp, rfl⟩ := hb
  exact h.lt hp
theorem FrRow.inlt {base n c b : Nat} {w : World} {a : Option Addr} {es : List Ent} (h : FrRow base w a n c es) (hb : In a b) : base ≤ b ∧ b < w.heap.size := by
  obtain ⟨p, hp, rfl⟩ := hb
  exact h.lt hp
theorem FrRow.entlt (h : FrRow base w R fn fc es) {x : Ent} (hm : x ∈ es) (hn : 0 < x.n) {p : Addr} (hp : x.A = some p) : p.block < w.heap.size := by
  obtain ⟨b, off, e1, hlt, _⟩ := (h.ents x hm).2 hn
  rw [hp] at e1
  injection e1 with e1
  subst e1
  exact hlt
theorem St.fslt (h : St base w g l e ra rn rc X R fn fc es a n c) {b : Nat} (hb : FS g a b) : base ≤ b ∧ b < w.heap.size := by
  rcases hb with rfl | hb
  · exact ⟨h.fed.low, feed_lt h.fed.head⟩
  · exact h.fed.mid.inlt hb

/-- what a Push leaves: the feed anew; what was told by it lies apart from all -/
structure Told (base : Nat) (w0 w : World) (g : Nat) (l : Bs) (e : Nat) (ra : Option Addr) (rn rc : Nat) (X : Bs) (R : Option Addr) (fn fc : Nat) (es : List Ent) (a : Option Addr) (n c : Nat) (R2 : Option Addr) (f2 c2 : Nat) (es2 : List Ent) : Prop where
  st : St base w g l e ra rn rc X R fn fc es a n c
  row : FrRow w0.heap.size w R2 f2 c2 es2
  off2 : Off (fun b => b < w0.heap.size ∨ FS g a b) es2
  old : ∀ b, In ra b ∨ In R b → b < w0.heap.size
  size : w0.heap.size ≤ w.heap.size

theorem St.push (h : St base w g l 0 ra rn rc X R fn fc es a n c) {lt : Bs} {E : Ending} (hp : PushGives base w g a lt E w') :
    ∃ R2 f2 c2 es2 r a2 n2 d2, E = .returned (.slice R2 f2 c2) ∧ Tells lt (kl es2) r ∧ Told base w w' g (keep r) (broke r) ra rn rc X R fn fc es a2 n2 d2 R2 f2 c2 es2 ∧ Only (FS g a) w w' := by
  obtain ⟨R2, f2, c2, es2, r, a2, n2, d2, hE, ht, hrow, hfed, hoff, hsep, hfrom, hO⟩ := hp
  have hnew : ∀ b, FS g a2 b → FS g a b ∨ w.heap.size ≤ b := by
    rintro b (rfl | ⟨p, hp, rfl⟩)
    · exact .inl (.inl rfl)
    · rcases hfrom p hp with h1 | h1
      · exact .inl (.inr h1)
      · exact .inr h1
  refine ⟨R2, f2, c2, es2, r, a2, n2, d2, hE, ht, ⟨⟨hfed, h.all.only hO (fun p hp hS => h.s1 _ hS ⟨p, hp, rfl⟩), h.got.only hO (fun p hp hS => h.s2 _ hS ⟨p, hp, rfl⟩) h.s4, ?_, ?_, h.s3, ?_, h.s5, h.s6⟩, hrow, ?_, ?_, hO.size⟩, hO⟩
  · intro b hb hr
    rcases hnew b hb with h1 | h1
    · exact h.s1 b h1 hr
    · have := (h.all.inlt hr).2; omega
  · intro b hb hr
    rcases hnew b hb with h1 | h1
    · exact h.s2 b h1 hr
    · have := (h.got.inlt hr).2; omega
  · intro x hm hn p hp hS
    rcases hnew _ hS with h1 | h1
    · exact h.s4 x hm hn p hp h1
    · have := h.got.entlt hm hn hp; omega
  · intro x hm hn p hp hS
    rcases hS with h1 | h1 | h1
    · exact hoff x hm hn p hp (.inl h1)
    · exact hoff x hm hn p hp (.inl (by rw [h1]; exact feed_lt h.fed.head))
    · exact hoff x hm hn p hp (.inr h1)
  · rintro b (hb | hb)
    · exact (h.all.inlt hb).2
    · exact (h.got.inlt hb).2

/-- what was told by a Push, appended to what was told so far -/
theorem Told.append {w0 w3 : World} {R2 R3 : Option Addr} {f2 c2 c3 : Nat} {es2 : List Ent} (h : Told base w0 w g l e ra rn rc X R fn fc es a n c R2 f2 c2 es2)
    (hr : FrRow base w3 R3 (fn + f2) c3 (es ++ es2)) (hO : Only (In R) w w3) (hp : ∀ p, R3 = some p → In R p.block ∨ w.heap.size ≤ p.block) :
    St base w3 g l e ra rn rc X R3 (fn + f2) c3 (es ++ es2) a n c := by
  have hsz := h.size
  have hnew : ∀ b, In R3 b → In R b ∨ w.heap.size ≤ b := by
    rintro b ⟨p, hp3, rfl⟩
    exact hp p hp3
  have hold : ∀ b, In R b → b < w0.heap.size := fun b hb => h.old b (.inr hb)
  refine ⟨h.st.fed.only hO (fun hR => h.st.s2 g (.inl rfl) hR) (fun p hp hR => h.st.s2 _ (.inr ⟨p, hp, rfl⟩) hR), h.st.all.only hO (fun p hp hR => h.st.s3 _ ⟨p, hp, rfl⟩ hR), hr, h.st.s1, ?_, ?_, ?_, ?_, ?_⟩
  · intro b hb hR
    rcases hnew b hR with h1 | h1
    · exact h.st.s2 b hb h1
    · have := (h.st.fslt hb).2; omega
  · intro b hb hR
    rcases hnew b hR with h1 | h1
    · exact h.st.s3 b hb h1
    · have := h.old b (.inl hb); omega
  · exact Off.app h.st.s4 (h.off2.mono fun b hb => .inr hb)
  · exact Off.app h.st.s5 (h.off2.mono fun b hb => .inl (h.old b (.inl hb)))
  · refine Off.app (fun x hm hn p hpx hS => ?_) (fun x hm hn p hpx hS => ?_)
    · rcases hnew _ hS with h1 | h1
      · exact h.st.s6 x hm hn p hpx h1
      · have := h.st.got.entlt hm hn hpx; omega
    · rcases hnew _ hS with h1 | h1
      · exact h.off2 x hm hn p hpx (.inl (hold _ h1))
      · have := h.row.entlt hm hn hpx; omega

theorem Told.ready {w0 : World} {R2 : Option Addr} {f2 c2 : Nat} {es2 : List Ent} (h : Told base w0 w g l e ra rn rc X R fn fc es a n c R2 f2 c2 es2) : Off (In R) (es ++ es2) :=
  Off.app h.st.s6 (h.off2.mono fun b hb => .inl (h.old b (.inr hb)))

/-- bytes more -/
theorem St.grow (h : St base w g l e ra rn rc X R fn fc es a n c) {ra2 : Option Addr} {m c2 : Nat} {Y : Bs} (hm : Mid base w' ra2 m c2 Y) (hO : Only (In ra) w w') (hp : ∀ p, ra2 = some p → In ra p.block ∨ w.heap.size ≤ p.block) :
    St base w' g l e ra2 m c2 Y R fn fc es a n c := by
  have hnew : ∀ b, In ra2 b → In ra b ∨ w.heap.size ≤ b := by
    rintro b ⟨p, hp3, rfl⟩
    exact hp p hp3
  refine ⟨h.fed.only hO (fun hR => h.s1 g (.inl rfl) hR) (fun p hp hR => h.s1 _ (.inr ⟨p, hp, rfl⟩) hR), hm, h.got.only hO (fun p hp hR => h.s3 _ hR ⟨p, hp, rfl⟩) h.s5, ?_, h.s2, ?_, h.s4, ?_, h.s6⟩
  · intro b hb hR
    rcases hnew b hR with h1 | h1
    · exact h.s1 b hb h1
    · have := (h.fslt hb).2; omega
  · intro b hR hb
    rcases hnew b hR with h1 | h1
    · exact h.s3 b h1 hb
    · have := (h.got.inlt hb).2; omega
  · intro x hm hn p hpx hS
    rcases hnew _ hS with h1 | h1
    · exact h.s5 x hm hn p hpx h1
    · have := h.got.entlt hm hn hpx; omega
end

end Go.Proofs.Ytlifnjihnppckaa
