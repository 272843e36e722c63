
/- Pieces of bytes that come in as a list. -/
import Derived.Test.YtanloclkbdameaaInb
namespace Go.Proofs.Ytanloclkbdameaa
open Go.ChangeShapes Go.WideShapes Go.ChangeAt Go.RowKit Go.Deep

/-- the slice (a, n) holds the pieces T, all below block B -/
structure Pcs (w : World) (B : Nat) (a : Option Addr) (n : Nat) (A : Nat → Option Addr) (Ln Cp : Nat → Nat) (T : Nat → Bs) : Prop where
  outer : 0 < n → ∃ b off, a = some ⟨b, off, none⟩ ∧ b < B ∧ ∀ r, r < n → w.cell? ⟨b, off + r, none⟩ = some (.slice (A r) (Ln r) (Cp r))
  inner : ∀ r, r < n → Bytes w B (A r) (Ln r) (T r) ∧ Ln r ≤ Cp r ∧ Cp r ≤ most

theorem Pcs.below {w w' : World} {B n : Nat} {a : Option Addr} {A : Nat → Option Addr} {Ln Cp : Nat → Nat} {T : Nat → Bs} (h : Pcs w B a n A Ln Cp T) (hb : Below B w w') : Pcs w' B a n A Ln Cp T :=
  ⟨fun hn => by
    obtain ⟨b, off, e, hlt, hc⟩ := h.outer hn
    exact ⟨b, off, e, hlt, fun r hr => (hb.cell (p := ⟨b, off + r, none⟩) hlt).trans (hc r hr)⟩,
   fun r hr => ⟨(h.inner r hr).1.below hb, (h.inner r hr).2⟩⟩

section
variable {H : Type} {enc : TypeId × Value → H} {W : World} {held : Bool}

theorem open_pcs {fuel : Nat} {a : Option Addr} {n cap : Nat} {x : DataW H × List MemPlace} (h : DataW.trod enc Try.prog W 0 (fun _ => true) held fuel 52 [.slice a n cap] = some x) (hf : Fits 52 x.1) :
    ∃ A Ln Cp T, Pcs W W.heap.size a n A Ln Cp T ∧ n ≤ cap ∧ cap ≤ maxLen := by
  rcases open_slice1 Try.underlying52 (by kernel_rfl) h with ⟨hcs, rfl⟩ | ⟨ad, len, cp, m, k, V, D, Pl, hcs, _, hl, hm, hmm, rfl, hi⟩
  · simp at hcs
    obtain ⟨rfl, rfl, rfl⟩ := hcs
    exact ⟨fun _ => none, fun _ => 0, fun _ => 0, fun _ => [], ⟨fun h => absurd h (by omega), fun r hr => absurd hr (by omega)⟩, Nat.le_refl _, Nat.zero_le _⟩
  · simp at hcs
    obtain ⟨rfl, rfl, rfl⟩ := hcs
    simp only [if_true] at hmm
    subst hmm
    have hfe := (fits_slice Try.underlying52 hf).1
    obtain ⟨y, hy⟩ := choose_lt (n := n) fun r (hr : r < n) => open_bytes (hi r (by omega)).2 (hfe _ (List.mem_map.2 ⟨r, List.mem_range.2 hr, rfl⟩))
    refine ⟨fun r => (y r).1, fun r => (y r).2.1, fun r => (y r).2.2.1, fun r => (y r).2.2.2, ⟨fun hn => ?_, fun r hr => (hy r hr).2⟩, hl, hm⟩
    obtain ⟨b, off, rfl, hlt⟩ := spot_of (hi 0 (by omega)).1
    refine ⟨b, off, rfl, hlt, fun r hr => ?_⟩
    rw [← add_none, (hi r (by omega)).1, (hy r hr).1]
end

end Go.Proofs.Ytanloclkbdameaa
