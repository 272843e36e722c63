/- Frames that come in as a list. -/
import Derived.Test.YtlifnjihnppckaaIns
namespace Go.Proofs.Ytlifnjihnppckaa
open Go.ChangeShapes Go.WideShapes Go.ChangeAt Go.RowKit Go.Deep

/-- the slice (a, n) holds frames of the kinds K and the bodies T -/
structure Frs (w : World) (B : Nat) (a : Option Addr) (n : Nat) (K : Nat → BitVec 8) (A : Nat → Option Addr) (Ln Cp : Nat → Nat) (T : Nat → Bs) : Prop where
  outer : 0 < n → ∃ b off, a = some ⟨b, off, none⟩ ∧ b < B ∧ ∀ r, r < n → w.cell? ⟨b, off + r * 2, none⟩ = some (.int .u8 (K r).toNat) ∧ w.cell? ⟨b, off + r * 2 + 1, none⟩ = some (.slice (A r) (Ln r) (Cp r))
  inner : ∀ r, r < n → Bytes w B (A r) (Ln r) (T r) ∧ Ln r ≤ Cp r ∧ Cp r ≤ most

theorem Frs.below {w w' : World} {B n : Nat} {a : Option Addr} {K : Nat → BitVec 8} {A : Nat → Option Addr} {Ln Cp : Nat → Nat} {T : Nat → Bs} (h : Frs w B a n K A Ln Cp T) (hb : Below B w w') : Frs w' B a n K A Ln Cp T :=
  ⟨fun hn => by
    obtain ⟨b, off, e, hlt, hc⟩ := h.outer hn
    exact ⟨b, off, e, hlt, fun r hr => ⟨(hb.cell (p := ⟨b, off + r * 2, none⟩) hlt).trans (hc r hr).1, (hb.cell (p := ⟨b, off + r * 2 + 1, none⟩) hlt).trans (hc r hr).2⟩⟩,
   fun r hr => ⟨(h.inner r hr).1.below hb, (h.inner r hr).2⟩⟩

section
variable {H : Type} {enc : TypeId × Value → H} {W : World} {held : Bool}
theorem open_frs {fuel : Nat} {a : Option Addr} {n cap : Nat} {x : DataW H × List MemPlace} (h : DataW.trod enc Try.prog W 0 (fun _ => true) held fuel 27 [.slice a n cap] = some x) (hf : Fits 27 x.1) :
    ∃ K A Ln Cp T, Frs W W.heap.size a n K A Ln Cp T ∧ n ≤ cap ∧ cap ≤ maxLen := by
  have hce : Try.prog.cellsOf 38 = 2 := by kernel_rfl
  rcases open_slice Try.underlying27 h with ⟨hcs, rfl⟩ | ⟨ad, len, cp, m, k, D, Pl, hcs, _, hl, hm, hmm, rfl, hi⟩
  · simp at hcs
    obtain ⟨rfl, rfl, rfl⟩ := hcs
    exact ⟨fun _ => 0#8, fun _ => none, fun _ => 0, fun _ => 0, fun _ => [], ⟨fun h => absurd h (by omega), fun r hr => absurd hr (by omega)⟩, Nat.le_refl _, Nat.zero_le _⟩
  · simp at hcs
    obtain ⟨rfl, rfl, rfl⟩ := hcs
    simp only [if_true] at hmm
    subst hmm
    have hfe := (fits_slice Try.underlying27 hf).1
    have each : ∀ r, r < n → ∃ y : BitVec 8 × Option Addr × Nat × Nat × Bs, W.cell? (ad.add (r * 2)) = some (.int .u8 y.1.toNat) ∧ W.cell? (ad.add (r * 2 + 1)) = some (.slice y.2.1 y.2.2.1 y.2.2.2.1) ∧
        Bytes W W.heap.size y.2.1 y.2.2.1 y.2.2.2.2 ∧ y.2.2.1 ≤ y.2.2.2.1 ∧ y.2.2.2.1 ≤ most := by
      intro r hr
      obtain ⟨cs, hc, ht⟩ := hi r (by omega)
      rw [hce] at hc
      have hcl := (World.cells?_some hc).2.1
      obtain ⟨n0, l0, y0, e0, g0, t0⟩ := part_of Try.underlying38 ht hcl 0 _ rfl rfl (by kernel_rfl)
      have c0 := cell_of_part hc 0 (by omega)
      rw [add_add] at c0
      obtain ⟨n1, l1, y1, e1, g1, t1⟩ := part_of Try.underlying38 ht hcl 1 _ rfl rfl (by kernel_rfl)
      have c1 := cell_of_part hc 1 (by omega)
      rw [add_add] at c1
      rw [Nat.add_zero] at c0
      have hfr : Fits 38 (.agg l1) := by rw [← e1]; exact hfe _ (List.mem_map.2 ⟨r, List.mem_range.2 hr, rfl⟩)
      have hf1 := fits_agg Try.underlying38 hfr 1 _ rfl y1.1 g1
      obtain ⟨k0, hv0, _, hwf⟩ := DataW.trod_int Try.underlying5 t0
      simp only [List.cons.injEq, and_true] at hv0
      obtain ⟨b0, rfl⟩ := u8_wf hwf
      obtain ⟨y, hv1, hb⟩ := open_bytes t1 hf1
      exact ⟨(b0, y), by rw [c0, hv0], by rw [c1, hv1], hb⟩
    obtain ⟨y, hy⟩ := choose_lt each
    refine ⟨fun r => (y r).1, fun r => (y r).2.1, fun r => (y r).2.2.1, fun r => (y r).2.2.2.1, fun r => (y r).2.2.2.2, ⟨fun hn => ?_, fun r hr => (hy r hr).2.2⟩, hl, hm⟩
    obtain ⟨b, off, rfl, hlt⟩ := spot_of (v := _) (by simpa using (hy 0 hn).1)
    refine ⟨b, off, rfl, hlt, fun r hr => ?_⟩
    rw [← add_none, show off + r * 2 + 1 = off + (r * 2 + 1) by omega, ← add_none]
    exact ⟨(hy r hr).1, (hy r hr).2.1⟩

end

end Go.Proofs.Ytlifnjihnppckaa
