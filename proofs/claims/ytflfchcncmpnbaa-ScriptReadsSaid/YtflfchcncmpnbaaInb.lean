/- What comes in: bytes. -/
import Derived.Test.YtflfchcncmpnbaaBase
import Derived.Test.YtflfchcncmpnbaaIno
namespace Go.Proofs.Ytflfchcncmpnbaa
open Go.ChangeShapes Go.WideShapes Go.ChangeAt Go.RowKit Go.Deep

section
variable {H : Type} {enc : TypeId × Value → H} {W : World} {held : Bool}

theorem bytesOf5 : Try.prog.bytesOf 5 = 1 := by kernel_rfl

/-- a []byte in a cell -/
theorem open_bytes {fuel : Nat} {v : Value} {x : DataW H × List MemPlace} (h : DataW.trod enc Try.prog W 0 (fun _ => true) held fuel 32 [v] = some x) (hf : Fits 32 x.1) :
    ∃ y : Option Addr × Nat × Nat × Bs, v = .slice y.1 y.2.1 y.2.2.1 ∧ Bytes W W.heap.size y.1 y.2.1 y.2.2.2 ∧ y.2.1 ≤ y.2.2.1 ∧ y.2.2.1 ≤ most := by
  rcases open_ints Try.underlying32 Try.underlying5 (by kernel_rfl) h with ⟨hcs, _⟩ | ⟨a, len, cap, zs, hcs, _, hl, hm, hz, hx, hcell, hwz⟩
  · simp only [List.cons.injEq, and_true] at hcs
    exact ⟨(none, 0, 0, []), hcs, Bytes.nil _, Nat.le_refl _, Nat.zero_le _⟩
  · simp only [List.cons.injEq, and_true] at hcs
    simp only [if_true] at hz
    have hrow : IsRow .u8 W (some a) len cap zs := .inr ⟨a, rfl, hl, hm, hz, hcell, hwz⟩
    obtain ⟨l, hb, _⟩ := hrow.bytes
    refine ⟨(some a, len, cap, l), hcs, hb, hl, ?_⟩
    have := hf cap (by rw [hx]; simp [DataW.weights, Try.underlying32, bytesOf5, lits, hz]; omega)
    exact Nat.le_trans this reach_most
end

section
variable {H : Type} {enc : TypeId × Value → H} {W : World} {held : Bool}
theorem open_brow {fuel : Nat} {a : Option Addr} {n cap : Nat} {x : DataW H × List MemPlace} (h : DataW.trod enc Try.prog W 0 (fun _ => true) held fuel 32 [.slice a n cap] = some x) : ∃ zs, IsRow .u8 W a n cap zs := by
  rcases open_ints Try.underlying32 Try.underlying5 (by kernel_rfl) h with ⟨hcs, _⟩ | ⟨x, l, c, zs, hcs, _, hl, hm, hz, _, hcell, hwz⟩
  · simp at hcs
    obtain ⟨rfl, rfl, rfl⟩ := hcs
    exact ⟨[], .inl ⟨rfl, rfl, rfl, rfl⟩⟩
  · simp at hcs
    obtain ⟨rfl, rfl, rfl⟩ := hcs
    exact ⟨zs, .inr ⟨_, rfl, hl, hm, by simpa using hz, hcell, hwz⟩⟩
end

end Go.Proofs.Ytflfchcncmpnbaa
