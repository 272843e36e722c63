/- A struct (or a row) that was laid, in its block. No program is named here. -/
import Derived.Test.YtflfchcncmpnbaaMem
namespace Go.Proofs.Ytflfchcncmpnbaa
open Go.RowKit

/-- a struct (or a row) that was laid -/
structure Bx (g : Nat) (w : World) (vs : Array Value) : Prop where
  head : ∃ t, w.heap[g]? = some (.cells vs t (0, 0))

theorem Bx.new (w : World) (g : Nat) (hg : w.heap.size = g) (vs : Array Value) (t : TypeId) : Bx g (w.alloc (.cells vs t)) vs := by
  subst hg
  exact ⟨t, heap_alloc_new w _⟩

theorem Bx.room {g : Nat} {w : World} {vs : Array Value} (h : Bx g w vs) : g + 1 ≤ w.heap.size := by
  obtain ⟨t, h⟩ := h.head
  rcases Nat.lt_or_ge g w.heap.size with h' | h'
  · exact h'
  · rw [Array.getElem?_eq_none h'] at h; cases h

theorem Bx.cell {g : Nat} {w : World} {vs : Array Value} (h : Bx g w vs) (i : Nat) (v : Value) (hv : vs[i]? = some v) : w.cell? ⟨g, i, none⟩ = some v := by
  obtain ⟨t, h⟩ := h.head
  rw [cell_of_row _ _ _ _ _ _ h]
  exact hv

theorem Bx.free {g : Nat} {w : World} {vs : Array Value} (h : Bx g w vs) (i : Nat) : w.frozen? ⟨g, i, none⟩ = false := by
  obtain ⟨t, h⟩ := h.head
  exact frozen_of_row w g i _ _ h

theorem Bx.go {g B : Nat} {w w' : World} {vs : Array Value} (h : Bx g w vs) (hb : Below B w w') (hB : g + 1 ≤ B) : Bx g w' vs := by
  obtain ⟨t, h⟩ := h.head
  exact ⟨t, (hb.block g hB).trans h⟩

theorem Bx.set {g : Nat} {w : World} {vs : Array Value} (h : Bx g w vs) (i : Nat) (v : Value) : Bx g (w.setCell ⟨g, i, none⟩ v) (vs.setIfInBounds i v) := by
  obtain ⟨t, h⟩ := h.head
  exact ⟨t, heap_setCell_same w g i vs t v h⟩

theorem Bx.drewN {g : Nat} {w : World} {vs : Array Value} (h : Bx g w vs) (n : Nat) : Bx g (w.drewN n) vs := by
  obtain ⟨t, h⟩ := h.head
  exact ⟨t, h⟩

theorem Bx.other {g : Nat} {w : World} {vs : Array Value} (h : Bx g w vs) {p : Addr} (hp : ¬ p.block = g) (v : Value) : Bx g (w.setCell p v) vs := by
  obtain ⟨t, h⟩ := h.head
  exact ⟨t, by rw [Below.heap_setCell _ _ _ _ (fun e => hp e.symm)]; exact h⟩

theorem bytes_set {w : World} {B n : Nat} {a : Option Addr} {l : List (BitVec 8)} (h : Bytes w B a n l) {p : Addr} (hp : B ≤ p.block) (v : Value) : Bytes (w.setCell p v) B a n l :=
  h.below ((Below.refl _ _).setCell hp v)

/-- a cell of the struct is turned; nothing else is -/
theorem Bx.only (g : Nat) (w : World) (i : Nat) (v : Value) : Only (fun b => b = g) w (w.setCell ⟨g, i, none⟩ v) :=
  (Only.refl (fun b => b = g) w).setCell (p := ⟨g, i, none⟩) rfl v

theorem Bx.keep {g : Nat} {S : Nat → Prop} {w w' : World} {vs : Array Value} (h : Bx g w vs) (ho : Only S w w') (hs : ¬ S g) : Bx g w' vs := by
  have hr := h.room
  obtain ⟨t, h⟩ := h.head
  exact ⟨t, (ho.block g hr hs).trans h⟩

end Go.Proofs.Ytflfchcncmpnbaa
