/- A string as bytes of its own. -/
import Derived.Test.YtceomegglopbcaaBase
import Derived.Laws.IdiomStrings
namespace Go.Proofs.Ytceomegglopbcaa
open Go.RowKit

/-- '[]byte(s)' of a string: new bytes -/
theorem conv_tob (w : World) (l : Bs) : ∃ c w', (convert 9 26 (.string (str l))).run Try.prog w = .ok (.slice (some ⟨w.heap.size, 0, none⟩) l.length c) w' ∧ Bytes w' (w.heap.size + 1) (some ⟨w.heap.size, 0, none⟩) l.length l ∧
    Below w.heap.size w w' ∧ l.length ≤ c ∧ w.heap.size + 1 ≤ w'.heap.size := by
  have h := run_bytes_of_string (P := Try.prog) w 9 26 5 (str l) Try.underlying9 Try.underlying26 Try.underlying5
  have hs := str_size l
  have hge := grownCap_ge w (str l).size 0 5
  generalize grownCap w (str l).size 0 5 = c at *
  rw [hs] at h hge
  refine ⟨c, _, h, ⟨rfl, fun _ => ⟨w.heap.size, 0, rfl, by omega, fun i hi => ?_⟩⟩, ?_, hge, ?_⟩
  · have hh := heap_alloc_new w.drew (.cells (bytesRow (str l) c) 5 ((bytesRow (str l) c).size, (bytesRow (str l) c).size + 1))
    rw [cell_of_row _ w.heap.size _ _ _ _ hh, Nat.zero_add]
    unfold bytesRow str
    rw [Array.getElem?_append_left (by simpa using hi)]
    simp [List.getElem?_eq_getElem hi]
  · have := (Below.refl w.heap.size w).drew.alloc (Nat.le_refl _) (.cells (bytesRow (str l) c) 5 ((bytesRow (str l) c).size, (bytesRow (str l) c).size + 1))
    exact this
  · simp


/-- '[]byte(s)' of a string: new bytes -/
theorem conv_tob2 (w : World) (l : Bs) (hm : l.length ≤ maxLen) : ∃ c w', (convert 9 26 (.string (str l))).run Try.prog w = .ok (.slice (some ⟨w.heap.size, 0, none⟩) l.length c) w' ∧ Bytes w' (w.heap.size + 1) (some ⟨w.heap.size, 0, none⟩) l.length l ∧
    Below w.heap.size w w' ∧ l.length ≤ c ∧ w.heap.size + 1 ≤ w'.heap.size ∧ c ≤ maxLen := by
  have h := run_bytes_of_string (P := Try.prog) w 9 26 5 (str l) Try.underlying9 Try.underlying26 Try.underlying5
  have hs := str_size l
  have hgm := grownCap_le_maxLen w (str l).size 0 5 (by rw [hs]; exact hm)
  have hge := grownCap_ge w (str l).size 0 5
  generalize grownCap w (str l).size 0 5 = c at *
  rw [hs] at h hge
  refine ⟨c, _, h, ⟨rfl, fun _ => ⟨w.heap.size, 0, rfl, by omega, fun i hi => ?_⟩⟩, ?_, hge, ?_, hgm⟩
  · have hh := heap_alloc_new w.drew (.cells (bytesRow (str l) c) 5 ((bytesRow (str l) c).size, (bytesRow (str l) c).size + 1))
    rw [cell_of_row _ w.heap.size _ _ _ _ hh, Nat.zero_add]
    unfold bytesRow str
    rw [Array.getElem?_append_left (by simpa using hi)]
    simp [List.getElem?_eq_getElem hi]
  · have := (Below.refl w.heap.size w).drew.alloc (Nat.le_refl _) (.cells (bytesRow (str l) c) 5 ((bytesRow (str l) c).size, (bytesRow (str l) c).size + 1))
    exact this
  · simp

end Go.Proofs.Ytceomegglopbcaa
