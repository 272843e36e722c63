/- A slice of events that is made, and turned into Ticks one by one. -/
import Derived.Test.YtflfchcncmpnbaaSch
import Derived.Laws.MakeOwn
namespace Go.Proofs.Ytflfchcncmpnbaa
open Go.RowKit
open Sc

def ev0 : Ev := ⟨0, 0, 0, []⟩
def tick : Ev := ⟨5, 0, 0, []⟩

theorem made_zero (n : Nat) : madeCells (Value.agg #[.int .i64 0, .int .i64 0, .int .i64 0, .string ⟨#[]⟩]).cells (n * 4) = (ecells (List.replicate n ev0)).toArray := by
  apply Array.toList_inj.1
  rw [List.toList_toArray]
  apply List.ext_getElem?
  intro j
  by_cases hj : j < n * 4
  · have hr : (List.replicate n ev0)[j / 4]? = some ev0 := by
      rw [List.getElem?_replicate, if_pos (by omega)]
    obtain ⟨h0, h1, h2, h3⟩ := ecells_get _ _ _ hr
    have hm : ∀ z : Array Value, z.size = 4 → (madeCells z (n * 4)).toList[j]? = some (z[j % 4]!) := by
      intro z hz
      simp only [madeCells, hz]
      simp [hj]
    rw [hm _ rfl]
    rcases (show j % 4 = 0 ∨ j % 4 = 1 ∨ j % 4 = 2 ∨ j % 4 = 3 by omega) with h | h | h | h
    · rw [h, show j = j / 4 * 4 by omega, h0]; rfl
    · rw [h, show j = j / 4 * 4 + 1 by omega, h1]; rfl
    · rw [h, show j = j / 4 * 4 + 2 by omega, h2]; rfl
    · rw [h, show j = j / 4 * 4 + 3 by omega, h3]; rfl
  · rw [List.getElem?_eq_none (by simp [size_madeCells]; omega), List.getElem?_eq_none (by rw [ecells_len]; simp; omega)]

theorem make_events (W : World) (l : Int) (r : Nat) (hl : l = r) (hr : r ≤ 1000000) :
    (Instr.makeSlice 24 (.int .i64 l) (.int .i64 l)).run Try.prog W = .ok (.slice (some ⟨W.heap.size, 0, none⟩) r r) (W.alloc (.cells (ecells (List.replicate r ev0)).toArray 30)) := by
  obtain ⟨i0, hi0, hi1, hi2, hi3⟩ := ev_info
  subst hl
  have h := run_make (P := Try.prog) W 24 30 i0 _ Try.underlying24 hi0 hi1 .i64 .i64 (r : Int) (r : Int) (by omega) (Int.le_refl _) (by rw [hi3]; omega) (by omega)
  rw [h, Int.toNat_natCast, hi2, made_zero]

/-- the first k are Ticks -/
def ticks (n k : Nat) : List Ev := List.replicate k tick ++ List.replicate (n - k) ev0

theorem ticks_len (n k : Nat) (h : k ≤ n) : (ticks n k).length = n := by simp [ticks]; omega
theorem ticks_zero (n : Nat) : ticks n 0 = List.replicate n ev0 := by simp [ticks]
theorem ticks_all (n : Nat) : ticks n n = List.replicate n tick := by simp [ticks]
theorem ticks_at (n k : Nat) (h : k < n) : (ticks n k)[k]? = some ev0 := by
  unfold ticks
  rw [List.getElem?_append_right (by simp), List.length_replicate, Nat.sub_self, List.getElem?_replicate, if_pos (by omega)]

theorem ticks_step (n k : Nat) (h : k < n) : (ecells (ticks n k)).toArray.setIfInBounds (k * 4) (.int .i64 5) = (ecells (ticks n (k + 1))).toArray := by
  rw [List.setIfInBounds_toArray]
  congr 1
  have e1 : ticks n k = List.replicate k tick ++ ev0 :: List.replicate (n - (k + 1)) ev0 := by
    unfold ticks
    rw [show n - k = (n - (k + 1)) + 1 by omega, List.replicate_succ]
  have e2 : ticks n (k + 1) = List.replicate k tick ++ tick :: List.replicate (n - (k + 1)) ev0 := by
    unfold ticks
    rw [List.replicate_succ', List.append_assoc]
    rfl
  rw [e1, e2, ecells_app, ecells_app]
  rw [List.set_append_right _ _ (by rw [ecells_len]; simp)]
  congr 1
  rw [show k * 4 - (ecells (List.replicate k tick)).length = 0 by rw [ecells_len]; simp]
  rfl

theorem tick_row {w : World} {g n k : Nat} (h : Bx g w (ecells (ticks n k)).toArray) : EvIn w w.heap.size (some ⟨g, 0, none⟩) (ticks n k) := by
  refine ⟨fun _ => ⟨g, 0, rfl, h.room, fun r e hr => ?_⟩, fun e he => ?_⟩
  · obtain ⟨h0, h1, h2, h3⟩ := ecells_get _ _ _ hr
    rw [Nat.zero_add]
    exact ⟨h.cell _ _ (by simpa using h0), h.cell _ _ (by simpa using h1), h.cell _ _ (by simpa using h2), h.cell _ _ (by simpa using h3)⟩
  · unfold ticks at he
    rcases List.mem_append.1 he with h' | h' <;> (rw [List.mem_replicate] at h'; rw [h'.2]; simp [tick, ev0, maxLen])

theorem evs_ticks (n : Nat) : (evs (List.replicate n tick)).length = 7 * n := by
  rw [evs_len]
  simp [tick]

theorem ticks_right (n : Nat) : ∀ x ∈ List.replicate n tick, rtE x = true := by
  intro x hx
  rw [List.mem_replicate] at hx
  rw [hx.2]
  exact tick_right

end Go.Proofs.Ytflfchcncmpnbaa
