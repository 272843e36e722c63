/- What comes in: structs by their fields, what is weighed. -/
import Derived.Test.YtflfchcncmpnbaaWor
import Derived.SizedLaws
import Derived.ProofKit
import Derived.OpenShut
import Derived.ShutString
import Derived.ChangeOld
import Derived.ChangeSame
import Derived.Deep.Matrix
import Derived.Deep.Slices
import Derived.Deep.Fields
namespace Go.Proofs.Ytflfchcncmpnbaa
open Go.ChangeShapes Go.WideShapes Go.ChangeAt Go.RowKit Go.Deep

theorem own : ownKnob Try.prog.godebug = none := by kernel_rfl
theorem laidOut : laidOutB Try.prog = true := by kernel_rfl

/-- no slice that comes in has more room than this -/
def most : Nat := 140737488351232

theorem reach_most : reachBytes ≤ most := by decide

section
variable {H : Type} {enc : TypeId × Value → H} {P : Program} {w : World} {base : Nat} {spare : Nat → Bool} {held : Bool}
/-- one part of a struct that is read, where the part is one cell -/
theorem part_of {e : TypeId} {fs : Array Field} (he : P.underlying e = some (.struct fs)) {n : Nat} {cs : List Value} {x : DataW H × List MemPlace} (h : DataW.trod enc P w base spare held n e cs = some x) (hl : cs.length = fs.size)
    (j : Nat) (f : Field) (hf : fs[j]? = some f) (ho : f.offset = j) (hk : P.cellsOf f.type = 1) :
    ∃ (k : Nat) (l : List (DataW H)) (y : DataW H × List MemPlace), x.1 = .agg l ∧ l[j]? = some y.1 ∧ DataW.trod enc P w base spare held k f.type [cs.getD j undef] = some y := by
  obtain ⟨xs, k, _, hx, _, hxl, hat⟩ := DataW.trod_struct he h
  have hj : j < fs.size := (Array.getElem?_eq_some_iff.1 hf).1
  have h1 := hat j f hf
  rw [ho, hk, take1_drop cs j undef (by omega), List.getElem?_eq_getElem (show j < xs.length by omega)] at h1
  exact ⟨k, xs.map (·.1), _, by rw [hx], by rw [List.getElem?_map, List.getElem?_eq_getElem (show j < xs.length by omega)]; rfl, h1⟩

theorem cell_of_part {a : Addr} {m : Nat} {cs : List Value} (h : w.cells? base a m = some cs) (j : Nat) (hj : j < m) : w.cell? (a.add j) = some (cs.getD j undef) := by
  obtain ⟨_, hl, hc⟩ := World.cells?_some h
  rw [hc j hj, List.getD_eq_getElem?_getD, List.getElem?_eq_getElem (show j < cs.length by omega)]
  rfl
end

section
variable {H : Type} {enc : TypeId × Value → H} {W : World} {held : Bool}

/-- all that is weighed is within the reach -/
def Fits (t : TypeId) (d : DataW H) : Prop := ∀ n ∈ d.weights Try.prog t, n ≤ reachBytes

theorem fits_all : ∀ (e : TypeId) (l : List (DataW H)), (∀ n ∈ DataW.weightsAll Try.prog e l, n ≤ reachBytes) → ∀ d ∈ l, Fits e d
  | _, [], _, d, hd => by cases hd
  | e, x :: l, h, d, hd => by
    simp only [DataW.weightsAll, List.mem_append] at h
    rcases List.mem_cons.1 hd with rfl | hd
    · exact fun n hn => h n (.inl hn)
    · exact fits_all e l (fun n hn => h n (.inr hn)) d hd

theorem fits_slice {t e : TypeId} {l s : List (DataW H)} (ht : Try.prog.underlying t = some (.slice e)) (h : Fits t (.slice l s)) : (∀ d ∈ l, Fits e d) ∧ ∀ d ∈ s, Fits e d := by
  unfold Fits at h
  simp only [DataW.weights, ht, List.mem_cons, List.mem_append] at h
  exact ⟨fits_all e l fun n hn => h n (.inr (.inl hn)), fits_all e s fun n hn => h n (.inr (.inr hn))⟩

theorem fits_agg {t : TypeId} {fs : Array Field} {l : List (DataW H)} (ht : Try.prog.underlying t = some (.struct fs)) (h : Fits t (.agg l)) (j : Nat) (f : Field) (hf : fs[j]? = some f) (d : DataW H) (hd : l[j]? = some d) : Fits f.type d := by
  unfold Fits at h
  simp only [DataW.weights, ht] at h
  exact fun n hn => h n (DataW.weights_mem_each (j := j) (by simp [hf]) hd n hn)

theorem fits_of {ts : List TypeId} {ds : List (DataW H)} (h : (DataW.weightsEach Try.prog ts ds).all (· ≤ reachBytes) = true) {j : Nat} {t : TypeId} {d : DataW H} (ht : ts[j]? = some t) (hd : ds[j]? = some d) : Fits t d := by
  intro n hn
  have := List.all_eq_true.1 h _ (DataW.weights_mem_each ht hd n hn)
  simpa using this

theorem spot_of {w : World} {ad : Addr} {v : Value} (h : w.cell? (ad.add 0) = some v) : ∃ b off, ad = ⟨b, off, none⟩ ∧ b < w.heap.size := by
  obtain ⟨b, off, spot⟩ := ad
  have hspot : spot = none := by simpa [Addr.add] using World.cell?_spot h
  subst hspot
  have := cell_lt h
  rw [add_block] at this
  exact ⟨b, off, rfl, this⟩
end

end Go.Proofs.Ytflfchcncmpnbaa
