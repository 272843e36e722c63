/- What comes in as lists: pieces of bytes, frames, acts of a queue. -/
import Derived.Test.YtlifnjihnppckaaBase
import Derived.SizedLaws
import Derived.ProofKit
import Derived.OpenShut
import Derived.ShutString
import Derived.ChangeOld
import Derived.ChangeSame
import Derived.Deep.Matrix
import Derived.Deep.Slices
import Derived.Deep.Fields
namespace Go.Proofs.Ytlifnjihnppckaa
open Go.ChangeShapes Go.WideShapes Go.ChangeAt Go.RowKit Go.Deep

theorem own : ownKnob Try.prog.godebug = none := by kernel_rfl
theorem laidOut : laidOutB Try.prog = true := by kernel_rfl

/-- no slice that comes in has more room than this -/
def most : Nat := 140737488355328

theorem reach_most : reachBytes ≤ most := by decide

/-- the slice (a, n) holds the pieces T, all below block B -/
structure Pcs (w : World) (B : Nat) (a : Option Addr) (n : Nat) (A : Nat → Option Addr) (Ln Cp : Nat → Nat) (T : Nat → Bs) : Prop where
  outer : 0 < n → ∃ b off, a = some ⟨b, off, none⟩ ∧ b < B ∧ ∀ r, r < n → w.cell? ⟨b, off + r, none⟩ = some (.slice (A r) (Ln r) (Cp r))
  inner : ∀ r, r < n → Bytes w B (A r) (Ln r) (T r) ∧ Ln r ≤ Cp r ∧ Cp r ≤ most

theorem Pcs.below {w w' : World} {B n : Nat} {a : Option Addr} {A : Nat → Option Addr} {Ln Cp : Nat → Nat} {T : Nat → Bs} (h : Pcs w B a n A Ln Cp T) (hb : Below B w w') : Pcs w' B a n A Ln Cp T :=
  ⟨fun hn => by
    obtain ⟨b, off, e, hlt, hc⟩ := h.outer hn
    exact ⟨b, off, e, hlt, fun r hr => (hb.cell (p := ⟨b, off + r, none⟩) hlt).trans (hc r hr)⟩,
   fun r hr => ⟨(h.inner r hr).1.below hb, (h.inner r hr).2⟩⟩

/-- the slice (a, n) holds frames of the kinds K and the bodies T -/
structure Frs (w : World) (B : Nat) (a : Option Addr) (n : Nat) (K : Nat → BitVec 8) (A : Nat → Option Addr) (Ln Cp : Nat → Nat) (T : Nat → Bs) : Prop where
  outer : 0 < n → ∃ b off, a = some ⟨b, off, none⟩ ∧ b < B ∧ ∀ r, r < n → w.cell? ⟨b, off + r * 2, none⟩ = some (.int .u8 (K r).toNat) ∧ w.cell? ⟨b, off + r * 2 + 1, none⟩ = some (.slice (A r) (Ln r) (Cp r))
  inner : ∀ r, r < n → Bytes w B (A r) (Ln r) (T r) ∧ Ln r ≤ Cp r ∧ Cp r ≤ most

theorem Frs.below {w w' : World} {B n : Nat} {a : Option Addr} {K : Nat → BitVec 8} {A : Nat → Option Addr} {Ln Cp : Nat → Nat} {T : Nat → Bs} (h : Frs w B a n K A Ln Cp T) (hb : Below B w w') : Frs w' B a n K A Ln Cp T :=
  ⟨fun hn => by
    obtain ⟨b, off, e, hlt, hc⟩ := h.outer hn
    exact ⟨b, off, e, hlt, fun r hr => ⟨(hb.cell (p := ⟨b, off + r * 2, none⟩) hlt).trans (hc r hr).1, (hb.cell (p := ⟨b, off + r * 2 + 1, none⟩) hlt).trans (hc r hr).2⟩⟩,
   fun r hr => ⟨(h.inner r hr).1.below hb, (h.inner r hr).2⟩⟩

/-- the slice (a, n) holds acts of a queue -/
structure Acts (w : World) (B : Nat) (a : Option Addr) (n : Nat) (P : Nat → Bool) (A : Nat → Option Addr) (Ln Cp : Nat → Nat) (T : Nat → Bs) (K : Nat → Int) : Prop where
  outer : 0 < n → ∃ b off, a = some ⟨b, off, none⟩ ∧ b < B ∧ ∀ r, r < n → w.cell? ⟨b, off + r * 3, none⟩ = some (.bool (P r)) ∧ w.cell? ⟨b, off + r * 3 + 1, none⟩ = some (.slice (A r) (Ln r) (Cp r)) ∧ w.cell? ⟨b, off + r * 3 + 2, none⟩ = some (.int .i64 (K r))
  inner : ∀ r, r < n → Bytes w B (A r) (Ln r) (T r) ∧ Ln r ≤ Cp r ∧ Cp r ≤ most

theorem Acts.below {w w' : World} {B n : Nat} {a : Option Addr} {P : Nat → Bool} {A : Nat → Option Addr} {Ln Cp : Nat → Nat} {T : Nat → Bs} {K : Nat → Int} (h : Acts w B a n P A Ln Cp T K) (hb : Below B w w') : Acts w' B a n P A Ln Cp T K :=
  ⟨fun hn => by
    obtain ⟨b, off, e, hlt, hc⟩ := h.outer hn
    exact ⟨b, off, e, hlt, fun r hr => ⟨(hb.cell (p := ⟨b, off + r * 3, none⟩) hlt).trans (hc r hr).1, (hb.cell (p := ⟨b, off + r * 3 + 1, none⟩) hlt).trans (hc r hr).2.1, (hb.cell (p := ⟨b, off + r * 3 + 2, none⟩) hlt).trans (hc r hr).2.2⟩⟩,
   fun r hr => ⟨(h.inner r hr).1.below hb, (h.inner r hr).2⟩⟩

section
variable {H : Type} {enc : TypeId × Value → H} {P : Program} {w : World} {base : Nat} {spare : Nat → Bool} {held : Bool}
/-- a slice of structs whose fields are one cell each -/
theorem open_slice_fields {t e : TypeId} {fs : Array Field} {fuel : Nat} {cs : List Value} {x : DataW H × List MemPlace} (ht : P.underlying t = some (.slice e)) (he : P.underlying e = some (.struct fs))
    (hone : oneCellFields P fs = true) (hC : P.cellsOf e = fs.size) (h : DataW.trod enc P w base spare held fuel t cs = some x) :
    (cs = [.slice none 0 0] ∧ x = (.nil, [])) ∨
    ∃ (a : Addr) (len cap m : Nat) (D : Nat → DataW H), cs = [.slice (some a) len cap] ∧ len ≤ cap ∧ cap ≤ maxLen ∧ m = (if spare a.block then cap else len) ∧
      x.1 = .slice ((List.range len).map D) ((List.range (m - len)).map fun j => D (len + j)) ∧
      ∀ i, i < m → ∃ (ys : List (DataW H × List MemPlace)) (n : Nat), D i = .agg (ys.map (·.1)) ∧ ys.length = fs.size ∧
        ∀ (j : Nat) (f : Field), fs[j]? = some f → ∃ (v : Value) (y : DataW H × List MemPlace), w.cell? (a.add (i * fs.size + j)) = some v ∧ ys[j]? = some y ∧ DataW.trod enc P w base spare held n f.type [v] = some y := by
  rcases open_slice ht h with h0 | ⟨a, len, cap, m, n, D, Pl, hcs, hb, hl, hm, hmm, hx, hi⟩
  · exact .inl h0
  · refine .inr ⟨a, len, cap, m, D, hcs, hl, hm, hmm, by rw [hx], fun i him => ?_⟩
    obtain ⟨cs', hc, ht'⟩ := hi i him
    rw [hC] at hc
    obtain ⟨ys, n', hn', hy, hlen, hyl, hf⟩ := DataW.trod_struct he ht'
    obtain ⟨_, hcl, hat⟩ := World.cells?_some hc
    simp only [Prod.mk.injEq] at hy
    refine ⟨ys, n', hy.1, hyl, fun j f hj => ?_⟩
    obtain ⟨ho, hk⟩ := hone_of hone j f hj
    have hjl : j < fs.size := (Array.getElem?_eq_some_iff.1 hj).1
    have hcell := hat j hjl
    have hv : cs'[j]? = some (cs'[j]'(by omega)) := List.getElem?_eq_getElem (by omega)
    have h1 := hf j f hj
    rw [ho, hk] at h1
    have hone' : (cs'.drop j).take 1 = [cs'[j]'(by omega)] := by
      rw [List.drop_eq_getElem_cons (by omega)]
      rfl
    rw [hone'] at h1
    have hys : ys[j]? = some (ys[j]'(by omega)) := List.getElem?_eq_getElem (by omega)
    refine ⟨_, _, ?_, hys, h1.trans hys⟩
    rw [← Go.Deep.add_add, hcell, hv]
end

section
variable {H : Type} {enc : TypeId × Value → H} {W : World} {held : Bool}

/-- all that is weighed is within the reach -/
def Fits (t : TypeId) (d : DataW H) : Prop := ∀ n ∈ d.weights Try.prog t, n ≤ reachBytes

theorem fits_all : ∀ (e : TypeId) (l : List (DataW H)), (∀ n ∈ DataW.weightsAll Try.prog e l, n ≤ reachBytes) → ∀ d ∈ l, Fits e d
  | _, [], _, d, hd => by cases hd
  | e, x :: l, h, d, hd => by
    simp only [DataW.weightsAll, List.mem_append] at h
    rcases List.mem_cons.1 hd with rfl | hd
    · exact fun n hn => h n (.inl hn)
    · exact fits_all e l (fun n hn => h n (.inr hn)) d hd

theorem fits_slice {t e : TypeId} {l s : List (DataW H)} (ht : Try.prog.underlying t = some (.slice e)) (h : Fits t (.slice l s)) : (∀ d ∈ l, Fits e d) ∧ ∀ d ∈ s, Fits e d := by
  unfold Fits at h
  simp only [DataW.weights, ht, List.mem_cons, List.mem_append] at h
  exact ⟨fits_all e l fun n hn => h n (.inr (.inl hn)), fits_all e s fun n hn => h n (.inr (.inr hn))⟩

theorem fits_agg {t : TypeId} {fs : Array Field} {l : List (DataW H)} (ht : Try.prog.underlying t = some (.struct fs)) (h : Fits t (.agg l)) (j : Nat) (f : Field) (hf : fs[j]? = some f) (d : DataW H) (hd : l[j]? = some d) : Fits f.type d := by
  unfold Fits at h
  simp only [DataW.weights, ht] at h
  exact fun n hn => h n (DataW.weights_mem_each (j := j) (by simp [hf]) hd n hn)

theorem fits_of {ts : List TypeId} {ds : List (DataW H)} (h : (DataW.weightsEach Try.prog ts ds).all (· ≤ reachBytes) = true) {j : Nat} {t : TypeId} {d : DataW H} (ht : ts[j]? = some t) (hd : ds[j]? = some d) : Fits t d := by
  intro n hn
  have := List.all_eq_true.1 h _ (DataW.weights_mem_each ht hd n hn)
  simpa using this

theorem bytesOf5 : Try.prog.bytesOf 5 = 1 := by kernel_rfl

/-- a []byte in a cell -/
theorem open_bytes {fuel : Nat} {v : Value} {x : DataW H × List MemPlace} (h : DataW.trod enc Try.prog W 0 (fun _ => true) held fuel 24 [v] = some x) (hf : Fits 24 x.1) :
    ∃ y : Option Addr × Nat × Nat × Bs, v = .slice y.1 y.2.1 y.2.2.1 ∧ Bytes W W.heap.size y.1 y.2.1 y.2.2.2 ∧ y.2.1 ≤ y.2.2.1 ∧ y.2.2.1 ≤ most := by
  rcases open_ints Try.underlying24 Try.underlying5 (by kernel_rfl) h with ⟨hcs, _⟩ | ⟨a, len, cap, zs, hcs, _, hl, hm, hz, hx, hcell, hwz⟩
  · simp only [List.cons.injEq, and_true] at hcs
    exact ⟨(none, 0, 0, []), hcs, Bytes.nil _, Nat.le_refl _, Nat.zero_le _⟩
  · simp only [List.cons.injEq, and_true] at hcs
    simp only [if_true] at hz
    have hrow : IsRow .u8 W (some a) len cap zs := .inr ⟨a, rfl, hl, hm, hz, hcell, hwz⟩
    obtain ⟨l, hb, _⟩ := hrow.bytes
    refine ⟨(some a, len, cap, l), hcs, hb, hl, ?_⟩
    have := hf cap (by rw [hx]; simp [DataW.weights, Try.underlying24, bytesOf5, lits, hz]; omega)
    exact Nat.le_trans this reach_most

theorem spot_of {w : World} {ad : Addr} {v : Value} (h : w.cell? (ad.add 0) = some v) : ∃ b off, ad = ⟨b, off, none⟩ ∧ b < w.heap.size := by
  obtain ⟨b, off, spot⟩ := ad
  have hspot : spot = none := by simpa [Addr.add] using World.cell?_spot h
  subst hspot
  have := cell_lt h
  rw [add_block] at this
  exact ⟨b, off, rfl, this⟩

theorem open_pcs {fuel : Nat} {a : Option Addr} {n cap : Nat} {x : DataW H × List MemPlace} (h : DataW.trod enc Try.prog W 0 (fun _ => true) held fuel 22 [.slice a n cap] = some x) (hf : Fits 22 x.1) :
    ∃ A Ln Cp T, Pcs W W.heap.size a n A Ln Cp T ∧ n ≤ cap ∧ cap ≤ maxLen := by
  rcases open_slice1 Try.underlying22 (by kernel_rfl) h with ⟨hcs, rfl⟩ | ⟨ad, len, cp, m, k, V, D, Pl, hcs, _, hl, hm, hmm, rfl, hi⟩
  · simp at hcs
    obtain ⟨rfl, rfl, rfl⟩ := hcs
    exact ⟨fun _ => none, fun _ => 0, fun _ => 0, fun _ => [], ⟨fun h => absurd h (by omega), fun r hr => absurd hr (by omega)⟩, Nat.le_refl _, Nat.zero_le _⟩
  · simp at hcs
    obtain ⟨rfl, rfl, rfl⟩ := hcs
    simp only [if_true] at hmm
    subst hmm
    have hfe := (fits_slice Try.underlying22 hf).1
    obtain ⟨y, hy⟩ := choose_lt (n := n) fun r (hr : r < n) => open_bytes (hi r (by omega)).2 (hfe _ (List.mem_map.2 ⟨r, List.mem_range.2 hr, rfl⟩))
    refine ⟨fun r => (y r).1, fun r => (y r).2.1, fun r => (y r).2.2.1, fun r => (y r).2.2.2, ⟨fun hn => ?_, fun r hr => (hy r hr).2⟩, hl, hm⟩
    obtain ⟨b, off, rfl, hlt⟩ := spot_of (hi 0 (by omega)).1
    refine ⟨b, off, rfl, hlt, fun r hr => ?_⟩
    rw [← add_none, (hi r (by omega)).1, (hy r hr).1]

theorem open_frs {fuel : Nat} {a : Option Addr} {n cap : Nat} {x : DataW H × List MemPlace} (h : DataW.trod enc Try.prog W 0 (fun _ => true) held fuel 27 [.slice a n cap] = some x) (hf : Fits 27 x.1) :
    ∃ K A Ln Cp T, Frs W W.heap.size a n K A Ln Cp T ∧ n ≤ cap ∧ cap ≤ maxLen := by
  rcases open_slice_fields Try.underlying27 Try.underlying38 (by kernel_rfl) (by kernel_rfl) h with ⟨hcs, rfl⟩ | ⟨ad, len, cp, m, D, hcs, hl, hm, hmm, hx, hi⟩
  · simp at hcs
    obtain ⟨rfl, rfl, rfl⟩ := hcs
    exact ⟨fun _ => 0#8, fun _ => none, fun _ => 0, fun _ => 0, fun _ => [], ⟨fun h => absurd h (by omega), fun r hr => absurd hr (by omega)⟩, Nat.le_refl _, Nat.zero_le _⟩
  · simp at hcs
    obtain ⟨rfl, rfl, rfl⟩ := hcs
    simp only [if_true] at hmm
    subst hmm
    rw [hx] at hf
    have hfe := (fits_slice Try.underlying27 hf).1
    have each : ∀ r, r < n → ∃ y : BitVec 8 × Option Addr × Nat × Nat × Bs, W.cell? (ad.add (r * 2)) = some (.int .u8 y.1.toNat) ∧ W.cell? (ad.add (r * 2 + 1)) = some (.slice y.2.1 y.2.2.1 y.2.2.2.1) ∧
        Bytes W W.heap.size y.2.1 y.2.2.1 y.2.2.2.2 ∧ y.2.2.1 ≤ y.2.2.2.1 ∧ y.2.2.2.1 ≤ most := by
      intro r hr
      obtain ⟨ys, k, hD, hlen, hfld⟩ := hi r (by omega)
      obtain ⟨v0, y0, hc0, hy0, ht0⟩ := hfld 0 _ rfl
      obtain ⟨v1, y1, hc1, hy1, ht1⟩ := hfld 1 _ rfl
      have hfr : Fits 38 (.agg (ys.map (·.1))) := by rw [← hD]; exact hfe _ (List.mem_map.2 ⟨r, List.mem_range.2 hr, rfl⟩)
      have hf1 := fits_agg Try.underlying38 hfr 1 _ rfl y1.1 (by rw [List.getElem?_map, hy1]; rfl)
      obtain ⟨k0, hv0, _, hwf⟩ := DataW.trod_int Try.underlying5 ht0
      simp only [List.cons.injEq, and_true] at hv0
      obtain ⟨b0, rfl⟩ := u8_wf hwf
      obtain ⟨y, hv1, hb⟩ := open_bytes ht1 hf1
      refine ⟨(b0, y), ?_, ?_, hb⟩
      · rw [← hv0]; exact hc0
      · rw [← hv1]; exact hc1
    obtain ⟨y, hy⟩ := choose_lt each
    refine ⟨fun r => (y r).1, fun r => (y r).2.1, fun r => (y r).2.2.1, fun r => (y r).2.2.2.1, fun r => (y r).2.2.2.2, ⟨fun hn => ?_, fun r hr => (hy r hr).2.2⟩, hl, hm⟩
    obtain ⟨b, off, rfl, hlt⟩ := spot_of (v := _) (by simpa using (hy 0 hn).1)
    refine ⟨b, off, rfl, hlt, fun r hr => ?_⟩
    rw [← add_none, show off + r * 2 + 1 = off + (r * 2 + 1) by omega, ← add_none]
    exact ⟨(hy r hr).1, (hy r hr).2.1⟩

theorem open_acts {fuel : Nat} {a : Option Addr} {n cap : Nat} {x : DataW H × List MemPlace} (h : DataW.trod enc Try.prog W 0 (fun _ => true) held fuel 42 [.slice a n cap] = some x) (hf : Fits 42 x.1) :
    ∃ P A Ln Cp T K, Acts W W.heap.size a n P A Ln Cp T K ∧ n ≤ cap ∧ cap ≤ maxLen := by
  rcases open_slice_fields Try.underlying42 Try.underlying44 (by kernel_rfl) (by kernel_rfl) h with ⟨hcs, rfl⟩ | ⟨ad, len, cp, m, D, hcs, hl, hm, hmm, hx, hi⟩
  · simp at hcs
    obtain ⟨rfl, rfl, rfl⟩ := hcs
    exact ⟨fun _ => false, fun _ => none, fun _ => 0, fun _ => 0, fun _ => [], fun _ => 0, ⟨fun h => absurd h (by omega), fun r hr => absurd hr (by omega)⟩, Nat.le_refl _, Nat.zero_le _⟩
  · simp at hcs
    obtain ⟨rfl, rfl, rfl⟩ := hcs
    simp only [if_true] at hmm
    subst hmm
    rw [hx] at hf
    have hfe := (fits_slice Try.underlying42 hf).1
    have each : ∀ r, r < n → ∃ y : (Bool × Int) × Option Addr × Nat × Nat × Bs, W.cell? (ad.add (r * 3)) = some (.bool y.1.1) ∧ W.cell? (ad.add (r * 3 + 1)) = some (.slice y.2.1 y.2.2.1 y.2.2.2.1) ∧ W.cell? (ad.add (r * 3 + 2)) = some (.int .i64 y.1.2) ∧
        Bytes W W.heap.size y.2.1 y.2.2.1 y.2.2.2.2 ∧ y.2.2.1 ≤ y.2.2.2.1 ∧ y.2.2.2.1 ≤ most := by
      intro r hr
      obtain ⟨ys, k, hD, hlen, hfld⟩ := hi r (by omega)
      obtain ⟨v0, y0, hc0, hy0, ht0⟩ := hfld 0 _ rfl
      obtain ⟨v1, y1, hc1, hy1, ht1⟩ := hfld 1 _ rfl
      obtain ⟨v2, y2, hc2, hy2, ht2⟩ := hfld 2 _ rfl
      have hfr : Fits 44 (.agg (ys.map (·.1))) := by rw [← hD]; exact hfe _ (List.mem_map.2 ⟨r, List.mem_range.2 hr, rfl⟩)
      have hf1 := fits_agg Try.underlying44 hfr 1 _ rfl y1.1 (by rw [List.getElem?_map, hy1]; rfl)
      obtain ⟨b0, hv0, _⟩ := DataW.trod_bool Try.underlying4 ht0
      obtain ⟨k2, hv2, _, _⟩ := DataW.trod_int Try.underlying3 ht2
      simp only [List.cons.injEq, and_true] at hv0 hv2
      obtain ⟨y, hv1, hb⟩ := open_bytes ht1 hf1
      refine ⟨((b0, k2), y), ?_, ?_, ?_, hb⟩
      · rw [← hv0]; exact hc0
      · rw [← hv1]; exact hc1
      · rw [← hv2]; exact hc2
    obtain ⟨y, hy⟩ := choose_lt each
    refine ⟨fun r => (y r).1.1, fun r => (y r).2.1, fun r => (y r).2.2.1, fun r => (y r).2.2.2.1, fun r => (y r).2.2.2.2, fun r => (y r).1.2, ⟨fun hn => ?_, fun r hr => (hy r hr).2.2.2⟩, hl, hm⟩
    obtain ⟨b, off, rfl, hlt⟩ := spot_of (v := _) (by simpa using (hy 0 hn).1)
    refine ⟨b, off, rfl, hlt, fun r hr => ?_⟩
    rw [← add_none, show off + r * 3 + 1 = off + (r * 3 + 1) by omega, ← add_none, show off + r * 3 + 2 = off + (r * 3 + 2) by omega, ← add_none]
    exact ⟨(hy r hr).1, (hy r hr).2.1, (hy r hr).2.2.1⟩

theorem open_row {fuel : Nat} {a : Option Addr} {n cap : Nat} {x : DataW H × List MemPlace} (h : DataW.trod enc Try.prog W 0 (fun _ => true) held fuel 36 [.slice a n cap] = some x) : ∃ zs, IsRow .i64 W a n cap zs := by
  rcases open_ints Try.underlying36 Try.underlying3 (by kernel_rfl) h with ⟨hcs, _⟩ | ⟨x, l, c, zs, hcs, _, hl, hm, hz, _, hcell, hwz⟩
  · simp at hcs
    obtain ⟨rfl, rfl, rfl⟩ := hcs
    exact ⟨[], .inl ⟨rfl, rfl, rfl, rfl⟩⟩
  · simp at hcs
    obtain ⟨rfl, rfl, rfl⟩ := hcs
    exact ⟨zs, .inr ⟨_, rfl, hl, hm, by simpa using hz, hcell, hwz⟩⟩
end

/-- integers that came in, by their places -/
theorem IsRow.ints {k : IntKind} {w : World} {a : Option Addr} {len cap : Nat} {zs : List Int} (h : IsRow k w a len cap zs) (hn : 0 < len) :
    ∃ b off, a = some ⟨b, off, none⟩ ∧ b < w.heap.size ∧ ∀ j, j < len → w.cell? ⟨b, off + j, none⟩ = some (.int k (zs.getD j 0)) := by
  rcases h with ⟨_, rfl, _⟩ | ⟨x, rfl, hl, hm, hz, hc, hw⟩
  · omega
  · obtain ⟨b, off, rfl, hlt⟩ := spot_of (hc 0 (by omega))
    exact ⟨b, off, rfl, hlt, fun j hj => by rw [← add_none]; exact hc j (by omega)⟩

theorem and63 (a : Int) : ∃ r : Nat, r ≤ 63 ∧ bits .and .i64 a 63 = r := by
  have hlt : (BitVec.ofInt 64 a &&& BitVec.ofInt 64 63).toNat ≤ 63 := by
    rw [BitVec.toNat_and]
    exact Nat.and_le_right
  refine ⟨_, hlt, ?_⟩
  show IntKind.i64.wrap ((BitVec.ofInt 64 a &&& BitVec.ofInt 64 63).toNat : Int) = _
  rw [IntKind.wrap_i64]
  omega

end Go.Proofs.Ytlifnjihnppckaa
