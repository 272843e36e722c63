
/- Bytes in memory, at this program's types: slices of a call's own, appends, strings, and small laws of worlds. -/
import Derived.Test.YtfmombbembiagaaWor
namespace Go.Proofs.Ytfmombbembiagaa
open Go.RowKit

abbrev Bs := List (BitVec 8)

theorem byte_info : ∃ i, Try.prog.info? 5 = some i ∧ i.zero = some (.int .u8 0) ∧ i.size = 1 ∧ i.bytes = 1 := info_parts (by kernel_rfl)

/-- a slice of the call's own: where it lies, and what it is -/
structure Own (base : Nat) (w : World) (a : Option Addr) (n c : Nat) (l : Bs) : Prop where
  row : w.ownsRow base 5 1 (.slice a n c) n (l.map by8)
  cap : n ≤ c

theorem Own.bytes {base n c : Nat} {w : World} {a : Option Addr} {l : Bs} (h : Own base w a n c l) : Bytes w w.heap.size a n l := Bytes.of_own h.row

theorem Own.len {base n c : Nat} {w : World} {a : Option Addr} {l : Bs} (h : Own base w a n c l) : l.length = n := by simpa using h.row.1

theorem Own.of_row {base n : Nat} {w : World} {v : Value} {l : Bs} (h : w.ownsRow base 5 1 v n (l.map by8)) : ∃ a c, v = .slice a n c ∧ Own base w a n c l := by
  rcases h.2 with ⟨rfl, rfl⟩ | ⟨g, cap, cur, rfl, h2, h3, h4, h5⟩
  · exact ⟨none, 0, rfl, h, Nat.le_refl _⟩
  · exact ⟨_, cap, rfl, h, h4⟩

theorem Own.form {base n c : Nat} {w : World} {a : Option Addr} {l : Bs} (h : Own base w a n c l) (hn : 0 < n) : ∃ g, a = some ⟨g, 0, none⟩ ∧ base ≤ g ∧ g < w.heap.size := by
  obtain ⟨g, cap, hv, h1, h2⟩ := h.row.form hn
  injection hv with hv
  exact ⟨g, hv, h1, h2⟩

theorem Own.mono {base base' n c : Nat} {w : World} {a : Option Addr} {l : Bs} (h : Own base w a n c l) (hb : base' ≤ base) : Own base' w a n c l := by
  refine ⟨⟨h.row.1, ?_⟩, h.cap⟩
  rcases h.row.2 with h1 | ⟨g, cap, cur, h1, h2, h3⟩
  · exact .inl h1
  · exact .inr ⟨g, cap, cur, h1, Nat.le_trans hb h2, h3⟩

theorem own_below {base e n : Nat} {v : Value} {xs : List Value} {w w' : World} (h : w.ownsRow base e 1 v n xs) (hb : Below w.heap.size w w') : w'.ownsRow base e 1 v n xs := by
  refine ⟨h.1, ?_⟩
  rcases h.2 with h1 | ⟨g, cap, cur, h1, h2, h3, h4⟩
  · exact .inl h1
  · refine .inr ⟨g, cap, cur, h1, h2, ?_, h4⟩
    have hlt : g < w.heap.size := by
      rcases Nat.lt_or_ge g w.heap.size with h' | h'
      · exact h'
      · rw [Array.getElem?_eq_none h'] at h3; cases h3
    exact (hb.block g hlt).trans h3

theorem Own.below {base n c : Nat} {w w' : World} {a : Option Addr} {l : Bs} (h : Own base w a n c l) (hb : Below w.heap.size w w') : Own base w' a n c l := ⟨own_below h.row hb, h.cap⟩

theorem own_new (w : World) (base : Nat) (hb : base ≤ w.heap.size) : Own base (w.alloc (.cells #[] 5)) (some ⟨w.heap.size, 0, none⟩) 0 0 [] :=
  ⟨own_empty w 5 base hb, Nat.le_refl _⟩

/-- two bytes that were just laid -/
theorem two_new (w : World) (x y : BitVec 8) (v0 v1 : Int) (h0 : v0 = x.toNat) (h1 : v1 = y.toNat) :
    Bytes (w.alloc (.cells #[.int .u8 v0, .int .u8 v1] 5)) (w.heap.size + 1) (some ⟨w.heap.size, 0, none⟩) 2 [x, y] := by
  subst h0 h1
  refine ⟨rfl, fun _ => ⟨_, 0, rfl, by omega, fun i hi => ?_⟩⟩
  rw [cell_of_row _ _ _ _ _ _ (heap_alloc_new _ _)]
  have : i = 0 ∨ i = 1 := by omega
  rcases this with rfl | rfl <;> rfl

theorem one_new (w : World) (x : BitVec 8) : Bytes (w.alloc (.cells #[.int .u8 x.toNat] 5)) (w.heap.size + 1) (some ⟨w.heap.size, 0, none⟩) 1 [x] := by
  refine ⟨rfl, fun _ => ⟨_, 0, rfl, by omega, fun i hi => ?_⟩⟩
  rw [cell_of_row _ _ _ _ _ _ (heap_alloc_new _ _)]
  obtain rfl : i = 0 := by omega
  rfl

def zb (r : Nat) : Array Value := ((List.replicate r 0#8).map by8).toArray

theorem made_new (w : World) (base : Nat) (hb : base ≤ w.heap.size) (r : Nat) (hc : r ≤ 1000000000) : Own base (w.alloc (.cells (zb r) 5)) (some ⟨w.heap.size, 0, none⟩) 0 r [] :=
  ⟨⟨rfl, .inr ⟨w.heap.size, r, zb r, rfl, hb, heap_alloc_new w _, Nat.zero_le _, by unfold maxLen; omega, by simp [zb], rfl⟩⟩, Nat.zero_le _⟩

theorem Bytes.cut2 {w : World} {B n cap j g o : Nat} {l : Bs} (h : Bytes w B (some ⟨g, o, none⟩) n l) (hj : j ≤ n) (hc : n ≤ cap) (hne : ¬ cap = j) : Bytes w B (some ⟨g, o + j, none⟩) (n - j) (l.drop j) := by
  have := h.cut (cap := cap) hj hc
  unfold cutA at this
  rw [if_neg hne] at this
  simpa [add_none] using this

theorem Bytes.drewN {w : World} {B n : Nat} {a : Option Addr} {l : Bs} (h : Bytes w B a n l) (k : Nat) : Bytes (w.drewN k) B a n l := h.keep fun _ _ => rfl

/-- three bytes that were just laid -/
theorem three_new (w : World) (x y z : BitVec 8) (v0 v1 v2 : Int) (h0 : v0 = x.toNat) (h1 : v1 = y.toNat) (h2 : v2 = z.toNat) (base : Nat) (hb : base ≤ w.heap.size) :
    Own base (w.alloc (.cells #[.int .u8 v0, .int .u8 v1, .int .u8 v2] 5)) (some ⟨w.heap.size, 0, none⟩) 3 3 [x, y, z] := by
  subst h0 h1 h2
  exact ⟨⟨rfl, .inr ⟨w.heap.size, 3, _, rfl, hb, heap_alloc_new w _, Nat.le_refl _, by unfold maxLen; omega, rfl, rfl⟩⟩, Nat.le_refl _⟩

/-- bytes as a string -/
def str (l : Bs) : ByteArray := ⟨(l.map fun c => (⟨c⟩ : UInt8)).toArray⟩

theorem str_inj {l m : Bs} (h : str l = str m) : l = m := by
  unfold str at h
  injection h with h
  have h2 := congrArg Array.toList h
  simp only at h2
  exact (List.map_inj_right (fun x y e => by injection e)).1 h2

theorem str_ne {l m : Bs} (h : l ≠ m) : ((str l).toList == (str m).toList) = false := by
  simp only [beq_eq_false_iff_ne]
  intro e
  rw [ByteArray.toList_eq, ByteArray.toList_eq] at e
  apply h
  unfold str at e
  simp only at e
  exact (List.map_inj_right (fun x y e => by injection e)).1 e

theorem own_bytes {base n c : Nat} {w : World} {a : Option Addr} {l : Bs} (h : Own base w a n c l) (g : Nat) (ha : a = some ⟨g, 0, none⟩) (i : Nat) (hi : i < n) : w.cell? ⟨g, i, none⟩ = some (.int .u8 (l[i]?.getD 0#8).toNat) := by
  subst ha
  exact own_cell h.row i (by rw [h.len]; exact hi)

theorem own_new_at (w : World) (base g : Nat) (hg : w.heap.size = g) (hb : base ≤ g) : Own base (w.alloc (.cells #[] 5)) (some ⟨g, 0, none⟩) 0 0 [] := by
  subst hg
  exact own_new w base hb

theorem own_turn {base n c g : Nat} {w : World} {l : Bs} (h : Own base w (some ⟨g, 0, none⟩) n c l) (p : Nat) (x : BitVec 8) :
    Own base (w.setCell ⟨g, p, none⟩ (.int .u8 x.toNat)) (some ⟨g, 0, none⟩) n c (l.set p x) := by
  have hs := h.row.stored p (by8 x)
  refine ⟨?_, h.cap⟩
  rw [List.map_set]
  exact hs.1

theorem str_app (l m : Bs) : str (l ++ m) = str l ++ str m := by
  unfold str
  rw [ByteArray.mk_append_mk, List.map_append]

theorem full_new (w : World) (base : Nat) (hb : base ≤ w.heap.size) (r : Nat) (hc : r ≤ 1000000000) : Own base (w.alloc (.cells (zb r) 5)) (some ⟨w.heap.size, 0, none⟩) r r (List.replicate r 0#8) :=
  ⟨⟨by simp, .inr ⟨w.heap.size, r, zb r, rfl, hb, heap_alloc_new w _, Nat.le_refl _, by unfold maxLen; omega, by simp [zb], by simp [zb]⟩⟩, Nat.le_refl _⟩

theorem full_drew (w : World) (r : Nat) (hc : r ≤ 1000000000) : Own w.heap.size (w.alloc (.cells (zb r) 5)).drew (some ⟨w.heap.size, 0, none⟩) r r (List.replicate r 0#8) :=
  ⟨(full_new w w.heap.size (Nat.le_refl _) r hc).row.drew, Nat.le_refl _⟩

theorem bytes_drew {w : World} {B n : Nat} {a : Option Addr} {l : Bs} (h : Bytes w B a n l) : Bytes w.drew B a n l := h.keep fun _ _ => rfl

theorem str_size (l : Bs) : (str l).size = l.length := by
  unfold str
  simp [ByteArray.size]

end Go.Proofs.Ytfmombbembiagaa
