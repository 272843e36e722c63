/- What the head of layer 5's laws answers; and strings of bytes, cut. -/
import Derived.Test.YtlifnjihnppckaaOutw
namespace Go.Proofs.Ytlifnjihnppckaa
open Go.RowKit

theorem bytes_new (w : World) (C : Array Value) (fr : Nat × Nat) (l : Bs) (n : Nat) (hn : n = l.length) (hC : C = (l.map by8).toArray) : Bytes (w.alloc (.cells C 5 fr)) (w.heap.size + 1) (some ⟨w.heap.size, 0, none⟩) n l := by
  subst hC hn
  refine ⟨rfl, fun _ => ⟨_, 0, rfl, by omega, fun i hi => ?_⟩⟩
  rw [cell_of_row _ _ _ _ _ _ (heap_alloc_new _ _), Nat.zero_add]
  simp [by8, List.getElem?_eq_getElem hi]

theorem str_extract (l : Bs) (i j : Nat) : (str l).extract i j = str ((l.take j).drop i) := by
  unfold str
  apply ByteArray.ext
  rw [ByteArray.data_extract]
  apply Array.toList_inj.1
  simp [List.map_take, List.map_drop, List.drop_take]

/-- a queue for so many bytes; l wait; all of it lies between base and top -/
def Qu (base top : Nat) (w : World) (g size : Nat) (l : Bs) : Prop := ∃ a c, Que base w g size a l.length c l ∧ g < top ∧ (∀ p, a = some p → p.block < top)

/-- what may turn -/
def Zone (base top : Nat) (b : Nat) : Prop := base ≤ b ∧ b < top

section
variable {base base' top top' g size : Nat} {w w' : World} {l : Bs}
theorem Qu.of {a : Option Addr} {c : Nat} (h : Que base w g size a l.length c l) : Qu base w.heap.size w g size l := ⟨a, c, h, heap_lt h.head, fun _ hp => (h.mid.lt hp).2⟩
theorem Qu.lt (h : Qu base top w g size l) : base ≤ g ∧ g < w.heap.size := by
  obtain ⟨a, c, h, _⟩ := h
  exact ⟨h.low, heap_lt h.head⟩
theorem Qu.below (h : Qu base top w g size l) (hb : Below w.heap.size w w') : Qu base top w' g size l := by
  obtain ⟨a, c, h, h1, h2⟩ := h
  exact ⟨a, c, h.below hb, h1, h2⟩
theorem Qu.only {S : Nat → Prop} (h : Qu base top w g size l) (hO : Only S w w') (hS : ∀ b, base ≤ b → b < top → ¬ S b) : Qu base top w' g size l := by
  obtain ⟨a, c, h, h1, h2⟩ := h
  exact ⟨a, c, h.only hO (hS g h.low h1) (fun p hp => hS _ (h.mid.lt hp).1 (h2 p hp)), h1, h2⟩
theorem Qu.mono (h : Qu base top w g size l) (hb : base' ≤ base) (ht : top ≤ top') : Qu base' top' w g size l := by
  obtain ⟨a, c, h, h1, h2⟩ := h
  exact ⟨a, c, ⟨h.head, Nat.le_trans hb h.low, h.small, h.few, h.mid.mono hb, h.apart⟩, by omega, fun p hp => by have := h2 p hp; omega⟩
theorem Qu.drewN (h : Qu base top w g size l) (k : Nat) : Qu base top (w.drewN k) g size l := h.below (below_drewN (Below.refl _ _) k)
theorem Qu.fit (h : Qu base top w g size l) : l.length ≤ size ∧ size ≤ 65536 := by
  obtain ⟨a, c, h, _⟩ := h
  exact ⟨h.few, h.small⟩
theorem zone_below {B : Nat} (h : Only (Zone base top) w w') (hB : B ≤ w.heap.size) (hb : B ≤ base) : Below B w w' := h.below hB fun k hk hz => by have := hz.1; omega

theorem qu_new (s : Int) (w : World) :
    Calls Try.prog 17 #[.int .i64 s] w fun e w' => e = .returned (.pointer (some ⟨w.heap.size, 0, none⟩)) ∧ Qu w.heap.size w'.heap.size w' w.heap.size (sizeOf' s) [] ∧ Below w.heap.size w w' :=
  (outq_new s w).mono fun _ _ ⟨h1, h2, h3⟩ => ⟨h1, Qu.of (l := []) h2, h3⟩

theorem qu_len (h : Qu base top w g size l) : Calls Try.prog 20 #[.pointer (some ⟨g, 0, none⟩)] w fun e w' => e = .returned (.int .i64 l.length) ∧ w = w' := by
  obtain ⟨a, c, h, _⟩ := h
  exact outq_len w h

theorem qu_room (h : Qu base top w g size l) : Calls Try.prog 21 #[.pointer (some ⟨g, 0, none⟩)] w fun e w' => e = .returned (.int .i64 ((size : Int) - l.length)) ∧ ∃ m, w' = w.drewN m := by
  obtain ⟨a, c, h, _⟩ := h
  exact outq_room w h

theorem qu_put_no (h : Qu base top w g size l) (A : Option Addr) (m c2 : Nat) (hm : size < l.length + m) :
    Calls Try.prog 18 #[.pointer (some ⟨g, 0, none⟩), .slice A m c2] w fun e w' => e = .returned (.bool false) ∧ ∃ k, w' = w.drewN k := by
  obtain ⟨a, c, h, _⟩ := h
  exact outq_put_no w h A m c2 hm

theorem qu_put_yes (h : Qu base top w g size l) {B : Nat} {A : Option Addr} {m : Nat} (c2 : Nat) {t : Bs} (ht : Bytes w B A m t) (hm : l.length + m ≤ size) :
    Calls Try.prog 18 #[.pointer (some ⟨g, 0, none⟩), .slice A m c2] w fun e w' => e = .returned (.bool true) ∧ Qu base w'.heap.size w' g size (l ++ t) ∧ Only (Zone base top) w w' := by
  obtain ⟨a, c, h, hg, ha⟩ := h
  refine (outq_put_yes w h B A m c2 t ht (Nat.le_trans h.low (Nat.le_of_lt (heap_lt h.head))) hm).mono fun e w' ⟨h1, a2, c3, h2, h3⟩ => ⟨h1, Qu.of (a := a2) (c := c3) ?_, h3.mono ?_⟩
  · rw [List.length_append, ht.1]
    exact h2
  · rintro b _ (rfl | ⟨p, hp, rfl⟩)
    · exact ⟨h.low, hg⟩
    · exact ⟨(h.mid.lt hp).1, ha p hp⟩

theorem qu_take (h : Qu base top w g size l) (t : Int) (k : Nat) (hk : takes t l.length = k) :
    Calls Try.prog 19 #[.pointer (some ⟨g, 0, none⟩), .int .i64 t] w fun e w' => e = .returned (.slice (some ⟨w.heap.size, 0, none⟩) k k) ∧ Own w.heap.size w' (some ⟨w.heap.size, 0, none⟩) k k (l.take k) ∧
      Qu base w'.heap.size w' g size (l.drop k) ∧ Only (Zone base top) w w' := by
  subst hk
  obtain ⟨a, c, h, hg, ha⟩ := h
  refine (outq_take w h t).mono fun e w' ⟨h1, h2, ⟨a2, c3, h3⟩, h4⟩ => ⟨h1, h2, Qu.of (a := a2) (c := c3) ?_, h4.mono ?_⟩
  · rw [List.length_drop]
    exact h3
  · rintro b _ rfl
    exact ⟨h.low, hg⟩
end

theorem ohead_any (w : World) : Calls Try.prog 16 #[] w fun e w' => e = .returned (.bool true) ∧ Below w.heap.size w w' := by
  have kc := fun (w : World) (C : Array Value) (n c : Nat) => Lib.run_convert_bytes_const (P := Try.prog) w 24 5 C n c Try.underlying24 Try.underlying5
  have hal : ∀ (w : World) o, Below w.heap.size w (w.alloc o) := fun w o => (Below.refl _ _).alloc (Nat.le_refl _) o
  go_enter Try.func16, Try.ntmps16
  go_wp2_with fail
  refine (qu_new 4 w).mono ?_
  rintro e w1 ⟨rfl, hq1, hb1⟩
  rw [show sizeOf' 4 = 4 from rfl] at hq1
  have HQ1 := Lib.hid hq1
  have HB1 := Lib.hid hb1
  clear hq1 hb1
  go_wp2_with fail
  refine (qu_put_yes (HQ1.out.below (hal w1 _)) 3 (bytes_new w1 _ _ [97#8, 98#8, 99#8] _ rfl rfl) (by decide)).mono ?_
  rintro e w2 ⟨rfl, hq2, hb2⟩
  have HQ2 := Lib.hid hq2
  have HB2 := Lib.hid (Below.trans HB1.out (Below.trans ((hal w1 _).mono HB1.out.size) (zone_below hb2 (Nat.le_trans HB1.out.size (by simp)) (Nat.le_refl _))))
  clear hq2 hb2
  go_wp2_with fail
  refine (qu_put_no (HQ2.out.below (hal w2 _)) _ _ _ (by decide)).mono ?_
  rintro e w3 ⟨rfl, k3, rfl⟩
  have HQ3 := Lib.hid ((HQ2.out.below (hal w2 (.cells #[.int .u8 100, .int .u8 101] 5 (2, 3)))).drewN k3)
  have HB3 := Lib.hid (below_drewN (Below.trans HB2.out ((hal w2 (.cells #[.int .u8 100, .int .u8 101] 5 (2, 3))).mono HB2.out.size)) k3)
  clear HQ1 HB1 HQ2 HB2
  generalize (w2.alloc (.cells #[.int .u8 100, .int .u8 101] 5 (2, 3))).drewN k3 = w3 at *
  go_wp2_with fail
  refine (qu_take HQ3.out 2 2 rfl).mono ?_
  rintro e w4 ⟨rfl, ho4, hq4, hb4⟩
  have HQ4 := Lib.hid hq4
  have HB4 := Lib.hid (Below.trans HB3.out (zone_below hb4 HB3.out.size (Nat.le_refl _)))
  have k4 := conv_str (cap := 2) ho4.bytes
  rw [show str (List.take 2 ([] ++ [97#8, 98#8, 99#8])) = ⟨#[97, 98]⟩ from rfl] at k4
  clear ho4 hq4 hb4 kc
  go_wp2_with fail
  refine (qu_len HQ4.out).mono ?_
  rintro e w5 ⟨rfl, rfl⟩
  go_wp2_with fail
  refine (qu_room HQ4.out).mono ?_
  rintro e w5 ⟨rfl, m5, rfl⟩
  go_wp2
  go_ret
  exact ⟨rfl, below_drewN HB4.out m5⟩

end Go.Proofs.Ytlifnjihnppckaa
