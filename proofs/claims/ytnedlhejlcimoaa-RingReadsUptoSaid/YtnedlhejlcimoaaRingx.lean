/- A ring that holds the last of the bytes L: what each call answers; and what the laws' own helpers head and room answer. -/
import Derived.Test.YtnedlhejlcimoaaLinew
import Derived.Lib.SlBytesConst
import Derived.Laws.IdiomStrings
namespace Go.Proofs.Ytnedlhejlcimoaa
open Go.RowKit
open Rg

/-- a ring with so much room, to which L came -/
def Ring (w : World) (gr gk room : Nat) (L : Bs) : Prop := ∃ c, Raw w gr gk room c L.length ∧ Inv room c L

section
variable {w w' : World} {gr gk room : Nat} {L : Bs}
theorem Ring.keep {S : Nat → Prop} (h : Ring w gr gk room L) (hO : Only S w w') (h1 : ¬ S gr) (h2 : ¬ S gk) : Ring w' gr gk room L := by
  obtain ⟨c, h, hI⟩ := h
  exact ⟨c, h.keep hO h1 h2, hI⟩
theorem Ring.drewN (h : Ring w gr gk room L) (n : Nat) : Ring (w.drewN n) gr gk room L := by
  obtain ⟨c, h, hI⟩ := h
  exact ⟨c, h.drewN n, hI⟩
theorem Ring.lt (h : Ring w gr gk room L) : gr < w.heap.size ∧ gk < w.heap.size := by
  obtain ⟨c, h, hI⟩ := h
  exact ⟨block_lt h.head, block_lt h.body⟩
theorem Ring.few (h : Ring w gr gk room L) : L.length ≤ 1099511627776 := by
  obtain ⟨c, h, hI⟩ := h
  exact h.few
theorem Ring.pos (h : Ring w gr gk room L) : 0 < room ∧ room ≤ 65536 := by
  obtain ⟨c, h, hI⟩ := h
  exact ⟨h.pos, h.small⟩

theorem new_ring (size : Int) (w : World) :
    Calls Try.prog 12 #[.int .i64 size] w fun e w' => e = .returned (.pointer (some ⟨w.heap.size + 1, 0, none⟩)) ∧ Ring w' (w.heap.size + 1) w.heap.size (roomOf size) [] ∧ Below w.heap.size w w' ∧ w'.heap.size = w.heap.size + 2 :=
  (new_any size w).mono fun _ _ ⟨he, h, hb, hs⟩ => ⟨he, ⟨_, h, inv_init _ _ (by simp)⟩, hb, hs⟩

theorem base_ring (h : Ring w gr gk room L) :
    Calls Try.prog 15 #[.pointer (some ⟨gr, 0, none⟩)] w fun e w' => e = .returned (.int .i64 (L.length - room : Nat)) ∧ ∃ m, w' = w.drewN m := by
  obtain ⟨c, h, hI⟩ := h
  exact base_any w h

theorem end_ring (h : Ring w gr gk room L) : Calls Try.prog 16 #[.pointer (some ⟨gr, 0, none⟩)] w fun e w' => e = .returned (.int .i64 L.length) ∧ w = w' := by
  obtain ⟨c, h, hI⟩ := h
  exact end_any w h

theorem append_ring (h : Ring w gr gk room L) {B : Nat} (a : Option Addr) (n cap : Nat) (l : Bs) (hl : Bytes w B a n l) (ha : Away n a gr gk) (hcap : n ≤ cap)
    (hB : B ≤ w.heap.size) (hE : L.length + n ≤ 1099511627776) :
    Calls Try.prog 13 #[.pointer (some ⟨gr, 0, none⟩), .slice a n cap] w fun e w' => e = .returned (.bool true) ∧ Ring w' gr gk room (L ++ l) ∧ Only (fun k => k = gr ∨ k = gk) w w' := by
  obtain ⟨c, h, hI⟩ := h
  refine (append_any a n cap l w h hl ha hcap hB hE).mono fun e w' ⟨he, hr, ho⟩ => ⟨he, ⟨_, ?_, inv_append room h.pos c L l hI⟩, ho⟩
  have hn := hl.1
  rw [← hn] at hr
  rw [List.length_append]
  exact hr

theorem line_ring (h : Ring w gr gk room L) (off : Int) :
    Calls Try.prog 19 #[.pointer (some ⟨gr, 0, none⟩), .int .i64 off] w fun e w' => ∃ r : Nat, e = .returned (.int .i64 r) ∧ IsLine (L.length - room) L off r ∧ ∃ m, w' = w.drewN m := by
  obtain ⟨c, h, hI⟩ := h
  exact line_any off w h hI

theorem only_none (w w' : World) {n : Nat} (h : w' = w.drewN n) : Only (fun _ => False) w w' := by rw [h]; exact (Only.refl _ w).drewN n

/-- what a read answers, where it answers true -/
theorem read_ring (h : Ring w gr gk room L) (off : Nat) (n : Int) (count : Nat) (hlo : L.length ≤ off + room) (hhi : off ≤ L.length) (hc : count = (min n ((L.length : Int) - off)).toNat) :
    Calls Try.prog 17 #[.pointer (some ⟨gr, 0, none⟩), .int .i64 off, .int .i64 n] w fun e w' => ∃ a, e = .returned (.tuple #[.slice a count count, .bool true]) ∧
      Bytes w' (w.heap.size + 1) a count ((L.drop off).take count) ∧ (∀ p, a = some p → p.block = w.heap.size) ∧ Only (fun _ => False) w w' := by
  obtain ⟨c, h, hI⟩ := h
  by_cases h0 : count = 0
  · subst h0
    refine (read_none off n w h hlo hhi (by omega)).mono fun e w' hh => ?_
    obtain ⟨he, m, hw⟩ := hh
    refine ⟨none, he, by rw [List.take_zero]; exact Bytes.nil _, ?_, only_none _ _ hw⟩
    intro p hp
    cases hp
  · refine (read_some off count n w h (by omega) hlo (by omega) (by omega)).mono fun e w' ⟨he, hg, ho⟩ => ⟨_, he, ?_, fun p hp => by injection hp with hp; rw [← hp], ho⟩
    rw [read_eq room h.pos c L hI off count hlo (by omega) _ (by simp)] at hg
    have hlen : ((L.drop off).take count).length = count := by simp; omega
    refine ⟨hlen, fun hn => ⟨_, 0, rfl, by omega, fun i hi => ?_⟩⟩
    rw [cell_of_row _ _ _ _ _ _ hg]
    simp only [Nat.zero_add]
    generalize hX : (L.drop off).take count = X at *
    simp [List.getElem?_eq_getElem (show i < X.length by omega), by8]

theorem read_ring_no (h : Ring w gr gk room L) (off n : Int) (ho : off < (L.length - room : Nat) ∨ (L.length : Int) < off) :
    Calls Try.prog 17 #[.pointer (some ⟨gr, 0, none⟩), .int .i64 off, .int .i64 n] w fun e w' => e = .returned (.tuple #[.slice none 0 0, .bool false]) ∧ ∃ m, w' = w.drewN m := by
  obtain ⟨c, h, hI⟩ := h
  exact read_no off n w h ho
end

/-- bytes as a string -/
def str (l : Bs) : ByteArray := ⟨(l.map fun c => (⟨c⟩ : UInt8)).toArray⟩

theorem conv_str {w : World} {B n cap : Nat} {a : Option Addr} {l : Bs} (h : Bytes w B a n l) : (convert 27 9 (.slice a n cap)).run Try.prog w = .ok (.string (str l)) w := by
  rcases a with _ | ad
  · have hn : n = 0 := by
      rcases Nat.eq_zero_or_pos n with h0 | h0
      · exact h0
      · obtain ⟨_, _, h', _⟩ := h.2 h0
        cases h'
    subst hn
    have hl : l = [] := List.eq_nil_of_length_eq_zero h.1
    subst hl
    rw [run_convert_bytes_string w 27 9 5 none 0 cap Try.underlying27 Try.underlying5 Try.underlying9]
    rfl
  · have hl := h.1
    subst hl
    have := run_convert_bytes_back (P := Try.prog) w 27 9 5 ad cap (l.map fun c => (⟨c⟩ : UInt8)) Try.underlying27 Try.underlying5 Try.underlying9 (by
      intro j hj
      rw [List.length_map] at hj
      obtain ⟨b, off, e, _, hc⟩ := h.2 (by omega)
      injection e with e
      subst e
      rw [add_none, hc j hj]
      simp [List.getElem?_eq_getElem hj])
    rw [List.length_map] at this
    exact this

theorem below_drewN {B : Nat} {a w : World} (h : Below B a w) (n : Nat) : Below B a (w.drewN n) := ⟨h.os, h.tape, h.output, h.size, h.block⟩

theorem ret_bool {a b : Bool} (h : a = b) : Ending.returned (.bool a) = .returned (.bool b) := by rw [h]

theorem head_line : IsLine 1 [97#8, 98#8, 10#8, 99#8, 100#8] 0 3 := by
  refine ⟨by decide, fun _ => ⟨by omega, by omega, .inr ⟨by omega, rfl⟩⟩, fun i h1 h2 => ?_⟩
  rintro ⟨_, h | ⟨h, h'⟩⟩
  · omega
  · obtain rfl : i = 2 := by omega
    revert h'
    decide

theorem head01_any (w : World) : Calls Try.prog 10 #[] w fun e w' => e = .returned (.bool true) ∧ Below w.heap.size w w' := by
  have kc := fun (w : World) (C : Array Value) (n c : Nat) => Lib.run_convert_bytes_const (P := Try.prog) w 27 5 C n c Try.underlying27 Try.underlying5
  go_enter Try.func10, Try.ntmps10
  go_wp2_with fail
  refine (new_ring 4 w).mono ?_
  rintro e w1 ⟨rfl, hr, hb1, hs1⟩
  have HR := Lib.hid hr
  have HB1 := Lib.hid hb1
  have HS1 := Lib.hid hs1
  clear hr hb1 hs1
  go_wp2_with fail
  refine (append_ring (HR.out.keep ((Only.refl (fun _ => False) w1).alloc _) (fun h => h) (fun h => h)) (B := w1.heap.size + 1) (some ⟨w1.heap.size, 0, none⟩) 5 5 [97#8, 98#8, 10#8, 99#8, 100#8] ⟨rfl, fun _ => ⟨_, 0, rfl, by omega, fun i hi => ?_⟩⟩ (fun _ p hp => by injection hp with hp; subst hp; have := HS1.out; exact ⟨by simp; omega, by simp; omega⟩) (Nat.le_refl _) (by simp) (by decide)).mono ?_
  · rw [cell_of_row _ _ _ _ _ _ (heap_alloc_new _ _)]
    have : i = 0 ∨ i = 1 ∨ i = 2 ∨ i = 3 ∨ i = 4 := by omega
    rcases this with rfl | rfl | rfl | rfl | rfl <;> rfl
  rintro e w2 ⟨rfl, hr2, ho2⟩
  have hb2 : Below w.heap.size w w2 := Below.trans HB1.out (((Only.refl (fun k => k = w.heap.size + 1 ∨ k = w.heap.size) w1).alloc _ |>.trans ho2).below (by have := HS1.out; omega) (fun k hk => by omega))
  rw [List.nil_append, show roomOf 4 = 4 from rfl] at hr2
  have HR2 := Lib.hid hr2
  have HB2 := Lib.hid hb2
  clear hr2 ho2 hb2 HR
  go_wp2_with fail
  refine (read_ring HR2.out 2 9 3 (by decide) (by decide) (by decide)).mono ?_
  rintro e w3 ⟨a3, rfl, hby, _, ho3⟩
  have hr3 := HR2.out.keep ho3 (fun h => h) (fun h => h)
  have hb3 : Below w.heap.size w w3 := Below.trans HB2.out (ho3.below HB2.out.size (fun _ _ h => h))
  have HBy := Lib.hid hby
  have HR3 := Lib.hid hr3
  have HB3 := Lib.hid hb3
  clear hby hr3 hb3 ho3 HB2
  go_wp2_with fail
  refine (base_ring HR3.out).mono ?_
  rintro e w4 ⟨rfl, m4, rfl⟩
  go_wp2_with fail
  refine (end_ring (HR3.out.drewN _)).mono ?_
  rintro e w4 ⟨rfl, rfl⟩
  go_wp2_with fail
  refine (line_ring (HR3.out.drewN _) 0).mono ?_
  rintro e w5 ⟨r, rfl, hl, m5, rfl⟩
  obtain rfl : r = 3 := isLine_unique hl head_line
  have hcv := fun N => conv_str (cap := 3) (HBy.out.keep (w' := w3.drewN N) (fun _ _ => rfl))
  clear hl
  go_wp2
  go_ret
  exact ⟨ret_bool (by decide +kernel), below_drewN HB3.out _⟩

end Go.Proofs.Ytnedlhejlcimoaa
