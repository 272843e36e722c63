
/- A ring that holds the last of the bytes L: what each call answers; and what the laws' own helpers head and room answer. -/
import Derived.Test.YtanloclkbdameaaLinew
import Derived.Lib.SlBytesConst
import Derived.Laws.IdiomStrings
namespace Go.Proofs.Ytanloclkbdameaa
open Go.RowKit
open Rg

/-- a ring with so much room, to which L came -/
def Ring (w : World) (gr gk room : Nat) (L : Bs) : Prop := ∃ c, Raw w gr gk room c L.length ∧ Inv room c L

section
variable {w w' : World} {gr gk room : Nat} {L : Bs}
theorem Ring.keep {S : Nat → Prop} (h : Ring w gr gk room L) (hO : Only S w w') (h1 : ¬ S gr) (h2 : ¬ S gk) : Ring w' gr gk room L := by
  obtain ⟨c, h, hI⟩ := h
  exact ⟨c, h.keep hO h1 h2, hI⟩
theorem Ring.drewN (h : Ring w gr gk room L) (n : Nat) : Ring (w.drewN n) gr gk room L := by
  obtain ⟨c, h, hI⟩ := h
  exact ⟨c, h.drewN n, hI⟩
theorem Ring.lt (h : Ring w gr gk room L) : gr < w.heap.size ∧ gk < w.heap.size := by
  obtain ⟨c, h, hI⟩ := h
  exact ⟨block_lt h.head, block_lt h.body⟩
theorem Ring.few (h : Ring w gr gk room L) : L.length ≤ 1099511627776 := by
  obtain ⟨c, h, hI⟩ := h
  exact h.few
theorem Ring.pos (h : Ring w gr gk room L) : 0 < room ∧ room ≤ 65536 := by
  obtain ⟨c, h, hI⟩ := h
  exact ⟨h.pos, h.small⟩

theorem new_ring (size : Int) (w : World) :
    Calls Try.prog 29 #[.int .i64 size] w fun e w' => e = .returned (.pointer (some ⟨w.heap.size + 1, 0, none⟩)) ∧ Ring w' (w.heap.size + 1) w.heap.size (roomOf size) [] ∧ Below w.heap.size w w' ∧ w'.heap.size = w.heap.size + 2 :=
  (new_any size w).mono fun _ _ ⟨he, h, hb, hs⟩ => ⟨he, ⟨_, h, inv_init _ _ (by simp)⟩, hb, hs⟩

theorem base_ring (h : Ring w gr gk room L) :
    Calls Try.prog 34 #[.pointer (some ⟨gr, 0, none⟩)] w fun e w' => e = .returned (.int .i64 (L.length - room : Nat)) ∧ ∃ m, w' = w.drewN m := by
  obtain ⟨c, h, hI⟩ := h
  exact base_any w h

theorem end_ring (h : Ring w gr gk room L) : Calls Try.prog 37 #[.pointer (some ⟨gr, 0, none⟩)] w fun e w' => e = .returned (.int .i64 L.length) ∧ w = w' := by
  obtain ⟨c, h, hI⟩ := h
  exact end_any w h

theorem append_ring (h : Ring w gr gk room L) {B : Nat} (a : Option Addr) (n cap : Nat) (l : Bs) (hl : Bytes w B a n l) (ha : Away n a gr gk) (hcap : n ≤ cap)
    (hB : B ≤ w.heap.size) (hE : L.length + n ≤ 1099511627776) :
    Calls Try.prog 32 #[.pointer (some ⟨gr, 0, none⟩), .slice a n cap] w fun e w' => e = .returned (.bool true) ∧ Ring w' gr gk room (L ++ l) ∧ Only (fun k => k = gr ∨ k = gk) w w' := by
  obtain ⟨c, h, hI⟩ := h
  refine (append_any a n cap l w h hl ha hcap hB hE).mono fun e w' ⟨he, hr, ho⟩ => ⟨he, ⟨_, ?_, inv_append room h.pos c L l hI⟩, ho⟩
  have hn := hl.1
  rw [← hn] at hr
  rw [List.length_append]
  exact hr

theorem line_ring (h : Ring w gr gk room L) (off : Int) :
    Calls Try.prog 50 #[.pointer (some ⟨gr, 0, none⟩), .int .i64 off] w fun e w' => ∃ r : Nat, e = .returned (.int .i64 r) ∧ IsLine (L.length - room) L off r ∧ ∃ m, w' = w.drewN m := by
  obtain ⟨c, h, hI⟩ := h
  exact line_any off w h hI

theorem only_none (w w' : World) {n : Nat} (h : w' = w.drewN n) : Only (fun _ => False) w w' := by rw [h]; exact (Only.refl _ w).drewN n

/-- what a read answers, where it answers true -/
theorem read_ring (h : Ring w gr gk room L) (off : Nat) (n : Int) (count : Nat) (hlo : L.length ≤ off + room) (hhi : off ≤ L.length) (hc : count = (min n ((L.length : Int) - off)).toNat) :
    Calls Try.prog 66 #[.pointer (some ⟨gr, 0, none⟩), .int .i64 off, .int .i64 n] w fun e w' => ∃ a, e = .returned (.tuple #[.slice a count count, .bool true]) ∧
      Bytes w' (w.heap.size + 1) a count ((L.drop off).take count) ∧ (∀ p, a = some p → p.block = w.heap.size) ∧ Only (fun _ => False) w w' := by
  obtain ⟨c, h, hI⟩ := h
  by_cases h0 : count = 0
  · subst h0
    refine (read_none off n w h hlo hhi (by omega)).mono fun e w' hh => ?_
    obtain ⟨he, m, hw⟩ := hh
    refine ⟨none, he, by rw [List.take_zero]; exact Bytes.nil _, ?_, only_none _ _ hw⟩
    intro p hp
    cases hp
  · refine (read_some off count n w h (by omega) hlo (by omega) (by omega)).mono fun e w' ⟨he, hg, ho⟩ => ⟨_, he, ?_, fun p hp => by injection hp with hp; rw [← hp], ho⟩
    rw [read_eq room h.pos c L hI off count hlo (by omega) _ (by simp)] at hg
    have hlen : ((L.drop off).take count).length = count := by simp; omega
    refine ⟨hlen, fun hn => ⟨_, 0, rfl, by omega, fun i hi => ?_⟩⟩
    rw [cell_of_row _ _ _ _ _ _ hg]
    simp only [Nat.zero_add]
    generalize hX : (L.drop off).take count = X at *
    simp [List.getElem?_eq_getElem (show i < X.length by omega), by8]

theorem read_ring_no (h : Ring w gr gk room L) (off n : Int) (ho : off < (L.length - room : Nat) ∨ (L.length : Int) < off) :
    Calls Try.prog 66 #[.pointer (some ⟨gr, 0, none⟩), .int .i64 off, .int .i64 n] w fun e w' => e = .returned (.tuple #[.slice none 0 0, .bool false]) ∧ ∃ m, w' = w.drewN m := by
  obtain ⟨c, h, hI⟩ := h
  exact read_no off n w h ho
end

theorem head_line : IsLine 1 [97#8, 98#8, 10#8, 99#8, 100#8] 0 3 := by
  refine ⟨by decide, fun _ => ⟨by omega, by omega, .inr ⟨by omega, rfl⟩⟩, fun i h1 h2 => ?_⟩
  rintro ⟨_, h | ⟨h, h'⟩⟩
  · omega
  · obtain rfl : i = 2 := by omega
    revert h'
    decide

end Go.Proofs.Ytanloclkbdameaa
