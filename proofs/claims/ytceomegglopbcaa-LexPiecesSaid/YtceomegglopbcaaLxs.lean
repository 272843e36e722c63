/- What layer 8's laws' own same answers: are two rows of texts the same? -/
import Derived.Test.YtceomegglopbcaaLxp
import Derived.BigQuiet
namespace Go.Proofs.Ytceomegglopbcaa
open Go.RowKit
open Lx

theorem row_end (A A2 : List Bs) (hl : A.length = A2.length) (h : ∀ r, r < A.length → A.getD r [] = A2.getD r []) : A = A2 := by
  apply List.ext_getElem hl
  intro r h1 h2
  have := h r h1
  rwa [List.getD_eq_getElem?_getD, List.getD_eq_getElem?_getD, List.getElem?_eq_getElem h1, List.getElem?_eq_getElem h2] at this

theorem Vals.at {w : World} {B n : Nat} {a : Option Addr} {A : List Bs} (h : Vals w B a n (strs A)) (hn : 0 < n) : ∃ b off, a = some ⟨b, off, none⟩ ∧ b < B ∧ ∀ r, r < n → w.cell? ⟨b, off + r, none⟩ = some (.string (str (A.getD r []))) := by
  obtain ⟨b, off, e, hb, hc⟩ := h.2.2 hn
  exact ⟨b, off, e, hb, fun r hr => hc r _ (strs_get A r (by have := h.1; rw [strs_len] at this; omega))⟩

def rowsEq (A A2 : List Bs) : Bool := decide (A = A2)

theorem same8_any (w : World) (B B2 n c n2 c2 : Nat) (a a2 : Option Addr) (A A2 : List Bs) (h : Vals w B a n (strs A)) (h2 : Vals w B2 a2 n2 (strs A2)) (hB : B ≤ w.heap.size) (hB2 : B2 ≤ w.heap.size) (hn : n ≤ 1000000000) (hn2 : n2 ≤ 1000000000) :
    Calls Try.prog 11 #[.slice a n c, .slice a2 n2 c2] w fun e w' => e = .returned (.bool (rowsEq A A2)) ∧ Below w.heap.size w w' := by
  have HW := Lib.hid (And.intro h h2)
  have hl1 : A.length = n := by have := h.1; rwa [strs_len] at this
  have hl2 : A2.length = n2 := by have := h2.1; rwa [strs_len] at this
  have HL := Lib.hid (And.intro hl1 hl2)
  clear h h2 hl1 hl2
  by_cases he : n = n2
  · subst he
    have he2 : ((n : Int) == (n : Int)) = true := by simp
    go_enter Try.func11, Try.ntmps11
    go_wp2
    go_loopw [13] (fun i wr => ∃ k : Nat, k ≤ n ∧ i = .int .i64 k ∧ (∀ r, r < k → A.getD r [] = A2.getD r []) ∧ Below w.heap.size w wr) (fun i _ => n - (intOf i).toNat)
    case atStart => exact ⟨0, by omega, rfl, fun r hr => absurd hr (by omega), Below.refl _ _⟩
    case round =>
      obtain ⟨k, hk, rfl, hall, hb⟩ := hrel
      have HA := Lib.hid hall
      have HB := Lib.hid hb
      clear hall hb
      by_cases hlt : k < n
      · obtain ⟨b, off, rfl, hbB, hc⟩ := (HW.out.1.below (HB.out.mono hB)).at (by omega)
        obtain ⟨b2, off2, rfl, hbB2, hd⟩ := (HW.out.2.below (HB.out.mono hB2)).at (by omega)
        have hc0 := hc k hlt
        have hd0 := hd k hlt
        clear hc hd
        obtain ⟨x, hx⟩ : ∃ x, x = A.getD k [] := ⟨_, rfl⟩
        obtain ⟨y, hy⟩ : ∃ y, y = A2.getD k [] := ⟨_, rfl⟩
        rw [← hx] at hc0
        rw [← hy] at hd0
        have HX := Lib.hid hx
        have HY := Lib.hid hy
        clear hx hy
        by_cases hs : x = y
        · subst hs
          have heq : ((str x).toList == (str x).toList) = true := by simp
          go_upto_region 6 with fail
          go_quiet (fail)
          go_wp2
          go_roundw
          case rel =>
            refine ⟨k + 1, by omega, by go_num, fun r hr => ?_, below_drewN HB.out _⟩
            rcases (show r < k ∨ r = k by omega) with h | rfl
            · exact HA.out r h
            · rw [← HX.out, ← HY.out]
          case measure => simp [intOf]; omega
        · have hne := str_ne hs
          have HF := Lib.hid (show rowsEq A A2 = false by unfold rowsEq; simp; intro e; exact hs (by rw [HX.out, HY.out, e]))
          clear hs
          go_upto_region 6 with fail
          go_quiet (fail)
          go_wp2
          go_ret
          exact ⟨ret_bool (by rw [HF.out]), below_drewN HB.out _⟩
      · obtain rfl : k = n := by omega
        have HF := Lib.hid (show rowsEq A A2 = true by unfold rowsEq; simp; exact row_end A A2 (by rw [HL.out.1, HL.out.2]) (by rw [HL.out.1]; exact HA.out))
        go_wp2
        go_ret
        exact ⟨ret_bool (by rw [HF.out]), HB.out⟩
  · have he2 : ((n : Int) == (n2 : Int)) = false := by simp; omega
    have HF := Lib.hid (show rowsEq A A2 = false by unfold rowsEq; simp; intro e; apply he; rw [← HL.out.1, ← HL.out.2, e])
    clear he
    go_enter Try.func11, Try.ntmps11
    go_wp2
    go_ret
    exact ⟨ret_bool (by rw [HF.out]), Below.refl _ _⟩

end Go.Proofs.Ytceomegglopbcaa
