/- What the head of layer 9's laws answers. -/
import Derived.Test.YtceomegglopbcaaDoorOri
namespace Go.Proofs.YtceomegglopbcaaDoor
open Go.RowKit
open Dgs Orm

theorem give3 : Is [103#8, 105#8, 118#8, 101#8, 32#8, 51#8] 6 3 := ⟨⟨by omega, by omega, by omega, by omega, by omega⟩, by
  rw [show tx 6 3 = pre 6 ++ dgs 3 from tx_pre (k := 6) (by omega), dgs_small (by decide)]
  rfl⟩

theorem give03 (k n : Int) : ¬ Is [103#8, 105#8, 118#8, 101#8, 32#8, 48#8, 51#8] k n := by
  have h := no_digits (k := 6) (d := [48#8, 51#8]) (by omega) (by omega) (head_zero (k := 6) (by omega) (by
    rw [tx_pre (k := 6) (by omega), dgs_small (by decide)]
    decide) rfl) k n
  exact h

theorem below_lit2 (w : World) (o : Obj) : Below w.heap.size w (w.alloc o) := (Below.refl _ _).alloc (Nat.le_refl _) o

theorem ohead_any (w : World) (ht : TI w) : Calls Tryd.prog 6 #[] w fun e w' => e = .returned (.bool true) ∧ Below w.heap.size w w' := by
  have h1 := oparse_any [103#8, 105#8, 118#8, 101#8, 32#8, 51#8] w ht (by decide)
  rw [show str [103#8, 105#8, 118#8, 101#8, 32#8, 51#8] = ⟨#[103, 105, 118, 101, 32, 51]⟩ from rfl] at h1
  have HT := Lib.hid ht
  have H1 := Lib.hid h1
  clear ht h1
  go_enter Tryd.func6, Tryd.ntmps6
  go_wp2_with fail
  refine H1.out.mono ?_
  rintro e w1 ⟨hb1, ⟨k, n, hi, rfl⟩ | ⟨hno, _⟩⟩
  · obtain ⟨rfl, rfl⟩ := hi.one give3
    clear hi H1
    have HX := Lib.hid (Bx.new w1 _ rfl #[.int .i64 6, .int .i64 3] 24)
    have HB := Lib.hid (Below.trans hb1 (((Below.refl w1.heap.size w1).alloc (Nat.le_refl _) (.cells #[.int .i64 6, .int .i64 3] 24)).mono hb1.size))
    have hg : w.heap.size ≤ w1.heap.size := hb1.size
    clear hb1
    go_wp2_with fail
    have h2 := oparse_any [103#8, 105#8, 118#8, 101#8, 32#8, 48#8, 51#8] _ (HT.out.below HB.out) (by decide)
    rw [show str [103#8, 105#8, 118#8, 101#8, 32#8, 48#8, 51#8] = ⟨#[103, 105, 118, 101, 32, 48, 51]⟩ from rfl] at h2
    refine h2.mono ?_
    rintro e w2 ⟨hb2, ⟨k, n, hi, _⟩ | ⟨_, rfl⟩⟩
    · exact absurd hi (give03 k n)
    · have hx2 := HX.out.go hb2 HX.out.room
      have HX2 := Lib.hid (hx2.go (below_lit2 w2 (.cells #[.int .i64 0, .int .i64 0] 24)) hx2.room)
      have c0 := HX2.out.cell 0 _ rfl
      have c1 := HX2.out.cell 1 _ rfl
      have HB2 := Lib.hid (Below.trans (Below.trans HB.out (hb2.mono HB.out.size)) ((below_lit2 w2 (.cells #[.int .i64 0, .int .i64 0] 24)).mono (Nat.le_trans HB.out.size hb2.size)))
      clear hb2 hx2 h2
      go_wp2
      go_ret
      exact ⟨rfl, HB2.out⟩
  · exact absurd give3 (hno _ _)

end Go.Proofs.YtceomegglopbcaaDoor
