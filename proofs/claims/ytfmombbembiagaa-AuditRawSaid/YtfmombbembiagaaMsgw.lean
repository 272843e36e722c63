
/- What the message's functions answer: layoutOf, head, rightNumber, Right, putNumber, number; and the laws' own has, Right. -/
import Derived.Test.YtfmombbembiagaaBase
import Derived.Test.YtfmombbembiagaaBx
import Derived.Laws.IdiomStrings
import Derived.Deep.RegionHeld3
import Derived.IntWalk
import Derived.Test.YtfmombbembiagaaMs
import Derived.Lib.AppendStr
namespace Go.Proofs.Ytfmombbembiagaa
open Go.RowKit
open Fr Ms

theorem fifteen {k : Int} (h : 1 ≤ k ∧ k ≤ 15) : k = 1 ∨ k = 2 ∨ k = 3 ∨ k = 4 ∨ k = 5 ∨ k = 6 ∨ k = 7 ∨ k = 8 ∨ k = 9 ∨ k = 10 ∨ k = 11 ∨ k = 12 ∨ k = 13 ∨ k = 14 ∨ k = 15 := by omega

/-- what layoutOf ends with -/
def LayGives (k : Int) (w : World) (e : Ending) (w' : World) : Prop :=
  e = .returned (.tuple #[.agg #[.int .i64 (nu k), .int .i64 (tx k)], .bool (isK k)]) ∧ Below w.heap.size w w'

theorem lay_is {k : Int} {w w' : World} {n t : Nat} (hn : nu k = n) (ht : tx k = t) (hk : isK k = true) (hb : Below w.heap.size w w') :
    LayGives k w (.returned (.tuple #[.agg #[.int .i64 n, .int .i64 t], .bool true])) w' := by
  subst hn ht
  rw [← hk]
  exact ⟨rfl, hb⟩

theorem lay_not {k : Int} {w w' : World} (h : ¬ (1 ≤ k ∧ k ≤ 15)) (hb : Below w.heap.size w w') :
    LayGives k w (.returned (.tuple #[.agg #[.int .i64 0, .int .i64 0], .bool false])) w' := by
  have h1 : nu k = 0 := by unfold nu; rw [if_neg (by omega), if_neg (by omega)]
  have h2 : tx k = 0 := by unfold tx; rw [if_neg (by omega), if_neg (by omega), if_neg (by omega)]
  have h3 : isK k = false := by unfold isK; simpa using h
  unfold LayGives
  rw [h1, h2, h3]
  exact ⟨rfl, hb⟩

set_option maxHeartbeats 1000000 in
theorem layout_any (k : Int) (w : World) : Calls Try.prog 15 #[.int .i64 k] w (LayGives k w) := by
  by_cases h : 1 ≤ k ∧ k ≤ 15
  · rcases fifteen h with rfl | rfl | rfl | rfl | rfl | rfl | rfl | rfl | rfl | rfl | rfl | rfl | rfl | rfl | rfl
    all_goals
      go_enter Try.func15, Try.ntmps15
      go_wp2
      refine bodyPost_ret (by simp [results, Try.results15, go_sem]; simp [nu, tx]) rfl (lay_is (n := nu _) (t := tx _) rfl rfl rfl ?_)
      exact (Below.refl _ _).alloc (Nat.le_refl _) _
  · have e1 : (k == 1) = false := by simp; omega
    have e2 : (k == 2) = false := by simp; omega
    have e3 : (k == 3) = false := by simp; omega
    have e4 : (k == 4) = false := by simp; omega
    have e5 : (k == 5) = false := by simp; omega
    have e6 : (k == 6) = false := by simp; omega
    have e7 : (k == 7) = false := by simp; omega
    have e8 : (k == 8) = false := by simp; omega
    have e9 : (k == 9) = false := by simp; omega
    have e10 : (k == 10) = false := by simp; omega
    have e11 : (k == 11) = false := by simp; omega
    have e12 : (k == 12) = false := by simp; omega
    have e13 : (k == 13) = false := by simp; omega
    have e14 : (k == 14) = false := by simp; omega
    have e15 : (k == 15) = false := by simp; omega
    have HK := Lib.hid h
    clear h
    go_enter Try.func15, Try.ntmps15
    go_wp2
    refine bodyPost_ret (v := .tuple #[.agg #[.int .i64 0, .int .i64 0], .bool false]) (by simp [results, Try.results15, go_sem]) rfl (lay_not HK.out ?_)
    exact (Below.refl _ _).alloc (Nat.le_refl _) _

theorem rnum_any (n : Int) (has : Bool) (w : World) :
    Calls Try.prog 16 #[.int .i64 n, .bool has] w fun e w' => e = .returned (.bool (okN n has)) ∧ w = w' := by
  cases has
  · go_enter Try.func16, Try.ntmps16
    go_wp2
    go_ret
    exact ⟨ret_bool (by unfold okN; rw [Bool.eq_iff_iff]; simp), rfl⟩
  · go_enter Try.func16, Try.ntmps16
    go_wp2
    all_goals
      go_ret
      exact ⟨ret_bool (by unfold okN; rw [Bool.eq_iff_iff]; simp; try omega), rfl⟩

end Go.Proofs.Ytfmombbembiagaa
