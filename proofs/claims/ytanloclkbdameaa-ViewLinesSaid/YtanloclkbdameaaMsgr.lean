
/- What the message's functions answer: Right; and the laws' own has, Right. -/
import Derived.Test.YtanloclkbdameaaMsgw
namespace Go.Proofs.Ytanloclkbdameaa
open Go.RowKit
open Fr Ms

theorem bcell {W w1 : World} (hb : Below W.heap.size W w1) : (∀ b o, b < W.heap.size → w1.cell? ⟨b, o, none⟩ = W.cell? ⟨b, o, none⟩) ∧ (∀ b o, b < W.heap.size → w1.frozen? ⟨b, o, none⟩ = W.frozen? ⟨b, o, none⟩) :=
  ⟨fun b o h => hb.cell (p := ⟨b, o, none⟩) h, fun b o h => hb.frozen (p := ⟨b, o, none⟩) h⟩

theorem mright_any (k a b : Int) (s : ByteArray) (w : World) :
    Calls Try.prog 55 #[.agg #[.int .i64 k, .int .i64 a, .int .i64 b, .string s]] w fun e w' => e = .returned (.bool (rt k a b s.size)) ∧ Below w.heap.size w w' := by
  have HR := Lib.hid (show rt k a b s.size = (isK k && okN a (decide (1 ≤ nu k)) && okN b (decide (2 ≤ nu k)) && decide (s.size ≤ tx k)) from rfl)
  have hn := nu_cases k
  go_enter Try.func55, Try.ntmps55
  go_wp2_with fail
  refine (layout_any k _).mono ?_
  rintro e w1 ⟨rfl, hb⟩
  obtain ⟨hc, hf⟩ := bcell hb
  have HB := Lib.hid (Below.trans ((Below.refl _ _).alloc (Nat.le_refl _) _) (hb.mono (by simp)))
  have hz : w.heap.size < w1.heap.size := by have := hb.size; simp at this; omega
  generalize nu k = n at *
  generalize tx k = t at *
  generalize isK k = ok at *
  have e1 : decide (1 ≤ n) = decide ((n : Int) ≥ 1) := by rw [Bool.eq_iff_iff]; simp; omega
  have e2 : decide (2 ≤ n) = decide ((n : Int) ≥ 2) := by rw [Bool.eq_iff_iff]; simp; omega
  rw [e1, e2] at HR
  clear e1 e2
  cases ok
  · go_wp2
    go_ret
    exact ⟨ret_bool (by rw [HR.out]; rfl), HB.out.alloc HB.out.size _⟩
  · go_wp2_with fail
    refine (rnum_any a _ _).mono ?_
    rintro e w2 ⟨rfl, rfl⟩
    generalize okN a (decide ((n : Int) ≥ 1)) = oa at *
    cases oa
    · go_wp2
      go_ret
      exact ⟨ret_bool (by rw [HR.out]; rfl), HB.out.alloc HB.out.size _⟩
    go_wp2_with fail
    refine (rnum_any b _ _).mono ?_
    rintro e w2 ⟨rfl, rfl⟩
    generalize okN b (decide ((n : Int) ≥ 2)) = ob at *
    cases ob
    · go_wp2
      go_ret
      exact ⟨ret_bool (by rw [HR.out]; rfl), HB.out.alloc HB.out.size _⟩
    go_wp2
    go_ret
    exact ⟨ret_bool (by rw [HR.out, Bool.eq_iff_iff]; simp), HB.out.alloc HB.out.size _⟩

/-- what the law's own has ends with -/
def HasGives (k : Int) (w : World) (e : Ending) (w' : World) : Prop :=
  ∃ n t : Int, e = .returned (.tuple #[.int .i64 n, .int .i64 t]) ∧ Below w.heap.size w w' ∧ (isK k = true → n = nu k ∧ t = tx k) ∧ (isK k = false → n = -1 ∧ t = -1)

theorem has_is {k : Int} {w w' : World} {n t : Int} (hk : isK k = true) (hn : n = nu k) (ht : t = tx k) (hb : Below w.heap.size w w') :
    HasGives k w (.returned (.tuple #[.int .i64 n, .int .i64 t])) w' := ⟨n, t, rfl, hb, fun _ => ⟨hn, ht⟩, fun h => by rw [hk] at h; cases h⟩

theorem has_not {k : Int} {w w' : World} (hk : ¬ (1 ≤ k ∧ k ≤ 15)) (hb : Below w.heap.size w w') :
    HasGives k w (.returned (.tuple #[.int .i64 (-1), .int .i64 (-1)])) w' := ⟨-1, -1, rfl, hb, fun h => absurd (isK_iff.1 h) hk, fun _ => ⟨rfl, rfl⟩⟩

theorem row16 (w : World) (v : Array Value) (t : TypeId) (K : Nat) (x : Value) (h : v[K]? = some x) : (w.alloc (.cells v t)).cell? ⟨w.heap.size, K, none⟩ = some x := by
  rw [cell_of_row _ _ _ _ _ _ (heap_alloc_new _ _)]
  exact h

def nus : Array Value := #[.int .i64 0, .int .i64 2, .int .i64 1, .int .i64 0, .int .i64 0, .int .i64 2, .int .i64 1, .int .i64 2, .int .i64 2, .int .i64 1, .int .i64 0, .int .i64 0, .int .i64 0, .int .i64 1, .int .i64 0, .int .i64 1]
def txs : Array Value := #[.int .i64 0, .int .i64 20, .int .i64 2042, .int .i64 0, .int .i64 0, .int .i64 20, .int .i64 2042, .int .i64 0, .int .i64 0, .int .i64 0, .int .i64 80, .int .i64 80, .int .i64 0, .int .i64 0, .int .i64 0, .int .i64 0]

theorem fifteenN {k : Nat} (h : 1 ≤ k ∧ k ≤ 15) : k = 1 ∨ k = 2 ∨ k = 3 ∨ k = 4 ∨ k = 5 ∨ k = 6 ∨ k = 7 ∨ k = 8 ∨ k = 9 ∨ k = 10 ∨ k = 11 ∨ k = 12 ∨ k = 13 ∨ k = 14 ∨ k = 15 := by omega

theorem nus_at (K : Nat) (h : 1 ≤ K ∧ K ≤ 15) : nus[K]? = some (.int .i64 (nu K)) := by
  rcases fifteenN h with rfl | rfl | rfl | rfl | rfl | rfl | rfl | rfl | rfl | rfl | rfl | rfl | rfl | rfl | rfl <;> rfl
theorem txs_at (K : Nat) (h : 1 ≤ K ∧ K ≤ 15) : txs[K]? = some (.int .i64 (tx K)) := by
  rcases fifteenN h with rfl | rfl | rfl | rfl | rfl | rfl | rfl | rfl | rfl | rfl | rfl | rfl | rfl | rfl | rfl <;> rfl

end Go.Proofs.Ytanloclkbdameaa
