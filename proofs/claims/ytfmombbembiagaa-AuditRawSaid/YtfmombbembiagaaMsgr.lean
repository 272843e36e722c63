
/- What the message's functions answer: Right; and the laws' own has, Right. -/
import Derived.Test.YtfmombbembiagaaMsgw
namespace Go.Proofs.Ytfmombbembiagaa
open Go.RowKit
open Fr Ms

theorem bcell {W w1 : World} (hb : Below W.heap.size W w1) : (∀ b o, b < W.heap.size → w1.cell? ⟨b, o, none⟩ = W.cell? ⟨b, o, none⟩) ∧ (∀ b o, b < W.heap.size → w1.frozen? ⟨b, o, none⟩ = W.frozen? ⟨b, o, none⟩) :=
  ⟨fun b o h => hb.cell (p := ⟨b, o, none⟩) h, fun b o h => hb.frozen (p := ⟨b, o, none⟩) h⟩

theorem mright_any (k a b : Int) (s : ByteArray) (w : World) :
    Calls Try.prog 10 #[.agg #[.int .i64 k, .int .i64 a, .int .i64 b, .string s]] w fun e w' => e = .returned (.bool (rt k a b s.size)) ∧ Below w.heap.size w w' := by
  have HR := Lib.hid (show rt k a b s.size = (isK k && okN a (decide (1 ≤ nu k)) && okN b (decide (2 ≤ nu k)) && decide (s.size ≤ tx k)) from rfl)
  have hn := nu_cases k
  go_enter Try.func10, Try.ntmps10
  go_wp2_with fail
  refine (layout_any k _).mono ?_
  rintro e w1 ⟨rfl, hb⟩
  obtain ⟨hc, hf⟩ := bcell hb
  have HB := Lib.hid (Below.trans ((Below.refl _ _).alloc (Nat.le_refl _) _) (hb.mono (by simp)))
  have hz : w.heap.size < w1.heap.size := by have := hb.size; simp at this; omega
  generalize nu k = n at *
  generalize tx k = t at *
  generalize isK k = ok at *
  have e1 : decide (1 ≤ n) = decide ((n : Int) ≥ 1) := by rw [Bool.eq_iff_iff]; simp; omega
  have e2 : decide (2 ≤ n) = decide ((n : Int) ≥ 2) := by rw [Bool.eq_iff_iff]; simp; omega
  rw [e1, e2] at HR
  clear e1 e2
  cases ok
  · go_wp2
    go_ret
    exact ⟨ret_bool (by rw [HR.out]; rfl), HB.out.alloc HB.out.size _⟩
  · go_wp2_with fail
    refine (rnum_any a _ _).mono ?_
    rintro e w2 ⟨rfl, rfl⟩
    generalize okN a (decide ((n : Int) ≥ 1)) = oa at *
    cases oa
    · go_wp2
      go_ret
      exact ⟨ret_bool (by rw [HR.out]; rfl), HB.out.alloc HB.out.size _⟩
    go_wp2_with fail
    refine (rnum_any b _ _).mono ?_
    rintro e w2 ⟨rfl, rfl⟩
    generalize okN b (decide ((n : Int) ≥ 2)) = ob at *
    cases ob
    · go_wp2
      go_ret
      exact ⟨ret_bool (by rw [HR.out]; rfl), HB.out.alloc HB.out.size _⟩
    go_wp2
    go_ret
    exact ⟨ret_bool (by rw [HR.out, Bool.eq_iff_iff]; simp), HB.out.alloc HB.out.size _⟩

/-- what the law's own has ends with -/
def HasGives (k : Int) (w : World) (e : Ending) (w' : World) : Prop :=
  ∃ n t : Int, e = .returned (.tuple #[.int .i64 n, .int .i64 t]) ∧ Below w.heap.size w w' ∧ (isK k = true → n = nu k ∧ t = tx k) ∧ (isK k = false → n = -1 ∧ t = -1)

theorem has_is {k : Int} {w w' : World} {n t : Int} (hk : isK k = true) (hn : n = nu k) (ht : t = tx k) (hb : Below w.heap.size w w') :
    HasGives k w (.returned (.tuple #[.int .i64 n, .int .i64 t])) w' := ⟨n, t, rfl, hb, fun _ => ⟨hn, ht⟩, fun h => by rw [hk] at h; cases h⟩

theorem has_not {k : Int} {w w' : World} (hk : ¬ (1 ≤ k ∧ k ≤ 15)) (hb : Below w.heap.size w w') :
    HasGives k w (.returned (.tuple #[.int .i64 (-1), .int .i64 (-1)])) w' := ⟨-1, -1, rfl, hb, fun h => absurd (isK_iff.1 h) hk, fun _ => ⟨rfl, rfl⟩⟩

theorem row16 (w : World) (v : Array Value) (t : TypeId) (K : Nat) (x : Value) (h : v[K]? = some x) : (w.alloc (.cells v t)).cell? ⟨w.heap.size, K, none⟩ = some x := by
  rw [cell_of_row _ _ _ _ _ _ (heap_alloc_new _ _)]
  exact h

def nus : Array Value := #[.int .i64 0, .int .i64 2, .int .i64 1, .int .i64 0, .int .i64 0, .int .i64 2, .int .i64 1, .int .i64 2, .int .i64 2, .int .i64 1, .int .i64 0, .int .i64 0, .int .i64 0, .int .i64 1, .int .i64 0, .int .i64 1]
def txs : Array Value := #[.int .i64 0, .int .i64 20, .int .i64 2042, .int .i64 0, .int .i64 0, .int .i64 20, .int .i64 2042, .int .i64 0, .int .i64 0, .int .i64 0, .int .i64 80, .int .i64 80, .int .i64 0, .int .i64 0, .int .i64 0, .int .i64 0]

theorem fifteenN {k : Nat} (h : 1 ≤ k ∧ k ≤ 15) : k = 1 ∨ k = 2 ∨ k = 3 ∨ k = 4 ∨ k = 5 ∨ k = 6 ∨ k = 7 ∨ k = 8 ∨ k = 9 ∨ k = 10 ∨ k = 11 ∨ k = 12 ∨ k = 13 ∨ k = 14 ∨ k = 15 := by omega

theorem nus_at (K : Nat) (h : 1 ≤ K ∧ K ≤ 15) : nus[K]? = some (.int .i64 (nu K)) := by
  rcases fifteenN h with rfl | rfl | rfl | rfl | rfl | rfl | rfl | rfl | rfl | rfl | rfl | rfl | rfl | rfl | rfl <;> rfl
theorem txs_at (K : Nat) (h : 1 ≤ K ∧ K ≤ 15) : txs[K]? = some (.int .i64 (tx K)) := by
  rcases fifteenN h with rfl | rfl | rfl | rfl | rfl | rfl | rfl | rfl | rfl | rfl | rfl | rfl | rfl | rfl | rfl <;> rfl

theorem has_any (k : Int) (w : World) :
    Calls Try.prog 19 #[.int .i64 k] w (HasGives k w) := by
  by_cases h : 1 ≤ k ∧ k ≤ 15
  · obtain ⟨K, rfl⟩ := Int.eq_ofNat_of_zero_le (show 0 ≤ k by omega)
    have hk : isK K = true := isK_iff.2 h
    have c1 := row16 w nus 3 K _ (nus_at K (by omega))
    have c2 := row16 (w.alloc (.cells nus 3)) txs 3 K _ (txs_at K (by omega))
    have c3 : ((w.alloc (.cells nus 3)).alloc (.cells txs 3)).heap.size = w.heap.size + 2 := by simp
    have h1 : (1 : Int) ≤ K := h.1
    have h2 : (K : Int) ≤ 15 := h.2
    have h3 : K < 16 := by omega
    unfold nus at c1 c2
    unfold txs at c2
    rw [show (w.alloc (.cells #[Value.int IntKind.i64 0, Value.int IntKind.i64 2, Value.int IntKind.i64 1, Value.int IntKind.i64 0, Value.int IntKind.i64 0, Value.int IntKind.i64 2, Value.int IntKind.i64 1, Value.int IntKind.i64 2, Value.int IntKind.i64 2, Value.int IntKind.i64 1, Value.int IntKind.i64 0, Value.int IntKind.i64 0, Value.int IntKind.i64 0, Value.int IntKind.i64 1, Value.int IntKind.i64 0, Value.int IntKind.i64 1] 3)).heap.size = w.heap.size + 1 by simp] at c2
    have HK := Lib.hid hk
    clear h hk c3
    go_enter Try.func19, Try.ntmps19
    go_wp2
    go_ret2
    exact has_is HK.out (by rfl) (by rfl) (((Below.refl _ _).alloc (Nat.le_refl _) _).alloc (by simp) _)
  · by_cases h1 : k < 1
    · go_enter Try.func19, Try.ntmps19
      go_wp2
      go_ret2
      exact has_not h (Below.refl _ _)
    · have h2 : 15 < k := by omega
      go_enter Try.func19, Try.ntmps19
      go_wp2
      go_ret2
      exact has_not h (Below.refl _ _)

theorem lright_any (k a b : Int) (s : ByteArray) (w : World) :
    Calls Try.prog 14 #[.agg #[.int .i64 k, .int .i64 a, .int .i64 b, .string s]] w fun e w' => e = .returned (.bool (rt k a b s.size)) ∧ Below w.heap.size w w' := by
  have HR := Lib.hid (show rt k a b s.size = (isK k && okN a (decide (1 ≤ nu k)) && okN b (decide (2 ≤ nu k)) && decide (s.size ≤ tx k)) from rfl)
  have hn := nu_cases k
  have hfin : ∀ v : Bool, v = (isK k && okN a (decide (1 ≤ nu k)) && okN b (decide (2 ≤ nu k)) && decide (s.size ≤ tx k)) → v = rt k a b s.size := fun v h => h.trans HR.out.symm
  have HF := Lib.hid hfin
  clear hfin HR
  go_enter Try.func14, Try.ntmps14
  go_wp2_with fail
  refine (has_any k _).mono ?_
  rintro e w1 ⟨n, t, rfl, hb, hyes, hno⟩
  obtain ⟨hc, hf⟩ := bcell hb
  have HB := Lib.hid (Below.trans ((Below.refl _ _).alloc (Nat.le_refl _) _) (hb.mono (by simp)))
  have hz : w.heap.size < w1.heap.size := by have := hb.size; simp at this; omega
  generalize nu k = N at *
  generalize tx k = T at *
  generalize isK k = ok at *
  cases ok
  · obtain ⟨rfl, rfl⟩ := hno rfl
    clear hyes hno
    go_wp2
    go_ret
    exact ⟨ret_bool (HF.out _ rfl), HB.out⟩
  · obtain ⟨rfl, rfl⟩ := hyes rfl
    clear hyes hno
    have HF2 := Lib.hid (fun v (h : v = (true && okN a (decide (1 ≤ N)) && okN b (decide (2 ≤ N)) && decide (s.size ≤ T))) => HF.out v h)
    clear HF
    have hn3 := hn
    by_cases hs : T < s.size
    · go_wp2
      go_ret
      exact ⟨ret_bool (HF2.out _ (by simp; omega)), HB.out⟩
    by_cases ha : a < 0 ∨ 1099511627776 < a ∨ b < 0 ∨ 1099511627776 < b
    · go_wp2
      all_goals
        go_ret
        exact ⟨ret_bool (HF2.out _ (by unfold okN; rcases hn3 with rfl | rfl | rfl <;> rw [Bool.eq_iff_iff] <;> simp <;> omega)), HB.out⟩
    · go_wp2
      all_goals
        go_ret
        exact ⟨ret_bool (HF2.out _ (by unfold okN; rcases hn3 with rfl | rfl | rfl <;> rw [Bool.eq_iff_iff] <;> simp <;> omega)), HB.out⟩

end Go.Proofs.Ytfmombbembiagaa
