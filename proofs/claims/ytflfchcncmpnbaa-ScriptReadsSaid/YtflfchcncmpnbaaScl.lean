/- What the law's own three, Right answer. -/
import Derived.Test.YtflfchcncmpnbaaScd
import Derived.Laws.RangeString
namespace Go.Proofs.Ytflfchcncmpnbaa
open Go.RowKit
open Sc

theorem lthree_any (n : Nat) (h : n ≤ 1000000) (w : World) :
    Calls Try.prog 24 #[.int .i64 n] w fun r w' => ∃ A c, r = .returned (.slice A 3 c) ∧ Own w.heap.size w' A 3 c (three n) ∧ Below w.heap.size w w' := by
  go_enter Try.func24, Try.ntmps24
  go_wp2
  go_ret
  exact ⟨_, _, rfl, three_new w (b8 (n / 65536)) (b8 (n / 256)) (b8 n) _ _ _ (by rw [← b8_int]; try (simp; try omega)) (by rw [← b8_int]; try (simp; try omega)) (by rw [← b8_int]; try (simp; try omega)) _ (Nat.le_refl _), (Below.refl _ _).alloc (Nat.le_refl _) _⟩

/-- the law's table: which of i, n and d each kind has -/
def hs : Nat → ByteArray
  | 0 => ⟨#[105]⟩ | 1 => ⟨#[105, 100]⟩ | 2 => ⟨#[105, 110]⟩ | 3 => ⟨#[100]⟩
  | 4 => ⟨#[110]⟩ | 5 => ⟨#[]⟩ | 6 => ⟨#[105]⟩ | _ => ⟨#[110]⟩
def hss : Array Value := #[.string ⟨#[105]⟩, .string ⟨#[105, 100]⟩, .string ⟨#[105, 110]⟩, .string ⟨#[100]⟩, .string ⟨#[110]⟩, .string ⟨#[]⟩, .string ⟨#[105]⟩, .string ⟨#[110]⟩]
def fl (c : UInt8) (s : ByteArray) (pos : Nat) : Bool := (s.data.toList.take pos).any (· == c)

theorem eight {K : Nat} (h : K ≤ 7) : K = 0 ∨ K = 1 ∨ K = 2 ∨ K = 3 ∨ K = 4 ∨ K = 5 ∨ K = 6 ∨ K = 7 := by omega
theorem hss_at (K : Nat) (h : K ≤ 7) : hss[K]? = some (.string (hs K)) := by
  rcases eight h with rfl | rfl | rfl | rfl | rfl | rfl | rfl | rfl <;> rfl
theorem hs_size (K : Nat) (h : K ≤ 7) : (hs K).size ≤ 2 := by
  rcases eight h with rfl | rfl | rfl | rfl | rfl | rfl | rfl | rfl <;> decide
theorem fl_end (K : Nat) (h : K ≤ 7) : fl 105 (hs K) (hs K).size = hasI K ∧ fl 110 (hs K) (hs K).size = hasN K ∧ fl 100 (hs K) (hs K).size = hasD K := by
  rcases eight h with rfl | rfl | rfl | rfl | rfl | rfl | rfl | rfl <;> decide
theorem row16 (w : World) (v : Array Value) (t : TypeId) (K : Nat) (x : Value) (h : v[K]? = some x) : (w.alloc (.cells v t)).cell? ⟨w.heap.size, K, none⟩ = some x := by
  rw [cell_of_row _ _ _ _ _ _ (heap_alloc_new _ _)]
  exact h
/-- one letter more: which, and what the flags are then -/
theorem fl_step (K pos : Nat) (h : K ≤ 7) (hp : pos < (hs K).size) : ∃ c : UInt8, (hs K)[pos]'hp = c ∧ (c = 105 ∨ c = 110 ∨ c = 100) ∧
    fl 105 (hs K) (pos + 1) = (fl 105 (hs K) pos || c == 105) ∧ fl 110 (hs K) (pos + 1) = (fl 110 (hs K) pos || c == 110) ∧ fl 100 (hs K) (pos + 1) = (fl 100 (hs K) pos || c == 100) := by
  have h2 := hs_size K h
  rcases eight h with rfl | rfl | rfl | rfl | rfl | rfl | rfl | rfl <;> rcases (show pos = 0 ∨ pos = 1 by omega) with rfl | rfl <;> first | (exact absurd hp (of_decide_eq_false rfl)) | (refine ⟨105, rfl, ?_, ?_, ?_, ?_⟩ <;> decide) | (refine ⟨110, rfl, ?_, ?_, ?_, ?_⟩ <;> decide) | (refine ⟨100, rfl, ?_, ?_, ?_, ?_⟩ <;> decide)

set_option maxHeartbeats 4000000 in
theorem lright16_any (e : Ev) (w : World) :
    Calls Try.prog 11 #[evv e] w fun r w' => r = .returned (.bool (rtE e)) ∧ Below w.heap.size w w' := by
  have HN := Lib.hid (fun (h : inB e = false) => rtE_no h)
  have HY := Lib.hid (fun (h : inB e = true) => (show rtE e = ((hasI e.k || decide (e.i = 0)) && ((hasN e.k || decide (e.n = 0)) && (hasD e.k || decide (e.t = [])))) by unfold rtE ownB; rw [h]; rfl))
  have HI := Lib.hid (show inB e = (decide (0 ≤ e.k) && (decide (e.k ≤ 7) && (decide (0 ≤ e.i) && (decide (e.i ≤ 255) && (decide (0 ≤ e.n) && (decide (e.n ≤ 65536) && decide (e.t.length ≤ 4000))))))) from rfl)
  have HS := Lib.hid (str_size e.t)
  unfold evv
  generalize rtE e = R at *
  generalize inB e = B at *
  obtain ⟨k, i, n, t⟩ := e
  simp only at HI HS HY ⊢
  have HX := Lib.hid (Bx.new w w.heap.size rfl #[.int .i64 k, .int .i64 i, .int .i64 n, .string (str t)] 30)
  have HB := Lib.hid ((Below.refl w.heap.size w).alloc (Nat.le_refl _) (.cells #[.int .i64 k, .int .i64 i, .int .i64 n, .string (str t)] 30))
  go_enter Try.func11, Try.ntmps11
  go_upto_region 1 with fail
  generalize w.alloc _ = w1 at *
  obtain ⟨c0, c1, c2, c3⟩ := HX.out.ev
  by_cases h0 : k < 0
  case pos =>
    have d0 : decide (k < 0) = true := by simpa using h0
    have hf := HN.out (by rw [HI.out]; simp; omega)
    subst hf
    clear h0
    go_wp2
    go_ret
    exact ⟨rfl, HB.out⟩
  have d0 : decide (k < 0) = false := by simpa using h0
  by_cases h1 : k > 7
  case pos =>
    have d1 : decide (k > 7) = true := by simpa using h1
    have hf := HN.out (by rw [HI.out]; simp; omega)
    subst hf
    clear h1
    go_wp2
    go_ret
    exact ⟨rfl, HB.out⟩
  have d1 : decide (k > 7) = false := by simpa using h1
  by_cases h2 : i < 0
  case pos =>
    have d2 : decide (i < 0) = true := by simpa using h2
    have hf := HN.out (by rw [HI.out]; simp; omega)
    subst hf
    clear h2
    go_wp2
    go_ret
    exact ⟨rfl, HB.out⟩
  have d2 : decide (i < 0) = false := by simpa using h2
  by_cases h3 : i > 255
  case pos =>
    have d3 : decide (i > 255) = true := by simpa using h3
    have hf := HN.out (by rw [HI.out]; simp; omega)
    subst hf
    clear h3
    go_wp2
    go_ret
    exact ⟨rfl, HB.out⟩
  have d3 : decide (i > 255) = false := by simpa using h3
  by_cases h4 : n < 0
  case pos =>
    have d4 : decide (n < 0) = true := by simpa using h4
    have hf := HN.out (by rw [HI.out]; simp; omega)
    subst hf
    clear h4
    go_wp2
    go_ret
    exact ⟨rfl, HB.out⟩
  have d4 : decide (n < 0) = false := by simpa using h4
  by_cases h5 : n > 65536
  case pos =>
    have d5 : decide (n > 65536) = true := by simpa using h5
    have hf := HN.out (by rw [HI.out]; simp; omega)
    subst hf
    clear h5
    go_wp2
    go_ret
    exact ⟨rfl, HB.out⟩
  have d5 : decide (n > 65536) = false := by simpa using h5
  by_cases h6 : ((str t).size : Int) > 4000
  case pos =>
    have d6 : decide (((str t).size : Int) > 4000) = true := by simpa using h6
    have hf := HN.out (by rw [HI.out, ← HS.out]; simp; omega)
    subst hf
    clear h6
    go_wp2
    go_ret
    exact ⟨rfl, HB.out⟩
  have d6 : decide (((str t).size : Int) > 4000) = false := by simpa using h6
  obtain ⟨K, rfl⟩ := Int.eq_ofNat_of_zero_le (show 0 ≤ k by omega)
  have hK : K ≤ 7 := by omega
  have hy := HY.out (by rw [HI.out, ← HS.out]; simp; omega)
  obtain ⟨q1, q2, q3⟩ := fl_end K hK
  rw [← q1, ← q2, ← q3] at hy
  have HR := Lib.hid hy
  clear HN HY HI q1 q2 q3 hy h0 h1 h2 h3 h4 h5 h6
  have hgw := HX.out.room
  go_upto_region 3 with fail
  clear d0 d1 d2 d3 d4 d5 d6
  have hK8 : K < 8 := by omega
  have hc := row16 w1 hss 9 K _ (hss_at K hK)
  have HX2 := Lib.hid (HX.out.go ((Below.refl w1.heap.size w1).alloc (Nat.le_refl _) (.cells hss 9)) hgw)
  have HB2 := Lib.hid (HB.out.alloc (by omega) (.cells hss 9))
  have hgw2 : w.heap.size + 1 ≤ (w1.alloc (.cells hss 9)).heap.size := HX2.out.room
  unfold hss at hc HX2 HB2 hgw2
  obtain ⟨b0, b1, b2, b3⟩ := HX2.out.ev
  go_upto_region 7 with fail
  generalize w1.alloc _ = w2 at *
  clear hc c0 c1 c2 c3 HX HB b0 b1 b2 b3
  obtain ⟨g, hg⟩ : ∃ g, w.heap.size = g := ⟨_, rfl⟩
  rw [hg] at HX2 HB2 hgw2
  simp only [hg]
  have HG := Lib.hid hg
  clear hg hgw
  have HK := Lib.hid hK
  obtain ⟨S, hS⟩ : ∃ S, hs K = S := ⟨_, rfl⟩
  rw [hS] at HR
  have HSt := Lib.hid (fun (pos : Nat) (hp : pos < S.size) => (show ∃ c : UInt8, S[pos]'hp = c ∧ (c = 105 ∨ c = 110 ∨ c = 100) ∧
    fl 105 S (pos + 1) = (fl 105 S pos || c == 105) ∧ fl 110 S (pos + 1) = (fl 110 S pos || c == 110) ∧ fl 100 S (pos + 1) = (fl 100 S pos || c == 100) by subst hS; exact fl_step K pos hK hp))
  simp only [hS]
  clear hS hK hK8
  go_wp2_with fail
  go_loopw [4, 5, 6] (fun a b c wr => ∃ pos : Nat, pos ≤ S.size ∧ wr = w2.iter S pos ∧ a = .bool (fl 105 S pos) ∧ b = .bool (fl 110 S pos) ∧ c = .bool (fl 100 S pos)) (fun _ _ _ wr => S.size - wr.iterPos w2.heap.size)
  case atStart => exact ⟨0, by omega, rfl, rfl, rfl, rfl⟩
  case round =>
    obtain ⟨pos, hpos, rfl, rfl, rfl, rfl⟩ := hrel
    by_cases hlt : pos < S.size
    · obtain ⟨c, hc, hcc, f1, f2, f3⟩ := HSt.out pos hlt
      have hnx := fun ty => run_next_ascii (P := Try.prog) w2 S pos ty hlt (by rw [hc]; rcases hcc with rfl | rfl | rfl <;> decide)
      rw [hc] at hnx
      have F1 := Lib.hid f1
      have F2 := Lib.hid f2
      have F3 := Lib.hid f3
      clear f1 f2 f3 hc
      generalize fl 105 S pos = x1 at *
      generalize fl 110 S pos = x2 at *
      generalize fl 100 S pos = x3 at *
      have HL := Lib.hid hlt
      clear hlt hpos
      rcases hcc with rfl | rfl | rfl <;> cases x1 <;> cases x2 <;> cases x3
      all_goals
        simp at hnx
        go_wp2
        go_roundw
        case rel => exact ⟨pos + 1, HL.out, rfl, by rw [F1.out]; rfl, by rw [F2.out]; rfl, by rw [F3.out]; rfl⟩
        case measure => have := HL.out; simp; omega
    · have hnx := fun ty => run_next_end (P := Try.prog) w2 S pos ty hlt
      obtain rfl : pos = S.size := by omega
      obtain ⟨q1, q2, q3⟩ := (show fl 105 S S.size = fl 105 S S.size ∧ fl 110 S S.size = fl 110 S S.size ∧ fl 100 S S.size = fl 100 S S.size from ⟨rfl, rfl, rfl⟩)
      clear q1 q2 q3 hlt hpos HSt
      generalize fl 105 S S.size = I at *
      generalize fl 110 S S.size = N at *
      generalize fl 100 S S.size = D at *
      have HBi : Hid (Below g w (w2.iter S S.size)) := Lib.hid (HB2.out.alloc (by omega) _)
      have HXi := Lib.hid (show Bx g (w2.iter S S.size) #[.int .i64 K, .int .i64 i, .int .i64 n, .string (str t)] from HX2.out.go ((Below.refl w2.heap.size w2).alloc (Nat.le_refl _) _) hgw2)
      obtain ⟨c0, c1, c2, c3⟩ := HXi.out.ev
      have hte : t = [] → (str t).toList = [] := by rintro rfl; simp [str]
      have htn : t ≠ [] → (str t).toList.isEmpty = false := by
        intro h
        rcases t with _ | ⟨c, t⟩
        · exact absurd rfl h
        · rw [ByteArray.toList_eq]; rfl
      have HRI := HR
      rcases (show (I = false ∧ i ≠ 0) ∨ I = true ∨ (I = false ∧ i = 0) by cases I <;> by_cases h : i = 0 <;> simp [h]) with ⟨rfl, hi⟩ | rfl | ⟨rfl, rfl⟩
      · have d1 : (i == 0) = false := by simpa using hi
        have hv : R = false := by rw [HR.out]; simp [hi]
        subst hv
        clear hi hte htn HRI HR
        go_wp2
        go_ret
        exact ⟨rfl, by rw [HG.out]; exact HBi.out⟩
      all_goals
        rcases (show (N = false ∧ n ≠ 0) ∨ N = true ∨ (N = false ∧ n = 0) by cases N <;> by_cases h : n = 0 <;> simp [h]) with ⟨rfl, hn⟩ | rfl | ⟨rfl, rfl⟩
        · have d1 : (n == 0) = false := by simpa using hn
          have hv : R = false := by rw [HR.out]; simp [hn]
          subst hv
          clear hn hte htn HRI HR
          go_wp2
          go_ret
          exact ⟨rfl, by rw [HG.out]; exact HBi.out⟩
        all_goals
          rcases (show (D = false ∧ t ≠ []) ∨ D = true ∨ (D = false ∧ t = []) by cases D <;> by_cases h : t = [] <;> simp [h]) with ⟨rfl, ht⟩ | rfl | ⟨rfl, rfl⟩
          · have d1 := htn ht
            have hv : R = false := by rw [HR.out]; simp [ht]
            subst hv
            clear ht hte htn HRI HR
            go_wp2
            go_ret
            exact ⟨rfl, by rw [HG.out]; exact HBi.out⟩
          · have hv : R = true := by rw [HR.out]; simp
            subst hv
            clear hte htn HRI HR
            go_wp2
            go_ret
            exact ⟨rfl, by rw [HG.out]; exact HBi.out⟩
          · have d1 := hte rfl
            have hv : R = true := by rw [HR.out]; simp
            subst hv
            clear hte htn HRI HR
            go_wp2
            go_ret
            exact ⟨rfl, by rw [HG.out]; exact HBi.out⟩

end Go.Proofs.Ytflfchcncmpnbaa
