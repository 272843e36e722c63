/- What the laws' own few of layer 7 answers. -/
import Derived.Test.YtfehlmoghibamaaSpm
import Derived.Test.YtfehlmoghibamaaInp
namespace Go.Proofs.Ytfehlmoghibamaa
open Go.RowKit

/-- how many bytes the first pieces have -/
def totp (L : Nat → Nat) : Nat → Nat
  | 0 => 0
  | k + 1 => totp L k + L k

theorem totp_le (L : Nat → Nat) (m : Nat) : ∀ k, (∀ r, r < k → L r ≤ m) → totp L k ≤ k * m
  | 0, _ => Nat.zero_le _
  | k + 1, h => by
    have h1 := totp_le L m k (fun r hr => h r (by omega))
    have h2 := h k (by omega)
    rw [totp, Nat.add_mul, Nat.one_mul]
    omega

def fewP (L : Nat → Nat) (n : Nat) : Bool := decide (n ≤ 100) && decide (totp L n ≤ 2000)

theorem few_any (a : Option Addr) (n cap B : Nat) (A : Nat → Option Addr) (L C : Nat → Nat) (T : Nat → Bs) (w : World) (h : Pcs w B a n A L C T) (hn : n ≤ 9223372036854775807) :
    Calls Try.prog 8 #[.slice a n cap] w fun e w' => e = .returned (.bool (fewP L n)) ∧ w = w' := by
  have HW := Lib.hid h
  clear h
  by_cases h100 : n ≤ 100
  · have hd : decide ((n : Int) ≤ 100) = true := by simp; omega
    have HF := Lib.hid (show fewP L n = decide (totp L n ≤ 2000) by unfold fewP; simp [h100])
    go_enter Try.func8, Try.ntmps8
    go_wp2
    go_loop [3, 8] (fun s i => ∃ k : Nat, k ≤ n ∧ i = .int .i64 k ∧ s = .int .i64 (totp L k)) (fun _ i => n - (intOf i).toNat)
    case atStart => exact ⟨0, by omega, rfl, rfl⟩
    case round =>
      obtain ⟨k, hk, rfl, rfl⟩ := hrel
      by_cases hlt : k < n
      · obtain ⟨b, off, rfl, hbB, hc⟩ := HW.out.outer (by omega)
        have hc0 := hc k hlt
        clear hc
        have hadd : (totp L k : Int) + (L k : Int) ≤ 9223372036854775807 := by
          have h1 := totp_le L most (k + 1) (fun r hr => Nat.le_trans (HW.out.inner r (by omega)).2.1 (HW.out.inner r (by omega)).2.2)
          have h2 : (k + 1) * most ≤ 100 * most := Nat.mul_le_mul_right _ (by omega)
          unfold most at h1 h2
          simp only [totp] at h1
          omega
        go_wp2
        go_round
        case rel => exact ⟨k + 1, by omega, by go_num, by simp only [totp]; go_num⟩
        case measure => simp [intOf]; omega
      · obtain rfl : k = n := by omega
        go_wp2
        go_ret
        exact ⟨ret_bool (by rw [HF.out]; simp; omega), rfl⟩
  · have hd : decide ((n : Int) ≤ 100) = false := by simp; omega
    have HF := Lib.hid (show fewP L n = false by unfold fewP; simp [h100])
    go_enter Try.func8, Try.ntmps8
    go_wp2
    go_loop [3, 8] (fun s i => ∃ (k : Nat) (v : Int), k ≤ n ∧ i = .int .i64 k ∧ s = .int .i64 v) (fun _ i => n - (intOf i).toNat)
    case atStart => exact ⟨0, 0, by omega, rfl, rfl⟩
    case round =>
      obtain ⟨k, v, hk, rfl, rfl⟩ := hrel
      by_cases hlt : k < n
      · obtain ⟨b, off, rfl, hbB, hc⟩ := HW.out.outer (by omega)
        have hc0 := hc k hlt
        clear hc
        go_wp2
        go_round
        case rel => exact ⟨k + 1, _, by omega, by go_num, rfl⟩
        case measure => simp [intOf]; omega
      · obtain rfl : k = n := by omega
        go_wp2
        go_ret
        exact ⟨ret_bool (by rw [HF.out]), rfl⟩

end Go.Proofs.Ytfehlmoghibamaa
