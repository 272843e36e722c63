/- What the laws' own Byte, New and few of layer 7 answer. -/
import Derived.Test.YtfehlmoghibamaaSpl
namespace Go.Proofs.Ytfehlmoghibamaa
open Go.RowKit
open Sp

theorem byte_any (g : Nat) (s : Sp) (n : Nat) (x : BitVec 8) (w : World) (hx : Bx g w (MV s)) (hok : Ok s n) (hn : n ≤ 1000000000) :
    Calls Try.prog 12 #[.pointer (some ⟨g, 0, none⟩), .int .u8 x.toNat] w (ByteGives g w (nxt s x.toNat)) := by
  obtain ⟨W, c, r, q⟩ := s
  obtain ⟨w0, w1, c0, c1, r0, r1, q0⟩ := hok
  simp only at w0 w1 c0 c1 r0 r1 q0
  have hr1 : r ≤ 1000000000 := by omega
  have h8 : x.toNat < 256 := x.isLt
  generalize x.toNat = b at *
  clear r1
  unfold nxt
  simp only
  rcases q0 with rfl | rfl | rfl
  · rw [if_neg (by omega), if_neg (by omega)]
    unfold Sp.lone
    simp only
    by_cases h1 : b = 27
    · rw [if_pos h1]; exact byte_27 g W c r b w hx w0 w1 c0 c1 r0 hr1 h8 h1
    rw [if_neg h1]
    by_cases h2 : b = 13
    · rw [if_pos h2]; exact byte_13 g W c r b w hx w0 w1 c0 c1 r0 hr1 h8 h2
    rw [if_neg h2]
    by_cases h3 : b = 10
    · rw [if_pos h3]; exact byte_10 g W c r b w hx w0 w1 c0 c1 r0 hr1 h8 h3
    rw [if_neg h3]
    by_cases h4 : b = 8
    · rw [if_pos h4]
      by_cases hc : 0 < c
      · rw [if_pos hc]; exact byte_8 g W c r b w hx w0 w1 c0 c1 r0 hr1 h8 h4 hc
      · rw [if_neg hc]
        obtain rfl : c = 0 := by omega
        exact byte_80 g W 0 r b w hx w0 w1 c0 c1 r0 hr1 h8 h4 rfl
    rw [if_neg h4]
    by_cases h5 : b = 9
    · rw [if_pos h5]
      by_cases hc : W - 1 < c / 8 * 8 + 8
      · rw [if_pos hc]; exact byte_90 g W c r b w hx w0 w1 c0 c1 r0 hr1 h8 h5 (by omega)
      · rw [if_neg hc]; exact byte_9 g W c r b w hx w0 w1 c0 c1 r0 hr1 h8 h5 (by omega)
    rw [if_neg h5]
    by_cases h6 : b < 32
    · rw [if_pos (.inl h6)]; exact byte_lo g W c r b w hx w0 w1 c0 c1 r0 hr1 h8 h1 h2 h3 h4 h5 h6
    by_cases h7 : b = 127
    · rw [if_pos (.inr h7)]; exact byte_del g W c r b w hx w0 w1 c0 c1 r0 hr1 h8 h7
    rw [if_neg (by omega)]
    by_cases hc : c + 1 < W
    · rw [if_pos hc]; exact byte_s g W c r b w hx w0 w1 c0 c1 r0 hr1 h8 h1 h2 h3 h4 h5 h6 h7 hc
    · rw [if_neg hc]; exact byte_s0 g W c r b w hx w0 w1 c0 c1 r0 hr1 h8 h1 h2 h3 h4 h5 h6 h7 hc
  · rw [if_pos rfl]
    by_cases h1 : b = 91
    · rw [if_pos h1]; exact byte_1a g W c r b w hx w0 w1 c0 c1 r0 hr1 h8 h1
    · rw [if_neg h1]; exact byte_1b g W c r b w hx w0 w1 c0 c1 r0 hr1 h8 h1
  · rw [if_neg (by omega), if_pos rfl]
    unfold Sp.way
    simp only
    by_cases h1 : b = 65
    · rw [if_pos h1]
      by_cases hc : 0 < r
      · rw [if_pos hc]; exact byte_2a g W c r b w hx w0 w1 c0 c1 r0 hr1 h8 h1 hc
      · rw [if_neg hc]
        obtain rfl : r = 0 := by omega
        exact byte_2a0 g W c 0 b w hx w0 w1 c0 c1 r0 hr1 h8 h1 rfl
    rw [if_neg h1]
    by_cases h2 : b = 66
    · rw [if_pos h2]; exact byte_2b g W c r b w hx w0 w1 c0 c1 r0 hr1 h8 h2
    rw [if_neg h2]
    by_cases h3 : b = 67
    · rw [if_pos h3]
      by_cases hc : c < W - 1
      · rw [if_pos hc]; exact byte_2c g W c r b w hx w0 w1 c0 c1 r0 hr1 h8 h3 hc
      · rw [if_neg hc]; exact byte_2c0 g W c r b w hx w0 w1 c0 c1 r0 hr1 h8 h3 hc
    rw [if_neg h3]
    by_cases h4 : b = 68
    · rw [if_pos h4]
      by_cases hc : 0 < c
      · rw [if_pos hc]; exact byte_2d g W c r b w hx w0 w1 c0 c1 r0 hr1 h8 h4 hc
      · rw [if_neg hc]
        obtain rfl : c = 0 := by omega
        exact byte_2d0 g W 0 r b w hx w0 w1 c0 c1 r0 hr1 h8 h4 rfl
    rw [if_neg h4]
    exact byte_2e g W c r b w hx w0 w1 c0 c1 r0 hr1 h8 h1 h2 h3 h4

/-- how many columns -/
def cols (a : Int) : Int := if a < 1 then 1 else if 500 < a then 500 else a

theorem cols_ok (a : Int) : Ok ⟨cols a, 0, 0, 0⟩ 0 := Ok.start (by unfold cols; (repeat' split) <;> omega) (by unfold cols; (repeat' split) <;> omega)

theorem lnew_any (a : Int) (w : World) :
    Calls Try.prog 10 #[.int .i64 a] w fun e w' => e = .returned (.pointer (some ⟨w.heap.size, 0, none⟩)) ∧ Bx w.heap.size w' (MV ⟨cols a, 0, 0, 0⟩) ∧ Below w.heap.size w w' := by
  rcases (show a < 1 ∨ (¬ a < 1 ∧ 500 < a) ∨ (¬ a < 1 ∧ ¬ 500 < a) by omega) with h | ⟨h1, h2⟩ | ⟨h1, h2⟩
  · have hc : cols a = 1 := by unfold cols; rw [if_pos h]
    rw [hc]
    clear hc
    go_enter Try.func10, Try.ntmps10
    go_wp2
    go_ret
    exact ⟨rfl, Bx.new w _ rfl _ _, (Below.refl _ _).alloc (Nat.le_refl _) _⟩
  · have hc : cols a = 500 := by unfold cols; rw [if_neg h1, if_pos h2]
    rw [hc]
    clear hc
    go_enter Try.func10, Try.ntmps10
    go_wp2
    go_ret
    exact ⟨rfl, Bx.new w _ rfl _ _, (Below.refl _ _).alloc (Nat.le_refl _) _⟩
  · have hc : cols a = a := by unfold cols; rw [if_neg h1, if_neg h2]
    rw [hc]
    clear hc
    go_enter Try.func10, Try.ntmps10
    go_wp2
    go_ret
    exact ⟨rfl, Bx.new w _ rfl _ _, (Below.refl _ _).alloc (Nat.le_refl _) _⟩

end Go.Proofs.Ytfehlmoghibamaa
