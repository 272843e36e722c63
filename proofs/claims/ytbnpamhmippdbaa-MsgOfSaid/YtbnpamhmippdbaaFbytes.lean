/- What the law's own Bytes of layer 3 answers; Put of a frame, its bytes counted. -/
import Derived.Test.YtbnpamhmippdbaaFramew
import Derived.Laws.IdiomStrings
import Derived.Deep.RegionHeld3
import Derived.IntWalk
namespace Go.Proofs.Ytbnpamhmippdbaa
open Go.RowKit
open Fr
open Crc (more)

theorem bytes_any (k : BitVec 8) (a : Option Addr) (m c B : Nat) (body : Bs) (w : World) (hl : Bytes w B a m body) (hB : B ≤ w.heap.size) (hm : m ≤ 60000) :
    Calls Try.prog 13 #[.int .u8 k.toNat, .slice a m c] w fun e w' => ∃ A c', e = .returned (.slice A (m + 5) c') ∧ Own w.heap.size w' A (m + 5) c' (fr k body) ∧ Below w.heap.size w w' := by
  have HL := Lib.hid hl
  clear hl
  go_enter Try.func13, Try.ntmps13
  go_wp2_with (first
    | (at_builtin
       refine wpList_put rfl (.tmp 19) (.tmp 20) rfl w.heap.size _ 3 3 [_, _, _] rfl (three_new w (BitVec.ofNat 8 ((m + 1) / 256)) (BitVec.ofNat 8 (m + 1)) k _ _ _ (num_hi (m + 1) (by omega)) (num_lo (m + 1)) rfl w.heap.size (Nat.le_refl _)) B a m c body rfl (HL.out.below ((Below.refl _ _).alloc hB _)) (by omega) (by simp) ?_
       intro A1 c1 w1 hown hbel
       have HO1 := Lib.hid hown
       have HB1 := Lib.hid (Below.trans ((Below.refl _ _).alloc (Nat.le_refl _) _) hbel)
       obtain ⟨g1, rfl, hg1, hgg1⟩ := hown.form (by omega)
       have hcap := hown.cap
       have hne : ¬ c1 = 2 := by omega
       clear hown hbel))
  have hby := HO1.out.bytes.cut2 (cap := c1) (j := 2) (by omega) hcap hne
  rw [Nat.zero_add] at hby
  have HBy := Lib.hid hby
  clear hby
  refine (lawof_any 0xffff#16 _ _ _ w1.heap.size (k :: body) w1 (by omega) HBy.out).mono ?_
  rintro e w2 ⟨rfl, rfl⟩
  have hs := sum_lt (k :: body)
  have hand := u16_and_nat (sum (k :: body)) 255 hs (by decide)
  rw [show (((255 : Nat)) : Int) = 255 from rfl, show sum (k :: body) &&& 255 = sum (k :: body) % 256 from Nat.and_two_pow_sub_one_eq_mod _ 8] at hand
  rw [show ((more 0xffff#16 (k :: body)).toNat) = sum (k :: body) from rfl]
  generalize hS : sum (k :: body) = S at *
  have HS := Lib.hid hS
  clear hS
  go_wp2_with (first
    | (at_builtin
       refine wpList_put rfl (.tmp 25) (.tmp 32) rfl w.heap.size _ (3 + m) c1 _ rfl (HO1.out.below ((Below.refl _ _).alloc (Nat.le_refl _) _)) (w1.heap.size + 1) (some ⟨w1.heap.size, 0, none⟩) 2 2 (num S) rfl (two_new w1 _ _ _ _ (num_hi S hs) (num_lo S)) (by omega) (by have := HB1.out.size; simp; omega) ?_
       intro A2 c2 w2 hown hbel
       have HO2 := Lib.hid hown
       have HB2 := Lib.hid (Below.trans (HB1.out.alloc HB1.out.size _) hbel)
       clear hown hbel))
  go_ret
  have hS := HS.out
  have h2 := HO2.out
  have hbl := HL.out.1
  rw [← hS, show [BitVec.ofNat 8 ((m + 1) / 256), BitVec.ofNat 8 (m + 1), k] ++ body ++ num (sum (k :: body)) = fr k body by simp [fr, pre, num, hbl], show 3 + m + 2 = m + 5 by omega] at h2
  exact ⟨A2, c2, slice_ret rfl (by omega) rfl, h2, HB2.out⟩

/-- Put of a frame that can be written, its bytes counted -/
theorem put_eq (a : Option Addr) (n cap B : Nat) (l : Bs) (k : BitVec 8) (a2 : Option Addr) (m c2 : Nat) (body L : Bs) (N : Nat) (hN : n + m + 5 = N) (hL : l ++ fr k body = L) (w : World) (hl : Bytes w B a n l) (hl2 : Bytes w B a2 m body) (hB : B ≤ w.heap.size) (hn : n ≤ 1000000) (hm : m ≤ 2048) :
    Calls Try.prog 21 #[.slice a n cap, .agg #[.int .u8 k.toNat, .slice a2 m c2]] w fun e w' => ∃ A c, e = .returned (.slice A N c) ∧ Own w.heap.size w' A N c L ∧ Below w.heap.size w w' := by
  subst hN hL
  exact put_yes a n cap B l k a2 m c2 body w hl hl2 hB hn hm

end Go.Proofs.Ytbnpamhmippdbaa
