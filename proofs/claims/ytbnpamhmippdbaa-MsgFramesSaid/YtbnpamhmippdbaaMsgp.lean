/- What the message's functions answer: putNumber, number; a string behind bytes. -/
import Derived.Test.YtbnpamhmippdbaaMsgr
namespace Go.Proofs.Ytbnpamhmippdbaa
open Go.RowKit
open Fr Ms

theorem six_get (v : Int) (j : Nat) (h : j < 6) : (six v)[j]?.getD 0#8 = BitVec.ofInt 8 (v / 2 ^ (8 * (5 - j))) := by
  rcases (show j = 0 ∨ j = 1 ∨ j = 2 ∨ j = 3 ∨ j = 4 ∨ j = 5 by omega) with rfl | rfl | rfl | rfl | rfl | rfl <;> simp [six]

theorem take_get (l : Bs) (j : Nat) (h : j < l.length) : l.take (j + 1) = l.take j ++ [l[j]?.getD 0#8] := by
  rw [List.take_add_one, List.getElem?_eq_getElem h]
  rfl

theorem one_newv (w : World) (x : BitVec 8) (v : Int) (hv : v = x.toNat) : Bytes (w.alloc (.cells #[.int .u8 v] 5)) (w.heap.size + 1) (some ⟨w.heap.size, 0, none⟩) 1 [x] := by
  subst hv
  exact one_new w x

theorem byte_int (n : Int) : n % 256 = (BitVec.ofInt 8 n).toNat := by
  rw [byte_nat]
  omega

theorem putn6_any (base : Nat) (A : Option Addr) (n c : Nat) (l : Bs) (v : Int) (w : World) (h0 : 0 ≤ v) (h1 : v ≤ 1099511627776) (hown : Own base w A n c l) (hb : base ≤ w.heap.size) (hn : n ≤ 1000000000) :
    Calls Try.prog 18 #[.slice A n c, .int .i64 v] w fun e w' => ∃ A' c', e = .returned (.slice A' (n + 6) c') ∧ Own base w' A' (n + 6) c' (l ++ six v) ∧ Below base w w' := by
  have HO := Lib.hid hown
  clear hown
  go_enter Try.func18, Try.ntmps18
  go_wp2
  go_loopw [0, 5] (fun s i wr => ∃ (j : Nat) (x : Int) (A : Option Addr) (N c : Nat), j ≤ 6 ∧ x = 5 - (j : Int) ∧ N = n + j ∧ i = .int .i64 x ∧ s = .slice A N c ∧ Own base wr A N c (l ++ (six v).take j) ∧ Below base w wr) (fun _ i _ => (intOf i + 1).toNat)
  case atStart => exact ⟨0, 5, A, n, c, by omega, by omega, rfl, rfl, rfl, by simpa using HO.out, Below.refl _ _⟩
  case round =>
    obtain ⟨j, x, A1, N, c1, hj, hx, hN, rfl, rfl, hown, hbel⟩ := hrel
    have HO1 := Lib.hid hown
    have HB1 := Lib.hid hbel
    have hsz : base ≤ wr.heap.size := Nat.le_trans hb hbel.size
    clear hown hbel
    have hN2 : N ≤ 1000000006 := by omega
    have HN := Lib.hid hN
    clear hN
    by_cases hlt : j < 6
    · have hg := six_get v j hlt
      have ht := take_get (six v) j (by rw [six_len]; exact hlt)
      rw [hg] at ht
      have HT := Lib.hid ht
      clear ht hg
      rcases (show j = 0 ∨ j = 1 ∨ j = 2 ∨ j = 3 ∨ j = 4 ∨ j = 5 by omega) with rfl | rfl | rfl | rfl | rfl | rfl
      · obtain rfl : x = 5 := by omega
        clear hx hj hlt
        go_wp2_with (first
          | (at_builtin
             refine wpList_put rfl (.tmp 10) (.tmp 16) rfl base A1 N c1 (l ++ (six v).take 0) rfl (HO1.out.below ((Below.refl _ _).alloc (Nat.le_refl _) _)) _ (some ⟨wr.heap.size, 0, none⟩) 1 1 [BitVec.ofInt 8 (v / 2 ^ (8 * (5 - 0)))] rfl (one_newv wr _ _ (by rw [← byte_int]; simp; try omega)) (by omega) (by simp; omega) ?_
             intro A2 c2 w2 hown hbel
             have HO2 := Lib.hid hown
             have HB2 := Lib.hid (Below.trans HB1.out (Below.trans ((Below.refl _ _).alloc hsz _) hbel))
             clear hown hbel))
        go_roundw
        case rel => exact ⟨0 + 1, 4, A2, N + 1, c2, by omega, by omega, by have := HN.out; omega, rfl, rfl, by rw [HT.out, ← List.append_assoc]; exact HO2.out, HB2.out⟩
        case measure => simp [intOf]
      · obtain rfl : x = 4 := by omega
        clear hx hj hlt
        go_wp2_with (first
          | (at_builtin
             refine wpList_put rfl (.tmp 10) (.tmp 16) rfl base A1 N c1 (l ++ (six v).take 1) rfl (HO1.out.below ((Below.refl _ _).alloc (Nat.le_refl _) _)) _ (some ⟨wr.heap.size, 0, none⟩) 1 1 [BitVec.ofInt 8 (v / 2 ^ (8 * (5 - 1)))] rfl (one_newv wr _ _ (by rw [← byte_int]; simp; try omega)) (by omega) (by simp; omega) ?_
             intro A2 c2 w2 hown hbel
             have HO2 := Lib.hid hown
             have HB2 := Lib.hid (Below.trans HB1.out (Below.trans ((Below.refl _ _).alloc hsz _) hbel))
             clear hown hbel))
        go_roundw
        case rel => exact ⟨1 + 1, 3, A2, N + 1, c2, by omega, by omega, by have := HN.out; omega, rfl, rfl, by rw [HT.out, ← List.append_assoc]; exact HO2.out, HB2.out⟩
        case measure => simp [intOf]
      · obtain rfl : x = 3 := by omega
        clear hx hj hlt
        go_wp2_with (first
          | (at_builtin
             refine wpList_put rfl (.tmp 10) (.tmp 16) rfl base A1 N c1 (l ++ (six v).take 2) rfl (HO1.out.below ((Below.refl _ _).alloc (Nat.le_refl _) _)) _ (some ⟨wr.heap.size, 0, none⟩) 1 1 [BitVec.ofInt 8 (v / 2 ^ (8 * (5 - 2)))] rfl (one_newv wr _ _ (by rw [← byte_int]; simp; try omega)) (by omega) (by simp; omega) ?_
             intro A2 c2 w2 hown hbel
             have HO2 := Lib.hid hown
             have HB2 := Lib.hid (Below.trans HB1.out (Below.trans ((Below.refl _ _).alloc hsz _) hbel))
             clear hown hbel))
        go_roundw
        case rel => exact ⟨2 + 1, 2, A2, N + 1, c2, by omega, by omega, by have := HN.out; omega, rfl, rfl, by rw [HT.out, ← List.append_assoc]; exact HO2.out, HB2.out⟩
        case measure => simp [intOf]
      · obtain rfl : x = 2 := by omega
        clear hx hj hlt
        go_wp2_with (first
          | (at_builtin
             refine wpList_put rfl (.tmp 10) (.tmp 16) rfl base A1 N c1 (l ++ (six v).take 3) rfl (HO1.out.below ((Below.refl _ _).alloc (Nat.le_refl _) _)) _ (some ⟨wr.heap.size, 0, none⟩) 1 1 [BitVec.ofInt 8 (v / 2 ^ (8 * (5 - 3)))] rfl (one_newv wr _ _ (by rw [← byte_int]; simp; try omega)) (by omega) (by simp; omega) ?_
             intro A2 c2 w2 hown hbel
             have HO2 := Lib.hid hown
             have HB2 := Lib.hid (Below.trans HB1.out (Below.trans ((Below.refl _ _).alloc hsz _) hbel))
             clear hown hbel))
        go_roundw
        case rel => exact ⟨3 + 1, 1, A2, N + 1, c2, by omega, by omega, by have := HN.out; omega, rfl, rfl, by rw [HT.out, ← List.append_assoc]; exact HO2.out, HB2.out⟩
        case measure => simp [intOf]
      · obtain rfl : x = 1 := by omega
        clear hx hj hlt
        go_wp2_with (first
          | (at_builtin
             refine wpList_put rfl (.tmp 10) (.tmp 16) rfl base A1 N c1 (l ++ (six v).take 4) rfl (HO1.out.below ((Below.refl _ _).alloc (Nat.le_refl _) _)) _ (some ⟨wr.heap.size, 0, none⟩) 1 1 [BitVec.ofInt 8 (v / 2 ^ (8 * (5 - 4)))] rfl (one_newv wr _ _ (by rw [← byte_int]; simp; try omega)) (by omega) (by simp; omega) ?_
             intro A2 c2 w2 hown hbel
             have HO2 := Lib.hid hown
             have HB2 := Lib.hid (Below.trans HB1.out (Below.trans ((Below.refl _ _).alloc hsz _) hbel))
             clear hown hbel))
        go_roundw
        case rel => exact ⟨4 + 1, 0, A2, N + 1, c2, by omega, by omega, by have := HN.out; omega, rfl, rfl, by rw [HT.out, ← List.append_assoc]; exact HO2.out, HB2.out⟩
        case measure => simp [intOf]
      · obtain rfl : x = 0 := by omega
        clear hx hj hlt
        go_wp2_with (first
          | (at_builtin
             refine wpList_put rfl (.tmp 10) (.tmp 16) rfl base A1 N c1 (l ++ (six v).take 5) rfl (HO1.out.below ((Below.refl _ _).alloc (Nat.le_refl _) _)) _ (some ⟨wr.heap.size, 0, none⟩) 1 1 [BitVec.ofInt 8 (v / 2 ^ (8 * (5 - 5)))] rfl (one_newv wr _ _ (by rw [← byte_int]; simp; try omega)) (by omega) (by simp; omega) ?_
             intro A2 c2 w2 hown hbel
             have HO2 := Lib.hid hown
             have HB2 := Lib.hid (Below.trans HB1.out (Below.trans ((Below.refl _ _).alloc hsz _) hbel))
             clear hown hbel))
        go_roundw
        case rel => exact ⟨5 + 1, -1, A2, N + 1, c2, by omega, by omega, by have := HN.out; omega, rfl, rfl, by rw [HT.out, ← List.append_assoc]; exact HO2.out, HB2.out⟩
        case measure => simp [intOf]
    · obtain rfl : j = 6 := by omega
      obtain rfl : x = -1 := by omega
      go_wp2
      go_ret
      have hN := HN.out
      subst hN
      exact ⟨A1, c1, rfl, by simpa [six] using HO1.out, HB1.out⟩

theorem ret_i64 {a b : Int} (h : a = b) : Value.int .i64 a = .int .i64 b := by rw [h]

theorem or_byte (m x : Nat) (hm : m < 256 ^ 5) (hx : x < 256) : bits .or .i64 ((m : Int) * 256) (x : Int) = ((256 * m + x : Nat) : Int) := by
  have hm2 : m < 1099511627776 := hm
  have e : (BitVec.ofInt 64 ((m : Int) * 256) ||| BitVec.ofInt 64 (x : Int)).toNat = 256 * m + x := by
    rw [BitVec.toNat_or, BitVec.toNat_ofInt, BitVec.toNat_ofInt]
    rw [show ((m : Int) * 256 % (2 ^ 64 : Nat)).toNat = m <<< 8 by rw [Nat.shiftLeft_eq]; omega, show ((x : Int) % (2 ^ 64 : Nat)).toNat = x by omega]
    rw [← Nat.shiftLeft_add_eq_or_of_lt (by omega), Nat.shiftLeft_eq]
    omega
  show IntKind.i64.wrap ((BitVec.ofInt 64 ((m : Int) * 256) ||| BitVec.ofInt 64 (x : Int)).toNat : Int) = _
  rw [e, IntKind.wrap_i64]
  omega

theorem num6_any (a : Option Addr) (n cap B : Nat) (l : Bs) (w : World) (hl : Bytes w B a n l) (h6 : 6 ≤ n) (hcap : n ≤ cap) :
    Calls Try.prog 22 #[.slice a n cap] w fun e w' => e = .returned (.int .i64 (num6 l)) ∧ w = w' := by
  obtain ⟨b, off, rfl, hbB, hc⟩ := hl.2 (by omega)
  have hlen := hl.1
  have HL := Lib.hid hlen
  clear hl hlen
  go_enter Try.func22, Try.ntmps22
  go_wp2
  go_loop [3, 9] (fun t i => ∃ j : Nat, j ≤ 6 ∧ i = .int .i64 j ∧ t = .int .i64 (nat (l.take j))) (fun _ i => 6 - (intOf i).toNat)
  case atStart => exact ⟨0, by omega, rfl, rfl⟩
  case round =>
    obtain ⟨j, hj, rfl, rfl⟩ := hrel
    by_cases hlt : j < 6
    · have hck := hc j (by omega)
      have hs : nat (l.take (j + 1)) = 256 * nat (l.take j) + (l[j]?.getD 0#8).toNat := by
        rw [take_get l j (by have := HL.out; omega), nat_snoc]
      have hlt2 : nat (l.take j) < 256 ^ 5 := nat_lt _ 5 (by simp; omega)
      have HS := Lib.hid hs
      clear hs hc
      generalize nat (l.take j) = m at *
      generalize l[j]?.getD 0#8 = x at *
      have h8 := x.isLt
      go_wp2
      go_round
      case rel => exact ⟨j + 1, by omega, by go_num, ret_i64 (by rw [HS.out, or_byte m _ hlt2 h8])⟩
      case measure => simp [intOf]; omega
    · obtain rfl : j = 6 := by omega
      go_wp2
      go_ret
      exact ⟨rfl, rfl⟩

end Go.Proofs.Ytbnpamhmippdbaa
