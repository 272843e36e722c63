/- SpotRounds: for every input the law answers true, and its arguments read as before. Conditions: none. -/
import Derived.Test.YtfehlmoghibamaaSph
import Derived.Test.YtfehlmoghibamaaTob
namespace Go.Proofs.Ytfehlmoghibamaa.spotRounds
open Go.ChangeShapes Go.WideShapes Go.ChangeAt Go.RowKit
open Sp

theorem and31 (a : Int) : ∃ r : Nat, r ≤ 31 ∧ bits .and .i64 a 31 = r := by
  have hlt : (BitVec.ofInt 64 a &&& BitVec.ofInt 64 31).toNat ≤ 31 := by
    rw [BitVec.toNat_and]
    exact Nat.and_le_right
  refine ⟨_, hlt, ?_⟩
  show IntKind.i64.wrap ((BitVec.ofInt 64 a &&& BitVec.ofInt 64 31).toNat : Int) = _
  rw [IntKind.wrap_i64]
  omega

/-- the places of the ways: behind k whole ways and t steps of the next -/
def pos (C R S k t : Nat) : Sp :=
  match k with
  | 0 => ⟨200, C, (R : Int) - t, 0⟩
  | 1 => ⟨200, (C : Int) - t, (R : Int) - S, 0⟩
  | 2 => ⟨200, (C : Int) - S, (R : Int) - S + t, 0⟩
  | 3 => ⟨200, (C : Int) - S + t, R, 0⟩
  | _ => ⟨200, C, R, 0⟩

def letter (k : Nat) : BitVec 8 := match k with | 0 => 65#8 | 1 => 68#8 | 2 => 66#8 | _ => 67#8

theorem pos_turn (C R S k : Nat) (hk : k < 4) : pos C R S k S = pos C R S (k + 1) 0 := by
  have key : ∀ c r c' r' : Int, c = c' → r = r' → (⟨200, c, r, 0⟩ : Sp) = ⟨200, c', r', 0⟩ := by rintro c r _ _ rfl rfl; rfl
  match k, hk with
  | 0, _ => exact key _ _ _ _ (by simp) (by simp)
  | 1, _ => exact key _ _ _ _ (by simp) (by simp)
  | 2, _ => exact key _ _ _ _ (by simp) (by simp)
  | 3, _ => exact key _ _ _ _ (by simp) (by simp)

theorem pos_ok (C R S k t : Nat) (hC : 40 ≤ C ∧ C ≤ 71) (hR : 40 ≤ R ∧ R ≤ 71) (hS : S ≤ 31) (ht : t ≤ S) : Ok (pos C R S k t) 1000 := by
  have key : ∀ c r : Int, 0 ≤ c → c < 200 → 0 ≤ r → r ≤ 1000 → Ok ⟨200, c, r, 0⟩ 1000 := fun c r h1 h2 h3 h4 => ⟨by simp, by simp, h1, h2, h3, h4, .inl rfl⟩
  match k with
  | 0 => exact key _ _ (by omega) (by omega) (by omega) (by omega)
  | 1 => exact key _ _ (by omega) (by omega) (by omega) (by omega)
  | 2 => exact key _ _ (by omega) (by omega) (by omega) (by omega)
  | 3 => exact key _ _ (by omega) (by omega) (by omega) (by omega)
  | _ + 4 => exact key C R (by omega) (by omega) (by omega) (by omega)

theorem sp_eq {c r c' r' : Int} (h1 : c = c') (h2 : r = r') : (⟨200, c, r, 0⟩ : Sp) = ⟨200, c', r', 0⟩ := by rw [h1, h2]

theorem pos_next (C R S k t : Nat) (hC : 40 ≤ C ∧ C ≤ 71) (hR : 40 ≤ R ∧ R ≤ 71) (hS : S ≤ 31) (hk : k < 4) (ht : t < S) :
    nxts (nxts (pos C R S k t) [27#8, 91#8]) [letter k] = pos C R S k (t + 1) := by
  match k, hk with
  | 0, _ =>
    show way ⟨200, (C : Int), (R : Int) - t, 0⟩ 65 = ⟨200, (C : Int), (R : Int) - ((t + 1 : Nat) : Int), 0⟩
    unfold way
    rw [if_pos rfl, if_pos (show (0 : Int) < (R : Int) - t by omega)]
    exact sp_eq rfl (show (R : Int) - t - 1 = (R : Int) - ((t + 1 : Nat) : Int) by omega)
  | 1, _ =>
    show way ⟨200, (C : Int) - t, (R : Int) - S, 0⟩ 68 = ⟨200, (C : Int) - ((t + 1 : Nat) : Int), (R : Int) - S, 0⟩
    unfold way
    rw [if_neg (by omega), if_neg (by omega), if_neg (by omega), if_pos rfl, if_pos (show (0 : Int) < (C : Int) - t by omega)]
    exact sp_eq (show (C : Int) - t - 1 = (C : Int) - ((t + 1 : Nat) : Int) by omega) rfl
  | 2, _ =>
    show way ⟨200, (C : Int) - S, (R : Int) - S + t, 0⟩ 66 = ⟨200, (C : Int) - S, (R : Int) - S + ((t + 1 : Nat) : Int), 0⟩
    unfold way
    rw [if_neg (by omega), if_pos rfl]
    exact sp_eq rfl (show (R : Int) - S + t + 1 = (R : Int) - S + ((t + 1 : Nat) : Int) by omega)
  | 3, _ =>
    show way ⟨200, (C : Int) - S + t, (R : Int), 0⟩ 67 = ⟨200, (C : Int) - S + ((t + 1 : Nat) : Int), (R : Int), 0⟩
    unfold way
    rw [if_neg (by omega), if_neg (by omega), if_pos rfl, if_pos (show (C : Int) - S + t < 200 - 1 by omega)]
    exact sp_eq (show (C : Int) - S + t + 1 = (C : Int) - S + ((t + 1 : Nat) : Int) by omega) rfl

theorem row_next (j : Nat) : nxts ⟨200, 0, (j : Int), 0⟩ [10#8] = ⟨200, 0, ((j + 1 : Nat) : Int), 0⟩ := by
  show (⟨200, 0, (j : Int) + 1, 0⟩ : Sp) = _
  exact sp_eq rfl (by omega)

theorem col_way (c r : Int) : nxts ⟨200, c, r, 0⟩ [27#8, 91#8, 67#8] = way ⟨200, c, r, 0⟩ 67 := rfl

theorem col_next (j : Nat) (r : Int) (h : j < 199) : nxts ⟨200, (j : Int), r, 0⟩ [27#8, 91#8, 67#8] = ⟨200, ((j + 1 : Nat) : Int), r, 0⟩ := by
  rw [col_way]
  unfold way
  rw [if_neg (by omega), if_neg (by omega), if_pos rfl, if_pos (show (j : Int) < 200 - 1 by omega)]
  exact sp_eq (show (j : Int) + 1 = ((j + 1 : Nat) : Int) by omega) rfl

set_option maxRecDepth 100000 in
theorem walk (a0 : Int) (a1 : Int) (a2 : Int) (w : World) (w0 : (Lit.int .i64 a0).wf = true) (w1 : (Lit.int .i64 a1).wf = true) (w2 : (Lit.int .i64 a2).wf = true) :
    Calls Try.prog 5 #[.int .i64 a0, .int .i64 a1, .int .i64 a2] w fun e w' => e = .returned (.bool true) ∧ Below w.heap.size w w' := by
  have HA0 := Lib.hid w0
  have HA1 := Lib.hid w1
  have HA2 := Lib.hid w2
  clear w0 w1 w2 HA0 HA1 HA2
  have kc := fun (w : World) (C : Array Value) (n c : Nat) => Lib.run_convert_bytes_const (P := Try.prog) w 29 5 C n c Try.underlying29 Try.underlying5
  obtain ⟨C0, hC, hc⟩ := and31 a0
  obtain ⟨R0, hR, hr⟩ := and31 a1
  obtain ⟨S, hS, hs0⟩ := and31 a2
  go_enter Try.func5, Try.ntmps5
  go_wp2_with fail
  refine (head_any w).mono ?_
  rintro e w1 ⟨rfl, hb1⟩
  have HB1 := Lib.hid hb1
  clear hb1
  go_wp2_with fail
  refine (snew_any 200 w1).mono ?_
  rintro e w2 ⟨g, rfl, hg, hs, hb2⟩
  have HB2 := Lib.hid (Below.trans HB1.out (hb2.mono HB1.out.size))
  have HS2 := Lib.hid (show SpotIs g w2 ⟨200, 0, ((0 : Nat) : Int), 0⟩ from hs)
  have hgw : w.heap.size ≤ g := Nat.le_trans HB1.out.size hg
  clear hs hb2 HB1 hg
  obtain ⟨C, hC1⟩ : ∃ C : Nat, C = 40 + C0 := ⟨_, rfl⟩
  obtain ⟨R, hR1⟩ : ∃ R : Nat, R = 40 + R0 := ⟨_, rfl⟩
  have eC : 40 + (C0 : Int) = (C : Int) := by omega
  have eR : 40 + (R0 : Int) = (R : Int) := by omega
  rw [eC, eR]
  have hCb : 40 ≤ C ∧ C ≤ 71 := by omega
  have hRb : 40 ≤ R ∧ R ≤ 71 := by omega
  clear eC eR hC1 hR1 hC hR hc hr hs0
  go_wp2_with fail
  go_loopw [8] (fun i wr => ∃ j : Nat, j ≤ R ∧ i = .int .i64 j ∧ SpotIs g wr ⟨200, 0, (j : Int), 0⟩ ∧ Below w.heap.size w wr) (fun i _ => R - (intOf i).toNat)
  case atStart => exact ⟨0, by omega, rfl, HS2.out, HB2.out⟩
  case round =>
    obtain ⟨j, hj, rfl, hs, hb⟩ := hrel
    have HS := Lib.hid hs
    have HB := Lib.hid hb
    have hgl := hs.lt
    clear hs hb
    by_cases hlt : j < R
    · clear HS2 HB2
      have hal : Below wr.heap.size wr (wr.alloc (.cells #[.int .u8 10] 5 (1, 2))) := (Below.refl _ _).alloc (Nat.le_refl _) _
      have HS3 := Lib.hid (HS.out.keep (only_below hal (fun _ => False)) (fun h => h))
      have HB3 := Lib.hid (Below.trans HB.out (hal.mono HB.out.size))
      have HL3 := Lib.hid (lit_new wr [10#8] #[.int .u8 10] 5 (1, 2) rfl)
      have hsz : (wr.alloc (.cells #[.int .u8 10] 5 (1, 2))).heap.size = wr.heap.size + 1 := by simp
      clear hal
      go_wp2_with fail
      generalize wr.alloc (.cells #[.int .u8 10] 5 (1, 2)) = w3 at *
      refine (sput_any g ⟨200, 0, (j : Int), 0⟩ 1000 (some ⟨wr.heap.size, 0, none⟩) 1 1 _ _ w3 HS3.out (Ok.mk' (by omega) (by omega) (by omega) (by omega) (by omega) (by omega) (by omega)) (by omega) HL3.out (by omega) (fun _ p hp => by injection hp with hp; subst hp; simp; omega)).mono ?_
      rintro e w4 ⟨rfl, ho4, hs4⟩
      rw [row_next] at hs4
      have HS4 := Lib.hid hs4
      have HB4 := Lib.hid (below_only HB3.out ho4 hgw)
      clear ho4 hs4
      go_wp2
      go_roundw
      case rel => exact ⟨j + 1, by omega, by go_num, HS4.out, HB4.out⟩
      case measure => simp [intOf]; omega
    · obtain rfl : j = R := by omega
      go_wp2_with fail
      have HS5 := Lib.hid (show SpotIs g wr ⟨200, ((0 : Nat) : Int), (j : Int), 0⟩ from HS.out)
      have HB5 := HB
      clear HS HB HS2 HB2
      generalize hwr : wr = w5 at *
      clear hwr
      go_loopw [9] (fun i wr => ∃ q : Nat, q ≤ C ∧ i = .int .i64 q ∧ SpotIs g wr ⟨200, (q : Int), (j : Int), 0⟩ ∧ Below w.heap.size w wr) (fun i _ => C - (intOf i).toNat)
      case atStart => exact ⟨0, by omega, rfl, HS5.out, HB5.out⟩
      case round =>
        obtain ⟨q, hq, rfl, hs, hb⟩ := hrel
        have HS := Lib.hid hs
        have HB := Lib.hid hb
        have hgl := hs.lt
        clear hs hb HS5 HB5
        by_cases hlt : q < C
        · have hal : Below wr.heap.size wr (wr.alloc (.cells #[.int .u8 27, .int .u8 91, .int .u8 67] 5 (3, 4))) := (Below.refl _ _).alloc (Nat.le_refl _) _
          have HS3 := Lib.hid (HS.out.keep (only_below hal (fun _ => False)) (fun h => h))
          have HB3 := Lib.hid (Below.trans HB.out (hal.mono HB.out.size))
          have HL3 := Lib.hid (lit_new wr [27#8, 91#8, 67#8] #[.int .u8 27, .int .u8 91, .int .u8 67] 5 (3, 4) rfl)
          have hsz : (wr.alloc (.cells #[.int .u8 27, .int .u8 91, .int .u8 67] 5 (3, 4))).heap.size = wr.heap.size + 1 := by simp
          clear hal
          go_wp2_with fail
          generalize wr.alloc (.cells #[.int .u8 27, .int .u8 91, .int .u8 67] 5 (3, 4)) = w3 at *
          refine (sput_any g ⟨200, (q : Int), (j : Int), 0⟩ 1000 (some ⟨wr.heap.size, 0, none⟩) 3 3 _ _ w3 HS3.out (Ok.mk' (by omega) (by omega) (by omega) (by omega) (by omega) (by omega) (by omega)) (by omega) HL3.out (by omega) (fun _ p hp => by injection hp with hp; subst hp; simp; omega)).mono ?_
          rintro e w4 ⟨rfl, ho4, hs4⟩
          rw [col_next _ _ (by omega)] at hs4
          have HS4 := Lib.hid hs4
          have HB4 := Lib.hid (below_only HB3.out ho4 hgw)
          clear ho4 hs4
          go_wp2
          go_roundw
          case rel => exact ⟨q + 1, by omega, by go_num, HS4.out, HB4.out⟩
          case measure => simp [intOf]; omega
        · obtain rfl : q = C := by omega
          have HS6 := Lib.hid (show SpotIs g wr (pos q j S 0 0) by show SpotIs g wr ⟨200, (q : Int), (j : Int) - ((0 : Nat) : Int), 0⟩; simpa using HS.out)
          have HB6 := HB
          clear HS HB
          go_wp2_with fail
          have hal : Below wr.heap.size wr (wr.alloc (.cells #[.string ⟨#[65]⟩, .string ⟨#[68]⟩, .string ⟨#[66]⟩, .string ⟨#[67]⟩] 9)) := (Below.refl _ _).alloc (Nat.le_refl _) _
          have HS7 := Lib.hid (HS6.out.keep (only_below hal (fun _ => False)) (fun h => h))
          have HB7 := Lib.hid (Below.trans HB6.out (hal.mono HB6.out.size))
          have HZ7 := Lib.hid (Bx.new wr _ rfl #[.string ⟨#[65]⟩, .string ⟨#[68]⟩, .string ⟨#[66]⟩, .string ⟨#[67]⟩] 9)
          clear hal HS6 HB6
          generalize wr.alloc (.cells #[.string ⟨#[65]⟩, .string ⟨#[68]⟩, .string ⟨#[66]⟩, .string ⟨#[67]⟩] 9) = w7 at *
          generalize wr.heap.size = z at *
          go_loopw [46] (fun i wx => ∃ k : Nat, k ≤ 4 ∧ i = .int .i64 k ∧ SpotIs g wx (pos q j S k 0) ∧ Bx z wx #[.string ⟨#[65]⟩, .string ⟨#[68]⟩, .string ⟨#[66]⟩, .string ⟨#[67]⟩] ∧ Below w.heap.size w wx) (fun i _ => 4 - (intOf i).toNat)
          case atStart => exact ⟨0, by omega, rfl, HS7.out, HZ7.out, HB7.out⟩
          case round =>
            obtain ⟨k, hk, rfl, hs, hz, hb⟩ := hrel
            have HS := Lib.hid hs
            have HB := Lib.hid hb
            have HZ := Lib.hid hz
            clear hs hb hz HS7 HB7 HZ7
            by_cases hk4 : k < 4
            · have hkI : (k : Int) < 4 := by omega
              have hst : wr.cell? ⟨z, k, none⟩ = some (.string (str [letter k])) := by
                refine HZ.out.cell k _ ?_
                rcases (show k = 0 ∨ k = 1 ∨ k = 2 ∨ k = 3 by omega) with rfl | rfl | rfl | rfl <;> rfl
              go_wp2_with fail
              have HS5 := HS
              have HB5 := HB
              have HZ5 := HZ
              clear HS HB HZ hst
              go_loopw [12] (fun i wx => ∃ t : Nat, t ≤ S ∧ i = .int .i64 t ∧ SpotIs g wx (pos q j S k t) ∧ Bx z wx #[.string ⟨#[65]⟩, .string ⟨#[68]⟩, .string ⟨#[66]⟩, .string ⟨#[67]⟩] ∧ Below w.heap.size w wx) (fun i _ => S - (intOf i).toNat)
              case atStart => exact ⟨0, by omega, rfl, HS5.out, HZ5.out, HB5.out⟩
              case round =>
                obtain ⟨t, ht, rfl, hs, hz, hb⟩ := hrel
                have HS := Lib.hid hs
                have HB := Lib.hid hb
                have HZ := Lib.hid hz
                have hglt := hs.lt
                clear hs hb hz HS5 HB5 HZ5
                by_cases htS : t < S
                · have hok1 := pos_ok q j S k t hCb hRb hS (by omega)
                  have HOK1 := Lib.hid hok1
                  have HOK2 := Lib.hid (Ok.nxts hok1 [27#8, 91#8])
                  have HNX := Lib.hid (pos_next q j S k t hCb hRb hS hk4 htS)
                  clear hok1
                  have hal : Below wr.heap.size wr (wr.alloc (.cells #[.int .u8 27, .int .u8 91] 5 (2, 3))) := (Below.refl _ _).alloc (Nat.le_refl _) _
                  have HS3 := Lib.hid (HS.out.keep (only_below hal (fun _ => False)) (fun h => h))
                  have HB3 := Lib.hid (Below.trans HB.out (hal.mono HB.out.size))
                  have HZ3 := Lib.hid (HZ.out.keep (only_below hal (fun _ => False)) (fun h => h))
                  have HL3 := Lib.hid (lit_new wr [27#8, 91#8] #[.int .u8 27, .int .u8 91] 5 (2, 3) rfl)
                  have hsz : (wr.alloc (.cells #[.int .u8 27, .int .u8 91] 5 (2, 3))).heap.size = wr.heap.size + 1 := by simp
                  clear hal
                  go_wp2_with fail
                  generalize wr.alloc (.cells #[.int .u8 27, .int .u8 91] 5 (2, 3)) = w3 at *
                  generalize pos q j S k t = P at *
                  refine (sput_any g P 1000 (some ⟨wr.heap.size, 0, none⟩) 2 2 _ _ w3 HS3.out HOK1.out (by omega) HL3.out (by omega) (fun _ p hp => by injection hp with hp; subst hp; simp; omega)).mono ?_
                  rintro e w4 ⟨rfl, ho4, hs4⟩
                  have HS4 := Lib.hid hs4
                  have HB4 := Lib.hid (below_only HB3.out ho4 hgw)
                  have HZ4 := Lib.hid (HZ3.out.keep ho4 (by omega))
                  obtain ⟨cb, w8, hrun, hby, hbel, hcb, hsz8⟩ := conv_tob w4 [letter k]
                  have hg4 := hs4.lt
                  have HS8 := Lib.hid (HS4.out.keep (only_below hbel (fun _ => False)) (fun h => h))
                  have HB8 := Lib.hid (Below.trans HB4.out (hbel.mono HB4.out.size))
                  have HZ8 := Lib.hid (HZ4.out.keep (only_below hbel (fun _ => False)) (fun h => h))
                  have HY8 := Lib.hid hby
                  generalize nxts P [27#8, 91#8] = P2 at *
                  clear ho4 hs4 hbel hby HS4 HB4 HZ4
                  go_wp2_with fail
                  refine (sput_any g P2 1002 (some ⟨w4.heap.size, 0, none⟩) 1 cb _ _ w8 HS8.out HOK2.out (by omega) HY8.out hsz8 (fun _ p hp => by injection hp with hp; subst hp; simp; omega)).mono ?_
                  rintro e w9 ⟨rfl, ho9, hs9⟩
                  rw [HNX.out] at hs9
                  have HS9 := Lib.hid hs9
                  have HB9 := Lib.hid (below_only HB8.out ho9 hgw)
                  have HZ9 := Lib.hid (HZ8.out.keep ho9 (by omega))
                  clear ho9 hs9 hrun
                  go_wp2
                  go_roundw
                  case rel => exact ⟨t + 1, by omega, by go_num, HS9.out, HZ9.out, HB9.out⟩
                  case measure => simp [intOf]; omega
                · obtain rfl : t = S := by omega
                  have hpt := pos_turn q j t k hk4
                  have HPT := Lib.hid hpt
                  clear hpt
                  go_wp2
                  go_roundw
                  case rel => exact ⟨k + 1, by omega, by go_num, by rw [← HPT.out]; exact HS.out, HZ.out, HB.out⟩
                  case measure => simp [intOf]; omega
            · obtain rfl : k = 4 := by omega
              have hok := pos_ok q j S 4 0 hCb hRb hS (by omega)
              have HOK := Lib.hid hok
              clear hok
              go_wp2_with fail
              refine (sat_any g _ _ _ HS.out HOK.out (by omega)).mono ?_
              rintro e w9 ⟨rfl, hb9⟩
              have HB9 := Lib.hid (Below.trans HB.out (hb9.mono HB.out.size))
              rw [show (pos q j S 4 0).c = (q : Int) from rfl, show (pos q j S 4 0).r = (j : Int) from rfl]
              clear hb9
              go_wp2
              go_ret
              exact ⟨rfl, HB9.out⟩

set_option maxRecDepth 100000 in
theorem lifted (os : Os) (started : os.Started) (H : Type) (enc : TypeId × Value → H) :
    ReturnsInHanded {} Try.checked os 5 .any (Rows.spotRoundsSpec.pre6 enc Try.prog Try.f5 Rows.spotRoundsRow.domain false) (Rows.spotRoundsSpec.post enc Try.prog Try.f5 false true false false) := by
  refine returnsInHanded_of_change_sized (C := Try.checked) own started (by kernel_rfl) Try.func5
    (ChangeSpec.witness6 (enc := enc) (C := Try.checked) false ⟨#[], #[.int .i64 0, .int .i64 0, .int .i64 0], []⟩ 8 (by kernel_rfl) (by kernel_rfl) (by kernel_rfl) (by kernel_rfl)) ?_
  intro W base args ds gs before hval0 hW hcnd hsz0 _
  have hval : ∀ (j : Nat) t v, Try.f5.params[j]? = some t → args[j]? = some v → Value.okWide Try.prog W .any base t v := hval0
  have hW' := hW
  obtain ⟨p, q, hA0, hV, rfl, hfz, hnd⟩ := hW
  have hsz : (DataW.weightsEach Try.prog (Try.f5.params.toList ++ Rows.spotRoundsSpec.plain.varTypes Try.prog) (ds ++ gs)).all (· ≤ reachBytes) = true := hsz0
  have hA : DataW.TrodAll enc Try.prog W 0 (fun _ => true) true Try.f5.params.toList args.toList ds p := hA0
  rw [Try.params5] at hA hval hsz
  obtain ⟨v0, vs0, d0, ds0, p0, q0, hargs, rfl, rfl, h0, r0⟩ := trodAll_cons hA
  obtain ⟨v1, vs1, d1, ds1, p1, q1, rfl, rfl, rfl, h1, r1⟩ := trodAll_cons r0
  obtain ⟨v2, vs2, d2, ds2, p2, q2, rfl, rfl, rfl, h2, r2⟩ := trodAll_cons r1
  obtain ⟨rfl, rfl, rfl⟩ := trodAll_nil r2
  obtain rfl : args = #[v0, v1, v2] := by cases args; simp_all
  obtain ⟨rfl, rfl⟩ := trodVars_none hV
  obtain ⟨a0, rfl, rfl, rfl, w0⟩ := open_int Try.underlying3 (hval 0 3 v0 rfl rfl) h0
  obtain ⟨a1, rfl, rfl, rfl, w1⟩ := open_int Try.underlying3 (hval 1 3 v1 rfl rfl) h1
  obtain ⟨a2, rfl, rfl, rfl, w2⟩ := open_int Try.underlying3 (hval 2 3 v2 rfl rfl) h2
  clear hA0 hval0 hsz hsz0
  refine (walk a0 a1 a2 W w0 w1 w2).mono fun e W' ⟨he, bel⟩ => ?_
  subst he
  exact ⟨_, rfl, _, _, _, [], _, [], hW', trodAll_mk1 (shut_bool Try.underlying4 _), (trodAll_cons_mk (shut_int Try.underlying3 w0) (trodAll_cons_mk (shut_int Try.underlying3 w1) (trodAll_cons_mk (shut_int Try.underlying3 w2) trodAll_mk0))), rfl, bel.frame _, fun h => by cases h⟩

theorem over : Rows.spotRoundsRow.holds Try.pinned (OpenSpec.ofChange Rows.spotRoundsSpec) :=
  OpenClaim.holds_of_wide 5 Try.f5 rfl rfl rfl rfl rfl rfl rfl ⟨rfl, rfl, rfl, rfl, rfl⟩ rfl rfl rfl rfl rfl (by kernel_rfl) Try.func5 (by kernel_rfl)
    (of_decide_eq_true (by kernel_rfl)) (by unfold Func.isWrapper; first | (rw [if_pos (by decide +kernel)]; kernel_rfl) | (rw [if_neg (by decide +kernel)]; exact ⟨rfl, rfl⟩))
    (fun os started H enc _ => lifted os started H enc)

end Go.Proofs.Ytfehlmoghibamaa.spotRounds
namespace Go.Proofs.Ytfehlmoghibamaa
theorem spotRounds_holds : Rows.SpotRoundsSaid := spotRounds.over
#print axioms spotRounds_holds
end Go.Proofs.Ytfehlmoghibamaa
