/- What the message's Frame answers. -/
import Derived.Test.YtbnpamhmippdbaaMsgb
namespace Go.Proofs.Ytbnpamhmippdbaa
open Go.RowKit
open Fr Ms

theorem frame_no (k a b : Int) (t : Bs) (w : World) (hr : rt k a b t.length = false) :
    Calls Try.prog 8 #[.agg #[.int .i64 k, .int .i64 a, .int .i64 b, .string (str t)]] w fun e w' => e = .returned (.tuple #[.agg #[.int .u8 0, .slice none 0 0], .bool false]) ∧ Below w.heap.size w w' := by
  have HR := Lib.hid hr
  clear hr
  go_enter Try.func8, Try.ntmps8
  go_wp2_with fail
  refine (mright_any k a b (str t) _).mono ?_
  rintro e w1 ⟨rfl, hb⟩
  rw [str_size, HR.out]
  obtain ⟨hc, hf⟩ := bcell hb
  have hz : w.heap.size + 1 < w1.heap.size := by have := hb.size; simp at this; omega
  have HB := Lib.hid (Below.trans (((Below.refl _ _).alloc (Nat.le_refl w.heap.size) _).alloc (by simp) _) (hb.mono (by simp; omega)))
  go_wp2
  refine bodyPost_ret (v := .tuple #[.agg #[.int .u8 0, .slice none 0 0], .bool false]) (by simp [results, Try.results8, go_sem, hc]) rfl ⟨rfl, ?_⟩
  exact (HB.out.setCell (by simp) _).setCell (by simp) _

theorem fin_frame {k a b : Int} {t : Bs} {j N g : Nat} {w w8 : World} {A6 : Option Addr} {c6 : Nat} (hj : nu k = j) (hN : N = 6 * j) (hbd : body k a b t = (six a ++ six b).take (6 * j) ++ t)
    (ho : Own g w8 A6 (N + t.length) c6 ((six a ++ six b).take N ++ t)) (hb : Below w.heap.size w w8) (hg : w.heap.size ≤ g) :
    ∃ A c, Ending.returned (.tuple #[.agg #[.int .u8 (BitVec.ofInt 8 k).toNat, .slice A6 (N + t.length) c6], .bool true]) = .returned (.tuple #[.agg #[.int .u8 (BitVec.ofInt 8 k).toNat, .slice A (6 * nu k + t.length) c], .bool true]) ∧ Own w.heap.size w8 A (6 * nu k + t.length) c (body k a b t) ∧ Below w.heap.size w w8 := by
  subst hj hN
  rw [hbd]
  exact ⟨A6, c6, rfl, ho.mono hg, hb⟩

theorem frame_yes (k a b : Int) (t : Bs) (w : World) (hr : rt k a b t.length = true) :
    Calls Try.prog 8 #[.agg #[.int .i64 k, .int .i64 a, .int .i64 b, .string (str t)]] w fun e w' => ∃ A c, e = .returned (.tuple #[.agg #[.int .u8 (BitVec.ofInt 8 k).toNat, .slice A (6 * nu k + t.length) c], .bool true]) ∧ Own w.heap.size w' A (6 * nu k + t.length) c (body k a b t) ∧ Below w.heap.size w w' := by
  obtain ⟨a0, a1⟩ := rt_a hr
  obtain ⟨b0, b1⟩ := rt_b hr
  have hk := rt_k hr
  have hK := (rt_iff.1 hr).1
  have hn := nu_cases k
  have ht : t.length ≤ 2042 := Nat.le_trans (rt_n hr) (tx_le k)
  have HBD := Lib.hid (show body k a b t = (six a ++ six b).take (6 * nu k) ++ t from rfl)
  have HR := Lib.hid hr
  have HK := Lib.hid hK
  clear hr hK
  go_enter Try.func8, Try.ntmps8
  go_wp2_with fail
  have hs1 : (w.alloc (.cells #[.int .i64 k, .int .i64 a, .int .i64 b, .string (str t)] 24)).heap.size = w.heap.size + 1 := by simp
  have hx := (Bx.new w w.heap.size rfl #[.int .i64 k, .int .i64 a, .int .i64 b, .string (str t)] 24).go ((Below.refl _ _).alloc (Nat.le_refl _) (.cells #[.int .u8 0, .slice none 0 0] 31)) (Nat.le_of_eq hs1.symm)
  have hy := Bx.new _ _ hs1 #[.int .u8 0, .slice none 0 0] 31
  have hb : Below w.heap.size w ((w.alloc (.cells #[.int .i64 k, .int .i64 a, .int .i64 b, .string (str t)] 24)).alloc (.cells #[.int .u8 0, .slice none 0 0] 31)) := ((Below.refl _ _).alloc (Nat.le_refl _) _).alloc (by simp) _
  generalize (w.alloc (.cells #[.int .i64 k, .int .i64 a, .int .i64 b, .string (str t)] 24)).alloc (.cells #[.int .u8 0, .slice none 0 0] 31) = W at *
  generalize hg : w.heap.size = g at *
  have HG := Lib.hid hg
  have HX0 := Lib.hid hx
  have HY0 := Lib.hid hy
  have HB0 := Lib.hid hb
  have hz0 : g + 2 ≤ W.heap.size := hy.room
  clear hx hy hb hg hs1
  refine (mright_any k a b (str t) _).mono ?_
  rintro e w1 ⟨rfl, hb⟩
  rw [str_size, HR.out]
  have HX1 := Lib.hid (HX0.out.go hb (by omega))
  have HY1 := Lib.hid (HY0.out.go hb (by omega))
  have HB1 := Lib.hid (Below.trans HB0.out (hb.mono (by omega)))
  have hz1 : g + 2 ≤ w1.heap.size := HY1.out.room
  have hc0 : w1.cell? ⟨g, 0, none⟩ = some (.int .i64 k) := HX1.out.cell 0 _ rfl
  clear hb hz0 HX0 HY0 HB0
  go_wp2_with fail
  refine (layout_any k _).mono ?_
  rintro e w2 ⟨rfl, hb⟩
  rw [HK.out]
  have HX2 := Lib.hid (HX1.out.go hb (by omega))
  have HY2 := Lib.hid (HY1.out.go hb (by omega))
  have HB2 := Lib.hid (Below.trans HB1.out (hb.mono (by omega)))
  have hz2 : g + 2 ≤ w2.heap.size := HY2.out.room
  have hc1 : w2.cell? ⟨g, 1, none⟩ = some (.int .i64 a) := HX2.out.cell 1 _ rfl
  have hc2 : w2.cell? ⟨g, 2, none⟩ = some (.int .i64 b) := HX2.out.cell 2 _ rfl
  have hgz : g < w2.heap.size := by omega
  clear hb hz1 HX1 HY1 HB1 hc0
  go_wp2_with fail
  have hs1 : (w2.alloc (.cells #[.int .i64 (nu k), .int .i64 (tx k)] 46)).heap.size = w2.heap.size + 1 := by simp
  have hb3 : Below w2.heap.size w2 (w2.alloc (.cells #[.int .i64 (nu k), .int .i64 (tx k)] 46)) := (Below.refl _ _).alloc (Nat.le_refl _) _
  have hb4 : Below (w2.heap.size + 1) (w2.alloc (.cells #[.int .i64 (nu k), .int .i64 (tx k)] 46)) ((w2.alloc (.cells #[.int .i64 (nu k), .int .i64 (tx k)] 46)).alloc (.cells #[.int .i64 a, .int .i64 b] 49)) := (Below.refl _ _).alloc (Nat.le_of_eq hs1.symm) _
  have hb34 := Below.trans hb3 (hb4.mono (Nat.le_succ _))
  have hl := (Bx.new w2 w2.heap.size rfl #[.int .i64 (nu k), .int .i64 (tx k)] 46).go hb4 (Nat.le_refl _)
  have ha := Bx.new _ _ hs1 #[.int .i64 a, .int .i64 b] 49
  have hx3 := HX2.out.go hb34 (by omega)
  have hy3 := HY2.out.go hb34 (by omega)
  have hb5 := Below.trans HB2.out (hb34.mono (by omega))
  clear hs1 hb3 hb4 hb34 HX2 HY2 HB2 hc1 hc2 hgz
  generalize (w2.alloc (.cells #[.int .i64 (nu k), .int .i64 (tx k)] 46)).alloc (.cells #[.int .i64 a, .int .i64 b] 49) = w3 at *
  generalize w2.heap.size = gl at *
  have HX3 := Lib.hid hx3
  have HY3 := Lib.hid hy3
  have HB3 := Lib.hid hb5
  have HL3 := Lib.hid hl
  have HA3 := Lib.hid ha
  have hz3 : gl + 2 ≤ w3.heap.size := ha.room
  clear hx3 hy3 hb5 hl ha
  have hsl := str_size t
  have hn2 : nu k ≤ 2 := nu_le k
  obtain ⟨R, hR⟩ : ∃ R : Nat, R = 6 * nu k := ⟨_, rfl⟩
  obtain ⟨T, hT⟩ : ∃ T : Nat, T = t.length := ⟨_, rfl⟩
  have hR12 : R ≤ 12 := by omega
  have hT2 : T ≤ 2042 := by omega
  have hwr : IntKind.i64.wrap ((R : Int) + (T : Int)) = (R : Int) + (T : Int) := IntWalk.i64_in _ (by omega)
  have hmk := fun W => make_room W ((R : Int) + (T : Int)) (R + T) (by omega) (by omega)
  rw [← hT] at hsl
  have HT := Lib.hid hT
  have HRR := Lib.hid hR
  clear hT hn
  have c30 : w3.cell? ⟨gl, 0, none⟩ = some (.int .i64 (nu k)) := HL3.out.cell 0 _ rfl
  have c31 : w3.cell? ⟨gl, 1, none⟩ = some (.int .i64 (tx k)) := HL3.out.cell 1 _ rfl
  have c32 : w3.cell? ⟨g, 3, none⟩ = some (.string (str t)) := HX3.out.cell 3 _ rfl
  have C30 := Lib.hid c30
  have C31 := Lib.hid c31
  have C32 := Lib.hid c32
  clear c30 c31 c32 hR
  generalize hnk : nu k = n at *
  have HNK := Lib.hid hnk
  clear hnk
  generalize tx k = tk at *
  go_region_held3 (fun w' => w'.cell? ⟨gl, 0, none⟩ = some (.int .i64 n) ∧ w'.cell? ⟨gl, 1, none⟩ = some (.int .i64 tk) ∧ w'.cell? ⟨g, 3, none⟩ = some (.string (str t)))
    (first | exact ⟨r50, r51, r52⟩ | exact ⟨q50, q51, q52⟩ | exact ⟨C30.out, C31.out, C32.out⟩)
    (first
      | (go_at_call 17; refine (lhead_any n tk R _ hn2 HRR.out).mono ?_; rintro e w5 ⟨rfl, hb5⟩; have hb5 : Below w3.heap.size w3.drew w5 := hb5; have HB5 := Lib.hid (below_back hb5); have q50 := (hb5.cell (p := ⟨gl, 0, none⟩) (by simp; omega)).trans C30.out; have q51 := (hb5.cell (p := ⟨gl, 1, none⟩) (by simp; omega)).trans C31.out; have q52 := (hb5.cell (p := ⟨g, 3, none⟩) (by simp; omega)).trans C32.out; have hz5 : w3.heap.size ≤ w5.heap.size := hb5.size; have hb6 : Below w5.heap.size w5 (w5.alloc (.cells (zb (R + T)) 5)) := (Below.refl _ _).alloc (Nat.le_refl _) _; have r50 := (hb6.cell (p := ⟨gl, 0, none⟩) (by simp; omega)).trans q50; have r51 := (hb6.cell (p := ⟨gl, 1, none⟩) (by simp; omega)).trans q51; have r52 := (hb6.cell (p := ⟨g, 3, none⟩) (by simp; omega)).trans q52; clear hb5))
  have hb36 := Below.trans HB5.out (hb6.mono hz5)
  have HX6 := Lib.hid (HX3.out.go hb36 (by omega))
  have HY6 := Lib.hid (HY3.out.go hb36 (by omega))
  have HL6 := Lib.hid (HL3.out.go hb36 (by omega))
  have HA6 := Lib.hid (HA3.out.go hb36 (by omega))
  have HB6 := Lib.hid (Below.trans HB3.out (hb36.mono (by omega)))
  have HO6 := Lib.hid (made_new w5 (gl + 2) (by omega) (R + T) (by omega))
  rename_i hh
  clear hh hwr hmk q50 q51 q52 r50 r51 r52 C30 C31 C32 hb6 hb36 HX3 HY3 HL3 HA3 HB3 HB5
  generalize hw6 : w5.alloc (.cells (zb (R + T)) 5) = w6 at *
  have hz6 : gl + 2 ≤ w6.heap.size := HA6.out.room
  generalize w5.heap.size = g5 at *
  clear hw6 hz5 hz3
  have c60 : w6.cell? ⟨gl, 0, none⟩ = some (.int .i64 n) := HL6.out.cell 0 _ rfl
  have hn3 : (n : Int) ≤ 2 := by omega
  go_wp2_with fail
  go_loopw [7, 36] (fun s i wr => ∃ (j : Nat) (A : Option Addr) (N c : Nat), j ≤ n ∧ N = 6 * j ∧ i = .int .i64 j ∧ s = .slice A N c ∧ Own (gl + 2) wr A N c ((six a ++ six b).take N) ∧ Bx g wr #[.int .i64 k, .int .i64 a, .int .i64 b, .string (str t)] ∧ Bx (g + 1) wr #[.int .u8 0, .slice none 0 0] ∧ Bx (gl + 1) wr #[.int .i64 a, .int .i64 b] ∧ Below g w wr) (fun _ i _ => n - (intOf i).toNat)
  case atStart => exact ⟨0, _, 0, R + T, by omega, rfl, rfl, rfl, HO6.out, HX6.out, HY6.out, HA6.out, HB6.out⟩
  case round =>
    obtain ⟨j, A1, N, c1, hj, hN, rfl, rfl, hown, hx, hy, ha, hbel⟩ := hrel
    have HO1 := Lib.hid hown
    have HX := Lib.hid hx
    have HY := Lib.hid hy
    have HA := Lib.hid ha
    have HB := Lib.hid hbel
    have HN := Lib.hid hN
    clear hown hx hy ha hbel
    have hsz : gl + 2 ≤ wr.heap.size := HA.out.room
    by_cases hlt : j < n
    · have d0 : wr.cell? ⟨gl + 1, 0, none⟩ = some (.int .i64 a) := HA.out.cell 0 _ rfl
      have d1 : wr.cell? ⟨gl + 1, 1, none⟩ = some (.int .i64 b) := HA.out.cell 1 _ rfl
      rcases (show j = 0 ∨ j = 1 by omega) with rfl | rfl
      · obtain rfl : N = 0 := by omega
        clear hN HN
        go_wp2_with fail
        refine (putn6_any (gl + 2) A1 0 c1 _ a _ a0 a1 HO1.out hsz (by omega)).mono ?_
        rintro e w7 ⟨A2, c2, rfl, hown, hb7⟩
        have HO2 := Lib.hid hown
        have HT7 := Lib.hid hb7
        clear hown hb7 d0 d1
        go_wp2
        go_roundw
        case rel => exact ⟨0 + 1, A2, 0 + 6, c2, by omega, by omega, rfl, rfl, HO2.out, HX.out.go HT7.out (by omega), HY.out.go HT7.out (by omega), HA.out.go HT7.out (by omega), Below.trans HB.out (HT7.out.mono (by omega))⟩
        case measure => simp [intOf]; omega
      · obtain rfl : N = 6 := by omega
        clear hN HN
        go_wp2_with fail
        refine (putn6_any (gl + 2) A1 6 c1 _ b _ b0 b1 HO1.out hsz (by omega)).mono ?_
        rintro e w7 ⟨A2, c2, rfl, hown, hb7⟩
        have HO2 := Lib.hid hown
        have HT7 := Lib.hid hb7
        clear hown hb7 d0 d1
        go_wp2
        go_roundw
        case rel => exact ⟨1 + 1, A2, 6 + 6, c2, by omega, by omega, rfl, rfl, HO2.out, HX.out.go HT7.out (by omega), HY.out.go HT7.out (by omega), HA.out.go HT7.out (by omega), Below.trans HB.out (HT7.out.mono (by omega))⟩
        case measure => simp [intOf]; omega
    · obtain rfl : j = n := by omega
      have hN6 : N ≤ 12 := by omega
      clear hN
      go_wp2_with fail
      have HOD := Lib.hid (own_drew HO1.out)
      have d0 : wr.cell? ⟨g, 0, none⟩ = some (.int .i64 k) := HX.out.cell 0 _ rfl
      have d3 : wr.cell? ⟨g, 3, none⟩ = some (.string (str t)) := HX.out.cell 3 _ rfl
      have hszd : gl + 2 ≤ wr.drew.heap.size := hsz
      obtain ⟨hk1, hk2⟩ := hk
      refine have key : ∀ A6 c6 w7, Own (gl + 2) w7 A6 (N + t.length) c6 ((six a ++ six b).take N ++ t) → Below (gl + 2) wr w7 → (?postKey : Option Addr → Nat → World → Prop) A6 c6 w7 := ?holdsKey; ?restKey
      case restKey =>
        go_region_law (first | ((with_reducible refine step_puts (o := ⟨some 50, _, _, _, _, _⟩) rfl (.tmp 47) (.tmp 49) rfl (gl + 2) A1 N c1 _ rfl HOD.out t rfl (by omega) hszd ?_); intro A6 c6 w7 hown hbel; have hb7 : Below (gl + 2) wr w7 := ⟨hbel.os, hbel.tape, hbel.output, hbel.size, hbel.block⟩; have f0 : w7.cell? ⟨g, 0, none⟩ = some (.int .i64 k) := (HX.out.go hb7 (by omega)).cell 0 _ rfl; have f3 : w7.cell? ⟨g, 3, none⟩ = some (.string (str t)) := (HX.out.go hb7 (by omega)).cell 3 _ rfl; have z0 := (HY.out.go hb7 (by omega)).free 0; have z1 := (HY.out.go hb7 (by omega)).free 1; have y0 : w7.cell? ⟨g + 1, 0, none⟩ = some (.int .u8 0) := (HY.out.go hb7 (by omega)).cell 0 _ rfl; have y1 : w7.cell? ⟨g + 1, 1, none⟩ = some (.slice none 0 0) := (HY.out.go hb7 (by omega)).cell 1 _ rfl) | fail)
        all_goals exact key A6 c6 w7 hown hb7
      intro A6 c6 w7 hown hb7
      have hy8 : Bx (g + 1) ((w7.setCell ⟨g + 1, 0, none⟩ (.int .u8 (IntKind.u8.wrap k))).setCell ⟨g + 1, 1, none⟩ (.slice A6 (N + t.length) c6)) #[.int .u8 (IntKind.u8.wrap k), .slice A6 (N + t.length) c6] := ((HY.out.go hb7 (by omega)).set 0 _).set 1 _
      have ho8 := own_set (own_set hown (p := ⟨g + 1, 0, none⟩) (by simp; omega) (.int .u8 (IntKind.u8.wrap k))) (p := ⟨g + 1, 1, none⟩) (by simp; omega) (.slice A6 (N + t.length) c6)
      have hb8 := ((Below.trans HB.out (hb7.mono (by omega))).setCell (p := ⟨g + 1, 0, none⟩) (by simp) (.int .u8 (IntKind.u8.wrap k))).setCell (p := ⟨g + 1, 1, none⟩) (by simp) (.slice A6 (N + t.length) c6)
      have hkb : IntKind.u8.wrap k = (BitVec.ofInt 8 k).toNat := by rw [← byte_int, IntKind.wrap_u8]
      rw [hkb] at hy8 ho8 hb8 ⊢
      generalize ((w7.setCell ⟨g + 1, 0, none⟩ (.int .u8 (BitVec.ofInt 8 k).toNat)).setCell ⟨g + 1, 1, none⟩ (.slice A6 (N + t.length) c6)) = w8 at *
      have e0 : w8.cell? ⟨g + 1, 0, none⟩ = some (.int .u8 (BitVec.ofInt 8 k).toNat) := hy8.cell 0 _ rfl
      have e1 : w8.cell? ⟨g + 1, 1, none⟩ = some (.slice A6 (N + t.length) c6) := hy8.cell 1 _ rfl
      have HO8 := Lib.hid ho8
      have HB8 := Lib.hid hb8
      clear hy8 ho8 hb8 hkb hown hb7 d0 d3
      go_wp2
      refine bodyPost_ret (v := .tuple #[.agg #[.int .u8 (BitVec.ofInt 8 k).toNat, .slice A6 (N + t.length) c6], .bool true]) (by simp [results, Try.results8, go_sem, e0, e1]) rfl ?_
      have hg := HG.out
      have hbd := HBD.out
      have hN := HN.out
      subst hg
      exact fin_frame HNK.out hN hbd HO8.out HB8.out (by omega)

end Go.Proofs.Ytbnpamhmippdbaa
