/- MsgOf: for every input the law answers true, and its arguments read as before. Conditions: none. -/
import Derived.Test.YtbnpamhmippdbaaMsgz
import Derived.Test.YtbnpamhmippdbaaInsm
import Derived.Deep.RegionHeld
namespace Go.Proofs.Ytbnpamhmippdbaa.msgOf
open Go.ChangeShapes Go.WideShapes Go.ChangeAt Go.RowKit
open Fr Ms

/-- the message that the law reads of the frame, in memory -/
structure XS (k : Int) (a : Option Addr) (n cap g gx : Nat) (l t : Bs) (w w' : World) (A C : Int) : Prop where
  apart : g < gx
  fr : Bx g w' #[.int .u8 k, .slice a n cap]
  msg : Bx gx w' #[.int .i64 k, .int .i64 A, .int .i64 C, .string (str t)]
  bytes : Bytes w' g a n l
  below : Below g w w'

theorem XS.setA {k : Int} {a : Option Addr} {n cap g gx : Nat} {l t : Bs} {w w' : World} {A C : Int} (h : XS k a n cap g gx l t w w' A C) (x : Int) : XS k a n cap g gx l t w (w'.setCell ⟨gx, 1, none⟩ (.int .i64 x)) x C :=
  ⟨h.apart, h.fr.other (by have := h.apart; simp; omega) _, h.msg.set 1 (.int .i64 x), bytes_set h.bytes (by have := h.apart; simp; omega) _, h.below.setCell (by have := h.apart; simp; omega) _⟩

theorem XS.setB {k : Int} {a : Option Addr} {n cap g gx : Nat} {l t : Bs} {w w' : World} {A C : Int} (h : XS k a n cap g gx l t w w' A C) (x : Int) : XS k a n cap g gx l t w (w'.setCell ⟨gx, 2, none⟩ (.int .i64 x)) A x :=
  ⟨h.apart, h.fr.other (by have := h.apart; simp; omega) _, h.msg.set 2 (.int .i64 x), bytes_set h.bytes (by have := h.apart; simp; omega) _, h.below.setCell (by have := h.apart; simp; omega) _⟩
def pA (T : Bs) (j : Nat) : Int := if 1 ≤ j then num6 T else 0
def pB (T : Bs) (j : Nat) : Int := if 2 ≤ j then num6 (T.drop 6) else 0

set_option maxHeartbeats 4000000 in
set_option maxRecDepth 100000 in
theorem walk (K0 : BitVec 8) (a0 : Option Addr) (len0 cap0 : Nat) (T0 : Bs) (w : World) (w0 : Bytes w w.heap.size a0 len0 T0) (g0 : len0 ≤ cap0 ∧ cap0 ≤ most) :
    Calls Try.prog 4 #[.agg #[.int .u8 K0.toNat, .slice a0 len0 cap0]] w fun e w' => e = .returned (.bool true) ∧ Below w.heap.size w w' := by
  have hml := g0.2
  have hcl := g0.1
  have HHD := Lib.hid (head_any (w.alloc (.cells #[.int .u8 K0.toNat, .slice a0 len0 cap0] 31)))
  have HW0 := Lib.hid w0
  have h8 := K0.isLt
  clear w0 g0
  go_enter Try.func4, Try.ntmps4
  go_wp2_with fail
  have hx := Bx.new w _ rfl #[.int .u8 K0.toNat, .slice a0 len0 cap0] 31
  have hb : Below w.heap.size w (w.alloc (.cells #[.int .u8 K0.toNat, .slice a0 len0 cap0] 31)) := (Below.refl _ _).alloc (Nat.le_refl _) _
  generalize w.alloc (.cells #[.int .u8 K0.toNat, .slice a0 len0 cap0] 31) = W at *
  generalize hg : w.heap.size = g at *
  have HG := Lib.hid hg
  clear hg
  refine HHD.out.mono ?_
  rintro e w1 ⟨rfl, hb1⟩
  have hz0 := hx.room
  have HX1 := Lib.hid (hx.go hb1 (by omega))
  have HB1 := Lib.hid (Below.trans hb (hb1.mono (by omega)))
  have HL1 := Lib.hid ((HW0.out.below HB1.out))
  clear hx hb hb1 hz0 HHD HW0
  have hz1 := HX1.out.room
  have c1 : w1.cell? ⟨g, 1, none⟩ = some (.slice a0 len0 cap0) := HX1.out.cell 1 _ rfl
  by_cases h300 : 300 < len0
  · go_wp2
    go_ret
    have hg := HG.out
    subst hg
    exact ⟨rfl, HB1.out⟩
  have c0 : w1.cell? ⟨g, 0, none⟩ = some (.int .u8 K0.toNat) := HX1.out.cell 0 _ rfl
  go_wp2_with fail
  refine (mof_any K0 a0 len0 cap0 g T0 w1 HL1.out (by omega) hcl (by omega)).mono ?_
  rintro e w2 ⟨hp, hb2⟩
  have HX2 := Lib.hid (HX1.out.go hb2 (by omega))
  have HB2 := Lib.hid (Below.trans HB1.out (hb2.mono (by omega)))
  have HL2 := Lib.hid (HL1.out.below (hb2.mono (by omega)))
  clear HX1 HB1 HL1 hb2 hz1 c0 c1
  have hz2 := HX2.out.room
  cases hok : ofOk K0.toNat T0
  · have he := hp.2 hok
    subst he
    have hOR := fun h => ofOk_rt (k := K0.toNat) (l := T0) h
    rw [hok] at hOR
    have HOR := Lib.hid hOR
    have HLT := Lib.hid HL2.out.1
    clear hok hp hOR
    generalize hk : K0.toNat = k at *
    clear hk
    have hal : Below w2.heap.size w2 (w2.alloc (.cells #[.int .i64 0, .int .i64 0, .int .i64 0, .string ByteArray.empty] 24)) := (Below.refl _ _).alloc (Nat.le_refl _) _
    have HX3 := Lib.hid (HX2.out.go hal (by omega))
    have HL3 := Lib.hid (HL2.out.below (hal.mono (by omega)))
    have HB3 := Lib.hid (Below.trans HB2.out (hal.mono (by omega)))
    have HM2 := Lib.hid (Bx.new w2 _ rfl #[.int .i64 0, .int .i64 0, .int .i64 0, .string ByteArray.empty] 24)
    have c0 : w2.cell? ⟨g, 0, none⟩ = some (.int .u8 k) := HX2.out.cell 0 _ rfl
    have c1 : w2.cell? ⟨g, 1, none⟩ = some (.slice a0 len0 cap0) := HX2.out.cell 1 _ rfl
    have hlt2 : g < w2.heap.size := hz2
    have hse : ByteArray.empty.toList = [] := by rw [ByteArray.toList_eq]; rfl
    clear hal HX2 HL2 HB2
    go_wp2_with fail
    clear hse c0 c1 HM2
    generalize w2.alloc (.cells #[.int .i64 0, .int .i64 0, .int .i64 0, .string ByteArray.empty] 24) = w3 at *
    have hz3 := HX3.out.room
    refine (has_any k w3).mono ?_
    rintro e w4 ⟨n, tt, rfl, hb4, hyes, hno⟩
    have HX4 := Lib.hid (HX3.out.go hb4 hz3)
    have HL4 := Lib.hid (HL3.out.below (hb4.mono (by omega)))
    have HB4 := Lib.hid (Below.trans HB3.out (hb4.mono (by omega)))
    clear hb4 HX3 HL3 HB3
    have hz4 := HX4.out.room
    cases hik : isK k
    · obtain ⟨rfl, rfl⟩ := hno hik
      clear hyes hno hik
      go_wp2
      go_ret
      have hg := HG.out
      subst hg
      exact ⟨rfl, HB4.out⟩
    obtain ⟨rfl, rfl⟩ := hyes hik
    clear hyes hno hik
    have hn2 := nu_le k
    have c1 : w4.cell? ⟨g, 1, none⟩ = some (.slice a0 len0 cap0) := HX4.out.cell 1 _ rfl
    have HOA := Lib.hid (show ofA k T0 = if 1 ≤ nu k then num6 T0 else 0 from rfl)
    have HOB := Lib.hid (show ofB k T0 = if 2 ≤ nu k then num6 (T0.drop 6) else 0 from rfl)
    have HOT := Lib.hid (show ofT k T0 = T0.drop (6 * nu k) from rfl)
    generalize nu k = N at *
    have hn3 : (N : Int) ≤ 2 := by omega
    by_cases hsh : (len0 : Int) < 6 * (N : Int)
    · go_wp2
      go_ret
      have hg := HG.out
      subst hg
      exact ⟨rfl, HB4.out⟩
    go_wp2_with fail
    go_cut [7] (fun s7 wx => ∃ gx, s7 = .pointer (some ⟨gx, 0, none⟩) ∧ XS k a0 len0 cap0 g gx T0 (T0.drop (6 * N)) w wx 0 0)
    case first =>
      by_cases hcR : cap0 = 6 * N
      · subst hcR
        have hcu : ∀ W, Bytes W g a0 len0 T0 → Bytes W g a0 0 (T0.drop (6 * N)) := by
          intro W h
          have := h.cut (k := (6 * N)) (by omega) hcl
          unfold cutA at this
          rwa [if_pos rfl, show len0 - 6 * N = 0 by omega] at this
        have HCU := Lib.hid hcu
        clear hcu
        have hal : Below w4.heap.size w4 (w4.alloc (.cells #[.int .i64 k, .int .i64 0, .int .i64 0, .string (str (T0.drop (6 * N)))] 24)).drew := below_drew ((Below.refl _ _).alloc (Nat.le_refl _) _)
        have HXS := Lib.hid (show XS k a0 len0 (6 * N) g w4.heap.size T0 (T0.drop (6 * N)) w (w4.alloc (.cells #[.int .i64 k, .int .i64 0, .int .i64 0, .string (str (T0.drop (6 * N)))] 24)).drew 0 0 from ⟨hz4, HX4.out.go hal hz4, (Bx.new w4 _ rfl _ _).drewN 1, HL4.out.below (hal.mono (by omega)), Below.trans HB4.out (hal.mono (by omega))⟩)
        have HWX := Lib.hid (show Bx g w4.drew #[.int .u8 k, .slice a0 len0 (6 * N)] from HX4.out.drewN 1)
        have HWB := Lib.hid (show Below g w w4.drew from below_drew HB4.out)
        have HWL := Lib.hid (show Bytes w4.drew g a0 len0 T0 from HL4.out.drewN 1)
        have hzw : g + 1 ≤ w4.drew.heap.size := hz4
        have HAL := Lib.hid (fun o => (Below.refl w4.drew.heap.size w4.drew).alloc (Nat.le_refl _) o)
        have HCV := Lib.hid (conv_str (cap := 0) (HCU.out _ HWL.out))
        have HCA := Lib.hid (fun o => conv_str (cap := 0) (HCU.out _ (HWL.out.below ((HAL.out o).mono (by omega)))))
        have HXA := Lib.hid (fun o => HWX.out.go (HAL.out o) hzw)
        have j1 : IntKind.i64.wrap (6 * (N : Int)) = 6 * (N : Int) := IntWalk.i64_in _ (by omega)
        have j2 : (6 * (N : Int)).toNat = 6 * N := by omega
        have j3 : 6 * (N : Int) ≤ ((6 * N : Nat) : Int) := by omega
        have j4 : 0 ≤ 6 * (N : Int) := by omega
        have j5 : IntKind.i64.wrap (k : Int) = k := IntWalk.i64_in _ (by omega)
        clear c1
        go_region_held (fun w' => w'.cell? ⟨g, 0, none⟩ = some (.int .u8 k) ∧ w'.cell? ⟨g, 1, none⟩ = some (.slice a0 len0 (6 * N)) ∧ (convert 28 9 (.slice a0 0 0)).run Try.prog w' = .ok (.string (str (T0.drop (6 * N)))) w')
          (first | exact ⟨HWX.out.cell 0 _ rfl, HWX.out.cell 1 _ rfl, HCV.out⟩ | exact ⟨(HXA.out _).cell 0 _ rfl, (HXA.out _).cell 1 _ rfl, HCA.out _⟩)
          (fail)
        all_goals
          clear j1 j2 j3 j4 j5
          go_wp2
          go_meet
          exact ⟨_, rfl, HXS.out⟩
      · have hne : ¬ cap0 = 6 * N := hcR
        have hcu : ∀ W, Bytes W g a0 len0 T0 → Bytes W g (a0.map fun x => x.add (6 * N)) (len0 - 6 * N) (T0.drop (6 * N)) := by
          intro W h
          have := h.cut (k := (6 * N)) (by omega) hcl
          unfold cutA at this
          rwa [if_neg hcR] at this
        have HCU := Lib.hid hcu
        clear hcu
        have hal : Below w4.heap.size w4 (w4.alloc (.cells #[.int .i64 k, .int .i64 0, .int .i64 0, .string (str (T0.drop (6 * N)))] 24)).drew := below_drew ((Below.refl _ _).alloc (Nat.le_refl _) _)
        have HXS := Lib.hid (show XS k a0 len0 cap0 g w4.heap.size T0 (T0.drop (6 * N)) w (w4.alloc (.cells #[.int .i64 k, .int .i64 0, .int .i64 0, .string (str (T0.drop (6 * N)))] 24)).drew 0 0 from ⟨hz4, HX4.out.go hal hz4, (Bx.new w4 _ rfl _ _).drewN 1, HL4.out.below (hal.mono (by omega)), Below.trans HB4.out (hal.mono (by omega))⟩)
        have HWX := Lib.hid (show Bx g w4.drew #[.int .u8 k, .slice a0 len0 cap0] from HX4.out.drewN 1)
        have HWB := Lib.hid (show Below g w w4.drew from below_drew HB4.out)
        have HWL := Lib.hid (show Bytes w4.drew g a0 len0 T0 from HL4.out.drewN 1)
        have hzw : g + 1 ≤ w4.drew.heap.size := hz4
        have HAL := Lib.hid (fun o => (Below.refl w4.drew.heap.size w4.drew).alloc (Nat.le_refl _) o)
        have HCV := Lib.hid (conv_str (cap := (cap0 - 6 * N)) (HCU.out _ HWL.out))
        have HCA := Lib.hid (fun o => conv_str (cap := (cap0 - 6 * N)) (HCU.out _ (HWL.out.below ((HAL.out o).mono (by omega)))))
        have HXA := Lib.hid (fun o => HWX.out.go (HAL.out o) hzw)
        have j1 : IntKind.i64.wrap (6 * (N : Int)) = 6 * (N : Int) := IntWalk.i64_in _ (by omega)
        have j2 : (6 * (N : Int)).toNat = 6 * N := by omega
        have j3 : 6 * (N : Int) ≤ (cap0 : Int) := by omega
        have j4 : 0 ≤ 6 * (N : Int) := by omega
        have j5 : IntKind.i64.wrap (k : Int) = k := IntWalk.i64_in _ (by omega)
        clear c1
        go_region_held (fun w' => w'.cell? ⟨g, 0, none⟩ = some (.int .u8 k) ∧ w'.cell? ⟨g, 1, none⟩ = some (.slice a0 len0 cap0) ∧ (convert 28 9 (.slice (a0.map fun x => x.add (6 * N)) (len0 - 6 * N) (cap0 - 6 * N))).run Try.prog w' = .ok (.string (str (T0.drop (6 * N)))) w')
          (first | exact ⟨HWX.out.cell 0 _ rfl, HWX.out.cell 1 _ rfl, HCV.out⟩ | exact ⟨(HXA.out _).cell 0 _ rfl, (HXA.out _).cell 1 _ rfl, HCA.out _⟩)
          (fail)
        all_goals
          clear j1 j2 j3 j4 j5
          go_wp2
          go_meet
          exact ⟨_, rfl, HXS.out⟩
    case rest =>
      obtain ⟨gx, rfl, hxs⟩ := hcut
      have HX0 := Lib.hid hxs
      clear hxs c1 HX4 HL4 HB4
      go_wp2_with fail
      go_loopw [8] (fun i wr => ∃ (j : Nat) (x : Int), j ≤ N ∧ x = j ∧ i = .int .i64 x ∧ XS k a0 len0 cap0 g gx T0 (T0.drop (6 * N)) w wr (pA T0 j) (pB T0 j)) (fun i _ => N - (intOf i).toNat)
      case atStart => exact ⟨0, 0, by omega, rfl, rfl, HX0.out⟩
      case round =>
        obtain ⟨j, xj, hj, hxj, rfl, hxs⟩ := hrel
        have HXS := Lib.hid hxs
        have hap := hxs.apart
        have hzr := hxs.msg.room
        clear hxs
        by_cases hlt : j < N
        · have hl6 : 6 * j + 6 ≤ len0 := by omega
          rcases (show j = 0 ∨ j = 1 by omega) with rfl | rfl
          · have hltI : (0 : Int) < (N : Int) := by omega
            have hltN : 0 < N := by omega
            clear hlt
            obtain rfl : xj = 0 := by omega
            clear hxj
            obtain ⟨b, off, rfl, hbB, hc⟩ := HXS.out.bytes.2 (by omega)
            have f1 : wr.cell? ⟨g, 1, none⟩ = some (.slice (some ⟨b, off, none⟩) len0 cap0) := HXS.out.fr.cell 1 _ rfl
            have z1 := HXS.out.msg.free 1
            have m1 : wr.cell? ⟨gx, 1, none⟩ = some (.int .i64 (pA T0 0)) := HXS.out.msg.cell 1 _ rfl
            have hcl2 : (6 : Int) ≤ (cap0 : Int) := by omega
            have hcne : ¬ cap0 = 0 := by omega
            go_wp2_with fail
            go_loopw [9, 87] (fun v i wx => ∃ q : Nat, q ≤ 6 ∧ i = .int .i64 q ∧ v = .int .i64 (nat ((T0.drop 0).take q)) ∧ wx = wr) (fun _ i _ => 6 - (intOf i).toNat)
            case atStart => exact ⟨0, by omega, rfl, rfl, rfl⟩
            case round =>
              obtain ⟨q, hq, rfl, rfl, rfl⟩ := hrel
              by_cases hq6 : q < 6
              · have hck := hc q (by omega)
                have hs : nat ((T0.drop 0).take (q + 1)) = 256 * nat ((T0.drop 0).take q) + (T0[q]?.getD 0#8).toNat := by
                  rw [take_get _ q (by rw [List.length_drop, HLT.out]; omega), nat_snoc, List.getElem?_drop, Nat.zero_add]
                have hlt2 : nat ((T0.drop 0).take q) < 256 ^ 5 := nat_lt _ 5 (by simp; omega)
                have HS := Lib.hid hs
                clear hs hc
                generalize nat ((T0.drop 0).take q) = m at *
                generalize T0[q]?.getD 0#8 = x at *
                have h8 := x.isLt
                go_wp2
                go_roundw
                case rel => exact ⟨q + 1, by omega, by go_num, ret_i64 (by rw [HS.out]; omega), by first | rfl | trivial⟩
                case measure => simp [intOf]; omega
              · obtain rfl : q = 6 := by omega
                go_wp2
                go_roundw
                case rel => exact ⟨0 + 1, 1, by omega, rfl, rfl, by simpa [pA, pB, num6] using HXS.out.setA _⟩
                case measure => simp [intOf]; omega
          · have hltI : (1 : Int) < (N : Int) := by omega
            have hltN : 1 < N := by omega
            clear hlt
            obtain rfl : xj = 1 := by omega
            clear hxj
            obtain ⟨b, off, rfl, hbB, hc⟩ := HXS.out.bytes.2 (by omega)
            have f1 : wr.cell? ⟨g, 1, none⟩ = some (.slice (some ⟨b, off, none⟩) len0 cap0) := HXS.out.fr.cell 1 _ rfl
            have z1 := HXS.out.msg.free 2
            have m1 : wr.cell? ⟨gx, 2, none⟩ = some (.int .i64 (pB T0 1)) := HXS.out.msg.cell 2 _ rfl
            have hcl2 : (12 : Int) ≤ (cap0 : Int) := by omega
            have hcne : ¬ cap0 = 6 := by omega
            go_wp2_with fail
            go_loopw [9, 87] (fun v i wx => ∃ q : Nat, q ≤ 6 ∧ i = .int .i64 q ∧ v = .int .i64 (nat ((T0.drop 6).take q)) ∧ wx = wr) (fun _ i _ => 6 - (intOf i).toNat)
            case atStart => exact ⟨0, by omega, rfl, rfl, rfl⟩
            case round =>
              obtain ⟨q, hq, rfl, rfl, rfl⟩ := hrel
              by_cases hq6 : q < 6
              · have hck := hc (6 + q) (by omega)
                rw [← Nat.add_assoc] at hck
                have hs : nat ((T0.drop 6).take (q + 1)) = 256 * nat ((T0.drop 6).take q) + (T0[6 + q]?.getD 0#8).toNat := by
                  rw [take_get _ q (by rw [List.length_drop, HLT.out]; omega), nat_snoc, List.getElem?_drop]
                have hlt2 : nat ((T0.drop 6).take q) < 256 ^ 5 := nat_lt _ 5 (by simp; omega)
                have HS := Lib.hid hs
                clear hs hc
                generalize nat ((T0.drop 6).take q) = m at *
                generalize T0[6 + q]?.getD 0#8 = x at *
                have h8 := x.isLt
                go_wp2
                go_roundw
                case rel => exact ⟨q + 1, by omega, by go_num, ret_i64 (by rw [HS.out]; omega), by first | rfl | trivial⟩
                case measure => simp [intOf]; omega
              · obtain rfl : q = 6 := by omega
                go_wp2
                go_roundw
                case rel => exact ⟨1 + 1, 2, by omega, rfl, rfl, by simpa [pA, pB, num6] using HXS.out.setB _⟩
                case measure => simp [intOf]; omega
        · obtain rfl : j = N := by omega
          have hno : rt k (pA T0 j) (pB T0 j) (T0.drop (6 * j)).length = false := by
            have h1 := HOR.out (by rw [HLT.out]; omega)
            rw [HOA.out, HOB.out, HOT.out] at h1
            unfold pA pB
            rw [h1]
            congr 1
            · split <;> rfl
            · split <;> rfl
          have HNO := Lib.hid hno
          clear hno
          have m0 : wr.cell? ⟨gx, 0, none⟩ = some (.int .i64 k) := HXS.out.msg.cell 0 _ rfl
          have m1 : wr.cell? ⟨gx, 1, none⟩ = some (.int .i64 (pA T0 j)) := HXS.out.msg.cell 1 _ rfl
          have m2 : wr.cell? ⟨gx, 2, none⟩ = some (.int .i64 (pB T0 j)) := HXS.out.msg.cell 2 _ rfl
          have m3 : wr.cell? ⟨gx, 3, none⟩ = some (.string (str (T0.drop (6 * j)))) := HXS.out.msg.cell 3 _ rfl
          have hxe : xj = j := hxj
          clear hxj
          subst hxe
          go_wp2_with fail
          refine (lright_any k (pA T0 j) (pB T0 j) (str (T0.drop (6 * j))) _).mono ?_
          rintro e w9 ⟨rfl, hb9⟩
          rw [str_size, HNO.out]
          go_wp2
          go_ret
          have hg := HG.out
          subst hg
          exact ⟨rfl, Below.trans HXS.out.below (hb9.mono (by omega))⟩
  · have he := hp.1 hok
    subst he
    have hrt : rt K0.toNat (ofA K0.toNat T0) (ofB K0.toNat T0) (ofT K0.toNat T0).length = true := by unfold ofOk at hok; simp only [Bool.and_eq_true] at hok; exact hok.2
    have hbo := body_of hok
    have hlt0 := HL2.out.1
    have hR6 : 6 * nu K0.toNat + (ofT K0.toNat T0).length = len0 := by
      have h1 := congrArg List.length hbo
      rw [body_len] at h1
      omega
    have HRT := Lib.hid hrt
    have HBO := Lib.hid hbo
    have HR6 := Lib.hid hR6
    clear hok hp hrt hbo hlt0 hR6
    generalize hk : K0.toNat = k at *
    have HKE := Lib.hid hk
    clear hk
    generalize ofA k T0 = A at *
    generalize ofB k T0 = C at *
    generalize ofT k T0 = t at *
    have HM2 := Lib.hid (Bx.new w2 _ rfl #[.int .i64 k, .int .i64 A, .int .i64 C, .string (str t)] 24)
    have hal : Below w2.heap.size w2 (w2.alloc (.cells #[.int .i64 k, .int .i64 A, .int .i64 C, .string (str t)] 24)) := (Below.refl _ _).alloc (Nat.le_refl _) _
    have HX3 := Lib.hid (HX2.out.go hal (by omega))
    have HL3 := Lib.hid (HL2.out.below (hal.mono (by omega)))
    have HB3 := Lib.hid (Below.trans HB2.out (hal.mono (by omega)))
    clear hal HX2 HL2 HB2
    go_wp2_with fail
    generalize w2.alloc (.cells #[.int .i64 k, .int .i64 A, .int .i64 C, .string (str t)] 24) = w3 at *
    generalize w2.heap.size = gm at *
    have hz3 := HM2.out.room
    have hkb : IntKind.u8.wrap (k : Int) = (k : Int) := IntWalk.u8_in _ (by omega)
    have hcv := conv_str (cap := cap0) (HL3.out.keep (w' := w3.drew) (fun _ _ => rfl))
    have HC3 := Lib.hid hcv
    clear hcv
    have hgl : g ≤ w3.heap.size := by omega
    go_region_held (fun w' => w'.cell? ⟨gm, 0, none⟩ = some (.int .i64 k) ∧ w'.cell? ⟨gm, 1, none⟩ = some (.int .i64 A) ∧ w'.cell? ⟨gm, 2, none⟩ = some (.int .i64 C) ∧ w'.cell? ⟨gm, 3, none⟩ = some (.string (str t)) ∧ w'.cell? ⟨g, 0, none⟩ = some (.int .u8 k) ∧ w'.cell? ⟨g, 1, none⟩ = some (.slice a0 len0 cap0) ∧ (convert 28 9 (.slice a0 len0 cap0)).run Try.prog w' = .ok (.string (str T0)) w')
      (first | exact ⟨HM5.out.cell 0 _ rfl, HM5.out.cell 1 _ rfl, HM5.out.cell 2 _ rfl, HM5.out.cell 3 _ rfl, HX5.out.cell 0 _ rfl, HX5.out.cell 1 _ rfl, HC5.out⟩ | exact ⟨HM4.out.cell 0 _ rfl, HM4.out.cell 1 _ rfl, HM4.out.cell 2 _ rfl, HM4.out.cell 3 _ rfl, HX4.out.cell 0 _ rfl, HX4.out.cell 1 _ rfl, HC4.out⟩ | exact ⟨HM2.out.cell 0 _ rfl, HM2.out.cell 1 _ rfl, HM2.out.cell 2 _ rfl, HM2.out.cell 3 _ rfl, HX3.out.cell 0 _ rfl, HX3.out.cell 1 _ rfl, HC3.out⟩)
      (first
        | (go_at_call 10; refine (lright_any k A C (str t) _).mono ?_; rintro e w4 ⟨rfl, hb4⟩; have hb4 : Below w3.heap.size w3.drew w4 := hb4; rw [str_size, HRT.out]; have HB4 := Lib.hid (below_back hb4); have HM4 := Lib.hid (HM2.out.go HB4.out hz3); have HX4 := Lib.hid (HX3.out.go HB4.out (by omega)); have HC4 := Lib.hid (conv_str (cap := cap0) (HL3.out.below (HB4.out.mono hgl))); clear hb4)
        | (go_at_call 14; refine (body_any k A C t _ HRT.out).mono ?_; rw [HR6.out, HBO.out]; rintro e w5 ⟨A5, C5, rfl, ho5, hb5⟩; have HB5 := Lib.hid (Below.trans HB4.out (hb5.mono HB4.out.size)); have HM5 := Lib.hid (HM2.out.go HB5.out hz3); have HX5 := Lib.hid (HX3.out.go HB5.out (by omega)); have HC5 := Lib.hid (conv_str (cap := cap0) (HL3.out.below (HB5.out.mono hgl))); have q5 := conv_str (cap := C5) ho5.bytes; clear hb5 ho5))
    rename_i hh
    clear hh
    go_wp2
    go_ret
    have hg := HG.out
    subst hg
    exact ⟨rfl, Below.trans HB3.out (HB5.out.mono (by omega))⟩

set_option maxRecDepth 100000 in
theorem lifted (os : Os) (started : os.Started) (H : Type) (enc : TypeId × Value → H) :
    ReturnsInHanded {} Try.checked os 4 .any (Rows.msgOfSpec.pre6 enc Try.prog Try.f4 Rows.msgOfRow.domain false) (Rows.msgOfSpec.post enc Try.prog Try.f4 false true false false) := by
  refine returnsInHanded_of_change_sized (C := Try.checked) own started (by kernel_rfl) Try.func4
    (ChangeSpec.witness6 (enc := enc) (C := Try.checked) false ⟨#[], #[.agg #[.int .u8 0, .slice none 0 0]], []⟩ 8 (by kernel_rfl) (by kernel_rfl) (by kernel_rfl) (by kernel_rfl)) ?_
  intro W base args ds gs before hval0 hW hcnd hsz0 _
  have hval : ∀ (j : Nat) t v, Try.f4.params[j]? = some t → args[j]? = some v → Value.okWide Try.prog W .any base t v := hval0
  have hW' := hW
  obtain ⟨p, q, hA0, hV, rfl, hfz, hnd⟩ := hW
  have hsz : (DataW.weightsEach Try.prog (Try.f4.params.toList ++ Rows.msgOfSpec.plain.varTypes Try.prog) (ds ++ gs)).all (· ≤ reachBytes) = true := hsz0
  have hA : DataW.TrodAll enc Try.prog W 0 (fun _ => true) true Try.f4.params.toList args.toList ds p := hA0
  rw [Try.params4] at hA hval hsz
  obtain ⟨v0, vs0, d0, ds0, p0, q0, hargs, rfl, rfl, h0, r0⟩ := trodAll_cons hA
  obtain ⟨rfl, rfl, rfl⟩ := trodAll_nil r0
  obtain rfl : args = #[v0] := by cases args; simp_all
  obtain ⟨rfl, rfl⟩ := trodVars_none hV
  have k0 := h0
  have lt0 : ∀ x ∈ p0, x.block < W.heap.size := by obtain ⟨m, hm⟩ := k0; exact DataW.trod_lt m _ _ _ hm
  obtain ⟨K0, a0, len0, cap0, T0, rfl, w0, g0⟩ := open_frame (hval 0 31 v0 rfl rfl) h0 (fits_of hsz (j := 0) rfl rfl)
  clear hA0 hval0 hsz hsz0
  refine (walk K0 a0 len0 cap0 T0 W w0 g0).mono fun e W' ⟨he, bel⟩ => ?_
  subst he
  exact ⟨_, rfl, _, _, _, [], _, [], hW', trodAll_mk1 (shut_bool Try.underlying4 _), (trodAll_cons_mk (Below.trod laidOut (by kernel_rfl) (of_decide_eq_true (by kernel_rfl)) k0 bel lt0) trodAll_mk0), rfl, bel.frame _, fun h => by cases h⟩

theorem over : Rows.msgOfRow.holds Try.pinned (OpenSpec.ofChange Rows.msgOfSpec) :=
  OpenClaim.holds_of_wide 4 Try.f4 rfl rfl rfl rfl rfl rfl rfl ⟨rfl, rfl, rfl, rfl, rfl⟩ rfl rfl rfl rfl rfl (by kernel_rfl) Try.func4 (by kernel_rfl)
    (of_decide_eq_true (by kernel_rfl)) (by unfold Func.isWrapper; first | (rw [if_pos (by decide +kernel)]; kernel_rfl) | (rw [if_neg (by decide +kernel)]; exact ⟨rfl, rfl⟩))
    (fun os started H enc _ => lifted os started H enc)

end Go.Proofs.Ytbnpamhmippdbaa.msgOf
namespace Go.Proofs.Ytbnpamhmippdbaa
theorem msgOf_holds : Rows.MsgOfSaid := msgOf.over
#print axioms msgOf_holds
end Go.Proofs.Ytbnpamhmippdbaa
